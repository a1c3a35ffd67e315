import PyProof.Rows.All
import Wide.All
import OpenK.AllK
import Wide.FinOn
import Lean
import PyProof.EqAt
import PyProof.EqKinds
import PyProof.TupleCall
import KE.KRevIter
import KE.KTryMore
import PyProof.StrCalls6
import PyProof.ToksMono
import PyProof.NeKinds
import PyProof.Rows.InDataRows
import PyProof.Rows.StrStrike
import PyProof.ListRange
import PyProof.AutoSeq1
import PySem.Challenge.RW_weighwalk_k61_sets
set_option Elab.async false
set_option linter.all false
set_option maxRecDepth 100000
/-! THE HAND LAYER, for ints, bools, texts, own classes, LISTS and tuples (index, slices, in, append, pop ..), calls, loops. Paste it whole ahead of your own text; what your proof does not reach may be deleted. -/
namespace L2
open PySem PySem.Spec PyProof.Rows

/-- a key: an int or a str -/
abbrev Key := Sum Int Str
def keyIs : Key → Value → Bool
  | .inl k, v => Value.isInt k v
  | .inr x, v => Value.isStrOf x v
def keyH (w : World) : Key → Int
  | .inl k => hashInt k
  | .inr x => hashStr w x
theorem keyIs_shape : ∀ {k : Key} {v : Value}, keyIs k v = true → (∃ i t, k = Sum.inl i ∧ v = Value.int i t) ∨ (∃ x t, k = Sum.inr x ∧ v = Value.str x t)
  | .inl i, v, h => by
    obtain ⟨t, e⟩ := Value.isInt_shape (k := i) (v := v) h
    exact .inl ⟨i, t, rfl, e⟩
  | .inr x, v, h => by
    obtain ⟨t, e⟩ := Value.isStrOf_shape (x := x) (v := v) h
    exact .inr ⟨x, t, rfl, e⟩
theorem keyIs_int (i : Int) (t : Tok) : keyIs (.inl i) (.int i t) = true := by simp [keyIs, Value.isInt]
theorem keyIs_str (x : Str) (t : Tok) : keyIs (.inr x) (.str x t) = true := by simp [keyIs, Value.isStrOf]
theorem key_ll (a b : Int) : decide ((Sum.inl a : Key) = Sum.inl b) = (a == b) := by
  by_cases e : a = b
  · subst e; simp
  · have h : ¬ (Sum.inl a : Key) = Sum.inl b := fun q => e (Sum.inl.inj q)
    rw [decide_eq_false h]
    exact (beq_eq_false_iff_ne.mpr e).symm
theorem key_rr (a b : Str) : decide ((Sum.inr a : Key) = Sum.inr b) = decide (a = b) := by
  by_cases e : a = b
  · subst e; simp
  · have h : ¬ (Sum.inr a : Key) = Sum.inr b := fun q => e (Sum.inr.inj q)
    rw [decide_eq_false h, decide_eq_false e]
theorem key_lr (a : Int) (b : Str) : decide ((Sum.inl a : Key) = Sum.inr b) = false := decide_eq_false (fun q => nomatch q)
theorem key_rl (a : Str) (b : Int) : decide ((Sum.inr a : Key) = Sum.inl b) = false := decide_eq_false (fun q => nomatch q)

def mixKind (prog : Program) (w : World) : PySem.KeyKind prog w Key where
  is := keyIs
  hash := keyH w
  inj := fun v a b ha hb => by
    rcases keyIs_shape ha with ⟨i, t, rfl, rfl⟩ | ⟨x, t, rfl, rfl⟩
    · rcases keyIs_shape hb with ⟨j, u, rfl, e⟩ | ⟨y, u, rfl, e⟩
      · injection e with e1 _; rw [e1]
      · exact nomatch e
    · rcases keyIs_shape hb with ⟨j, u, rfl, e⟩ | ⟨y, u, rfl, e⟩
      · exact nomatch e
      · injection e with e1 _; rw [e1]
  byValue := fun k v h => by
    rcases keyIs_shape h with ⟨i, t, rfl, rfl⟩ | ⟨x, t, rfl, rfl⟩ <;> rfl
  pyHash := fun hv h => by
    rcases keyIs_shape hv with ⟨i, t, rfl, rfl⟩ | ⟨x, t, rfl, rfl⟩
    · exact wpAny_pyHash_int h
    · exact wpAny_pyHash_str h
  eqBool := fun hu hv h => by
    rcases keyIs_shape hu with ⟨i, t, rfl, rfl⟩ | ⟨x, t, rfl, rfl⟩
    · rcases keyIs_shape hv with ⟨j, u, rfl, rfl⟩ | ⟨y, u, rfl, rfl⟩
      · rw [key_ll] at h; exact wpAny_eqBool_int h
      · rw [key_lr] at h; exact SeqAt.EqAt.int_str i t y u _ _ _ _ h
    · rcases keyIs_shape hv with ⟨j, u, rfl, rfl⟩ | ⟨y, u, rfl, rfl⟩
      · rw [key_rl] at h; exact SeqAt.EqAt.str_int x t j u _ _ _ _ h
      · rw [key_rr] at h; exact wpAny_eqBool_str h
  «strs» := fun k x t v h => by
    rcases keyIs_shape h with ⟨i, u, rfl, e⟩ | ⟨y, u, rfl, e⟩
    · exact nomatch e
    · injection e with e1 _
      subst e1
      cases v <;> rfl

theorem mixKind_is (prog : Program) (w : World) (k : Key) (v : Value) : (mixKind prog w).is k v = keyIs k v := rfl
theorem mixKind_int (prog : Program) (w : World) (i : Int) (t : Tok) : (mixKind prog w).is (.inl i) (.int i t) = true := keyIs_int i t
theorem mixKind_str (prog : Program) (w : World) (x : Str) (t : Tok) : (mixKind prog w).is (.inr x) (.str x t) = true := keyIs_str x t
end L2

namespace L2
open PySem PySem.Spec PyProof.Rows

/-- a value, without the heap -/
inductive V where
  | non | bl (b : Bool) | int (i : Int) | str (x : Str) | byt (b : Array UInt8) | flt (b : UInt64) | ref (a : Addr) | ty (n : String)
  deriving DecidableEq

def RelV : V → Value → Prop
  | .non, u => u = Value.none
  | .bl b, u => u = Value.bool b
  | .int i, u => ∃ t, u = Value.int i t
  | .str x, u => ∃ t, u = Value.str x t
  | .byt b, u => ∃ t, u = Value.bytes b t
  | .flt b, u => ∃ t, u = Value.float b t
  | .ref a, u => u = Value.ref a
  | .ty n, u => u = Value.type n

abbrev Vals : List V → List Value → Prop := Paired RelV
theorem Vals.length {xs : List V} {us : List Value} (r : Vals xs us) : xs.length = us.length := Paired.length r
theorem Vals.get : ∀ {xs : List V} {us : List Value} {i : Nat} {x : V}, Vals xs us → xs[i]? = some x → ∃ u, us[i]? = some u ∧ RelV x u
  | _, _, _, _, .nil, e => by simp at e
  | _, _, 0, _, .cons r _, e => by simp at e; subst e; exact ⟨_, rfl, r⟩
  | _, _, i + 1, x, .cons _ t, e => by
    obtain ⟨u, h1, h2⟩ := Vals.get (i := i) (x := x) t (by simpa using e)
    exact ⟨u, by simpa using h1, h2⟩
theorem Vals.set {x : V} {u : Value} (r : RelV x u) : ∀ {xs : List V} {us : List Value} (i : Nat), Vals xs us → Vals (xs.set i x) (us.set i u)
  | _, _, _, .nil => .nil
  | _, _, 0, .cons _ t => .cons r t
  | _, _, i + 1, .cons q t => .cons q (Vals.set r i t)
theorem Vals.append : ∀ {xs ys : List V} {us ws : List Value}, Vals xs us → Vals ys ws → Vals (xs ++ ys) (us ++ ws)
  | _, _, _, _, .nil, s => s
  | _, _, _, _, .cons r t, s => .cons r (Vals.append t s)
theorem Vals.take : ∀ {xs : List V} {us : List Value} (n : Nat), Vals xs us → Vals (xs.take n) (us.take n)
  | _, _, 0, _ => .nil
  | _, _, _ + 1, .nil => .nil
  | _, _, n + 1, .cons r t => .cons r (Vals.take n t)
theorem Vals.drop : ∀ {xs : List V} {us : List Value} (n : Nat), Vals xs us → Vals (xs.drop n) (us.drop n)
  | _, _, 0, r => r
  | _, _, _ + 1, .nil => .nil
  | _, _, n + 1, .cons _ t => Vals.drop n t
theorem Vals.none_of : ∀ {xs : List V} {us : List Value} {i : Nat}, Vals xs us → xs[i]? = none → us[i]? = none := fun {xs us i} r e => by
  have h1 := r.length
  have h2 : xs.length ≤ i := List.getElem?_eq_none_iff.mp e
  exact List.getElem?_eq_none_iff.mpr (by omega)

def RelO : Option V → Option Value → Prop
  | some v, some u => RelV v u
  | none, none => True
  | _, _ => False
def KV {κ : Type} : List (κ × V) → List (κ × Value) → Prop := Paired fun (p : κ × V) (q : κ × Value) => p.1 = q.1 ∧ RelV p.2 q.2

/-- a key of a dict (00_mix): an int or a text -/
def kV : Key → V
  | .inl i => .int i
  | .inr x => .str x

/-- what stands at a tracked address -/
inductive HO where
  /-- a list -/
  | lst (xs : List V)
  /-- a tuple (never changes) -/
  | tup (xs : List V)
  /-- a dict whose keys are ints and texts; one whose keys are tuples of ints and texts (the empty one is both) -/
  | dK (kvs : List (Key × V)) | dT (kvs : List (List Key × V))
  /-- a set of ints: its members, its size -/
  | set (S : Int → Bool) (n : Nat)
  /-- an instance of the class at C, its dict at dx, its attributes -/
  | ins (C dx : Addr) (fs : List (Str × V))
  /-- the dict of the instance at x -/
  | own (x : Addr)
  /-- the dict of an exception -/
  | xd (fs : List (Str × V))
  /-- a bound method, f of x -/
  | met (f x : Addr)
  /-- a range object lo, lo + 1, .. below hi -/
  | rng (lo hi : Int)
  /-- a thing that is known to the object (the script; a dict while a loop walks it): read, never written while it is so -/
  | frz (o : Obj) (u : HO)
  /-- a code object's table -/
  | tbl (ps : Array Value)
  /-- any other thing, by what is true of its one object (a def of one's own: SetO a S n := HO.ext fun h => ..) -/
  | ext (φ : Heap → Prop)

abbrev Hp := Addr → Option HO
def upd (H : Hp) (a : Addr) (o : HO) : Hp := fun b => if b = a then some o else H b
theorem upd_same {H : Hp} {a : Addr} {o : HO} : upd H a o a = some o := by unfold upd; rw [if_pos rfl]
theorem upd_ne {H : Hp} {a b : Addr} {o : HO} (h : b ≠ a) : upd H a o b = H b := by unfold upd; rw [if_neg h]
theorem upd_upd {H : Hp} {a : Addr} {o u : HO} : upd (upd H a o) a u = upd H a u := by
  funext b; unfold upd; split <;> rfl
/-- two objects of different content stand apart -/
theorem ne_of {H : Hp} {a b : Addr} {o u : HO} (h : H a = some o) (h' : H b = some u) (d : o ≠ u) : a ≠ b := by
  intro e; subst e; rw [h] at h'; exact d (Option.some.inj h')
theorem ne_of_none {H : Hp} {a b : Addr} {o : HO} (h : H a = some o) (h' : H b = none) : a ≠ b := by
  intro e; subst e; rw [h] at h'; cases h'

section
variable (P : Program) (w : World)
def ObjOk (H : Hp) (h : Heap) (a : Addr) : HO → Prop
  | .lst xs => xs.length ≤ sizeLine ∧ ∃ (its : List Value) (n : Nat), Vals xs its ∧ h.get? a = some { cls := .type "list", data := .seq its.toArray n }
  | .tup xs => xs.length ≤ sizeLine ∧ ∃ its : List Value, Vals xs its ∧ IsTup h a its.toArray
  | .dK kvs => kvs.length ≤ sizeLine ∧ (a == sysModules) = false ∧ ∃ vs, KV kvs vs ∧ h.DictOf (mixKind P w) a vs
  | .dT kvs => kvs.length ≤ sizeLine ∧ (a == sysModules) = false ∧ ∃ xs : List (List Key × Addr × Value),
      Paired (fun (p : List Key × V) (q : List Key × Addr × Value) => p.1 = q.1 ∧ H q.2.1 = some (.tup (p.1.map kV)) ∧ RelV p.2 q.2.2) kvs xs ∧
      ∃ o es ep, h.get? a = some o ∧ o.ExactDict ∧ o.data = .dict es ep ∧ es.toList = xs.map (entryOfKey (tupleKind (mixKind P w))) ∧ (xs.map (·.1)).Nodup
  | .set S n => h.SetOf (intKind P w) a S n
  | .ins C dx fs => H dx = some (.own a) ∧ fs.length ≤ 1000 ∧ dx ≠ a ∧ h.get? a = some (PySem.W.instObj C dx) ∧
      ∃ mA, h.Ns1 dx mA ∧ (∀ f, RelO (fs.lookup f) (mA f)) ∧ PySem.Within mA (fs.map (·.1))
  | .own _ => ∃ o, h.get? a = some o
  | .xd fs => ∃ mA, h.Ns1 a mA ∧ ∀ f, RelO (fs.lookup f) (mA f)
  | .rng lo hi => ∃ t u v, h.get? a = some { cls := .type "range", data := .fields #[.int lo t, .int hi u, .int 1 v] }
  | .frz o u => h.get? a = some o ∧ ObjOk H h a u
  | .tbl ps => h.get? a = some { cls := .none, data := .fields ps }
  | .met f x => h.get? a = some (PySem.W.methodObj (.ref f) (.ref x))
  | .ext φ => φ h ∧ (∃ o, h.get? a = some o) ∧ ∀ h1 h2 : Heap, φ h1 → (∀ o, h1.get? a = some o → h2.get? a = some o) → φ h2
/-- the abstract heap is held -/
def HOk (H : Hp) (h : Heap) : Prop := ∀ a o, H a = some o → ObjOk P w H h a o
end

section
variable {P : Program} {w : World} {H H' : Hp} {h h' : Heap} {a : Addr} {o : HO}
theorem ObjOk.lt (x : ObjOk P w H h a o) : a < h.objs.size := by
  cases o with
  | lst xs => obtain ⟨_, _, _, _, e⟩ := x; exact Heap.lt_size e
  | tup xs => obtain ⟨_, _, _, p⟩ := x; exact p.lt
  | dK kvs => obtain ⟨_, _, _, _, o, _, _, e, _⟩ := x; exact Heap.lt_size e
  | dT kvs => obtain ⟨_, _, _, _, o, _, _, e, _⟩ := x; exact Heap.lt_size e
  | set S n => obtain ⟨o, _, _, _, e, _⟩ := x; exact Heap.lt_size e
  | ins C dx fs => obtain ⟨_, _, _, e, _⟩ := x; exact Heap.lt_size e
  | own y => obtain ⟨_, e⟩ := x; exact Heap.lt_size e
  | xd fs => obtain ⟨_, ⟨_, _, _, e, _⟩, _⟩ := x; exact Heap.lt_size e
  | rng lo hi => obtain ⟨_, _, _, e⟩ := x; exact Heap.lt_size e
  | frz ob u => obtain ⟨e, _⟩ := x; exact Heap.lt_size e
  | tbl ps => exact Heap.lt_size (show h.get? a = some _ from x)
  | met f y => exact Heap.lt_size (show h.get? a = some _ from x)
  | ext φ => obtain ⟨_, ⟨_, e⟩, _⟩ := x; exact Heap.lt_size e
theorem Paired.mapP {α β : Type} {F G : α → β → Prop} : ∀ {l₁ : List α} {l₂ : List β}, Paired F l₁ l₂ → (∀ a b, F a b → G a b) → Paired G l₁ l₂
  | _, _, .nil, _ => .nil
  | _, _, .cons r t, f => .cons (f _ _ r) (Paired.mapP t f)
theorem Paired.imp' {α β : Type} {F G : α → β → Prop} (f : ∀ a b, F a b → G a b) {l₁ : List α} {l₂ : List β} (r : Paired F l₁ l₂) : Paired G l₁ l₂ := Paired.mapP r f
/-- what an object's description leans on: its own object, its own dict, the tuples -/
theorem ObjOk.stay (x : ObjOk P w H h a o) (k : ∀ b u, (b = a ∨ H b = some (.own a)) → h.get? b = some u → h'.get? b = some u)
    (ho : ∀ b, H b = some (.own a) → H' b = some (.own a)) (ht : ∀ b xs, H b = some (.tup xs) → H' b = some (.tup xs)) : ObjOk P w H' h' a o := by
  induction o with
  | lst xs => obtain ⟨z, its, n, r, e⟩ := x; exact ⟨z, its, n, r, k _ _ (.inl rfl) e⟩
  | tup xs => obtain ⟨z, its, r, ob, e, c⟩ := x; exact ⟨z, its, r, ob, k _ _ (.inl rfl) e, c⟩
  | dK kvs => obtain ⟨z, y, vs, r, ob, es, ep, e, c⟩ := x; exact ⟨z, y, vs, r, ob, es, ep, k _ _ (.inl rfl) e, c⟩
  | dT kvs =>
    obtain ⟨z, y, xs, r, ob, es, ep, e, c⟩ := x
    exact ⟨z, y, xs, Paired.mapP r fun p q z => ⟨z.1, ht _ _ z.2.1, z.2.2⟩, ob, es, ep, k _ _ (.inl rfl) e, c⟩
  | set S n => obtain ⟨ob, es, ep, t, e, c⟩ := x; exact ⟨ob, es, ep, t, k _ _ (.inl rfl) e, c⟩
  | ins C dx fs =>
    obtain ⟨d, z, ne, e, mA, ⟨od, es, ep, e2, c⟩, r⟩ := x
    exact ⟨ho _ d, z, ne, k _ _ (.inl rfl) e, mA, ⟨od, es, ep, k _ _ (.inr d) e2, c⟩, r⟩
  | own y => obtain ⟨ob, e⟩ := x; exact ⟨ob, k _ _ (.inl rfl) e⟩
  | xd fs => obtain ⟨mA, ⟨od, es, ep, e, c⟩, r⟩ := x; exact ⟨mA, ⟨od, es, ep, k _ _ (.inl rfl) e, c⟩, r⟩
  | rng lo hi => obtain ⟨t, u, v, e⟩ := x; exact ⟨t, u, v, k _ _ (.inl rfl) e⟩
  | frz ob u ih => obtain ⟨e, q⟩ := x; exact ⟨k _ _ (.inl rfl) e, ih q⟩
  | tbl ps =>
    have e : h.get? a = some { cls := .none, data := .fields ps } := x
    show h'.get? a = some { cls := .none, data := .fields ps }
    exact k a _ (.inl rfl) e
  | met f y =>
    have e : h.get? a = some (PySem.W.methodObj (.ref f) (.ref y)) := x
    show h'.get? a = some (PySem.W.methodObj (.ref f) (.ref y))
    exact k a _ (.inl rfl) e
  | ext φ => obtain ⟨p, ⟨o, e⟩, st⟩ := x; exact ⟨st _ _ p fun o q => k _ _ (.inl rfl) q, ⟨o, k _ _ (.inl rfl) e⟩, st⟩
theorem HOk.lt (x : HOk P w H h) (e : H a = some o) : a < h.objs.size := (x a o e).lt
theorem HOk.fresh (x : HOk P w H h) (e : h.objs.size ≤ a) : H a = none := by
  cases q : H a with
  | none => rfl
  | some u => exact absurd (Nat.lt_of_lt_of_le (x.lt q) e) (Nat.lt_irrefl _)
/-- every object of the heap is kept -/
theorem HOk.kept (x : HOk P w H h) (k : ∀ b u, h.get? b = some u → h'.get? b = some u) : HOk P w H h' := fun a o e =>
  (x a o e).stay (fun b u _ q => k b u q) (fun _ q => q) fun _ _ q => q
/-- a new object is laid and tracked -/
theorem HOk.laid (x : HOk P w H h) (k : ∀ b u, h.get? b = some u → h'.get? b = some u) (hp : h.objs.size ≤ a) (new : ObjOk P w (upd H a o) h' a o) : HOk P w (upd H a o) h' := fun b u e => by
  have hn := x.fresh hp
  by_cases hb : b = a
  · subst hb; rw [upd_same] at e; cases e; exact new
  · rw [upd_ne hb] at e
    exact (x b u e).stay (fun c v _ q => k c v q) (fun c q => by rw [upd_ne (ne_of_none q hn)]; exact q) fun c xs q => by rw [upd_ne (ne_of_none q hn)]; exact q
end

/-- what may be read as u: it is u, or a known u -/
def Rd (H : Hp) (a : Addr) (u : HO) : Prop := H a = some u ∨ ∃ o, H a = some (.frz o u)
theorem Rd.of {H : Hp} {a : Addr} {u : HO} (h : H a = some u) : Rd H a u := .inl h
theorem Rd.ok {P : Program} {w : World} {H : Hp} {h : Heap} {a : Addr} {u : HO} (r : Rd H a u) (x : HOk P w H h) : ObjOk P w H h a u := by
  rcases r with r | ⟨o, r⟩
  · exact x a u r
  · obtain ⟨_, q⟩ := x a _ r
    exact q
/-- what may be written -/
def Mut : Option HO → Prop
  | some (.lst _) => True
  | some (.dK _) => True
  | some (.dT _) => True
  | some (.set _ _) => True
  | some (.ins _ _ _) => True
  | some (.ext _) => True
  | _ => False
section
variable {P : Program} {w : World} {H : Hp} {h h' : Heap} {x e : Addr} {o' : HO}
/-- the object at e is changed: x itself, or the dict of the instance x -/
theorem HOk.write (ok : HOk P w H h) (mu : Mut (H x)) (he : e = x ∨ H e = some (.own x)) (k : ∀ b u, b ≠ e → h.get? b = some u → h'.get? b = some u) (heo : ∃ u, h'.get? e = some u)
    (new : ObjOk P w (upd H x o') h' x o') : HOk P w (upd H x o') h' := fun b u q => by
  have nown : ∀ c y, H c = some (.own y) → c ≠ x := fun c y r z => by subst z; rw [r] at mu; exact mu
  have ntup : ∀ c xs, H c = some (.tup xs) → c ≠ x := fun c xs r z => by subst z; rw [r] at mu; exact mu
  by_cases hb : b = x
  · subst hb; rw [upd_same] at q; cases q; exact new
  · rw [upd_ne hb] at q
    by_cases hbe : b = e
    · have q' : H b = some (.own x) := by
        rcases he with z | z
        · exact absurd (hbe.trans z) hb
        · rw [hbe]; exact z
      rw [q] at q'; cases q'
      obtain ⟨v, hv⟩ := heo
      exact ⟨v, by rw [hbe]; exact hv⟩
    · refine (ok b u q).stay (fun c v hc r => k c v ?_ r) (fun c r => by rw [upd_ne (nown c b r)]; exact r) fun c xs r => by rw [upd_ne (ntup c xs r)]; exact r
      rcases hc with rfl | hc
      · exact hbe
      · rintro rfl
        rcases he with z | z
        · exact nown c b hc z
        · rw [hc] at z; cases z; exact hb rfl
end

/-! ### kept unless tracked; of the frames at fs (the callers') the slots may change (an exception that passes writes there); of the records at ex (iterators) nothing is said -/
structure Un (fs ex : List Addr) (H H' : Hp) (h h' : Heap) : Prop where
  keep : ∀ b o, h.get? b = some o → H b = none → b ∉ fs → b ∉ ex → h'.get? b = some o
  slot : ∀ b o, h.get? b = some o → H b = none → b ∈ fs → b ∉ ex → ∃ sl, h'.get? b = some { o with slots := sl }
  free : ∀ b o, h.get? b = some o → H b = none → b ∉ ex → H' b = none
  there : ∀ b o, h.get? b = some o → b ∉ ex → ∃ o', h'.get? b = some o'
  tups : ∀ b xs, H b = some (.tup xs) → H' b = some (.tup xs)
  frzs : ∀ b o u, H b = some (.frz o u) → H' b = some (.frz o u)
  tbls : ∀ b ps, H b = some (.tbl ps) → ∃ more, H' b = some (.tbl (ps ++ more))
section
variable {fs fs' ex ex' : List Addr} {H H1 H2 : Hp} {h h1 h2 h' : Heap} {a x e : Addr} {o : HO}
theorem Un.any (u : Un fs ex H H1 h h1) {b : Addr} {ob : Obj} (q : h.get? b = some ob) (n : H b = none) (hx : b ∉ ex) : ∃ sl, h1.get? b = some { ob with slots := sl } := by
  by_cases hb : b ∈ fs
  · exact u.slot b ob q n hb hx
  · exact ⟨ob.slots, u.keep b ob q n hb hx⟩
theorem Un.trans (a : Un fs ex H H1 h h1) (b : Un fs ex H1 H2 h1 h2) : Un fs ex H H2 h h2 where
  keep := fun c ob q n hc hx => b.keep c ob (a.keep c ob q n hc hx) (a.free c ob q n hx) hc hx
  slot := fun c ob q n hc hx => by
    obtain ⟨sl, e1⟩ := a.slot c ob q n hc hx
    obtain ⟨sl', e2⟩ := b.slot c _ e1 (a.free c ob q n hx) hc hx
    exact ⟨sl', e2⟩
  free := fun c ob q n hx => by
    obtain ⟨o', e1⟩ := a.there c ob q hx
    exact b.free c o' e1 (a.free c ob q n hx) hx
  there := fun c ob q hx => by
    obtain ⟨o', e1⟩ := a.there c ob q hx
    exact b.there c o' e1 hx
  tups := fun c xs q => b.tups c xs (a.tups c xs q)
  frzs := fun c ob xs q => b.frzs c ob xs (a.frzs c ob xs q)
  tbls := fun c ps q => by
    obtain ⟨m1, e1⟩ := a.tbls c ps q
    obtain ⟨m2, e2⟩ := b.tbls c _ e1
    exact ⟨m1 ++ m2, by rw [e2, Array.append_assoc]⟩
theorem Un.kept (k : ∀ b u, h.get? b = some u → h'.get? b = some u) : Un fs ex H H h h' :=
  ⟨fun b ob q _ _ _ => k b ob q, fun b ob q _ _ _ => ⟨ob.slots, k b ob q⟩, fun _ _ _ n _ => n, fun b ob q _ => ⟨ob, k b ob q⟩, fun _ _ q => q, fun _ _ _ q => q, fun _ ps q => ⟨#[], by rw [q]; simp⟩⟩
theorem Un.refl : Un fs ex H H h h := Un.kept fun _ _ q => q
theorem Un.laid (k : ∀ b u, h.get? b = some u → h'.get? b = some u) (hp : h.objs.size ≤ a) (hn : H a = none) : Un fs ex H (upd H a o) h h' where
  keep := fun b u q _ _ _ => k b u q
  slot := fun b u q _ _ _ => ⟨u.slots, k b u q⟩
  free := fun b u q n _ => by rw [upd_ne (Nat.ne_of_lt (Nat.lt_of_lt_of_le (Heap.lt_size q) hp))]; exact n
  there := fun b u q _ => ⟨u, k b u q⟩
  tups := fun b xs q => by rw [upd_ne (ne_of_none q hn)]; exact q
  frzs := fun b u xs q => by rw [upd_ne (ne_of_none q hn)]; exact q
  tbls := fun b ps q => ⟨#[], by rw [upd_ne (ne_of_none q hn), q]; simp⟩
theorem Un.write (mu : Mut (H x)) (he : e = x ∨ H e = some (.own x)) (k : ∀ b u, b ≠ e → h.get? b = some u → h'.get? b = some u) (heo : ∃ u, h'.get? e = some u) : Un fs ex H (upd H x o) h h' := by
  have hx : ∀ b, H b = none → b ≠ x := fun b n z => by subst z; rw [n] at mu; exact mu
  have hb : ∀ b, H b = none → b ≠ e := fun b n z => by
    subst z
    rcases he with r | r
    · exact hx b n r
    · rw [n] at r; cases r
  have hm : ∀ b u, H b = some u → ¬ Mut (some u) → b ≠ x := fun b u q nm z => by subst z; rw [q] at mu; exact nm mu
  refine ⟨fun b u q n _ _ => k b u (hb b n) q, fun b u q n _ _ => ⟨u.slots, k b u (hb b n) q⟩, fun b u q n _ => by rw [upd_ne (hx b n)]; exact n, fun b u q _ => ?_,
    fun b xs q => by rw [upd_ne (hm b _ q fun z => z)]; exact q, fun b u xs q => by rw [upd_ne (hm b _ q fun z => z)]; exact q, fun b ps q => ⟨#[], by rw [upd_ne (hm b _ q fun z => z), q]; simp⟩⟩
  by_cases hbe : b = e
  · subst hbe; exact heo
  · exact ⟨u, k b u hbe q⟩
theorem Un.mono (u : Un fs ex H H1 h h1) (hs : ∀ b ∈ fs, b ∈ fs') (hx : ∀ b ∈ ex, b ∈ ex') : Un fs' ex' H H1 h h1 :=
  ⟨fun b ob q n hb he => u.keep b ob q n (fun z => hb (hs b z)) fun z => he (hx b z), fun _ _ q n _ he => u.any q n fun z => he (hx _ z), fun b ob q n he => u.free b ob q n fun z => he (hx b z), fun b ob q he => u.there b ob q fun z => he (hx b z), u.tups, u.frzs, u.tbls⟩
end

/-! ### the heap without what is tracked -/
def trk (h : Heap) (H : Hp) : List Addr := (List.range h.objs.size).filter fun a => (H a).isSome
def hidT (h : Heap) (H : Hp) : Heap := PySem.W.hideAll h (trk h H)
theorem hidT_size (h : Heap) (H : Hp) : (hidT h H).objs.size = h.objs.size := PySem.W.hideAll_size _ _
theorem hidT_get {h : Heap} {H : Hp} {b : Addr} {o : Obj} (e : h.get? b = some o) (n : H b = none) : (hidT h H).get? b = some o :=
  PySem.W.hideAll_get _ e fun hm => by
    have q : (H b).isSome = true := (List.mem_filter.mp hm).2
    rw [n] at q; simp at q
theorem of_hidT {h : Heap} {H : Hp} {b : Addr} {o : Obj} (e : (hidT h H).get? b = some o) : h.get? b = some o ∧ H b = none := by
  have e' : h.get? b = some o := PySem.W.of_hideAll (trk h H) e
  refine ⟨e', ?_⟩
  cases q : H b with
  | none => rfl
  | some x =>
    have hm : b ∈ trk h H := List.mem_filter.mpr ⟨List.mem_range.mpr (Heap.lt_size e'), by simp [q]⟩
    have z : (hidT h H).get? b = none := PySem.W.hideAll_none (trk h H) hm
    rw [z] at e; cases e

/-! ### OpenK's ledger, filled with every new object but one -/
def allNews (g h : Heap) (L : Addr) : List (Addr × Obj) := (List.range h.objs.size).filterMap fun a => if a = L ∨ (g.get? a).isSome = true then none else (h.get? a).map fun o => (a, o)
theorem mem_allNews {g h : Heap} {L a : Addr} {o : Obj} (h1 : a ≠ L) (h2 : g.get? a = none) (h3 : h.get? a = some o) : (a, o) ∈ allNews g h L :=
  List.mem_filterMap.mpr ⟨a, List.mem_range.mpr (Heap.lt_size h3), by simp [h1, h2, h3]⟩
theorem of_mem_allNews {g h : Heap} {L : Addr} {p : Addr × Obj} (hp : p ∈ allNews g h L) : p.1 ≠ L ∧ g.get? p.1 = none ∧ h.get? p.1 = some p.2 := by
  obtain ⟨b, _, e⟩ := List.mem_filterMap.mp hp
  split at e
  · cases e
  · rename_i hn
    cases q : h.get? b with
    | none => rw [q] at e; simp at e
    | some u =>
      rw [q] at e
      simp only [Option.map_some, Option.some.injEq] at e
      subst e
      refine ⟨fun z => hn (.inl z), ?_, q⟩
      show g.get? b = none
      cases r : g.get? b with
      | none => rfl
      | some v => exact (hn (.inr (by simp [r]))).elim
def rest (g h : Heap) (L d : Addr) : List (Addr × Obj) := (allNews g h L).filter fun p => decide (p.1 ≠ d)
theorem rest_ne {g h : Heap} {L d : Addr} : ∀ p ∈ rest g h L d, p.1 ≠ d := fun p hp => of_decide_eq_true (List.mem_filter.mp hp).2
theorem mem_rest {g h : Heap} {L d a : Addr} {o : Obj} (h1 : a ≠ L) (h2 : g.get? a = none) (h3 : h.get? a = some o) (h4 : a ≠ d) : (a, o) ∈ rest g h L d :=
  List.mem_filter.mpr ⟨mem_allNews h1 h2 h3, decide_eq_true h4⟩
theorem news_all {g h : Heap} {L : Addr} : News g L h (allNews g h L) := fun p hp => let ⟨a, b, c⟩ := of_mem_allNews hp; ⟨c, a, b⟩
theorem news_at {g h : Heap} {L d : Addr} {o : Obj} (h1 : d ≠ L) (h2 : g.get? d = none) (h3 : h.get? d = some o) : News g L h ((d, o) :: rest g h L d) := fun p hp => by
  rcases List.mem_cons.mp hp with rfl | hp
  · exact ⟨h3, h1, h2⟩
  · exact news_all p (List.mem_filter.mp hp).1
/-- behind a rule that changed d alone: all else but the frame is kept -/
theorem kept_of_news {g h h' : Heap} {L d : Addr} {m : Str → Option Value} (k : ∀ b o, g.get? b = some o → h.get? b = some o) (F : Fr g L h' m) (N : News g L h' (rest g h L d)) :
    ∀ b o, b ≠ L → b ≠ d → h.get? b = some o → h'.get? b = some o := fun b o h1 h2 e => by
  cases q : g.get? b with
  | some u =>
    have := k b u q
    rw [e] at this; cases this
    exact F.keep b _ q
  | none => exact (N (b, o) (mem_rest h1 q e h2)).1
end L2

namespace L2
open PySem PySem.Spec PyProof.Rows

/-- the module's facts, over the base: the heap at the law's entry without what is tracked there -/
structure Mod (K : PySem.W.Frag) (mg : Str → Option Value) (base : Heap) : Prop where
  kin : K.In base
  glob : base.Ns mainGlobals mg
  blt : ∃ mb, base.Ns builtinsNs mb ∧ ∀ x : Str, x ≠ "__name__" → mb x = bootBuiltins x
  nolimit : base.NoLimit
  seer : base.NoSeer

/-- the context: a def's body (or a comprehension's block) running. base: fixed through the whole law; s₀, H₀: the entry; outer: the frames whose slots others may change (a def's callers); stack: all frames that run;
   ex: iterators that were made ahead of the entry and are walked here (a comprehension's); fn: the names whose cells were made at the entry (a def: all; a comprehension's block: its own); calm: not within an except suite; pn: pins that every state bears; xe: what is wanted of an exception that leaves the code -/
structure Cx where
  prog : Program
  w : World
  K : PySem.W.Frag
  mg : Str → Option Value
  base : Heap
  A : Around
  N : List Str
  s₀ : Shared
  H₀ : Hp
  env : Env
  outer : List Env
  stack : List Env
  ex : List Addr
  fn : Str → Bool
  calm : Bool
  pn : List (Addr × Obj)
  xe : Value → Shared → Prop
/-- the callers' frames -/
def frs (l : List Env) : List Addr := l.filterMap (·.frame)
abbrev Cx.fs (X : Cx) : List Addr := frs X.outer

def Vis (sc : Scope) (x : Str) : Prop := sc.names.lookup x = some .local ∨ sc.names.lookup x = some .cell ∨ sc.names.lookup x = some .free
def Loc (sc : Scope) (x : Str) : Prop := sc.names.lookup x = some .local ∨ sc.names.lookup x = some .cell
def Look (env : Env) (h : Heap) (m : Str → Option Value) (x : Str) (u : Value) : Prop :=
  (env.kindOf x = some .local ∧ m x = some u) ∨ ((env.kindOf x = some .cell ∨ env.kindOf x = some .free) ∧ ∃ c, env.cells.lookup x = some c ∧ h.IsCell c (some u))

structure Cx.Ok (X : Cx) : Prop where
  mod : Mod X.K X.mg X.base
  kind : X.env.scope.kind = .function
  glob : X.env.globals = mainGlobals
  blt : X.env.builtins = builtinsNs
  above : X.s₀.heap.objs.size ≤ X.env.locals
  inj : ∀ x y c, X.env.cells.lookup x = some c → X.env.cells.lookup y = some c → x = y
  has : ∀ x, (X.env.kindOf x = some .cell ∨ X.env.kindOf x = some .free) → ∃ c, X.env.cells.lookup x = some c
  cab : ∀ x c, X.fn x = true → X.env.cells.lookup x = some c → X.s₀.heap.objs.size ≤ c
  hd : X.calm = true → X.A.handled = none
  frames : X.A.frames = some X.stack
  stk : X.stack = X.outer ∨ (X.stack = X.env :: X.outer ∧ X.env.frame = some X.env.locals)
  exf : ∀ b ∈ X.ex, b ≠ X.env.locals ∧ ∀ x c, X.env.cells.lookup x = some c → c ≠ b
  bs : ∀ b o, X.base.get? b = some o → X.s₀.heap.get? b = some o ∧ X.H₀ b = none
  bsz : X.base.objs.size ≤ X.s₀.heap.objs.size
  noex : ∀ b o, X.base.get? b = some o → b ∉ X.ex
  exfs : ∀ b ∈ X.ex, b ∉ X.fs
  funs : X.s₀.heap.FunFrames X.base X.outer
  frf : ∀ b ∈ X.fs, X.H₀ b = none

structure Inv (X : Cx) (pins : List (Addr × Obj)) (σ : List (Option V)) (H : Hp) (s : Shared) : Prop where
  ok : X.Ok
  os : s.os = X.s₀.os
  bare : AllBare s.gens
  base : Un X.fs X.ex X.H₀ H X.s₀.heap s.heap
  loc : ∃ m, s.heap.Ns X.env.locals m ∧ ∀ (i : Nat) (x : Str) (v : V), X.N[i]? = some x → σ[i]? = some (some v) → Vis X.env.scope x → ∃ u, RelV v u ∧ Look X.env s.heap m x u
  cell : ∀ x c, X.env.cells.lookup x = some c → ∃ v, s.heap.IsCell c v
  free : H X.env.locals = none
  freeC : ∀ x c, X.env.cells.lookup x = some c → H c = none
  pin : ∀ p ∈ X.pn ++ pins, s.heap.get? p.1 = some p.2 ∧ H p.1 = none ∧ p.1 ≠ X.env.locals ∧ p.1 ∉ X.fs ∧ ∀ v, p.2.data ≠ .cell v
  hok : HOk X.prog X.w H s.heap
  len : σ.length = X.N.length

section
variable {X : Cx} {pins : List (Addr × Obj)} {σ : List (Option V)} {H H' : Hp} {s : Shared} {h' : Heap}

theorem Cx.Ok.nofr (ok : X.Ok) {b : Addr} {o : Obj} (e : X.base.get? b = some o) : b ∉ X.fs := fun hb => by
  have := (ok.funs.mem hb).1
  rw [e] at this; cases this
theorem Inv.bs (I : Inv X pins σ H s) : ∀ b o, X.base.get? b = some o → s.heap.get? b = some o ∧ H b = none := fun b o e =>
  ⟨I.base.keep b o (I.ok.bs b o e).1 (I.ok.bs b o e).2 (I.ok.nofr e) (I.ok.noex b o e), I.base.free b o (I.ok.bs b o e).1 (I.ok.bs b o e).2 (I.ok.noex b o e)⟩
theorem Inv.bk (I : Inv X pins σ H s) : ∀ b o, X.base.get? b = some o → s.heap.get? b = some o := fun b o e => (I.bs b o e).1
theorem Inv.mod (I : Inv X pins σ H s) : Mod X.K X.mg X.base := I.ok.mod
theorem Inv.kIn (I : Inv X pins σ H s) : X.K.In s.heap := I.ok.mod.kin.keeps I.bk
theorem Inv.nolimit (I : Inv X pins σ H s) : s.heap.NoLimit := I.ok.mod.nolimit.keeps I.bk
/-- the frame over the base: for OpenK's rules (K.In X.base is I.mod.kin) -/
theorem Inv.fr (I : Inv X pins σ H s) : ∃ m, Fr X.base X.env.locals s.heap m :=
  let ⟨m, hn, _⟩ := I.loc
  ⟨m, hn, I.bk, Nat.le_trans I.ok.bsz I.ok.above⟩
theorem Inv.lt (I : Inv X pins σ H s) : X.env.locals < s.heap.objs.size := let ⟨_, hn, _⟩ := I.loc; hn.lt
theorem Inv.sz (I : Inv X pins σ H s) : X.s₀.heap.objs.size ≤ s.heap.objs.size := Nat.le_trans I.ok.above (Nat.le_of_lt I.lt)
theorem Inv.nofs (I : Inv X pins σ H s) {a : Addr} (h : s.heap.objs.size ≤ a) : a ∉ X.fs := fun hb => by
  obtain ⟨_, o, ho, _⟩ := I.ok.funs.mem hb
  exact absurd (Nat.lt_of_lt_of_le (Heap.lt_size ho) (Nat.le_trans I.sz h)) (Nat.lt_irrefl _)
theorem Inv.cne (I : Inv X pins σ H s) : ∀ x c, X.env.cells.lookup x = some c → c ≠ X.env.locals := fun x c e z => by
  obtain ⟨v, o, ho, hd⟩ := I.cell x c e
  obtain ⟨m, ⟨o', es, ep, ho', hd', _⟩, _⟩ := I.loc
  rw [z, ho'] at ho; cases ho; rw [hd'] at hd; cases hd
theorem Inv.funs (I : Inv X pins σ H s) : s.heap.FunFrames X.base X.outer := by
  have all : ∀ (l : List Env), (∀ b ∈ frs l, b ∈ X.fs) → X.s₀.heap.FunFrames X.base l → s.heap.FunFrames X.base l := by
    intro l
    induction l with
    | nil => intro _ _; trivial
    | cons env r ih =>
      intro hs hl
      obtain ⟨hk, ⟨L, o, hf, hn, ho, hd⟩, hr⟩ := hl
      have hL : L ∈ X.fs := hs L (by unfold frs; rw [List.filterMap_cons, hf]; exact List.mem_cons_self)
      obtain ⟨sl, e⟩ := I.base.slot L o ho (I.ok.frf L hL) hL fun z => I.ok.exfs L z hL
      exact ⟨hk, ⟨L, _, hf, hn, e, hd⟩, ih (fun b hb => hs b (by unfold frs; rw [List.filterMap_cons, hf]; exact List.mem_cons_of_mem _ hb)) hr⟩
  exact all X.outer (fun _ hb => hb) I.ok.funs

/-- the frames that run, for a call -/
theorem Inv.stack (I : Inv X pins σ H s) : s.heap.FunFrames X.base X.stack := by
  rcases I.ok.stk with e | ⟨e, hf⟩
  · rw [e]; exact I.funs
  · rw [e]
    obtain ⟨m, hn, _⟩ := I.loc
    refine .cons (by rw [I.ok.kind]; decide) hf hn ?_ I.funs
    exact Heap.get?_none_of_le (Nat.le_trans I.ok.bsz I.ok.above)
theorem Inv.stkSub (I : Inv X pins σ H s) : ∀ b ∈ frs X.stack, b ∈ X.env.locals :: X.fs := fun b hb => by
  rcases I.ok.stk with e | ⟨e, hf⟩
  · rw [e] at hb; exact List.mem_cons_of_mem _ hb
  · rw [e] at hb
    unfold frs at hb
    rw [List.filterMap_cons, hf] at hb
    exact hb
theorem Inv.stkFree (I : Inv X pins σ H s) : ∀ b ∈ frs X.stack, H b = none := fun b hb => by
  rcases List.mem_cons.mp (I.stkSub b hb) with e | hb
  · rw [e]; exact I.free
  · obtain ⟨_, o, ho, _⟩ := I.ok.funs.mem hb
    exact I.base.free b o ho (I.ok.frf b hb) fun z => I.ok.exfs b z hb

/-- THE STEP: the untracked objects but the frame and the records at ch are kept (the callers' frames up to slots), the frame's map is kept, the new abstract heap is held -/
theorem Inv.step {g' : Array GenState} {t' : Nat} {d' : Drawn} {ch : List Addr} (I : Inv X pins σ H s)
    (hch : ∀ b ∈ ch, (b ∈ X.ex ∨ X.s₀.heap.objs.size ≤ b) ∧ b ≠ X.env.locals ∧ (∀ x c, X.env.cells.lookup x = some c → c ≠ b) ∧ ∀ p ∈ X.pn ++ pins, p.1 ≠ b)
    (keep : ∀ b o, b ≠ X.env.locals → b ∉ X.fs → b ∉ ch → s.heap.get? b = some o → H b = none → h'.get? b = some o)
    (slot : ∀ b o, b ≠ X.env.locals → b ∈ X.fs → b ∉ ch → s.heap.get? b = some o → H b = none → ∃ sl, h'.get? b = some { o with slots := sl }) (free : ∀ b o, b ∉ ch → s.heap.get? b = some o → H b = none → H' b = none)
    (there : ∀ b o, b ∉ ch → s.heap.get? b = some o → ∃ o', h'.get? b = some o')
    (tups : ∀ b xs, H b = some (.tup xs) → H' b = some (.tup xs)) (frzs : ∀ b o u, H b = some (.frz o u) → H' b = some (.frz o u)) (tbls : ∀ b ps, H b = some (.tbl ps) → ∃ more, H' b = some (.tbl (ps ++ more)))
    (ns : ∀ m, s.heap.Ns X.env.locals m → h'.Ns X.env.locals m) (hok : HOk X.prog X.w H' h') (hg : AllBare g') :
    Inv X pins σ H' { s with heap := h', gens := g', drawn := d', toks := t' } := by
  have neL : ∀ b o, X.s₀.heap.get? b = some o → b ≠ X.env.locals := fun b o e => Nat.ne_of_lt (Nat.lt_of_lt_of_le (Heap.lt_size e) I.ok.above)
  have neC : ∀ b o, X.s₀.heap.get? b = some o → b ∉ X.ex → b ∉ ch := fun b o e hx hb => by
    rcases (hch b hb).1 with z | z
    · exact hx z
    · exact absurd (Nat.lt_of_lt_of_le (Heap.lt_size e) z) (Nat.lt_irrefl _)
  have cellK : ∀ x c, X.env.cells.lookup x = some c → ∀ v, s.heap.IsCell c v → h'.IsCell c v := fun x c e v ⟨o, ho, hd⟩ => by
    have nch : c ∉ ch := fun z => (hch c z).2.2.1 x c e rfl
    by_cases hc : c ∈ X.fs
    · obtain ⟨sl, q⟩ := slot c o (I.cne x c e) hc nch ho (I.freeC x c e)
      exact ⟨_, q, hd⟩
    · exact ⟨o, keep c o (I.cne x c e) hc nch ho (I.freeC x c e), hd⟩
  refine ⟨I.ok, I.os, hg, ⟨fun b o e n hb hx => ?_, fun b o e n hb hx => ?_, fun b o e n hx => ?_, fun b o e hx => ?_, fun b xs e => tups b xs (I.base.tups b xs e), fun b o xs e => frzs b o xs (I.base.frzs b o xs e), fun b ps e => ?_⟩, ?_, fun x c e => ?_, ?_, fun x c e => ?_, fun p hp => ?_, hok, I.len⟩
  · exact keep b o (neL b o e) hb (neC b o e hx) (I.base.keep b o e n hb hx) (I.base.free b o e n hx)
  · obtain ⟨sl, e1⟩ := I.base.slot b o e n hb hx
    obtain ⟨sl', e2⟩ := slot b _ (neL b o e) hb (neC b o e hx) e1 (I.base.free b o e n hx)
    exact ⟨sl', e2⟩
  · obtain ⟨o', e1⟩ := I.base.there b o e hx
    exact free b o' (neC b o e hx) e1 (I.base.free b o e n hx)
  · obtain ⟨o', e1⟩ := I.base.there b o e hx
    exact there b o' (neC b o e hx) e1
  · obtain ⟨m1, e1⟩ := I.base.tbls b ps e
    obtain ⟨m2, e2⟩ := tbls b _ e1
    exact ⟨m1 ++ m2, by rw [e2, Array.append_assoc]⟩
  · obtain ⟨m, hn, hl⟩ := I.loc
    refine ⟨m, ns m hn, fun i x v e1 e2 e3 => ?_⟩
    obtain ⟨u, r, l⟩ := hl i x v e1 e2 e3
    refine ⟨u, r, ?_⟩
    rcases l with l | ⟨k, c, e, z⟩
    · exact .inl l
    · exact .inr ⟨k, c, e, cellK x c e _ z⟩
  · obtain ⟨v, z⟩ := I.cell x c e
    exact ⟨v, cellK x c e v z⟩
  · obtain ⟨m, ⟨o, _, _, ho, _⟩, _⟩ := I.loc
    exact free _ o (fun z => (hch _ z).2.1 rfl) ho I.free
  · obtain ⟨v, o, ho, hd⟩ := I.cell x c e
    exact free c o (fun z => (hch c z).2.2.1 x c e rfl) ho (I.freeC x c e)
  · obtain ⟨e, n, ne, nf, d⟩ := I.pin p hp
    have nch : p.1 ∉ ch := fun z => (hch p.1 z).2.2.2 p hp rfl
    exact ⟨keep p.1 p.2 ne nf nch e n, free p.1 p.2 nch e n, ne, nf, d⟩
/-- .. where the frame's own object is kept too -/
theorem Inv.un {t' : Nat} (I : Inv X pins σ H s) (u : Un X.fs [] H H' s.heap h') (hok : HOk X.prog X.w H' h') : Inv X pins σ H' { s with heap := h', toks := t' } := by
  obtain ⟨m, ⟨o, es, ep, ho, r⟩, _⟩ := id I.loc
  obtain ⟨sl, hL⟩ := u.any ho I.free (by simp)
  exact I.step (g' := s.gens) (d' := s.drawn) (ch := []) (fun _ z => nomatch z) (fun b o _ hb _ e n => u.keep b o e n hb (by simp)) (fun b o _ hb _ e n => u.slot b o e n hb (by simp)) (fun b o _ e n => u.free b o e n (by simp)) (fun b o _ e => u.there b o e (by simp)) u.tups u.frzs u.tbls (fun m' hm => by
    obtain ⟨o', es', ep', ho', r'⟩ := hm
    rw [ho] at ho'; cases ho'
    exact ⟨_, es', ep', hL, r'⟩) hok I.bare
/-- behind a call (or a comprehension's block): the slots of this frame may have changed too, the records at ch may have turned -/
theorem Inv.call {g' : Array GenState} {t' : Nat} {d' : Drawn} {ch : List Addr} (I : Inv X pins σ H s) (u : Un (frs X.stack) ch H H' s.heap h') (hok : HOk X.prog X.w H' h') (hg : AllBare g')
    (hch : ∀ b ∈ ch, (b ∈ X.ex ∨ X.s₀.heap.objs.size ≤ b) ∧ b ≠ X.env.locals ∧ (∀ x c, X.env.cells.lookup x = some c → c ≠ b) ∧ ∀ p ∈ X.pn ++ pins, p.1 ≠ b) :
    Inv X pins σ H' { s with heap := h', gens := g', drawn := d', toks := t' } := by
  obtain ⟨m, ⟨o, es, ep, ho, r⟩, _⟩ := id I.loc
  obtain ⟨sl, hL⟩ := u.any ho I.free fun z => (hch _ z).2.1 rfl
  exact I.step (ch := ch) hch (fun b o hL hb hc e n => u.keep b o e n (fun z => (List.mem_cons.mp (I.stkSub b z)).elim hL hb) hc) (fun b o _ _ hc e n => u.any e n hc) (fun b o hc e n => u.free b o e n hc) (fun b o hc e => u.there b o e hc) u.tups u.frzs u.tbls (fun m' hm => by
    obtain ⟨o', es', ep', ho', r'⟩ := hm
    rw [ho] at ho'; cases ho'
    exact ⟨_, es', ep', hL, r'⟩) hok hg
/-- an untracked record of ours (an iterator) has turned -/
theorem Inv.turned {t' : Nat} {it : Addr} (I : Inv X pins σ H s) (k : ∀ b o, b ≠ it → s.heap.get? b = some o → h'.get? b = some o) (hn : H it = none) (hL : it ≠ X.env.locals)
    (h1 : it ∈ X.ex ∨ X.s₀.heap.objs.size ≤ it) (h2 : ∀ x c, X.env.cells.lookup x = some c → c ≠ it) (h3 : ∀ p ∈ X.pn ++ pins, p.1 ≠ it) : Inv X pins σ H { s with heap := h', toks := t' } := by
  have nit : ∀ b u, H b = some u → b ≠ it := fun b u e z => by rw [z, hn] at e; cases e
  refine I.step (g' := s.gens) (d' := s.drawn) (ch := [it]) (fun b hb => ?_) (fun b o _ _ hc e _ => k b o (fun z => hc (by simp [z])) e) (fun b o _ _ hc e _ => ⟨o.slots, k b o (fun z => hc (by simp [z])) e⟩) (fun _ _ _ _ n => n)
    (fun b o hc e => ⟨o, k b o (fun z => hc (by simp [z])) e⟩) (fun _ _ e => e) (fun _ _ _ e => e) (fun b ps e => ⟨#[], by rw [e]; simp⟩) (fun m hm => ?_) (fun b u e => ?_) I.bare
  · have e : b = it := by simpa using hb
    subst e
    exact ⟨h1, hL, h2, h3⟩
  · obtain ⟨o, es, ep, ho, r⟩ := hm
    exact ⟨o, es, ep, k _ o (Ne.symm hL) ho, r⟩
  · refine (I.hok b u e).stay (fun c v hc q => k c v ?_ q) (fun _ q => q) fun _ _ q => q
    rcases hc with z | z
    · rw [z]; exact nit b u e
    · exact nit c _ z
theorem Inv.tok (I : Inv X pins σ H s) (t : Nat) : Inv X pins σ H { s with toks := t } := I.un (h' := s.heap) (t' := t) Un.refl I.hok
/-- all objects kept -/
theorem Inv.kept {t' : Nat} (I : Inv X pins σ H s) (k : ∀ b u, s.heap.get? b = some u → h'.get? b = some u) : Inv X pins σ H { s with heap := h', toks := t' } := I.un (Un.kept k) (I.hok.kept k)
/-- a new object laid and tracked -/
theorem Inv.laid {a : Addr} {o : HO} {t' : Nat} (I : Inv X pins σ H s) (k : ∀ b u, s.heap.get? b = some u → h'.get? b = some u) (hp : s.heap.objs.size ≤ a) (new : ObjOk X.prog X.w (upd H a o) h' a o) :
    Inv X pins σ (upd H a o) { s with heap := h', toks := t' } := I.un (Un.laid k hp (I.hok.fresh hp)) (I.hok.laid k hp new)
/-- an object written -/
theorem Inv.write {x e : Addr} {o : HO} {t' : Nat} (I : Inv X pins σ H s) (mu : Mut (H x)) (he : e = x ∨ H e = some (.own x)) (k : ∀ b u, b ≠ e → s.heap.get? b = some u → h'.get? b = some u) (heo : ∃ u, h'.get? e = some u)
    (new : ObjOk X.prog X.w (upd H x o) h' x o) : Inv X pins σ (upd H x o) { s with heap := h', toks := t' } := I.un (Un.write mu he k heo) (I.hok.write mu he k heo new)
/-- forgetting slots, pins -/
theorem Inv.weak {σ' : List (Option V)} (I : Inv X pins σ H s) (hl : σ'.length = σ.length) (w : ∀ (i : Nat) v, σ'[i]? = some (some v) → σ[i]? = some (some v)) : Inv X pins σ' H s :=
  ⟨I.ok, I.os, I.bare, I.base, let ⟨m, hn, hl'⟩ := I.loc; ⟨m, hn, fun i x v e1 e2 e3 => hl' i x v e1 (w i v e2) e3⟩, I.cell, I.free, I.freeC, I.pin, I.hok, hl.trans I.len⟩
theorem Inv.pins_of {pins' : List (Addr × Obj)} (I : Inv X pins σ H s) (h : ∀ p ∈ pins', s.heap.get? p.1 = some p.2 ∧ H p.1 = none ∧ p.1 ≠ X.env.locals ∧ p.1 ∉ X.fs ∧ ∀ v, p.2.data ≠ .cell v) : Inv X pins' σ H s :=
  ⟨I.ok, I.os, I.bare, I.base, I.loc, I.cell, I.free, I.freeC, fun p hp => (List.mem_append.mp hp).elim (fun z => I.pin p (List.mem_append_left _ z)) (h p), I.hok, I.len⟩

theorem nodup_ix {N : List Str} (hN : N.Nodup) {i j : Nat} {x : Str} (a : N[i]? = some x) (b : N[j]? = some x) : i = j := by
  obtain ⟨h1, e1⟩ := List.getElem?_eq_some_iff.mp a
  obtain ⟨h2, e2⟩ := List.getElem?_eq_some_iff.mp b
  exact (List.getElem_inj hN).mp (e1.trans e2.symm)

/-- a name is stored; what changed -/
theorem store_ok2 {M : Model} {A : Around} {E : Value → Shared → Prop} {i : Nat} {x : Str} {v : V} {u : Value} {Q : Unit → Shared → Prop} (I : Inv X pins σ H s) (hN : X.N.Nodup) (hi : X.N[i]? = some x) (hx : Loc X.env.scope x) (r : RelV v u)
    (h : ∀ s', Inv X pins (σ.set i (some v)) H s' → (∃ a, Heap.SameBut a s.heap s'.heap ∧ (a = X.env.locals ∨ X.env.cells.lookup x = some a)) → Q () s') (hf : X.fn x = true ∨ X.env.scope.names.lookup x = some .local := by first | exact .inl rfl | exact .inr rfl | assumption) : wpAny M A (storeName X.env x u) Q E s := by
  obtain ⟨m, hn, hl⟩ := id I.loc
  have hcls : (X.env.scope.kind == .class || (X.env.scope.kind == .module && X.env.locals != X.env.globals)) = false := by rw [I.ok.kind]; rfl
  have hiσ : i < σ.length := by rw [I.len]; exact (List.getElem?_eq_some_iff.mp hi).1
  have cne := I.cne
  have tracked : ∀ {a : Addr} {h' : Heap}, (∃ o, s.heap.get? a = some o ∧ H a = none) → Heap.SameBut a s.heap h' → HOk X.prog X.w H h' := fun {a h'} ha hs b ob e => by
    obtain ⟨_, _, hfree⟩ := ha
    refine (I.hok b ob e).stay (fun c w' hc q => (hs.2 c ?_).trans q) (fun _ q => q) fun _ _ q => q
    rintro rfl
    rcases hc with rfl | hc
    · rw [hfree] at e; cases e
    · rw [hfree] at hc; cases hc
  rcases hx with hk | hk
  · refine wpAny_storeName_local hk hn (fun h' hn' hs => ?_) hcls
    obtain ⟨oL, _, _, hoL, _⟩ := id hn
    refine h _ ⟨I.ok, I.os, I.bare, ⟨fun b o e n hb hx => ?_, fun b o e n hb hx => ?_, I.base.free, fun b o e hx => ?_, I.base.tups, I.base.frzs, I.base.tbls⟩, ⟨_, hn', fun j y v' e1 e2 e3 => ?_⟩, fun y c e => ?_, I.free, I.freeC, fun p hp => ?_, tracked ⟨oL, hoL, I.free⟩ hs, by simpa using I.len⟩ ⟨_, hs, .inl rfl⟩
    · exact (hs.2 b (Nat.ne_of_lt (Nat.lt_of_lt_of_le (Heap.lt_size e) I.ok.above))).trans (I.base.keep b o e n hb hx)
    · obtain ⟨sl, e1⟩ := I.base.slot b o e n hb hx
      exact ⟨sl, (hs.2 b (Nat.ne_of_lt (Nat.lt_of_lt_of_le (Heap.lt_size e) I.ok.above))).trans e1⟩
    · obtain ⟨o', e1⟩ := I.base.there b o e hx
      exact ⟨o', (hs.2 b (Nat.ne_of_lt (Nat.lt_of_lt_of_le (Heap.lt_size e) I.ok.above))).trans e1⟩
    · by_cases hj : j = i
      · subst hj
        rw [hi] at e1; cases e1
        rw [List.getElem?_set_self hiσ] at e2
        cases e2
        exact ⟨u, r, .inl ⟨hk, by simp⟩⟩
      · rw [List.getElem?_set_ne (Ne.symm hj)] at e2
        obtain ⟨u', r', q⟩ := hl j y v' e1 e2 e3
        refine ⟨u', r', ?_⟩
        rcases q with ⟨k, e⟩ | ⟨k, c, e, z⟩
        · refine .inl ⟨k, ?_⟩
          have : y ≠ x := fun e => hj (nodup_ix hN e1 (e ▸ hi))
          simp [this, e]
        · exact .inr ⟨k, c, e, z.sameBut hs (cne y c e)⟩
    · obtain ⟨w', z⟩ := I.cell y c e
      exact ⟨w', z.sameBut hs (cne y c e)⟩
    · obtain ⟨e, n, ne, nf, d⟩ := I.pin p hp
      exact ⟨(hs.2 p.1 ne).trans e, n, ne, nf, d⟩
  · have hfn : X.fn x = true := by
      rcases hf with z | z
      · exact z
      · rw [z] at hk; cases hk
    obtain ⟨c, hc⟩ := I.ok.has x (.inl hk)
    obtain ⟨w', z⟩ := I.cell x c hc
    refine wpAny_storeName_cell I.ok.kind hk hc z (fun h' hc' hs => ?_)
    obtain ⟨oc, hoc, hocd⟩ := id z
    refine h { s with heap := h' } ⟨I.ok, I.os, I.bare, ⟨fun b o e n hb hx => ?_, fun b o e n hb hx => ?_, I.base.free, fun b o e hx => ?_, I.base.tups, I.base.frzs, I.base.tbls⟩, ⟨m, hn.sameBut hs (Ne.symm (cne x c hc)), fun j y v' e1 e2 e3 => ?_⟩, fun y c' e => ?_, I.free, I.freeC, fun p hp => ?_, tracked ⟨oc, hoc, I.freeC x c hc⟩ hs, by simpa using I.len⟩ ⟨c, hs, .inr hc⟩
    · exact (hs.2 b (Nat.ne_of_lt (Nat.lt_of_lt_of_le (Heap.lt_size e) (I.ok.cab x c hfn hc)))).trans (I.base.keep b o e n hb hx)
    · obtain ⟨sl, e1⟩ := I.base.slot b o e n hb hx
      exact ⟨sl, (hs.2 b (Nat.ne_of_lt (Nat.lt_of_lt_of_le (Heap.lt_size e) (I.ok.cab x c hfn hc)))).trans e1⟩
    · obtain ⟨o', e1⟩ := I.base.there b o e hx
      exact ⟨o', (hs.2 b (Nat.ne_of_lt (Nat.lt_of_lt_of_le (Heap.lt_size e) (I.ok.cab x c hfn hc)))).trans e1⟩
    · by_cases hj : j = i
      · subst hj
        rw [hi] at e1; cases e1
        rw [List.getElem?_set_self hiσ] at e2
        cases e2
        exact ⟨u, r, .inr ⟨.inl hk, c, hc, hc'⟩⟩
      · rw [List.getElem?_set_ne (Ne.symm hj)] at e2
        obtain ⟨u', r', q⟩ := hl j y v' e1 e2 e3
        refine ⟨u', r', ?_⟩
        rcases q with q | ⟨k, c', e, z'⟩
        · exact .inl q
        · refine .inr ⟨k, c', e, z'.sameBut hs ?_⟩
          rintro rfl
          exact hj (nodup_ix hN e1 (I.ok.inj _ _ _ e hc ▸ hi))
    · by_cases hcc : c' = c
      · subst hcc; exact ⟨_, hc'⟩
      · obtain ⟨w2, z2⟩ := I.cell y c' e
        exact ⟨w2, z2.sameBut hs hcc⟩
    · obtain ⟨e, n, ne, nf, d⟩ := I.pin p hp
      refine ⟨(hs.2 p.1 ?_).trans e, n, ne, nf, d⟩
      intro q
      rw [q, hoc] at e
      have q' : oc = p.2 := Option.some.inj e
      exact d w' (by rw [← q']; exact hocd)
theorem store_ok {M : Model} {A : Around} {E : Value → Shared → Prop} {i : Nat} {x : Str} {v : V} {u : Value} {Q : Unit → Shared → Prop} (I : Inv X pins σ H s) (hN : X.N.Nodup) (hi : X.N[i]? = some x) (hx : Loc X.env.scope x) (r : RelV v u)
    (h : ∀ s', Inv X pins (σ.set i (some v)) H s' → Q () s') (hf : X.fn x = true ∨ X.env.scope.names.lookup x = some .local := by first | exact .inl rfl | exact .inr rfl | assumption) : wpAny M A (storeName X.env x u) Q E s :=
  store_ok2 I hN hi hx r (fun s' I' _ => h s' I') hf
/-- behind a call or a block, the state as it is -/
theorem Inv.call' {s' : Shared} {ch : List Addr} (I : Inv X pins σ H s) (ho : s'.os = s.os) (u : Un (frs X.stack) ch H H' s.heap s'.heap) (hok : HOk X.prog X.w H' s'.heap) (hg : AllBare s'.gens)
    (hch : ∀ b ∈ ch, (b ∈ X.ex ∨ X.s₀.heap.objs.size ≤ b) ∧ b ≠ X.env.locals ∧ (∀ x c, X.env.cells.lookup x = some c → c ≠ b) ∧ ∀ p ∈ X.pn ++ pins, p.1 ≠ b) : Inv X pins σ H' s' := by
  obtain ⟨h', g', d', t', o'⟩ := s'
  have e : o' = s.os := ho
  subst e
  exact I.call (g' := g') (t' := t') (d' := d') u hok hg hch
end

/-! ### the judgements -/
/-- an exception: its class, its own dict's address (where it has one), the abstract heap behind it -/
abbrev XK := Value → Option Addr → Hp → Prop
abbrev St := List (Option V)
abbrev VK := V → Hp → Prop
/-- an expression's reading; a test's; an argument list's -/
abbrev TE := St → Hp → VK → Prop
abbrev TT := St → Hp → (Bool → Hp → Prop) → Prop
abbrev TA := St → Hp → (List V → Hp → Prop) → Prop
/-- what is wanted behind a statement -/
structure Ends where
  nx : St → Hp → Prop
  rt : VK
  bk : St → Hp → Prop := fun _ _ => False
  ct : St → Hp → Prop := fun _ _ => False
abbrev TS := Ends → St → Hp → Prop

def EP (X : Cx) (pins : List (Addr × Obj)) (σ : St) (Q : VK) (u : Value) (s' : Shared) : Prop := ∃ v H', Inv X pins σ H' s' ∧ RelV v u ∧ Q v H'
def TP (X : Cx) (pins : List (Addr × Obj)) (σ : St) (Q : Bool → Hp → Prop) (b : Bool) (s' : Shared) : Prop := ∃ H', Inv X pins σ H' s' ∧ Q b H'
def AP (X : Cx) (pins : List (Addr × Obj)) (σ : St) (Q : List V → Hp → Prop) (us : List Value) (s' : Shared) : Prop := ∃ vs H', Inv X pins σ H' s' ∧ Vals vs us ∧ Q vs H'
def SP (X : Cx) (pins : List (Addr × Obj)) (D : Ends) (f : Flow) (s' : Shared) : Prop :=
  match f with
  | .next => ∃ σ' H', Inv X pins σ' H' s' ∧ D.nx σ' H'
  | .brk => ∃ σ' H', Inv X pins σ' H' s' ∧ D.bk σ' H'
  | .cont => ∃ σ' H', Inv X pins σ' H' s' ∧ D.ct σ' H'
  | .ret u => ∃ v σ' H', Inv X pins σ' H' s' ∧ RelV v u ∧ D.rt v H'

def PE (X : Cx) (e : Expr) (t : TE) : Prop :=
  ∀ (pins : List (Addr × Obj)) (s : Shared) (σ : St) (H : Hp) (Q : VK), Inv X pins σ H s → t σ H Q → wpAny (model X.prog X.w) X.A (eval e X.env) (EP X pins σ Q) X.xe s
def PT (X : Cx) (e : Expr) (t : TT) : Prop :=
  ∀ (pins : List (Addr × Obj)) (s : Shared) (σ : St) (H : Hp) (Q : Bool → Hp → Prop), Inv X pins σ H s → t σ H Q → wpAny (model X.prog X.w) X.A (isTrue e X.env (eval e X.env)) (TP X pins σ Q) X.xe s
/-- a test whatever its 'whole' is (and, or) -/
def PW (X : Cx) (e : Expr) (t : TT) : Prop :=
  ∀ (whole : Sem Value) (pins : List (Addr × Obj)) (s : Shared) (σ : St) (H : Hp) (Q : Bool → Hp → Prop), Inv X pins σ H s → t σ H Q → wpAny (model X.prog X.w) X.A (isTrue e X.env whole) (TP X pins σ Q) X.xe s
theorem PW.pt {X : Cx} {e : Expr} {t : TT} (h : PW X e t) : PT X e t := h _
/-- an argument list (no star), from the left -/
def PA (X : Cx) (es : List Expr) (t : TA) : Prop :=
  ∀ (pos : Pos) (pins : List (Addr × Obj)) (s : Shared) (σ : St) (H : Hp) (Q : List V → Hp → Prop), Inv X pins σ H s → t σ H Q → wpAny (model X.prog X.w) X.A (spliced (backTo pos (starEach es X.env))) (AP X pins σ Q) X.xe s
def PS (X : Cx) (st : Stmt) (t : TS) : Prop :=
  ∀ (pins : List (Addr × Obj)) (s : Shared) (σ : St) (H : Hp) (D : Ends), Inv X pins σ H s → t D σ H → wpAny (model X.prog X.w) X.A (exec st X.env) (SP X pins D) X.xe s
def PSs (X : Cx) (st : List Stmt) (t : TS) : Prop :=
  ∀ (pins : List (Addr × Obj)) (s : Shared) (σ : St) (H : Hp) (D : Ends), Inv X pins σ H s → t D σ H → wpAny (model X.prog X.w) X.A (execs st X.env) (SP X pins D) X.xe s
/-- weaken the end -/
theorem thn {α : Type} {t : Sem α} {Q Q' : α → Shared → Prop} {M : Model} {A : Around} {E : Value → Shared → Prop} {s : Shared} (h : wpAny M A t Q E s) (hQ : ∀ a s, Q a s → Q' a s) : wpAny M A t Q' E s := wpAny_mono h hQ fun _ _ x => x
end L2

namespace L2
open PySem PySem.Spec PyProof.Rows
section
variable {X : Cx}

/-- two expressions in a row -/
theorem bin {a b : Expr} {ta tb : TE} (ha : PE X a ta) (hb : PE X b tb) {pins : List (Addr × Obj)} {s : Shared} {σ : St} {H : Hp} {R : V → V → Hp → Prop} (I : Inv X pins σ H s) (h : ta σ H fun x H1 => tb σ H1 fun y H2 => R x y H2)
    {α : Type} {Q : α → Shared → Prop} {f : Value → Value → Sem α}
    (hf : ∀ v u s2 x y H2, Inv X pins σ H2 s2 → RelV x v → RelV y u → R x y H2 → wpAny (model X.prog X.w) X.A (f v u) Q X.xe s2) :
    wpAny (model X.prog X.w) X.A (eval a X.env) (fun v s₁ => wpAny (model X.prog X.w) X.A (eval b X.env) (fun u s₂ => wpAny (model X.prog X.w) X.A (f v u) Q X.xe s₂) X.xe s₁) X.xe s := by
  refine thn (ha pins s σ H _ I h) fun v s1 ⟨x, H1, I1, r1, q1⟩ => ?_
  refine thn (hb pins s1 σ H1 _ I1 q1) fun u s2 ⟨y, H2, I2, r2, q2⟩ => ?_
  exact hf v u s2 x y H2 I2 r1 r2 q2

/-! ### names and constants -/
def tVar (i : Nat) : TE := fun σ H Q => ∃ v, σ[i]? = some (some v) ∧ Q v H
def tC (v : V) : TE := fun _ H Q => Q v H
theorem pe_var {i : Nat} {x : Str} {pos : Pos} (hN : X.N[i]? = some x) (hv : Vis X.env.scope x) (hd : (x == ("__debug__" : Str)) = false := by decide) (hcd : (x == ("__classdict__" : Str)) = false := by decide) : PE X (.Name x pos) (tVar i) := by
  intro pins s σ H Q I h
  obtain ⟨v, e, h⟩ := h
  obtain ⟨m, hn, hl⟩ := I.loc
  obtain ⟨u, r, l⟩ := hl i x v hN e hv
  have fin : EP X pins σ Q u s := ⟨v, H, I, r, h⟩
  rcases l with ⟨hk, hm⟩ | ⟨hk, c, hc, hcell⟩
  · exact wpAny_Name (wpAny_loadName_local I.ok.kind hk hn hm fin) hd
  · rcases hk with hk | hk
    · exact wpAny_Name (wpAny_loadName_cell I.ok.kind hk hc hcell fin) hd
    · exact wpAny_Name (wpAny_loadName_free I.ok.kind hk hc hcell fin hcd) hd
theorem pe_int {i j pos} : PE X (.Constant (.int i) j pos) (tC (.int i)) := fun _ _ _ H _ I h => wpAny_Constant_int ⟨.int i, H, I.tok _, ⟨_, rfl⟩, h⟩
theorem pe_bl {b j pos} : PE X (.Constant (.bool b) j pos) (tC (.bl b)) := fun _ _ _ H _ I h => Constant_bool ⟨.bl b, H, I, rfl, h⟩
theorem pe_non {j pos} : PE X (.Constant .none j pos) (tC .non) := fun _ _ _ H _ I h => Constant_none ⟨.non, H, I, rfl, h⟩
theorem pe_str {x j pos} : PE X (.Constant (.str x) j pos) (tC (.str x)) := fun _ _ _ H _ I h => Calls.Constant_str ⟨.str x, H, I.tok _, ⟨_, rfl⟩, h⟩

/-- a global name of the def -/
def Gl (X : Cx) (x : Str) : Prop := X.env.kindOf x = some .globalImplicit
theorem ld_glob {E : Value → Shared → Prop} {pins : List (Addr × Obj)} {s : Shared} {σ : St} {H : Hp} {x : Str} {u : Value} {pos : Pos} {Q : Value → Shared → Prop} (I : Inv X pins σ H s) (hg : Gl X x) (hm : X.mg x = some u) (h : Q u s)
    (hd : (x == ("__debug__" : Str)) = false := by decide) : wpAny (model X.prog X.w) X.A (eval (.Name x pos) X.env) Q E s :=
  Calls.Name_function_global I.ok.kind hg (Calls.loadGlobal_global (by rw [I.ok.glob]; exact I.mod.glob.keeps I.bk) hm h) hd
theorem ld_blt {E : Value → Shared → Prop} {pins : List (Addr × Obj)} {s : Shared} {σ : St} {H : Hp} {x : Str} {u : Value} {pos : Pos} {Q : Value → Shared → Prop} (I : Inv X pins σ H s) (hg : Gl X x) (hm : X.mg x = none) (hv : bootBuiltins x = some u) (h : Q u s)
    (hn : x ≠ "__name__" := by decide) (hd : (x == ("__debug__" : Str)) = false := by decide) : wpAny (model X.prog X.w) X.A (eval (.Name x pos) X.env) Q E s := by
  obtain ⟨mb, h1, h2⟩ := I.mod.blt
  exact Calls.Name_function_global I.ok.kind hg (Calls.loadGlobal_builtin (by rw [I.ok.glob]; exact I.mod.glob.keeps I.bk) hm (by rw [I.ok.blt]; exact h1.keeps I.bk) ((h2 x hn).trans hv) h) hd
/-- a module's constant, a class, a function, as a value -/
theorem pe_glob {x : Str} {v : V} {u : Value} {pos : Pos} (hg : Gl X x) (hm : X.mg x = some u) (r : RelV v u) (hd : (x == ("__debug__" : Str)) = false := by decide) : PE X (.Name x pos) (tC v) :=
  fun _ _ _ H _ I h => ld_glob I hg hm ⟨v, H, I, r, h⟩ hd
theorem pe_bltn {x : Str} {v : V} {u : Value} {pos : Pos} (hg : Gl X x) (hm : X.mg x = none) (hv : bootBuiltins x = some u) (r : RelV v u) (hn : x ≠ "__name__" := by decide) (hd : (x == ("__debug__" : Str)) = false := by decide) : PE X (.Name x pos) (tC v) :=
  fun _ _ _ H _ I h => ld_blt I hg hm hv ⟨v, H, I, r, h⟩ hn hd

/-! ### arithmetic -/
/-- two ints -/
def t2I (ta tb : TE) (k : Int → Int → Hp → Prop) : St → Hp → Prop := fun σ H => ta σ H fun x H1 => tb σ H1 fun y H2 => ∃ i j, x = .int i ∧ y = .int j ∧ k i j H2
def tAdd (ta tb : TE) : TE := fun σ H Q => t2I ta tb (fun i j H2 => Q (.int (i + j)) H2) σ H
def tSub (ta tb : TE) : TE := fun σ H Q => t2I ta tb (fun i j H2 => Q (.int (i - j)) H2) σ H
/-- the left factor below 2^64 -/
def tMul (ta tb : TE) : TE := fun σ H Q => t2I ta tb (fun i j H2 => (-(2 ^ 64) < i ∧ i < 2 ^ 64) ∧ Q (.int (i * j)) H2) σ H
variable {a b : Expr} {ta tb : TE} {pos : Pos}
theorem pe_add (ha : PE X a ta) (hb : PE X b tb) : PE X (.BinOp a .Add b pos) (tAdd ta tb) := by
  intro pins s σ H Q I h
  refine wpAny_BinOp (bin ha hb I h fun v u s2 x y H2 I2 rx ry q => ?_)
  obtain ⟨i, j, rfl, rfl, q⟩ := q
  obtain ⟨t, rfl⟩ := rx
  obtain ⟨t', rfl⟩ := ry
  exact add_int ⟨.int _, H2, I2.tok _, ⟨_, rfl⟩, q⟩
theorem pe_sub (ha : PE X a ta) (hb : PE X b tb) : PE X (.BinOp a .Sub b pos) (tSub ta tb) := by
  intro pins s σ H Q I h
  refine wpAny_BinOp (bin ha hb I h fun v u s2 x y H2 I2 rx ry q => ?_)
  obtain ⟨i, j, rfl, rfl, q⟩ := q
  obtain ⟨t, rfl⟩ := rx
  obtain ⟨t', rfl⟩ := ry
  exact sub_int ⟨.int _, H2, I2.tok _, ⟨_, rfl⟩, q⟩
theorem pe_mul (ha : PE X a ta) (hb : PE X b tb) : PE X (.BinOp a .Mult b pos) (tMul ta tb) := by
  intro pins s σ H Q I h
  refine wpAny_BinOp (bin ha hb I h fun v u s2 x y H2 I2 rx ry q => ?_)
  obtain ⟨i, j, rfl, rfl, ⟨q1, q2⟩, q⟩ := q
  obtain ⟨t, rfl⟩ := rx
  obtain ⟨t', rfl⟩ := ry
  exact mul_int ⟨.int _, H2, I2.tok _, ⟨_, rfl⟩, q⟩ (.of_left (intBits_le_64 q1 q2))

/-! ### comparisons -/
def PC (X : Cx) (op : CmpOp) (a b : Expr) (t : TE) : Prop :=
  ∀ (pins : List (Addr × Obj)) (s : Shared) (σ : St) (H : Hp) (Q : VK), Inv X pins σ H s → t σ H Q →
    wpAny (model X.prog X.w) X.A (eval a X.env) (fun v s₁ => wpAny (model X.prog X.w) X.A (eval b X.env) (fun u s₂ => wpAny (model X.prog X.w) X.A (compareOp op v u) (EP X pins σ Q) X.xe s₂) X.xe s₁) X.xe s
theorem nobehind (b : Expr) {op : CmpOp} (h : op ≠ .In) (h2 : op ≠ .NotIn) : behindInMarks op b = false := by
  have e1 : (op == CmpOp.In) = false := by cases op <;> first | rfl | exact absurd rfl h
  have e2 : (op == CmpOp.NotIn) = false := by cases op <;> first | rfl | exact absurd rfl h2
  cases b <;> simp [behindInMarks, e1, e2]
def tCmp (p : Int → Int → Bool) (ta tb : TE) : TE := fun σ H Q => t2I ta tb (fun i j H2 => Q (.bl (p i j)) H2) σ H
abbrev tLt : TE → TE → TE := tCmp fun i j => decide (i < j)
abbrev tLe : TE → TE → TE := tCmp fun i j => decide (i ≤ j)
abbrev tGt : TE → TE → TE := tCmp fun i j => decide (j < i)
abbrev tGe : TE → TE → TE := tCmp fun i j => decide (j ≤ i)
abbrev tEqI : TE → TE → TE := tCmp fun i j => decide (i = j)
abbrev tNeI : TE → TE → TE := tCmp fun i j => !decide (i = j)
/-- a comparison of two ints, by its rule -/
theorem pc_int {op : CmpOp} {p : Int → Int → Bool} (ha : PE X a ta) (hb : PE X b tb)
    (rule : ∀ (i j : Int) (t u : Tok) (Q : Value → Shared → Prop) (s : Shared), Q (.bool (p i j)) s → wpAny (model X.prog X.w) X.A (compareOp op (.int i t) (.int j u)) Q X.xe s) : PC X op a b (tCmp p ta tb) := by
  intro pins s σ H Q I h
  refine bin ha hb I h fun v u s2 x y H2 I2 rx ry q => ?_
  obtain ⟨i, j, rfl, rfl, q⟩ := q
  obtain ⟨t, rfl⟩ := rx
  obtain ⟨t', rfl⟩ := ry
  exact rule i j t t' _ s2 ⟨.bl _, H2, I2, rfl, q⟩
theorem pc_lt (ha : PE X a ta) (hb : PE X b tb) : PC X .Lt a b (tLt ta tb) := pc_int ha hb fun _ _ _ _ _ _ h => lt_int h
theorem pc_le (ha : PE X a ta) (hb : PE X b tb) : PC X .LtE a b (tLe ta tb) := pc_int ha hb fun _ _ _ _ _ _ h => le_int h
theorem pc_gt (ha : PE X a ta) (hb : PE X b tb) : PC X .Gt a b (tGt ta tb) := pc_int ha hb fun _ _ _ _ _ _ h => gt_int h
theorem pc_ge (ha : PE X a ta) (hb : PE X b tb) : PC X .GtE a b (tGe ta tb) := pc_int ha hb fun _ _ _ _ _ _ h => ge_int h
theorem pc_eqI (ha : PE X a ta) (hb : PE X b tb) : PC X .Eq a b (tEqI ta tb) := pc_int ha hb fun _ _ _ _ _ _ h => eq_int (by rw [Bool.beq_eq_decide_eq]; exact h)
theorem pc_neI (ha : PE X a ta) (hb : PE X b tb) : PC X .NotEq a b (tNeI ta tb) := pc_int ha hb fun _ _ _ _ _ _ h => ne_int (by rw [bne, Bool.beq_eq_decide_eq]; exact h)
/-- is None -/
def tIsN (ta : TE) : TE := fun σ H Q => ta σ H fun x H1 => Q (.bl (decide (x = .non))) H1
def tNotN (ta : TE) : TE := fun σ H Q => ta σ H fun x H1 => Q (.bl (!decide (x = .non))) H1
theorem RelV.none_iff {x : V} {v : Value} (r : RelV x v) : (v == Value.none) = decide (x = .non) := by
  cases x with
  | non => cases r; rfl
  | bl _ => cases r; rfl
  | int _ => obtain ⟨t, rfl⟩ := r; rfl
  | str _ => obtain ⟨t, rfl⟩ := r; rfl
  | byt _ => obtain ⟨t, rfl⟩ := r; rfl
  | flt _ => obtain ⟨t, rfl⟩ := r; rfl
  | ref _ => cases r; rfl
  | ty _ => cases r; rfl
theorem pc_isN {j pos'} (ha : PE X a ta) : PC X .Is a (.Constant .none j pos') (tIsN ta) := by
  intro pins s σ H Q I h
  refine thn (ha pins s σ H _ I h) fun v s1 ⟨x, H1, I1, r1, q1⟩ => ?_
  exact Constant_none (is_none_gen ⟨.bl _, H1, I1, by rw [r1.none_iff]; rfl, q1⟩)
theorem pc_notN {j pos'} (ha : PE X a ta) : PC X .IsNot a (.Constant .none j pos') (tNotN ta) := by
  intro pins s σ H Q I h
  refine thn (ha pins s σ H _ I h) fun v s1 ⟨x, H1, I1, r1, q1⟩ => ?_
  exact Constant_none (isnot_none_gen ⟨.bl _, H1, I1, by rw [r1.none_iff]; rfl, q1⟩)
/-- a comparison as a value, as a test -/
def tB (t : TE) : TT := fun σ H Q => t σ H fun x H1 => ∃ c, x = .bl c ∧ Q c H1
theorem pe_cmp {op : CmpOp} {t : TE} (h : PC X op a b t) (h1 : behindInMarks op b = false := by first | exact nobehind _ (by decide) (by decide) | rfl) : PE X (.Compare a [op] [b] pos) t := fun pins s σ H Q I hw => wpAny_Compare1 (h pins s σ H Q I hw) h1
theorem pt_cmp {op : CmpOp} {t : TE} (h : PC X op a b t) (h1 : behindInMarks op b = false := by first | exact nobehind _ (by decide) (by decide) | rfl) : PT X (.Compare a [op] [b] pos) (tB t) := by
  intro pins s σ H Q I hw
  refine wpAny_isTrue_Compare1 (thn (h pins s σ H _ I hw) fun v s1 h1 => thn h1 fun u s2 h2 => thn h2 fun c s3 ⟨x, H1, I1, r1, q1⟩ => ?_) h1
  obtain ⟨d, rfl, q⟩ := q1
  cases r1
  exact wpAny_truthy_bool ⟨H1, I1, q⟩
/-- an expression whose value is a bool, as a test -/
theorem pt_val {e : Expr} {t : TE} (h : PE X e t) (he : ∀ whole, isTrue e X.env whole = (do let v ← whole; standAt e.pos; holding [v] (truthy v)) := by intro _; rfl) : PT X e (tB t) := by
  intro pins s σ H Q I hw
  refine isTrue_plain (thn (h pins s σ H _ I hw) fun v s1 ⟨x, H1, I1, r1, q1⟩ => ?_) (he _)
  obtain ⟨d, rfl, q⟩ := q1
  cases r1
  exact wpAny_truthy_bool ⟨H1, I1, q⟩

/-! ### and, or, not -/
variable {tA tB' : TT} {rest : List Expr}
def tAnd (t u : TT) : TT := fun σ H Q => t σ H fun c H1 => if c = true then u σ H1 Q else Q false H1
def tOr (t u : TT) : TT := fun σ H Q => t σ H fun c H1 => if c = true then Q true H1 else u σ H1 Q
def tNot (t : TT) : TT := fun σ H Q => t σ H fun c H1 => Q (!c) H1
theorem pw_and1 (ha : PT X a tA) : PW X (.BoolOp .And [a] pos) tA := by
  intro wh pins s σ H Q I h
  refine isTrue_and (thn (ha pins s σ H Q I h) fun c s1 e => ?_)
  cases c with
  | true => exact isTrue_and_nil e
  | false => exact e
theorem pw_or1 (ha : PT X a tA) : PW X (.BoolOp .Or [a] pos) tA := by
  intro wh pins s σ H Q I h
  refine isTrue_or (thn (ha pins s σ H Q I h) fun c s1 e => ?_)
  cases c with
  | false => exact isTrue_or_nil e
  | true => exact e
theorem pw_and (ha : PT X a tA) (hb : PW X (.BoolOp .And (b :: rest) pos) tB') : PW X (.BoolOp .And (a :: b :: rest) pos) (tAnd tA tB') := by
  intro wh pins s σ H Q I h
  refine isTrue_and (thn (ha pins s σ H _ I h) fun c s1 ⟨H1, I1, q1⟩ => ?_)
  cases c with
  | true => exact hb wh pins s1 σ H1 Q I1 q1
  | false => exact ⟨H1, I1, q1⟩
theorem pw_or (ha : PT X a tA) (hb : PW X (.BoolOp .Or (b :: rest) pos) tB') : PW X (.BoolOp .Or (a :: b :: rest) pos) (tOr tA tB') := by
  intro wh pins s σ H Q I h
  refine isTrue_or (thn (ha pins s σ H _ I h) fun c s1 ⟨H1, I1, q1⟩ => ?_)
  cases c with
  | true => exact ⟨H1, I1, q1⟩
  | false => exact hb wh pins s1 σ H1 Q I1 q1
theorem pt_not (ha : PT X a tA) : PT X (.UnaryOp .Not a pos) (tNot tA) := by
  intro pins s σ H Q I h
  exact isTrue_not (ha pins s σ H (fun c H1 => Q (!c) H1) I h)
/-- .. as values (bools) -/
def tAndV (ta tb : TE) : TE := fun σ H Q => ta σ H fun x H1 => ∃ c, x = .bl c ∧ if c = true then tb σ H1 Q else Q (.bl false) H1
def tOrV (ta tb : TE) : TE := fun σ H Q => ta σ H fun x H1 => ∃ c, x = .bl c ∧ if c = true then Q (.bl true) H1 else tb σ H1 Q
def tNotV (ta : TE) : TE := fun σ H Q => ta σ H fun x H1 => ∃ c, x = .bl c ∧ Q (.bl (!c)) H1
theorem pe_one {op} {t : TE} (h : PE X a t) : PE X (.BoolOp op [a] pos) t := fun pins s σ H Q I hw => BoolOp_one (h pins s σ H Q I hw)
theorem pe_and (ha : PE X a ta) (hb : PE X (.BoolOp .And (b :: rest) pos) tb) : PE X (.BoolOp .And (a :: b :: rest) pos) (tAndV ta tb) := by
  intro pins s σ H Q I h
  refine BoolOp_and (thn (ha pins s σ H _ I h) fun v s1 ⟨x, H1, I1, r1, q1⟩ => ?_)
  obtain ⟨c, rfl, q1⟩ := q1
  cases r1
  refine wpAny_truthy_bool ?_
  cases c with
  | true => exact hb pins s1 σ H1 Q I1 q1
  | false => exact ⟨.bl false, H1, I1, rfl, q1⟩
theorem pe_or (ha : PE X a ta) (hb : PE X (.BoolOp .Or (b :: rest) pos) tb) : PE X (.BoolOp .Or (a :: b :: rest) pos) (tOrV ta tb) := by
  intro pins s σ H Q I h
  refine BoolOp_or (thn (ha pins s σ H _ I h) fun v s1 ⟨x, H1, I1, r1, q1⟩ => ?_)
  obtain ⟨c, rfl, q1⟩ := q1
  cases r1
  refine wpAny_truthy_bool ?_
  cases c with
  | false => exact hb pins s1 σ H1 Q I1 q1
  | true => exact ⟨.bl true, H1, I1, rfl, q1⟩
theorem pe_not (ha : PE X a ta) : PE X (.UnaryOp .Not a pos) (tNotV ta) := by
  intro pins s σ H Q I h
  refine UnaryOp_ (thn (ha pins s σ H _ I h) fun v s1 ⟨x, H1, I1, r1, q1⟩ => ?_)
  obtain ⟨c, rfl, q1⟩ := q1
  cases r1
  exact not_of (wpAny_truthy_bool ⟨.bl (!c), H1, I1, rfl, q1⟩)
/-- a if t else b -/
def tIf (t : TT) (ta tb : TE) : TE := fun σ H Q => t σ H fun c H1 => if c = true then ta σ H1 Q else tb σ H1 Q
theorem pe_ifExp {c : Expr} (hc : PT X c tA) (ha : PE X a ta) (hb : PE X b tb) : PE X (.IfExp c a b pos) (tIf tA ta tb) := by
  intro pins s σ H Q I h
  refine wpAny_IfExp (thn (hc pins s σ H _ I h) fun d s1 ⟨H1, I1, q1⟩ => ?_)
  cases d with
  | true => exact ha pins s1 σ H1 Q I1 q1
  | false => exact hb pins s1 σ H1 Q I1 q1
end
end L2

namespace L2
open PySem PySem.Spec PyProof.Rows

/-! ### a list, a tuple that is read: tracked, frozen, or an object of the module -/
def SqL (K : PySem.W.Frag) (H : Hp) (a : Addr) (xs : List V) : Prop :=
  Rd H a (.lst xs) ∨
    ∃ (o : Obj) (its : Array Value) (n : Nat), K.lookup a = some o ∧ o.cls = .type "list" ∧ o.dict = none ∧ o.data = .seq its n ∧ its.size ≤ sizeLine ∧ Vals xs its.toList
def SqT (K : PySem.W.Frag) (H : Hp) (a : Addr) (xs : List V) : Prop :=
  Rd H a (.tup xs) ∨
    ∃ (o : Obj) (its : Array Value) (n : Nat), K.lookup a = some o ∧ o.cls = .type "tuple" ∧ o.data = .seq its n ∧ its.size ≤ sizeLine ∧ Vals xs its.toList
def absV : Value → Option V
  | .none => some .non
  | .bool b => some (.bl b)
  | .int i _ => some (.int i)
  | .str x _ => some (.str x)
  | .bytes b _ => some (.byt b)
  | .float b _ => some (.flt b)
  | .ref a => some (.ref a)
  | .type n => some (.ty n)
  | _ => none
theorem RelV.abs {x : V} {u : Value} (r : RelV x u) : absV u = some x := by
  cases x with
  | non => cases r; rfl
  | bl _ => cases r; rfl
  | int _ => obtain ⟨t, rfl⟩ := r; rfl
  | str _ => obtain ⟨t, rfl⟩ := r; rfl
  | byt _ => obtain ⟨t, rfl⟩ := r; rfl
  | flt _ => obtain ⟨t, rfl⟩ := r; rfl
  | ref _ => cases r; rfl
  | ty _ => cases r; rfl
theorem RelV.inj {x y : V} {u : Value} (r : RelV x u) (q : RelV y u) : x = y := Option.some.inj (r.abs.symm.trans q.abs)
theorem Vals.inj : ∀ {xs ys : List V} {us : List Value}, Vals xs us → Vals ys us → xs = ys
  | _, _, _, .nil, .nil => rfl
  | _, _, _, .cons r t, .cons r' t' => by rw [r.inj r', Vals.inj t t']
section
variable {X : Cx} {pins : List (Addr × Obj)} {σ : St} {H : Hp} {s : Shared} {a : Addr} {xs ys : List V}
theorem SqL.of {K : PySem.W.Frag} (h : H a = some (.lst xs)) : SqL K H a xs := .inl (.inl h)
theorem SqT.of {K : PySem.W.Frag} (h : H a = some (.tup xs)) : SqT K H a xs := .inl (.inl h)
theorem Inv.list (I : Inv X pins σ H s) (h : SqL X.K H a xs) : ∃ its : List Value, Vals xs its ∧ PlainL s.heap a its.toArray ∧ xs.length ≤ sizeLine := by
  rcases h with h | ⟨o, its, n, hk, hc, hd, hs, hz, r⟩
  · obtain ⟨z, its, n, r, e⟩ := h.ok I.hok
    exact ⟨its, r, ⟨_, n, e, rfl, rfl, rfl⟩, z⟩
  · refine ⟨its.toList, r, ⟨o, n, I.kIn a o hk, hc, hd, by simpa using hs⟩, ?_⟩
    have e := r.length
    simp only [Array.length_toList] at e
    omega
theorem Inv.tuple (I : Inv X pins σ H s) (h : SqT X.K H a xs) : ∃ its : List Value, Vals xs its ∧ IsTup s.heap a its.toArray ∧ xs.length ≤ sizeLine := by
  rcases h with h | ⟨o, its, n, hk, hc, hs, hz, r⟩
  · obtain ⟨z, its, r, p⟩ := h.ok I.hok
    exact ⟨its, r, p, z⟩
  · refine ⟨its.toList, r, ⟨o, I.kIn a o hk, hc, n, by simpa using hs⟩, ?_⟩
    have e := r.length
    simp only [Array.length_toList] at e
    omega
theorem Inv.list_inj (I : Inv X pins σ H s) (h : SqL X.K H a xs) (h' : SqL X.K H a ys) : xs = ys := by
  obtain ⟨its, r, ⟨o, n, e, _, _, d⟩, _⟩ := I.list h
  obtain ⟨its', r', ⟨o', n', e', _, _, d'⟩, _⟩ := I.list h'
  rw [e] at e'; cases e'
  rw [d] at d'
  injection d' with d1 _
  have : its = its' := by simpa using congrArg Array.toList d1
  subst this
  exact r.inj r'
theorem Inv.tuple_inj (I : Inv X pins σ H s) (h : SqT X.K H a xs) (h' : SqT X.K H a ys) : xs = ys := by
  obtain ⟨its, r, ⟨o, e, _, n, d⟩, _⟩ := I.tuple h
  obtain ⟨its', r', ⟨o', e', _, n', d'⟩, _⟩ := I.tuple h'
  rw [e] at e'; cases e'
  rw [d] at d'
  injection d' with d1 _
  have : its = its' := by simpa using congrArg Array.toList d1
  subst this
  exact r.inj r'
end

/-! ### another wish about exceptions -/
abbrev Cx.wish (X : Cx) (E : Value → Shared → Prop) : Cx := { X with xe := E }
/-- no exception leaves -/
abbrev Cx.nox (X : Cx) : Cx := X.wish fun _ _ => False
theorem Cx.Ok.wish {X : Cx} (ok : X.Ok) (E : Value → Shared → Prop) : (X.wish E).Ok :=
  ⟨ok.mod, ok.kind, ok.glob, ok.blt, ok.above, ok.inj, ok.has, ok.cab, ok.hd, ok.frames, ok.stk, ok.exf, ok.bs, ok.bsz, ok.noex, ok.exfs, ok.funs, ok.frf⟩
theorem Cx.Ok.unwish {X : Cx} {E : Value → Shared → Prop} (ok : (X.wish E).Ok) : X.Ok :=
  ⟨ok.mod, ok.kind, ok.glob, ok.blt, ok.above, ok.inj, ok.has, ok.cab, ok.hd, ok.frames, ok.stk, ok.exf, ok.bs, ok.bsz, ok.noex, ok.exfs, ok.funs, ok.frf⟩
section
variable {X : Cx} {pins : List (Addr × Obj)} {σ : St} {H : Hp} {s : Shared} {E : Value → Shared → Prop}
theorem Inv.wish (I : Inv X pins σ H s) (E : Value → Shared → Prop) : Inv (X.wish E) pins σ H s := ⟨I.ok.wish E, I.os, I.bare, I.base, I.loc, I.cell, I.free, I.freeC, I.pin, I.hok, I.len⟩
theorem Inv.unwish (I : Inv (X.wish E) pins σ H s) : Inv X pins σ H s := ⟨I.ok.unwish, I.os, I.bare, I.base, I.loc, I.cell, I.free, I.freeC, I.pin, I.hok, I.len⟩
theorem SP.unwish {D : Ends} {f : Flow} {s' : Shared} (h : SP (X.wish E) pins D f s') : SP X pins D f s' := by
  cases f with
  | next => obtain ⟨σ', H', I, q⟩ := h; exact ⟨σ', H', I.unwish, q⟩
  | brk => obtain ⟨σ', H', I, q⟩ := h; exact ⟨σ', H', I.unwish, q⟩
  | cont => obtain ⟨σ', H', I, q⟩ := h; exact ⟨σ', H', I.unwish, q⟩
  | ret u => obtain ⟨v, σ', H', I, r, q⟩ := h; exact ⟨v, σ', H', I.unwish, r, q⟩
theorem PE.nox {e : Expr} {t : TE} (h : PE X.nox e t) : PE X e t := fun pins s σ H Q I hw =>
  wpAny_mono (h pins s σ H Q (I.wish _) hw) (fun _ _ ⟨v, H', I', r, q⟩ => ⟨v, H', I'.unwish, r, q⟩) fun _ _ z => False.elim z
theorem PT.nox {e : Expr} {t : TT} (h : PT X.nox e t) : PT X e t := fun pins s σ H Q I hw =>
  wpAny_mono (h pins s σ H Q (I.wish _) hw) (fun _ _ ⟨H', I', q⟩ => ⟨H', I'.unwish, q⟩) fun _ _ z => False.elim z
theorem PSs.nox {st : List Stmt} {t : TS} (h : PSs X.nox st t) : PSs X st t := fun pins s σ H D I hw =>
  wpAny_mono (h pins s σ H D (I.wish _) hw) (fun _ _ q => q.unwish) fun _ _ z => False.elim z
end

/-! ### blocks and small statements -/
section
variable {X : Cx} {st : Stmt} {rest : List Stmt} {t u : TS} {e : Expr} {te : TE} {pos : Pos}
def tNext : TS := fun D σ H => D.nx σ H
def tSeq (t u : TS) : TS := fun D σ H => t { D with nx := u D } σ H
theorem pss_nil : PSs X [] tNext := fun _ _ σ H _ I h => wpAny_execs_nil ⟨σ, H, I, h⟩
theorem pss_cons (h1 : PS X st t) (h2 : PSs X rest u) : PSs X (st :: rest) (tSeq t u) := by
  intro pins s σ H D I h
  refine wpAny_execs_cons (thn (h1 pins s σ H { D with nx := u D } I h) fun f s1 q => ?_)
  cases f with
  | next =>
    obtain ⟨σ', H', I', q⟩ := q
    exact h2 pins s1 σ' H' D I' q
  | ret v => exact q
  | brk => exact q
  | cont => exact q
theorem pss_one (h1 : PS X st t) : PSs X [st] t := by
  intro pins s σ H D I h
  refine wpAny_execs_cons (thn (h1 pins s σ H D I h) fun f s1 q => ?_)
  cases f with
  | next => exact wpAny_execs_nil q
  | ret v => exact q
  | brk => exact q
  | cont => exact q
def tBreak : TS := fun D σ H => D.bk σ H
def tCont : TS := fun D σ H => D.ct σ H
theorem ps_pass : PS X (.Pass pos) tNext := fun _ _ σ H _ I h => wpAny_Pass ⟨σ, H, I, h⟩
theorem ps_break : PS X (.Break pos) tBreak := fun _ _ σ H _ I h => wpAny_Break ⟨σ, H, I, h⟩
theorem ps_continue : PS X (.Continue pos) tCont := fun _ _ σ H _ I h => wpAny_Continue ⟨σ, H, I, h⟩
/-- in a def's body nothing is shown -/
theorem Inv.quiet {pins : List (Addr × Obj)} {σ : St} {H : Hp} {s : Shared} (I : Inv X pins σ H s) : interactive X.env = false := by simp [interactive, I.ok.kind]
/-- a docstring -/
theorem ps_doc {x j pos pos'} : PS X (.Expr (.Constant (.str x) j pos) pos') tNext := fun _ s σ H _ I h => wpAny_Expr (Calls.Constant_str (show SP X _ _ .next { s with toks := s.toks + 1 } from ⟨σ, H, I.tok _, h⟩)) I.quiet
/-- an expression whose value is dropped -/
def tDrop (te : TE) : TS := fun D σ H => te σ H fun _ H1 => D.nx σ H1
theorem ps_expr (he : PE X e te) (hs : swapsWith e none pos.line X.env = pure false := by rfl) : PS X (.Expr e pos) (tDrop te) := by
  intro pins s σ H D I h
  exact wpAny_Expr_any (thn (he pins s σ H _ I h) fun v s1 ⟨x, H1, I1, r1, q1⟩ => ⟨σ, H1, I1, q1⟩) I.quiet hs
def tRet (te : TE) : TS := fun D σ H => te σ H D.rt
theorem ps_ret (he : PE X e te) : PS X (.Return (some e) pos) (tRet te) := by
  intro pins s σ H D I h
  exact wpAny_Return_some (thn (he pins s σ H _ I h) fun v s1 ⟨x, H1, I1, r1, q1⟩ => ⟨x, σ, H1, I1, r1, q1⟩)
def tRetN : TS := fun D _ H => D.rt .non H
theorem ps_retN : PS X (.Return none pos) tRetN := fun _ _ σ H _ I h => wpAny_Return_none ⟨.non, σ, H, I, rfl, h⟩
def tIfS (c : TT) (t u : TS) : TS := fun D σ H => c σ H fun b H1 => if b = true then t D σ H1 else u D σ H1
theorem ps_if {c : Expr} {a b : List Stmt} {tc : TT} (hc : PT X c tc) (ha : PSs X a t) (hb : PSs X b u) : PS X (.If c a b pos) (tIfS tc t u) := by
  intro pins s σ H D I h
  refine wpAny_If (thn (hc pins s σ H _ I h) fun d s1 ⟨H1, I1, q1⟩ => ?_)
  cases d with
  | true => exact ha pins s1 σ H1 D I1 q1
  | false => exact hb pins s1 σ H1 D I1 q1
/-- code that the proof never comes to -/
def tNever : TS := fun _ _ _ => False
theorem ps_never : PS X st tNever := fun _ _ _ _ _ _ h => h.elim
theorem pss_never {sts : List Stmt} : PSs X sts tNever := fun _ _ _ _ _ _ h => h.elim
end

/-! ### targets -/
abbrev TG := V → St → Hp → (St → Hp → Prop) → Prop
abbrev TGs := List V → St → Hp → (St → Hp → Prop) → Prop
def PG (X : Cx) (target : Expr) (t : TG) : Prop :=
  ∀ (pins : List (Addr × Obj)) (s : Shared) (σ : St) (H : Hp) (v : V) (u : Value) (Q : St → Hp → Prop), Inv X pins σ H s → RelV v u → t v σ H Q →
    wpAny (model X.prog X.w) X.A (assign target X.env u) (fun _ s' => ∃ σ' H', Inv X pins σ' H' s' ∧ Q σ' H') X.xe s
/-- several targets, one after another -/
def PGs (X : Cx) (ts : List Expr) (t : TGs) : Prop :=
  ∀ (pins : List (Addr × Obj)) (s : Shared) (σ : St) (H : Hp) (vs : List V) (us : List Value) (Q : St → Hp → Prop), Inv X pins σ H s → Vals vs us → t vs σ H Q →
    wpAny (model X.prog X.w) X.A (assignInOrder ((assignEach ts X.env).map (·.2)) us) (fun _ s' => ∃ σ' H', Inv X pins σ' H' s' ∧ Q σ' H') X.xe s
/-- o[i] = v, by values -/
abbrev TSet := V → V → V → Hp → (Hp → Prop) → Prop
def PSet (X : Cx) (t : TSet) : Prop :=
  ∀ (pins : List (Addr × Obj)) (s : Shared) (σ : St) (H : Hp) (o i v : V) (ov iv u : Value) (Q : Hp → Prop), Inv X pins σ H s → RelV o ov → RelV i iv → RelV v u → t o i v H Q →
    wpAny (model X.prog X.w) X.A (setItem ov iv u) (fun _ s' => ∃ H', Inv X pins σ H' s' ∧ Q H') X.xe s
/-- a op= b, by values -/
abbrev TIp := V → V → Hp → VK → Prop
def PIp (X : Cx) (op : Operator) (t : TIp) : Prop :=
  ∀ (pins : List (Addr × Obj)) (s : Shared) (σ : St) (H : Hp) (x y : V) (v u : Value) (Q : VK), Inv X pins σ H s → RelV x v → RelV y u → t x y H Q →
    wpAny (model X.prog X.w) X.A (inplaceOp op v u) (EP X pins σ Q) X.xe s
section
variable {X : Cx} {pos : Pos}
def gName (i : Nat) : TG := fun v σ H Q => Q (σ.set i (some v)) H
theorem pg_name {i : Nat} {x : Str} (hN : X.N.Nodup) (hi : X.N[i]? = some x) (hx : Loc X.env.scope x) (hf : X.fn x = true ∨ X.env.scope.names.lookup x = some .local := by first | exact .inl rfl | exact .inr rfl | assumption) : PG X (.Name x pos) (gName i) := by
  intro pins s σ H v u Q I r h
  exact wpAny_assign_Name (store_ok I hN hi hx r (fun s' I' => ⟨_, H, I', h⟩) hf)
def gNil : TGs := fun vs σ H Q => vs = [] ∧ Q σ H
def gCons (t : TG) (u : TGs) : TGs := fun vs σ H Q => ∃ v r, vs = v :: r ∧ t v σ H fun σ' H' => u r σ' H' Q
theorem pgs_nil : PGs X [] gNil := by
  intro pins s σ H vs us Q I r h
  obtain ⟨e, h⟩ := h
  subst e
  cases r
  exact assignInOrder_nil ⟨σ, H, I, h⟩
theorem pgs_cons {e : Expr} {es : List Expr} {t : TG} {u : TGs} (h1 : PG X e t) (h2 : PGs X es u)
    (hs : (assignEach (e :: es) X.env).map (·.2) = assign e X.env :: (assignEach es X.env).map (·.2) := by rfl) : PGs X (e :: es) (gCons t u) := by
  intro pins s σ H vs us Q I r h
  obtain ⟨v, vr, e1, h⟩ := h
  subst e1
  cases r with
  | cons r rr =>
    rw [hs]
    refine assignInOrder_cons (thn (h1 pins s σ H _ _ _ I r h) fun _ s1 ⟨σ1, H1, I1, q1⟩ => ?_)
    exact h2 pins s1 σ1 H1 _ _ Q I1 rr q1
/-- (a, b, ..) = a tuple of that length -/
def gTup (K : PySem.W.Frag) (n : Nat) (t : TGs) : TG := fun v σ H Q => ∃ a xs, v = .ref a ∧ SqT K H a xs ∧ xs.length = n ∧ t xs σ H Q
theorem pg_tup {es : List Expr} {k : Nat} {t : TGs} {n : Nat} (hc : X.calm = true) (h : PGs X es t)
    (hn : (assignEach es X.env).length = n := by rfl) (hst : (assignEach es X.env).findIdx? (·.1) = none := by rfl) : PG X (.Tuple es k pos) (gTup X.K n t) := by
  intro pins s σ H v u Q I r hw
  obtain ⟨a, xs, e1, hq, hl, hw⟩ := hw
  subst e1
  cases r
  obtain ⟨its, rv, ht, hz⟩ := I.tuple hq
  refine assign_Tuple_tuple (I.ok.hd hc) ht (by simp [hn, ← hl, rv.length]) hst fun h' hx => ?_
  have I1 : Inv X pins σ H { s with heap := h' } := I.kept (t' := s.toks) fun b o e => hx b o (Nat.ne_of_lt (Heap.lt_size e)) e
  exact h pins _ σ H xs _ Q I1 (by simpa using rv) hw
/-- o[i] = .. -/
def gSub (to ti : TE) (t : TSet) : TG := fun v σ H Q => to σ H fun o H1 => ti σ H1 fun i H2 => t o i v H2 fun H3 => Q σ H3
theorem pg_sub {o i : Expr} {to ti : TE} {t : TSet} (ho : PE X o to) (hi : PE X i ti) (hs : PSet X t)
    (ha : ∀ v, assign (.Subscript o i pos) X.env v = (do
      let ov ← holding [v] (eval o X.env)
      let iv ← holding [v, ov] (eval i X.env)
      standAt pos
      holding [v, ov, iv] (setItem ov iv v)
      release [v, ov, iv] []) := by intro _; rfl) : PG X (.Subscript o i pos) (gSub to ti t) := by
  intro pins s σ H v u Q I r h
  rw [ha]
  refine wpAny_bind (wpAny_holding (thn (ho pins s σ H _ I h) fun ov s1 ⟨x, H1, I1, r1, q1⟩ => ?_))
  refine wpAny_bind (wpAny_holding (thn (hi pins s1 σ H1 _ I1 q1) fun iv s2 ⟨y, H2, I2, r2, q2⟩ => ?_))
  refine wpAny_bind (wpAny_standAt (wpAny_bind (wpAny_holding (thn (hs pins s2 σ H2 x y v ov iv u _ I2 r1 r2 r q2) fun _ s3 ⟨H3, I3, q3⟩ => ?_))))
  exact wpAny_release ⟨σ, H3, I3, q3⟩
/-- target = value -/
def tAsg (te : TE) (g : TG) : TS := fun D σ H => te σ H fun x H1 => g x σ H1 D.nx
theorem ps_asg {tg e : Expr} {te : TE} {g : TG} (he : PE X e te) (hg : PG X tg g) (hs : swapsWithSole [tg] e pos.line X.env = pure false := by rfl) (hw : swappedStores [tg] e X.env = pure none := by rfl)
    (h1 : (assignEach [tg] X.env).map (·.2) = [assign tg X.env] := by rfl) : PS X (.Assign [tg] e pos) (tAsg te g) := by
  intro pins s σ H D I h
  refine wpAny_Assign_stores (thn (he pins s σ H _ I h) fun v s1 ⟨x, H1, I1, r1, q1⟩ => ?_) hs hw
  rw [h1]
  exact thn (hg pins s1 σ H1 x v _ I1 r1 q1) fun _ s2 q => q
/-- name = value -/
theorem ps_set {i : Nat} {x : Str} {e : Expr} {te : TE} {pos' : Pos} (hN : X.N.Nodup) (hi : X.N[i]? = some x) (hx : Loc X.env.scope x) (he : PE X e te) (hs : swapsWith e (some (.Name x pos')) pos.line X.env = pure false := by rfl) (hf : X.fn x = true ∨ X.env.scope.names.lookup x = some .local := by first | exact .inl rfl | exact .inr rfl | assumption) :
    PS X (.Assign [.Name x pos'] e pos) (tAsg te (gName i)) := by
  intro pins s σ H D I h
  refine wpAny_Assign_Name (thn (he pins s σ H _ I h) fun v s1 ⟨y, H1, I1, r1, q1⟩ => ?_) hs
  exact store_ok I1 hN hi hx r1 (fun s2 I2 => ⟨_, H1, I2, q1⟩) hf
/-- a, b = x, y with plain local names: stored from the right; the pair itself is not tracked (the opening rows as in PyProof/Rows/TupAssign.lean:23) -/
def tPar (i j : Nat) (ta : TA) : TS := fun D σ H => ta σ H fun vs H1 => ∃ v w, vs = [v, w] ∧ D.nx ((σ.set i (some v)).set j (some w)) H1
theorem ps_par {i j : Nat} {x y : Str} {a b : Expr} {ta : TA} {px py pt : Pos} {kt k2 pt2} (hc : X.calm = true) (hN : X.N.Nodup) (hi : X.N[i]? = some x) (hj : X.N[j]? = some y) (hij : i ≠ j)
    (hx : X.env.scope.names.lookup x = some .local) (hy : X.env.scope.names.lookup y = some .local) (ha : PA X [a, b] ta)
    (hw : swappedStores [.Tuple [.Name x px, .Name y py] kt pt] (.Tuple [a, b] k2 pt2) X.env = pure (some [x, y]))
    (hs : swapsWithSole [.Tuple [.Name x px, .Name y py] kt pt] (.Tuple [a, b] k2 pt2) pos.line X.env = pure false := by rfl) :
    PS X (.Assign [.Tuple [.Name x px, .Name y py] kt pt] (.Tuple [a, b] k2 pt2) pos) (tPar i j ta) := by
  intro pins s σ H D I h
  rw [exec_Assign_arm]
  refine wpAny_bind (wpAny_standAt ?_)
  rw [hs]
  refine wpAny_bind (wpAny_pure ?_)
  rw [if_neg (by decide)]
  refine wpAny_bind (Tuple_ (thn (ha _ pins s σ H _ I h) fun us s1 ⟨vs, H1, I1, r1, q1⟩ => ?_))
  obtain ⟨v, w, e1, q1⟩ := q1
  subst e1
  obtain ⟨u1, u2, rfl, rv, rw'⟩ : ∃ u1 u2, us = [u1, u2] ∧ RelV v u1 ∧ RelV w u2 := by
    cases r1 with
    | cons p q =>
      cases q with
      | cons p' q' =>
        cases q'
        exact ⟨_, _, rfl, p, p'⟩
  refine wpAny_newObj_type ?_ (by show 2 ≤ sizeLine; decide)
  have I2 : Inv X pins σ H1 { s1 with heap := s1.heap.push { cls := .type "tuple", data := .seq [u1, u2].toArray } } := I1.kept (t' := s1.toks) fun b o e => Heap.get?_push_of_some _ e
  rw [hw]
  refine wpAny_bind (wpAny_pure ?_)
  show wpAny (model X.prog X.w) X.A (do rule "assign.swapped-stores"; let items ← unpackItems (.ref s1.heap.objs.size) 2 none; assignInOrder [fun v => bindName X.env y v, fun v => bindName X.env x v] items.reverse; pure Flow.next) _ _ _
  refine wpAny_bind (wpAny_rule (wpAny_bind (unpackItems_tuple (items := #[u1, u2]) (I.ok.hd hc) (IsTup.new s1.heap _) fun h' hx' => ?_)))
  have I3 := I2.kept (h' := h') (t' := s1.toks) fun b o e => hx' b o (Nat.ne_of_lt (Heap.lt_size e)) e
  show wpAny _ _ (assignInOrder [fun v => bindName X.env y v, fun v => bindName X.env x v] [u2, u1] >>= fun _ => pure Flow.next) _ _ _
  refine wpAny_bind (assignInOrder_cons (wpAny_bindName (store_ok I3 hN hj (.inl hy) rw' (fun s2 I4 => ?_) (.inr hy))))
  refine assignInOrder_cons (wpAny_bindName (store_ok I4 hN hi (.inl hx) rv (fun s3 I5 => assignInOrder_nil (wpAny_pure ?_)) (.inr hx)))
  rw [List.set_comm _ _ (Ne.symm hij)] at I5
  exact ⟨_, H1, I5, q1⟩
/-- name op= e -/
def tAug (i : Nat) (te : TE) (ti : TIp) : TS := fun D σ H => ∃ x, σ[i]? = some (some x) ∧ te σ H fun y H1 => ti x y H1 fun z H2 => D.nx (σ.set i (some z)) H2
theorem ps_aug {i : Nat} {x : Str} {e : Expr} {te : TE} {op : Operator} {ti : TIp} {pos' : Pos} (hN : X.N.Nodup) (hi : X.N[i]? = some x) (hx : Loc X.env.scope x) (he : PE X e te) (ho : PIp X op ti) (hf : X.fn x = true ∨ X.env.scope.names.lookup x = some .local := by first | exact .inl rfl | exact .inr rfl | assumption) :
    PS X (.AugAssign (.Name x pos') op e pos) (tAug i te ti) := by
  intro pins s σ H D I h
  obtain ⟨v, e1, h⟩ := h
  obtain ⟨m, hn, hl⟩ := I.loc
  have vis : Vis X.env.scope x := by rcases hx with k | k; exact .inl k; exact .inr (.inl k)
  obtain ⟨u, r, l⟩ := hl i x v hi e1 vis
  refine wpAny_AugAssign_Name ?_
  have go : wpAny (model X.prog X.w) X.A (eval e X.env) (fun w s₂ => wpAny (model X.prog X.w) X.A (inplaceOp op u w) (fun r s₃ => wpAny (model X.prog X.w) X.A (storeName X.env x r) (fun _ => SP X pins D .next) X.xe s₃) X.xe s₂) X.xe s := by
    refine thn (he pins s σ H _ I h) fun w s1 ⟨y, H1, I1, r1, q1⟩ => ?_
    refine thn (ho pins s1 σ H1 v y u w _ I1 r r1 q1) fun z s2 ⟨zv, H2, I2, r2, q2⟩ => ?_
    exact store_ok I2 hN hi hx r2 (fun s3 I3 => ⟨_, H2, I3, q2⟩) hf
  rcases l with ⟨hk, hm⟩ | ⟨hk, c, hc, hcell⟩
  · exact wpAny_loadName_local I.ok.kind hk hn hm go
  · rcases hk with hk | hk
    · exact wpAny_loadName_cell I.ok.kind hk hc hcell go
    · rcases hx with k | k
      · have : X.env.scope.names.lookup x = some .free := hk
        rw [k] at this; cases this
      · have : X.env.scope.names.lookup x = some .free := hk
        rw [k] at this; cases this
/-- o[i] op= e -/
def tAugS (to ti te : TE) (tget : V → V → Hp → VK → Prop) (tip : TIp) (tset : TSet) : TS := fun D σ H => to σ H fun o H1 => ti σ H1 fun i H2 => tget o i H2 fun x H3 => te σ H3 fun y H4 => tip x y H4 fun z H5 => tset o i z H5 fun H6 => D.nx σ H6
/-- o[i], by values -/
def PGet (X : Cx) (t : V → V → Hp → VK → Prop) : Prop :=
  ∀ (pins : List (Addr × Obj)) (s : Shared) (σ : St) (H : Hp) (o i : V) (ov iv : Value) (Q : VK), Inv X pins σ H s → RelV o ov → RelV i iv → t o i H Q →
    wpAny (model X.prog X.w) X.A (getItem ov iv) (EP X pins σ Q) X.xe s
theorem ps_augS {o i e : Expr} {to ti te : TE} {tget : V → V → Hp → VK → Prop} {tip : TIp} {tset : TSet} {op : Operator} {tpos : Pos} (ho : PE X o to) (hi : PE X i ti) (hg : PGet X tget) (he : PE X e te) (hp : PIp X op tip) (hs : PSet X tset)
    (ha : ∀ ov iv new, augStore i ov iv new = (do holding [new, ov, iv] (setItem ov iv new); release [new, ov, iv] []; pure .next) := by intros; rfl) : PS X (.AugAssign (.Subscript o i tpos) op e pos) (tAugS to ti te tget tip tset) := by
  intro pins s σ H D I h
  refine wpAny_AugAssign_SubscriptAny (thn (ho pins s σ H _ I h) fun ov s1 ⟨x1, H1, I1, r1, q1⟩ => ?_) ha
  refine thn (hi pins s1 σ H1 _ I1 q1) fun iv s2 ⟨x2, H2, I2, r2, q2⟩ => ?_
  refine thn (hg pins s2 σ H2 x1 x2 ov iv _ I2 r1 r2 q2) fun old s3 ⟨x3, H3, I3, r3, q3⟩ => ?_
  refine thn (he pins s3 σ H3 _ I3 q3) fun v s4 ⟨x4, H4, I4, r4, q4⟩ => ?_
  refine thn (hp pins s4 σ H4 x3 x4 old v _ I4 r3 r4 q4) fun new s5 ⟨x5, H5, I5, r5, q5⟩ => ?_
  exact thn (hs pins s5 σ H5 x1 x2 x5 ov iv new _ I5 r1 r2 r5 q5) fun _ s6 ⟨H6, I6, q6⟩ => ⟨σ, H6, I6, q6⟩
/-- ints -/
def ipI (f : Int → Int → Int) : TIp := fun x y H Q => ∃ i j, x = .int i ∧ y = .int j ∧ Q (.int (f i j)) H
theorem ip_add : PIp X .Add (ipI fun i j => i + j) := by
  intro pins s σ H x y v u Q I r1 r2 h
  obtain ⟨i, j, e1, e2, q⟩ := h
  subst e1; subst e2
  obtain ⟨t, rfl⟩ := r1
  obtain ⟨t', rfl⟩ := r2
  exact iadd_int ⟨.int _, H, I.tok _, ⟨_, rfl⟩, q⟩
theorem ip_sub : PIp X .Sub (ipI fun i j => i - j) := by
  intro pins s σ H x y v u Q I r1 r2 h
  obtain ⟨i, j, e1, e2, q⟩ := h
  subst e1; subst e2
  obtain ⟨t, rfl⟩ := r1
  obtain ⟨t', rfl⟩ := r2
  exact isub_int ⟨.int _, H, I.tok _, ⟨_, rfl⟩, q⟩
end

/-! ### while -/
section
variable {X : Cx} {pos : Pos}
/-- the invariant W with its measure -/
def tWhile (c : TT) (tb : TS) : TS := fun D σ H => ∃ W : Nat → St → Hp → Prop, (∃ m, W m σ H) ∧ ∀ m σ H, W m σ H →
  c σ H fun b H1 => if b = true then ∃ N : St → Hp → Prop, (∀ σ' H', N σ' H' → ∃ m', m' < m ∧ W m' σ' H') ∧ tb { D with nx := N, ct := N, bk := D.nx } σ H1 else D.nx σ H1
theorem ps_while {c : Expr} {body : List Stmt} {tc : TT} {tb : TS} (hp : PassesOwn (model X.prog X.w) X.A X.env X.xe) (hc : PT X c tc) (hb : PSs X body tb) : PS X (.While c body [] pos) (tWhile tc tb) := by
  intro pins s σ H D I h
  obtain ⟨W, ⟨m0, w0⟩, turn⟩ := h
  refine wpAny_While (codeAny_whileLoop (fun n s' => ∃ σ' H', Inv X pins σ' H' s' ∧ W n σ' H') ?_ m0 ⟨σ, H, I, w0⟩)
  rintro n s1 ⟨σ1, H1, I1, w1⟩
  refine wpAny_passesOwn hp (thn (hc pins s1 σ1 H1 _ I1 (turn n σ1 H1 w1)) fun b s2 ⟨H2, I2, q2⟩ => ?_)
  cases b with
  | true =>
    obtain ⟨N, hN, q2⟩ := q2
    rw [if_pos rfl]
    refine wpAny_passesOwn hp (thn (hb pins s2 σ1 H2 _ I2 q2) fun f s3 q3 => ?_)
    cases f with
    | next =>
      obtain ⟨σ3, H3, I3, n3⟩ := q3
      obtain ⟨m', hm, w3⟩ := hN σ3 H3 n3
      exact ⟨m', hm, σ3, H3, I3, w3⟩
    | cont =>
      obtain ⟨σ3, H3, I3, n3⟩ := q3
      obtain ⟨m', hm, w3⟩ := hN σ3 H3 n3
      exact ⟨m', hm, σ3, H3, I3, w3⟩
    | brk => exact q3
    | ret v => exact q3
  | false =>
    rw [if_neg Bool.false_ne_true]
    exact wpAny_execs_nil ⟨σ1, H2, I2, q2⟩
end

/-! ### what a loop or a comprehension walks -/
/-- at turn i: it yields x (the heap may grow), or it stops -/
structure It where
  go : Nat → Hp → Prop
  yld : Nat → Hp → V → Hp → Prop
  stop : Nat → Hp → Prop
/-- the iterator's own objects may turn: they are not the frame's, not pinned, younger than the entry (or a comprehension's own) -/
def FpOk (X : Cx) (pins : List (Addr × Obj)) (H : Hp) (b : Addr) : Prop :=
  H b = none ∧ b ≠ X.env.locals ∧ b ∉ X.fs ∧ (b ∈ X.ex ∨ X.s₀.heap.objs.size ≤ b) ∧ (∀ x c, X.env.cells.lookup x = some c → c ≠ b) ∧ ∀ p ∈ X.pn ++ pins, p.1 ≠ b
theorem Inv.fpOk {X : Cx} {pins : List (Addr × Obj)} {σ : St} {H H' : Hp} {s : Shared} {b : Addr} (I : Inv X pins σ H s) (hb : s.heap.objs.size ≤ b) (hn : H' b = none) : FpOk X pins H' b := by
  refine ⟨hn, Nat.ne_of_gt (Nat.lt_of_lt_of_le I.lt hb), I.nofs hb, .inr (Nat.le_trans I.sz hb), fun x c e z => ?_, fun p hp z => ?_⟩
  · obtain ⟨v, q⟩ := I.cell x c e
    exact absurd (Nat.lt_of_lt_of_le q.lt (by rw [z]; exact hb)) (Nat.lt_irrefl _)
  · exact absurd (Nat.lt_of_lt_of_le (Heap.lt_size (I.pin p hp).1) (by rw [z]; exact hb)) (Nat.lt_irrefl _)
structure Turn (P : Program) (w : World) (K : PySem.W.Frag) (tg : Expr) (J : It) (fp : List Addr) (it : Addr) (tn : Nat → Heap → Prop) : Prop where
  mem : it ∈ fp
  obj : ∀ i h, tn i h → ∀ b ∈ fp, ∃ o, h.get? b = some o ∧ ∀ v, o.data ≠ .cell v
  keep : ∀ i h h', tn i h → (∀ b ∈ fp, ∀ o, h.get? b = some o → h'.get? b = some o) → tn i h'
  item : ∀ (X : Cx), X.prog = P → X.w = w → X.K = K → X.calm = true → ∀ (i : Nat) (pins : List (Addr × Obj)) (s : Shared) (σ : St) (H : Hp) (E : Value → Shared → Prop), Inv X pins σ H s → (∀ b ∈ fp, FpOk X pins H b) → tn i s.heap → J.go i H →
    wpAny (model P w) X.A (pyNext (.ref it)) (fun r s1 => ∃ u, r = some u ∧
      wpAny (model P w) X.A (letOwnedTupleGo tg (.ref it) u) (fun _ s2 => ∃ x H', Inv X pins σ H' s2 ∧ RelV x u ∧ J.yld i H x H' ∧ tn (i + 1) s2.heap ∧ ∀ b ∈ fp, H' b = none) E s1) E s
  done : ∀ (X : Cx), X.prog = P → X.w = w → X.K = K → X.calm = true → ∀ (i : Nat) (pins : List (Addr × Obj)) (s : Shared) (σ : St) (H : Hp) (E : Value → Shared → Prop), Inv X pins σ H s → (∀ b ∈ fp, FpOk X pins H b) → tn i s.heap → J.stop i H →
    wpAny (model P w) X.A (pyNext (.ref it)) (fun r s1 => r = none ∧ Inv X pins σ H s1) E s
  self : ∀ (A : Around) (i : Nat) (s : Shared) (Q : Value → Shared → Prop) (E : Value → Shared → Prop), tn i s.heap → Q (.ref it) s → wpAny (model P w) A (pyIter (.ref it)) Q E s
abbrev TI := St → Hp → (It → Hp → Prop) → Prop
/-- an iterator has come -/
def PIE (X : Cx) (pins : List (Addr × Obj)) (σ : St) (tg : Expr) (R : It → Hp → Prop) (itv : Value) (s2 : Shared) : Prop :=
  ∃ (it : Addr) (fp : List Addr) (tn : Nat → Heap → Prop) (J : It) (H' : Hp), itv = .ref it ∧ Inv X pins σ H' s2 ∧ Turn X.prog X.w X.K tg J fp it tn ∧ tn 0 s2.heap ∧ (∀ b ∈ fp, FpOk X pins H' b) ∧ R J H'
def PI (X : Cx) (tg iter : Expr) (wi : TI) : Prop :=
  ∀ (pins : List (Addr × Obj)) (s : Shared) (σ : St) (H : Hp) (R : It → Hp → Prop), Inv X pins σ H s → wi σ H R →
    wpAny (model X.prog X.w) X.A (eval iter X.env) (fun v s1 => wpAny (model X.prog X.w) X.A (pyIter v) (PIE X pins σ tg R) X.xe s1) X.xe s

/-- the step ahead of the store is nothing for an iterator that keeps no tuple -/
theorem go_of {M : Model} {A : Around} {E : Value → Shared → Prop} {s : Shared} {tg : Expr} {it : Addr} {u : Value} {o : Obj} {n : String} {vs : Array Value} {Q : Unit → Shared → Prop} (ho : s.heap.get? it = some o) (hc : o.cls = .type n) (hd : o.data = .fields vs)
    (hn : ["enumerate", "zip", "dict_itemiterator", "dict_reverseitemiterator", "odict_iterator", "itertools.zip_longest", "itertools.pairwise"].contains n = false) (hQ : Q () s) : wpAny M A (letOwnedTupleGo tg (.ref it) u) Q E s := by
  unfold letOwnedTupleGo
  cases tg <;> first
    | exact wpAny_pure hQ
    | (cases u <;> first
        | exact wpAny_pure hQ
        | (refine wpAny_bind (wpAny_load ho ?_)
           rw [hc, hd]
           show wpAny M A (if (["enumerate", "zip", "dict_itemiterator", "dict_reverseitemiterator", "odict_iterator", "itertools.zip_longest", "itertools.pairwise"].contains n && vs[0]? == some (rawInt _)) = true then _ else _) Q E s
           rw [if_neg (by intro h; rw [hn, Bool.false_and] at h; cases h)]
           exact wpAny_pure hQ))

/-- the list at a, as it stands at each turn (a loop may append to it) -/
def Itl (K : PySem.W.Frag) (a : Addr) : It :=
  ⟨fun i H => ∃ xs x, SqL K H a xs ∧ xs[i]? = some x, fun i H x H' => H' = H ∧ ∀ xs, SqL K H a xs → xs[i]? = some x, fun i H => ∃ xs, SqL K H a xs ∧ xs.length ≤ i⟩
def Itt (K : PySem.W.Frag) (a : Addr) : It :=
  ⟨fun i H => ∃ xs x, SqT K H a xs ∧ xs[i]? = some x, fun i H x H' => H' = H ∧ ∀ xs, SqT K H a xs → xs[i]? = some x, fun i H => ∃ xs, SqT K H a xs ∧ xs.length ≤ i⟩
/-- lo, lo + 1, .. (n of them) -/
def Itr (lo : Int) (n : Nat) : It := ⟨fun i _ => i < n, fun i H x H' => H' = H ∧ x = .int (lo + i), fun i _ => n ≤ i⟩
theorem turn_list {P : Program} {w : World} {K : PySem.W.Frag} {tg : Expr} (a it : Addr) : Turn P w K tg (Itl K a) [it] it (fun i h => h.IsListIter it a i) where
  mem := by simp
  obj := fun i h st b hb => by
    have e : b = it := by simpa using hb
    subst e
    obtain ⟨o, e, c, d⟩ := st
    exact ⟨o, e, fun v z => by rw [d] at z; cases z⟩
  keep := fun i h h' st k => st.at fun o e => k it (by simp) o e
  item := by
    intro X hP hw hK hc i pins s σ H E I hf st hg
    subst hP hw hK
    obtain ⟨xs, x, hq, hx⟩ := hg
    obtain ⟨its, rv, p, hz⟩ := I.list hq
    obtain ⟨u, hu, ru⟩ := rv.get hx
    obtain ⟨f0, f1, f2, f3, f4, f5⟩ := hf it (by simp)
    refine wpAny_pyNext_list_item st p.isList (x := u) (by simpa using hu) fun h' st' sb => ?_
    have I1 : Inv X pins σ H { s with heap := h' } := I.turned (t' := s.toks) (fun b o hb e => (sb.2 b hb).trans e) f0 f1 f3 f4 f5
    obtain ⟨o, e, c, d⟩ := id st'
    exact ⟨u, rfl, go_of (s := { s with heap := h' }) e c d (by decide) ⟨x, H, I1, ru, ⟨rfl, fun ys hy => by rw [I.list_inj hy hq]; exact hx⟩, st', fun b hb => (hf b hb).1⟩⟩
  done := by
    intro X hP hw hK hc i pins s σ H E I hf st hg
    subst hP hw hK
    obtain ⟨xs, hq, hx⟩ := hg
    obtain ⟨its, rv, p, hz⟩ := I.list hq
    obtain ⟨f0, f1, f2, f3, f4, f5⟩ := hf it (by simp)
    have hl := rv.length
    exact wpAny_pyNext_list_end (I.ok.hd hc) st p.isList (by simp; omega) fun h' eb => ⟨rfl, I.turned (t' := s.toks) (fun b o hb e => eb b o hb e) f0 f1 f3 f4 f5⟩
  self := fun _ _ _ _ _ st h => wpAny_pyIter_listiter st h
theorem turn_tuple {P : Program} {w : World} {K : PySem.W.Frag} {tg : Expr} (a it : Addr) : Turn P w K tg (Itt K a) [it] it (fun i h => h.IsTupleIter it a i) where
  mem := by simp
  obj := fun i h st b hb => by
    have e : b = it := by simpa using hb
    subst e
    obtain ⟨o, e, c, d⟩ := st
    exact ⟨o, e, fun v z => by rw [d] at z; cases z⟩
  keep := fun i h h' st k => st.at fun o e => k it (by simp) o e
  item := by
    intro X hP hw hK hc i pins s σ H E I hf st hg
    subst hP hw hK
    obtain ⟨xs, x, hq, hx⟩ := hg
    obtain ⟨its, rv, p, hz⟩ := I.tuple hq
    obtain ⟨u, hu, ru⟩ := rv.get hx
    obtain ⟨f0, f1, f2, f3, f4, f5⟩ := hf it (by simp)
    refine wpAny_pyNext_tuple_item st (show s.heap.IsTuple a its.toArray from p) (x := u) (by simpa using hu) fun h' st' sb => ?_
    have I1 : Inv X pins σ H { s with heap := h' } := I.turned (t' := s.toks) (fun b o hb e => (sb.2 b hb).trans e) f0 f1 f3 f4 f5
    obtain ⟨o, e, c, d⟩ := id st'
    exact ⟨u, rfl, go_of (s := { s with heap := h' }) e c d (by decide) ⟨x, H, I1, ru, ⟨rfl, fun ys hy => by rw [I.tuple_inj hy hq]; exact hx⟩, st', fun b hb => (hf b hb).1⟩⟩
  done := by
    intro X hP hw hK hc i pins s σ H E I hf st hg
    subst hP hw hK
    obtain ⟨xs, hq, hx⟩ := hg
    obtain ⟨its, rv, p, hz⟩ := I.tuple hq
    obtain ⟨f0, f1, f2, f3, f4, f5⟩ := hf it (by simp)
    have hl := rv.length
    exact wpAny_pyNext_tuple_end (I.ok.hd hc) st (show s.heap.IsTuple a its.toArray from p) (by simp; omega) fun h' eb => ⟨rfl, I.turned (t' := s.toks) (fun b o hb e => eb b o hb e) f0 f1 f3 f4 f5⟩
  self := fun _ _ _ _ _ st h => wpAny_pyIter_tupleiter st h
theorem turn_range {P : Program} {w : World} {K : PySem.W.Frag} {tg : Expr} (it : Addr) (lo : Int) (n : Nat) : Turn P w K tg (Itr lo n) [it] it (fun i h => IsRangeIter h it (lo + (i : Nat) * 1) ((n : Int) - (i : Nat)) 1) where
  mem := by simp
  obj := fun i h st b hb => by
    have e : b = it := by simpa using hb
    subst e
    exact ⟨_, st, fun v z => by
      have z' : Data.fields _ = Data.cell v := z
      cases z'⟩
  keep := fun i h h' st k => k it (by simp) _ st
  item := by
    intro X hP hw hK hc i pins s σ H E I hf st hg
    subst hP hw hK
    obtain ⟨f0, f1, f2, f3, f4, f5⟩ := hf it (by simp)
    have W := Walks.range (prog := X.prog) (w := X.w) (I.ok.hd hc) it lo 1 n
    refine W.item i s _ _ hg st fun v h' tk hv st' kk => ?_
    obtain ⟨t, rfl⟩ := hv
    have I1 : Inv X pins σ H { s with heap := h', toks := tk } := I.turned (fun b o hb e => kk b o (by simpa using hb) e) f0 f1 f3 f4 f5
    refine ⟨_, rfl, go_of (s := { s with heap := h', toks := tk }) (n := "range_iterator") st' rfl rfl (by decide) ⟨.int (lo + i), H, I1, ⟨t, ?_⟩, ⟨rfl, rfl⟩, st', fun b hb => (hf b hb).1⟩⟩
    rw [Int.mul_one]
  done := by
    intro X hP hw hK hc i pins s σ H E I hf st hg
    subst hP hw hK
    obtain ⟨f0, f1, f2, f3, f4, f5⟩ := hf it (by simp)
    exact wpAny_pyNext_range_end (I.ok.hd hc) st (by have : n ≤ i := hg; omega) fun h' eb => ⟨rfl, I.turned (t' := s.toks) (fun b o hb e => eb b o hb e) f0 f1 f3 f4 f5⟩
  self := fun _ _ _ _ _ st h => wpAny_pyIter_rangeiter st h
end L2

namespace L2
open PySem PySem.Spec PyProof.Rows
section
variable {X : Cx} {tg : Expr}
def iList (K : PySem.W.Frag) (tl : TE) : TI := fun σ H R => tl σ H fun x H1 => ∃ a, x = .ref a ∧ (∃ xs, SqL K H1 a xs) ∧ R (Itl K a) H1
def iTup (K : PySem.W.Frag) (tl : TE) : TI := fun σ H R => tl σ H fun x H1 => ∃ a, x = .ref a ∧ (∃ xs, SqT K H1 a xs) ∧ R (Itt K a) H1
theorem pi_list {l : Expr} {tl : TE} (hl : PE X l tl) : PI X tg l (iList X.K tl) := by
  intro pins s σ H R I h
  refine thn (hl pins s σ H _ I h) fun v s1 ⟨x, H1, I1, r1, q1⟩ => ?_
  obtain ⟨a, e, ⟨xs, hq⟩, q⟩ := q1
  subst e
  cases r1
  obtain ⟨its, rv, p, hz⟩ := I1.list hq
  refine wpAny_pyIter_list p.isList ?_
  refine ⟨s1.heap.objs.size, [s1.heap.objs.size], _, _, H1, rfl, I1.kept (t' := s1.toks) fun b o e => Heap.get?_push_of_some _ e, turn_list a _, ⟨_, Heap.get?_push_size _ rfl, rfl, rfl⟩, fun b hb => ?_, q⟩
  have e : b = s1.heap.objs.size := by simpa using hb
  subst e
  exact I1.fpOk (Nat.le_refl _) (I1.hok.fresh (Nat.le_refl _))
theorem pi_tup {l : Expr} {tl : TE} (hl : PE X l tl) : PI X tg l (iTup X.K tl) := by
  intro pins s σ H R I h
  refine thn (hl pins s σ H _ I h) fun v s1 ⟨x, H1, I1, r1, q1⟩ => ?_
  obtain ⟨a, e, ⟨xs, hq⟩, q⟩ := q1
  subst e
  cases r1
  obtain ⟨its, rv, p, hz⟩ := I1.tuple hq
  refine wpAny_pyIter_tuple (show s1.heap.IsTuple a its.toArray from p) ?_
  refine ⟨s1.heap.objs.size, [s1.heap.objs.size], _, _, H1, rfl, I1.kept (t' := s1.toks) fun b o e => Heap.get?_push_of_some _ e, turn_tuple a _, ⟨_, Heap.get?_push_size _ rfl, rfl, rfl⟩, fun b hb => ?_, q⟩
  have e : b = s1.heap.objs.size := by simpa using hb
  subst e
  exact I1.fpOk (Nat.le_refl _) (I1.hok.fresh (Nat.le_refl _))
/-- a range object just made, walked -/
theorem range_it {pins : List (Addr × Obj)} {σ : St} {H : Hp} {s : Shared} {R : It → Hp → Prop} {E : Value → Shared → Prop} {lo hi : Int} {t u v : Tok} {tk : Nat} (I : Inv X pins σ H s) (h1 : -(2 ^ 62) ≤ lo) (h2 : lo < 2 ^ 62) (h3 : -(2 ^ 62) ≤ hi) (h4 : hi < 2 ^ 62)
    (q : R (Itr lo (hi - lo).toNat) H) : wpAny (model X.prog X.w) X.A (pyIter (.ref s.heap.objs.size)) (PIE X pins σ tg R) E { s with heap := s.heap.push { cls := .type "range", data := .fields #[.int lo t, .int hi u, .int 1 v] }, toks := tk } := by
  refine wpAny_pyIter_range (IsRange.new ..) (small_one h1 h2 h3 h4) ?_
  have I1 : Inv X pins σ H { s with heap := s.heap.push { cls := .type "range", data := .fields #[.int lo t, .int hi u, .int 1 v] }, toks := tk } := I.kept fun b o e => Heap.get?_push_of_some _ e
  refine ⟨(s.heap.push { cls := .type "range", data := .fields #[.int lo t, .int hi u, .int 1 v] }).objs.size, [(s.heap.push { cls := .type "range", data := .fields #[.int lo t, .int hi u, .int 1 v] }).objs.size], _, _, H, rfl,
    I1.kept (t' := tk) fun b o e => Heap.get?_push_of_some _ e, turn_range _ lo (hi - lo).toNat, ?_, fun b hb => ?_, q⟩
  · have e1 : lo + ((0 : Nat) : Int) * 1 = lo := by simp
    have e2 : (((hi - lo).toNat : Nat) : Int) - ((0 : Nat) : Int) = Builtin.Range.rangeSize lo hi 1 := by rw [rangeSize_one]; split <;> omega
    show IsRangeIter _ _ (lo + ((0 : Nat) : Int) * 1) ((((hi - lo).toNat : Nat) : Int) - ((0 : Nat) : Int)) 1
    rw [e1, e2]
    exact Heap.get?_push_size _ rfl
  · have e : b = (s.heap.push { cls := .type "range", data := .fields #[.int lo t, .int hi u, .int 1 v] }).objs.size := by simpa using hb
    subst e
    exact I1.fpOk (Nat.le_refl _) (I1.hok.fresh (Nat.le_refl _))
def iRng1 (ta : TA) : TI := fun σ H R => ta σ H fun vs H1 => ∃ j : Int, vs = [.int j] ∧ -(2 ^ 62) ≤ j ∧ j < 2 ^ 62 ∧ R (Itr 0 j.toNat) H1
def iRng2 (ta : TA) : TI := fun σ H R => ta σ H fun vs H1 => ∃ i j : Int, vs = [.int i, .int j] ∧ (-(2 ^ 62) ≤ i ∧ i < 2 ^ 62 ∧ -(2 ^ 62) ≤ j ∧ j < 2 ^ 62) ∧ R (Itr i (j - i).toNat) H1
theorem pi_range1 {a : Expr} {ta : TA} {p pos : Pos} (hg : Gl X "range") (hm : X.mg "range" = none) (ha : PA X [a] ta) (hs : starEach [a] X.env = [(false, eval a X.env)] := by rfl) : PI X tg (.Call (.Name "range" p) [a] [] pos) (iRng1 ta) := by
  intro pins s σ H R I h
  refine Call_ (ld_blt I hg hm boot_range (PyProof.Rows.callWith_type1 (thn (ha pos pins s σ H _ I h) fun us s1 ⟨vs, H1, I1, r1, q1⟩ => ?_) hs rfl))
  obtain ⟨j, e, q1, q2, q⟩ := q1
  subst e
  cases r1 with
  | cons r rr =>
    cases rr
    obtain ⟨t, rfl⟩ := r
    exact call_range_1 (range_it I1 (by omega) (by omega) q1 q2 (by simpa using q))
theorem pi_range2 {a b : Expr} {ta : TA} {p pos : Pos} (hg : Gl X "range") (hm : X.mg "range" = none) (ha : PA X [a, b] ta) (hs : starEach [a, b] X.env = [(false, eval a X.env), (false, eval b X.env)] := by rfl) (hs2 : starEach [b] X.env = [(false, eval b X.env)] := by rfl) :
    PI X tg (.Call (.Name "range" p) [a, b] [] pos) (iRng2 ta) := by
  intro pins s σ H R I h
  refine Call_ (ld_blt I hg hm boot_range (PyProof.Rows.callWith_type1 (thn (ha pos pins s σ H _ I h) fun us s1 ⟨vs, H1, I1, r1, q1⟩ => ?_) (by rw [hs, hs2]) (by rw [hs2]; rfl)))
  obtain ⟨i, j, e, ⟨q1, q2, q3, q4⟩, q⟩ := q1
  subst e
  cases r1 with
  | cons r rr =>
    cases rr with
    | cons r' rr =>
      cases rr
      obtain ⟨t, rfl⟩ := r
      obtain ⟨t', rfl⟩ := r'
      exact call_range_2 (range_it I1 q1 q2 q3 q4 q)

/-! ### for -/
/-- W: the invariant by the turn and a measure; N: what the body is to reach -/
def tFor (wi : TI) (g : TG) (tb : TS) : TS := fun D σ H => wi σ H fun J H1 => ∃ W : Nat → Nat → St → Hp → Prop, (∃ m, W 0 m σ H1) ∧ ∀ i m σ H, W i m σ H →
  (J.stop i H ∧ D.nx σ H) ∨ (J.go i H ∧ ∃ N : St → Hp → Prop, (∀ σ' H', N σ' H' → ∃ m', m' < m ∧ W (i + 1) m' σ' H') ∧ ∀ x H', J.yld i H x H' → g x σ H' fun σ2 H2 => tb { D with nx := N, ct := N, bk := D.nx } σ2 H2)
/-- the records at fp as they stand -/
def pinsAt (fp : List Addr) (h : Heap) : List (Addr × Obj) := fp.filterMap fun b => (h.get? b).map fun o => (b, o)
theorem mem_pinsAt {fp : List Addr} {h : Heap} {b : Addr} {o : Obj} (hb : b ∈ fp) (e : h.get? b = some o) : (b, o) ∈ pinsAt fp h := List.mem_filterMap.mpr ⟨b, hb, by rw [e]; rfl⟩
theorem of_pinsAt {fp : List Addr} {h : Heap} {p : Addr × Obj} (hp : p ∈ pinsAt fp h) : p.1 ∈ fp ∧ h.get? p.1 = some p.2 := by
  obtain ⟨b, hb, e⟩ := List.mem_filterMap.mp hp
  cases q : h.get? b with
  | none => rw [q] at e; cases e
  | some o =>
    rw [q] at e
    have e' : (b, o) = p := Option.some.inj e
    subst e'
    exact ⟨hb, q⟩
theorem Inv.pinned {pins : List (Addr × Obj)} {σ : St} {H : Hp} {s : Shared} {fp : List Addr} (I : Inv X pins σ H s) (hf : ∀ b ∈ fp, FpOk X pins H b) (ho : ∀ b ∈ fp, ∃ o, s.heap.get? b = some o ∧ ∀ v, o.data ≠ .cell v) : Inv X (pins ++ pinsAt fp s.heap) σ H s :=
  I.pins_of fun p hp => (List.mem_append.mp hp).elim (fun z => I.pin p (List.mem_append_right _ z)) fun z => by
    obtain ⟨hb, e⟩ := of_pinsAt z
    obtain ⟨f0, f1, f2, _⟩ := hf p.1 hb
    obtain ⟨o, e', d⟩ := ho p.1 hb
    rw [e] at e'; cases e'
    exact ⟨e, f0, f1, f2, d⟩
theorem Inv.unpinned {pins pl : List (Addr × Obj)} {σ : St} {H : Hp} {s : Shared} (I : Inv X (pins ++ pl) σ H s) : Inv X pins σ H s := I.pins_of fun p hp => I.pin p (List.mem_append_right _ (List.mem_append_left _ hp))
theorem ps_for {iter : Expr} {body : List Stmt} {wi : TI} {g : TG} {tb : TS} {pos : Pos} (hp : PassesOwn (model X.prog X.w) X.A X.env X.xe) (hc : X.calm = true) (hi : PI X tg iter wi) (hg : PG X tg g) (hb : PSs X body tb)
    (hs : ∀ x, foldedSetIterable iter X.env x = pure x := by intro _; rfl) : PS X (.For tg iter body [] pos) (tFor wi g tb) := by
  intro pins s σ H D I h
  refine wpAny_For (thn (hi pins s σ H _ I h) fun v s1 h1 => thn h1 fun itv s2 h2 => ?_) hs
  obtain ⟨it, fp, tn, J, H2, e, I2, T, st2, f2, W, ⟨m0, w0⟩, turn⟩ := h2
  subst e
  -- what stays true of the iterator's objects through the loop
  have stat : ∀ {H' : Hp}, (∀ b ∈ fp, H' b = none) → ∀ b ∈ fp, FpOk X pins H' b := fun hn b hb => ⟨hn b hb, (f2 b hb).2⟩
  refine codeAny_forLoop_any (fun n s' => ∃ i σ' H', Inv X pins σ' H' s' ∧ tn i s'.heap ∧ (∀ b ∈ fp, H' b = none) ∧ W i n σ' H') ?_ m0 ⟨0, σ, H2, I2, st2, fun b hb => (f2 b hb).1, w0⟩
  rintro n s3 ⟨i, σ3, H3, I3, st3, fr3, w3⟩
  rcases turn i n σ3 H3 w3 with ⟨stop, qn⟩ | ⟨go, N, hN, step⟩
  · refine wpAny_passesOwn hp (thn (T.done X rfl rfl rfl hc i pins s3 σ3 H3 X.xe I3 (stat fr3) st3 stop) fun r s4 ⟨hr, I4⟩ => ?_)
    subst hr
    exact wpAny_execs_nil ⟨σ3, H3, I4, qn⟩
  · refine wpAny_passesOwn hp (thn (T.item X rfl rfl rfl hc i pins s3 σ3 H3 X.xe I3 (stat fr3) st3 go) fun r s4 ⟨u, hr, h4⟩ => ?_)
    subst hr
    refine wpAny_passesOwn hp (thn h4 fun _ s5 ⟨x, H5, I5, r5, y5, st5, fr5⟩ => ?_)
    have I5' := I5.pinned (stat fr5) (T.obj _ _ st5)
    refine wpAny_passesOwn hp (thn (hg _ s5 σ3 H5 x u _ I5' r5 (step x H5 y5)) fun _ s6 ⟨σ6, H6, I6, q6⟩ => ?_)
    refine wpAny_passesOwn hp (thn (hb _ s6 σ6 H6 _ I6 q6) fun f s7 q7 => ?_)
    have again : ∀ {σ7 : St} {H7 : Hp}, Inv X (pins ++ pinsAt fp s5.heap) σ7 H7 s7 → N σ7 H7 → ∃ m, m < n ∧ ∃ i σ' H', Inv X pins σ' H' s7 ∧ tn i s7.heap ∧ (∀ b ∈ fp, H' b = none) ∧ W i m σ' H' := fun {σ7 H7} I7 n7 => by
      obtain ⟨m', hm, w7⟩ := hN σ7 H7 n7
      refine ⟨m', hm, i + 1, σ7, H7, I7.unpinned, T.keep _ _ _ st5 fun b hb o e => (I7.pin (b, o) (List.mem_append_right _ (List.mem_append_right _ (mem_pinsAt hb e)))).1, fun b hb => ?_, w7⟩
      obtain ⟨o, e, d⟩ := T.obj _ _ st5 b hb
      exact (I7.pin (b, o) (List.mem_append_right _ (List.mem_append_right _ (mem_pinsAt hb e)))).2.1
    cases f with
    | next => obtain ⟨σ7, H7, I7, n7⟩ := q7; exact again I7 n7
    | cont => obtain ⟨σ7, H7, I7, n7⟩ := q7; exact again I7 n7
    | brk => obtain ⟨σ7, H7, I7, q7⟩ := q7; exact ⟨σ7, H7, I7.unpinned, q7⟩
    | ret v => obtain ⟨x7, σ7, H7, I7, r7, q7⟩ := q7; exact ⟨x7, σ7, H7, I7.unpinned, r7, q7⟩
end

/-! ### the forms one uses -/
/-- over a list that the body leaves as it is -/
theorem for_list {K : PySem.W.Frag} {a : Addr} {xs : List V} {g : TG} {tb : TS} {D : Ends} {σ : St} {H : Hp} (Pv : Nat → St → Hp → Prop) (h0 : Pv 0 σ H) (hl : ∀ i σ H, i ≤ xs.length → Pv i σ H → SqL K H a xs)
    (hs : ∀ i x σ H, xs[i]? = some x → Pv i σ H → g x σ H fun σ2 H2 => tb { D with nx := Pv (i + 1), ct := Pv (i + 1), bk := D.nx } σ2 H2) (hd : ∀ σ H, Pv xs.length σ H → D.nx σ H) :
    ∃ W : Nat → Nat → St → Hp → Prop, (∃ m, W 0 m σ H) ∧ ∀ i m σ H, W i m σ H →
      ((Itl K a).stop i H ∧ D.nx σ H) ∨ ((Itl K a).go i H ∧ ∃ N : St → Hp → Prop, (∀ σ' H', N σ' H' → ∃ m', m' < m ∧ W (i + 1) m' σ' H') ∧ ∀ x H', (Itl K a).yld i H x H' → g x σ H' fun σ2 H2 => tb { D with nx := N, ct := N, bk := D.nx } σ2 H2) := by
  refine ⟨fun i m σ H => m = xs.length - i ∧ i ≤ xs.length ∧ Pv i σ H, ⟨xs.length, by simp, Nat.zero_le _, h0⟩, ?_⟩
  rintro i m σ H ⟨rfl, hi, p⟩
  have q := hl i σ H hi p
  by_cases hlt : i < xs.length
  · refine .inr ⟨⟨xs, xs[i], q, by simp [hlt]⟩, Pv (i + 1), fun σ' H' p' => ⟨xs.length - (i + 1), by omega, rfl, hlt, p'⟩, fun x H' y => ?_⟩
    obtain ⟨e, y⟩ := y
    subst e
    exact hs i x σ _ (y xs q) p
  · have e : i = xs.length := by omega
    subst e
    exact .inl ⟨⟨xs, q, Nat.le_refl _⟩, hd σ H p⟩
theorem for_tup {K : PySem.W.Frag} {a : Addr} {xs : List V} {g : TG} {tb : TS} {D : Ends} {σ : St} {H : Hp} (Pv : Nat → St → Hp → Prop) (h0 : Pv 0 σ H) (hl : ∀ i σ H, i ≤ xs.length → Pv i σ H → SqT K H a xs)
    (hs : ∀ i x σ H, xs[i]? = some x → Pv i σ H → g x σ H fun σ2 H2 => tb { D with nx := Pv (i + 1), ct := Pv (i + 1), bk := D.nx } σ2 H2) (hd : ∀ σ H, Pv xs.length σ H → D.nx σ H) :
    ∃ W : Nat → Nat → St → Hp → Prop, (∃ m, W 0 m σ H) ∧ ∀ i m σ H, W i m σ H →
      ((Itt K a).stop i H ∧ D.nx σ H) ∨ ((Itt K a).go i H ∧ ∃ N : St → Hp → Prop, (∀ σ' H', N σ' H' → ∃ m', m' < m ∧ W (i + 1) m' σ' H') ∧ ∀ x H', (Itt K a).yld i H x H' → g x σ H' fun σ2 H2 => tb { D with nx := N, ct := N, bk := D.nx } σ2 H2) := by
  refine ⟨fun i m σ H => m = xs.length - i ∧ i ≤ xs.length ∧ Pv i σ H, ⟨xs.length, by simp, Nat.zero_le _, h0⟩, ?_⟩
  rintro i m σ H ⟨rfl, hi, p⟩
  have q := hl i σ H hi p
  by_cases hlt : i < xs.length
  · refine .inr ⟨⟨xs, xs[i], q, by simp [hlt]⟩, Pv (i + 1), fun σ' H' p' => ⟨xs.length - (i + 1), by omega, rfl, hlt, p'⟩, fun x H' y => ?_⟩
    obtain ⟨e, y⟩ := y
    subst e
    exact hs i x σ _ (y xs q) p
  · have e : i = xs.length := by omega
    subst e
    exact .inl ⟨⟨xs, q, Nat.le_refl _⟩, hd σ H p⟩
theorem for_range {lo : Int} {n : Nat} {g : TG} {tb : TS} {D : Ends} {σ : St} {H : Hp} (Pv : Nat → St → Hp → Prop) (h0 : Pv 0 σ H)
    (hs : ∀ i σ H, i < n → Pv i σ H → g (.int (lo + i)) σ H fun σ2 H2 => tb { D with nx := Pv (i + 1), ct := Pv (i + 1), bk := D.nx } σ2 H2) (hd : ∀ σ H, Pv n σ H → D.nx σ H) :
    ∃ W : Nat → Nat → St → Hp → Prop, (∃ m, W 0 m σ H) ∧ ∀ i m σ H, W i m σ H →
      ((Itr lo n).stop i H ∧ D.nx σ H) ∨ ((Itr lo n).go i H ∧ ∃ N : St → Hp → Prop, (∀ σ' H', N σ' H' → ∃ m', m' < m ∧ W (i + 1) m' σ' H') ∧ ∀ x H', (Itr lo n).yld i H x H' → g x σ H' fun σ2 H2 => tb { D with nx := N, ct := N, bk := D.nx } σ2 H2) := by
  refine ⟨fun i m σ H => m = n - i ∧ i ≤ n ∧ Pv i σ H, ⟨n, by simp, Nat.zero_le _, h0⟩, ?_⟩
  rintro i m σ H ⟨rfl, hi, p⟩
  by_cases hlt : i < n
  · refine .inr ⟨hlt, Pv (i + 1), fun σ' H' p' => ⟨n - (i + 1), by omega, rfl, hlt, p'⟩, fun x H' y => ?_⟩
    obtain ⟨e, y⟩ := y
    subst e y
    exact hs i σ _ hlt p
  · have e : i = n := by omega
    subst e
    exact .inl ⟨Nat.le_refl _, hd σ H p⟩
/-- while, by a word and a measure of the state -/
theorem while_by {c : TT} {tb : TS} {D : Ends} {σ : St} {H : Hp} (Pv : St → Hp → Prop) (μ : St → Hp → Nat) (h0 : Pv σ H)
    (hs : ∀ σ H, Pv σ H → c σ H fun b H1 => if b = true then tb { D with nx := fun σ' H' => Pv σ' H' ∧ μ σ' H' < μ σ H, ct := fun σ' H' => Pv σ' H' ∧ μ σ' H' < μ σ H, bk := D.nx } σ H1 else D.nx σ H1)
    (mono : ∀ σ H Q Q', (∀ b H1, Q b H1 → Q' b H1) → c σ H Q → c σ H Q') : tWhile c tb D σ H := by
  refine ⟨fun m σ H => m = μ σ H ∧ Pv σ H, ⟨_, rfl, h0⟩, ?_⟩
  rintro m σ H ⟨rfl, p⟩
  refine mono σ H _ _ (fun b H1 q => ?_) (hs σ H p)
  cases b with
  | true => exact ⟨_, fun σ' H' ⟨p', l⟩ => ⟨_, l, rfl, p'⟩, q⟩
  | false => exact q
end L2

namespace L2
open PySem PySem.Spec PyProof.Rows

abbrev R2 := V → V → Hp → VK → Prop
/-- a two-place operation on values: f is binaryOp op, inplaceOp op or compareOp op -/
def OpR (X : Cx) (f : Value → Value → Sem Value) (r : R2) : Prop :=
  ∀ (pins : List (Addr × Obj)) (s : Shared) (σ : St) (H : Hp) (x y : V) (v u : Value) (Q : VK), Inv X pins σ H s → RelV x v → RelV y u → r x y H Q →
    wpAny (model X.prog X.w) X.A (f v u) (EP X pins σ Q) X.xe s
/-- a one-place operation -/
def UnR (X : Cx) (f : Value → Sem Value) (r : V → Hp → VK → Prop) : Prop :=
  ∀ (pins : List (Addr × Obj)) (s : Shared) (σ : St) (H : Hp) (x : V) (v : Value) (Q : VK), Inv X pins σ H s → RelV x v → r x H Q →
    wpAny (model X.prog X.w) X.A (f v) (EP X pins σ Q) X.xe s
/-- a call of a value that is known (a builtin, a type) with values -/
def CallR (X : Cx) (f : Value) (r : List V → Hp → VK → Prop) : Prop :=
  ∀ (pins : List (Addr × Obj)) (s : Shared) (σ : St) (H : Hp) (xs : List V) (us : List Value) (Q : VK), Inv X pins σ H s → Vals xs us → r xs H Q →
    wpAny (model X.prog X.w) X.A (call f us) (EP X pins σ Q) X.xe s
/-- a value's truth -/
def TruR (X : Cx) (r : V → Hp → (Bool → Hp → Prop) → Prop) : Prop :=
  ∀ (pins : List (Addr × Obj)) (s : Shared) (σ : St) (H : Hp) (x : V) (v : Value) (Q : Bool → Hp → Prop), Inv X pins σ H s → RelV x v → r x H Q →
    wpAny (model X.prog X.w) X.A (truthy v) (TP X pins σ Q) X.xe s

def tOp (r : R2) (ta tb : TE) : TE := fun σ H Q => ta σ H fun x H1 => tb σ H1 fun y H2 => r x y H2 Q
def tUn (r : V → Hp → VK → Prop) (ta : TE) : TE := fun σ H Q => ta σ H fun x H1 => r x H1 Q
/-- ints in, under C, and a value out -/
def rI (C : Int → Int → Prop) (g : Int → Int → V) : R2 := fun x y H Q => ∃ i j, x = .int i ∧ y = .int j ∧ C i j ∧ Q (g i j) H
def rI0 (g : Int → Int → V) : R2 := fun x y H Q => ∃ i j, x = .int i ∧ y = .int j ∧ Q (g i j) H
def rU (g : Int → V) : V → Hp → VK → Prop := fun x H Q => ∃ i, x = .int i ∧ Q (g i) H

section
variable {X : Cx} {a b c : Expr} {ta tb tc : TE} {pos : Pos}

theorem binT (ha : PE X a ta) (hb : PE X b tb) {pins : List (Addr × Obj)} {s : Shared} {σ : St} {H : Hp} {R : V → V → Hp → Prop} (I : Inv X pins σ H s)
    (h : ta σ H fun x H1 => tb σ H1 fun y H2 => R x y H2) {Q : Value → Shared → Prop} {f : Value → Value → Sem Value}
    (hf : ∀ v u s2 x y H2, Inv X pins σ H2 s2 → RelV x v → RelV y u → R x y H2 → wpAny (model X.prog X.w) X.A (f v u) Q X.xe s2) :
    wpAny (model X.prog X.w) X.A (eval a X.env) (fun v s₁ => wpAny (model X.prog X.w) X.A (eval b X.env) (fun u s₂ => wpAny (model X.prog X.w) X.A (f v u) Q X.xe s₂) X.xe s₁) X.xe s := by
  refine thn (ha pins s σ H _ I h) fun v s1 ⟨x, H1, I1, r1, q1⟩ => ?_
  refine thn (hb pins s1 σ H1 _ I1 q1) fun u s2 ⟨y, H2, I2, r2, q2⟩ => ?_
  exact hf v u s2 x y H2 I2 r1 r2 q2

theorem pe_op {op : Operator} {r : R2} (ho : OpR X (binaryOp op) r) (ha : PE X a ta) (hb : PE X b tb) : PE X (.BinOp a op b pos) (tOp r ta tb) := by
  intro pins s σ H Q I h
  exact wpAny_BinOp (binT ha hb I h fun v u s2 x y H2 I2 rx ry q => ho pins s2 σ H2 x y v u Q I2 rx ry q)
theorem pe_un {op : UnaryOp} {r : V → Hp → VK → Prop} (ho : UnR X (unaryOp op) r) (ha : PE X a ta) : PE X (.UnaryOp op a pos) (tUn r ta) := by
  intro pins s σ H Q I h
  exact UnaryOp_ (thn (ha pins s σ H _ I h) fun v s1 ⟨x, H1, I1, r1, q1⟩ => ho pins s1 σ H1 x v Q I1 r1 q1)
/-- a op= e at a name: the name's slot i -/
theorem augR {op : Operator} {r : R2} (ho : OpR X (inplaceOp op) r) {pins : List (Addr × Obj)} {s : Shared} {σ : St} {H : Hp} {x y : V} {v u : Value} {Q : VK} (I : Inv X pins σ H s)
    (rx : RelV x v) (ry : RelV y u) (q : r x y H Q) : wpAny (model X.prog X.w) X.A (inplaceOp op v u) (EP X pins σ Q) X.xe s := ho pins s σ H x y v u Q I rx ry q

/-! ### ints -/
theorem opI {f : Value → Value → Sem Value} {C : Int → Int → Prop} {g : Int → Int → Int}
    (rule : ∀ (i j : Int) (t u : Tok) (s : Shared) (Q : Value → Shared → Prop) (E : Value → Shared → Prop), C i j → Q (.int (g i j) s.toks) { s with toks := s.toks + 1 } → wpAny (model X.prog X.w) X.A (f (.int i t) (.int j u)) Q E s) :
    OpR X f (rI C fun i j => .int (g i j)) := by
  intro pins s σ H x y v u Q I rx ry h
  obtain ⟨i, j, rfl, rfl, hc, q⟩ := h
  obtain ⟨t, rfl⟩ := rx
  obtain ⟨t', rfl⟩ := ry
  exact rule i j t t' s _ _ hc ⟨.int (g i j), H, I.tok _, ⟨_, rfl⟩, q⟩
theorem opI0 {f : Value → Value → Sem Value} {g : Int → Int → Int}
    (rule : ∀ (i j : Int) (t u : Tok) (s : Shared) (Q : Value → Shared → Prop) (E : Value → Shared → Prop), Q (.int (g i j) s.toks) { s with toks := s.toks + 1 } → wpAny (model X.prog X.w) X.A (f (.int i t) (.int j u)) Q E s) :
    OpR X f (rI0 fun i j => .int (g i j)) := by
  intro pins s σ H x y v u Q I rx ry h
  obtain ⟨i, j, rfl, rfl, q⟩ := h
  obtain ⟨t, rfl⟩ := rx
  obtain ⟨t', rfl⟩ := ry
  exact rule i j t t' s _ _ ⟨.int (g i j), H, I.tok _, ⟨_, rfl⟩, q⟩
theorem opB0 {f : Value → Value → Sem Value} {g : Int → Int → Bool}
    (rule : ∀ (i j : Int) (t u : Tok) (s : Shared) (Q : Value → Shared → Prop) (E : Value → Shared → Prop), Q (.bool (g i j)) s → wpAny (model X.prog X.w) X.A (f (.int i t) (.int j u)) Q E s) :
    OpR X f (rI0 fun i j => .bl (g i j)) := by
  intro pins s σ H x y v u Q I rx ry h
  obtain ⟨i, j, rfl, rfl, q⟩ := h
  obtain ⟨t, rfl⟩ := rx
  obtain ⟨t', rfl⟩ := ry
  exact rule i j t t' s _ _ ⟨.bl (g i j), H, I, rfl, q⟩

def CDiv (i j : Int) : Prop := 0 < j ∧ j < 1073741824
def CDivN (i j : Int) : Prop := j ≠ 0 ∧ j.natAbs < 1073741824
def CPow (i j : Int) : Prop := 0 ≤ j ∧ j ≤ 1000000 ∧ i.natAbs < 2 ^ 64
def CMul (i j : Int) : Prop := (-(2 ^ 64) < i ∧ i < 2 ^ 64) ∨ (-(2 ^ 64) < j ∧ j < 2 ^ 64)
theorem CMul.ok {i j : Int} (h : CMul i j) : IntMulOk i j := by
  rcases h with ⟨h1, h2⟩ | ⟨h1, h2⟩
  · exact .of_left (intBits_le_64 h1 h2)
  · exact .of_right (intBits_le_64 h1 h2)
theorem two_pow_nn (k : Nat) : (0 : Int) ≤ 2 ^ k := by
  rw [two_pow_cast]
  exact Int.natCast_nonneg _

theorem op_add : OpR X (binaryOp .Add) (rI0 fun i j => .int (i + j)) := opI0 fun _ _ _ _ _ _ _ q => add_int q
theorem op_sub : OpR X (binaryOp .Sub) (rI0 fun i j => .int (i - j)) := opI0 fun _ _ _ _ _ _ _ q => sub_int q
theorem op_mul : OpR X (binaryOp .Mult) (rI CMul fun i j => .int (i * j)) := opI fun _ _ _ _ _ _ _ hc q => mul_int q hc.ok
/-- // by a positive divisor -/
theorem op_fdiv : OpR X (binaryOp .FloorDiv) (rI CDiv fun i j => .int (i / j)) := opI fun i j _ _ _ _ _ hc q => by
  have h1 : (0 : Int) < j := hc.1
  have h2 : j < 1073741824 := hc.2
  exact floordiv_int (by omega) (by rw [Int.fdiv_eq_ediv_of_nonneg i (by omega)]; exact q) (.inl (PyProof.noPylong_small (by omega)))
theorem op_fdivN : OpR X (binaryOp .FloorDiv) (rI CDivN fun i j => .int (i.fdiv j)) := opI fun _ _ _ _ _ _ _ hc q => floordiv_int hc.1 q (.inl (PyProof.noPylong_small hc.2))
/-- % by a positive divisor of any size -/
theorem op_mod : OpR X (binaryOp .Mod) (rI (fun _ j => 0 < j) fun i j => .int (i % j)) := opI fun i j _ _ _ _ _ hc q => by
  have h1 : (0 : Int) < j := hc
  exact mod_int' (by omega) (by rw [Int.fmod_eq_emod_of_nonneg i (by omega)]; exact q)
theorem op_modN : OpR X (binaryOp .Mod) (rI (fun _ j => j ≠ 0) fun i j => .int (i.fmod j)) := opI fun _ _ _ _ _ _ _ hc q => mod_int' hc q
theorem op_pow : OpR X (binaryOp .Pow) (rI CPow fun i j => .int (i ^ j.toNat)) := opI fun _ _ _ _ _ _ _ hc q => pow_int_small hc.1 hc.2.1 hc.2.2 q
theorem op_shl : OpR X (binaryOp .LShift) (rI CPow fun i j => .int (i * 2 ^ j.toNat)) := opI fun _ _ _ _ _ _ _ hc q => lshift_int_small hc.1 hc.2.1 hc.2.2 q
theorem op_shr : OpR X (binaryOp .RShift) (rI (fun _ j => 0 ≤ j) fun i j => .int (i / 2 ^ j.toNat)) := opI fun i j _ _ _ _ _ hc q =>
  rshift_int hc (by rw [Int.fdiv_eq_ediv_of_nonneg i (two_pow_nn _)]; exact q)
theorem op_and : OpR X (binaryOp .BitAnd) (rI0 fun i j => .int (Builtin.bitAnd i j)) := opI0 fun _ _ _ _ _ _ _ q => and_int q
theorem op_or : OpR X (binaryOp .BitOr) (rI0 fun i j => .int (Builtin.bitOr i j)) := opI0 fun _ _ _ _ _ _ _ q => or_int q
theorem op_xor : OpR X (binaryOp .BitXor) (rI0 fun i j => .int (Builtin.bitXor i j)) := opI0 fun _ _ _ _ _ _ _ q => xor_int q

theorem iop_add : OpR X (inplaceOp .Add) (rI0 fun i j => .int (i + j)) := opI0 fun _ _ _ _ _ _ _ q => iadd_int q
theorem iop_sub : OpR X (inplaceOp .Sub) (rI0 fun i j => .int (i - j)) := opI0 fun _ _ _ _ _ _ _ q => isub_int q
theorem iop_mul : OpR X (inplaceOp .Mult) (rI CMul fun i j => .int (i * j)) := opI fun _ _ _ _ _ _ _ hc q => imul_int q hc.ok
theorem iop_fdiv : OpR X (inplaceOp .FloorDiv) (rI CDiv fun i j => .int (i / j)) := opI fun i j _ _ _ _ _ hc q => by
  have h1 : (0 : Int) < j := hc.1
  have h2 : j < 1073741824 := hc.2
  exact ifloordiv_int (by omega) (by rw [Int.fdiv_eq_ediv_of_nonneg i (by omega)]; exact q) (.inl (PyProof.noPylong_small (by omega)))
theorem iop_mod : OpR X (inplaceOp .Mod) (rI (fun _ j => 0 < j) fun i j => .int (i % j)) := opI fun i j _ _ _ _ _ hc q => by
  have h1 : (0 : Int) < j := hc
  exact imod_int (by omega) (by rw [Int.fmod_eq_emod_of_nonneg i (by omega)]; exact q)
theorem iop_shl : OpR X (inplaceOp .LShift) (rI CPow fun i j => .int (i * 2 ^ j.toNat)) := opI fun _ _ _ _ _ _ _ hc q => ilshift_int_small hc.1 hc.2.1 hc.2.2 q
theorem iop_shr : OpR X (inplaceOp .RShift) (rI (fun _ j => 0 ≤ j) fun i j => .int (i / 2 ^ j.toNat)) := opI fun i j _ _ _ _ _ hc q =>
  irshift_int hc (by rw [Int.fdiv_eq_ediv_of_nonneg i (two_pow_nn _)]; exact q)
theorem iop_and : OpR X (inplaceOp .BitAnd) (rI0 fun i j => .int (Builtin.bitAnd i j)) := opI0 fun _ _ _ _ _ _ _ q => iand_int q
theorem iop_or : OpR X (inplaceOp .BitOr) (rI0 fun i j => .int (Builtin.bitOr i j)) := opI0 fun _ _ _ _ _ _ _ q => ior_int q
theorem iop_xor : OpR X (inplaceOp .BitXor) (rI0 fun i j => .int (Builtin.bitXor i j)) := opI0 fun _ _ _ _ _ _ _ q => ixor_int q

theorem unI {f : Value → Sem Value} {g : Int → Int}
    (rule : ∀ (i : Int) (t : Tok) (s : Shared) (Q : Value → Shared → Prop) (E : Value → Shared → Prop), Q (.int (g i) s.toks) { s with toks := s.toks + 1 } → wpAny (model X.prog X.w) X.A (f (.int i t)) Q E s) :
    UnR X f (rU fun i => .int (g i)) := by
  intro pins s σ H x v Q I rx h
  obtain ⟨i, rfl, q⟩ := h
  obtain ⟨t, rfl⟩ := rx
  exact rule i t s _ _ ⟨.int (g i), H, I.tok _, ⟨_, rfl⟩, q⟩
theorem un_neg : UnR X (unaryOp .USub) (rU fun i => .int (-i)) := unI fun _ _ _ _ _ q => neg_int q
theorem un_inv : UnR X (unaryOp .Invert) (rU fun i => .int (Builtin.bitNot i)) := unI fun _ _ _ _ _ q => invert_int q

/-! ### bools among ints: n += (a < b) -/
theorem op_add_ib : OpR X (binaryOp .Add) (fun x y H Q => ∃ i k, x = .int i ∧ y = .bl k ∧ Q (.int (i + b2i k)) H) := by
  intro pins s σ H x y v u Q I rx ry h
  obtain ⟨i, k, rfl, rfl, q⟩ := h
  obtain ⟨t, rfl⟩ := rx
  cases ry
  exact add_int_bool ⟨.int (i + b2i k), H, I.tok _, ⟨_, rfl⟩, q⟩
end

/-! ### comparisons -/
/-- the scalars that == tells apart as data does -/
def scal : V → V → Bool
  | .non, .non => true | .non, .int _ => true | .int _, .non => true | .non, .bl _ => true | .bl _, .non => true | .non, .str _ => true | .str _, .non => true
  | .int _, .int _ => true | .bl _, .bl _ => true | .str _, .str _ => true | .byt _, .byt _ => true
  | .int _, .str _ => true | .str _, .int _ => true | .bl _, .str _ => true | .str _, .bl _ => true
  | _, _ => false
def rEq : R2 := fun x y H Q => scal x y = true ∧ Q (.bl (decide (x = y))) H
def rNe : R2 := fun x y H Q => scal x y = true ∧ Q (.bl (!decide (x = y))) H

theorem dec_int {i j : Int} : decide (V.int i = V.int j) = (i == j) := by
  rw [Bool.eq_iff_iff]
  simp
theorem dec_bl {i j : Bool} : decide (V.bl i = V.bl j) = (i == j) := by
  rw [Bool.eq_iff_iff]
  simp
theorem dec_str {i j : Str} : decide (V.str i = V.str j) = (i == j) := by
  rw [Bool.eq_iff_iff]
  simp
theorem dec_byt {i j : Array UInt8} : decide (V.byt i = V.byt j) = (i.toList == j.toList) := by
  rw [Bool.eq_iff_iff]
  cases i
  cases j
  simp

section
variable {X : Cx} {a b c : Expr} {ta tb tc : TE} {pos : Pos}
theorem fin_bl {pins : List (Addr × Obj)} {σ : St} {H : Hp} {s : Shared} {Q : VK} {k k' : Bool} (I : Inv X pins σ H s) (q : Q (.bl k) H) (e : k = k') : EP X pins σ Q (.bool k') s := by
  subst e
  exact ⟨.bl k, H, I, rfl, q⟩
theorem op_eq : OpR X (compareOp .Eq) rEq := by
  intro pins s σ H x y v u Q I rx ry h
  obtain ⟨hs, q⟩ := h
  cases x with
  | non =>
    cases rx
    cases y with
    | non => cases ry; exact PySem.EqNone.eq_none_none (fin_bl I q (by simp))
    | bl j => cases ry; exact PySem.EqNone.eq_none_bool (fin_bl I q (by simp))
    | int j => obtain ⟨t', rfl⟩ := ry; exact PySem.EqNone.eq_none_int (fin_bl I q (by simp))
    | str j => obtain ⟨t', rfl⟩ := ry; exact PySem.EqNone.eq_none_str (fin_bl I q (by simp))
    | _ => exact absurd (show false = true from hs) Bool.false_ne_true
  | bl i =>
    cases rx
    cases y with
    | non => cases ry; exact PySem.EqNone.eq_bool_none (fin_bl I q (by simp))
    | bl j => cases ry; exact eq_bool (fin_bl I q dec_bl)
    | str j => obtain ⟨t', rfl⟩ := ry; exact PySem.EqMixed.eq_bool_str (fin_bl I q (by simp))
    | _ => exact absurd (show false = true from hs) Bool.false_ne_true
  | int i =>
    obtain ⟨t, rfl⟩ := rx
    cases y with
    | non => cases ry; exact PySem.EqNone.eq_int_none (fin_bl I q (by simp))
    | int j => obtain ⟨t', rfl⟩ := ry; exact eq_int (fin_bl I q dec_int)
    | str j => obtain ⟨t', rfl⟩ := ry; exact PySem.EqMixed.eq_int_str (fin_bl I q (by simp))
    | _ => exact absurd (show false = true from hs) Bool.false_ne_true
  | str i =>
    obtain ⟨t, rfl⟩ := rx
    cases y with
    | non => cases ry; exact PySem.EqNone.eq_str_none (fin_bl I q (by simp))
    | bl j => cases ry; exact PySem.EqMixed.eq_str_bool (fin_bl I q (by simp))
    | int j => obtain ⟨t', rfl⟩ := ry; exact PySem.EqMixed.eq_str_int (fin_bl I q (by simp))
    | str j => obtain ⟨t', rfl⟩ := ry; exact eq_str (fin_bl I q dec_str)
    | _ => exact absurd (show false = true from hs) Bool.false_ne_true
  | byt i =>
    obtain ⟨t, rfl⟩ := rx
    cases y with
    | byt j => obtain ⟨t', rfl⟩ := ry; exact PySem.W.eq_bytes (fin_bl I q dec_byt)
    | _ => exact absurd (show false = true from hs) Bool.false_ne_true
  | _ => cases y <;> exact absurd (show false = true from hs) Bool.false_ne_true
theorem op_ne : OpR X (compareOp .NotEq) rNe := by
  intro pins s σ H x y v u Q I rx ry h
  obtain ⟨hs, q⟩ := h
  cases x with
  | non =>
    cases rx
    cases y with
    | non => cases ry; exact PySem.EqNone.ne_none_none (fin_bl I q (by simp))
    | bl j => cases ry; exact PySem.EqNone.ne_none_bool (fin_bl I q (by simp))
    | int j => obtain ⟨t', rfl⟩ := ry; exact PySem.EqNone.ne_none_int (fin_bl I q (by simp))
    | str j => obtain ⟨t', rfl⟩ := ry; exact PySem.EqNone.ne_none_str (fin_bl I q (by simp))
    | _ => exact absurd (show false = true from hs) Bool.false_ne_true
  | bl i =>
    cases rx
    cases y with
    | non => cases ry; exact PySem.EqNone.ne_bool_none (fin_bl I q (by simp))
    | bl j => cases ry; exact ne_bool (fin_bl I q (congrArg not dec_bl))
    | str j => obtain ⟨t', rfl⟩ := ry; exact PySem.EqMixed.ne_bool_str (fin_bl I q (by simp))
    | _ => exact absurd (show false = true from hs) Bool.false_ne_true
  | int i =>
    obtain ⟨t, rfl⟩ := rx
    cases y with
    | non => cases ry; exact PySem.EqNone.ne_int_none (fin_bl I q (by simp))
    | int j => obtain ⟨t', rfl⟩ := ry; exact ne_int (fin_bl I q (congrArg not dec_int))
    | str j => obtain ⟨t', rfl⟩ := ry; exact PySem.EqMixed.ne_int_str (fin_bl I q (by simp))
    | _ => exact absurd (show false = true from hs) Bool.false_ne_true
  | str i =>
    obtain ⟨t, rfl⟩ := rx
    cases y with
    | non => cases ry; exact PySem.EqNone.ne_str_none (fin_bl I q (by simp))
    | bl j => cases ry; exact PySem.EqMixed.ne_str_bool (fin_bl I q (by simp))
    | int j => obtain ⟨t', rfl⟩ := ry; exact PySem.EqMixed.ne_str_int (fin_bl I q (by simp))
    | str j => obtain ⟨t', rfl⟩ := ry; exact ne_str (fin_bl I q (congrArg not dec_str))
    | _ => exact absurd (show false = true from hs) Bool.false_ne_true
  | byt i =>
    obtain ⟨t, rfl⟩ := rx
    cases y with
    | byt j => obtain ⟨t', rfl⟩ := ry; exact PySem.W.ne_bytes (fin_bl I q (congrArg not dec_byt))
    | _ => exact absurd (show false = true from hs) Bool.false_ne_true
  | _ => cases y <;> exact absurd (show false = true from hs) Bool.false_ne_true

theorem op_lt : OpR X (compareOp .Lt) (rI0 fun i j => .bl (decide (i < j))) := opB0 fun _ _ _ _ _ _ _ q => lt_int q
theorem op_le : OpR X (compareOp .LtE) (rI0 fun i j => .bl (decide (i ≤ j))) := opB0 fun _ _ _ _ _ _ _ q => le_int q
theorem op_gt : OpR X (compareOp .Gt) (rI0 fun i j => .bl (decide (j < i))) := opB0 fun _ _ _ _ _ _ _ q => gt_int q
theorem op_ge : OpR X (compareOp .GtE) (rI0 fun i j => .bl (decide (j ≤ i))) := opB0 fun _ _ _ _ _ _ _ q => ge_int q
theorem op_lt_str : OpR X (compareOp .Lt) (fun x y H Q => ∃ i j, x = .str i ∧ y = .str j ∧ Q (.bl (decide (i.cps.toList < j.cps.toList))) H) := by
  intro pins s σ H x y v u Q I rx ry h
  obtain ⟨i, j, rfl, rfl, q⟩ := h
  obtain ⟨t, rfl⟩ := rx
  obtain ⟨t', rfl⟩ := ry
  exact lt_str (fin_bl I q rfl)
/-- the one string within the other -/
theorem op_in_str : OpR X (compareOp .In) (fun x y H Q => ∃ i j, x = .str i ∧ y = .str j ∧ Q (.bl (!(Builtin.Str.occurrences j i 0 j.length 1).isEmpty)) H) := by
  intro pins s σ H x y v u Q I rx ry h
  obtain ⟨i, j, rfl, rfl, q⟩ := h
  obtain ⟨t, rfl⟩ := rx
  obtain ⟨t', rfl⟩ := ry
  exact in_str (fin_bl I q rfl)

/-- is None, is not None: the right side a value none -/
theorem op_isN : OpR X (compareOp .Is) (fun x y H Q => y = .non ∧ Q (.bl (decide (x = .non))) H) := by
  intro pins s σ H x y v u Q I rx ry h
  obtain ⟨rfl, q⟩ := h
  cases ry
  refine is_none_gen (fin_bl I q ?_)
  cases x <;> first
    | (cases rx; rfl)
    | (obtain ⟨t, rfl⟩ := rx; rfl)
theorem op_notN : OpR X (compareOp .IsNot) (fun x y H Q => y = .non ∧ Q (.bl (!decide (x = .non))) H) := by
  intro pins s σ H x y v u Q I rx ry h
  obtain ⟨rfl, q⟩ := h
  cases ry
  refine isnot_none_gen (fin_bl I q ?_)
  cases x <;> first
    | (cases rx; rfl)
    | (obtain ⟨t, rfl⟩ := rx; rfl)

theorem op_notin_str : OpR X (compareOp .NotIn) (fun x y H Q => ∃ i j, x = .str i ∧ y = .str j ∧ Q (.bl (!(!(Builtin.Str.occurrences j i 0 j.length 1).isEmpty))) H) := by
  intro pins s σ H x y v u Q I rx ry h
  obtain ⟨i, j, rfl, rfl, q⟩ := h
  obtain ⟨t, rfl⟩ := rx
  obtain ⟨t', rfl⟩ := ry
  exact notIn_str (fin_bl I q rfl)
/-- is, is not of two objects that are tracked lists or instances -/
def isObj : HO → Bool
  | .lst _ => true
  | .ins _ _ _ => true
  | _ => false
theorem obj_there {pins : List (Addr × Obj)} {s : Shared} {σ : St} {H : Hp} {a : Addr} {o : HO} (I : Inv X pins σ H s) (h : H a = some o) (p : isObj o = true) : ∃ ob, s.heap.get? a = some ob ∧ ob.cls ≠ .type "tuple" := by
  cases o with
  | lst xs =>
    obtain ⟨_, its, n, _, e⟩ : xs.length ≤ sizeLine ∧ ∃ (its : List Value) (n : Nat), Vals xs its ∧ s.heap.get? a = some { cls := .type "list", data := .seq its.toArray n } := I.hok a _ h
    exact ⟨_, e, (by show Value.type "list" ≠ .type "tuple"; decide +kernel)⟩
  | ins C dx fs =>
    have x := I.hok a _ h
    obtain ⟨_, _, _, e, _⟩ := x
    exact ⟨_, e, (by show Value.ref C ≠ .type "tuple"; exact fun z => by cases z)⟩
  | _ => exact absurd (show false = true from p) Bool.false_ne_true
theorem op_is_ref : OpR X (compareOp .Is) (fun x y H Q => ∃ a b oa ob, x = .ref a ∧ y = .ref b ∧ H a = some oa ∧ isObj oa = true ∧ H b = some ob ∧ isObj ob = true ∧ Q (.bl (decide (a = b))) H) := by
  intro pins s σ H x y v u Q I rx ry h
  obtain ⟨a, b, oa, ob, rfl, rfl, ha, pa, hb, pb, q⟩ := h
  cases rx
  cases ry
  obtain ⟨o1, e1, n1⟩ := obj_there I ha pa
  obtain ⟨o2, e2, _⟩ := obj_there I hb pb
  by_cases z : a = b
  · subst z
    exact wpAny_is_ref_self (fin_bl I q (by simp))
  · exact wpAny_is_ref_other z e1 e2 n1 (fin_bl I q (by simp [z]))
theorem op_isnot_ref : OpR X (compareOp .IsNot) (fun x y H Q => ∃ a b oa ob, x = .ref a ∧ y = .ref b ∧ H a = some oa ∧ isObj oa = true ∧ H b = some ob ∧ isObj ob = true ∧ Q (.bl (!decide (a = b))) H) := by
  intro pins s σ H x y v u Q I rx ry h
  obtain ⟨a, b, oa, ob, rfl, rfl, ha, pa, hb, pb, q⟩ := h
  cases rx
  cases ry
  obtain ⟨o1, e1, n1⟩ := obj_there I ha pa
  obtain ⟨o2, e2, _⟩ := obj_there I hb pb
  by_cases z : a = b
  · subst z
    exact wpAny_isNot_ref_self (fin_bl I q (by simp))
  · exact wpAny_isNot_ref_other z e1 e2 n1 (fin_bl I q (by simp [z]))

/-- two rules for one operation: by cases -/
theorem OpR.or {f : Value → Value → Sem Value} {r r' : R2} (h : OpR X f r) (h' : OpR X f r') : OpR X f (fun x y H Q => r x y H Q ∨ r' x y H Q) := by
  intro pins s σ H x y v u Q I rx ry q
  rcases q with q | q
  · exact h pins s σ H x y v u Q I rx ry q
  · exact h' pins s σ H x y v u Q I rx ry q

theorem nomark (b : Expr) {op : CmpOp} (h : op ≠ .In := by decide) (h2 : op ≠ .NotIn := by decide) : behindInMarks op b = false := by
  have e1 : (op == CmpOp.In) = false := by cases op <;> first | rfl | exact absurd rfl h
  have e2 : (op == CmpOp.NotIn) = false := by cases op <;> first | rfl | exact absurd rfl h2
  cases b <;> simp [behindInMarks, e1, e2]
/-- a comparison as a value; hm: nomark b, or (for in, not in) by with_unfolding_all rfl -/
theorem pe_cmpR {op : CmpOp} {r : R2} (ho : OpR X (compareOp op) r) (ha : PE X a ta) (hb : PE X b tb) (hm : behindInMarks op b = false) : PE X (.Compare a [op] [b] pos) (tOp r ta tb) := by
  intro pins s σ H Q I h
  exact wpAny_Compare1 (binT ha hb I h fun v u s2 x y H2 I2 rx ry q => ho pins s2 σ H2 x y v u Q I2 rx ry q) hm
/-- a reading of a value as a test -/
def tTest (t : TE) : TT := fun σ H Q => t σ H fun x H' => ∃ k, x = .bl k ∧ Q k H'
theorem pt_cmpR {op : CmpOp} {r : R2} (ho : OpR X (compareOp op) r) (ha : PE X a ta) (hb : PE X b tb) (hm : behindInMarks op b = false) : PT X (.Compare a [op] [b] pos) (tTest (tOp r ta tb)) := by
  intro pins s σ H Q I h
  refine wpAny_isTrue_Compare1 (thn (ha pins s σ H _ I h) fun v s1 ⟨x, H1, I1, r1, q1⟩ => thn (hb pins s1 σ H1 _ I1 q1) fun u s2 ⟨y, H2, I2, r2, q2⟩ =>
    thn (ho pins s2 σ H2 x y v u _ I2 r1 r2 q2) fun c s3 ⟨z, H3, I3, r3, k, e, q3⟩ => ?_) hm
  subst e
  cases r3
  exact wpAny_truthy_bool ⟨H3, I3, q3⟩
/-- a op1 b op2 c -/
def tChain (r r' : R2) (ta tb tc : TE) : TE := fun σ H Q => ta σ H fun x H1 => tb σ H1 fun y H2 => r x y H2 fun z H3 => ∃ k, z = .bl k ∧
  (if k = true then tc σ H3 fun w' H4 => r' y w' H4 Q else Q (.bl false) H3)
theorem pe_chain {op op' : CmpOp} {r r' : R2} (ho : OpR X (compareOp op) r) (ho' : OpR X (compareOp op') r') (ha : PE X a ta) (hb : PE X b tb) (hc : PE X c tc)
    (hm : lastMarks [op, op'] [b, c] = false := by with_unfolding_all rfl) : PE X (.Compare a [op, op'] [b, c] pos) (tChain r r' ta tb tc) := by
  intro pins s σ H Q I h
  refine Compare_chain (thn (ha pins s σ H _ I h) fun v s1 ⟨x, H1, I1, r1, q1⟩ => chain_link (thn (hb pins s1 σ H1 _ I1 q1) fun u s2 ⟨y, H2, I2, r2, q2⟩ =>
    thn (ho pins s2 σ H2 x y v u _ I2 r1 r2 q2) fun d s3 ⟨z, H3, I3, r3, k, e, q3⟩ => ?_)) hm
  subst e
  cases r3
  refine wpAny_truthy_bool ?_
  cases k with
  | false => exact ite_ff ⟨.bl false, H3, I3, rfl, q3⟩
  | true => exact ite_tt (chain_last (thn (hc pins s3 σ H3 _ I3 q3) fun w' s4 ⟨z', H4, I4, r4, q4⟩ => ho' pins s4 σ H4 y z' u w' Q I4 r2 r4 q4))
theorem pt_chain {op op' : CmpOp} {r r' : R2} (ho : OpR X (compareOp op) r) (ho' : OpR X (compareOp op') r') (ha : PE X a ta) (hb : PE X b tb) (hc : PE X c tc)
    (hm : lastMarks [op, op'] [b, c] = false := by with_unfolding_all rfl) : PT X (.Compare a [op, op'] [b, c] pos) (tTest (tChain r r' ta tb tc)) := by
  intro pins s σ H Q I h
  refine isTrue_chain (thn (ha pins s σ H _ I h) fun v s1 ⟨x, H1, I1, r1, q1⟩ => test_link (thn (hb pins s1 σ H1 _ I1 q1) fun u s2 ⟨y, H2, I2, r2, q2⟩ =>
    thn (ho pins s2 σ H2 x y v u _ I2 r1 r2 q2) fun d s3 ⟨z, H3, I3, r3, k, e, q3⟩ => ?_)) hm
  subst e
  cases r3
  refine wpAny_truthy_bool ?_
  cases k with
  | false =>
    obtain ⟨k', e', q'⟩ := q3
    cases e'
    exact ite_ff ⟨H3, I3, q'⟩
  | true =>
    refine ite_tt (test_last (thn (hc pins s3 σ H3 _ I3 q3) fun w' s4 ⟨z', H4, I4, r4, q4⟩ => thn (ho' pins s4 σ H4 y z' u w' _ I4 r2 r4 q4) fun d' s5 ⟨z2, H5, I5, r5, k2, e2, q5⟩ => ?_))
    subst e2
    cases r5
    exact wpAny_truthy_bool ⟨H5, I5, q5⟩

/-! ### truth -/
/-- a value's truth by the abstract heap -/
def TruV (K : PySem.W.Frag) (x : V) (H : Hp) (k : Bool) : Prop :=
  match x with
  | .non => k = false
  | .bl b => k = b
  | .int i => k = (i != 0)
  | .str y => y.length ≤ sizeLine ∧ k = ((y.length : Int) != 0)
  | .byt y => y.size ≤ sizeLine ∧ k = ((y.size : Int) != 0)
  | .ref p => (∃ xs, SqL K H p xs ∧ k = !xs.isEmpty) ∨ (∃ xs, SqT K H p xs ∧ k = !xs.isEmpty) ∨ ∃ kvs, H p = some (.dK kvs) ∧ k = !kvs.isEmpty
  | _ => False
theorem isEmpty_kv {κ : Type} {kvs : List (κ × V)} {vs : List (κ × Value)} (r : KV kvs vs) : (!vs.isEmpty) = !kvs.isEmpty := by
  cases r <;> rfl
theorem isEmpty_of {xs : List V} {its : List Value} (r : Vals xs its) : (!its.toArray.isEmpty) = !xs.isEmpty := by
  cases r <;> simp
theorem line63 : (sizeLine : Nat) < 2 ^ 63 := by rw [sizeLine_eq]; decide
theorem tru_ok : TruR X (fun x H Q => ∃ k, TruV X.K x H k ∧ Q k H) := by
  intro pins s σ H x v Q I rx h
  obtain ⟨k, e, q⟩ := h
  have hl := line63
  have hs : sizeLine = 16777216 := sizeLine_eq
  cases x with
  | non =>
    cases rx
    have e' : k = false := e
    subst e'
    exact truthy_none ⟨H, I, q⟩
  | bl b =>
    cases rx
    have e' : k = b := e
    subst e'
    exact wpAny_truthy_bool ⟨H, I, q⟩
  | int i =>
    obtain ⟨t, rfl⟩ := rx
    have e' : k = (i != 0) := e
    subst e'
    exact PySem.P.truthy_int ⟨H, I, q⟩
  | str y =>
    obtain ⟨t, rfl⟩ := rx
    obtain ⟨hy, e'⟩ : y.length ≤ sizeLine ∧ k = ((y.length : Int) != 0) := e
    subst e'
    exact PySem.P.truthy_str (by omega) ⟨H, I.tok _, q⟩
  | byt y =>
    obtain ⟨t, rfl⟩ := rx
    obtain ⟨hy, e'⟩ : y.size ≤ sizeLine ∧ k = ((y.size : Int) != 0) := e
    subst e'
    exact PySem.W.truthy_bytes (by omega) ⟨H, I.tok _, q⟩
  | ref p =>
    cases rx
    have e' : (∃ xs, SqL X.K H p xs ∧ k = !xs.isEmpty) ∨ (∃ xs, SqT X.K H p xs ∧ k = !xs.isEmpty) ∨ ∃ kvs, H p = some (.dK kvs) ∧ k = !kvs.isEmpty := e
    rcases e' with ⟨xs, hx, e'⟩ | ⟨xs, hx, e'⟩ | ⟨kvs, hx, e'⟩
    · subst e'
      obtain ⟨its, r, pl, hz⟩ := I.list hx
      have hlen := r.length
      exact wpAny_truthy_list pl.isList (by simp only [List.size_toArray]; omega) ⟨H, I.tok _, by rw [isEmpty_of r]; exact q⟩
    · subst e'
      obtain ⟨its, r, pl, hz⟩ := I.tuple hx
      have hlen := r.length
      exact truthy_tuple pl (by simp only [List.size_toArray]; omega) ⟨H, I.tok _, by rw [isEmpty_of r]; exact q⟩
    · subst e'
      obtain ⟨hz, hS, vs, r, m⟩ : kvs.length ≤ sizeLine ∧ (p == sysModules) = false ∧ ∃ vs, KV kvs vs ∧ s.heap.DictOf (mixKind X.prog X.w) p vs := I.hok p _ hx
      have hlen : kvs.length = vs.length := Paired.length r
      exact wpAny_truthy_dict hS m (by omega) ⟨H, I.tok _, by rw [isEmpty_kv r]; exact q⟩
  | _ => exact (show False from e).elim
/-- any expression whose test is its value's truth (a name, a call, a subscript, a field ..: he by fun _ => rfl) -/
theorem pt_truth (ha : PE X a ta) (he : ∀ whole, isTrue a X.env whole = (do let v ← whole; standAt a.pos; holding [v] (truthy v))) :
    PT X a (fun σ H Q => ta σ H fun x H' => ∃ k, TruV X.K x H' k ∧ Q k H') := by
  intro pins s σ H Q I h
  exact isTrue_plain (thn (ha pins s σ H _ I h) fun v s1 ⟨x, H1, I1, r1, q1⟩ => tru_ok pins s1 σ H1 x v Q I1 r1 q1) (he _)

/-! ### strs and bytes -/
theorem pe_byt {x : List UInt8} {k : Nat} : PE X (.Constant (.bytes x) k pos) (fun _ H Q => Q (.byt x.toArray) H) := fun _ _ _ H _ I h => PySem.W.Constant_bytes ⟨.byt x.toArray, H, I.tok _, ⟨_, rfl⟩, h⟩
theorem op_add_str : OpR X (binaryOp .Add) (fun x y H Q => ∃ i j, x = .str i ∧ y = .str j ∧ i.length + j.length ≤ sizeLine ∧ Q (.str (i ++ j)) H) := by
  intro pins s σ H x y v u Q I rx ry h
  obtain ⟨i, j, rfl, rfl, hz, q⟩ := h
  obtain ⟨t, rfl⟩ := rx
  obtain ⟨t', rfl⟩ := ry
  exact add_str (fun t' tk => ⟨.str (i ++ j), H, I.tok _, ⟨_, rfl⟩, q⟩) hz
theorem iop_add_str : OpR X (inplaceOp .Add) (fun x y H Q => ∃ i j, x = .str i ∧ y = .str j ∧ i.length + j.length ≤ sizeLine ∧ Q (.str (i ++ j)) H) := by
  intro pins s σ H x y v u Q I rx ry h
  obtain ⟨i, j, rfl, rfl, hz, q⟩ := h
  obtain ⟨t, rfl⟩ := rx
  obtain ⟨t', rfl⟩ := ry
  exact iadd_str (fun t' tk => ⟨.str (i ++ j), H, I.tok _, ⟨_, rfl⟩, q⟩) hz
theorem op_add_byt : OpR X (binaryOp .Add) (fun x y H Q => ∃ i j, x = .byt i ∧ y = .byt j ∧ i.size + j.size ≤ 16777216 ∧ Q (.byt (i ++ j)) H) := by
  intro pins s σ H x y v u Q I rx ry h
  obtain ⟨i, j, rfl, rfl, hz, q⟩ := h
  obtain ⟨t, rfl⟩ := rx
  obtain ⟨t', rfl⟩ := ry
  exact PySem.W.KBy.add_bytes hz (fun t' tk => ⟨.byt (i ++ j), H, I.tok _, ⟨_, rfl⟩, q⟩)

def PlainIxT (b : Expr) : Prop := ∀ o i, subscripted b false o i = operate [o, i] (getItem o i)
/-- s[i], 0 ≤ i < len -/
theorem pe_item_str (ha : PE X a ta) (hb : PE X b tb) (hs : PlainIxT b) :
    PE X (.Subscript a b pos) (tOp (fun x y H Q => ∃ z i c, x = .str z ∧ y = .int i ∧ 0 ≤ i ∧ i < 2 ^ 63 ∧ i < z.length ∧ z.cps[i.toNat]? = some c ∧ Q (.str ⟨#[c]⟩) H) ta tb) := by
  intro pins s σ H Q I h
  refine Subscript_ (binT ha hb I h fun v u s2 x y H2 I2 rx ry q => ?_)
  obtain ⟨z, i, c, rfl, rfl, h0, h63, h1, hc, q⟩ := q
  obtain ⟨t, rfl⟩ := rx
  obtain ⟨t', rfl⟩ := ry
  have e : seqIndex? i z.length = some i.toNat := PySem.StrLaws.seqIndex_nonneg h0 h1
  exact tail_any (typeIs_str s2 z t) slot_str_getitem.lookup (getItem_str (c := c) (by
    have e1 : decide (i < -(2 ^ 63 : Int)) = false := decide_eq_false (by omega)
    have e2 : decide (i ≥ 2 ^ 63) = false := decide_eq_false (by omega)
    rw [e1, e2] <;> rfl) (by rw [e]; exact hc) ⟨.str ⟨#[c]⟩, H2, I2.tok _, ⟨_, rfl⟩, q⟩) (hs _ _)
/-- b[i], 0 ≤ i < len -/
theorem pe_item_byt (ha : PE X a ta) (hb : PE X b tb) (hs : PlainIxT b) :
    PE X (.Subscript a b pos) (tOp (fun x y H Q => ∃ (z : List UInt8) (i : Int), x = .byt z.toArray ∧ y = .int i ∧ z.length ≤ sizeLine ∧ 0 ≤ i ∧ i < z.length ∧ Q (.int ((z.getD i.toNat 0).toNat : Nat)) H) ta tb) := by
  intro pins s σ H Q I h
  refine Subscript_ (binT ha hb I h fun v u s2 x y H2 I2 rx ry q => ?_)
  obtain ⟨z, i, rfl, rfl, hz, h0, h1, q⟩ := q
  obtain ⟨t, rfl⟩ := rx
  obtain ⟨t', rfl⟩ := ry
  have hl : sizeLine = 16777216 := sizeLine_eq
  exact tail_any (PySem.W.typeIs_bytes s2 z.toArray t) PySem.W.FB.slot_bytes_getitem.lookup (PySem.W.getItem_bytes (by omega) h0 h1 ⟨.int ((z.getD i.toNat 0).toNat : Nat), H2, I2.tok _, ⟨_, rfl⟩, q⟩) (hs _ _)

/-! ### scalar builtins, by CallR -/
theorem vals1 {x : V} {us : List Value} (r : Vals [x] us) : ∃ u, us = [u] ∧ RelV x u := by
  cases r with
  | cons r1 r2 => cases r2; exact ⟨_, rfl, r1⟩
theorem vals2 {x y : V} {us : List Value} (r : Vals [x, y] us) : ∃ u w', us = [u, w'] ∧ RelV x u ∧ RelV y w' := by
  cases r with
  | cons r1 r2 =>
    cases r2 with
    | cons r3 r4 => cases r4; exact ⟨_, _, rfl, r1, r3⟩
theorem call_abs : CallR X (.builtin "abs") (fun xs H Q => ∃ i, xs = [.int i] ∧ Q (.int (if i < 0 then -i else i)) H) := by
  intro pins s σ H xs us Q I r h
  obtain ⟨i, rfl, q⟩ := h
  obtain ⟨u, rfl, t, rfl⟩ := vals1 r
  exact call_abs_int fun u tk => ⟨.int (if i < 0 then -i else i), H, I.tok _, ⟨_, rfl⟩, q⟩
theorem call_max2 (hc : X.calm = true) : CallR X (.builtin "max") (fun xs H Q => ∃ i j, xs = [.int i, .int j] ∧ Q (.int (if j > i then j else i)) H) := by
  intro pins s σ H xs us Q I r h
  obtain ⟨i, j, rfl, q⟩ := h
  obtain ⟨u, w', rfl, ⟨t, rfl⟩, ⟨t', rfl⟩⟩ := vals2 r
  refine max_two_ints (I.ok.hd hc) fun h' tk k => ⟨_, H, I.kept k, ?_, q⟩
  by_cases hj : j > i
  · rw [if_pos hj, if_pos hj]; exact ⟨_, rfl⟩
  · rw [if_neg hj, if_neg hj]; exact ⟨_, rfl⟩
theorem call_min2 (hc : X.calm = true) : CallR X (.builtin "min") (fun xs H Q => ∃ i j, xs = [.int i, .int j] ∧ Q (.int (if j < i then j else i)) H) := by
  intro pins s σ H xs us Q I r h
  obtain ⟨i, j, rfl, q⟩ := h
  obtain ⟨u, w', rfl, ⟨t, rfl⟩, ⟨t', rfl⟩⟩ := vals2 r
  refine min_two_ints (I.ok.hd hc) fun h' tk k => ⟨_, H, I.kept k, ?_, q⟩
  by_cases hj : j < i
  · rw [if_pos hj, if_pos hj]; exact ⟨_, rfl⟩
  · rw [if_neg hj, if_neg hj]; exact ⟨_, rfl⟩
theorem call_int1 : CallR X (.type "int") (fun xs H Q => (∃ i, xs = [.int i] ∧ Q (.int i) H) ∨ ∃ k, xs = [.bl k] ∧ Q (.int (if k then 1 else 0)) H) := by
  intro pins s σ H xs us Q I r h
  rcases h with ⟨i, rfl, q⟩ | ⟨k, rfl, q⟩
  · obtain ⟨u, rfl, t, rfl⟩ := vals1 r
    exact call_int_int ⟨.int i, H, I, ⟨_, rfl⟩, q⟩
  · obtain ⟨u, rfl, r1⟩ := vals1 r
    cases r1
    exact call_int_bool ⟨.int (if k then 1 else 0), H, I.tok _, ⟨_, rfl⟩, q⟩
theorem call_bool1 : CallR X (.type "bool") (fun xs H Q => (∃ i, xs = [.int i] ∧ Q (.bl (i != 0)) H) ∨ ∃ k, xs = [.bl k] ∧ Q (.bl k) H) := by
  intro pins s σ H xs us Q I r h
  rcases h with ⟨i, rfl, q⟩ | ⟨k, rfl, q⟩
  · obtain ⟨u, rfl, t, rfl⟩ := vals1 r
    exact call_bool_int ⟨.bl (i != 0), H, I, rfl, q⟩
  · obtain ⟨u, rfl, r1⟩ := vals1 r
    cases r1
    exact call_bool_bool ⟨.bl k, H, I, rfl, q⟩
theorem call_str_int : CallR X (.type "str") (fun xs H Q => ∃ i, xs = [.int i] ∧ i.natAbs.log2 < 1920 ∧ Q (.str (toString i)) H) := by
  intro pins s σ H xs us Q I r h
  obtain ⟨i, rfl, hz, q⟩ := h
  obtain ⟨u, rfl, t, rfl⟩ := vals1 r
  exact PySem.P.str_of_int hz ⟨.str _, H, I.tok _, ⟨_, rfl⟩, q⟩
theorem call_ord : CallR X (.builtin "ord") (fun xs H Q => ∃ x, xs = [.str x] ∧ x.length = 1 ∧ Q (.int (x.cps.getD 0 0 : Nat)) H) := by
  intro pins s σ H xs us Q I r h
  obtain ⟨x, rfl, hz, q⟩ := h
  obtain ⟨u, rfl, t, rfl⟩ := vals1 r
  exact ord_of_one hz ⟨.int _, H, I.tok _, ⟨_, rfl⟩, q⟩
theorem call_chr : CallR X (.builtin "chr") (fun xs H Q => ∃ i, xs = [.int i] ∧ 0 ≤ i ∧ i ≤ 1114111 ∧ Q (.str ⟨#[i.toNat]⟩) H) := by
  intro pins s σ H xs us Q I r h
  obtain ⟨i, rfl, h0, h1, q⟩ := h
  obtain ⟨u, rfl, t, rfl⟩ := vals1 r
  exact chr_of_range h0 h1 ⟨.str _, H, I.tok _, ⟨_, rfl⟩, q⟩
/-- len of a str, a bytes, a list, a tuple -/
def LenV (K : PySem.W.Frag) (x : V) (H : Hp) (n : Nat) : Prop :=
  match x with
  | .str y => y.length ≤ sizeLine ∧ n = y.length
  | .byt y => y.size ≤ sizeLine ∧ n = y.size
  | .ref p => (∃ xs, SqL K H p xs ∧ n = xs.length) ∨ ∃ xs, SqT K H p xs ∧ n = xs.length
  | _ => False
theorem call_len : CallR X (.builtin "len") (fun xs H Q => ∃ x n, xs = [x] ∧ LenV X.K x H n ∧ Q (.int n) H) := by
  intro pins s σ H xs us Q I r h
  obtain ⟨x, n, rfl, e, q⟩ := h
  obtain ⟨u, rfl, rx⟩ := vals1 r
  have hl := line63
  have hs : sizeLine = 16777216 := sizeLine_eq
  cases x with
  | str y =>
    obtain ⟨t, rfl⟩ := rx
    obtain ⟨hy, e'⟩ : y.length ≤ sizeLine ∧ n = y.length := e
    subst e'
    exact len_str (by omega) ⟨.int _, H, I.tok _, ⟨_, rfl⟩, q⟩
  | byt y =>
    obtain ⟨t, rfl⟩ := rx
    obtain ⟨hy, e'⟩ : y.size ≤ sizeLine ∧ n = y.size := e
    subst e'
    exact PySem.W.len_bytes (by omega) ⟨.int _, H, I.tok _, ⟨_, rfl⟩, q⟩
  | ref p =>
    cases rx
    have e' : (∃ xs, SqL X.K H p xs ∧ n = xs.length) ∨ ∃ xs, SqT X.K H p xs ∧ n = xs.length := e
    rcases e' with ⟨xs, hx, e'⟩ | ⟨xs, hx, e'⟩
    · subst e'
      obtain ⟨its, r', pl, hz⟩ := I.list hx
      have hlen := r'.length
      exact Calls.call_len_list pl.isList (by simp only [List.size_toArray]; omega) ⟨.int xs.length, H, I.tok _, ⟨_, by simp only [List.size_toArray]; rw [hlen]⟩, q⟩
    · subst e'
      obtain ⟨its, r', pl, hz⟩ := I.tuple hx
      have hlen := r'.length
      exact len_tuple pl (by simp only [List.size_toArray]; omega) ⟨.int xs.length, H, I.tok _, ⟨_, by simp only [List.size_toArray]; rw [hlen]⟩, q⟩
  | _ => exact (show False from e).elim
/-- divmod: a new tuple -/
theorem call_divmod : CallR X (.builtin "divmod") (fun xs H Q => ∃ i j, xs = [.int i, .int j] ∧ CDiv i j ∧ ∀ p, H p = none → Q (.ref p) (upd H p (.tup [.int (i / j), .int (i % j)]))) := by
  intro pins s σ H xs us Q I r h
  obtain ⟨i, j, rfl, ⟨h1, h2⟩, q⟩ := h
  obtain ⟨u, w', rfl, ⟨t, rfl⟩, ⟨t', rfl⟩⟩ := vals2 r
  refine divmod_int (by omega) ?_ (.inl (PyProof.noPylong_small (by omega)))
  rw [Int.fdiv_eq_ediv_of_nonneg i (by omega), Int.fmod_eq_emod_of_nonneg i (by omega)]
  have hn : H s.heap.objs.size = none := I.hok.fresh (Nat.le_refl _)
  refine ⟨.ref s.heap.objs.size, _, ?_, rfl, q _ hn⟩
  refine I.laid (fun b o e => Heap.get?_push_of_some _ e) (Nat.le_refl _) ⟨by simp only [List.length_cons, List.length_nil]; rw [sizeLine_eq]; decide, [.int (i / j) s.toks, .int (i % j) (s.toks + 1)], .cons ⟨_, rfl⟩ (.cons ⟨_, rfl⟩ .nil), ?_⟩
  exact ⟨_, Heap.get?_push_size s.heap rfl, rfl, 0, rfl⟩
end
end L2

namespace L2
open PySem PySem.Spec PyProof.Rows

/-! ### an instance, its attributes a map -/
structure ObjM (h : Heap) (x dx C : Addr) (mA : Str → Option Value) : Prop where
  obj : h.get? x = some (PySem.W.instObj C dx)
  ns : h.Ns1 dx mA
  ne : dx ≠ x

theorem lookIn_ns {h : Heap} {dx : Addr} {mA : Str → Option Value} (n : h.Ns1 dx mA) : ∃ od, h.get? dx = some od ∧ ∀ name, PySem.W.lookIn name od = some (mA name) := by
  obtain ⟨o, es, ep, ho, hd, hk, _, hm⟩ := n
  refine ⟨o, ho, fun name => ?_⟩
  have e := hm name
  unfold nsFind findBy at e
  rw [← Array.find?_toList] at e
  unfold PySem.W.lookIn
  rw [hd]
  dsimp only
  split
  · rename_i y q
    rw [q] at e
    exact congrArg some e
  · rename_i q
    rw [q] at e
    have a : es.toList.any (·.refKey) = false := by
      rw [List.any_eq_false]
      intro y hy
      obtain ⟨z, t, hkey⟩ := hk y (Array.mem_toList_iff.mp hy)
      simp [DictEntry.refKey, hkey]
    have a' : ¬ es.toList.any (·.refKey) = true := by rw [a]; exact Bool.false_ne_true
    rw [if_neg a']
    exact congrArg some e

theorem ObjM.look {h : Heap} {x dx C : Addr} {mA : Str → Option Value} (I : ObjM h x dx C mA) : ∃ od, PySem.W.InstAt h x (PySem.W.instObj C dx) C (some od) ∧ ∀ name, PySem.W.lookIn name od = some (mA name) :=
  let ⟨od, ho, hl⟩ := lookIn_ns I.ns
  ⟨od, ⟨I.obj, rfl, rfl, ho⟩, hl⟩

section
variable {prog : Program} {w : World} {A : Around} {E : Value → Shared → Prop} {s : Shared} {K : PySem.W.Frag} {x dx C f : Addr} {mA : Str → Option Value} {name : Str} {v : Value}

theorem get_map {expr : Bool} {Q : Value → Shared → Prop} (X : K.In s.heap) (I : ObjM s.heap x dx C mA) (hg : PySem.W.plainGet K C name = true) (hh : PySem.W.hasDictIn K C = true)
    (ha : PySem.W.findIn K (.ref C) name = some none) (hv : mA name = some v) (hv' : PySem.W.handedIn v = true) (h : Q v { s with toks := s.toks + 1 }) :
    wpAny (model prog w) A (getAttr (.ref x) name expr) Q E s := by
  obtain ⟨od, J, hl⟩ := I.look
  exact PySem.W.get_value X J (PySem.W.plainGet_of hg).1 (PySem.W.findObj_own hh ha rfl (by rw [hl, hv])) hv' h

theorem get_const {expr : Bool} {a : Value} {Q : Value → Shared → Prop} (X : K.In s.heap) (I : ObjM s.heap x dx C mA) (hg : PySem.W.plainGet K C name = true) (hh : PySem.W.hasDictIn K C = true)
    (ha : PySem.W.findIn K (.ref C) name = some (some a)) (hn : PySem.W.specialIn K a "__get__" = some none) (hc : PySem.W.copiedNames.contains name = false) (hv : mA name = none) (hv' : PySem.W.handedIn a = true)
    (h : Q a { s with toks := s.toks + 1 }) : wpAny (model prog w) A (getAttr (.ref x) name expr) Q E s := by
  obtain ⟨od, J, hl⟩ := I.look
  exact PySem.W.get_value X J (PySem.W.plainGet_of hg).1 (PySem.W.findObj_cls hh ha hn hv' hc (by rw [hl, hv])) hv' h

theorem get_meth {pl : Sem Bool} {Q : Value × List Value → Shared → Prop} (X : K.In s.heap) (I : ObjM s.heap x dx C mA) (hg : PySem.W.plainGet K C name = true)
    (hf : PySem.W.findIn K (.ref C) name = some (some (.ref f))) (ht : PySem.W.isFn K (.ref f) = true) (hv : mA name = none) (h : Q (.ref f, [.ref x]) s) :
    wpAny (model prog w) A (getMethod (.ref x) name pl) Q E s := by
  obtain ⟨od, J, hl⟩ := I.look
  exact PySem.W.method_fn X J (PySem.W.plainGet_of hg).1 (PySem.W.plainGet_of hg).2 hf (beq_iff_eq.mp ht) (by show (PySem.W.lookIn name od).map (·.isSome) = some false; rw [hl, hv]; rfl) h

theorem set_map {ns : List Str} {Q : Unit → Shared → Prop} (X : K.In s.heap) (I : ObjM s.heap x dx C mA)
    (hs : PySem.W.findIn K (.ref C) "__setattr__" = some (some (.builtin "object.__setattr__"))) (hp : PySem.W.plainOver K C = true) (ht : PySem.W.takerIn K C name = some none) (hh : PySem.W.hasDictIn K C = true)
    (hw : PySem.Within mA ns) (hsz : ns.length ≤ sizeLine)
    (h : ∀ h', ObjM h' x dx C (fun y => if y = name then some v else mA y) → Heap.SameBut dx s.heap h' → Q () { s with heap := h', toks := s.toks + 2 }) :
    wpAny (model prog w) A (setAttr (.ref x) name v) Q E s := by
  obtain ⟨od, J, hl⟩ := I.look
  refine PySem.W.set_plain X J hs (PySem.W.osa_open (s := { s with toks := s.toks + 1 }) (r := none) X J hp ht fun b => ?_)
  obtain ⟨cd, hc, hd'⟩ := PySem.W.any_some hh
  have hx : s.heap.get? x = some ⟨.ref C, some dx, .plain, #[]⟩ := I.obj
  refine wpAny_bind (wpAny_pure (wpAny_bind (wpAny_bind (wpAny_loadPart hx (wpAny_bind (PySem.W.Looks.here (s := { s with toks := s.toks + 1 }) (PySem.W.looks_clsIn X hc) ?_))))))
  rw [hd']
  refine wpAny_pure (a := some dx) (wpAny_bind (wpAny_pure (wpAny_bind ?_)))
  refine wpAny_nsSet1 (s := { s with toks := s.toks + 1 }) I.ns fun h' hn2 hs2 => ?_
  obtain ⟨oD, esD, epD, hoD, hdD, hcD⟩ := hn2.count (PySem.Within.cons name v hw)
  refine wpAny_bind (wpAny_lookBehind hoD (by rw [hdD]; exact pastItsLine_dict (Nat.le_trans hcD (by rw [List.length_cons]; omega))) ?_)
  exact wpAny_pure (h _ ⟨(hs2.2 _ (Ne.symm I.ne)).trans I.obj, hn2, I.ne⟩ hs2)

/-- C(..): the dict at the heap's end, the instance behind it; then its __init__ -/
theorem make_map {R : Result → Shared → Prop} {vs : List Value} {kw : List (Str × Value)} (X : K.In s.heap) (hm : PySem.W.makesIn K C = true)
    (hi : PySem.W.findIn K (.ref C) "__init__" = some (some (.ref f))) (hf : PySem.W.typeIn K (.ref f) = some (.type "function"))
    (h : codeAny (model prog w) (A.under (.builtin "type.__call__" ⟨.ref C :: vs, kw⟩)) (.call (.ref f) ⟨.ref (s.heap.objs.size + 1) :: vs, kw⟩) (PySem.W.InitBack (s.heap.objs.size + 1) R)
      { s with heap := (s.heap.push PySem.W.emptyDict).push (PySem.W.instObj C s.heap.objs.size) }) :
    codeAny (model prog w) A (.call (.ref C) ⟨vs, kw⟩) R s := by
  obtain ⟨hh, g, d, t, os⟩ := s
  exact PySem.W.make_core (PySem.W.makes_of X hm) (PySem.W.looks_findIn X hi) (fun self => PySem.W.bind_fn X self hf) (.inl rfl) h
/-- C() where there is no __init__ but object's -/
theorem make_map0 {R : Result → Shared → Prop} (X : K.In s.heap) (hm : PySem.W.makesIn K C = true)
    (hi : PySem.W.findIn K (.ref C) "__init__" = some (some (.builtin "object.__init__")))
    (hb : ∀ self, PySem.W.Looks (model prog w) s.heap (bindSpecial (.builtin "object.__init__") self) (.builtin "object.__init__", [self]))
    (h : codeAny (model prog w) (A.under (.builtin "type.__call__" ⟨[.ref C], []⟩)) (.call (.builtin "object.__init__") ⟨[.ref (s.heap.objs.size + 1)], []⟩) (PySem.W.InitBack (s.heap.objs.size + 1) R)
      { s with heap := (s.heap.push PySem.W.emptyDict).push (PySem.W.instObj C s.heap.objs.size) }) :
    codeAny (model prog w) A (.call (.ref C) ⟨[], []⟩) R s := by
  obtain ⟨hh, g, d, t, os⟩ := s
  exact PySem.W.make_core (PySem.W.makes_of X hm) (PySem.W.looks_findIn X hi) hb (.inr ⟨rfl, rfl⟩) h
end

/-! ### the attributes as a list of pairs -/
def putF (f : Str) (v : V) : List (Str × V) → List (Str × V)
  | [] => [(f, v)]
  | (g, x) :: r => if g = f then (g, v) :: r else (g, x) :: putF f v r
theorem lookup_putF (f g : Str) (v : V) : ∀ fs : List (Str × V), (putF f v fs).lookup g = if g = f then some v else fs.lookup g
  | [] => by
    show List.lookup g [(f, v)] = _
    by_cases h : g = f
    · have hb : (g == f) = true := beq_iff_eq.mpr h
      simp only [List.lookup, hb, if_pos h]
    · have hb : (g == f) = false := beq_eq_false_iff_ne.mpr h
      simp only [List.lookup, hb, if_neg h]
  | (k, x) :: r => by
    have ih := lookup_putF f g v r
    rw [show putF f v ((k, x) :: r) = (if k = f then (k, v) :: r else (k, x) :: putF f v r) from rfl]
    by_cases hk : k = f
    · rw [if_pos hk]
      by_cases h : g = k
      · have hb : (g == k) = true := beq_iff_eq.mpr h
        simp only [List.lookup, hb, if_pos (h.trans hk)]
      · have hb : (g == k) = false := beq_eq_false_iff_ne.mpr h
        simp only [List.lookup, hb, if_neg (fun e : g = f => h (e.trans hk.symm))]
    · rw [if_neg hk]
      by_cases h : g = k
      · have hb : (g == k) = true := beq_iff_eq.mpr h
        simp only [List.lookup, hb, if_neg (fun e : g = f => hk (h.symm.trans e))]
      · have hb : (g == k) = false := beq_eq_false_iff_ne.mpr h
        simp only [List.lookup, hb]
        exact ih
theorem keys_putF (f : Str) (v : V) : ∀ fs : List (Str × V), f ∈ (putF f v fs).map (·.1) ∧ ∀ g, g ∈ fs.map (·.1) → g ∈ (putF f v fs).map (·.1)
  | [] => ⟨by simp [putF], fun g h => by simp at h⟩
  | (k, x) :: r => by
    obtain ⟨i1, i2⟩ := keys_putF f v r
    rw [show putF f v ((k, x) :: r) = (if k = f then (k, v) :: r else (k, x) :: putF f v r) from rfl]
    by_cases hk : k = f
    · rw [if_pos hk]
      subst hk
      exact ⟨by simp, fun g h => by simpa using h⟩
    · rw [if_neg hk]
      refine ⟨?_, fun g h => ?_⟩
      · rw [List.map_cons]
        exact List.mem_cons_of_mem _ i1
      · rw [List.map_cons] at h ⊢
        rcases List.mem_cons.mp h with e | e
        · exact List.mem_cons.mpr (.inl e)
        · exact List.mem_cons_of_mem _ (i2 g e)
theorem length_putF (f : Str) (v : V) : ∀ fs : List (Str × V), (putF f v fs).length ≤ fs.length + 1
  | [] => by simp [putF]
  | (k, x) :: r => by
    have ih := length_putF f v r
    rw [show putF f v ((k, x) :: r) = (if k = f then (k, v) :: r else (k, x) :: putF f v r) from rfl]
    by_cases hk : k = f
    · rw [if_pos hk, List.length_cons, List.length_cons]; omega
    · rw [if_neg hk, List.length_cons, List.length_cons]; omega

theorem RelO.some_of {v : V} {o : Option Value} (r : RelO (some v) o) : ∃ u, o = some u ∧ RelV v u := by
  cases o with
  | none => exact (show False from r).elim
  | some u => exact ⟨u, rfl, r⟩
theorem RelO.none_of {o : Option Value} (r : RelO none o) : o = none := by
  cases o with
  | none => rfl
  | some u => exact (show False from r).elim
theorem handed_of {v : V} {u : Value} (r : RelV v u) : PySem.W.handedIn u = true := by
  cases v with
  | non => cases (show u = Value.none from r); rfl
  | bl b => cases (show u = Value.bool b from r); rfl
  | int i => obtain ⟨t, e⟩ := (show ∃ t, u = Value.int i t from r); cases e; rfl
  | str x => obtain ⟨t, e⟩ := (show ∃ t, u = Value.str x t from r); cases e; rfl
  | byt b => obtain ⟨t, e⟩ := (show ∃ t, u = Value.bytes b t from r); cases e; rfl
  | flt b => obtain ⟨t, e⟩ := (show ∃ t, u = Value.float b t from r); cases e; rfl
  | ref a => cases (show u = Value.ref a from r); rfl
  | ty n => cases (show u = Value.type n from r); rfl

section
variable {P : Program} {w : World} {H H' : Hp} {h h' : Heap} {a C dx : Addr} {fs fs' : List (Str × V)}
theorem ins_get (hok : HOk P w H h) (e : H a = some (.ins C dx fs)) : ∃ mA, ObjM h a dx C mA ∧ (∀ f, RelO (fs.lookup f) (mA f)) ∧ PySem.Within mA (fs.map (·.1)) ∧ fs.length ≤ 1000 ∧ H dx = some (.own a) := by
  obtain ⟨d, z, ne, ob, mA, n, r, q⟩ := (show ObjOk P w H h a (.ins C dx fs) from hok a _ e)
  exact ⟨mA, ⟨ob, n, ne⟩, r, q, z, d⟩
end

/-! ### what of the text a class must have -/
structure Cls (K : PySem.W.Frag) (C : Addr) : Prop where
  pg : PySem.W.plainGet K C Str.empty = true
  hd : PySem.W.hasDictIn K C = true
  po : PySem.W.plainOver K C = true
  sa : PySem.W.findIn K (.ref C) "__setattr__" = some (some (.builtin "object.__setattr__"))
theorem Cls.get {K : PySem.W.Frag} {C : Addr} (c : Cls K C) (f : Str) : PySem.W.plainGet K C f = true := c.pg
/-- no class of it has the name -/
def NoAttr (K : PySem.W.Frag) (C : Addr) (f : Str) : Prop := PySem.W.findIn K (.ref C) f = some none
theorem NoAttr.taker {K : PySem.W.Frag} {C : Addr} {f : Str} (n : NoAttr K C f) : PySem.W.takerIn K C f = some none := by
  unfold PySem.W.takerIn
  rw [show PySem.W.findIn K (.ref C) f = some none from n]
  rfl
/-- a constant of the class -/
structure Con (K : PySem.W.Frag) (C : Addr) (f : Str) (v : V) (u : Value) : Prop where
  at_ : PySem.W.findIn K (.ref C) f = some (some u)
  rel : RelV v u
  get : PySem.W.specialIn K u "__get__" = some none
  cp : PySem.W.copiedNames.contains f = false
/-- a method: a plain def of the class or of one above it -/
structure Meth (K : PySem.W.Frag) (C : Addr) (m : Str) (f : Addr) : Prop where
  at_ : PySem.W.findIn K (.ref C) m = some (some (.ref f))
  fn : PySem.W.isFn K (.ref f) = true
  kp : PySem.W.keepIn K (.ref f) = true

section
variable {X : Cx} {pins : List (Addr × Obj)} {σ : St} {H : Hp} {s : Shared} {a C dx : Addr} {fs : List (Str × V)} {f : Str} {v : V} {A : Around} {E : Value → Shared → Prop}

theorem getattr_ok {b : Bool} {Q : Value → Shared → Prop} (I : Inv X pins σ H s) (e : H a = some (.ins C dx fs)) (c : Cls X.K C) (n : NoAttr X.K C f) (l : fs.lookup f = some v)
    (h : ∀ u s', Inv X pins σ H s' → RelV v u → Q u s') : wpAny (model X.prog X.w) A (getAttr (.ref a) f b) Q E s := by
  obtain ⟨mA, O, r, _, _, _⟩ := ins_get I.hok e
  obtain ⟨u, hu, ru⟩ := RelO.some_of (v := v) (o := mA f) (by rw [← l]; exact r f)
  exact get_map I.kIn O (c.get f) c.hd n hu (handed_of ru) (h u _ (I.tok _) ru)

theorem getcon_ok {b : Bool} {u : Value} {Q : Value → Shared → Prop} (I : Inv X pins σ H s) (e : H a = some (.ins C dx fs)) (c : Cls X.K C) (k : Con X.K C f v u) (l : fs.lookup f = none)
    (h : ∀ s', Inv X pins σ H s' → Q u s') : wpAny (model X.prog X.w) A (getAttr (.ref a) f b) Q E s := by
  obtain ⟨mA, O, r, _, _, _⟩ := ins_get I.hok e
  have hn : mA f = none := RelO.none_of (by rw [← l]; exact r f)
  exact get_const I.kIn O (c.get f) c.hd k.at_ k.get k.cp hn (handed_of k.rel) (h _ (I.tok _))

theorem getmeth_ok {m : Str} {g : Addr} {pl : Sem Bool} {Q : Value × List Value → Shared → Prop} (I : Inv X pins σ H s) (e : H a = some (.ins C dx fs)) (c : Cls X.K C) (k : Meth X.K C m g) (l : fs.lookup m = none)
    (h : Q (.ref g, [.ref a]) s) : wpAny (model X.prog X.w) A (getMethod (.ref a) m pl) Q E s := by
  obtain ⟨mA, O, r, _, _, _⟩ := ins_get I.hok e
  have hn : mA m = none := RelO.none_of (by rw [← l]; exact r m)
  exact get_meth I.kIn O (c.get m) k.at_ k.fn hn h

theorem setattr_ok {y : V} {u : Value} {Q : Unit → Shared → Prop} (I : Inv X pins σ H s) (e : H a = some (.ins C dx fs)) (c : Cls X.K C) (n : NoAttr X.K C f) (hl : fs.length < 1000) (ry : RelV y u)
    (h : ∀ s', Inv X pins σ (upd H a (.ins C dx (putF f y fs))) s' → Q () s') : wpAny (model X.prog X.w) A (setAttr (.ref a) f u) Q E s := by
  obtain ⟨mA, O, r, wi, _, ho⟩ := ins_get I.hok e
  have hz : (fs.map (·.1)).length ≤ sizeLine := by rw [List.length_map, sizeLine_eq]; omega
  refine set_map I.kIn O c.sa c.po n.taker c.hd wi hz fun h' O' sb => h _ ?_
  have hd : ∃ o, h'.get? dx = some o := let ⟨o, _, _, e', _⟩ := O'.ns; ⟨o, e'⟩
  refine I.write (x := a) (e := dx) (by rw [e]; exact True.intro) (.inr ho) (fun b q hb z => (sb.2 b hb).trans z) hd ?_
  refine ⟨by rw [upd_ne O.ne]; exact ho, ?_, O.ne, O'.obj, _, O'.ns, fun g => ?_, fun g hg => ?_⟩
  · have := length_putF f y fs; omega
  · show RelO ((putF f y fs).lookup g) (if g = f then some u else mA g)
    rw [lookup_putF]
    by_cases q : g = f
    · rw [if_pos q, if_pos q]; exact ry
    · rw [if_neg q, if_neg q]; exact r g
  · by_cases q : g = f
    · rw [q]; exact (keys_putF f y fs).1
    · refine (keys_putF f y fs).2 g (wi g fun z => hg ?_)
      show (if g = f then some u else mA g) = none
      rw [if_neg q]; exact z

/-- a new instance, tracked, without attributes -/
theorem Inv.made (I : Inv X pins σ H s) : Inv X pins σ (upd (upd H s.heap.objs.size (.own (s.heap.objs.size + 1))) (s.heap.objs.size + 1) (.ins C s.heap.objs.size []))
    { s with heap := (s.heap.push PySem.W.emptyDict).push (PySem.W.instObj C s.heap.objs.size) } := by
  have e1 : (s.heap.push PySem.W.emptyDict).get? s.heap.objs.size = some PySem.W.emptyDict := Heap.get?_push_size s.heap rfl
  have e2 : ((s.heap.push PySem.W.emptyDict).push (PySem.W.instObj C s.heap.objs.size)).get? (s.heap.objs.size + 1) = some (PySem.W.instObj C s.heap.objs.size) := by
    have := Heap.get?_push_size (s.heap.push PySem.W.emptyDict) (o := PySem.W.instObj C s.heap.objs.size) rfl
    rwa [Heap.size_push] at this
  have e3 : (s.heap.push PySem.W.emptyDict).Ns s.heap.objs.size (fun _ => none) := ⟨PySem.W.emptyDict, #[], _, e1, rfl, (fun e he => absurd he (by simp)), fun _ => rfl⟩
  have I1 := I.laid (a := s.heap.objs.size) (o := .own (s.heap.objs.size + 1)) (h' := s.heap.push PySem.W.emptyDict) (t' := s.toks) (fun b u q => Heap.get?_push_of_some _ q) (Nat.le_refl _) ⟨_, e1⟩
  refine I1.laid (a := s.heap.objs.size + 1) (o := .ins C s.heap.objs.size []) (t' := s.toks) (fun b u q => Heap.get?_push_of_some _ q) (Nat.le_of_eq (Heap.size_push _ _)) ?_
  have ne : s.heap.objs.size ≠ s.heap.objs.size + 1 := Nat.ne_of_lt (Nat.lt_succ_self _)
  refine ⟨by rw [upd_ne ne, upd_same], Nat.zero_le _, ne, e2, fun _ => none, (Heap.Ns1.of_empty e3).at fun o q => Heap.get?_push_of_some _ q, fun _ => True.intro, fun y hy => absurd rfl hy⟩

/-- e.f where nothing but the object is asked: through attributeBase (super) and the last hold -/
theorem attr_of {prog : Program} {w : World} {env : Env} {e : Expr} {f : Str} {pos : Pos} {s : Shared} {Q : Value → Shared → Prop} (hb : attributeBase e f env (eval e env) = eval e env)
    (h : wpAny (model prog w) A (eval e env) (fun o s₁ => wpAny (model prog w) A (getAttr o f true) Q E s₁) E s) : wpAny (model prog w) A (eval (.Attribute e f pos) env) Q E s :=
  Attribute_any_ h (by rw [arm_eval_Attribute, hb])
end

/-! ### readings and rules -/
/-- e.f, an attribute of the instance -/
def tFld (K : PySem.W.Frag) (ta : TE) (f : Str) : TE := fun σ H Q => ta σ H fun x H1 => ∃ a C dx fs v, x = .ref a ∧ H1 a = some (.ins C dx fs) ∧ Cls K C ∧ NoAttr K C f ∧ fs.lookup f = some v ∧ Q v H1
/-- e.f, a constant of the class -/
def tCon (K : PySem.W.Frag) (ta : TE) (f : Str) : TE := fun σ H Q => ta σ H fun x H1 => ∃ a C dx fs v u, x = .ref a ∧ H1 a = some (.ins C dx fs) ∧ Cls K C ∧ Con K C f v u ∧ fs.lookup f = none ∧ Q v H1
/-- e.f = value -/
def sFld (K : PySem.W.Frag) (ta tv : TE) (f : Str) : TS := fun D σ H => tv σ H fun y H1 => ta σ H1 fun x H2 => ∃ a C dx fs, x = .ref a ∧ H2 a = some (.ins C dx fs) ∧ Cls K C ∧ NoAttr K C f ∧ fs.length < 1000 ∧
  D.nx σ (upd H2 a (.ins C dx (putF f y fs)))
/-- an augmented operator on two values -/
def InOp (X : Cx) (op : Operator) (rd : V → V → Hp → VK → Prop) : Prop :=
  ∀ (pins : List (Addr × Obj)) (s : Shared) (σ : St) (H : Hp) (x y : V) (u v : Value) (Q : VK), Inv X pins σ H s → RelV x u → RelV y v → rd x y H Q → wpAny (model X.prog X.w) X.A (inplaceOp op u v) (EP X pins σ Q) X.xe s
/-- e.f op= value -/
def sFldAug (K : PySem.W.Frag) (ta tv : TE) (rd : V → V → Hp → VK → Prop) (f : Str) : TS := fun D σ H => ta σ H fun x H1 => ∃ a C dx fs v, x = .ref a ∧ H1 a = some (.ins C dx fs) ∧ Cls K C ∧ NoAttr K C f ∧ fs.lookup f = some v ∧
  tv σ H1 fun y H2 => rd v y H2 fun z H3 => ∃ dx' fs', H3 a = some (.ins C dx' fs') ∧ fs'.length < 1000 ∧ D.nx σ (upd H3 a (.ins C dx' (putF f z fs')))

section
variable {X : Cx} {o e value : Expr} {f : Str} {pos pos' tpos : Pos} {ta tv : TE}
theorem pe_fld (he : PE X e ta) (hb : attributeBase e f X.env (eval e X.env) = eval e X.env) : PE X (.Attribute e f pos) (tFld X.K ta f) := by
  intro pins s σ H Q I h
  refine attr_of hb (thn (he pins s σ H _ I h) fun u s1 ⟨x, H1, I1, rx, a, C, dx, fs, v, ex, ea, c, n, l, q⟩ => ?_)
  subst ex
  obtain rfl : u = Value.ref a := rx
  exact getattr_ok I1 ea c n l fun u' s2 I2 ru => ⟨v, H1, I2, ru, q⟩
theorem pe_con (he : PE X e ta) (hb : attributeBase e f X.env (eval e X.env) = eval e X.env) : PE X (.Attribute e f pos) (tCon X.K ta f) := by
  intro pins s σ H Q I h
  refine attr_of hb (thn (he pins s σ H _ I h) fun u s1 ⟨x, H1, I1, rx, a, C, dx, fs, v, u0, ex, ea, c, k, l, q⟩ => ?_)
  subst ex
  obtain rfl : u = Value.ref a := rx
  exact getcon_ok I1 ea c k l fun s2 I2 => ⟨v, H1, I2, k.rel, q⟩
theorem ps_fld (ha : PE X o ta) (hv : PE X value tv) (hs : swapsWith value (some (.Attribute o f pos')) pos.line X.env = pure false) : PS X (.Assign [.Attribute o f pos'] value pos) (sFld X.K ta tv f) := by
  intro pins s σ H D I h
  refine plainObj_wpAny_Assign_Attribute (thn (hv pins s σ H _ I h) fun u s1 ⟨y, H1, I1, ry, q⟩ => thn (ha pins s1 σ H1 _ I1 q) fun ov s2 ⟨x, H2, I2, rx, a, C, dx, fs, ex, ea, c, n, l, q2⟩ => ?_) hs
  subst ex
  obtain rfl : ov = Value.ref a := rx
  exact setattr_ok I2 ea c n l ry fun s3 I3 => ⟨σ, _, I3, q2⟩
theorem ps_fldaug {op : Operator} {rd : V → V → Hp → VK → Prop} (ha : PE X o ta) (hv : PE X value tv) (hop : InOp X op rd) : PS X (.AugAssign (.Attribute o f tpos) op value pos) (sFldAug X.K ta tv rd f) := by
  intro pins s σ H D I h
  refine wpAny_AugAssign_AttributeAny (thn (ha pins s σ H _ I h) fun ov s1 ⟨x, H1, I1, rx, a, C, dx, fs, v, ex, ea, c, n, l, q⟩ => ?_)
  subst ex
  obtain rfl : ov = Value.ref a := rx
  refine getattr_ok I1 ea c n l fun u s2 I2 ru => thn (hv pins s2 σ H1 _ I2 q) fun w3 s3 ⟨y, H2, I3, ry, q3⟩ => thn (hop pins s3 σ H2 v y u w3 _ I3 ru ry q3) fun w4 s4 ⟨z, H3, I4, rz, dx', fs', ea', l', q4⟩ => ?_
  exact setattr_ok I4 ea' c n l' rz fun s5 I5 => ⟨σ, _, I5, q4⟩
def rAdd : V → V → Hp → VK → Prop := fun x y H Q => ∃ i j, x = .int i ∧ y = .int j ∧ Q (.int (i + j)) H
def rSub : V → V → Hp → VK → Prop := fun x y H Q => ∃ i j, x = .int i ∧ y = .int j ∧ Q (.int (i - j)) H
theorem in_add : InOp X .Add rAdd := by
  rintro pins s σ H x y u v Q I rx ry ⟨i, j, rfl, rfl, q⟩
  obtain ⟨t, rfl⟩ := (show ∃ t, u = Value.int i t from rx)
  obtain ⟨t', rfl⟩ := (show ∃ t', v = Value.int j t' from ry)
  exact PyProof.Rows.iadd_int ⟨.int (i + j), H, I.tok _, ⟨_, rfl⟩, q⟩
theorem in_sub : InOp X .Sub rSub := by
  rintro pins s σ H x y u v Q I rx ry ⟨i, j, rfl, rfl, q⟩
  obtain ⟨t, rfl⟩ := (show ∃ t, u = Value.int i t from rx)
  obtain ⟨t', rfl⟩ := (show ∃ t', v = Value.int j t' from ry)
  exact PyProof.Rows.isub_int ⟨.int (i - j), H, I.tok _, ⟨_, rfl⟩, q⟩

/-- what is between an instance and its method: the tree of a method call -/
theorem methcall_of {pl : Sem Bool} {m : Str} {apos : Pos} {args : List Expr} {pins : List (Addr × Obj)} {s : Shared} {σ : St} {H : Hp} {Q : Value → Shared → Prop} {te : TE} (he : PE X e te) (I : Inv X pins σ H s)
    (h : te σ H fun x H1 => ∃ a C dx fs g, x = .ref a ∧ H1 a = some (.ins C dx fs) ∧ Cls X.K C ∧ Meth X.K C m g ∧ fs.lookup m = none ∧
      ∀ s1, Inv X pins σ H1 s1 → wpAny (model X.prog X.w) X.A (callWith pos (.ref g) [.ref a] (backTo pos (starEach args X.env)) (backToKw pos (keywordEach [] X.env))) Q X.xe s1)
    (ht : eval (.Call (.Attribute e m apos) args [] pos) X.env = (do
      let ov ← eval e X.env
      standAt apos.atName
      let (f, first) ← holding [ov] (getMethod ov m pl)
      callWith pos f first (backTo pos (starEach args X.env)) (backToKw pos (keywordEach [] X.env)))) :
    wpAny (model X.prog X.w) X.A (eval (.Call (.Attribute e m apos) args [] pos) X.env) Q X.xe s := by
  refine PySem.W.methodCall_KW (pl := pl) (thn (he pins s σ H _ I h) fun u s1 ⟨x, H1, I1, rx, a, C, dx, fs, g, ex, ea, c, k, l, q⟩ => ?_) ht
  subst ex
  obtain rfl : u = Value.ref a := rx
  exact getmeth_ok I1 ea c k l (q s1 I1)
end

/-! ### isinstance -/
section
variable {X : Cx} {pins : List (Addr × Obj)} {σ : St} {H : Hp} {s : Shared} {A : Around} {E : Value → Shared → Prop} {Q : Value → Shared → Prop} {c : Value} {b : Bool}
/-- the type of a value, as the fragment's deciders take it; for an instance its class -/
inductive TyOf (K : PySem.W.Frag) (H : Hp) : V → Value → Prop where
  | non : TyOf K H .non (.type "NoneType")
  | bl (x : Bool) : TyOf K H (.bl x) (.type "bool")
  | int (i : Int) : TyOf K H (.int i) (.type "int")
  | str (x : Str) : TyOf K H (.str x) (.type "str")
  | flt (x : UInt64) : TyOf K H (.flt x) (.type "float")
  | lst {a : Addr} {xs : List V} (e : H a = some (.lst xs)) : TyOf K H (.ref a) (.type "list")
  | frz {a : Addr} {o : Obj} {xs : List V} (e : H a = some (.frz o (.lst xs))) : TyOf K H (.ref a) (.type "list")
  | tup {a : Addr} {xs : List V} (e : H a = some (.tup xs)) : TyOf K H (.ref a) (.type "tuple")
  | dK {a : Addr} {kvs : List (Key × V)} (e : H a = some (.dK kvs)) : TyOf K H (.ref a) (.type "dict")
  | dT {a : Addr} {kvs : List (List Key × V)} (e : H a = some (.dT kvs)) : TyOf K H (.ref a) (.type "dict")
  | ins {a C dx : Addr} {fs : List (Str × V)} (e : H a = some (.ins C dx fs)) (cl : Cls K C) (ha : PySem.W.findIn K (.ref C) "__class__" = some (some (.builtin "object.__class__")))
      (hn : PySem.W.specialIn K (.builtin "object.__class__") "__get__" = some (some (.builtin "getset_descriptor.__get__"))) (htk : PySem.W.takesIn K (.builtin "object.__class__") = some true)
      (hm : PySem.W.mroIn K C (.type "object") = some true) : TyOf K H (.ref a) (.ref C)
/-- isinstance(x, c) for one class c, a built-in or an own one: kitOne's answer -/
theorem isinst_ok {x : V} {u t : Value} (I : Inv X pins σ H s) (rx : RelV x u) (ty : TyOf X.K H x t) (e : PySem.W.kitOne X.K t c = some b) (h : ∀ tk, Q (.bool b) { s with toks := tk }) :
    wpAny (model X.prog X.w) A (call (.builtin "isinstance") [u, c]) Q E s := by
  cases ty with
  | non => cases (show u = Value.none from rx); exact PySem.W.kia_one PySem.W.kitx_none I.kIn True.intro e (fun z => nomatch z) h
  | bl y => cases (show u = Value.bool y from rx); exact PySem.W.kia_one PySem.W.kitx_bool I.kIn True.intro e (fun z => nomatch z) h
  | int i => obtain ⟨t, q⟩ := (show ∃ t, u = Value.int i t from rx); cases q; exact PySem.W.kia_one PySem.W.kitx_int I.kIn True.intro e (fun z => nomatch z) h
  | str y => obtain ⟨t, q⟩ := (show ∃ t, u = Value.str y t from rx); cases q; exact PySem.W.kia_one PySem.W.kitx_str I.kIn True.intro e (fun z => nomatch z) h
  | flt y => obtain ⟨t, q⟩ := (show ∃ t, u = Value.float y t from rx); cases q; exact PySem.W.kia_one PySem.W.kitx_float I.kIn True.intro e (fun z => nomatch z) h
  | @lst a xs ea =>
    cases (show u = Value.ref a from rx)
    obtain ⟨_, _, n, _, h1⟩ := (show ObjOk X.prog X.w H s.heap a (.lst xs) from I.hok a _ ea)
    exact PySem.W.kia_one PySem.W.kitx_list I.kIn ⟨_, h1, rfl⟩ e (fun z => nomatch z) h
  | @frz a ob xs ea =>
    cases (show u = Value.ref a from rx)
    obtain ⟨_, _, _, n, _, h1⟩ := (show ObjOk X.prog X.w H s.heap a (.frz ob (.lst xs)) from I.hok a _ ea)
    exact PySem.W.kia_one PySem.W.kitx_list I.kIn ⟨_, h1, rfl⟩ e (fun z => nomatch z) h
  | @tup a xs ea =>
    cases (show u = Value.ref a from rx)
    obtain ⟨_, _, _, p⟩ := (show ObjOk X.prog X.w H s.heap a (.tup xs) from I.hok a _ ea)
    obtain ⟨o, h1, h2, _⟩ := p
    exact PySem.W.kia_one PySem.W.kitx_tuple I.kIn ⟨o, h1, h2⟩ e (fun z => nomatch z) h
  | @dK a kvs ea =>
    cases (show u = Value.ref a from rx)
    obtain ⟨_, _, vs, _, p⟩ := (show ObjOk X.prog X.w H s.heap a (.dK kvs) from I.hok a _ ea)
    obtain ⟨o, es, ep, h1, h2, _⟩ := p
    exact PySem.W.kia_one PySem.W.kitx_dict I.kIn ⟨o, h1, h2.1⟩ e (fun z => nomatch z) h
  | @dT a kvs ea =>
    cases (show u = Value.ref a from rx)
    obtain ⟨_, _, xs, _, o, es, ep, h1, h2, _⟩ := (show ObjOk X.prog X.w H s.heap a (.dT kvs) from I.hok a _ ea)
    exact PySem.W.kia_one PySem.W.kitx_dict I.kIn ⟨o, h1, h2.1⟩ e (fun z => nomatch z) h
  | @ins a C dx fs ea cl ha hn htk hm =>
    cases (show u = Value.ref a from rx)
    obtain ⟨mA, O, _⟩ := ins_get I.hok ea
    obtain ⟨od, J, _⟩ := O.look
    exact PySem.W.kia_one (PySem.W.kitx_own (cl.get _) cl.hd ha hn htk hm) I.kIn J e (fun z => nomatch z) h
end
end L2

namespace L2
open PySem PySem.Spec PyProof.Rows

/-! ### room -/
structure Room (k : Nat) (A : Around) : Prop where
  hd : A.handled = none
  dp : A.depth + 3 * k + 5 < recursionLimit
  un : A.units + 16 * k + 200 < cLine
theorem Room.mono {j k : Nat} {A : Around} (r : Room k A) (h : j ≤ k) : Room j A := ⟨r.hd, by have := r.dp; omega, by have := r.un; omega⟩
theorem Room.deeper {k : Nat} {A : Around} (r : Room (k + 1) A) (env : Env) : Room k (A.deeper env) :=
  ⟨r.hd, by have := r.dp; show A.depth + 1 + 3 * k + 5 < _; omega, by have := r.un; show A.units + 3 + 16 * k + 200 < _; omega⟩
theorem Room.in1 {k : Nat} {A : Around} (r : Room (k + 1) A) : Room k A.in1 :=
  ⟨r.hd, by have := r.dp; show A.depth + 3 * k + 5 < _; omega, by have := r.un; show A.units + 1 + 16 * k + 200 < _; omega⟩
theorem make_depth {A : Around} {C : Addr} {us : List Value} {kw : List (Str × Value)} : (A.under (.builtin "type.__call__" ⟨.ref C :: us, kw⟩)).depth = A.depth + 1 := by
  first | rfl | simp [Around.under, Code.weight, Code.isCreation, Code.isGuard, Code.isCaller, Code.frames, Code.isFrame, guardIds]
theorem make_units {A : Around} {C : Addr} {us : List Value} {kw : List (Str × Value)} : (A.under (.builtin "type.__call__" ⟨.ref C :: us, kw⟩)).units = A.units + 1 := by
  first | rfl | simp [Around.under, Code.cUnits, Code.frames, Code.isFrame]
theorem Room.make {k : Nat} {A : Around} (r : Room (k + 1) A) (C : Addr) (us : List Value) (kw : List (Str × Value)) : Room k (A.under (.builtin "type.__call__" ⟨.ref C :: us, kw⟩)) :=
  ⟨r.hd, by have := r.dp; rw [make_depth]; omega, by have := r.un; rw [make_units]; omega⟩
theorem Room.depth {k : Nat} {A : Around} (r : Room k A) : A.depth < recursionLimit := by have := r.dp; omega
theorem Room.units {k : Nat} {A : Around} (r : Room k A) : A.units + 64 < cLine := by have := r.un; omega
theorem Room.units0 {k : Nat} {A : Around} (r : Room k A) : A.units < cLine := by have := r.un; omega

/-! ### argument lists and displays -/
def tNil : TA := fun _ H Q => Q [] H
def tCons (ta : TE) (tr : TA) : TA := fun σ H Q => ta σ H fun x H1 => tr σ H1 fun xs H2 => Q (x :: xs) H2
section
variable {X : Cx} {e : Expr} {es : List Expr} {te : TE} {t : TA} {pos : Pos}
theorem pa_nil : PA X [] tNil := fun _ _ _ _ H Q I h => Calls.spliced_nil ⟨[], H, I, .nil, h⟩
theorem pa_cons (ha : PE X e te) (hr : PA X es t) (hs : starEach (e :: es) X.env = (false, eval e X.env) :: starEach es X.env := by rfl) : PA X (e :: es) (tCons te t) := by
  intro pos pins s σ H Q I h
  rw [hs]
  show wpAny _ _ (spliced ((false, eval e X.env) :: backTo pos (starEach es X.env))) _ _ s
  refine Calls.spliced_cons (thn (ha pins s σ H _ I h) fun u s1 ⟨x, H1, I1, r1, q1⟩ => ?_)
  exact thn (hr pos pins s1 σ H1 _ I1 q1) fun us s2 ⟨xs, H2, I2, r2, q2⟩ => ⟨x :: xs, H2, I2, .cons r1 r2, q2⟩

/-- a tuple, a list of written items -/
def tTup (t : TA) : TE := fun σ H Q => t σ H fun xs H1 => xs.length ≤ sizeLine ∧ ∀ p, H1 p = none → Q (.ref p) (upd H1 p (.tup xs))
def tLst (t : TA) : TE := fun σ H Q => t σ H fun xs H1 => xs.length ≤ sizeLine ∧ ∀ p, H1 p = none → Q (.ref p) (upd H1 p (.lst xs))
theorem pe_tup {x1} (h : PA X es t) : PE X (.Tuple es x1 pos) (tTup t) := by
  intro pins s σ H Q I hq
  refine wpAny_Tuple_spliced (thn (h pos pins s σ H _ I hq) fun us s1 ⟨xs, H1, I1, r, z, q⟩ => ⟨by rw [← r.length]; exact z, ?_⟩)
  have hf : H1 s1.heap.objs.size = none := I1.hok.fresh (Nat.le_refl _)
  refine ⟨.ref s1.heap.objs.size, upd H1 s1.heap.objs.size (.tup xs), I1.laid (t' := s1.toks) (fun b u e => Heap.get?_push_of_some _ e) (Nat.le_refl _) ?_, rfl, q _ hf⟩
  exact ⟨z, us, r, ⟨_, Heap.get?_push_size _ rfl, rfl, _, rfl⟩⟩
theorem pe_lst (h : PA X es t) : PE X (.List es pos) (tLst t) := by
  intro pins s σ H Q I hq
  refine wpAny_List_spliced (thn (h pos pins s σ H _ I hq) fun us s1 ⟨xs, H1, I1, r, z, q⟩ => ⟨by rw [← r.length]; exact z, ?_⟩)
  have hf : H1 s1.heap.objs.size = none := I1.hok.fresh (Nat.le_refl _)
  refine ⟨.ref s1.heap.objs.size, upd H1 s1.heap.objs.size (.lst xs), I1.laid (t' := s1.toks) (fun b u e => Heap.get?_push_of_some _ e) (Nat.le_refl _) ?_, rfl, q _ hf⟩
  exact ⟨z, us, 0, r, Heap.get?_push_size _ rfl⟩
end

/-! ### what a def promises -/
/-- a def's promise: the bound arguments in the parameters' order, the heap, the wanted end, the wanted exception -/
abbrev Sp := List V → Hp → VK → XK → Prop
/-- how an exception lies behind a call (file 08 gives it): the callers' frames, abstract heap and state ahead of the call, the wish, the exception, the state -/
abbrev CXT := List Env → Hp → Shared → XK → Value → Shared → Prop

/-- the state at a call -/
structure Env0 (P : Program) (w : World) (K : PySem.W.Frag) (mg : Str → Option Value) (base : Heap) (A : Around) (outer : List Env) (s : Shared) (H : Hp) : Prop where
  frames : A.frames = some outer
  mod : Mod K mg base
  bs : ∀ b o, base.get? b = some o → s.heap.get? b = some o ∧ H b = none
  bsz : base.objs.size ≤ s.heap.objs.size
  funs : s.heap.FunFrames base outer
  frf : ∀ b ∈ frs outer, H b = none
  hok : HOk P w H s.heap
  bare : AllBare s.gens
/-- a call's end -/
def CE (outer : List Env) (P : Program) (w : World) (H : Hp) (s : Shared) (Q : VK) (u : Value) (s' : Shared) : Prop :=
  ∃ v H', s'.os = s.os ∧ AllBare s'.gens ∧ Un (frs outer) [] H H' s.heap s'.heap ∧ HOk P w H' s'.heap ∧ RelV v u ∧ Q v H'
def CR (CX : CXT) (outer : List Env) (P : Program) (w : World) (H : Hp) (s : Shared) (Q : VK) (E : XK) (r : Result) (s' : Shared) : Prop :=
  match r with
  | .ok (.ret u) => CE outer P w H s Q u s'
  | .ok _ => False
  | .error e => CX outer H s E e s'
structure FnOk (P : Program) (w : World) (K : PySem.W.Frag) (mg : Str → Option Value) (base : Heap) (CX : CXT) (k : Nat) (f : Addr) (fd : FuncData) (ps : List Str) (sp : Sp) : Prop where
  len : ∀ vs H Q E, sp vs H Q E → vs.length = ps.length
  run : ∀ (A : Around) (outer : List Env) (s : Shared) (H : Hp) (args : Args) (us : List Value) (vs : List V) (Q : VK) (E : XK), Room k A → Env0 P w K mg base A outer s H → BindsTo s fd args (ps.zip us) → Vals vs us → sp vs H Q E →
    codeAny (model P w) A (.call (.ref f) args) (CR CX outer P w H s Q E) s
theorem FnOk.mono {P : Program} {w : World} {K : PySem.W.Frag} {mg : Str → Option Value} {base : Heap} {CX : CXT} {j k : Nat} {f : Addr} {fd : FuncData} {ps : List Str} {sp : Sp} (F : FnOk P w K mg base CX j f fd ps sp) (h : j ≤ k) :
    FnOk P w K mg base CX k f fd ps sp := ⟨F.len, fun A outer s H args us vs Q E hr => F.run A outer s H args us vs Q E (hr.mono h)⟩
/-- a weaker promise -/
theorem FnOk.imp {P : Program} {w : World} {K : PySem.W.Frag} {mg : Str → Option Value} {base : Heap} {CX : CXT} {k : Nat} {f : Addr} {fd : FuncData} {ps : List Str} {sp sp' : Sp} (F : FnOk P w K mg base CX k f fd ps sp)
    (h : ∀ vs H Q E, sp' vs H Q E → sp vs H Q E) : FnOk P w K mg base CX k f fd ps sp' :=
  ⟨fun vs H Q E q => F.len vs H Q E (h _ _ _ _ q), fun A outer s H args us vs Q E hr he hb hv hs => F.run A outer s H args us vs Q E hr he hb hv (h _ _ _ _ hs)⟩

theorem Env0.make {P : Program} {w : World} {K : PySem.W.Frag} {mg : Str → Option Value} {base : Heap} {A : Around} {outer : List Env} {s : Shared} {H : Hp} (e : Env0 P w K mg base A outer s H) (C : Addr) (us : List Value) (kw : List (Str × Value)) :
    Env0 P w K mg base (A.under (.builtin "type.__call__" ⟨.ref C :: us, kw⟩)) outer s H := ⟨by first | exact e.frames | (simpa [Around.under, Code.envs, Code.isFrame, pushEnvs] using e.frames), e.mod, e.bs, e.bsz, e.funs, e.frf, e.hok, e.bare⟩
theorem Env0.in1 {P : Program} {w : World} {K : PySem.W.Frag} {mg : Str → Option Value} {base : Heap} {A : Around} {outer : List Env} {s : Shared} {H : Hp} (e : Env0 P w K mg base A outer s H) :
    Env0 P w K mg base A.in1 outer s H := ⟨e.frames, e.mod, e.bs, e.bsz, e.funs, e.frf, e.hok, e.bare⟩

section
variable {X : Cx} {pins : List (Addr × Obj)} {σ : St} {H : Hp} {s s' : Shared}
/-- from a body: what a callee wants -/
theorem Inv.env0 (I : Inv X pins σ H s) : Env0 X.prog X.w X.K X.mg X.base X.A X.stack s H :=
  ⟨I.ok.frames, I.ok.mod, I.bs, Nat.le_trans I.ok.bsz I.sz, I.stack, I.stkFree, I.hok, I.bare⟩
/-- behind a call -/
theorem Inv.after {Q : VK} {u : Value} (I : Inv X pins σ H s) (h : CE X.stack X.prog X.w H s Q u s') : EP X pins σ Q u s' := by
  obtain ⟨v, H', os, bare, un, hok, r, q⟩ := h
  obtain ⟨hh, g, d, t, os'⟩ := s'
  obtain rfl : os' = s.os := os
  exact ⟨v, H', I.call (h' := hh) (g' := g) (d' := d) (t' := t) (ch := []) un hok bare (fun b z => absurd z (by simp)), r, q⟩
end

/-! ### calls -/
/-- f(..): the written arguments, then the defaults dvs; E: what is wanted of an exception -/
def tCall (sp : Sp) (dvs : List V) (E : XK) (t : TA) : TE := fun σ H Q => t σ H fun vs H1 => sp (vs ++ dvs) H1 Q E
/-- o.m(..) of an instance of the class at C -/
def tMeth (C : Addr) (m : Str) (sp : Sp) (dvs : List V) (E : XK) (ta : TE) (t : TA) : TE := fun σ H Q => ta σ H fun x H1 => ∃ a dx fs, x = .ref a ∧ H1 a = some (.ins C dx fs) ∧ fs.lookup m = none ∧
  t σ H1 fun vs H2 => sp (x :: (vs ++ dvs)) H2 Q E
/-- C(..): a new instance and its dict, then __init__ -/
def tMake (C : Addr) (sp : Sp) (dvs : List V) (E : XK) (t : TA) : TE := fun σ H Q => t σ H fun vs H1 => ∀ x dx, H1 x = none → H1 dx = none → dx ≠ x →
  sp (.ref x :: (vs ++ dvs)) (upd (upd H1 dx (.own x)) x (.ins C dx [])) (fun v H2 => v = .non ∧ Q (.ref x) H2) E

/-- how the parameters are bound: us the positional arguments, kw the keywords' values by name, ds the defaults that fill up -/
def Binds (K : PySem.W.Frag) (fd : FuncData) (ps : List Str) (ds : List Value) : Prop :=
  ∀ (s : Shared) (us : List Value), K.In s.heap → (us ++ ds).length = ps.length → BindsTo s fd ⟨us, []⟩ (ps.zip (us ++ ds))
/-- every parameter is given -/
theorem Binds.all {K : PySem.W.Frag} {fd : FuncData} {ps : List Str} (h : ∀ us : List Value, us.length = ps.length → bindArgs fd ⟨us, []⟩ = pure (ps.zip us)) : Binds K fd ps [] := fun s us _ hl => by
  rw [List.append_nil] at hl ⊢
  exact .of_eq (h us hl)

/-- an exception of a callee reaches what this body wants of exceptions -/
def Passes (CX : CXT) (X : Cx) (E : XK) : Prop := ∀ (pins : List (Addr × Obj)) (σ : St) (H : Hp) (s : Shared) (e : Value) (s' : Shared), Inv X pins σ H s → CX X.stack H s E e s' → X.xe e s'

section
variable {X : Cx} {CX : CXT} {k : Nat} {f C : Addr} {fd : FuncData} {ps : List Str} {sp : Sp} {dvs : List V} {ds : List Value} {E : XK} {x m : Str} {p pos apos : Pos} {e o : Expr} {es : List Expr} {ta : TE} {t : TA}

/-- the callee runs -/
theorem run_fn {pins : List (Addr × Obj)} {σ : St} {H : Hp} {s : Shared} {Q : VK} {us : List Value} {vs : List V} (F : FnOk X.prog X.w X.K X.mg X.base CX k f fd ps sp) (hr : Room k X.A) (hb : Binds X.K fd ps ds) (hd : Vals dvs ds) (hx : Passes CX X E)
    (I : Inv X pins σ H s) (r : Vals vs us) (h : sp (vs ++ dvs) H Q E) : wpAny (model X.prog X.w) X.A (call (.ref f) us) (EP X pins σ Q) X.xe s := by
  have r2 : Vals (vs ++ dvs) (us ++ ds) := r.append hd
  have hl : (us ++ ds).length = ps.length := by rw [← r2.length]; exact F.len _ _ _ _ h
  refine wpAny_call (codeAny_mono (F.run X.A X.stack s H ⟨us, []⟩ (us ++ ds) (vs ++ dvs) Q E hr I.env0 (hb s us I.kIn hl) r2 h) fun r s' hq => ?_)
  cases r with
  | error e => exact hx pins σ H s e s' I hq
  | ok fl =>
    cases fl with
    | ret u => exact I.after hq
    | next => exact False.elim hq
    | brk => exact False.elim hq
    | cont => exact False.elim hq

theorem pe_call (F : FnOk X.prog X.w X.K X.mg X.base CX k f fd ps sp) (hr : Room k X.A) (hg : Gl X x) (hm : X.mg x = some (.ref f)) (hk : PySem.W.keepIn X.K (.ref f) = true) (hb : Binds X.K fd ps ds) (hd : Vals dvs ds) (hx : Passes CX X E)
    (ha : PA X (e :: es) t) (hdb : (x == ("__debug__" : Str)) = false := by decide) (he : starEach (e :: es) X.env = (false, eval e X.env) :: starEach es X.env := by rfl) (hpl : (backTo pos (starEach es X.env)).any (·.1) = false := by rfl) :
    PE X (.Call (.Name x p) (e :: es) [] pos) (tCall sp dvs E t) := by
  intro pins s σ H Q I h
  refine wpAny_Call_Name_kw (ld_glob I hg hm ?_ hdb)
  refine PySem.W.callWith_K (h₀ := X.base) I.ok.mod.kin hk (thn (ha pos pins s σ H _ I h) fun us s1 ⟨vs, H1, I1, r, q⟩ => ⟨I1.kIn, ?_⟩) he hpl
  exact run_fn F hr hb hd hx I1 r q
theorem pe_call0 (F : FnOk X.prog X.w X.K X.mg X.base CX k f fd ps sp) (hr : Room k X.A) (hg : Gl X x) (hm : X.mg x = some (.ref f)) (hk : PySem.W.keepIn X.K (.ref f) = true) (hb : Binds X.K fd ps ds) (hd : Vals dvs ds) (hx : Passes CX X E)
    (hdb : (x == ("__debug__" : Str)) = false := by decide) : PE X (.Call (.Name x p) [] [] pos) (tCall sp dvs E tNil) := by
  intro pins s σ H Q I h
  refine wpAny_Call_Name_kw (ld_glob I hg hm ?_ hdb)
  exact PySem.W.callWith_K0 I.kIn hk (run_fn (us := []) F hr hb hd hx I .nil h)

/-- o.m(e, ..) -/
theorem pe_meth {pl : Sem Bool} (he : PE X o ta) (c : Cls X.K C) (hm : Meth X.K C m f) (F : FnOk X.prog X.w X.K X.mg X.base CX k f fd ps sp) (hr : Room k X.A) (hb : Binds X.K fd ps ds) (hd : Vals dvs ds) (hx : Passes CX X E) (ha : PA X (e :: es) t)
    (hst : starEach (e :: es) X.env = (false, eval e X.env) :: starEach es X.env := by rfl) (hpl : (backTo pos (starEach es X.env)).any (·.1) = false := by rfl)
    (ht : eval (.Call (.Attribute o m apos) (e :: es) [] pos) X.env = (do
      let ov ← eval o X.env
      standAt apos.atName
      let (f, first) ← holding [ov] (getMethod ov m pl)
      callWith pos f first (backTo pos (starEach (e :: es) X.env)) (backToKw pos (keywordEach [] X.env))) := by rfl) :
    PE X (.Call (.Attribute o m apos) (e :: es) [] pos) (tMeth C m sp dvs E ta t) := by
  intro pins s σ H Q I h
  refine PySem.W.methodCall_KW (pl := pl) (thn (he pins s σ H _ I h) fun u s1 ⟨x, H1, I1, rx, a, dx, fs, ex, ea, l, q⟩ => ?_) ht
  subst ex
  obtain rfl : u = Value.ref a := rx
  refine getmeth_ok I1 ea c hm l ?_
  refine PySem.W.callWith_K (first := [.ref a]) (h₀ := X.base) I.ok.mod.kin hm.kp (thn (ha pos pins s1 σ H1 _ I1 q) fun us s2 ⟨vs, H2, I2, r, q2⟩ => ⟨I2.kIn, ?_⟩) hst hpl
  exact run_fn (us := .ref a :: us) (vs := .ref a :: vs) F hr hb hd hx I2 (.cons rfl r) q2
/-- o.m() -/
theorem pe_meth0 {pl : Sem Bool} (he : PE X o ta) (c : Cls X.K C) (hm : Meth X.K C m f) (F : FnOk X.prog X.w X.K X.mg X.base CX k f fd ps sp) (hr : Room k X.A) (hb : Binds X.K fd ps ds) (hd : Vals dvs ds) (hx : Passes CX X E)
    (ht : eval (.Call (.Attribute o m apos) [] [] pos) X.env = (do
      let ov ← eval o X.env
      standAt apos.atName
      let (f, first) ← holding [ov] (getMethod ov m pl)
      callWith pos f first (backTo pos (starEach [] X.env)) (backToKw pos (keywordEach [] X.env))) := by rfl) :
    PE X (.Call (.Attribute o m apos) [] [] pos) (tMeth C m sp dvs E ta tNil) := by
  intro pins s σ H Q I h
  refine PySem.W.methodCall_KW (pl := pl) (thn (he pins s σ H _ I h) fun u s1 ⟨x, H1, I1, rx, a, dx, fs, ex, ea, l, q⟩ => ?_) ht
  subst ex
  obtain rfl : u = Value.ref a := rx
  refine getmeth_ok I1 ea c hm l ?_
  exact PySem.W.callWith_K0 (first := [.ref a]) I1.kIn hm.kp (run_fn (us := [.ref a]) (vs := [.ref a]) F hr hb hd hx I1 (.cons rfl .nil) q)

/-- what a class must have to be made -/
structure Mk (K : PySem.W.Frag) (C f : Addr) : Prop where
  makes : PySem.W.makesIn K C = true
  init : PySem.W.findIn K (.ref C) "__init__" = some (some (.ref f))
  fn : PySem.W.isFn K (.ref f) = true
  kp : PySem.W.keepIn K (.ref C) = true

theorem run_make {pins : List (Addr × Obj)} {σ : St} {H : Hp} {s : Shared} {Q : VK} {us : List Value} {vs : List V} (M : Mk X.K C f) (F : FnOk X.prog X.w X.K X.mg X.base CX k f fd ps sp) (hr : Room (k + 1) X.A) (hb : Binds X.K fd ps ds) (hd : Vals dvs ds)
    (hx : Passes CX X E) (I : Inv X pins σ H s) (r : Vals vs us)
    (h : ∀ x dx, H x = none → H dx = none → dx ≠ x → sp (.ref x :: (vs ++ dvs)) (upd (upd H dx (.own x)) x (.ins C dx [])) (fun v H2 => v = .non ∧ Q (.ref x) H2) E) :
    wpAny (model X.prog X.w) X.A (call (.ref C) us) (EP X pins σ Q) X.xe s := by
  have hq := h (s.heap.objs.size + 1) s.heap.objs.size (I.hok.fresh (Nat.le_succ _)) (I.hok.fresh (Nat.le_refl _)) (Nat.ne_of_lt (Nat.lt_succ_self _))
  have I2 := Inv.made (C := C) I
  have r2 : Vals (V.ref (s.heap.objs.size + 1) :: (vs ++ dvs)) (Value.ref (s.heap.objs.size + 1) :: (us ++ ds)) := .cons rfl (r.append hd)
  have hl : (Value.ref (s.heap.objs.size + 1) :: us ++ ds).length = ps.length := by
    have e := r2.length
    rw [F.len _ _ _ _ hq] at e
    exact e.symm
  refine wpAny_call (make_map (f := f) I.kIn M.makes M.init (beq_iff_eq.mp M.fn) (codeAny_mono (F.run _ X.stack _ _ ⟨Value.ref (s.heap.objs.size + 1) :: us, []⟩ (Value.ref (s.heap.objs.size + 1) :: (us ++ ds)) _ _ E (hr.make C us [])
    (I2.env0.make C us []) (hb _ (Value.ref (s.heap.objs.size + 1) :: us) I2.kIn hl) r2 hq) fun r s' hq' => ?_))
  cases r with
  | error e => exact hx pins σ _ _ e s' I2 hq'
  | ok fl =>
    cases fl with
    | ret u =>
      obtain ⟨v, H', I3, rv, ev, q3⟩ := I2.after hq'
      subst ev
      exact ⟨rv, ⟨V.ref (s.heap.objs.size + 1), H', I3, rfl, q3⟩⟩
    | next => exact False.elim hq'
    | brk => exact False.elim hq'
    | cont => exact False.elim hq'
theorem pe_make (M : Mk X.K C f) (F : FnOk X.prog X.w X.K X.mg X.base CX k f fd ps sp) (hr : Room (k + 1) X.A) (hg : Gl X x) (hm : X.mg x = some (.ref C)) (hb : Binds X.K fd ps ds) (hd : Vals dvs ds) (hx : Passes CX X E)
    (ha : PA X (e :: es) t) (hdb : (x == ("__debug__" : Str)) = false := by decide) (he : starEach (e :: es) X.env = (false, eval e X.env) :: starEach es X.env := by rfl) (hpl : (backTo pos (starEach es X.env)).any (·.1) = false := by rfl) :
    PE X (.Call (.Name x p) (e :: es) [] pos) (tMake C sp dvs E t) := by
  intro pins s σ H Q I h
  refine wpAny_Call_Name_kw (ld_glob I hg hm ?_ hdb)
  refine PySem.W.callWith_K (h₀ := X.base) I.ok.mod.kin M.kp (thn (ha pos pins s σ H _ I h) fun us s1 ⟨vs, H1, I1, r, q⟩ => ⟨I1.kIn, ?_⟩) he hpl
  exact run_make M F hr hb hd hx I1 r q
theorem pe_make0 (M : Mk X.K C f) (F : FnOk X.prog X.w X.K X.mg X.base CX k f fd ps sp) (hr : Room (k + 1) X.A) (hg : Gl X x) (hm : X.mg x = some (.ref C)) (hb : Binds X.K fd ps ds) (hd : Vals dvs ds) (hx : Passes CX X E)
    (hdb : (x == ("__debug__" : Str)) = false := by decide) : PE X (.Call (.Name x p) [] [] pos) (tMake C sp dvs E tNil) := by
  intro pins s σ H Q I h
  refine wpAny_Call_Name_kw (ld_glob I hg hm ?_ hdb)
  exact PySem.W.callWith_K0 I.kIn M.kp (run_make (us := []) M F hr hb hd hx I .nil h)
end

/-! ### keywords -/
/-- the values of the keywords, from the left -/
def PK (X : Cx) (kws : List Keyword) (t : TA) : Prop :=
  ∀ (pos : Pos) (pins : List (Addr × Obj)) (s : Shared) (σ : St) (H : Hp) (Q : List V → Hp → Prop), Inv X pins σ H s → t σ H Q → wpAny (model X.prog X.w) X.A (evalAll ((backToKw pos (keywordEach kws X.env)).map (·.2))) (AP X pins σ Q) X.xe s
section
variable {X : Cx} {CX : CXT} {k : Nat} {f C : Addr} {fd : FuncData} {ps ks : List Str} {sp : Sp} {E : XK} {x m : Str} {p pos apos kpos : Pos} {e o : Expr} {es : List Expr} {kws : List Keyword} {te ta : TE} {t tk : TA} {nm : Option Str}
theorem pk_nil : PK X [] tNil := fun _ _ _ _ H Q I h => wpAny_evalAll_nil ⟨[], H, I, .nil, h⟩
theorem pk_cons (ha : PE X e te) (hr : PK X kws t) : PK X (⟨nm, e, kpos⟩ :: kws) (tCons te t) := by
  intro pos pins s σ H Q I h
  show wpAny _ _ (evalAll ((do let v ← eval e X.env; standAt pos; pure v) :: (backToKw pos (keywordEach kws X.env)).map (·.2))) _ _ s
  refine wpAny_evalAll_cons (wpAny_bind (thn (ha pins s σ H _ I h) fun u s1 ⟨x, H1, I1, r1, q1⟩ => wpAny_bind (wpAny_standAt (wpAny_pure ?_))))
  exact thn (hr pos pins s1 σ H1 _ I1 q1) fun us s2 ⟨xs, H2, I2, r2, q2⟩ => ⟨x :: xs, H2, I2, .cons r1 r2, q2⟩

/-- how a call with keywords binds: g puts the positional values us and the keywords' values ws (names ks) in the parameters' order, defaults among them -/
structure KBinds (K : PySem.W.Frag) (fd : FuncData) (ps ks : List Str) (g : List Value → List Value → List Value) (gV : List V → List V → List V) : Prop where
  to : ∀ (s : Shared) (us ws : List Value), K.In s.heap → (g us ws).length = ps.length → BindsTo s fd ⟨us, ks.zip ws⟩ (ps.zip (g us ws))
  rel : ∀ {vs : List V} {us : List Value} {zs : List V} {ws : List Value}, Vals vs us → Vals zs ws → Vals (gV vs zs) (g us ws)
def tCallK (sp : Sp) (gV : List V → List V → List V) (E : XK) (t tk : TA) : TE := fun σ H Q => t σ H fun vs H1 => tk σ H1 fun zs H2 => sp (gV vs zs) H2 Q E
variable {g : List Value → List Value → List Value} {gV : List V → List V → List V}
theorem run_fnk {pins : List (Addr × Obj)} {σ : St} {H : Hp} {s : Shared} {Q : VK} {us ws : List Value} {vs zs : List V} (F : FnOk X.prog X.w X.K X.mg X.base CX k f fd ps sp) (hr : Room k X.A) (hb : KBinds X.K fd ps ks g gV) (hx : Passes CX X E)
    (I : Inv X pins σ H s) (r : Vals vs us) (rz : Vals zs ws) (h : sp (gV vs zs) H Q E) : wpAny (model X.prog X.w) X.A (call (.ref f) us (ks.zip ws)) (EP X pins σ Q) X.xe s := by
  have r2 := hb.rel r rz
  have hl : (g us ws).length = ps.length := by rw [← r2.length]; exact F.len _ _ _ _ h
  refine wpAny_call (codeAny_mono (F.run X.A X.stack s H ⟨us, ks.zip ws⟩ (g us ws) (gV vs zs) Q E hr I.env0 (hb.to s us ws I.kIn hl) r2 h) fun r s' hq => ?_)
  cases r with
  | error e => exact hx pins σ H s e s' I hq
  | ok fl =>
    cases fl with
    | ret u => exact I.after hq
    | next => exact False.elim hq
    | brk => exact False.elim hq
    | cont => exact False.elim hq
/-- f(e, .., k = v, ..) -/
theorem pe_callK (F : FnOk X.prog X.w X.K X.mg X.base CX k f fd ps sp) (hr : Room k X.A) (hg : Gl X x) (hm : X.mg x = some (.ref f)) (hk : PySem.W.keepIn X.K (.ref f) = true) (hb : KBinds X.K fd ps ks g gV) (hx : Passes CX X E)
    (ha : PA X (e :: es) t) (hkw : PK X kws tk) (hall : (backToKw pos (keywordEach kws X.env)).all (·.1.isSome) = true := by rfl) (hks : (backToKw pos (keywordEach kws X.env)).filterMap (·.1) = ks := by rfl)
    (hdb : (x == ("__debug__" : Str)) = false := by decide) (he : starEach (e :: es) X.env = (false, eval e X.env) :: starEach es X.env := by rfl)
    (hpl : ((backTo pos (starEach (e :: es) X.env)).any (·.1) || (backToKw pos (keywordEach kws X.env)).any (·.1.isNone)) = false := by rfl) :
    PE X (.Call (.Name x p) (e :: es) kws pos) (tCallK sp gV E t tk) := by
  intro pins s σ H Q I h
  refine wpAny_Call_Name_kw (ld_glob I hg hm ?_ hdb)
  refine PySem.W.callWith_KW (h₀ := X.base) I.ok.mod.kin hk hall (thn (ha pos pins s σ H _ I h) fun us s1 ⟨vs, H1, I1, r, q⟩ => ?_) hpl he
  refine thn (hkw pos pins s1 σ H1 _ I1 q) fun ws s2 ⟨zs, H2, I2, rz, q2⟩ => ⟨I2.kIn, ?_⟩
  rw [hks]
  exact run_fnk F hr hb hx I2 r rz q2
end

/-! ### a def's body keeps its promise -/
/-- names: the parameters first -/
structure FnScope (N P : List Str) (sc : Scope) : Prop where
  kind : sc.kind = .function
  co : sc.isCoroutine = false
  gen : sc.isGenerator = false
  nd : N.Nodup
  pre : N.take P.length = P
  par : ∀ x ∈ P, sc.names.lookup x = some .local ∨ sc.names.lookup x = some .cell
  nofree : ∀ y ∈ sc.names, y.2 ≠ .free

theorem bindL_out {kindOf : Str → Option NameKind} {x : Str} : ∀ {binds : List (Str × Value)} {m : Str → Option Value}, (∀ v, (x, v) ∉ binds) → bindL kindOf binds m x = m x
  | [], _, _ => rfl
  | (n, v) :: r, m, h => by
    unfold bindL
    rw [bindL_out fun w hw => h w (List.mem_cons_of_mem _ hw)]
    split
    · have : x ≠ n := by rintro rfl; exact h v List.mem_cons_self
      simp [this]
    · rfl
theorem bindC_out {kindOf : Str → Option NameKind} {x : Str} : ∀ {binds : List (Str × Value)} {m : Str → Option Value}, (∀ v, (x, v) ∉ binds) → bindC kindOf binds m x = m x
  | [], _, _ => rfl
  | (n, v) :: r, m, h => by
    unfold bindC
    rw [bindC_out fun w hw => h w (List.mem_cons_of_mem _ hw)]
    split
    · rfl
    · have : x ≠ n := by rintro rfl; exact h v List.mem_cons_self
      simp [this]
theorem bindL_get {kindOf : Str → Option NameKind} {x : Str} {v : Value} : ∀ {P : List Str} {vs : List Value} {i : Nat} {m : Str → Option Value}, P.Nodup → P[i]? = some x → vs[i]? = some v → kindOf x = some .local →
    bindL kindOf (P.zip vs) m x = some v
  | [], _, _, _, _, h, _, _ => by simp at h
  | _ :: _, [], _, _, _, _, h, _ => by simp at h
  | p :: P, w :: vs, 0, m, nd, h1, h2, hk => by
    simp at h1 h2; subst h1; subst h2
    show bindL kindOf ((p, w) :: P.zip vs) m p = _
    unfold bindL
    rw [bindL_out fun v hv => (List.nodup_cons.mp nd).1 (List.of_mem_zip hv).1, if_pos hk]
    simp
  | p :: P, w :: vs, i + 1, m, nd, h1, h2, hk => by
    show bindL kindOf ((p, w) :: P.zip vs) m x = _
    unfold bindL
    exact bindL_get (i := i) (List.nodup_cons.mp nd).2 (by simpa using h1) (by simpa using h2) hk
theorem bindC_get {kindOf : Str → Option NameKind} {x : Str} {v : Value} : ∀ {P : List Str} {vs : List Value} {i : Nat} {m : Str → Option Value}, P.Nodup → P[i]? = some x → vs[i]? = some v → kindOf x ≠ some .local →
    bindC kindOf (P.zip vs) m x = some v
  | [], _, _, _, _, h, _, _ => by simp at h
  | _ :: _, [], _, _, _, _, h, _ => by simp at h
  | p :: P, w :: vs, 0, m, nd, h1, h2, hk => by
    simp at h1 h2; subst h1; subst h2
    show bindC kindOf ((p, w) :: P.zip vs) m p = _
    unfold bindC
    rw [bindC_out fun v hv => (List.nodup_cons.mp nd).1 (List.of_mem_zip hv).1, if_neg hk]
    simp
  | p :: P, w :: vs, i + 1, m, nd, h1, h2, hk => by
    show bindC kindOf ((p, w) :: P.zip vs) m x = _
    unfold bindC
    exact bindC_get (i := i) (List.nodup_cons.mp nd).2 (by simpa using h1) (by simpa using h2) hk

/-- the names' values at the entry -/
def start (N : List Str) (vs : List V) : St := vs.map some ++ List.replicate (N.length - vs.length) none

/-- the context of a def's body, at its entry; an exception leaves the frame, then lies as CX says -/
def cxOf (CX : CXT) (P : Program) (w : World) (K : PySem.W.Frag) (mg : Str → Option Value) (base : Heap) (N : List Str) (qual : Str) (scope : Scope) (f : Addr) (cd : Value) (A : Around) (outer : List Env) (s : Shared) (H : Hp) (E : XK) : Cx where
  prog := P
  w := w
  K := K
  mg := mg
  base := base
  A := A.deeper (envOfC qual scope s.heap.objs.size f cd)
  N := N
  s₀ := s
  H₀ := H
  env := envOfC qual scope s.heap.objs.size f cd
  outer := outer
  stack := envOfC qual scope s.heap.objs.size f cd :: outer
  ex := []
  calm := true
  fn := fun _ => true
  pn := []
  xe := fun e s' => wpAny (model P w) (A.deeper (envOfC qual scope s.heap.objs.size f cd)) (leaving (envOfC qual scope s.heap.objs.size f cd) e) (fun _ s'' => CX outer H s E e s'') (fun e' s'' => CX outer H s E e' s'') s'

theorem cell_has {sc : Scope} {n : Nat} {x : Str} (h : sc.names.lookup x = some .cell) : ∃ c, (cellsFrom n sc.names []).lookup x = some c := by
  have q := PySem.W.cellsFrom_some sc.names n [] (.inl h)
  exact Option.isSome_iff_exists.mp q

theorem inv_start {CX : CXT} {P : Program} {w : World} {K : PySem.W.Frag} {mg : Str → Option Value} {base : Heap} {N ps : List Str} {qual : Str} {scope : Scope} {f : Addr} {cd : Value} {A : Around} {outer : List Env} {s s1 : Shared} {H : Hp} {E : XK} {us : List Value} {vs : List V}
    (S : FnScope N ps scope) (hd : A.handled = none) (e0 : Env0 P w K mg base A outer s H) (hl : vs.length = ps.length) (r : Vals vs us)
    (x : InCallC s s.heap.objs.size (bindL (envOfC qual scope s.heap.objs.size f cd).kindOf (ps.zip us) fun _ => none) (cellsFrom (s.heap.objs.size + 1) scope.names []) (bindC (envOfC qual scope s.heap.objs.size f cd).kindOf (ps.zip us) fun _ => none) s1) :
    Inv (cxOf CX P w K mg base N qual scope f cd A outer s H E) [] (start N vs) H s1 := by
  have hpl : ps.length ≤ N.length := by have := congrArg List.length S.pre; rw [List.length_take] at this; omega
  obtain ⟨h1, tk, rfl, hk⟩ := x.done
  have noA : ∀ b : Addr, b ∉ (cxOf CX P w K mg base N qual scope f cd A outer s H E).ex := fun b z => absurd (show b ∈ ([] : List Addr) from z) (by simp)
  refine ⟨⟨e0.mod, S.kind, rfl, rfl, Nat.le_refl _, fun y z c h1 h2 => ?_, fun y hy => ?_, fun y c _ h => ?_, fun _ => hd, Around.frames_deeper e0.frames, .inr ⟨rfl, rfl⟩, fun b z => absurd z (noA b), e0.bs, e0.bsz, fun b _ _ => noA b, fun b z => absurd z (noA b), e0.funs, e0.frf⟩,
    rfl, e0.bare, Un.kept hk, ⟨_, x.toInCall.ns, fun i y v h1 h2 h3 => ?_⟩, fun y c h => ⟨_, x.cell y c h⟩, e0.hok.fresh (Nat.le_refl _), fun y c h => ?_, fun p hp => absurd (show p ∈ ([] : List (Addr × Obj)) from hp) (by simp), e0.hok.kept hk, ?_⟩
  · exact name_of_addr x.apart (PySem.mem_of_lookup h1) (PySem.mem_of_lookup h2)
  · have hy : scope.names.lookup y = some .cell ∨ scope.names.lookup y = some .free := hy
    rcases hy with hy | hy
    · exact cell_has hy
    · exact absurd rfl (S.nofree _ (PySem.mem_of_lookup hy))
  · exact Nat.le_of_lt (x.above y c (PySem.mem_of_lookup h))
  · have hi : i < vs.length := by
      unfold start at h2
      by_cases hi : i < vs.length
      · exact hi
      · rw [List.getElem?_append_right (by simpa using hi)] at h2
        rw [List.getElem?_replicate] at h2
        split at h2 <;> cases h2
    have ha : vs[i]? = some v := by
      unfold start at h2
      rw [List.getElem?_append_left (by simpa using hi), List.getElem?_map] at h2
      cases e : vs[i]? with
      | none => rw [e] at h2; cases h2
      | some a => rw [e] at h2; cases h2; rfl
    obtain ⟨u, hu, rv⟩ := r.get ha
    have hp : ps[i]? = some y := by
      rw [← S.pre, List.getElem?_take_of_lt (by omega)]; exact h1
    have ndP : ps.Nodup := by rw [← S.pre]; exact S.nd.sublist (List.take_sublist _ _)
    refine ⟨u, rv, ?_⟩
    rcases S.par y (List.mem_of_getElem? hp) with k | k
    · exact .inl ⟨k, bindL_get ndP hp hu k⟩
    · obtain ⟨c, e⟩ := cell_has (n := s.heap.objs.size + 1) k
      refine .inr ⟨.inl k, c, e, ?_⟩
      have q := x.cell y c e
      rw [bindC_get ndP hp hu (by show scope.names.lookup y ≠ _; rw [k]; decide)] at q
      exact q
  · exact e0.hok.fresh (Nat.le_of_lt (x.above y c (PySem.mem_of_lookup h)))
  · unfold start
    show _ = N.length
    rw [List.length_append, List.length_map, List.length_replicate]
    omega

/-- THE RULE: a def (or a method) of the text, by its body. The body's reading t is chosen for each entry; it is run at the parameters' values -/
theorem fn_of {CX : CXT} {P : Program} {w : World} {K : PySem.W.Frag} {mg : Str → Option Value} {base : Heap} {k : Nat} {f : Addr} {name qual : Str} {params : Arguments} {body : List Stmt} {scope : Scope} {dV kV doc pm cdv ct oc : Value} {an od : Option Addr}
    {osl : Array (Option Value)} {N ps : List Str} {sp : Sp} (lk : K.lookup f = some ⟨oc, od, .func (PySem.W.fnOf name qual params body scope dV kV doc pm an cdv ct), osl⟩) (hcd : PySem.W.codeIn K cdv qual = true) (S : FnScope N ps scope)
    (len : ∀ vs H Q E, sp vs H Q E → vs.length = ps.length)
    (hbody : ∀ (A : Around) (outer : List Env) (s : Shared) (H : Hp) (vs : List V) (Q : VK) (E : XK), Room k (A.deeper (envOfC qual scope s.heap.objs.size f cdv)) → sp vs H Q E →
      ∃ t, PSs (cxOf CX P w K mg base N qual scope f cdv A outer s H E) body t ∧ t { nx := fun _ H' => Q .non H', rt := Q } (start N vs) H) :
    FnOk P w K mg base CX (k + 1) f (PySem.W.fnOf name qual params body scope dV kV doc pm an cdv ct) ps sp := by
  refine ⟨len, fun A outer s H args us vs Q E hr e0 hb r hsp => ?_⟩
  have hl := len _ _ _ _ hsp
  have KX : K.In s.heap := e0.mod.kin.keeps fun b o e => (e0.bs b o e).1
  have lim : s.heap.NoLimit := e0.mod.nolimit.keeps fun b o e => (e0.bs b o e).1
  have hkind : ∀ y ∈ ps.zip us, scope.names.lookup y.1 = some .local ∨ (scope.names.lookup y.1 = some .cell ∧ ((cellsFrom (s.heap.objs.size + 1) scope.names []).lookup y.1).isSome = true) := fun ⟨n, v⟩ hy => by
    rcases S.par n (List.of_mem_zip hy).1 with q | q
    · exact .inl q
    · exact .inr ⟨q, PySem.W.cellsFrom_some _ _ _ (.inl q)⟩
  refine codeAny_call_function hr.depth (KX _ _ lk) rfl S.co S.gen rfl (PySem.W.codeRec_of KX hcd) (hb _ _ _ _ ?_)
  refine wpAny_newFunctionEnv_cells S.kind hkind fun env he s1 x => ?_
  subst he
  refine ⟨lim.keeps x.toInCall.keep, codeAny_func ?_⟩
  obtain ⟨t, ht, hq⟩ := hbody A outer s H vs Q E (hr.deeper _) hsp
  have I : Inv (cxOf CX P w K mg base N qual scope f cdv A outer s H E) [] (start N vs) H s1 := inv_start S hr.hd e0 hl r x
  refine wpAny_mono (ht [] s1 (start N vs) H _ I hq) (fun fl s' hs => ?_) fun e s' hs => hs
  have fin : ∀ {σ' : St} {H' : Hp} {v : V} {u : Value}, Inv (cxOf CX P w K mg base N qual scope f cdv A outer s H E) [] σ' H' s' → RelV v u → Q v H' → CE outer P w H s Q u s' :=
    fun {σ' H' v u} J rv q => ⟨v, H', J.os, J.bare, J.base, J.hok, rv, q⟩
  cases fl with
  | ret u =>
    obtain ⟨v, σ', H', J, rv, q⟩ := hs
    exact fin J rv q
  | next =>
    obtain ⟨σ', H', J, q⟩ := hs
    exact fin (v := V.non) (u := Value.none) J rfl q
  | brk =>
    obtain ⟨_, _, _, q⟩ := hs
    exact False.elim q
  | cont =>
    obtain ⟨_, _, _, q⟩ := hs
    exact False.elim q
end L2

namespace L2
open PySem PySem.Spec PyProof.Rows
section
variable {X : Cx} {x : Str} {p pos : Pos} {e : Expr} {es : List Expr} {t : TA} {id T : String} {r : List V → Hp → VK → Prop}

def tCB (r : List V → Hp → VK → Prop) (t : TA) : TE := fun σ H Q => t σ H fun vs H1 => r vs H1 Q
/-- f(e, ..), f a built-in function -/
theorem pe_callB (hc : CallR X (.builtin id) r) (hg : Gl X x) (hm : X.mg x = none) (hv : bootBuiltins x = some (.builtin id)) (ha : PA X (e :: es) t) (hn : x ≠ "__name__" := by decide) (hdb : (x == ("__debug__" : Str)) = false := by decide)
    (he : starEach (e :: es) X.env = (false, eval e X.env) :: starEach es X.env := by rfl) (hpl : (backTo pos (starEach es X.env)).any (·.1) = false := by rfl) : PE X (.Call (.Name x p) (e :: es) [] pos) (tCB r t) := by
  intro pins s σ H Q I h
  refine wpAny_Call_Name_kw (ld_blt I hg hm hv ?_ hn hdb)
  exact PyProof.Rows.callWith_builtin1 (thn (ha pos pins s σ H _ I h) fun us s1 ⟨vs, H1, I1, r1, q1⟩ => hc pins s1 σ H1 vs us Q I1 r1 q1) he hpl
/-- T(e, ..), T a built-in type -/
theorem pe_callTy (hc : CallR X (.type T) r) (hg : Gl X x) (hm : X.mg x = none) (hv : bootBuiltins x = some (.type T)) (ha : PA X (e :: es) t) (hn : x ≠ "__name__" := by decide) (hdb : (x == ("__debug__" : Str)) = false := by decide)
    (he : starEach (e :: es) X.env = (false, eval e X.env) :: starEach es X.env := by rfl) (hpl : (backTo pos (starEach es X.env)).any (·.1) = false := by rfl) : PE X (.Call (.Name x p) (e :: es) [] pos) (tCB r t) := by
  intro pins s σ H Q I h
  refine wpAny_Call_Name_kw (ld_blt I hg hm hv ?_ hn hdb)
  exact PyProof.Rows.callWith_type1 (thn (ha pos pins s σ H _ I h) fun us s1 ⟨vs, H1, I1, r1, q1⟩ => hc pins s1 σ H1 vs us Q I1 r1 q1) he hpl
/-- T() -/
theorem pe_callTy0 (hc : CallR X (.type T) r) (hg : Gl X x) (hm : X.mg x = none) (hv : bootBuiltins x = some (.type T)) (hn : x ≠ "__name__" := by decide) (hdb : (x == ("__debug__" : Str)) = false := by decide) :
    PE X (.Call (.Name x p) [] [] pos) (tCB r tNil) := by
  intro pins s σ H Q I h
  refine wpAny_Call_Name_kw (ld_blt I hg hm hv ?_ hn hdb)
  exact PyProof.Rows.callWith_type0 (hc pins s σ H [] [] Q I .nil h)
end
end L2

namespace HT
open PySem PyProof.Rows

/-- t < u of tuples of ints -/
def lexLt : List Int → List Int → Bool
  | [], [] => false
  | [], _ :: _ => true
  | _ :: _, [] => false
  | x :: xs, y :: ys => if x = y then lexLt xs ys else decide (x < y)
theorem lexLt_cons (x y : Int) (xs ys : List Int) : lexLt (x :: xs) (y :: ys) = if x = y then lexLt xs ys else decide (x < y) := rfl
theorem lexLt_nil_nil : lexLt [] [] = false := rfl
theorem lexLt_nil_cons (y : Int) (ys : List Int) : lexLt [] (y :: ys) = true := rfl
theorem lexLt_cons_nil (x : Int) (xs : List Int) : lexLt (x :: xs) [] = false := rfl

theorem eqAt_int (A : Around) (s : Shared) (a : Int) (t : Tok) (c : Int) (u : Tok) : ∃ e, SeqAt.EqAt A s (.int a t) (.int c u) e ∧ (e = true ↔ a = c) :=
  ⟨(a == c), SeqAt.EqAt.int_int a t c u, by simp⟩
theorem rcLt_int (A : Around) (s : Shared) (a : Int) (t : Tok) (c : Int) (u : Tok) (prog : Program) (w : World) (E : Value → Shared → Prop) (Q : Value → Shared → Prop) (h : Q (.bool (decide (a < c))) s) :
    wpAny (model prog w) A (richCompare .Lt (.int a t) (.int c u)) Q E s :=
  (PyProof.Rows.lt_int h : wpAny (model prog w) A (compareOp .Lt (.int a t) (.int c u)) Q E s)

section
open PySem.SeqAt
open PySem.AutoSeq1 (wpAny_loadPart')
open PySem.MeetsSeq PySem.MeetsSeq2 PySem.MeetsSeq3

theorem tuple_lt_ints (l b : Addr) (items items2 : Array Value) (n n2 : Nat) (dd dd2 : Option Addr) (sl sl2 : Array (Option Value)) (ns ms : List Int) (hi : IntsAre items.toList ns) (hj : IntsAre items2.toList ms) :
    Meets (Builtin.«tuple.__lt__» ⟨[.ref l, .ref b], []⟩)
      (fun _ R s => s.heap.get? l = some { cls := .type "tuple", dict := dd, data := .seq items n, slots := sl } ∧ s.heap.get? b = some { cls := .type "tuple", dict := dd2, data := .seq items2 n2, slots := sl2 } ∧
        R (.ok (.ret (.bool (lexLt ns ms)))) s) :=
  .of_wp fun prog w A R s h => by
    obtain ⟨hp, g, d, tk, os⟩ := s; obtain ⟨hl, hb, h⟩ := h
    have f2 := AutoSeq1.sub_tuple_tuple
    have z1 : items.size = ns.length := by rw [← hi.length]; simp
    have z2 : items2.size = ms.length := by rw [← hj.length]; simp
    wp_walk using wpAny_loadPart' hl, wpAny_loadPart' hb, wpAny_forIn_list _ (fun rest b s' => b.1 = none ∧ s' = ⟨hp, g, d, tk, os⟩ ∧ ∃ (vs ws : List Value) (ns' ms' : List Int), rest = vs.zip ws ∧
      IntsAre vs ns' ∧ IntsAre ws ms' ∧ ns'.length + items2.size = ms'.length + items.size ∧ R (.ok (.ret (.bool (lexLt ns' ms')))) ⟨hp, g, d, tk, os⟩) _
    case turn =>
      rintro ⟨y, x⟩ rest b s' ⟨hb', rfl, vs, ws, ns', ms', hz, hvi, hwi, hlen, hR⟩
      cases hvi with
      | nil => rw [List.zip_nil_left] at hz; cases hz
      | cons a t hvi' =>
        cases hwi with
        | nil => rw [List.zip_nil_right] at hz; cases hz
        | cons c u hwi' =>
          rw [List.zip_cons_cons] at hz
          injection hz with hyx hrest
          injection hyx with hy hx
          subst hy hx
          rw [lexLt_cons] at hR
          simp only [List.length_cons] at hlen
          obtain ⟨e, he, hiff⟩ := eqAt_int A.in1 ⟨hp, g, d, tk, os⟩ a t c u
          refine wpAny_bind (he prog w _ _ ?_)
          cases e with
          | true =>
            rw [if_pos (hiff.mp rfl)] at hR
            wp_walk
            exact ⟨rfl, rfl, _, _, _, _, hrest, hvi', hwi', by omega, hR⟩
          | false =>
            rw [if_neg (fun q => absurd (hiff.mpr q) Bool.false_ne_true)] at hR
            have hri := rcLt_int A.in1 ⟨hp, g, d, tk, os⟩ a t c u prog w
            wp_walk using hri
            exact ⟨_, rfl, by simpa using hR⟩
    case fin =>
      rintro ⟨b1, b2⟩ s' ⟨hb', rfl, vs, ws, ns', ms', hz, hvi, hwi, hlen, hR⟩
      simp only at hb'
      subst hb'
      have hv : lexLt ns' ms' = decide (items.size < items2.size) := by
        cases hvi with
        | nil =>
          cases hwi with
          | nil =>
            simp only [List.length_nil] at hlen
            rw [lexLt_nil_nil]
            exact (decide_eq_false (by omega)).symm
          | cons c u hw =>
            simp only [List.length_nil, List.length_cons] at hlen
            rw [lexLt_nil_cons]
            exact (decide_eq_true (by omega)).symm
        | cons a t hv =>
          cases hwi with
          | nil =>
            simp only [List.length_nil, List.length_cons] at hlen
            rw [lexLt_cons_nil]
            exact (decide_eq_false (by omega)).symm
          | cons c u hw =>
            rw [List.zip_cons_cons] at hz
            cases hz
      rw [hv] at hR
      wp_walk
      exact ⟨_, rfl, by simpa [Builtin.Tuple.tupleCompareSizes] using hR⟩
    case h =>
      exact ⟨rfl, rfl, items.toList, items2.toList, ns, ms, rfl, hi, hj, by omega, h⟩
end

section
variable {prog : Program} {w : World} {A : Around} {E : Value → Shared → Prop} {s : Shared}

theorem lt_tupInts {l b : Addr} {items items2 : Array Value} {ns ms : List Int} {Q : Value → Shared → Prop} (hl : IsTup s.heap l items) (hb : IsTup s.heap b items2) (hi : IntsAre items.toList ns) (hj : IntsAre items2.toList ms)
    (hu : A.units < cLine) (h : Q (.bool (lexLt ns ms)) s) : wpAny (model prog w) A (compareOp .Lt (.ref l) (.ref b)) Q E s := by
  obtain ⟨⟨cls, dd, data, sl⟩, ho, hc, n, hd⟩ := id hl
  obtain ⟨⟨cls2, dd2, data2, sl2⟩, ho2, hc2, n2, hd2⟩ := id hb
  simp only at hc hd hc2 hd2
  subst hc hd hc2 hd2
  exact richCompare_meets_room (op := .Lt) ⟨_, ho, rfl⟩ ⟨_, ho2, rfl⟩ PySem.F.slot_tuple_lt PySem.F.entry_tuple_lt (PySem.F.args_tuple_lt_2 _ _) (tuple_lt_ints l b items items2 n n2 dd dd2 sl sl2 ns ms hi hj)
    ⟨ho, ho2, show Value.bool (lexLt ns ms) ≠ Value.notImplemented ∧ Q (.bool (lexLt ns ms)) s from ⟨(fun x => nomatch x), h⟩⟩ hu

/-- t + u, t not empty -/
theorem cat_tup {t b : Addr} {vs ws : List Value} {Q : Value → Shared → Prop} (ht : IsTup s.heap t vs.toArray) (hb : IsTup s.heap b ws.toArray) (hv : vs ≠ [])
    (h1 : ws = [] → Q (.ref t) s) (h2 : ws ≠ [] → Q (.ref s.heap.objs.size) { s with heap := s.heap.push { cls := .type "tuple", data := .seq (vs ++ ws).toArray } })
    (hsz : vs.length + ws.length ≤ sizeLine) : wpAny (model prog w) A (binaryOp .Add (.ref t) (.ref b)) Q E s := by
  obtain ⟨⟨cls, dd, data, sl⟩, ho, hc, n, hd⟩ := id ht
  obtain ⟨⟨cls2, dd2, data2, sl2⟩, ho2, hc2, n2, hd2⟩ := id hb
  simp only at hc hd hc2 hd2
  subst hc hd hc2 hd2
  have e : vs.toArray ++ ws.toArray = (vs ++ ws).toArray := by simp
  by_cases hw : ws = []
  · exact concat_meets ⟨_, ho, rfl⟩ ⟨_, ho2, rfl⟩ noFill_tuple_add seq_tuple_add PySem.F.slot_tuple_add PySem.F.entry_tuple_add (PySem.F.args_tuple_add_2 _ _)
      (tuple_addW1 t b vs.toArray ws.toArray n n2 dd dd2 sl sl2 (by simpa using hv) (by simp [hw])) ⟨ho, ho2, h1 hw⟩
  · refine concat_meets ⟨_, ho, rfl⟩ ⟨_, ho2, rfl⟩ noFill_tuple_add seq_tuple_add PySem.F.slot_tuple_add PySem.F.entry_tuple_add (PySem.F.args_tuple_add_2 _ _)
      (tuple_addW2 t b vs.toArray ws.toArray n n2 dd dd2 sl sl2 (by simpa using hv) (by simpa using hw) (by rw [List.size_toArray, List.size_toArray]; exact hsz)) ⟨ho, ho2, ?_⟩
    rw [e]
    exact h2 hw

/-! ### t[a:b], not the whole -/
/-- a slice's bound as a place among n (d where it is left out) -/
def sIx (n d : Nat) : Option Int → Nat
  | none => d
  | some v => if v < 0 then (v + (n : Int)).toNat else min v.toNat n
theorem sIx_none (n d : Nat) : sIx n d none = d := rfl
theorem sIx_nat (n d k : Nat) : sIx n d (some (k : Int)) = min k n := by
  show (if (k : Int) < 0 then ((k : Int) + (n : Int)).toNat else min (k : Int).toNat n) = min k n
  rw [if_neg (by omega), Int.toNat_natCast]
theorem sIx_le (n d : Nat) (hd : d ≤ n) (o : Option Int) : sIx n d o ≤ n := by
  cases o with
  | none => exact hd
  | some v =>
    show (if v < 0 then (v + (n : Int)).toNat else min v.toNat n) ≤ n
    by_cases hv : v < 0
    · rw [if_pos hv]; omega
    · rw [if_neg hv]; exact Nat.min_le_right _ _
theorem clip_eq (v : Int) (n d : Nat) : (if v < 0 then max (v + (n : Int)) 0 else min v (n : Int)) = ((sIx n d (some v) : Nat) : Int) := by
  show (if v < 0 then max (v + (n : Int)) 0 else min v (n : Int)) = (((if v < 0 then (v + (n : Int)).toNat else min v.toNat n) : Nat) : Int)
  by_cases hv : v < 0
  · simp only [if_pos hv]; omega
  · simp only [if_neg hv]; omega
theorem adjust_gen (lo hi : Option Int) (n : Nat) : Builtin.Slice.sliceAdjust lo hi 1 (n : Int) = (((sIx n 0 lo : Nat) : Int), ((sIx n n hi : Nat) : Int)) := by
  have h1 : ¬ ((1 : Int) < 0) := by omega
  unfold Builtin.Slice.sliceAdjust
  simp only [h1, if_false]
  refine Prod.ext ?_ ?_
  · cases lo with
    | none => rfl
    | some v => exact clip_eq v n 0
  · cases hi with
    | none => rfl
    | some v => exact clip_eq v n n
theorem places_gen (i j : Nat) : Builtin.Slice.slicePlaces (i : Int) (j : Int) 1 = j - i := by
  unfold Builtin.Slice.slicePlaces
  have h1 : (1 : Int) > 0 := by omega
  simp only [h1, if_true, Int.ediv_one]
  split <;> omega
theorem slicePart_ {v : Value} {o : Option Int} {Q : Option Int → Shared → Prop} (p : IsPart v o) (h : Q o s) : wpAny (model prog w) A (Builtin.Slice.slicePartIndex v) Q E s := by
  cases p with
  | none => exact slicePart_none h
  | int i t => exact slicePart_int h
theorem sliceApplied_gen {sl : Addr} {vl vu : Value} {lo hi : Option Int} {n : Nat} {Q : Int × Int × Nat → Shared → Prop} (hs : s.heap.IsSliceOf sl vl vu .none) (pl : IsPart vl lo) (pu : IsPart vu hi)
    (h : Q (((sIx n 0 lo : Nat) : Int), 1, sIx n n hi - sIx n 0 lo) s) : wpAny (model prog w) A (Builtin.Slice.sliceApplied (.ref sl) (pure (n : Int))) Q E s := by
  obtain ⟨os, hos, hcs, hds⟩ := id hs
  unfold Builtin.Slice.sliceApplied Builtin.Slice.sliceFields
  refine wpAny_bind (wpAny_bind (wpAny_field hos hds (x := vl) rfl (wpAny_bind (wpAny_field hos hds (x := vu) rfl (wpAny_bind (wpAny_field hos hds (x := .none) rfl (wpAny_pure ?_)))))))
  refine wpAny_bind (slicePart_none ?_)
  show wpAny _ _ (if ((1 : Int) == 0) = true then _ else _) _ _ s
  rw [if_neg (by decide)]
  refine wpAny_bind (slicePart_ pl (wpAny_bind (slicePart_ pu (wpAny_bind (wpAny_pure ?_)))))
  show wpAny _ _ (match Builtin.Slice.sliceAdjust lo hi 1 (n : Int) with | (lo, hi) => pure (lo, (1 : Int), Builtin.Slice.slicePlaces lo hi 1)) _ _ s
  rw [adjust_gen lo hi n]
  show wpAny _ _ (pure (((sIx n 0 lo : Nat) : Int), (1 : Int), Builtin.Slice.slicePlaces ((sIx n 0 lo : Nat) : Int) ((sIx n n hi : Nat) : Int) 1)) _ _ s
  rw [places_gen]
  exact wpAny_pure h
theorem pick_gen (xs : Array Value) (i k : Nat) : ((List.range k).filterMap fun (m : Nat) => xs[((i : Int) + (m : Int) * 1).toNat]?).toArray = ((xs.toList.drop i).take k).toArray := by
  have e : (fun (m : Nat) => xs[((i : Int) + (m : Int) * 1).toNat]?) = fun m => xs[i + m]? := by
    funext m
    have : ((i : Int) + (m : Int) * 1).toNat = i + m := by omega
    rw [this]
  rw [e]
  have := pick_run xs i k
  rw [List.filterMap_map] at this
  have e2 : ((fun x => xs[x]?) ∘ fun x => i + x) = fun m => xs[i + m]? := rfl
  rw [e2] at this
  rw [this]

theorem getItem_tuple_cut {t sl : Addr} {items : Array Value} {vl vu : Value} {lo hi : Option Int} {Q : Value → Shared → Prop} (ht : IsTup s.heap t items) (hs : s.heap.IsSliceOf sl vl vu .none) (pl : IsPart vl lo) (pu : IsPart vu hi)
    (hw : ¬ (sIx items.size 0 lo = 0 ∧ sIx items.size items.size hi = items.size))
    (h : Q (.ref s.heap.objs.size) { s with heap := s.heap.push { cls := .type "tuple", data := .seq ((items.toList.drop (sIx items.size 0 lo)).take (sIx items.size items.size hi - sIx items.size 0 lo)).toArray } })
    (hsz : items.size ≤ sizeLine) : wpAny (model prog w) A (getItem (.ref t) (.ref sl)) Q E s := by
  have htake : sizeOk (.seq ((items.toList.drop (sIx items.size 0 lo)).take (sIx items.size items.size hi - sIx items.size 0 lo)).toArray) := by
    show ((items.toList.drop (sIx items.size 0 lo)).take (sIx items.size items.size hi - sIx items.size 0 lo)).toArray.size ≤ sizeLine
    rw [List.size_toArray, List.length_take, List.length_drop, Array.length_toList]
    omega
  have hj : sIx items.size items.size hi ≤ items.size := sIx_le _ _ (Nat.le_refl _) hi
  obtain ⟨os, hos, hcs, hds⟩ := id hs
  have hTs : s.TypeIs (.ref sl) "slice" := ⟨os, hos, hcs⟩
  unfold getItem
  try with_reducible refine wpAny_holding ?_
  first | refine wpAny_bind (wpAny_pure ?_) | skip
  refine wpAny_bind (wpAny_sequenceKey ht.typeIs (by decide) ?_)
  refine wpAny_bind (wpAny_callSpecial?_slot (name := Str.ofString "__getitem__") ht.typeIs PyProof.Rows.slot_tuple_getitem
    (wpAny_call_entry PyProof.Rows.slot_tuple_getitem ht.typeIs entry_tuple_getitem ?_ (args_tuple_getitem _ _)))
  show wpAny _ _ (Builtin.Tuple.tupleItemsOf (.ref t) >>= _) _ _ s
  refine wpAny_bind (tupleItemsOf_ ht ?_)
  refine wpAny_bind (wpAny_typeOf hTs ?_)
  rw [if_pos (by decide)]
  refine wpAny_bind (sliceApplied_gen hs pl pu ?_)
  have hno : ¬ ((((sIx items.size 0 lo : Nat) : Int) == 0 && (1 : Int) == 1 && (sIx items.size items.size hi - sIx items.size 0 lo) == items.size) = true) := by
    intro q
    rw [Bool.and_eq_true, Bool.and_eq_true] at q
    have q1 : ((sIx items.size 0 lo : Nat) : Int) = 0 := eq_of_beq q.1.1
    have q2 : sIx items.size items.size hi - sIx items.size 0 lo = items.size := eq_of_beq q.2
    exact hw ⟨by omega, by omega⟩
  show wpAny _ _ (if (((sIx items.size 0 lo : Nat) : Int) == 0 && (1 : Int) == 1 && (sIx items.size items.size hi - sIx items.size 0 lo) == items.size) = true then _ else _) _ _ s
  rw [if_neg hno, pick_gen]
  first
    | exact wpAny_bind (m := Builtin.Tuple.tupleExact _) (wpAny_newObj_type (wpAny_pure ⟨_, rfl, wpAny_pure h⟩) htake)
    | exact wpAny_bind (m := Builtin.Tuple.tupleExact _) (wpAny_newObj_type (wpAny_bind (wpAny_pure (wpAny_pure ⟨_, rfl, wpAny_pure h⟩))) htake)
    | exact wpAny_bind (wpAny_bind (m := Builtin.Tuple.tupleExact _) (wpAny_newObj_type (wpAny_pure (wpAny_pure ⟨_, rfl, wpAny_pure h⟩)) htake))
    | exact wpAny_bind (wpAny_bind (m := Builtin.Tuple.tupleExact _) (wpAny_newObj_type (wpAny_pure ⟨_, rfl, wpAny_pure h⟩) htake))
end
end HT

namespace L2
open PySem PySem.Spec PyProof.Rows

/-! ### the parts of a slice -/
abbrev TO := St → Hp → (Option Int → Hp → Prop) → Prop
/-- a slice's part (left out, or an int) -/
def PO (X : Cx) (e : Option Expr) (t : TO) : Prop :=
  ∀ (pins : List (Addr × Obj)) (s : Shared) (σ : St) (H : Hp) (Q : Option Int → Hp → Prop), Inv X pins σ H s → t σ H Q →
    wpAny (model X.prog X.w) X.A (evalPart e X.env) (fun u s' => ∃ o H', Inv X pins σ H' s' ∧ IsPart u o ∧ Q o H') X.xe s
def tNoPart : TO := fun _ H Q => Q none H
def tPart (t : TE) : TO := fun σ H Q => t σ H fun x H1 => ∃ i, x = .int i ∧ Q (some i) H1

theorem intsAre_of {ns : List Int} : ∀ {us : List Value}, Vals (ns.map V.int) us → IntsAre us ns := by
  induction ns with
  | nil => intro us r; rw [List.map_nil] at r; cases r; exact .nil
  | cons n ns ih =>
    intro us r
    rw [List.map_cons] at r
    cases r with
    | cons r1 r2 =>
      obtain ⟨t, e⟩ := r1
      subst e
      exact .cons n t (ih r2)

section
variable {X : Cx} {e : Expr} {te : TE} {lo hi : Option Expr} {tl th : TO} {pos p2 : Pos}

theorem po_none : PO X none tNoPart := by
  intro pins s σ H Q I h
  rw [evalPart_none]
  exact wpAny_pure ⟨none, H, I, .none, h⟩
theorem po_some (h : PE X e te) : PO X (some e) (tPart te) := by
  intro pins s σ H Q I hw
  rw [evalPart_some]
  refine thn (h pins s σ H _ I hw) fun u s1 ⟨x, H1, I1, r1, q1⟩ => ?_
  obtain ⟨i, rfl, q⟩ := q1
  obtain ⟨t, rfl⟩ := r1
  exact ⟨some i, H1, I1, .int i t, q⟩

/-- what a slice of a value is, by values: the slice object stands at sl -/
def SlR (X : Cx) (r : V → Option Int → Option Int → Hp → VK → Prop) : Prop :=
  ∀ (pins : List (Addr × Obj)) (s : Shared) (σ : St) (H : Hp) (x : V) (v vl vu : Value) (lo hi : Option Int) (sl : Addr) (Q : VK), Inv X pins σ H s → RelV x v → s.heap.IsSliceOf sl vl vu .none → IsPart vl lo → IsPart vu hi → r x lo hi H Q →
    ∃ T id, typeLookup (.type T) "__getitem__" = pure (some (.builtin id)) ∧ s.TypeIs v T ∧ wpAny (model X.prog X.w) X.A (getItem v (.ref sl)) (EP X pins σ Q) X.xe s
theorem SlR.or {r r' : V → Option Int → Option Int → Hp → VK → Prop} (h : SlR X r) (h' : SlR X r') : SlR X (fun x lo hi H Q => r x lo hi H Q ∨ r' x lo hi H Q) := by
  intro pins s σ H x v vl vu lo hi sl Q I rx hs pl pu q
  rcases q with q | q
  · exact h pins s σ H x v vl vu lo hi sl Q I rx hs pl pu q
  · exact h' pins s σ H x v vl vu lo hi sl Q I rx hs pl pu q
def tSl (r : V → Option Int → Option Int → Hp → VK → Prop) (te : TE) (tl th : TO) : TE := fun σ H Q => te σ H fun x H1 => tl σ H1 fun l H2 => th σ H2 fun u H3 => r x l u H3 Q
/-- a[lo:hi], any a -/
theorem pe_slice {r : V → Option Int → Option Int → Hp → VK → Prop} (hr : SlR X r) (he : PE X e te) (hl : PO X lo tl) (hu : PO X hi th) : PE X (.Subscript e (.Slice lo hi none p2) pos) (tSl r te tl th) := by
  intro pins s σ H Q I h
  refine Subscript_ (thn (he pins s σ H _ I h) fun v s1 ⟨x, H1, I1, r1, q1⟩ => ?_)
  refine wpAny_Slice (thn (hl pins s1 σ H1 _ I1 q1) fun vl s2 ⟨l, H2, I2, pl, q2⟩ => thn (hu pins s2 σ H2 _ I2 q2) fun vu s3 ⟨u, H3, I3, pu, q3⟩ => ?_)
  rw [evalPart_none]
  refine wpAny_pure ?_
  have I4 : Inv X pins σ H3 { s3 with heap := s3.heap.push { cls := .type "slice", data := .fields #[vl, vu, .none] } } := I3.kept (t' := s3.toks) fun b ob q => Heap.get?_push_of_some _ q
  obtain ⟨T, id, hT, ht, hg⟩ := hr pins { s3 with heap := s3.heap.push { cls := .type "slice", data := .fields #[vl, vu, .none] } } σ H3 x v vl vu l u s3.heap.objs.size Q I4 r1 (Heap.IsSliceOf.new ..) pl pu q3
  show wpAny (model X.prog X.w) X.A (subscriptTail e (.Slice lo hi none p2) v (.ref s3.heap.objs.size)) (EP X pins σ Q) X.xe { s3 with heap := s3.heap.push { cls := .type "slice", data := .fields #[vl, vu, .none] } }
  exact tail_any (ops := [.ref s3.heap.objs.size, v]) ht hT hg (by with_unfolding_all rfl)

/-- the items of xs[lo:hi] -/
def cutV (xs : List V) (lo hi : Option Int) : List V := (xs.drop (HT.sIx xs.length 0 lo)).take (HT.sIx xs.length xs.length hi - HT.sIx xs.length 0 lo)
theorem cutV_length (xs : List V) (lo hi : Option Int) : (cutV xs lo hi).length ≤ xs.length := by
  unfold cutV
  rw [List.length_take, List.length_drop]
  omega
/-- t[lo:hi], not the whole of it (the whole would be t itself) -/
def rSlT (K : PySem.W.Frag) : V → Option Int → Option Int → Hp → VK → Prop := fun x lo hi H Q => ∃ a xs, x = .ref a ∧ SqT K H a xs ∧
  ¬ (HT.sIx xs.length 0 lo = 0 ∧ HT.sIx xs.length xs.length hi = xs.length) ∧ ∀ p, H p = none → Q (.ref p) (upd H p (.tup (cutV xs lo hi)))
theorem sl_tup : SlR X (rSlT X.K) := by
  intro pins s σ H x v vl vu lo hi sl Q I rx hs pl pu h
  obtain ⟨a, xs, rfl, hx, hw, q⟩ := h
  cases rx
  obtain ⟨its, r, ht, hz⟩ := I.tuple hx
  have hlen : its.toArray.size = xs.length := by rw [List.size_toArray]; exact r.length.symm
  refine ⟨"tuple", _, PyProof.Rows.slot_tuple_getitem.lookup, ht.typeIs, ?_⟩
  refine HT.getItem_tuple_cut ht hs pl pu (by rw [hlen]; exact hw) ?_ (by rw [hlen]; exact hz)
  rw [hlen]
  refine ⟨.ref s.heap.objs.size, _, I.laid (t' := s.toks) (o := .tup (cutV xs lo hi)) (fun b ob q => Heap.get?_push_of_some _ q) (Nat.le_refl _) ?_, rfl, q _ (I.hok.fresh (Nat.le_refl _))⟩
  exact ⟨Nat.le_trans (cutV_length xs lo hi) hz, _, (r.drop (HT.sIx xs.length 0 lo)).take (HT.sIx xs.length xs.length hi - HT.sIx xs.length 0 lo), IsTup.new _ _⟩

/-! ### t < u, t + u -/
def rLtT (K : PySem.W.Frag) : R2 := fun x y H Q => ∃ a b ns ms, x = .ref a ∧ y = .ref b ∧ SqT K H a (ns.map V.int) ∧ SqT K H b (ms.map V.int) ∧ Q (.bl (HT.lexLt ns ms)) H
theorem op_ltT (hu : X.A.units < cLine) : OpR X (compareOp .Lt) (rLtT X.K) := by
  intro pins s σ H x y v u Q I rx ry h
  obtain ⟨a, b, ns, ms, rfl, rfl, ha, hb, q⟩ := h
  cases rx
  cases ry
  obtain ⟨its, r1, p1, _⟩ := I.tuple ha
  obtain ⟨its2, r2, p2, _⟩ := I.tuple hb
  have i1 : IntsAre its.toArray.toList ns := intsAre_of r1
  have i2 : IntsAre its2.toArray.toList ms := intsAre_of r2
  exact HT.lt_tupInts p1 p2 i1 i2 hu ⟨.bl (HT.lexLt ns ms), H, I, rfl, q⟩
/-- t + u, t not empty: u empty gives t itself -/
def rCatT (K : PySem.W.Frag) : R2 := fun x y H Q => ∃ a b xs ys, x = .ref a ∧ y = .ref b ∧ SqT K H a xs ∧ SqT K H b ys ∧ xs ≠ [] ∧ xs.length + ys.length ≤ sizeLine ∧
  (ys = [] → Q (.ref a) H) ∧ (ys ≠ [] → ∀ p, H p = none → Q (.ref p) (upd H p (.tup (xs ++ ys))))
theorem Vals.nil_iff {xs : List V} {us : List Value} (r : Vals xs us) : us = [] ↔ xs = [] := by
  cases r with
  | nil => simp
  | cons _ _ => simp
theorem op_catT : OpR X (binaryOp .Add) (rCatT X.K) := by
  intro pins s σ H x y v u Q I rx ry h
  obtain ⟨a, b, xs, ys, rfl, rfl, ha, hb, hx, hz, q1, q2⟩ := h
  cases rx
  cases ry
  obtain ⟨its, r1, p1, _⟩ := I.tuple ha
  obtain ⟨its2, r2, p2, _⟩ := I.tuple hb
  refine HT.cat_tup p1 p2 (fun z => hx (r1.nil_iff.mp z)) (fun z => ⟨.ref a, H, I, rfl, q1 (r2.nil_iff.mp z)⟩) (fun z => ?_) (by rw [← r1.length, ← r2.length]; exact hz)
  refine ⟨.ref s.heap.objs.size, _, I.laid (t' := s.toks) (o := .tup (xs ++ ys)) (fun b ob q => Heap.get?_push_of_some _ q) (Nat.le_refl _) ?_, rfl, q2 (fun w => z (r2.nil_iff.mpr w)) _ (I.hok.fresh (Nat.le_refl _))⟩
  exact ⟨by rw [List.length_append]; exact hz, _, r1.append r2, IsTup.new _ _⟩
/-- tuple(t) -/
theorem call_tupleT : CallR X (.type "tuple") (fun xs H Q => ∃ a ys, xs = [.ref a] ∧ SqT X.K H a ys ∧ Q (.ref a) H) := by
  intro pins s σ H xs us Q I r h
  obtain ⟨a, ys, rfl, ha, q⟩ := h
  obtain ⟨u, rfl, ru⟩ := vals1 r
  cases ru
  obtain ⟨its, _, p1, _⟩ := I.tuple ha
  exact call_tuple_same (items := its.toArray) p1 ⟨.ref a, H, I, rfl, q⟩
end
end L2

namespace L2
open PySem PySem.Spec PyProof.Rows

/-! ### places -/
/-- the place that an index of any sign means -/
def ixN (n : Nat) (i : Int) : Option Nat := if 0 ≤ i then (if i < n then some i.toNat else none) else if -(n : Int) ≤ i then some (i + n).toNat else none
def atI {α : Type} (xs : List α) (i : Int) : Option α := (ixN xs.length i).bind fun j => xs[j]?
theorem ixN_seq {n : Nat} {i : Int} {j : Nat} (h : ixN n i = some j) : seqIndex? i n = some j ∧ j < n ∧ -(n : Int) ≤ i ∧ i < n := by
  unfold ixN at h
  by_cases h0 : 0 ≤ i
  · rw [if_pos h0] at h
    by_cases h1 : i < n
    · rw [if_pos h1] at h
      have e : i.toNat = j := Option.some.inj h
      exact ⟨by rw [seqIndex_of h0 h1, e], by omega, by omega, h1⟩
    · rw [if_neg h1] at h; cases h
  · rw [if_neg h0] at h
    by_cases h1 : -(n : Int) ≤ i
    · rw [if_pos h1] at h
      have e : (i + n).toNat = j := Option.some.inj h
      exact ⟨by rw [seqIndex_neg (by omega) h1, e], by omega, h1, by omega⟩
    · rw [if_neg h1] at h; cases h
theorem atI_get {α : Type} {xs : List α} {i : Int} {v : α} (h : atI xs i = some v) : ∃ j, seqIndex? i xs.length = some j ∧ xs[j]? = some v ∧ j < xs.length ∧ -(xs.length : Int) ≤ i ∧ i < xs.length := by
  unfold atI at h
  cases e : ixN xs.length i with
  | none => rw [e] at h; cases h
  | some j =>
    rw [e] at h
    obtain ⟨h1, h2, h3, h4⟩ := ixN_seq e
    exact ⟨j, h1, h, h2, h3, h4⟩
theorem atI_nat {α : Type} {xs : List α} {j : Nat} {v : α} (h : xs[j]? = some v) : atI xs (j : Int) = some v := by
  have hj : j < xs.length := (List.getElem?_eq_some_iff.mp h).1
  have e : ixN xs.length (j : Int) = some j := by
    unfold ixN
    rw [if_pos (by omega), if_pos (by omega)]; simp
  unfold atI; rw [e]; exact h
theorem atI_last {α : Type} (xs : List α) (v : α) : atI (xs ++ [v]) (-1) = some v := by
  have hl : (xs ++ [v]).length = xs.length + 1 := by simp
  have e : ixN (xs ++ [v]).length (-1) = some xs.length := by
    unfold ixN
    rw [hl, if_neg (by decide), if_pos (by omega)]
    congr 1
    omega
  unfold atI
  rw [e]
  show (xs ++ [v])[xs.length]? = some v
  simp

/-! ### what may be subscripted -/
/-- what stands as an index of a plain subscript -/
def PlainIx (b : Expr) : Prop := ∀ o i, subscripted b false o i = operate [o, i] (getItem o i)
/-- a subscript by values -/
def IxR (X : Cx) (r : R2) : Prop :=
  ∀ (value slice : Expr) (pins : List (Addr × Obj)) (s : Shared) (σ : St) (H : Hp) (x y : V) (v u : Value) (Q : VK), Inv X pins σ H s → RelV x v → RelV y u → r x y H Q →
    subscripted slice false v u = operate [v, u] (getItem v u) → wpAny (model X.prog X.w) X.A (subscriptTail value slice v u) (EP X pins σ Q) X.xe s
/-- a call of a builtin's method by values: the receiver, the arguments -/
def MtR (X : Cx) (id : String) (r : V → List V → Hp → VK → Prop) : Prop :=
  ∀ (pins : List (Addr × Obj)) (s : Shared) (σ : St) (H : Hp) (x : V) (xs : List V) (v : Value) (us : List Value) (Q : VK), Inv X pins σ H s → RelV x v → Vals xs us → r x xs H Q →
    wpAny (model X.prog X.w) X.A (call (.builtin id) (v :: us)) (EP X pins σ Q) X.xe s
section
variable {X : Cx} {a b : Expr} {ta tb : TE} {pos : Pos}
theorem IxR.or {r r' : R2} (h : IxR X r) (h' : IxR X r') : IxR X (fun x y H Q => r x y H Q ∨ r' x y H Q) := by
  intro value slice pins s σ H x y v u Q I rx ry q hs
  rcases q with q | q
  · exact h value slice pins s σ H x y v u Q I rx ry q hs
  · exact h' value slice pins s σ H x y v u Q I rx ry q hs
theorem MtR.or {id : String} {r r' : V → List V → Hp → VK → Prop} (h : MtR X id r) (h' : MtR X id r') : MtR X id (fun x xs H Q => r x xs H Q ∨ r' x xs H Q) := by
  intro pins s σ H x xs v us Q I rx rs q
  rcases q with q | q
  · exact h pins s σ H x xs v us Q I rx rs q
  · exact h' pins s σ H x xs v us Q I rx rs q
/-- a[b] -/
theorem pe_ix {r : R2} (hr : IxR X r) (ha : PE X a ta) (hb : PE X b tb) (hs : PlainIx b) : PE X (.Subscript a b pos) (tOp r ta tb) := by
  intro pins s σ H Q I h
  exact Subscript_ (binT ha hb I h fun v u s2 x y H2 I2 rx ry q => hr a b pins s2 σ H2 x y v u Q I2 rx ry q (hs _ _))

def rIxL (K : PySem.W.Frag) : R2 := fun x y H Q => ∃ p xs i v, x = .ref p ∧ y = .int i ∧ SqL K H p xs ∧ atI xs i = some v ∧ Q v H
def rIxT (K : PySem.W.Frag) : R2 := fun x y H Q => ∃ p xs i v, x = .ref p ∧ y = .int i ∧ SqT K H p xs ∧ atI xs i = some v ∧ Q v H
def rIxS : R2 := fun x y H Q => ∃ z i c, x = .str z ∧ y = .int i ∧ z.length ≤ sizeLine ∧ atI z.cps.toList i = some c ∧ Q (.str ⟨#[c]⟩) H
theorem ix_list : IxR X (rIxL X.K) := by
  intro value slice pins s σ H x y v u Q I rx ry h hs
  obtain ⟨p, xs, i, z, rfl, rfl, hq, he, q⟩ := h
  cases rx
  obtain ⟨t, rfl⟩ := ry
  obtain ⟨its, r, pl, hz⟩ := I.list hq
  obtain ⟨j, h1, h2, h3, h4, h5⟩ := atI_get he
  obtain ⟨w, ew, rw'⟩ := r.get h2
  have hl := r.length
  have hn := line63
  have fin : EP X pins σ Q w s := ⟨z, H, I, rw', q⟩
  by_cases h0 : 0 ≤ i
  · have hj : i.toNat = j := by
      rw [seqIndex_of h0 h5] at h1
      exact Option.some.inj h1
    exact item_listR pl.isList h0 (by omega) (by rw [hj]; simpa using ew) fin hs
  · have hj : (i + (its.toArray.size : Int)).toNat = j := by
      rw [seqIndex_neg (by omega) h4] at h1
      rw [List.size_toArray, ← hl]
      exact Option.some.inj h1
    exact subscriptTail_builtinR (x := w) pl.isList.typeIs slot_list_getitem.lookup
      (wpAny_getItem_list_neg (Q := fun r s' => r = w ∧ EP X pins σ Q r s') pl.isList (by omega) (by rw [List.size_toArray] <;> omega) (by omega) (by rw [hj]; simpa using ew) ⟨rfl, fin⟩) hs
theorem ix_tup : IxR X (rIxT X.K) := by
  intro value slice pins s σ H x y v u Q I rx ry h hs
  obtain ⟨p, xs, i, z, rfl, rfl, hq, he, q⟩ := h
  cases rx
  obtain ⟨t, rfl⟩ := ry
  obtain ⟨its, r, pl, hz⟩ := I.tuple hq
  obtain ⟨j, h1, h2, h3, h4, h5⟩ := atI_get he
  obtain ⟨w, ew, rw'⟩ := r.get h2
  have hl := r.length
  have hn := line63
  have fin : EP X pins σ Q w s := ⟨z, H, I, rw', q⟩
  exact subscriptTail_builtinR (x := w) pl.typeIs slot_tuple_getitem.lookup
    (getItem_tuple (j := j) (Q := fun r s' => r = w ∧ EP X pins σ Q r s') pl (by omega) (by omega) (by rw [List.size_toArray, ← hl]; exact h1) (by simpa using ew) ⟨rfl, fin⟩) hs
theorem ix_str : IxR X rIxS := by
  intro value slice pins s σ H x y v u Q I rx ry h hs
  obtain ⟨z, i, c, rfl, rfl, hz, he, q⟩ := h
  obtain ⟨t, rfl⟩ := rx
  obtain ⟨t', rfl⟩ := ry
  obtain ⟨j, h1, h2, h3, h4, h5⟩ := atI_get he
  have hl : z.cps.toList.length = z.length := by simp [Str.length]
  rw [hl] at h1 h4 h5
  have hn := line63
  exact tail_any (typeIs_str s z t) slot_str_getitem.lookup (getItem_str (c := c) (by
    have e1 : decide (i < -(2 ^ 63 : Int)) = false := decide_eq_false (by omega)
    have e2 : decide (i ≥ 2 ^ 63) = false := decide_eq_false (by omega)
    rw [e1, e2, Bool.or_false]) (by rw [h1]; simpa using h2) ⟨.str ⟨#[c]⟩, H, I.tok _, ⟨_, rfl⟩, q⟩) hs
/-- list, tuple or str -/
def rIx (K : PySem.W.Frag) : R2 := fun x y H Q => rIxL K x y H Q ∨ rIxT K x y H Q ∨ rIxS x y H Q
theorem ix_seq : IxR X (rIx X.K) := ix_list.or (ix_tup.or ix_str)

/-! ### xs[i] = v, any sign -/
/-- the list's object behind a store -/
theorem mapSeq_set (its : List Value) (n j : Nat) (u : Value) : Obj.mapSeq (·.setIfInBounds j u) { cls := .type "list", data := .seq its.toArray n } = { cls := .type "list", data := .seq (its.set j u).toArray n } := by
  simp [Obj.mapSeq]
theorem Inv.lst {pins : List (Addr × Obj)} {σ : St} {H : Hp} {s : Shared} {p : Addr} {xs : List V} (I : Inv X pins σ H s) (h : H p = some (.lst xs)) :
    ∃ (its : List Value) (n : Nat), Vals xs its ∧ s.heap.get? p = some { cls := .type "list", data := .seq its.toArray n } ∧ xs.length ≤ sizeLine := by
  obtain ⟨z, its, n, r, e⟩ := I.hok p _ h
  exact ⟨its, n, r, e, z⟩
/-- the list at p is written by an update of its object -/
theorem Inv.lstUpd {pins : List (Addr × Obj)} {σ : St} {H : Hp} {s : Shared} {p : Addr} {xs ys : List V} {its its' : List Value} {n n' : Nat} {f : Obj → Obj} (I : Inv X pins σ H s) (h : H p = some (.lst xs))
    (ho : s.heap.get? p = some { cls := .type "list", data := .seq its.toArray n }) (hf : f { cls := .type "list", data := .seq its.toArray n } = { cls := .type "list", data := .seq its'.toArray n' }) (r : Vals ys its') (hz : ys.length ≤ sizeLine) (t : Nat) :
    Inv X pins σ (upd H p (.lst ys)) { s with heap := s.heap.update p f, toks := t } := by
  have e : (s.heap.update p f).get? p = some { cls := .type "list", data := .seq its'.toArray n' } := by
    rw [Heap.get?_update_self f ho (by rw [hf] <;> rfl), hf]
  refine I.write (x := p) (e := p) (by rw [h]; trivial) (.inl rfl) (fun b u hb q => (Heap.get?_update_other _ _ (Ne.symm hb)).trans q) ⟨_, e⟩ ?_
  exact ⟨hz, its', n', r, e⟩
def rSetL : V → V → V → Hp → (Hp → Prop) → Prop := fun o i v H Q => ∃ p xs k j, o = .ref p ∧ i = .int k ∧ H p = some (.lst xs) ∧ ixN xs.length k = some j ∧ Q (upd H p (.lst (xs.set j v)))
theorem set_list : PSet X rSetL := by
  intro pins s σ H o i v ov iv u Q I ro ri rv h
  obtain ⟨p, xs, k, j, rfl, rfl, hp, hj, q⟩ := h
  cases ro
  obtain ⟨t, rfl⟩ := ri
  obtain ⟨its, n, r, ho, hz⟩ := I.lst hp
  obtain ⟨h1, h2, h3, h4⟩ := ixN_seq hj
  have hl := r.length
  have hn := line63
  have I' : Inv X pins σ (upd H p (.lst (xs.set j v))) { s with heap := s.heap.update p (Obj.mapSeq (·.setIfInBounds j u)) } :=
    I.lstUpd hp ho (mapSeq_set its n j u) (r.set rv j) (by rw [List.length_set]; exact hz) s.toks
  by_cases h0 : 0 ≤ k
  · have hk : k.toNat = j := by
      rw [seqIndex_of h0 h4] at h1
      exact Option.some.inj h1
    exact PySem.W.ki_setAt ho h0 (by omega) (by rw [List.size_toArray, ← hl]; exact h4) (by rw [hk]; exact ⟨_, I', q⟩)
  · have hk : (k + (its.toArray.size : Int)).toNat = j := by
      rw [seqIndex_neg (by omega) h3] at h1
      rw [List.size_toArray, ← hl]
      exact Option.some.inj h1
    exact PySem.W.ki_setBack ho (by omega) (by rw [List.size_toArray, ← hl]; exact h3) (by omega) (by rw [hk]; exact ⟨_, I', q⟩)

/-! ### slices -/
theorem slice_bounds (lo hi : Option Int) (n : Nat) : (sliceBounds lo hi none n).1 = ((HT.sIx n 0 lo : Nat) : Int) ∧ (sliceBounds lo hi none n).2.1 = ((HT.sIx n n hi : Nat) : Int) ∧ (sliceBounds lo hi none n).2.2 = 1 := by
  refine ⟨?_, ?_, rfl⟩
  · cases lo with
    | none => simp [sliceBounds, HT.sIx]
    | some i =>
      simp only [sliceBounds, HT.sIx, Option.getD_none, show (1 : Int) > 0 by decide, if_true]
      by_cases h : i < 0
      · simp only [h, if_true] <;> omega
      · simp only [h, if_false] <;> omega
  · cases hi with
    | none => simp [sliceBounds, HT.sIx]
    | some i =>
      simp only [sliceBounds, HT.sIx, Option.getD_none, show (1 : Int) > 0 by decide, if_true]
      by_cases h : i < 0
      · simp only [h, if_true] <;> omega
      · simp only [h, if_false] <;> omega
theorem slicePick_cut (its : List Value) (lo hi : Option Int) : slicePick its.toArray lo hi none = ((its.drop (HT.sIx its.length 0 lo)).take (HT.sIx its.length its.length hi - HT.sIx its.length 0 lo)).toArray := by
  obtain ⟨h1, h2, h3⟩ := slice_bounds lo hi its.toArray.size
  unfold slicePick
  rw [h1, h2, h3]
  simp only [sliceRange_one, pick_run, List.size_toArray] <;> rfl
/-- xs[lo:hi] of a list: a new list -/
def rSlL (K : PySem.W.Frag) : V → Option Int → Option Int → Hp → VK → Prop := fun x lo hi H Q => ∃ a xs, x = .ref a ∧ SqL K H a xs ∧ ∀ p, H p = none → Q (.ref p) (upd H p (.lst (cutV xs lo hi)))
theorem sl_list : SlR X (rSlL X.K) := by
  intro pins s σ H x v vl vu lo hi sl Q I rx hs pl pu h
  obtain ⟨a, xs, rfl, hx, q⟩ := h
  cases rx
  obtain ⟨its, r, ht, hz⟩ := I.list hx
  have hlen := r.length
  refine ⟨"list", _, slot_list_getitem.lookup, ht.isList.typeIs, ?_⟩
  refine wpAny_getItem_list_slice ht.isList hs pl pu .none (by simp) ?_ (by rw [List.size_toArray] <;> omega)
  rw [slicePick_cut, ← hlen]
  refine ⟨.ref s.heap.objs.size, _, I.laid (t' := s.toks) (o := .lst (cutV xs lo hi)) (fun b ob q => Heap.get?_push_of_some _ q) (Nat.le_refl _) ?_, rfl, q _ (I.hok.fresh (Nat.le_refl _))⟩
  exact ⟨Nat.le_trans (cutV_length xs lo hi) hz, _, 0, (r.drop (HT.sIx xs.length 0 lo)).take (HT.sIx xs.length xs.length hi - HT.sIx xs.length 0 lo), Heap.get?_push_size _ rfl⟩

/-! ### in, not in: flat items -/
def flatV : V → Bool
  | .non => true
  | .bl _ => true
  | .int _ => true
  | .str _ => true
  | _ => false
/-- == of flat values -/
def eqV : V → V → Bool
  | .non, .non => true
  | .bl a, .bl b => a == b
  | .bl a, .int b => (if a then 1 else 0) == b
  | .int a, .bl b => a == (if b then 1 else 0)
  | .int a, .int b => a == b
  | .str a, .str b => a == b
  | _, _ => false
theorem eqAt_V {A : Around} {s : Shared} {y x : V} {u v : Value} (ry : RelV y u) (rx : RelV x v) (fy : flatV y = true) (fx : flatV x = true) : SeqAt.EqAt A s u v (eqV y x) := by
  cases y with
  | non =>
    cases ry
    cases x with
    | non => cases rx; exact SeqAt.EqAt.same _
    | bl b => cases rx; exact SeqAt.EqAt.none_bool b
    | int b => obtain ⟨t, rfl⟩ := rx; exact SeqAt.EqAt.none_int b t
    | str b => obtain ⟨t, rfl⟩ := rx; exact SeqAt.EqAt.none_str b t
    | _ => exact absurd (show false = true from fx) Bool.false_ne_true
  | bl a =>
    cases ry
    cases x with
    | non => cases rx; exact SeqAt.EqAt.bool_none a
    | bl b => cases rx; exact SeqAt.EqAt.bool_bool a b
    | int b => obtain ⟨t, rfl⟩ := rx; exact SeqAt.EqAt.bool_int a b t
    | str b => obtain ⟨t, rfl⟩ := rx; exact SeqAt.EqAt.bool_str a b t
    | _ => exact absurd (show false = true from fx) Bool.false_ne_true
  | int a =>
    obtain ⟨t', rfl⟩ := ry
    cases x with
    | non => cases rx; exact SeqAt.EqAt.int_none a t'
    | bl b => cases rx; exact SeqAt.EqAt.int_bool a t' b
    | int b => obtain ⟨t, rfl⟩ := rx; exact SeqAt.EqAt.int_int a t' b t
    | str b => obtain ⟨t, rfl⟩ := rx; exact SeqAt.EqAt.int_str a t' b t
    | _ => exact absurd (show false = true from fx) Bool.false_ne_true
  | str a =>
    obtain ⟨t', rfl⟩ := ry
    cases x with
    | non => cases rx; exact SeqAt.EqAt.str_none a t'
    | bl b => cases rx; exact SeqAt.EqAt.str_bool a t' b
    | int b => obtain ⟨t, rfl⟩ := rx; exact SeqAt.EqAt.str_int a t' b t
    | str b => obtain ⟨t, rfl⟩ := rx; exact SeqAt.EqAt.str_str a t' b t
    | _ => exact absurd (show false = true from fx) Bool.false_ne_true
  | _ => exact absurd (show false = true from fy) Bool.false_ne_true
/-- the items' answers, read off the values (a value's own answer does not lean on its token) -/
def eqU (x : V) (u : Value) : Bool := match u with
  | .none => eqV .non x
  | .bool b => eqV (.bl b) x
  | .int i _ => eqV (.int i) x
  | .str z _ => eqV (.str z) x
  | _ => false
theorem eqU_of {x y : V} {u : Value} (r : RelV y u) (f : flatV y = true) : eqU x u = eqV y x := by
  cases y with
  | non => cases r; rfl
  | bl b => cases r; rfl
  | int i => obtain ⟨t, rfl⟩ := r; rfl
  | str z => obtain ⟨t, rfl⟩ := r; rfl
  | _ => exact absurd (show false = true from f) Bool.false_ne_true
theorem any_eqU {x : V} : ∀ {xs : List V} {us : List Value}, Vals xs us → xs.all flatV = true → us.any (eqU x) = xs.any fun y => eqV y x
  | _, _, .nil, _ => rfl
  | y :: xs, u :: us, .cons r t, f => by
    rw [List.all_cons, Bool.and_eq_true] at f
    rw [List.any_cons, List.any_cons, eqU_of r f.1, any_eqU t f.2]
theorem mem_eqAt {A : Around} {s : Shared} {x : V} {v : Value} (rx : RelV x v) (fx : flatV x = true) : ∀ {xs : List V} {us : List Value}, Vals xs us → xs.all flatV = true → ∀ u ∈ us, SeqAt.EqAt A s u v (eqU x u)
  | _, _, .nil, _ => fun u hu => by cases hu
  | y :: xs, u :: us, .cons r t, f => fun u' hu => by
    rw [List.all_cons, Bool.and_eq_true] at f
    rcases List.mem_cons.mp hu with rfl | hu
    · rw [eqU_of r f.1]; exact eqAt_V r rx f.1 fx
    · exact mem_eqAt rx fx t f.2 u' hu
def inV (x : V) (xs : List V) : Bool := xs.any fun y => eqV y x
/-- x in a list or tuple of flat items -/
def rIn (K : PySem.W.Frag) (neg : Bool) : R2 := fun x y H Q => ∃ p xs, y = .ref p ∧ (SqL K H p xs ∨ SqT K H p xs) ∧ flatV x = true ∧ xs.all flatV = true ∧ Q (.bl (if neg then !inV x xs else inV x xs)) H
theorem op_in_seq : OpR X (compareOp .In) (rIn X.K false) := by
  intro pins s σ H x y v u Q I rx ry h
  obtain ⟨p, xs, rfl, hq, fx, fs, q⟩ := h
  cases ry
  rcases hq with hq | hq
  · obtain ⟨its, r, pl, hz⟩ := I.list hq
    refine SeqAt.in_listAt (eqU x) pl.isList (fun w hw => mem_eqAt rx fx r fs w (by simpa using hw)) ⟨.bl _, H, I, rfl, ?_⟩
    rw [show its.toArray.any (eqU x) = its.any (eqU x) by simp, any_eqU r fs]
    exact q
  · obtain ⟨its, r, pl, hz⟩ := I.tuple hq
    refine SeqAt.in_tupleAt (eqU x) pl (fun w hw => mem_eqAt rx fx r fs w (by simpa using hw)) ⟨.bl _, H, I, rfl, ?_⟩
    rw [show its.toArray.any (eqU x) = its.any (eqU x) by simp, any_eqU r fs]
    exact q
theorem op_notIn_seq : OpR X (compareOp .NotIn) (rIn X.K true) := by
  intro pins s σ H x y v u Q I rx ry h
  obtain ⟨p, xs, rfl, hq, fx, fs, q⟩ := h
  cases ry
  rcases hq with hq | hq
  · obtain ⟨its, r, pl, hz⟩ := I.list hq
    refine SeqAt.notIn_listAt (eqU x) pl.isList (fun w hw => mem_eqAt rx fx r fs w (by simpa using hw)) ⟨.bl _, H, I, rfl, ?_⟩
    rw [show its.toArray.any (eqU x) = its.any (eqU x) by simp, any_eqU r fs]
    exact q
  · obtain ⟨its, r, pl, hz⟩ := I.tuple hq
    refine SeqAt.notIn_tupleAt (eqU x) pl (fun w hw => mem_eqAt rx fx r fs w (by simpa using hw)) ⟨.bl _, H, I, rfl, ?_⟩
    rw [show its.toArray.any (eqU x) = its.any (eqU x) by simp, any_eqU r fs]
    exact q
theorem op_notIn_str : OpR X (compareOp .NotIn) (fun x y H Q => ∃ i j, x = .str i ∧ y = .str j ∧ Q (.bl (!(!(Builtin.Str.occurrences j i 0 j.length 1).isEmpty))) H) := by
  intro pins s σ H x y v u Q I rx ry h
  obtain ⟨i, j, rfl, rfl, q⟩ := h
  obtain ⟨t, rfl⟩ := rx
  obtain ⟨t', rfl⟩ := ry
  exact notIn_str ⟨.bl _, H, I, rfl, q⟩

/-! ### len, list(x), tuple(x) of any list or tuple that is read -/
theorem call_len_seq : CallR X (.builtin "len") (fun xs H Q => ∃ p ys, xs = [.ref p] ∧ (SqL X.K H p ys ∨ SqT X.K H p ys) ∧ Q (.int ys.length) H) := by
  intro pins s σ H xs us Q I r h
  obtain ⟨p, ys, rfl, hq, q⟩ := h
  obtain ⟨u, rfl, rx⟩ := vals1 r
  cases rx
  have hn := line63
  rcases hq with hq | hq
  · obtain ⟨its, r', pl, hz⟩ := I.list hq
    have hlen := r'.length
    exact Calls.call_len_list pl.isList (by simp only [List.size_toArray] <;> omega) ⟨.int ys.length, H, I.tok _, ⟨s.toks + 1, by rw [List.size_toArray, hlen]⟩, q⟩
  · obtain ⟨its, r', pl, hz⟩ := I.tuple hq
    have hlen := r'.length
    exact len_tuple pl (by simp only [List.size_toArray] <;> omega) ⟨.int ys.length, H, I.tok _, ⟨s.toks + 1, by rw [List.size_toArray, hlen]⟩, q⟩
theorem call_len_str : CallR X (.builtin "len") (fun xs H Q => ∃ z, xs = [.str z] ∧ z.length ≤ sizeLine ∧ Q (.int z.length) H) := by
  intro pins s σ H xs us Q I r h
  obtain ⟨z, rfl, hz, q⟩ := h
  obtain ⟨u, rfl, t, rfl⟩ := vals1 r
  have hn := line63
  exact len_str (by omega) ⟨.int z.length, H, I.tok _, ⟨_, rfl⟩, q⟩
theorem CallR.or {f : Value} {r r' : List V → Hp → VK → Prop} (h : CallR X f r) (h' : CallR X f r') : CallR X f (fun xs H Q => r xs H Q ∨ r' xs H Q) := by
  intro pins s σ H xs us Q I rs q
  rcases q with q | q
  · exact h pins s σ H xs us Q I rs q
  · exact h' pins s σ H xs us Q I rs q
theorem call_list_of : CallR X (.type "list") (fun xs H Q => ∃ p ys, xs = [.ref p] ∧ (SqL X.K H p ys ∨ SqT X.K H p ys) ∧ ∀ l, H l = none → Q (.ref l) (upd H l (.lst ys))) := by
  intro pins s σ H xs us Q I r h
  obtain ⟨p, ys, rfl, hq, q⟩ := h
  obtain ⟨u, rfl, rx⟩ := vals1 r
  cases rx
  have fin : ∀ (its : List Value), Vals ys its → ys.length ≤ sizeLine → ∀ (h' : Heap) (c' : Nat), (∀ b o', s.heap.get? b = some o' → h'.get? b = some o') →
      h'.get? s.heap.objs.size = some { cls := .type "list", dict := none, data := .seq its.toArray c', slots := #[] } → EP X pins σ Q (.ref s.heap.objs.size) { s with heap := h' } := fun its r' hz h' c' kp e =>
    ⟨.ref s.heap.objs.size, _, I.laid (t' := s.toks) kp (Nat.le_refl _) (show ObjOk X.prog X.w _ h' _ (.lst ys) from ⟨hz, its, c', r', e⟩), rfl, q _ (I.hok.fresh (Nat.le_refl _))⟩
  rcases hq with hq | hq
  · obtain ⟨its, r', pl, hz⟩ := I.list hq
    have hlen := r'.length
    obtain ⟨o, ho, hc, n, hd⟩ := pl.isList
    exact call_list_seq p (.inl rfl) ho hc hd (fun h' c' kp e => fin its r' hz h' c' kp e) (by simp only [List.size_toArray] <;> omega)
  · obtain ⟨its, r', pl, hz⟩ := I.tuple hq
    have hlen := r'.length
    obtain ⟨o, ho, hc, n, hd⟩ := pl
    exact call_list_seq p (.inr rfl) ho hc hd (fun h' c' kp e => fin its r' hz h' c' kp e) (by simp only [List.size_toArray] <;> omega)
theorem call_tuple_of : CallR X (.type "tuple") (fun xs H Q => ∃ p ys, xs = [.ref p] ∧ ((SqL X.K H p ys ∧ ∀ l, H l = none → Q (.ref l) (upd H l (.tup ys))) ∨ (SqT X.K H p ys ∧ Q (.ref p) H))) := by
  intro pins s σ H xs us Q I r h
  obtain ⟨p, ys, rfl, h⟩ := h
  obtain ⟨u, rfl, rx⟩ := vals1 r
  cases rx
  rcases h with ⟨hq, q⟩ | ⟨hq, q⟩
  · obtain ⟨its, r', pl, hz⟩ := I.list hq
    have hlen := r'.length
    refine call_tuple_list pl.isList (fun h' kp => ?_) (by simp only [List.size_toArray] <;> omega)
    have I1 : Inv X pins σ H { s with heap := h' } := I.kept (t' := s.toks) kp
    have I2 : Inv X pins σ (upd H h'.objs.size (.tup ys)) { s with heap := h'.push { cls := .type "tuple", data := .seq its.toArray } } :=
      I1.laid (t' := s.toks) (fun b o e => Heap.get?_push_of_some _ e) (Nat.le_refl _) (show ObjOk X.prog X.w _ _ _ (.tup ys) from ⟨hz, its, r', IsTup.new _ _⟩)
    exact ⟨.ref h'.objs.size, _, I2, rfl, q _ (I1.hok.fresh (Nat.le_refl _))⟩
  · obtain ⟨its, r', pl, hz⟩ := I.tuple hq
    exact call_tuple_same pl ⟨.ref p, H, I, rfl, q⟩

/-! ### the call of a builtin's method: o.m(..) -/
/-- the value is of that builtin type -/
def tyV (K : PySem.W.Frag) (T : String) (x : V) (H : Hp) : Prop := match x with
  | .str _ => T = "str"
  | .int _ => T = "int"
  | .ref p => (T = "list" ∧ ∃ xs, SqL K H p xs) ∨ (T = "tuple" ∧ ∃ o, K.lookup p = some o ∧ o.cls = .type "tuple" ∧ o.dict = none) ∨
      (T = "dict" ∧ ((∃ kvs, H p = some (.dK kvs)) ∨ ∃ kvs, H p = some (.dT kvs))) ∨ (T = "set" ∧ ∃ S n, H p = some (.set S n))
  | _ => False
theorem tyV_is {pins : List (Addr × Obj)} {σ : St} {H : Hp} {s : Shared} {T : String} {x : V} {v : Value} (I : Inv X pins σ H s) (r : RelV x v) (ty : tyV X.K T x H) :
    s.TypeIs v T ∧ ∀ a, v = .ref a → ∃ ob, s.heap.get? a = some ob ∧ ob.dict = none := by
  cases x with
  | str z =>
    obtain ⟨t, rfl⟩ := r
    cases (show T = "str" from ty)
    exact ⟨typeIs_str s z t, fun _ e => nomatch e⟩
  | int i =>
    obtain ⟨t, rfl⟩ := r
    cases (show T = "int" from ty)
    exact ⟨typeIs_int s i t, fun _ e => nomatch e⟩
  | ref p =>
    cases r
    rcases ty with ⟨rfl, xs, hq⟩ | ⟨rfl, o, hk, hc, hd⟩ | ⟨rfl, hk⟩ | ⟨rfl, S, n, hk⟩
    · obtain ⟨its, _, pl, _⟩ := I.list hq
      refine ⟨pl.isList.typeIs, fun a e => ?_⟩
      cases e
      obtain ⟨o, n, e, c, hd, _⟩ := pl
      exact ⟨o, e, hd⟩
    · refine ⟨⟨o, I.kIn p o hk, hc⟩, fun a e => ?_⟩
      cases e
      exact ⟨o, I.kIn _ o hk, hd⟩
    · have z : ∃ o, s.heap.get? p = some o ∧ o.ExactDict := by
        rcases hk with ⟨kvs, hk⟩ | ⟨kvs, hk⟩
        · obtain ⟨_, _, _, _, o, _, _, e, ex, _⟩ := I.hok p _ hk
          exact ⟨o, e, ex⟩
        · obtain ⟨_, _, _, _, o, _, _, e, ex, _⟩ := I.hok p _ hk
          exact ⟨o, e, ex⟩
      obtain ⟨o, e, ex⟩ := z
      refine ⟨⟨o, e, ex.1⟩, fun a e2 => ?_⟩
      cases e2
      exact ⟨o, e, ex.2.1⟩
    · obtain ⟨o, _, _, _, e, ex, _⟩ := I.hok p _ hk
      refine ⟨⟨o, e, ex.1⟩, fun a e2 => ?_⟩
      cases e2
      exact ⟨o, e, ex.2.1⟩
  | _ => exact False.elim ty
def tBM0 (K : PySem.W.Frag) (T : String) (r : V → List V → Hp → VK → Prop) (to : TE) : TE := fun σ H Q => to σ H fun x H1 => tyV K T x H1 ∧ r x [] H1 Q
def tBM (K : PySem.W.Frag) (T : String) (r : V → List V → Hp → VK → Prop) (to : TE) (t : TA) : TE := fun σ H Q => to σ H fun x H1 => tyV K T x H1 ∧ t σ H1 fun xs H2 => r x xs H2 Q
variable {o e : Expr} {es : List Expr} {to : TE} {t : TA} {name : Str} {apos cpos : Pos} {T id : String} {r : V → List V → Hp → VK → Prop}
theorem pe_bm0 (pa : PlainAttrs T) (slot : Slot T name id) (hty : typeOf (.builtin id) = pure (.type "method_descriptor")) (hm : MtR X id r) (ho : PE X o to)
    (hbase : attributeBase o name X.env (eval o X.env) = eval o X.env := by rfl) (hline : (apos.endLine == cpos.line) = true := by rfl) : PE X (.Call (.Attribute o name apos) [] [] cpos) (tBM0 X.K T r to) := by
  intro pins s σ H Q I h
  refine wpAny_Call_method0_late hbase hline (thn (ho pins s σ H _ I h) fun v s1 ⟨x, H1, I1, r1, ty, q1⟩ => ?_)
  obtain ⟨h1, h2⟩ := tyV_is I1 r1 ty
  exact ⟨T, id, pa, slot, hty, h1, h2, Calls.callWith_builtin rfl (PySem.evalArgs_none (hm pins s1 σ H1 x [] v [] Q I1 r1 .nil q1))⟩
theorem pe_bm (pa : PlainAttrs T) (slot : Slot T name id) (hty : typeOf (.builtin id) = pure (.type "method_descriptor")) (hm : MtR X id r) (ho : PE X o to) (ha : PA X (e :: es) t)
    (hbase : attributeBase o name X.env (eval o X.env) = eval o X.env := by rfl)
    (hfew : ((backTo cpos (starEach (e :: es) X.env)).all (fun x => !x.1) && (backToKw cpos (keywordEach [] X.env)).all (fun x => x.1.isSome)
      && decide ((e :: es).length + ([] : List Keyword).length + (if ([] : List Keyword).isEmpty then 0 else 1) < 30)) = true := by rfl)
    (hline : (apos.endLine == cpos.line) = true := by rfl) (hs : starEach (e :: es) X.env = (false, eval e X.env) :: starEach es X.env := by rfl) (hplain : (backTo cpos (starEach es X.env)).any (·.1) = false := by rfl) :
    PE X (.Call (.Attribute o name apos) (e :: es) [] cpos) (tBM X.K T r to t) := by
  intro pins s σ H Q I h
  refine wpAny_Call_method_late hbase hfew hline rfl (thn (ho pins s σ H _ I h) fun v s1 ⟨x, H1, I1, r1, ty, q1⟩ => ?_)
  obtain ⟨h1, h2⟩ := tyV_is I1 r1 ty
  refine ⟨T, id, pa, slot, hty, h1, h2, ?_⟩
  have hA := ha cpos pins s1 σ H1 _ I1 q1
  rw [hs] at hA ⊢
  refine Calls.callWith_builtin (by show (false || (backTo cpos (starEach es X.env)).any (·.1)) = false; rw [hplain] <;> rfl) (Calls.evalArgs_plain ?_)
  exact thn hA fun us s2 ⟨vs, H2, I2, r2, q2⟩ => hm pins s2 σ H2 x vs v us Q I2 r1 r2 q2
/- xs.append(e), list.index on a module's tuple .. are MtR facts of 06m -/
end
end L2

namespace L2
open PySem PySem.Spec PyProof.Rows

def MtM (X : Cx) (id : String) (r : V → List V → Hp → VK → Prop) : Prop :=
  ∀ (pins : List (Addr × Obj)) (s : Shared) (σ : St) (H : Hp) (x : V) (xs : List V) (v : Value) (us : List Value) (Q : VK), Inv X pins σ H s → RelV x v → Vals xs us → r x xs H Q →
    wpAny (model X.prog X.w) X.A (call (.builtin id) (v :: us)) (EP X pins σ Q) X.xe s

/-! ### lists of values -/
theorem Vals.one : ∀ {x : V} {us : List Value}, Vals [x] us → ∃ u, us = [u] ∧ RelV x u
  | _, _, .cons r .nil => ⟨_, rfl, r⟩
theorem Vals.two : ∀ {x y : V} {us : List Value}, Vals [x, y] us → ∃ u v, us = [u, v] ∧ RelV x u ∧ RelV y v
  | _, _, _, .cons r (.cons q .nil) => ⟨_, _, rfl, r, q⟩
theorem Vals.zero : ∀ {us : List Value}, Vals [] us → us = []
  | _, .nil => rfl
theorem Vals.dropLast {xs : List V} {us : List Value} (h : Vals xs us) : Vals xs.dropLast us.dropLast := by
  induction h with
  | nil => exact .nil
  | cons r t ih =>
    cases t with
    | nil => exact .nil
    | cons q t' => exact .cons r ih
theorem Vals.eraseIdx : ∀ {xs : List V} {us : List Value} (i : Nat), Vals xs us → Vals (xs.eraseIdx i) (us.eraseIdx i)
  | _, _, _, .nil => .nil
  | _, _, 0, .cons _ t => t
  | _, _, i + 1, .cons r t => .cons r (Vals.eraseIdx i t)
theorem Vals.reverse {xs : List V} {us : List Value} (h : Vals xs us) : Vals xs.reverse us.reverse := by
  induction h with
  | nil => exact .nil
  | cons r t ih => rw [List.reverse_cons, List.reverse_cons]; exact Vals.append ih (.cons r .nil)
theorem Vals.rep {xs : List V} {us : List Value} (h : Vals xs us) : ∀ k : Nat, Vals (List.replicate k xs).flatten (List.replicate k us).flatten
  | 0 => .nil
  | k + 1 => by
    rw [List.replicate_succ, List.replicate_succ, List.flatten_cons, List.flatten_cons]
    exact Vals.append h (Vals.rep h k)
theorem erase_last {α : Type} (l : List α) : l.eraseIdx (l.length - 1) = l.dropLast := by
  induction l with
  | nil => rfl
  | cons a r ih =>
    cases r with
    | nil => rfl
    | cons b r =>
      have e : (a :: b :: r).length - 1 = ((b :: r).length - 1) + 1 := by
        have h1 : (a :: b :: r).length = r.length + 2 := rfl
        have h2 : (b :: r).length = r.length + 1 := rfl
        omega
      rw [e, List.eraseIdx_cons_succ, ih]
      all_goals rfl
theorem len_erase {α : Type} : ∀ (l : List α) (i : Nat), (l.eraseIdx i).length ≤ l.length
  | [], _ => Nat.le_refl _
  | _ :: _, 0 => Nat.le_succ _
  | _ :: r, i + 1 => Nat.succ_le_succ (len_erase r i)
theorem foldl_rep (its : List Value) : ∀ (k : Nat) (acc : List Value),
    List.foldl (fun x1 x2 => x1 ++ x2) acc.toArray (List.replicate k its.toArray) = (acc ++ (List.replicate k its).flatten).toArray
  | 0, acc => by simp
  | k + 1, acc => by
    have e : acc.toArray ++ its.toArray = (acc ++ its).toArray := by simp
    have e2 : (acc ++ its) ++ (List.replicate k its).flatten = acc ++ (List.replicate (k + 1) its).flatten := by
      rw [List.replicate_succ, List.flatten_cons, List.append_assoc]
    rw [← e2, ← foldl_rep its k (acc ++ its), ← e, List.replicate_succ, List.foldl_cons]

section
variable {X : Cx} {pins : List (Addr × Obj)} {σ : St} {H : Hp} {s : Shared} {l b : Addr} {xs ys zs : List V}

/-! ### the two steps: a tracked list is rewritten, a new list is laid -/
theorem Inv.lset {its its' : List Value} {n : Nat} {f : Array Value → Array Value} {t' : Nat} (I : Inv X pins σ H s) (hH : H l = some (.lst xs))
    (e : s.heap.get? l = some { cls := .type "list", data := .seq its.toArray n }) (hf : f its.toArray = its'.toArray) (hv : Vals ys its') (hz : ys.length ≤ sizeLine) :
    Inv X pins σ (upd H l (.lst ys)) { s with heap := s.heap.update l (Obj.mapSeq f), toks := t' } := by
  have q := PySem.IsL.update e f
  rw [hf] at q
  refine I.write (x := l) (e := l) (by rw [hH]; exact trivial) (.inl rfl) (fun b' u hb hu => (Heap.get?_update_other s.heap (Obj.mapSeq f) (Ne.symm hb)).trans hu) ⟨_, q⟩ ?_
  exact ⟨hz, its', _, hv, q⟩
theorem Inv.lnew {its : List Value} {t' : Nat} (I : Inv X pins σ H s) (hv : Vals ys its) (hz : ys.length ≤ sizeLine) :
    Inv X pins σ (upd H s.heap.objs.size (.lst ys)) { s with heap := s.heap.push { cls := .type "list", data := .seq its.toArray }, toks := t' } :=
  I.laid (fun _ _ q => Heap.get?_push_of_some _ q) (Nat.le_refl _) ⟨hz, its, 0, hv, Heap.get?_push_size _ rfl⟩
theorem Inv.fresh (I : Inv X pins σ H s) : H s.heap.objs.size = none := I.hok.fresh (Nat.le_refl _)
theorem Inv.lstM (I : Inv X pins σ H s) (hH : H l = some (.lst xs)) : xs.length ≤ sizeLine ∧ ∃ (its : List Value) (n : Nat), Vals xs its ∧ xs.length = its.length ∧ s.heap.get? l = some { cls := .type "list", data := .seq its.toArray n } := by
  obtain ⟨z, its, n, r, e⟩ := I.hok l _ hH
  exact ⟨z, its, n, r, r.length, e⟩

theorem notLongL {n : Nat} (h : n ≤ sizeLine) : Builtin.List.listTooLong n = false := by
  unfold Builtin.List.listTooLong
  exact decide_eq_false (by omega)
end

section
variable {X : Cx}

/-! ### methods -/
def rAppend : V → List V → Hp → VK → Prop := fun x vs H Q => ∃ l xs y, x = .ref l ∧ vs = [y] ∧ H l = some (.lst xs) ∧ xs.length < sizeLine ∧ Q .non (upd H l (.lst (xs ++ [y])))
theorem mt_append : MtM X "list.append" rAppend := by
  intro pins s σ H x vs v us Q I rx rv h
  obtain ⟨l, xs, y, rfl, rfl, hH, hz, q⟩ := h
  cases rx
  obtain ⟨u, rfl, ru⟩ := rv.one
  obtain ⟨z, its, n, r, hl, e⟩ := I.lstM hH
  refine call_meets F.slot_list_append ⟨_, e, rfl⟩ F.entry_list_append (F.args_list_append_2 _ _) (PySem.list_append l its.toArray n u (by rw [List.size_toArray]; omega)) ⟨e, ?_⟩
  refine ⟨.non, _, I.lset (its' := its ++ [u]) hH e (by simp) (r.append (.cons ru .nil)) ?_, rfl, q⟩
  rw [List.length_append, List.length_singleton]
  omega

def rExtend : V → List V → Hp → VK → Prop := fun x vs H Q => ∃ l b xs zs, x = .ref l ∧ vs = [.ref b] ∧ H l = some (.lst xs) ∧ H b = some (.lst zs) ∧ xs.length + zs.length ≤ sizeLine ∧ Q .non (upd H l (.lst (xs ++ zs)))
theorem mt_extend : MtM X "list.extend" rExtend := by
  intro pins s σ H x vs v us Q I rx rv h
  obtain ⟨l, b, xs, zs, rfl, rfl, hH, hB, hz, q⟩ := h
  cases rx
  obtain ⟨u, rfl, ru⟩ := rv.one
  cases ru
  obtain ⟨z, its, n, r, hl, e⟩ := I.lstM hH
  obtain ⟨z2, its2, n2, r2, hl2, e2⟩ := I.lstM hB
  have hsz : its.toArray.size + its2.toArray.size ≤ sizeLine := by rw [List.size_toArray, List.size_toArray]; omega
  have hlong : ¬ (!its.toArray.isEmpty && Builtin.List.listTooLong (its.toArray.size + its2.toArray.size)) = true := by
    rw [notLongL hsz, Bool.and_false]
    exact Bool.false_ne_true
  refine call_meets F.slot_list_extend ⟨_, e, rfl⟩ F.entry_list_extend (F.args_list_extend_2 _ _)
    (AutoSeq1.list_extend_list_list_0 l its.toArray n b its2.toArray n2 hlong (by rw [List.size_toArray]; omega) (by omega)) ⟨e, e2, ?_⟩
  refine ⟨.non, _, I.lset (its' := its ++ its2) hH e (by simp) (r.append r2) ?_, rfl, q⟩
  rw [List.length_append]
  omega

def rPop : V → List V → Hp → VK → Prop := fun x vs H Q => ∃ l xs y, x = .ref l ∧ vs = [] ∧ H l = some (.lst xs) ∧ xs[xs.length - 1]? = some y ∧ Q y (upd H l (.lst xs.dropLast))
theorem mt_pop : MtM X "list.pop" rPop := by
  intro pins s σ H x vs v us Q I rx rv h
  obtain ⟨l, xs, y, rfl, rfl, hH, hy, q⟩ := h
  cases rx
  have hus := rv.zero
  subst hus
  obtain ⟨z, its, n, r, hl, e⟩ := I.lstM hH
  obtain ⟨u, hu, ru⟩ := r.get hy
  have hy' : its.toArray[its.toArray.size - 1]? = some u := by
    show its.toArray[its.length - 1]? = some u
    rw [← Array.getElem?_toList, ← hl]
    exact hu
  refine call_meets F.slot_list_pop ⟨_, e, rfl⟩ F.entry_list_pop (F.args_list_pop_1 _) (MeetsSeq.list_pop_last l its.toArray n u hy' (by rw [List.size_toArray]; omega)) ⟨e, ?_⟩
  refine ⟨y, _, I.lset (its' := its.dropLast) hH e ?_ r.dropLast ?_, ru, q⟩
  · show its.toArray.eraseIdxIfInBounds (its.toArray.size - 1) = its.dropLast.toArray
    rw [List.size_toArray, List.eraseIdxIfInBounds_toArray, erase_last]
  · rw [List.length_dropLast]
    omega

def rPopAt : V → List V → Hp → VK → Prop := fun x vs H Q => ∃ l xs i k y, x = .ref l ∧ vs = [.int i] ∧ H l = some (.lst xs) ∧ -(2 ^ 63) ≤ i ∧ i < 2 ^ 63 ∧ seqIndex? i xs.length = some k ∧ xs[k]? = some y ∧ Q y (upd H l (.lst (xs.eraseIdx k)))
theorem mt_popAt : MtM X "list.pop" rPopAt := by
  intro pins s σ H x vs v us Q I rx rv h
  obtain ⟨l, xs, i, k, y, rfl, rfl, hH, h1, h2, hk, hy, q⟩ := h
  cases rx
  obtain ⟨u, rfl, ru⟩ := rv.one
  obtain ⟨t, rfl⟩ := ru
  obtain ⟨z, its, n, r, hl, e⟩ := I.lstM hH
  obtain ⟨w, hw, rw'⟩ := r.get hy
  refine call_meets F.slot_list_pop ⟨_, e, rfl⟩ F.entry_list_pop (F.args_list_pop_2 _ _)
    (MeetsSeq.list_pop_at l its.toArray n i t k w (fitsIndex_both h1 h2) (by rw [List.size_toArray, ← hl]; exact hk) (by rw [← Array.getElem?_toList]; exact hw) (by rw [List.size_toArray]; omega)) ⟨e, ?_⟩
  refine ⟨y, _, I.lset (its' := its.eraseIdx k) hH e ?_ (r.eraseIdx k) ?_, rw', q⟩
  · show its.toArray.eraseIdxIfInBounds k = (its.eraseIdx k).toArray
    rw [List.eraseIdxIfInBounds_toArray]
  · have := len_erase xs k
    omega

def rReverse : V → List V → Hp → VK → Prop := fun x vs H Q => ∃ l xs, x = .ref l ∧ vs = [] ∧ H l = some (.lst xs) ∧ Q .non (upd H l (.lst xs.reverse))
theorem mt_reverse : MtM X "list.reverse" rReverse := by
  intro pins s σ H x vs v us Q I rx rv h
  obtain ⟨l, xs, rfl, rfl, hH, q⟩ := h
  cases rx
  have hus := rv.zero
  subst hus
  obtain ⟨z, its, n, r, hl, e⟩ := I.lstM hH
  refine call_meets F.slot_list_reverse ⟨_, e, rfl⟩ F.entry_list_reverse (F.args_list_reverse_1 _) (AutoSeq1.list_reverse_list_0 l its.toArray n (by rw [List.size_toArray]; omega)) ⟨e, ?_⟩
  refine ⟨.non, _, I.lset (its' := its.reverse) hH e (by simp) r.reverse ?_, rfl, q⟩
  rw [List.length_reverse]
  omega

def rClear : V → List V → Hp → VK → Prop := fun x vs H Q => ∃ l xs, x = .ref l ∧ vs = [] ∧ H l = some (.lst xs) ∧ Q .non (upd H l (.lst []))
theorem mt_clear : MtM X "list.clear" rClear := by
  intro pins s σ H x vs v us Q I rx rv h
  obtain ⟨l, xs, rfl, rfl, hH, q⟩ := h
  cases rx
  have hus := rv.zero
  subst hus
  obtain ⟨z, its, n, r, hl, e⟩ := I.lstM hH
  refine call_meets F.slot_list_clear ⟨_, e, rfl⟩ F.entry_list_clear (F.args_list_clear_1 _) (AutoSeq1.list_clear_list_0 l its.toArray n (by rw [List.size_toArray]; omega)) ⟨e, ?_⟩
  exact ⟨.non, _, I.lset (its' := []) (ys := []) hH e rfl .nil (Nat.zero_le _), rfl, q⟩

/-! ### list + list, list += list, list * int -/
def rCat : R2 := fun x y H Q => ∃ l b xs zs, x = .ref l ∧ y = .ref b ∧ H l = some (.lst xs) ∧ H b = some (.lst zs) ∧ xs.length + zs.length ≤ sizeLine ∧ ∀ p, H p = none → Q (.ref p) (upd H p (.lst (xs ++ zs)))
theorem op_cat : OpR X (binaryOp .Add) rCat := by
  intro pins s σ H x y v u Q I rx ry h
  obtain ⟨l, b, xs, zs, rfl, rfl, hH, hB, hz, q⟩ := h
  cases rx
  cases ry
  obtain ⟨z, its, n, r, hl, e⟩ := I.lstM hH
  obtain ⟨z2, its2, n2, r2, hl2, e2⟩ := I.lstM hB
  refine PySem.P.add_list e e2 ?_ (by rw [List.size_toArray, List.size_toArray]; omega)
  have ea : its.toArray ++ its2.toArray = (its ++ its2).toArray := by simp
  rw [ea]
  exact ⟨.ref _, _, I.lnew (t' := s.toks) (r.append r2) (by rw [List.length_append]; omega), rfl, q _ I.fresh⟩
/-- a list times an int (a negative one is nothing) -/
def rRep : R2 := fun x y H Q => ∃ l k xs, x = .ref l ∧ y = .int k ∧ H l = some (.lst xs) ∧ -(2 ^ 63) ≤ k ∧ k < 2 ^ 63 ∧ xs.length * k.toNat ≤ sizeLine ∧
  ∀ p, H p = none → Q (.ref p) (upd H p (.lst (List.replicate k.toNat xs).flatten))
theorem len_rep {α : Type} (xs : List α) (k : Nat) : (List.replicate k xs).flatten.length = k * xs.length := by
  induction k with
  | zero => simp
  | succ k ih => rw [List.replicate_succ, List.flatten_cons, List.length_append, ih, Nat.succ_mul, Nat.add_comm]
theorem op_rep : OpR X (binaryOp .Mult) rRep := by
  intro pins s σ H x y v u Q I rx ry h
  obtain ⟨l, k, xs, rfl, rfl, hH, h1, h2, hz, q⟩ := h
  cases rx
  obtain ⟨t, rfl⟩ := ry
  obtain ⟨z, its, n, r, hl, e⟩ := I.lstM hH
  have hlen : its.toArray.size * k.toNat ≤ sizeLine := by rw [List.size_toArray, ← hl]; exact hz
  have hcap : ¬ its.toArray.size * k.toNat > (2 ^ 63 - 1) / 8 := by
    have : (sizeLine : Nat) ≤ (2 ^ 63 - 1) / 8 := by decide
    omega
  have hfit : ¬ (!Builtin.List.listFitsIndex k) = true := by
    rw [fitsIndex_both h1 h2]
    exact Bool.false_ne_true
  have hlong : ¬ Builtin.List.listTooLong (its.toArray.size * k.toNat) = true := by
    rw [notLongL hlen]
    exact Bool.false_ne_true
  have hnew : List.foldl (fun x1 x2 => x1 ++ x2) #[] (List.replicate (if its.toArray.isEmpty = true then 0 else k.toNat) its.toArray) = (List.replicate k.toNat its).flatten.toArray := by
    have f0 : ∀ m : Nat, List.foldl (fun x1 x2 => x1 ++ x2) #[] (List.replicate m its.toArray) = (List.replicate m its).flatten.toArray := fun m => by
      have := foldl_rep its m []
      rw [List.nil_append] at this
      exact this
    rw [f0]
    cases its with
    | nil => simp
    | cons a r' => rw [if_neg (by simp)]
  refine wpAny_binaryOp_repeat_ref (T := "list") (U := "int") (by decide) ⟨_, e, rfl⟩ (fun s' => typeIs_int s' k t) noFill_list_mul F.fills_int_mul F.slot_int_rmul repeat_list F.slot_int_index.lookup
    (call_meets F.slot_int_rmul (typeIs_int s k t) F.entry_int_rmul (F.args_int_rmul_2 _ _) (int___rmul___int_list k t l its.toArray n)
      ⟨e, rfl, ⟨_, e, rfl⟩, call_meets F.slot_list_mul ⟨_, e, rfl⟩ F.entry_list_mul (F.args_list_mul_2 _ _) (AutoListH.list___mul___list_int_3 l its.toArray n k t hfit hcap hlong) ⟨e, ?_⟩⟩)
  rw [hnew]
  exact ⟨.ref _, _, I.lnew (t' := s.toks) (r.rep k.toNat) (by rw [len_rep, Nat.mul_comm]; exact hz), rfl, q _ I.fresh⟩

/-! ### del xs[i] -/
theorem del_list {pins : List (Addr × Obj)} {s : Shared} {σ : St} {H : Hp} {l : Addr} {xs : List V} {i : Int} {t : Tok} {k : Nat} {Q : Unit → Shared → Prop} (I : Inv X pins σ H s) (hH : H l = some (.lst xs))
    (h1 : -(2 ^ 63) ≤ i) (h2 : i < 2 ^ 63) (hk : seqIndex? i xs.length = some k) (h : ∀ s', Inv X pins σ (upd H l (.lst (xs.eraseIdx k))) s' → Q () s') :
    wpAny (model X.prog X.w) X.A (delItem (.ref l) (.int i t)) Q X.xe s := by
  obtain ⟨z, its, n, r, hl, e⟩ := I.lstM hH
  refine PySem.P.delItem_list (k := k) e (fitsIndex_both h1 h2) (by rw [List.size_toArray, ← hl]; exact hk) (h _ ?_) (by rw [List.size_toArray]; omega)
  refine I.lset (its' := its.eraseIdx k) (t' := s.toks) hH e ?_ (r.eraseIdx k) ?_
  · show its.toArray.eraseIdxIfInBounds k = (its.eraseIdx k).toArray
    rw [List.eraseIdxIfInBounds_toArray]
  · have := len_erase xs k
    omega
end

/-! ### xs[a:b] = ys -/
section
variable {prog : Program} {w : World} {A : Around} {E : Value → Shared → Prop} {s : Shared}
theorem splice_eq (its its2 : List Value) (a c : Nat) : its.toArray.extract 0 a ++ its2.toArray ++ its.toArray.extract c its.toArray.size = (its.take a ++ its2 ++ its.drop c).toArray := by
  apply Array.toList_inj.mp
  first
    | (simp
       exact List.take_of_length_le (by simp))
    | simp [List.take_of_length_le]
    | simp
theorem bounds_run {a c n : Nat} (hac : a ≤ c) (hc : c ≤ n) : sliceBounds (some (a : Int)) (some (c : Int)) none n = ((a : Int), (c : Int), 1) := by
  simp only [sliceBounds, Option.getD_none]
  have h1 : ¬ ((a : Int) < 0) := by omega
  have h2 : ¬ ((c : Int) < 0) := by omega
  simp only [h1, h2, if_false, show (1 : Int) > 0 by decide, if_true]
  congr 1
  · omega
  · congr 1; omega
set_option maxRecDepth 100000 in
/-- list.__setitem__ with a slice of step one and another list -/
theorem setItem_slice {l b sl : Addr} {items new : Array Value} {n n2 : Nat} {vl vu : Value} {a c : Nat} {Q : Unit → Shared → Prop}
    (e : s.heap.get? l = some { cls := .type "list", data := .seq items n }) (e2 : s.heap.get? b = some { cls := .type "list", data := .seq new n2 }) (hne : l ≠ b)
    (hs : s.heap.IsSliceOf sl vl vu .none) (pl : IsPart vl (some (a : Int))) (pu : IsPart vu (some (c : Int))) (hac : a ≤ c) (hc : c ≤ items.size)
    (hsz : items.size + new.size ≤ sizeLine) (h : Q () { s with heap := s.heap.update l (Obj.mapSeq fun xs => xs.extract 0 a ++ new ++ xs.extract c xs.size) }) :
    wpAny (model prog w) A (setItem (.ref l) (.ref sl) (.ref b)) Q E s := by
  have hl : s.heap.IsList l items := PySem.IsL.isList e
  have hb : s.heap.IsList b new := PySem.IsL.isList e2
  obtain ⟨os, hos, hcs, hds⟩ := id hs
  have hTs : s.TypeIs (.ref sl) "slice" := ⟨os, hos, hcs⟩
  have hstep : ¬ ((rawPart none == rawInt 0) = true) := Bool.false_ne_true
  have hsame : Builtin.List.listSameRef (.ref l) (.ref b) = false := by
    unfold Builtin.List.listSameRef
    exact beq_eq_false_iff_ne.mpr hne
  have hmax : (max (a : Int) (c : Int)).toNat = c := by omega
  have hz' : ((fun xs : Array Value => xs.extract 0 a ++ new ++ xs.extract c xs.size) items).size ≤ sizeLine + 1 := by
    simp only [Array.size_append, Array.size_extract]
    omega
  unfold setItem
  try with_reducible refine wpAny_holding ?_
  first | refine wpAny_bind (wpAny_pure ?_) | skip
  refine wpAny_bind (wpAny_sequenceKey hl.typeIs (by decide) ?_)
  refine wpAny_bind (wpAny_callSpecial?_slot (name := Str.ofString "__setitem__") hl.typeIs slot_list_setitem
    (wpAny_call_entry slot_list_setitem hl.typeIs entry_list_setitem ?_ (args_list_setitem _ _ _)))
  show wpAny _ _ (Builtin.List.listSubscript? (.ref sl) >>= _) _ _ s
  refine wpAny_bind ?_
  unfold Builtin.List.listSubscript?
  refine wpAny_bind (wpAny_specialOf hTs slice_no_index ?_)
  simp only [Option.isNone_none, if_true]
  refine wpAny_pure ?_
  show wpAny _ _ (typeOf (.ref sl) >>= _) _ _ s
  refine wpAny_bind (wpAny_typeOf hTs ?_)
  first
    | rw [if_neg (by decide)]
    | refine PySem.W.KFB.if_not (by decide) ?_
  rw [listSliceParts_eq]
  refine wpAny_bind (wpAny_bind (wpAny_field hos hds (x := .none) rfl (wpAny_bind (wpAny_listPart .none ?_))))
  rw [if_neg hstep]
  refine wpAny_bind (wpAny_field hos hds (x := vl) rfl (wpAny_bind (wpAny_listPart pl ?_)))
  refine wpAny_bind (wpAny_field hos hds (x := vu) rfl (wpAny_bind (wpAny_listPart pu (wpAny_pure ?_))))
  first
    | simp only [hsame, Bool.false_eq_true, if_false]
    | refine PySem.W.KFB.if_not hsame ?_
    | (dsimp only
       rw [if_neg (by rw [hsame]; exact Bool.false_ne_true)])
  refine wpAny_bind (m := Builtin.List.listAllItems (.ref b) "must assign iterable to extended slice") ?_
  unfold Builtin.List.listAllItems
  refine wpAny_bind (wpAny_typeOf hb.typeIs ?_)
  first
    | refine PySem.W.KFB.if_so (by decide) ?_
    | rw [if_pos (by decide)]
    | simp only [beq_self_eq_true, Bool.true_or, if_true]
  unfold Builtin.List.listItems
  refine wpAny_bind (wpAny_seqItems e2 rfl (wpAny_pure ?_))
  refine wpAny_bind (wpAny_bind (wpAny_seqItems e rfl (wpAny_pure ?_)))
  refine wpAny_bind (wpAny_of_eq ((sliceIndices_raw (some (a : Int)) (some (c : Int)) none items.size (by simp)).trans (congrArg (pure : Int × Int × Int → Sem (Int × Int × Int)) (bounds_run hac hc))) ?_)
  show wpAny _ _ (if ((1 : Int) == 1) = true then _ else _) _ _ s
  rw [if_pos (by decide)]
  refine wpAny_bind (wpAny_rule ?_)
  first
    | simp only [notLongL hsz, Bool.false_eq_true, if_false]
    | refine PySem.W.KFB.if_not (notLongL hsz) ?_
  first | refine wpAny_bind (wpAny_pure ?_) | skip
  show wpAny _ _ (updateSeq l (fun xs => xs.extract 0 ((a : Int)).toNat ++ new ++ xs.extract (max (a : Int) (c : Int)).toNat xs.size) >>= _) _ _ s
  rw [hmax, Int.toNat_natCast]
  refine wpAny_bind (wpAny_updateSeq (hz := Nat.le_trans (Nat.le_add_right _ _) hsz) (_hz' := hz') e rfl ?_)
  refine wpAny_bind (wpAny_letGo ?_)
  first
    | exact wpAny_bind (wpAny_pure (wpAny_pure ⟨.none, rfl, wpAny_pure h⟩))
    | exact wpAny_pure ⟨.none, rfl, wpAny_pure h⟩
end

section
variable {X : Cx}
/-- xs[a:c] = ys of another list, at the value level: sl is the slice object that was just made -/
theorem set_slice {pins : List (Addr × Obj)} {s : Shared} {σ : St} {H : Hp} {l b sl : Addr} {xs ys : List V} {a c : Int} {vl vu : Value} {Q : Unit → Shared → Prop} (I : Inv X pins σ H s)
    (hH : H l = some (.lst xs)) (hB : H b = some (.lst ys)) (hne : l ≠ b) (hs : s.heap.IsSliceOf sl vl vu .none) (ra : RelV (.int a) vl) (rc : RelV (.int c) vu) (h0 : 0 ≤ a) (hac : a ≤ c) (hc : c ≤ xs.length)
    (hz : xs.length + ys.length ≤ sizeLine) (h : ∀ s', Inv X pins σ (upd H l (.lst (xs.take a.toNat ++ ys ++ xs.drop c.toNat))) s' → Q () s') :
    wpAny (model X.prog X.w) X.A (setItem (.ref l) (.ref sl) (.ref b)) Q X.xe s := by
  obtain ⟨ta, rfl⟩ := ra
  obtain ⟨tc, rfl⟩ := rc
  obtain ⟨z, its, n, r, hl, e⟩ := I.lstM hH
  obtain ⟨z2, its2, n2, r2, hl2, e2⟩ := I.lstM hB
  obtain ⟨a', rfl⟩ := Int.eq_ofNat_of_zero_le h0
  obtain ⟨c', rfl⟩ := Int.eq_ofNat_of_zero_le (Int.le_trans h0 hac)
  simp only [Int.toNat_natCast] at h
  refine setItem_slice (a := a') (c := c') e e2 hne hs (.int _ _) (.int _ _) (by omega) (by rw [List.size_toArray]; omega) (by rw [List.size_toArray, List.size_toArray]; omega) (h _ ?_)
  refine I.lset (its' := its.take a' ++ its2 ++ its.drop c') (t' := s.toks) hH e ?_ (Vals.append (Vals.append (r.take _) r2) (r.drop _)) ?_
  · exact splice_eq its its2 a' c'
  · rw [List.length_append, List.length_append, List.length_take, List.length_drop]
    omega
end
end L2

namespace Att
open PySem PySem.W PySem.Calls PyProof.Rows

/-! ### the script -/
theorem ints_of_wellAll {P : Params} {h : Heap} : ∀ (ns : List Int) (vs : List Value), WellAll P h vs (ns.map WData.int) → IntsAre vs ns := by
  intro ns
  induction ns with
  | nil =>
    intro vs w
    rw [List.map_nil] at w
    cases w
    exact .nil
  | cons n ns ih =>
    intro vs w
    rw [List.map_cons] at w
    cases w with
    | cons a b =>
      cases a
      exact .cons _ _ (ih _ b)

theorem script_of {l : OpenLaw} {n : Nat} (hn : l.most = some n) {P : Params} {h : Heap} {args : List WData} {vals : List Value}
    (hpre : l.row.toRowW.claim.pre args = true) (hwl : WellAll P h vals args) :
    ∃ a vs ns, vals = [Value.ref a] ∧ args = [WData.list (ns.map WData.int)] ∧ h.get? a = some { cls := .type "list", data := .seq vs.toArray } ∧ IntsAre vs ns ∧ ns.length ≤ n := by
  have hsh : WShape.hasAll [] args [.list .int] = true := (pre_splitW hpre).1
  have hc : l.pre.holds [] { args := args } = true := (pre_splitW hpre).2
  obtain ⟨d, r, rfl, h1, h2⟩ := hasAllW_cons hsh
  obtain rfl := hasAllW_nil h2
  obtain ⟨xs, rfl, h3⟩ := hasW_list h1
  obtain ⟨ns, rfl⟩ := items_int h3
  have hlen : ns.length ≤ n := by
    unfold OpenLaw.pre at hc
    have h4 : (WTm.not (.lt (.lit (.int (n : Int))) (.len (.arg 0)))).holds [] { args := [.list (ns.map .int)] } = true := by
      have h4 := (holds_andW hc).1
      rw [hn] at h4
      exact h4
    have h5 := condW_of h4 (w_not (w_lt w_lit (w_len_list (w_arg rfl))))
    rw [List.length_map] at h5
    refine Nat.le_of_not_lt fun q => ?_
    have q' : (n : Int) < ((ns.length : Nat) : Int) := by omega
    first
      | (rw [decide_eq_true q'] at h5; exact absurd h5 (by decide))
      | (simp at h5; omega)
  cases hwl with
  | cons w1 w2 =>
    cases w2
    cases w1 with
    | list ho hall => exact ⟨_, _, ns, rfl, rfl, ho, ints_of_wellAll ns _ hall, hlen⟩

theorem post_true (l : OpenLaw) (args : List WData) : l.row.toRowW.claim.post args (.bool true) args = true :=
  postW_of (r := l.row.toRowW) (X := (true == true))
    (show WShape.has [] (.bool true) .bool = true by first | rfl | decide | simp [WShape.has, WShape.arms, WShape.armsAll])
    (show (WTm.eq .res (.lit (.bool true))).value [] { args := args, res := some (.bool true), after := args } = some (.bool (true == true)) from w_eq_bool (w_res rfl) w_lit) rfl

/-! ### the attachment: holds_open's last premise (the goal 'hc' behind k_head) from a wpAny of the law's body -/
theorem attach {l : OpenLaw} {n : Nat} {q : Program} {loose : List Str} {XP : (Str → Option Value) → Heap → Prop} {YP : World → Heap → Prop} {d : DefRec} {x : Str}
    (hn : l.most = some n) (hdf : d.params.defaults = [])
    (hbind : ∀ pm cd doc v : Value, bindArgs (docDef d.name d.params d.body d.scope pm cd doc) ⟨[v], []⟩ = pure [(x, v)])
    (hx : d.scope.names.lookup x = some .local ∨ d.scope.names.lookup x = some .cell)
    (hk : d.scope.kind = .function) (hco : d.scope.isCoroutine = false) (hgen : d.scope.isGenerator = false)
    (body : ∀ (w : World) (s₀ s₁ s : Shared) (mg mb : Str → Option Value) (fa : Addr) (o : Obj) (pm cd doc : Value) (a : Addr) (vs : List Value) (ns : List Int),
      Ground q loose [] XP w s₀ mg mb s₁.heap → YP w s₁.heap →
      s₁.heap.get? fa = some o → o.data = .func (docDef d.name d.params d.body d.scope pm cd doc) → s₁.heap.CodeRec cd d.name → mg d.name = some (.ref fa) →
      s₁.heap.get? a = some { cls := .type "list", data := .seq vs.toArray } → IntsAre vs ns → ns.length ≤ n →
      s.gens = #[] → s.os = s₁.os →
      Fr s₁.heap s₁.heap.objs.size s.heap (bindL (envOfC d.name d.scope s₁.heap.objs.size fa cd).kindOf [(x, .ref a)] fun _ => none) →
      Cl s₁.heap.objs.size (cellsFrom (s₁.heap.objs.size + 1) d.scope.names []) s.heap (bindC (envOfC d.name d.scope s₁.heap.objs.size fa cd).kindOf [(x, .ref a)] fun _ => none) →
      wpAny (model l.prog w) (callerA.deeper (envOfC d.name d.scope s₁.heap.objs.size fa cd)) (execs d.body (envOfC d.name d.scope s₁.heap.objs.size fa cd))
        (fun f s' => f = .ret (.bool true) ∧ OldK s₁.heap s'.heap ∧ s'.os = s₁.os ∧ AllBare s'.gens) (fun _ _ => False) s) :
    WalkO q loose XP YP l.row.toRowW d [] (fun f vs => PySem.call f vs) := by
  intro w s₀ s₁ mg mb G Y fa o pm cd doc dV kV ho hd hcd hD hmg hg args vals as hpre hlay hrd hwl hlo
  obtain rfl : dV = .none := Dflts.none hD hdf
  obtain rfl : kV = .none := Dflts.noKw hD
  obtain ⟨a, vs, ns, rfl, rfl, hobj, hints, hlen⟩ := script_of hn hpre hwl
  refine enter_call ?_
  refine call_cells_ret (o := o) (by rw [depth_caller]; decide) ho (fd_plain hd) G.T.nolimit hcd (hbind pm cd doc (.ref a)) (fun y hy => ?_) (fun h₁ tk F X => ?_) hco hgen hk
  · obtain rfl : y = (x, Value.ref a) := List.mem_singleton.mp hy
    rcases hx with e | e
    · exact .inl e
    · exact .inr ⟨e, cellsFrom_some _ _ _ (.inl e)⟩
  · refine wpAny_mono (body w s₀ s₁ { s₁ with heap := h₁, toks := tk } mg mb fa o pm cd doc a vs ns G Y ho (fd_plain hd) hcd hmg hobj hints hlen hg rfl F X) (fun f s' hq => ?_) (fun _ _ hq => hq)
    obtain ⟨rfl, h2, h3, h4⟩ := hq
    exact ⟨.inl ⟨.bool true, .bool true, [], rfl, fun _ => rfl, .bool true, post_true l _, fun _ => ⟨List.Pairwise.nil, fun _ hm => (nomatch hm)⟩⟩, h2, h3, h4⟩

/-- the same from a codeAny of the CALL (for a layer whose function contracts speak of calls) -/
theorem attach_call {l : OpenLaw} {n : Nat} {q : Program} {loose : List Str} {XP : (Str → Option Value) → Heap → Prop} {YP : World → Heap → Prop} {d : DefRec}
    (hn : l.most = some n) (hdf : d.params.defaults = [])
    (call : ∀ (w : World) (s₀ s₁ : Shared) (mg mb : Str → Option Value) (fa : Addr) (o : Obj) (pm cd doc : Value) (a : Addr) (vs : List Value) (ns : List Int),
      Ground q loose [] XP w s₀ mg mb s₁.heap → YP w s₁.heap →
      s₁.heap.get? fa = some o → o.data = .func (docDef d.name d.params d.body d.scope pm cd doc) → s₁.heap.CodeRec cd d.name → mg d.name = some (.ref fa) →
      s₁.heap.get? a = some { cls := .type "list", data := .seq vs.toArray } → IntsAre vs ns → ns.length ≤ n → s₁.gens = #[] →
      codeAny (model l.prog w) callerA (.call (.ref fa) ⟨[.ref a], []⟩) (fun r s' => r = .ok (.ret (.bool true)) ∧ OldK s₁.heap s'.heap ∧ s'.os = s₁.os ∧ AllBare s'.gens) s₁) :
    WalkO q loose XP YP l.row.toRowW d [] (fun f vs => PySem.call f vs) := by
  intro w s₀ s₁ mg mb G Y fa o pm cd doc dV kV ho hd hcd hD hmg hg args vals as hpre hlay hrd hwl hlo
  obtain rfl : dV = .none := Dflts.none hD hdf
  obtain rfl : kV = .none := Dflts.noKw hD
  obtain ⟨a, vs, ns, rfl, rfl, hobj, hints, hlen⟩ := script_of hn hpre hwl
  refine enter_call (codeAny_mono (call w s₀ s₁ mg mb fa o pm cd doc a vs ns G Y ho (fd_plain hd) hcd hmg hobj hints hlen hg) fun r s' hq => ?_)
  obtain ⟨rfl, h2, h3, h4⟩ := hq
  exact ⟨.inl ⟨.bool true, .bool true, [], rfl, fun _ => rfl, .bool true, post_true l _, fun _ => ⟨List.Pairwise.nil, fun _ hm => (nomatch hm)⟩⟩, h2, h3, h4⟩

/-- the same where the top left finished generators (o_head chose holds_openN): nothing may have changed at all and no generator may be left -/
theorem attachN {l : OpenLaw} {n : Nat} {q : Program} {loose : List Str} {XP : (Str → Option Value) → Heap → Prop} {YP : World → Heap → Prop} {d : DefRec} {x : Str}
    (hn : l.most = some n) (hdf : d.params.defaults = [])
    (hbind : ∀ pm cd doc v : Value, bindArgs (docDef d.name d.params d.body d.scope pm cd doc) ⟨[v], []⟩ = pure [(x, v)])
    (hx : d.scope.names.lookup x = some .local ∨ d.scope.names.lookup x = some .cell)
    (hk : d.scope.kind = .function) (hco : d.scope.isCoroutine = false) (hgen : d.scope.isGenerator = false)
    (body : ∀ (w : World) (s₀ s₁ s : Shared) (mg mb : Str → Option Value) (fa : Addr) (o : Obj) (pm cd doc : Value) (a : Addr) (vs : List Value) (ns : List Int),
      Ground q loose [] XP w s₀ mg mb s₁.heap → YP w s₁.heap →
      s₁.heap.get? fa = some o → o.data = .func (docDef d.name d.params d.body d.scope pm cd doc) → s₁.heap.CodeRec cd d.name → mg d.name = some (.ref fa) →
      s₁.heap.get? a = some { cls := .type "list", data := .seq vs.toArray } → IntsAre vs ns → ns.length ≤ n →
      s.gens = #[] → s.os = s₁.os →
      Fr s₁.heap s₁.heap.objs.size s.heap (bindL (envOfC d.name d.scope s₁.heap.objs.size fa cd).kindOf [(x, .ref a)] fun _ => none) →
      Cl s₁.heap.objs.size (cellsFrom (s₁.heap.objs.size + 1) d.scope.names []) s.heap (bindC (envOfC d.name d.scope s₁.heap.objs.size fa cd).kindOf [(x, .ref a)] fun _ => none) →
      wpAny (model l.prog w) (callerA.deeper (envOfC d.name d.scope s₁.heap.objs.size fa cd)) (execs d.body (envOfC d.name d.scope s₁.heap.objs.size fa cd))
        (fun f s' => f = .ret (.bool true) ∧ (∀ b o, s₁.heap.get? b = some o → s'.heap.get? b = some o) ∧ s'.os = s₁.os ∧ s'.gens = #[]) (fun _ _ => False) s) :
    WalkN q loose XP YP l.row.toRowW d [] (fun f vs => PySem.call f vs) := by
  intro w s₀ s₁ mg mb G Y fa o pm cd doc dV kV ho hd hcd hD hmg hg args vals as hpre hlay hrd hwl hlo
  obtain rfl : dV = .none := Dflts.none hD hdf
  obtain rfl : kV = .none := Dflts.noKw hD
  obtain ⟨a, vs, ns, rfl, rfl, hobj, hints, hlen⟩ := script_of hn hpre hwl
  refine enter_callW ?_
  refine call_cells_ret (o := o) (by rw [depth_caller]; decide) ho (fd_plain hd) G.T.nolimit hcd (hbind pm cd doc (.ref a)) (fun y hy => ?_) (fun h₁ tk F X => ?_) hco hgen hk
  · obtain rfl : y = (x, Value.ref a) := List.mem_singleton.mp hy
    rcases hx with e | e
    · exact .inl e
    · exact .inr ⟨e, cellsFrom_some _ _ _ (.inl e)⟩
  · refine wpAny_mono (body w s₀ s₁ { s₁ with heap := h₁, toks := tk } mg mb fa o pm cd doc a vs ns G Y ho (fd_plain hd) hcd hmg hobj hints hlen hg rfl F X) (fun f s' hq => ?_) (fun _ _ hq => hq)
    obtain ⟨rfl, h2, h3, h4⟩ := hq
    exact ⟨.inl ⟨.bool true, .bool true, [], rfl, fun _ => rfl, .bool true, post_true l _, fun _ => ⟨List.Pairwise.nil, fun _ hm => (nomatch hm)⟩⟩, h2, h3, h4⟩

/-! ### rules over ANY heap (no ledger) from facts about the written part K: the library's own take a ledger (News) for what they write -/
section
variable {prog : Program} {w : World} {A : Around} {E : Value → Shared → Prop} {s : Shared} {K : Frag}

/-- a def of the module, or a method (qual 'C.m'), entered: the frame is the next address; cells behind it -/
theorem call_fn {R : Result → Shared → Prop} {name qual : Str} {params : Arguments} {body : List Stmt} {scope : Scope} {dV kV doc pm cdv ct oc : Value} {an od : Option Addr} {osl : Array (Option Value)} {f : Addr} {args : Args} {binds : List (Str × Value)}
    (X : K.In s.heap) (hlim : s.heap.NoLimit) (ho : K.lookup f = some ⟨oc, od, .func (fnOf name qual params body scope dV kV doc pm an cdv ct), osl⟩) (hcd : codeIn K cdv qual = true) (hroom : A.depth < recursionLimit)
    (hbind : BindsTo s (fnOf name qual params body scope dV kV doc pm an cdv ct) args binds)
    (hkind : (binds.all fun y => scope.names.lookup y.1 == some .local || scope.names.lookup y.1 == some .cell) = true)
    (h : ∀ s₁, InCallC s s.heap.objs.size (bindL (envOfC qual scope s.heap.objs.size f cdv).kindOf binds fun _ => none) (cellsFrom (s.heap.objs.size + 1) scope.names [])
        (bindC (envOfC qual scope s.heap.objs.size f cdv).kindOf binds fun _ => none) s₁ →
      wpAny (model prog w) (A.deeper (envOfC qual scope s.heap.objs.size f cdv)) (execs body (envOfC qual scope s.heap.objs.size f cdv))
        (fun fl s' => R (.ok (.ret (match fl with | .ret v => v | _ => .none))) s')
        (fun e s' => wpAny (model prog w) (A.deeper (envOfC qual scope s.heap.objs.size f cdv)) (leaving (envOfC qual scope s.heap.objs.size f cdv) e) (fun _ s'' => R (.error e) s'') (fun e' s'' => R (.error e') s'') s') s₁)
    (hco : scope.isCoroutine = false) (hgen : scope.isGenerator = false) (hk : scope.kind = .function) : codeAny (model prog w) A (.call (.ref f) args) R s := by
  refine codeAny_call_function hroom (X _ _ ho) rfl hco hgen rfl (codeRec_of X hcd) (hbind _ _ _ _ ?_)
  refine wpAny_newFunctionEnv_cells hk (kindsX hkind _) fun env he s₁ x => ?_
  subst he
  exact ⟨hlim.keeps x.toInCall.keep, codeAny_func (h s₁ x)⟩

/-- C(..): dict at size, instance at size + 1, then __init__ -/
theorem make_obj {R : Result → Shared → Prop} {C fI : Addr} {rest : List Value} {kw : List (Str × Value)}
    (X : K.In s.heap) (hm : makesIn K C = true) (hi : findIn K (.ref C) "__init__" = some (some (.ref fI))) (hf : isFn K (.ref fI) = true)
    (h : codeAny (model prog w) (A.under (.builtin "type.__call__" ⟨.ref C :: rest, kw⟩)) (.call (.ref fI) ⟨.ref (s.heap.objs.size + 1) :: rest, kw⟩) (InitBack (s.heap.objs.size + 1) R)
      { s with heap := (s.heap.push emptyDict).push (instObj C s.heap.objs.size) }) : codeAny (model prog w) A (.call (.ref C) ⟨rest, kw⟩) R s := by
  obtain ⟨hh, g, d, t, os⟩ := s
  exact make_core (makes_of X hm) (looks_findIn X hi) (fun self => bind_fn X self (beq_iff_eq.mp hf)) (.inl rfl) h

/-- x.name where the instance's dict holds the name and the class does not -/
theorem get_field {x C : Addr} {ox : Obj} {es : List DictEntry} {n : Nat} {name : Str} {expr : Bool} {v : Value} {Q : Value → Shared → Prop}
    (X : K.In s.heap) (I : PySem.W.InstAt s.heap x ox C (some (dictOf es n))) (hg : plainGet K C name = true) (hh : hasDictIn K C = true) (ha : findIn K (.ref C) name = some none)
    (hl : getL name es = some (some v)) (hv : handedIn v = true) (h : Q v { s with toks := s.toks + 1 }) : wpAny (model prog w) A (getAttr (.ref x) name expr) Q E s :=
  get_value X I (plainGet_of hg).1 (findObj_own hh ha rfl hl) hv h

/-- x.m(..): the method found in the class -/
theorem get_method {x C f : Addr} {ox : Obj} {es : List DictEntry} {n : Nat} {name : Str} {pl : Sem Bool} {Q : Value × List Value → Shared → Prop}
    (X : K.In s.heap) (I : PySem.W.InstAt s.heap x ox C (some (dictOf es n))) (hg : plainGet K C name = true) (hf : findIn K (.ref C) name = some (some (.ref f))) (ht : isFn K (.ref f) = true)
    (hl : getL name es = some none) (h : Q (.ref f, [.ref x]) s) : wpAny (model prog w) A (getMethod (.ref x) name pl) Q E s :=
  method_fn X I (plainGet_of hg).1 (plainGet_of hg).2 hf (beq_iff_eq.mp ht) (by show (lookIn name (dictOf es n)).map _ = _; rw [lookIn_dict, hl]; rfl) h

/-! the whole heap as the ledger: makes every rule that writes through a ledger a rule over any heap -/
def noObjs (h : Heap) : Heap := { h with objs := #[] }
theorem noObjs_get (h : Heap) (b : Addr) : (noObjs h).get? b = none := by
  cases e : (noObjs h).get? b with
  | none => rfl
  | some o => exact absurd (Heap.lt_size e) (Nat.not_lt_zero _)
def ledger (h : Heap) (L d : Addr) : List (Addr × Obj) := (List.range h.objs.size).filterMap fun a => if a = L ∨ a = d then none else (h.get? a).map fun o => (a, o)
theorem mem_ledger {h : Heap} {L d a : Addr} {o : Obj} : (a, o) ∈ ledger h L d ↔ a ≠ L ∧ a ≠ d ∧ h.get? a = some o := by
  unfold ledger
  rw [List.mem_filterMap]
  constructor
  · rintro ⟨b, _, e⟩
    split at e
    · cases e
    · rename_i hb
      obtain ⟨o', ho, e'⟩ := Option.map_eq_some_iff.mp e
      cases e'
      exact ⟨fun q => hb (.inl q), fun q => hb (.inr q), ho⟩
  · rintro ⟨n1, n2, ho⟩
    refine ⟨a, List.mem_range.mpr (Heap.lt_size ho), ?_⟩
    rw [if_neg (show ¬ (a = L ∨ a = d) from fun q => q.elim n1 n2), ho] <;> rfl
theorem news_ledger {h : Heap} {L d : Addr} {od : Obj} (hne : d ≠ L) (ho : h.get? d = some od) : News (noObjs h) L h ([] ++ (d, od) :: ledger h L d) := by
  rintro ⟨a, o⟩ hp
  rcases List.mem_cons.mp hp with e | hp
  · cases e
    exact ⟨ho, hne, noObjs_get _ _⟩
  · obtain ⟨n1, n2, e⟩ := mem_ledger.mp hp
    exact ⟨e, n1, noObjs_get _ _⟩
theorem fr_all {h : Heap} {L : Addr} {m : Str → Option Value} (n : h.Ns L m) : Fr (noObjs h) L h m :=
  ⟨n, fun b o e => (by rw [noObjs_get] at e; cases e), Nat.zero_le _⟩
/-- Upd of the head entry (for append_K, setItem_K ..) -/
theorem upd_ledger {h : Heap} {L d : Addr} {o o' : Obj} : Upd d o o' ((d, o) :: ledger h L d) ((d, o') :: ledger h L d) :=
  .head fun ⟨_, _⟩ hp => (mem_ledger.mp hp).2.1

/-- x.name = v over any heap: L is any namespace of the heap (the frame's, say): its map stays, its object is not told; all else but the dict stays -/
theorem set_field {x C dx L : Addr} {ox : Obj} {m : Str → Option Value} {es es' : List DictEntry} {n n' : Nat} {name : Str} {v : Value} {Q : Unit → Shared → Prop}
    (X : K.In s.heap) (I : PySem.W.InstAt s.heap x ox C (some (dictOf es n))) (hd : ox.dict = some dx) (hL : s.heap.Ns L m) (hne : dx ≠ L)
    (hs : findIn K (.ref C) "__setattr__" = some (some (.builtin "object.__setattr__"))) (hp : plainOver K C = true) (ht : takerIn K C name = some none) (hh : hasDictIn K C = true) (hl : (getL name es).isSome = true)
    (e : (putL name (PyData.keyHash w.params name) (.str name (s.toks + 1)) v es, putN name es n) = (es', n')) (hz : es'.length ≤ 1000)
    (h : ∀ h' : Heap, h'.Ns L m → h'.get? dx = some (dictOf es' n') → (∀ b o, b ≠ dx → b ≠ L → s.heap.get? b = some o → h'.get? b = some o) → Q () { s with heap := h', toks := s.toks + 2 }) :
    wpAny (model prog w) A (setAttr (.ref x) name v) Q E s := by
  obtain ⟨e1, e2⟩ := Prod.mk.inj e
  have hdx : s.heap.get? dx = some (dictOf es n) := by
    have := I.dict
    rw [hd] at this
    exact this
  refine set_plain X I hs (osa_dict (s := { s with toks := s.toks + 1 }) (h₀ := noObjs s.heap) (L := L) (m := m) (od := dictOf es n) (od' := dictOf es' n') (es := es') (n := n') (pre := []) (post := ledger s.heap L dx)
    (fr_all hL) (news_ledger hne hdx) X I hd hp ht hh hl (fun _ q => nomatch q) (fun ⟨_, _⟩ q => (mem_ledger.mp q).2.1) (by rw [putName_dict, e1, e2]) rfl hz fun h' F' N' => ?_)
  exact h h' F'.ns (N'.get (List.Mem.head _)) fun b o n1 n2 ho => N'.get (List.Mem.tail _ (mem_ledger.mpr ⟨n2, n1, ho⟩))
end
end Att

namespace L2
open PySem PySem.Spec PyProof.Rows

theorem vals_ints : ∀ {vs : List Value} {ns : List Int}, IntsAre vs ns → Vals (ns.map V.int) vs
  | _, _, .nil => .nil
  | _, _, .cons n t h => .cons ⟨t, rfl⟩ (vals_ints h)

/-- nothing is tracked but the script, known to the object (or it is an object of the module) -/
def Only (H : Hp) : Prop := ∀ b, H b = none ∨ ∃ o xs, H b = some (.frz o (.lst xs))

/-- THE HEAD: the law's promise, at the heap behind the top. F, the promise of the law's def, may use that base is part of the heap (so K.In base, base.Ns mainGlobals mg stand in Mod) -/
theorem law_call {P : Program} {w : World} {K : PySem.W.Frag} {mg mb : Str → Option Value} {CX : CXT} {k : Nat} {fa a : Addr} {fd : FuncData} {x : Str} {sp : Sp} {s₁ : Shared} {vs : List Value} {ns : List Int}
    (KX : K.In s₁.heap) (hns : s₁.heap.Ns mainGlobals mg) (hb : s₁.heap.Ns builtinsNs mb) (hbb : ∀ x : Str, x ≠ "__name__" → mb x = bootBuiltins x) (hlim : s₁.heap.NoLimit) (hsee : s₁.heap.NoSeer) (hg : s₁.gens = #[])
    (ha : s₁.heap.get? a = some { cls := .type "list", data := .seq vs.toArray }) (hi : IntsAre vs ns) (hl : ns.length ≤ sizeLine) (hr : Room k callerA)
    (F : ∀ base : Heap, K.In base → base.Ns mainGlobals mg → FnOk P w K mg base CX k fa fd [x] sp) (hbind : ∀ (s : Shared) (u : Value), BindsTo s fd ⟨[u], []⟩ [(x, u)])
    (hsp : ∀ H : Hp, Only H → SqL K H a (ns.map V.int) → sp [.ref a] H (fun v _ => v = .bl true) fun _ _ _ => False)
    (hCX : ∀ H e s', CX [] H s₁ (fun _ _ _ => False) e s' → False) :
    codeAny (model P w) callerA (.call (.ref fa) ⟨[.ref a], []⟩) (fun r s' => r = .ok (.ret (.bool true)) ∧ OldK s₁.heap s'.heap ∧ s'.os = s₁.os ∧ AllBare s'.gens) s₁ := by
  have rv := vals_ints hi
  have lenV := hi.length
  -- from an abstract heap in which nothing but the script may be tracked
  have core : ∀ H : Hp, Only H → SqL K H a (ns.map V.int) → HOk P w H s₁.heap → (∀ b, H b ≠ none → b = a) → (H a ≠ none → K.lookup a = none) →
      codeAny (model P w) callerA (.call (.ref fa) ⟨[.ref a], []⟩) (fun r s' => r = .ok (.ret (.bool true)) ∧ OldK s₁.heap s'.heap ∧ s'.os = s₁.os ∧ AllBare s'.gens) s₁ := by
    intro H hO hS hok hA hK
    have base_of : ∀ {b : Addr} {o : Obj}, s₁.heap.get? b = some o → H b = none → (hidT s₁.heap H).get? b = some o := fun e n => hidT_get e n
    have noA : ∀ {b : Addr} {o : Obj} {es : Array DictEntry} {ep : Nat}, s₁.heap.get? b = some o → o.data = .dict es ep → H b = none := fun {b o es ep} e d => by
      cases q : H b with
      | none => rfl
      | some u =>
        have e' : b = a := hA b (by rw [q]; simp)
        subst e'
        rw [ha] at e; cases e
        have d' : Data.seq vs.toArray _ = Data.dict es ep := d
        cases d'
    have nsK : ∀ {b : Addr} {m : Str → Option Value}, s₁.heap.Ns b m → (hidT s₁.heap H).Ns b m := fun {b m} ⟨o, es, ep, e, d, r⟩ => ⟨o, es, ep, base_of e (noA e d), d, r⟩
    have hKb : K.In (hidT s₁.heap H) := fun b o e => base_of (KX b o e) (by
      cases q : H b with
      | none => rfl
      | some u =>
        have e' : b = a := hA b (by rw [q]; simp)
        subst e'
        rw [hK (by rw [q]; simp)] at e; cases e)
    have hM : Mod K mg (hidT s₁.heap H) := ⟨hKb, nsK hns, ⟨mb, nsK hb, hbb⟩, let ⟨mc, h1, h2⟩ := hlim; ⟨mc, nsK h1, h2⟩,
      ⟨let ⟨mc, h1, h2⟩ := hsee.statics; ⟨mc, nsK h1, h2⟩, let ⟨mc, h1, h2⟩ := hsee.mods; ⟨mc, nsK h1, h2⟩, let ⟨mc, h1, h2⟩ := hsee.imp; ⟨mc, nsK h1, h2⟩, by
        obtain ⟨mg', bm, ob, n1, n2, n3, n4, n5⟩ := hsee.main
        refine ⟨mg', bm, ob, nsK n1, n2, base_of n3 ?_, n4, n5⟩
        cases q : H bm with
        | none => rfl
        | some u =>
          have e' : bm = a := hA bm (by rw [q]; simp)
          subst e'
          rw [ha] at n3; cases n3
          exact absurd (show Value.type "list" = Value.type "module" from n4) (fun z => by injection z with z; exact absurd z (by decide))⟩⟩
    have e0 : Env0 P w K mg (hidT s₁.heap H) callerA [] s₁ H := ⟨rfl, hM, fun b o e => of_hidT e, Nat.le_of_eq (hidT_size _ _), trivial, fun b hb => absurd (show b ∈ ([] : List Addr) from hb) (by simp), hok, .of_eq hg⟩
    refine codeAny_mono ((F _ hKb (nsK hns)).run callerA [] s₁ H ⟨[.ref a], []⟩ [.ref a] [.ref a] _ _ hr e0 (hbind s₁ (.ref a)) (.cons rfl .nil) (hsp H hO hS)) fun r s' h => ?_
    cases r with
    | error e => exact (hCX H e s' h).elim
    | ok fl =>
      cases fl with
      | next => exact False.elim h
      | brk => exact False.elim h
      | cont => exact False.elim h
      | ret u =>
        obtain ⟨v, H', os, bare, un, hok', r', q⟩ := h
        have q' : v = .bl true := q
        subst q'
        obtain rfl : u = Value.bool true := r'
        refine ⟨rfl, OldK.of_keep fun b o e => ?_, os, bare⟩
        cases q : H b with
        | none => exact un.keep b o e q (by intro z; exact absurd (show b ∈ ([] : List Addr) from z) (by simp)) (by simp)
        | some u =>
          rcases hO b with z | ⟨ob, xs, z⟩
          · rw [q] at z; cases z
          · have z2 := un.frzs b ob _ z
            obtain ⟨e1, _⟩ := hok b _ z
            obtain ⟨e2, _⟩ := hok' b _ z2
            rw [e] at e1; cases e1
            exact e2
  cases hk : K.lookup a with
  | some o =>
    -- the script is one of the module's own objects
    have e := KX a o hk
    rw [ha] at e
    cases e
    refine core (fun _ => none) (fun _ => .inl rfl) (.inr ⟨_, vs.toArray, _, hk, rfl, rfl, rfl, by rw [List.size_toArray, lenV]; exact hl, by simpa using rv⟩) (fun b u z => by have z' : (none : Option HO) = some u := z; cases z') (fun b z => absurd rfl z) fun z => absurd rfl z
  | none =>
    refine core (fun b => if b = a then some (.frz { cls := .type "list", data := .seq vs.toArray } (.lst (ns.map V.int))) else none) (fun b => ?_) (.inl (.inr ⟨{ cls := .type "list", data := .seq vs.toArray }, if_pos rfl⟩)) (fun b u z => ?_) (fun b z => ?_) fun _ => hk
    · by_cases hb : b = a
      · exact .inr ⟨_, _, if_pos hb⟩
      · exact .inl (if_neg hb)
    · by_cases hb : b = a
      · have z' := (if_pos hb).symm.trans z
        cases z'
        subst hb
        exact ⟨ha, by rw [List.length_map]; exact hl, vs, _, rv, ha⟩
      · have z' := (if_neg hb).symm.trans z
        cases z'
    · by_cases hb : b = a
      · exact hb
      · exact absurd (if_neg hb) z
end L2

namespace L2
open PySem PySem.Spec PyProof.Rows

abbrev KOf {K : PySem.W.Frag} {h : Heap} (_ : K.In h) : PySem.W.Frag := K

/-- the goal that k_head leaves (case hc), from the law's promise. F gives the function object fd (K's own) once, then the promise over every base -/
theorem walk_of {l : PySem.W.OpenLaw} {n k : Nat} {q : Program} {loose : List Str} {XP : (Str → Option Value) → Heap → Prop} {YP : World → Heap → Prop} {d : DefRec} {K : Params → PySem.W.Frag} {CX : World → CXT} {sp : World → Sp} {x : Str}
    (hn : l.most = some n) (hn2 : n ≤ sizeLine) (hdf : d.params.defaults = []) (hr : Room k callerA) (hq : importsNone q = true)
    (hY : ∀ (w : World) (h : Heap), YP w h → (K w.params).In h)
    (F : ∀ (w : World) (mg : Str → Option Value) (fa : Addr) (h : Heap), (K w.params).In h → h.Ns mainGlobals mg → mg d.name = some (.ref fa) →
      ∃ fd : FuncData, (∀ (s : Shared) (u : Value), BindsTo s fd ⟨[u], []⟩ [(x, u)]) ∧
        ∀ base : Heap, (K w.params).In base → base.Ns mainGlobals mg → FnOk l.prog w (K w.params) mg base (CX w) k fa fd [x] (sp w))
    (hsp : ∀ (w : World) (H : Hp) (a : Addr) (ns : List Int), ns.length ≤ n → Only H → SqL (K w.params) H a (ns.map V.int) → sp w [.ref a] H (fun v _ => v = .bl true) fun _ _ _ => False)
    (hCX : ∀ (w : World) (H : Hp) (s : Shared) (e : Value) (s' : Shared), CX w [] H s (fun _ _ _ => False) e s' → False) :
    PySem.W.WalkO q loose XP YP l.row.toRowW d [] (fun f vs => PySem.call f vs) := by
  refine Att.attach_call hn hdf fun w s₀ s₁ mg mb fa o pm cd doc a vs ns G Y ho hd hcd hmg hobj hints hlen hg => ?_
  have KX := hY w _ Y
  obtain ⟨fd, hb, hF⟩ := F w mg fa _ KX G.T.g hmg
  exact law_call KX G.T.g G.T.b G.T.builtins G.T.nolimit (G.T.seer hq) hg hobj hints (Nat.le_trans hlen hn2) hr hF hb (fun H hO hS => hsp w H a ns hlen hO hS) fun H e s' => hCX w H s₁ e s'
/-- the same where the promise hangs on the written part alone: (sp := My.sp_law), no hole under a binder -/
theorem walk_ofK {l : PySem.W.OpenLaw} {n k : Nat} {q : Program} {loose : List Str} {XP : (Str → Option Value) → Heap → Prop} {YP : World → Heap → Prop} {d : DefRec} {K : Params → PySem.W.Frag} {CX : CXT} {sp : PySem.W.Frag → Sp} {x : Str}
    (hn : l.most = some n) (hn2 : n ≤ sizeLine) (hdf : d.params.defaults = []) (hr : Room k callerA) (hq : importsNone q = true)
    (hY : ∀ (w : World) (h : Heap), YP w h → (K w.params).In h)
    (F : ∀ (w : World) (mg : Str → Option Value) (fa : Addr) (h : Heap), (K w.params).In h → h.Ns mainGlobals mg → mg d.name = some (.ref fa) →
      ∃ fd : FuncData, (∀ (s : Shared) (u : Value), BindsTo s fd ⟨[u], []⟩ [(x, u)]) ∧
        ∀ base : Heap, (K w.params).In base → base.Ns mainGlobals mg → FnOk l.prog w (K w.params) mg base CX k fa fd [x] (sp (K w.params)))
    (hsp : ∀ (K : PySem.W.Frag) (H : Hp) (a : Addr) (ns : List Int), ns.length ≤ n → Only H → SqL K H a (ns.map V.int) → sp K [.ref a] H (fun v _ => v = .bl true) fun _ _ _ => False)
    (hCX : ∀ (H : Hp) (s : Shared) (e : Value) (s' : Shared), CX [] H s (fun _ _ _ => False) e s' → False) :
    PySem.W.WalkO q loose XP YP l.row.toRowW d [] (fun f vs => PySem.call f vs) :=
  walk_of (K := K) (CX := fun _ => CX) (sp := fun w => sp (K w.params)) hn hn2 hdf hr hq hY F (fun w H a ns h1 h2 h3 => hsp (K w.params) H a ns h1 h2 h3) fun _ H s e s' => hCX H s e s'
end L2

/- THE LAST THEOREM (shape; LID, My.* are yours):
   My.Adr: a structure of the addresses that your layer names (classes, functions); My.Txt K t: a structure (Prop) of the equations over K;
   My.txt_mk : {K} {implicit addresses ..} (e1 : nsIn K mainGlobals "law" = some (some (.ref f))) (e2 : K.lookup f = some ⟨oc, od, .func (fnOf "law" "law" params body scope dV kV doc pm an cdv ct), sl⟩) (e3 : codeIn K cdv "law" = true) .. : ∃ t, My.Txt K t

set_option maxRecDepth 100000 in
set_option maxHeartbeats 0 in
theorem PySem.Challenge.cw_LID_holds : PySem.Challenge.rw_LID.Holds := by
  w_on; o_law; k_head; (case hw => w_witness2)
  k_fill
  refine L2.walk_of (l := PySem.Challenge.rw_LID) (n := 63) (k := 40) (x := "script") (CX := fun w => ..) (sp := fun _ => My.sp_law) rfl (by decide) rfl ⟨rfl, by decide, by decide⟩ (fun w h Y => PySem.W.kIn_of Y) ?F ?S ?C
  case F =>
    intro w mg fa h KX G hmg
    have T : ∃ t, My.Txt (L2.KOf KX) t := by
      dsimp only [L2.KOf]                          -- K must stand as «<heap const> w.params» for k_is
      refine' My.txt_mk ?e1 ?e2 ?e3 ..
      (case e1 => PySem.W.k_is)                    -- in the order: a name -> its address -> its object -> its parts
      (case e2 => PySem.W.k_is)
      ..
    obtain ⟨t, T⟩ := T
    have e0 := hmg.symm.trans (PySem.W.mg_of KX G T.law)
    cases e0                                       -- fa is the law's own address
    exact ⟨_, fun s u => .of_eq rfl, fun base kb nb => My.law_fn T kb nb⟩     -- if «.of_eq rfl» comes too early: refine' ⟨_, ?b, fun base kb nb => My.law_fn T kb nb⟩; exact fun s u => .of_eq rfl
  case S => exact fun w H a ns hl hO hS => ..
  case C => exact ..
(the tactic k_is has no namespace: write k_is) -/

/-! SHORT WORDS over the layer: a def of the text, its body, what a loop and a test want. -/
namespace L2
open PySem PySem.Spec PyProof.Rows

/-! ### the text by places -/
/-- the j-th statement of a class's body -/
def inClass (s : Stmt) (j : Nat) : Stmt := match s with
  | .ClassDef _ _ _ body _ _ _ _ _ _ _ => body.getD j (.Pass ⟨0, 0, 0, 0⟩)
  | _ => .Pass ⟨0, 0, 0, 0⟩
def defArgs (s : Stmt) : Arguments := match s with
  | .FunctionDef _ a _ _ _ _ _ _ _ _ => a
  | _ => { posonlyargs := [], args := [], vararg := none, kwonlyargs := [], kw_defaults := [], kwarg := none, defaults := [] }
def defBody (s : Stmt) : List Stmt := match s with
  | .FunctionDef _ _ b _ _ _ _ _ _ _ => b
  | _ => []
def defScope (s : Stmt) : Scope := match s with
  | .FunctionDef _ _ _ _ _ _ sc _ _ _ => sc
  | _ => { kind := .function, names := [], isGenerator := false, isCoroutine := false }

/-! ### no exception leaves a def -/
abbrev CX0 : CXT := fun _ _ _ _ _ _ => False
abbrev E0 : XK := fun _ _ _ => False
theorem pass0 {X : Cx} : Passes CX0 X E0 := fun _ _ _ _ _ _ _ h => h.elim

/-! ### a def (or method) of the text as it stands behind the top -/
structure Fun (K : PySem.W.Frag) (x qual : Str) (st : Stmt) (f : Addr) (fd : FuncData) : Prop where
  ex : ∃ (oc : Value) (od : Option Addr) (kV doc pm : Value) (an : Option Addr) (cdv ct : Value) (osl : Array (Option Value)),
    fd = PySem.W.fnOf x qual (defArgs st) (defBody st) (defScope st) .none kV doc pm an cdv ct ∧ K.lookup f = some ⟨oc, od, .func fd, osl⟩ ∧ PySem.W.codeIn K cdv qual = true
  kp : PySem.W.keepIn K (.ref f) = true
section
variable {P : Program} {w : World} {K : PySem.W.Frag} {mg : Str → Option Value} {base : Heap}
/-- THE RULE for a def: its body as a term of rules, and the reading of that term -/
theorem Fun.ok {x qual : Str} {st : Stmt} {f : Addr} {fd : FuncData} {N ps : List Str} {k : Nat} {sp : Sp} (F : Fun K x qual st f fd) (S : FnScope N ps (defScope st)) (len : ∀ vs H Q E, sp vs H Q E → vs.length = ps.length)
    (hbody : ∀ (cdv : Value) (A : Around) (outer : List Env) (s : Shared) (H : Hp) (vs : List V) (Q : VK) (E : XK), Room k (A.deeper (envOfC qual (defScope st) s.heap.objs.size f cdv)) → sp vs H Q E →
      ∃ t, PSs (cxOf CX0 P w K mg base N qual (defScope st) f cdv A outer s H E).nox (defBody st) t ∧ t { nx := fun _ H' => Q .non H', rt := Q } (start N vs) H) : FnOk P w K mg base CX0 (k + 1) f fd ps sp := by
  obtain ⟨oc, od, kV, doc, pm, an, cdv, ct, osl, rfl, lk, hcd⟩ := F.ex
  refine fn_of lk hcd S len fun A outer s H vs Q E hr hsp => ?_
  obtain ⟨t, h, q⟩ := hbody cdv A outer s H vs Q E hr hsp
  exact ⟨t, h.nox, q⟩
/-- how its arguments bind (no defaults): h is «fun _ _ _ _ _ _ us hl => match us, hl with | [_, _], _ => rfl», one _ a parameter -/
theorem Fun.binds {x qual : Str} {st : Stmt} {f : Addr} {fd : FuncData} {ps : List Str} (F : Fun K x qual st f fd)
    (h : ∀ (kV doc pm : Value) (an : Option Addr) (cdv ct : Value) (us : List Value), us.length = ps.length → bindArgs (PySem.W.fnOf x qual (defArgs st) (defBody st) (defScope st) .none kV doc pm an cdv ct) ⟨us, []⟩ = pure (ps.zip us)) : Binds K fd ps [] := by
  obtain ⟨oc, od, kV, doc, pm, an, cdv, ct, osl, rfl, lk, hcd⟩ := F.ex
  exact .all (h kV doc pm an cdv ct)
theorem fun_mk {x qual : Str} {st : Stmt} {f : Addr} {oc : Value} {od an : Option Addr} {osl : Array (Option Value)} {kV doc pm cdv ct : Value} (l : K.lookup f = some ⟨oc, od, .func (PySem.W.fnOf x qual (defArgs st) (defBody st) (defScope st) .none kV doc pm an cdv ct), osl⟩)
    (c : PySem.W.codeIn K cdv qual = true) (k : PySem.W.keepIn K (.ref f) = true) : Fun K x qual st f (PySem.W.fnOf x qual (defArgs st) (defBody st) (defScope st) .none kV doc pm an cdv ct) := ⟨⟨oc, od, kV, doc, pm, an, cdv, ct, osl, rfl, l, c⟩, k⟩
end
theorem hu_of {A : Around} {k : Nat} (hr : Room k A) : A.units + 1 < cLine := Nat.lt_of_le_of_lt (Nat.add_le_add_left (by decide : 1 ≤ 64) _) hr.units
theorem small1000 {n : Nat} (h : n ≤ 1000) : n < sizeLine := Nat.lt_of_le_of_lt h (by decide)

/-! ### expressions in short: the name that stands in the i-th slot -/
section
variable {X : Cx}
theorem pv (i : Nat) {x : Str} {pos : Pos} (hN : X.N[i]? = some x := by rfl) (hv : Vis X.env.scope x := by first | exact Or.inl rfl | exact Or.inr (Or.inl rfl) | exact Or.inr (Or.inr rfl)) (hd : (x == ("__debug__" : Str)) = false := by decide)
    (hcd : (x == ("__classdict__" : Str)) = false := by decide) : PE X (.Name x pos) (tVar i) := pe_var hN hv hd hcd
end

/-! ### tests -/
theorem iteF {A B : Prop} (h : B) : if false = true then A else B := by
  rw [if_neg Bool.false_ne_true]
  exact h
theorem iteT {A B : Prop} (h : A) : if true = true then A else B := by
  rw [if_pos rfl]
  exact h
theorem ite2 {c A B : Prop} [Decidable c] (h1 : c → A) (h2 : ¬ c → B) : if c then A else B := by
  by_cases h : c
  · rw [if_pos h]
    exact h1 h
  · rw [if_neg h]
    exact h2 h
theorem iteNS {c A B : Prop} [Decidable c] (hc : c) (h : B) : if (!decide c) = true then A else B := by
  rw [decide_eq_true hc]
  exact iteF h

/-! ### heaps -/
/-- all that was tracked is as it was -/
def Same (H H' : Hp) : Prop := ∀ b o, H b = some o → H' b = some o
theorem Same.refl (H : Hp) : Same H H := fun _ _ h => h
theorem Same.trans {H H1 H2 : Hp} (a : Same H H1) (b : Same H1 H2) : Same H H2 := fun c o h => b c o (a c o h)
theorem Same.free {H H' : Hp} (e : Same H H') {l : Addr} (h : H' l = Option.none) : H l = Option.none := by
  cases q : H l with
  | none => rfl
  | some o =>
    rw [e l o q] at h
    cases h
theorem Same.seq {K : PySem.W.Frag} {H H' : Hp} {a : Addr} {xs : List V} (e : Same H H') (h : SqL K H a xs) : SqL K H' a xs := by
  rcases h with (h | ⟨o, h⟩) | h
  · exact .inl (.inl (e _ _ h))
  · exact .inl (.inr ⟨o, e _ _ h⟩)
  · exact .inr h

end L2

set_option maxHeartbeats 0
lay_quick PySem.Challenge.pw_weighwalk_k61_sets
namespace H61
open PySem PySem.W
noncomputable abbrev kh := @PySem.PyData.keyHash
noncomputable def topT (i : Nat) : Stmt := PySem.W.Fast.tw11838926927082172486.main.body.getD i (.Pass ⟨0, 0, 0, 0⟩)
noncomputable def s0 : Str := ⟨⟨[60, 109, 111, 100, 117, 108, 101, 62]⟩⟩
noncomputable def s1 : Str := ⟨⟨[47, 99, 108, 97, 105, 109, 47, 99, 117, 116, 46, 112, 121]⟩⟩
noncomputable def s2 : Str := ⟨⟨[95, 95, 109, 97, 105, 110, 95, 95]⟩⟩
noncomputable def s3 : Str := ⟨⟨[95, 95, 110, 97, 109, 101, 95, 95]⟩⟩
noncomputable def s4 : Str := ⟨⟨[108, 97, 119, 95, 119, 101, 105, 103, 104, 119, 97, 108, 107, 95, 107, 54, 49, 95, 115, 101, 116, 115]⟩⟩
noncomputable def s5 : Str := ⟨⟨[95, 95, 100, 111, 99, 95, 95]⟩⟩
noncomputable def s6 : Str := ⟨⟨[95, 95, 112, 97, 99, 107, 97, 103, 101, 95, 95]⟩⟩
noncomputable def s7 : Str := ⟨⟨[95, 95, 108, 111, 97, 100, 101, 114, 95, 95]⟩⟩
noncomputable def s8 : Str := ⟨⟨[95, 95, 115, 112, 101, 99, 95, 95]⟩⟩
noncomputable def s9 : Str := ⟨⟨[95, 95, 97, 110, 110, 111, 116, 97, 116, 105, 111, 110, 115, 95, 95]⟩⟩
noncomputable def s10 : Str := ⟨⟨[95, 95, 98, 117, 105, 108, 116, 105, 110, 115, 95, 95]⟩⟩
noncomputable def s11 : Str := ⟨⟨[95, 95, 102, 105, 108, 101, 95, 95]⟩⟩
noncomputable def s12 : Str := ⟨⟨[95, 95, 99, 97, 99, 104, 101, 100, 95, 95]⟩⟩
noncomputable def s13 : Str := ⟨⟨[87, 101, 105, 103, 104, 69, 114, 114, 111, 114]⟩⟩
noncomputable def s14 : Str := ⟨⟨[84, 111, 111, 71, 114, 101, 97, 116]⟩⟩
noncomputable def s15 : Str := ⟨⟨[77, 79, 83, 84, 95, 83, 69, 84, 83]⟩⟩
noncomputable def s16 : Str := ⟨⟨[102, 105, 114, 115, 116, 95, 115, 101, 116]⟩⟩
noncomputable def s17 : Str := ⟨⟨[110, 101, 120, 116, 95, 115, 101, 116]⟩⟩
noncomputable def s18 : Str := ⟨⟨[115, 101, 116, 115, 95, 111, 102]⟩⟩
noncomputable def s19 : Str := ⟨⟨[95, 108, 97, 119, 95, 115, 116, 97, 116, 101]⟩⟩
noncomputable def s20 : Str := ⟨⟨[95, 108, 97, 119, 95, 110, 101, 120, 116]⟩⟩
noncomputable def s21 : Str := ⟨⟨[95, 108, 97, 119, 95, 114, 111, 111, 109, 115]⟩⟩
noncomputable def s22 : Str := ⟨⟨[95, 108, 97, 119, 95, 108, 101, 116, 116, 101, 114, 115]⟩⟩
noncomputable def s23 : Str := ⟨⟨[95, 108, 97, 119, 95, 116, 114, 117, 116, 104, 115]⟩⟩
noncomputable def s24 : Str := ⟨⟨[95, 108, 97, 119, 95, 109, 97, 99, 104, 105, 110, 101]⟩⟩
noncomputable def s25 : Str := ⟨⟨[95, 108, 97, 119, 95, 102, 105, 114, 115, 116]⟩⟩
noncomputable def s26 : Str := ⟨⟨[95, 108, 97, 119, 95, 97, 102, 116, 101, 114]⟩⟩
noncomputable def s27 : Str := ⟨⟨[95, 108, 97, 119, 95, 97, 108, 108, 95, 115, 101, 116, 115]⟩⟩
noncomputable def s28 : Str := ⟨⟨[95, 108, 97, 119, 95, 107, 101, 121]⟩⟩
noncomputable def s29 : Str := ⟨⟨[95, 108, 97, 119, 95, 119, 97, 108, 107, 101, 100]⟩⟩
noncomputable def s30 : Str := ⟨⟨[108, 97, 119]⟩⟩
noncomputable def s31 : Str := ⟨⟨[95, 95, 109, 111, 100, 117, 108, 101, 95, 95]⟩⟩
noncomputable def s32 : Str := ⟨⟨[119, 101, 105, 103, 104, 119, 97, 108, 107, 46, 101, 114, 114, 111, 114, 115]⟩⟩
noncomputable def s33 : Str := ⟨⟨[95, 95, 113, 117, 97, 108, 110, 97, 109, 101, 95, 95]⟩⟩
noncomputable def s34 : Str := ⟨⟨[95, 95, 102, 105, 114, 115, 116, 108, 105, 110, 101, 110, 111, 95, 95]⟩⟩
noncomputable def s35 : Str := ⟨⟨[95, 95, 115, 116, 97, 116, 105, 99, 95, 97, 116, 116, 114, 105, 98, 117, 116, 101, 115, 95, 95]⟩⟩
noncomputable def s36 : Str := ⟨⟨[95, 95, 119, 101, 97, 107, 114, 101, 102, 95, 95]⟩⟩
noncomputable def s37 : Str := ⟨⟨[119, 101, 105, 103, 104, 119, 97, 108, 107, 46, 115, 117, 114, 101]⟩⟩
noncomputable def s38 : Str := ⟨⟨[109, 97, 99, 104, 105, 110, 101]⟩⟩
noncomputable def s39 : Str := ⟨⟨[116, 111, 108, 100]⟩⟩
noncomputable def s40 : Str := ⟨⟨[112, 108, 97, 99, 101]⟩⟩
noncomputable def s41 : Str := ⟨⟨[116, 97, 98, 108, 101]⟩⟩
noncomputable def s42 : Str := ⟨⟨[97, 102, 116, 101, 114]⟩⟩
noncomputable def s43 : Str := ⟨⟨[95, 108, 97, 119, 95, 115, 99, 114, 105, 112, 116]⟩⟩
noncomputable def s44 : Str := ⟨⟨[95, 108, 97, 119, 95, 115, 101, 101, 100]⟩⟩
noncomputable def s45 : Str := ⟨⟨[95, 108, 97, 119, 95, 99, 101, 108, 108]⟩⟩
noncomputable def s46 : Str := ⟨⟨[95, 108, 97, 119, 95, 115, 116, 97, 116, 101, 95, 104, 101, 114, 101]⟩⟩
noncomputable def s47 : Str := ⟨⟨[95, 108, 97, 119, 95, 109, 97, 110, 121]⟩⟩
noncomputable def s48 : Str := ⟨⟨[95, 108, 97, 119, 95, 102, 111, 117, 110, 100]⟩⟩
noncomputable def s49 : Str := ⟨⟨[95, 108, 97, 119, 95, 102, 101, 119]⟩⟩
noncomputable def s50 : Str := ⟨⟨[95, 108, 97, 119, 95, 109, 111, 115, 116]⟩⟩
noncomputable def s51 : Str := ⟨⟨[95, 108, 97, 119, 95, 115, 111, 109, 101]⟩⟩
noncomputable def s52 : Str := ⟨⟨[95, 108, 97, 119, 95, 97, 110, 115, 119, 101, 114]⟩⟩
noncomputable def s53 : Str := ⟨⟨[95, 108, 97, 119, 95, 107]⟩⟩
noncomputable def s54 : Str := ⟨⟨[95, 108, 97, 119, 95, 108, 101, 116, 116, 101, 114]⟩⟩
noncomputable def s55 : Str := ⟨⟨[95, 108, 97, 119, 95, 109, 97, 99, 104, 105, 110, 101, 95, 104, 101, 114, 101]⟩⟩
noncomputable def s56 : Str := ⟨⟨[95, 108, 97, 119, 95, 97, 116]⟩⟩
noncomputable def s57 : Str := ⟨⟨[95, 108, 97, 119, 95, 109, 111, 114, 101]⟩⟩
noncomputable def s58 : Str := ⟨⟨[95, 108, 97, 119, 95, 108, 101, 116, 116, 101, 114, 115, 95, 104, 101, 114, 101]⟩⟩
noncomputable def s59 : Str := ⟨⟨[95, 108, 97, 119, 95, 114, 101, 102, 117, 115, 101, 100]⟩⟩
noncomputable def s60 : Str := ⟨⟨[101]⟩⟩
noncomputable def o11a (P : Params) : Obj := ⟨(.type PySem.W.SL.s2766695959194262286x5), none, (.seq #[] 0), #[]⟩
noncomputable def o12a (P : Params) : Obj := ⟨.none, none, (.fields #[]), #[]⟩
noncomputable def o13a (P : Params) : Obj := ⟨(.type PySem.W.SL.s5856160107412720595x4), none, (.fields #[(.str s0 182), (.str s0 183), (.str s1 184), (.int 1 0), (.int 0 0), (.int 0 0), (.int 0 0), (.int 0 0), (.ref 11), (.bool false), (.int 181 0), (.ref 12), .none, .none, .none, .none, (.int 185 0), (.int 1 0), (.str s1 186)]), #[]⟩
noncomputable def o14a (P : Params) : Obj := ⟨(.type PySem.W.SL.s658472552662922059x5), none, .plain, #[(some (.ref 13)), (some (.ref 3)), (some (.ref 3)), none, (some (.str s2 164)), none, (some (.ref 0))]⟩
noncomputable def o3_0 (P : Params) : Obj := ⟨(.type PySem.W.SL.s14018661285674007319x4), none, (.dict #[⟨(kh P s3), (.str s3 165), (.str s4 250)⟩, ⟨(kh P s5), (.str s5 166), .none⟩, ⟨(kh P s6), (.str s6 167), .none⟩, ⟨(kh P s7), (.str s7 168), (.builtin PySem.W.SL.s7097527257260152453x26)⟩, ⟨(kh P s8), (.str s8 169), .none⟩, ⟨(kh P s9), (.str s9 170), (.ref 6)⟩, ⟨(kh P s10), (.str s10 171), (.ref 4)⟩, ⟨(kh P s11), (.str s11 173), (.str s1 172)⟩, ⟨(kh P s12), (.str s12 174), .none⟩, ⟨(kh P s13), (.str s13 206), (.ref 24)⟩, ⟨(kh P s14), (.str s14 222), (.ref 37)⟩, ⟨(kh P s15), (.str s15 226), (.int 20 225)⟩, ⟨(kh P s16), (.str s16 232), (.ref 44)⟩, ⟨(kh P s17), (.str s17 238), (.ref 49)⟩, ⟨(kh P s18), (.str s18 249), (.ref 56)⟩, ⟨(kh P s19), (.str s19 260), (.ref 63)⟩, ⟨(kh P s20), (.str s20 269), (.ref 70)⟩, ⟨(kh P s21), (.str s21 278), (.ref 77)⟩, ⟨(kh P s22), (.str s22 289), (.ref 84)⟩, ⟨(kh P s23), (.str s23 295), (.ref 89)⟩, ⟨(kh P s24), (.str s24 301), (.ref 94)⟩, ⟨(kh P s25), (.str s25 307), (.ref 99)⟩, ⟨(kh P s26), (.str s26 313), (.ref 104)⟩, ⟨(kh P s27), (.str s27 325), (.ref 111)⟩, ⟨(kh P s28), (.str s28 331), (.ref 116)⟩, ⟨(kh P s29), (.str s29 337), (.ref 121)⟩, ⟨(kh P s30), (.str s30 350), (.ref 128)⟩] 27), #[]⟩
noncomputable def o12_0 (P : Params) : Obj := ⟨.none, none, (.fields #[(.int 2 0), (.int 0 0), (.ref 20), (.int 4 0), (.int 0 0), (.ref 33), (.int 8 0), (.int 0 0), (.ref 43), (.int 10 0), (.int 0 0), (.ref 48), (.int 12 0), (.int 0 0), (.ref 55), (.int 25 0), (.int 0 0), (.ref 62), (.int 32 0), (.int 0 0), (.ref 69), (.int 41 0), (.int 0 0), (.ref 76), (.int 45 0), (.int 0 0), (.ref 83), (.int 53 0), (.int 0 0), (.ref 88), (.int 55 0), (.int 0 0), (.ref 93), (.int 61 0), (.int 0 0), (.ref 98), (.int 63 0), (.int 0 0), (.ref 103), (.int 66 0), (.int 0 0), (.ref 110), (.int 76 0), (.int 0 0), (.ref 115), (.int 78 0), (.int 0 0), (.ref 120), (.int 103 0), (.int 0 0), (.ref 127)]), #[]⟩
noncomputable def o15_0 (P : Params) : Obj := ⟨(.type PySem.W.SL.s2766695959194262286x5), none, (.seq #[(.type PySem.W.SL.s6070975301684473832x10)] 0), #[]⟩
noncomputable def o16_0 (P : Params) : Obj := ⟨(.type PySem.W.SL.s11030030927630378310x26), none, (.fields #[(.builtin PySem.W.SL.s10062305145149207511x16), (.type PySem.W.SL.s17162191345867700912x4)]), #[]⟩
noncomputable def o17_0 (P : Params) : Obj := ⟨(.type PySem.W.SL.s14018661285674007319x4), none, (.dict #[⟨(kh P s31), (.str s31 196), (.str s32 187)⟩, ⟨(kh P s33), (.str s33 198), (.str s13 197)⟩, ⟨(kh P s34), (.str s34 200), (.int 2 199)⟩, ⟨(kh P s35), (.str s35 201), (.ref 22)⟩] 4), #[]⟩
noncomputable def o18_0 (P : Params) : Obj := ⟨(.type PySem.W.SL.s2766695959194262286x5), none, (.seq #[] 0), #[]⟩
noncomputable def o19_0 (P : Params) : Obj := ⟨.none, none, (.fields #[]), #[]⟩
noncomputable def o20_0 (P : Params) : Obj := ⟨(.type PySem.W.SL.s5856160107412720595x4), none, (.fields #[(.str s13 191), (.str s13 192), (.str s1 193), (.int 2 0), (.int 0 0), (.int 0 0), (.int 0 0), (.int 0 0), (.ref 18), (.bool false), (.int 181 0), (.ref 19), .none, .none, .none, .none, (.int 194 0), (.int 2 0), (.str s1 195)]), #[]⟩
noncomputable def o21_0 (P : Params) : Obj := ⟨(.type PySem.W.SL.s658472552662922059x5), none, .plain, #[(some (.ref 20)), (some (.ref 3)), (some (.ref 17)), none, (some (.str s32 187)), none, (some (.ref 0))]⟩
noncomputable def o22_0 (P : Params) : Obj := ⟨(.type PySem.W.SL.s2766695959194262286x5), none, (.seq #[] 0), #[]⟩
noncomputable def o23_0 (P : Params) : Obj := ⟨(.type PySem.W.SL.s14018661285674007319x4), none, (.dict #[⟨(kh P s31), (.str s31 196), (.str s32 187)⟩, ⟨(kh P s34), (.str s34 200), (.int 2 199)⟩, ⟨(kh P s35), (.str s35 201), (.ref 22)⟩, ⟨(kh P s36), (.str s36 203), (.ref 25)⟩, ⟨(kh P s5), (.str s5 204), .none⟩] 3), #[]⟩
noncomputable def o24_0 (P : Params) : Obj := ⟨(.type PySem.W.SL.s17162191345867700912x4), none, (.cls ⟨s13, [(.type PySem.W.SL.s6070975301684473832x10)], [(.ref 24), (.type PySem.W.SL.s6070975301684473832x10), (.type PySem.W.SL.s5946037652744460706x9), (.type PySem.W.SL.s4278001404047624695x13), (.type PySem.W.SL.s2742458400755230247x6)], 23, s13, true, [], [(.ref 37)], false, none, false⟩), #[(some (.ref 15)), none, (some (.str s13 189)), (some (.str s13 197)), (some (.builtin PySem.W.SL.s4209523147560561109x18)), (some (.bool true))]⟩
noncomputable def o25_0 (P : Params) : Obj := ⟨(.type PySem.W.SL.s14755015743595814543x17), none, (.fields #[(.str s36 202), (.ref 24), (.builtin PySem.W.SL.s10220274742760427390x26), .none]), #[]⟩
noncomputable def o26_0 (P : Params) : Obj := ⟨(.type PySem.W.SL.s4290257624100764138x5), none, (.fields #[(.ref 24), (.ref 24), (.ref 24)]), #[]⟩
noncomputable def o27_0 (P : Params) : Obj := ⟨(.type PySem.W.SL.s11030030927630378310x26), none, (.fields #[(.builtin PySem.W.SL.s4860613602091757760x24), (.ref 24)]), #[]⟩
noncomputable def o28_0 (P : Params) : Obj := ⟨(.type PySem.W.SL.s2766695959194262286x5), none, (.seq #[(.ref 24)] 0), #[]⟩
noncomputable def o29_0 (P : Params) : Obj := ⟨(.type PySem.W.SL.s11030030927630378310x26), none, (.fields #[(.builtin PySem.W.SL.s10062305145149207511x16), (.type PySem.W.SL.s17162191345867700912x4)]), #[]⟩
noncomputable def o30_0 (P : Params) : Obj := ⟨(.type PySem.W.SL.s14018661285674007319x4), none, (.dict #[⟨(kh P s31), (.str s31 214), (.str s32 187)⟩, ⟨(kh P s33), (.str s33 216), (.str s14 215)⟩, ⟨(kh P s34), (.str s34 218), (.int 4 217)⟩, ⟨(kh P s35), (.str s35 219), (.ref 35)⟩] 4), #[]⟩
noncomputable def o31_0 (P : Params) : Obj := ⟨(.type PySem.W.SL.s2766695959194262286x5), none, (.seq #[] 0), #[]⟩
noncomputable def o32_0 (P : Params) : Obj := ⟨.none, none, (.fields #[]), #[]⟩
noncomputable def o33_0 (P : Params) : Obj := ⟨(.type PySem.W.SL.s5856160107412720595x4), none, (.fields #[(.str s14 209), (.str s14 210), (.str s1 211), (.int 4 0), (.int 0 0), (.int 0 0), (.int 0 0), (.int 0 0), (.ref 31), (.bool false), (.int 181 0), (.ref 32), .none, .none, .none, .none, (.int 212 0), (.int 4 0), (.str s1 213)]), #[]⟩
noncomputable def o34_0 (P : Params) : Obj := ⟨(.type PySem.W.SL.s658472552662922059x5), none, .plain, #[(some (.ref 33)), (some (.ref 3)), (some (.ref 30)), none, (some (.str s32 187)), none, (some (.ref 0))]⟩
noncomputable def o35_0 (P : Params) : Obj := ⟨(.type PySem.W.SL.s2766695959194262286x5), none, (.seq #[] 0), #[]⟩
noncomputable def o36_0 (P : Params) : Obj := ⟨(.type PySem.W.SL.s14018661285674007319x4), none, (.dict #[⟨(kh P s31), (.str s31 214), (.str s32 187)⟩, ⟨(kh P s34), (.str s34 218), (.int 4 217)⟩, ⟨(kh P s35), (.str s35 219), (.ref 35)⟩, ⟨(kh P s5), (.str s5 220), .none⟩] 2), #[]⟩
noncomputable def o37_0 (P : Params) : Obj := ⟨(.type PySem.W.SL.s17162191345867700912x4), none, (.cls ⟨s14, [(.ref 24)], [(.ref 37), (.ref 24), (.type PySem.W.SL.s6070975301684473832x10), (.type PySem.W.SL.s5946037652744460706x9), (.type PySem.W.SL.s4278001404047624695x13), (.type PySem.W.SL.s2742458400755230247x6)], 36, s14, true, [], [], false, none, false⟩), #[(some (.ref 28)), none, (some (.str s14 207)), (some (.str s14 215)), (some (.builtin PySem.W.SL.s4209523147560561109x18)), (some (.bool true))]⟩
noncomputable def o38_0 (P : Params) : Obj := ⟨(.type PySem.W.SL.s4290257624100764138x5), none, (.fields #[(.ref 37), (.ref 37), (.ref 37)]), #[]⟩
noncomputable def o39_0 (P : Params) : Obj := ⟨(.type PySem.W.SL.s11030030927630378310x26), none, (.fields #[(.builtin PySem.W.SL.s4860613602091757760x24), (.ref 37)]), #[]⟩
noncomputable def o40_0 (P : Params) : Obj := ⟨(.type PySem.W.SL.s2766695959194262286x5), none, (.seq #[] 0), #[]⟩
noncomputable def o41_0 (P : Params) : Obj := ⟨.none, none, (.fields #[]), #[]⟩
noncomputable def o42_0 (P : Params) : Obj := ⟨.none, none, (.func ⟨s16, s16, (L2.defArgs (topT 5)), (.stmts (L2.defBody (topT 5))), (L2.defScope (topT 5)), 0, [], .none, .none, .none, .none, none, .none, .none, 0⟩), #[]⟩
noncomputable def o43_0 (P : Params) : Obj := ⟨(.type PySem.W.SL.s5856160107412720595x4), none, (.fields #[(.str s16 227), (.str s16 228), (.str s1 229), (.int 8 0), (.int 1 0), (.int 0 0), (.int 0 0), (.int 3 0), (.ref 40), (.bool true), (.int 181 0), (.ref 41), .none, .none, .none, (.ref 42), (.int 230 0), (.int 8 0), (.str s1 231)]), #[]⟩
noncomputable def o44_0 (P : Params) : Obj := ⟨(.type PySem.W.SL.s7174869446012820540x8), none, (.func ⟨s16, s16, (L2.defArgs (topT 5)), (.stmts (L2.defBody (topT 5))), (L2.defScope (topT 5)), 3, [], .none, .none, .none, (.str s37 223), none, (.ref 43), .none, 0⟩), #[]⟩
noncomputable def o45_0 (P : Params) : Obj := ⟨(.type PySem.W.SL.s2766695959194262286x5), none, (.seq #[] 0), #[]⟩
noncomputable def o46_0 (P : Params) : Obj := ⟨.none, none, (.fields #[]), #[]⟩
noncomputable def o47_0 (P : Params) : Obj := ⟨.none, none, (.func ⟨s17, s17, (L2.defArgs (topT 6)), (.stmts (L2.defBody (topT 6))), (L2.defScope (topT 6)), 0, [], .none, .none, .none, .none, none, .none, .none, 0⟩), #[]⟩
noncomputable def o48_0 (P : Params) : Obj := ⟨(.type PySem.W.SL.s5856160107412720595x4), none, (.fields #[(.str s17 233), (.str s17 234), (.str s1 235), (.int 10 0), (.int 2 0), (.int 0 0), (.int 0 0), (.int 3 0), (.ref 45), (.bool true), (.int 181 0), (.ref 46), .none, .none, .none, (.ref 47), (.int 236 0), (.int 10 0), (.str s1 237)]), #[]⟩
noncomputable def o49_0 (P : Params) : Obj := ⟨(.type PySem.W.SL.s7174869446012820540x8), none, (.func ⟨s17, s17, (L2.defArgs (topT 6)), (.stmts (L2.defBody (topT 6))), (L2.defScope (topT 6)), 3, [], .none, .none, .none, (.str s37 223), none, (.ref 48), .none, 0⟩), #[]⟩
noncomputable def o50_0 (P : Params) : Obj := ⟨(.type PySem.W.SL.s2766695959194262286x5), none, (.seq #[] 0), #[]⟩
noncomputable def o51_0 (P : Params) : Obj := ⟨.none, none, (.fields #[]), #[]⟩
noncomputable def o52_0 (P : Params) : Obj := ⟨(.type PySem.W.SL.s2766695959194262286x5), none, (.seq #[(.str s38 242), (.str s39 243), (.str s40 244), (.str s41 245), (.str s42 246)] 0), #[]⟩
noncomputable def o53_0 (P : Params) : Obj := ⟨(.type PySem.W.SL.s2766695959194262286x5), none, (.seq #[] 0), #[]⟩
noncomputable def o54_0 (P : Params) : Obj := ⟨.none, none, (.func ⟨s18, s18, (L2.defArgs (topT 7)), (.stmts (L2.defBody (topT 7))), (L2.defScope (topT 7)), 0, [], .none, .none, .none, .none, none, .none, .none, 0⟩), #[]⟩
noncomputable def o55_0 (P : Params) : Obj := ⟨(.type PySem.W.SL.s5856160107412720595x4), none, (.fields #[(.str s18 239), (.str s18 240), (.str s1 241), (.int 12 0), (.int 1 0), (.int 0 0), (.int 0 0), (.int 3 0), (.ref 50), (.bool true), (.int 181 0), (.ref 51), .none, (.ref 52), (.ref 53), (.ref 54), (.int 247 0), (.int 12 0), (.str s1 248)]), #[]⟩
noncomputable def o56_0 (P : Params) : Obj := ⟨(.type PySem.W.SL.s7174869446012820540x8), none, (.func ⟨s18, s18, (L2.defArgs (topT 7)), (.stmts (L2.defBody (topT 7))), (L2.defScope (topT 7)), 3, [], .none, .none, .none, (.str s37 223), none, (.ref 55), .none, 0⟩), #[]⟩
noncomputable def o57_0 (P : Params) : Obj := ⟨(.type PySem.W.SL.s2766695959194262286x5), none, (.seq #[] 0), #[]⟩
noncomputable def o58_0 (P : Params) : Obj := ⟨.none, none, (.fields #[]), #[]⟩
noncomputable def o59_0 (P : Params) : Obj := ⟨(.type PySem.W.SL.s2766695959194262286x5), none, (.seq #[(.str s43 255), (.str s44 256), (.str s45 257)] 0), #[]⟩
noncomputable def o60_0 (P : Params) : Obj := ⟨(.type PySem.W.SL.s2766695959194262286x5), none, (.seq #[] 0), #[]⟩
noncomputable def o61_0 (P : Params) : Obj := ⟨.none, none, (.func ⟨s19, s19, (L2.defArgs (topT 9)), (.stmts (L2.defBody (topT 9))), (L2.defScope (topT 9)), 0, [], .none, .none, .none, .none, none, .none, .none, 0⟩), #[]⟩
noncomputable def o62_0 (P : Params) : Obj := ⟨(.type PySem.W.SL.s5856160107412720595x4), none, (.fields #[(.str s19 252), (.str s19 253), (.str s1 254), (.int 25 0), (.int 1 0), (.int 0 0), (.int 0 0), (.int 3 0), (.ref 57), (.bool true), (.int 181 0), (.ref 58), .none, (.ref 59), (.ref 60), (.ref 61), (.int 258 0), (.int 25 0), (.str s1 259)]), #[]⟩
noncomputable def o63_0 (P : Params) : Obj := ⟨(.type PySem.W.SL.s7174869446012820540x8), none, (.func ⟨s19, s19, (L2.defArgs (topT 9)), (.stmts (L2.defBody (topT 9))), (L2.defScope (topT 9)), 3, [], .none, .none, .none, (.str s4 250), none, (.ref 62), .none, 0⟩), #[]⟩
noncomputable def o64_0 (P : Params) : Obj := ⟨(.type PySem.W.SL.s2766695959194262286x5), none, (.seq #[] 0), #[]⟩
noncomputable def o65_0 (P : Params) : Obj := ⟨.none, none, (.fields #[]), #[]⟩
noncomputable def o66_0 (P : Params) : Obj := ⟨(.type PySem.W.SL.s2766695959194262286x5), none, (.seq #[(.str s46 264), (.str s47 265), (.str s48 266)] 0), #[]⟩
noncomputable def o67_0 (P : Params) : Obj := ⟨(.type PySem.W.SL.s2766695959194262286x5), none, (.seq #[] 0), #[]⟩
noncomputable def o68_0 (P : Params) : Obj := ⟨.none, none, (.func ⟨s20, s20, (L2.defArgs (topT 10)), (.stmts (L2.defBody (topT 10))), (L2.defScope (topT 10)), 0, [], .none, .none, .none, .none, none, .none, .none, 0⟩), #[]⟩
noncomputable def o69_0 (P : Params) : Obj := ⟨(.type PySem.W.SL.s5856160107412720595x4), none, (.fields #[(.str s20 261), (.str s20 262), (.str s1 263), (.int 32 0), (.int 2 0), (.int 0 0), (.int 0 0), (.int 3 0), (.ref 64), (.bool true), (.int 181 0), (.ref 65), .none, (.ref 66), (.ref 67), (.ref 68), (.int 267 0), (.int 32 0), (.str s1 268)]), #[]⟩
noncomputable def o70_0 (P : Params) : Obj := ⟨(.type PySem.W.SL.s7174869446012820540x8), none, (.func ⟨s20, s20, (L2.defArgs (topT 10)), (.stmts (L2.defBody (topT 10))), (L2.defScope (topT 10)), 3, [], .none, .none, .none, (.str s4 250), none, (.ref 69), .none, 0⟩), #[]⟩
noncomputable def o71_0 (P : Params) : Obj := ⟨(.type PySem.W.SL.s2766695959194262286x5), none, (.seq #[] 0), #[]⟩
noncomputable def o72_0 (P : Params) : Obj := ⟨.none, none, (.fields #[]), #[]⟩
noncomputable def o73_0 (P : Params) : Obj := ⟨(.type PySem.W.SL.s2766695959194262286x5), none, (.seq #[(.str s46 273), (.str s49 274), (.str s50 275)] 0), #[]⟩
noncomputable def o74_0 (P : Params) : Obj := ⟨(.type PySem.W.SL.s2766695959194262286x5), none, (.seq #[] 0), #[]⟩
noncomputable def o75_0 (P : Params) : Obj := ⟨.none, none, (.func ⟨s21, s21, (L2.defArgs (topT 11)), (.stmts (L2.defBody (topT 11))), (L2.defScope (topT 11)), 0, [], .none, .none, .none, .none, none, .none, .none, 0⟩), #[]⟩
noncomputable def o76_0 (P : Params) : Obj := ⟨(.type PySem.W.SL.s5856160107412720595x4), none, (.fields #[(.str s21 270), (.str s21 271), (.str s1 272), (.int 41 0), (.int 3 0), (.int 0 0), (.int 0 0), (.int 3 0), (.ref 71), (.bool true), (.int 181 0), (.ref 72), .none, (.ref 73), (.ref 74), (.ref 75), (.int 276 0), (.int 41 0), (.str s1 277)]), #[]⟩
noncomputable def o77_0 (P : Params) : Obj := ⟨(.type PySem.W.SL.s7174869446012820540x8), none, (.func ⟨s21, s21, (L2.defArgs (topT 11)), (.stmts (L2.defBody (topT 11))), (L2.defScope (topT 11)), 3, [], .none, .none, .none, (.str s4 250), none, (.ref 76), .none, 0⟩), #[]⟩
noncomputable def o78_0 (P : Params) : Obj := ⟨(.type PySem.W.SL.s2766695959194262286x5), none, (.seq #[] 0), #[]⟩
noncomputable def o79_0 (P : Params) : Obj := ⟨.none, none, (.fields #[]), #[]⟩
noncomputable def o80_0 (P : Params) : Obj := ⟨(.type PySem.W.SL.s2766695959194262286x5), none, (.seq #[(.str s46 282), (.str s51 283), (.str s52 284), (.str s53 285), (.str s54 286)] 0), #[]⟩
noncomputable def o81_0 (P : Params) : Obj := ⟨(.type PySem.W.SL.s2766695959194262286x5), none, (.seq #[] 0), #[]⟩
noncomputable def o82_0 (P : Params) : Obj := ⟨.none, none, (.func ⟨s22, s22, (L2.defArgs (topT 12)), (.stmts (L2.defBody (topT 12))), (L2.defScope (topT 12)), 0, [], .none, .none, .none, .none, none, .none, .none, 0⟩), #[]⟩
noncomputable def o83_0 (P : Params) : Obj := ⟨(.type PySem.W.SL.s5856160107412720595x4), none, (.fields #[(.str s22 279), (.str s22 280), (.str s1 281), (.int 45 0), (.int 1 0), (.int 0 0), (.int 0 0), (.int 3 0), (.ref 78), (.bool true), (.int 181 0), (.ref 79), .none, (.ref 80), (.ref 81), (.ref 82), (.int 287 0), (.int 45 0), (.str s1 288)]), #[]⟩
noncomputable def o84_0 (P : Params) : Obj := ⟨(.type PySem.W.SL.s7174869446012820540x8), none, (.func ⟨s22, s22, (L2.defArgs (topT 12)), (.stmts (L2.defBody (topT 12))), (L2.defScope (topT 12)), 3, [], .none, .none, .none, (.str s4 250), none, (.ref 83), .none, 0⟩), #[]⟩
noncomputable def o85_0 (P : Params) : Obj := ⟨(.type PySem.W.SL.s2766695959194262286x5), none, (.seq #[] 0), #[]⟩
noncomputable def o86_0 (P : Params) : Obj := ⟨.none, none, (.fields #[]), #[]⟩
noncomputable def o87_0 (P : Params) : Obj := ⟨.none, none, (.func ⟨s23, s23, (L2.defArgs (topT 13)), (.stmts (L2.defBody (topT 13))), (L2.defScope (topT 13)), 0, [], .none, .none, .none, .none, none, .none, .none, 0⟩), #[]⟩
noncomputable def o88_0 (P : Params) : Obj := ⟨(.type PySem.W.SL.s5856160107412720595x4), none, (.fields #[(.str s23 290), (.str s23 291), (.str s1 292), (.int 53 0), (.int 3 0), (.int 0 0), (.int 0 0), (.int 3 0), (.ref 85), (.bool true), (.int 181 0), (.ref 86), .none, .none, .none, (.ref 87), (.int 293 0), (.int 53 0), (.str s1 294)]), #[]⟩
noncomputable def o89_0 (P : Params) : Obj := ⟨(.type PySem.W.SL.s7174869446012820540x8), none, (.func ⟨s23, s23, (L2.defArgs (topT 13)), (.stmts (L2.defBody (topT 13))), (L2.defScope (topT 13)), 3, [], .none, .none, .none, (.str s4 250), none, (.ref 88), .none, 0⟩), #[]⟩
noncomputable def o90_0 (P : Params) : Obj := ⟨(.type PySem.W.SL.s2766695959194262286x5), none, (.seq #[] 0), #[]⟩
noncomputable def o91_0 (P : Params) : Obj := ⟨.none, none, (.fields #[]), #[]⟩
noncomputable def o92_0 (P : Params) : Obj := ⟨.none, none, (.func ⟨s24, s24, (L2.defArgs (topT 14)), (.stmts (L2.defBody (topT 14))), (L2.defScope (topT 14)), 0, [], .none, .none, .none, .none, none, .none, .none, 0⟩), #[]⟩
noncomputable def o93_0 (P : Params) : Obj := ⟨(.type PySem.W.SL.s5856160107412720595x4), none, (.fields #[(.str s24 296), (.str s24 297), (.str s1 298), (.int 55 0), (.int 4 0), (.int 0 0), (.int 0 0), (.int 3 0), (.ref 90), (.bool true), (.int 181 0), (.ref 91), .none, .none, .none, (.ref 92), (.int 299 0), (.int 55 0), (.str s1 300)]), #[]⟩
noncomputable def o94_0 (P : Params) : Obj := ⟨(.type PySem.W.SL.s7174869446012820540x8), none, (.func ⟨s24, s24, (L2.defArgs (topT 14)), (.stmts (L2.defBody (topT 14))), (L2.defScope (topT 14)), 3, [], .none, .none, .none, (.str s4 250), none, (.ref 93), .none, 0⟩), #[]⟩
noncomputable def o95_0 (P : Params) : Obj := ⟨(.type PySem.W.SL.s2766695959194262286x5), none, (.seq #[] 0), #[]⟩
noncomputable def o96_0 (P : Params) : Obj := ⟨.none, none, (.fields #[]), #[]⟩
noncomputable def o97_0 (P : Params) : Obj := ⟨.none, none, (.func ⟨s25, s25, (L2.defArgs (topT 15)), (.stmts (L2.defBody (topT 15))), (L2.defScope (topT 15)), 0, [], .none, .none, .none, .none, none, .none, .none, 0⟩), #[]⟩
noncomputable def o98_0 (P : Params) : Obj := ⟨(.type PySem.W.SL.s5856160107412720595x4), none, (.fields #[(.str s25 302), (.str s25 303), (.str s1 304), (.int 61 0), (.int 1 0), (.int 0 0), (.int 0 0), (.int 3 0), (.ref 95), (.bool true), (.int 181 0), (.ref 96), .none, .none, .none, (.ref 97), (.int 305 0), (.int 61 0), (.str s1 306)]), #[]⟩
noncomputable def o99_0 (P : Params) : Obj := ⟨(.type PySem.W.SL.s7174869446012820540x8), none, (.func ⟨s25, s25, (L2.defArgs (topT 15)), (.stmts (L2.defBody (topT 15))), (L2.defScope (topT 15)), 3, [], .none, .none, .none, (.str s4 250), none, (.ref 98), .none, 0⟩), #[]⟩
noncomputable def o100_0 (P : Params) : Obj := ⟨(.type PySem.W.SL.s2766695959194262286x5), none, (.seq #[] 0), #[]⟩
noncomputable def o101_0 (P : Params) : Obj := ⟨.none, none, (.fields #[]), #[]⟩
noncomputable def o102_0 (P : Params) : Obj := ⟨.none, none, (.func ⟨s26, s26, (L2.defArgs (topT 16)), (.stmts (L2.defBody (topT 16))), (L2.defScope (topT 16)), 0, [], .none, .none, .none, .none, none, .none, .none, 0⟩), #[]⟩
noncomputable def o103_0 (P : Params) : Obj := ⟨(.type PySem.W.SL.s5856160107412720595x4), none, (.fields #[(.str s26 308), (.str s26 309), (.str s1 310), (.int 63 0), (.int 3 0), (.int 0 0), (.int 0 0), (.int 3 0), (.ref 100), (.bool true), (.int 181 0), (.ref 101), .none, .none, .none, (.ref 102), (.int 311 0), (.int 63 0), (.str s1 312)]), #[]⟩
noncomputable def o104_0 (P : Params) : Obj := ⟨(.type PySem.W.SL.s7174869446012820540x8), none, (.func ⟨s26, s26, (L2.defArgs (topT 16)), (.stmts (L2.defBody (topT 16))), (L2.defScope (topT 16)), 3, [], .none, .none, .none, (.str s4 250), none, (.ref 103), .none, 0⟩), #[]⟩
noncomputable def o105_0 (P : Params) : Obj := ⟨(.type PySem.W.SL.s2766695959194262286x5), none, (.seq #[] 0), #[]⟩
noncomputable def o106_0 (P : Params) : Obj := ⟨.none, none, (.fields #[]), #[]⟩
noncomputable def o107_0 (P : Params) : Obj := ⟨(.type PySem.W.SL.s2766695959194262286x5), none, (.seq #[(.str s55 317), (.str s50 318), (.str s51 319), (.str s56 320), (.str s53 321), (.str s57 322)] 0), #[]⟩
noncomputable def o108_0 (P : Params) : Obj := ⟨(.type PySem.W.SL.s2766695959194262286x5), none, (.seq #[] 0), #[]⟩
noncomputable def o109_0 (P : Params) : Obj := ⟨.none, none, (.func ⟨s27, s27, (L2.defArgs (topT 17)), (.stmts (L2.defBody (topT 17))), (L2.defScope (topT 17)), 0, [], .none, .none, .none, .none, none, .none, .none, 0⟩), #[]⟩
noncomputable def o110_0 (P : Params) : Obj := ⟨(.type PySem.W.SL.s5856160107412720595x4), none, (.fields #[(.str s27 314), (.str s27 315), (.str s1 316), (.int 66 0), (.int 2 0), (.int 0 0), (.int 0 0), (.int 3 0), (.ref 105), (.bool true), (.int 181 0), (.ref 106), .none, (.ref 107), (.ref 108), (.ref 109), (.int 323 0), (.int 66 0), (.str s1 324)]), #[]⟩
noncomputable def o111_0 (P : Params) : Obj := ⟨(.type PySem.W.SL.s7174869446012820540x8), none, (.func ⟨s27, s27, (L2.defArgs (topT 17)), (.stmts (L2.defBody (topT 17))), (L2.defScope (topT 17)), 3, [], .none, .none, .none, (.str s4 250), none, (.ref 110), .none, 0⟩), #[]⟩
noncomputable def o112_0 (P : Params) : Obj := ⟨(.type PySem.W.SL.s2766695959194262286x5), none, (.seq #[] 0), #[]⟩
noncomputable def o113_0 (P : Params) : Obj := ⟨.none, none, (.fields #[]), #[]⟩
noncomputable def o114_0 (P : Params) : Obj := ⟨.none, none, (.func ⟨s28, s28, (L2.defArgs (topT 18)), (.stmts (L2.defBody (topT 18))), (L2.defScope (topT 18)), 0, [], .none, .none, .none, .none, none, .none, .none, 0⟩), #[]⟩
noncomputable def o115_0 (P : Params) : Obj := ⟨(.type PySem.W.SL.s5856160107412720595x4), none, (.fields #[(.str s28 326), (.str s28 327), (.str s1 328), (.int 76 0), (.int 2 0), (.int 0 0), (.int 0 0), (.int 3 0), (.ref 112), (.bool true), (.int 181 0), (.ref 113), .none, .none, .none, (.ref 114), (.int 329 0), (.int 76 0), (.str s1 330)]), #[]⟩
noncomputable def o116_0 (P : Params) : Obj := ⟨(.type PySem.W.SL.s7174869446012820540x8), none, (.func ⟨s28, s28, (L2.defArgs (topT 18)), (.stmts (L2.defBody (topT 18))), (L2.defScope (topT 18)), 3, [], .none, .none, .none, (.str s4 250), none, (.ref 115), .none, 0⟩), #[]⟩
noncomputable def o117_0 (P : Params) : Obj := ⟨(.type PySem.W.SL.s2766695959194262286x5), none, (.seq #[] 0), #[]⟩
noncomputable def o118_0 (P : Params) : Obj := ⟨.none, none, (.fields #[]), #[]⟩
noncomputable def o119_0 (P : Params) : Obj := ⟨.none, none, (.func ⟨s29, s29, (L2.defArgs (topT 19)), (.stmts (L2.defBody (topT 19))), (L2.defScope (topT 19)), 0, [], .none, .none, .none, .none, none, .none, .none, 0⟩), #[]⟩
noncomputable def o120_0 (P : Params) : Obj := ⟨(.type PySem.W.SL.s5856160107412720595x4), none, (.fields #[(.str s29 332), (.str s29 333), (.str s1 334), (.int 78 0), (.int 2 0), (.int 0 0), (.int 0 0), (.int 3 0), (.ref 117), (.bool true), (.int 181 0), (.ref 118), .none, .none, .none, (.ref 119), (.int 335 0), (.int 78 0), (.str s1 336)]), #[]⟩
noncomputable def o121_0 (P : Params) : Obj := ⟨(.type PySem.W.SL.s7174869446012820540x8), none, (.func ⟨s29, s29, (L2.defArgs (topT 19)), (.stmts (L2.defBody (topT 19))), (L2.defScope (topT 19)), 3, [], .none, .none, .none, (.str s4 250), none, (.ref 120), .none, 0⟩), #[]⟩
noncomputable def o122_0 (P : Params) : Obj := ⟨(.type PySem.W.SL.s2766695959194262286x5), none, (.seq #[] 0), #[]⟩
noncomputable def o123_0 (P : Params) : Obj := ⟨.none, none, (.fields #[]), #[]⟩
noncomputable def o124_0 (P : Params) : Obj := ⟨(.type PySem.W.SL.s2766695959194262286x5), none, (.seq #[(.str s43 341), (.str s46 342), (.str s58 343), (.str s55 344), (.str s59 345), (.str s52 346), (.str s60 347)] 0), #[]⟩
noncomputable def o125_0 (P : Params) : Obj := ⟨(.type PySem.W.SL.s2766695959194262286x5), none, (.seq #[] 0), #[]⟩
noncomputable def o126_0 (P : Params) : Obj := ⟨.none, none, (.func ⟨s30, s30, (L2.defArgs (topT 20)), (.stmts (L2.defBody (topT 20))), (L2.defScope (topT 20)), 0, [], .none, .none, .none, .none, none, .none, .none, 0⟩), #[]⟩
noncomputable def o127_0 (P : Params) : Obj := ⟨(.type PySem.W.SL.s5856160107412720595x4), none, (.fields #[(.str s30 338), (.str s30 339), (.str s1 340), (.int 103 0), (.int 1 0), (.int 0 0), (.int 0 0), (.int 3 0), (.ref 122), (.bool true), (.int 181 0), (.ref 123), .none, (.ref 124), (.ref 125), (.ref 126), (.int 348 0), (.int 103 0), (.str s1 349)]), #[]⟩
noncomputable def o128_0 (P : Params) : Obj := ⟨(.type PySem.W.SL.s7174869446012820540x8), none, (.func ⟨s30, s30, (L2.defArgs (topT 20)), (.stmts (L2.defBody (topT 20))), (L2.defScope (topT 20)), 3, [], .none, .none, .none, (.str s4 250), none, (.ref 127), .none, 0⟩), #[]⟩
noncomputable def envT : Env := { scope := PySem.W.Fast.tw11838926927082172486.main.scope, locals := mainNs, globals := mainNs, cells := [], code := (.ref 13), frame := some 14 }
noncomputable def cT : Code := .body (behindTheImports PySem.W.Fast.tw11838926927082172486) envT
noncomputable def qP : Pos := ⟨0, 0, 0, 0⟩
noncomputable def Ha (P : Params) : Heap := ⟨⟨[boot_o_0 P, boot_o_1 P, boot_o_2 P, boot_o_3 P, boot_o_4 P, boot_o_5 P, boot_o_6 P, boot_o_7 P, boot_o_8 P, boot_o_9 P, boot_o_10 P, o11a P, o12a P, o13a P, o14a P]⟩, (PySem.Life.mk [] [] [] 0 [] [] false #[] [] 0 false false false 0 [2000, 10, 10] false 0 true [] [] 0 false)⟩
noncomputable def Sa (w : World) (os : OsState) : Shared := ⟨Ha w.params, ⟨[]⟩, (PySem.Drawn.mk 0 0 0 0), 187, os⟩
noncomputable def Tb (P : Params) : BT := (.node (boot_o_0 P) (.node (boot_o_1 P) (.node (boot_o_3 P) (.node (boot_o_7 P) .nil .nil) (.node (o11a P) .nil .nil)) (.node (boot_o_5 P) (.node (boot_o_9 P) .nil .nil) (.node (o13a P) .nil .nil))) (.node (boot_o_2 P) (.node (boot_o_4 P) (.node (boot_o_8 P) .nil .nil) (.node (o12a P) .nil .nil)) (.node (boot_o_6 P) (.node (boot_o_10 P) .nil .nil) (.node (o14a P) .nil .nil))))
noncomputable def Sb (w : World) (os : OsState) : SharedT := ⟨Tb w.params, 15, (PySem.Life.mk [] [] [] 0 [] [] false #[] [] 0 false false false 0 [2000, 10, 10] false 0 true [] [] 0 false), ⟨[]⟩, (PySem.Drawn.mk 0 0 0 0), 187, os⟩
noncomputable def T0 (P : Params) : BT := (.node (boot_o_0 P) (.node (boot_o_1 P) (.node (o3_0 P) (.node (boot_o_7 P) (.node (o15_0 P) (.node (o31_0 P) (.node (o63_0 P) (.node (o127_0 P) .nil .nil) .nil) (.node (o95_0 P) .nil .nil)) (.node (o47_0 P) (.node (o79_0 P) .nil .nil) (.node (o111_0 P) .nil .nil))) (.node (o23_0 P) (.node (o39_0 P) (.node (o71_0 P) .nil .nil) (.node (o103_0 P) .nil .nil)) (.node (o55_0 P) (.node (o87_0 P) .nil .nil) (.node (o119_0 P) .nil .nil)))) (.node (o11a P) (.node (o19_0 P) (.node (o35_0 P) (.node (o67_0 P) .nil .nil) (.node (o99_0 P) .nil .nil)) (.node (o51_0 P) (.node (o83_0 P) .nil .nil) (.node (o115_0 P) .nil .nil))) (.node (o27_0 P) (.node (o43_0 P) (.node (o75_0 P) .nil .nil) (.node (o107_0 P) .nil .nil)) (.node (o59_0 P) (.node (o91_0 P) .nil .nil) (.node (o123_0 P) .nil .nil))))) (.node (boot_o_5 P) (.node (boot_o_9 P) (.node (o17_0 P) (.node (o33_0 P) (.node (o65_0 P) .nil .nil) (.node (o97_0 P) .nil .nil)) (.node (o49_0 P) (.node (o81_0 P) .nil .nil) (.node (o113_0 P) .nil .nil))) (.node (o25_0 P) (.node (o41_0 P) (.node (o73_0 P) .nil .nil) (.node (o105_0 P) .nil .nil)) (.node (o57_0 P) (.node (o89_0 P) .nil .nil) (.node (o121_0 P) .nil .nil)))) (.node (o13a P) (.node (o21_0 P) (.node (o37_0 P) (.node (o69_0 P) .nil .nil) (.node (o101_0 P) .nil .nil)) (.node (o53_0 P) (.node (o85_0 P) .nil .nil) (.node (o117_0 P) .nil .nil))) (.node (o29_0 P) (.node (o45_0 P) (.node (o77_0 P) .nil .nil) (.node (o109_0 P) .nil .nil)) (.node (o61_0 P) (.node (o93_0 P) .nil .nil) (.node (o125_0 P) .nil .nil)))))) (.node (boot_o_2 P) (.node (boot_o_4 P) (.node (boot_o_8 P) (.node (o16_0 P) (.node (o32_0 P) (.node (o64_0 P) (.node (o128_0 P) .nil .nil) .nil) (.node (o96_0 P) .nil .nil)) (.node (o48_0 P) (.node (o80_0 P) .nil .nil) (.node (o112_0 P) .nil .nil))) (.node (o24_0 P) (.node (o40_0 P) (.node (o72_0 P) .nil .nil) (.node (o104_0 P) .nil .nil)) (.node (o56_0 P) (.node (o88_0 P) .nil .nil) (.node (o120_0 P) .nil .nil)))) (.node (o12_0 P) (.node (o20_0 P) (.node (o36_0 P) (.node (o68_0 P) .nil .nil) (.node (o100_0 P) .nil .nil)) (.node (o52_0 P) (.node (o84_0 P) .nil .nil) (.node (o116_0 P) .nil .nil))) (.node (o28_0 P) (.node (o44_0 P) (.node (o76_0 P) .nil .nil) (.node (o108_0 P) .nil .nil)) (.node (o60_0 P) (.node (o92_0 P) .nil .nil) (.node (o124_0 P) .nil .nil))))) (.node (boot_o_6 P) (.node (boot_o_10 P) (.node (o18_0 P) (.node (o34_0 P) (.node (o66_0 P) .nil .nil) (.node (o98_0 P) .nil .nil)) (.node (o50_0 P) (.node (o82_0 P) .nil .nil) (.node (o114_0 P) .nil .nil))) (.node (o26_0 P) (.node (o42_0 P) (.node (o74_0 P) .nil .nil) (.node (o106_0 P) .nil .nil)) (.node (o58_0 P) (.node (o90_0 P) .nil .nil) (.node (o122_0 P) .nil .nil)))) (.node (o14a P) (.node (o22_0 P) (.node (o38_0 P) (.node (o70_0 P) .nil .nil) (.node (o102_0 P) .nil .nil)) (.node (o54_0 P) (.node (o86_0 P) .nil .nil) (.node (o118_0 P) .nil .nil))) (.node (o30_0 P) (.node (o46_0 P) (.node (o78_0 P) .nil .nil) (.node (o110_0 P) .nil .nil)) (.node (o62_0 P) (.node (o94_0 P) .nil .nil) (.node (o126_0 P) .nil .nil)))))))
noncomputable def S0 (w : World) (os : OsState) : SharedT := ⟨T0 w.params, 129, (PySem.Life.mk [] [] [] 0 [] [] false #[] [] 0 false false false 0 [2000, 10, 10] false 0 true [] [] 0 false), ⟨[]⟩, (PySem.Drawn.mk 0 0 0 0), 351, os⟩
noncomputable def Hf (P : Params) : Heap := ⟨⟨[boot_o_0 P, boot_o_1 P, boot_o_2 P, o3_0 P, boot_o_4 P, boot_o_5 P, boot_o_6 P, boot_o_7 P, boot_o_8 P, boot_o_9 P, boot_o_10 P, o11a P, o12_0 P, o13a P, o14a P, o15_0 P, o16_0 P, o17_0 P, o18_0 P, o19_0 P, o20_0 P, o21_0 P, o22_0 P, o23_0 P, o24_0 P, o25_0 P, o26_0 P, o27_0 P, o28_0 P, o29_0 P, o30_0 P, o31_0 P, o32_0 P, o33_0 P, o34_0 P, o35_0 P, o36_0 P, o37_0 P, o38_0 P, o39_0 P, o40_0 P, o41_0 P, o42_0 P, o43_0 P, o44_0 P, o45_0 P, o46_0 P, o47_0 P, o48_0 P, o49_0 P, o50_0 P, o51_0 P, o52_0 P, o53_0 P, o54_0 P, o55_0 P, o56_0 P, o57_0 P, o58_0 P, o59_0 P, o60_0 P, o61_0 P, o62_0 P, o63_0 P, o64_0 P, o65_0 P, o66_0 P, o67_0 P, o68_0 P, o69_0 P, o70_0 P, o71_0 P, o72_0 P, o73_0 P, o74_0 P, o75_0 P, o76_0 P, o77_0 P, o78_0 P, o79_0 P, o80_0 P, o81_0 P, o82_0 P, o83_0 P, o84_0 P, o85_0 P, o86_0 P, o87_0 P, o88_0 P, o89_0 P, o90_0 P, o91_0 P, o92_0 P, o93_0 P, o94_0 P, o95_0 P, o96_0 P, o97_0 P, o98_0 P, o99_0 P, o100_0 P, o101_0 P, o102_0 P, o103_0 P, o104_0 P, o105_0 P, o106_0 P, o107_0 P, o108_0 P, o109_0 P, o110_0 P, o111_0 P, o112_0 P, o113_0 P, o114_0 P, o115_0 P, o116_0 P, o117_0 P, o118_0 P, o119_0 P, o120_0 P, o121_0 P, o122_0 P, o123_0 P, o124_0 P, o125_0 P, o126_0 P, o127_0 P, o128_0 P]⟩, (PySem.Life.mk [] [] [] 0 [] [] false #[] [] 0 false false false 0 [2000, 10, 10] false 0 true [] [] 0 false)⟩
noncomputable def Sf (w : World) (os : OsState) : Shared := ⟨Hf w.params, ⟨[]⟩, (PySem.Drawn.mk 0 0 0 0), 351, os⟩
theorem pre_ (w : World) (os : OsState) : topGo treeTable PySem.W.Fast.tw11838926927082172486 w 11 ((some (.ref 6))) 12 ⟨boot_heap w.params, ⟨[]⟩, boot_drawn, boot_toks, os⟩ (topStub PySem.W.Fast.tw11838926927082172486) = some (Sa w os, ⟨denote treeTable cT, cT, ⟨0, 0, 0, 0⟩, [topFrame qP]⟩) := by (try rw [PySem.W.Fast.te15667345088766844465]); (try rw [PySem.W.Fast.te14082659384304107361]); (try rw [PySem.W.Fast.te14374325043358763698]); (try rw [PySem.W.Fast.te10110043849684766642]); (try rw [PySem.W.Fast.te14364793385576792824]); (try rw [PySem.W.Fast.te11892475500146522536]); (try rw [PySem.W.Fast.te4187177175401517315]); (try rw [PySem.W.Fast.te5923862056798008813]); (try rw [PySem.W.Fast.te8920871248978507458]); kernel_rfl
theorem block_ (w : World) (os : OsState) : segRun treeTable PySem.W.Fast.tw11838926927082172486 w 11 ((some (.ref 6))) 1 1 (Sa w os) (blockOf (behindTheImports PySem.W.Fast.tw11838926927082172486) envT cT ⟨0, 0, 0, 0⟩ [topFrame qP]) = some (.next, (Sb w os).abs, cT, ⟨0, 0, 0, 0⟩) := by (try rw [PySem.W.Fast.te15667345088766844465]); (try rw [PySem.W.Fast.te14082659384304107361]); (try rw [PySem.W.Fast.te14374325043358763698]); (try rw [PySem.W.Fast.te10110043849684766642]); (try rw [PySem.W.Fast.te14364793385576792824]); (try rw [PySem.W.Fast.te11892475500146522536]); (try rw [PySem.W.Fast.te4187177175401517315]); (try rw [PySem.W.Fast.te5923862056798008813]); (try rw [PySem.W.Fast.te8920871248978507458]); kernel_rfl
noncomputable def sts0 : List Stmt := [topT 0, topT 1, topT 2, topT 3, topT 4, topT 5, topT 6, topT 7, topT 8, topT 9, topT 10, topT 11, topT 12, topT 13, topT 14, topT 15, topT 16, topT 17, topT 18, topT 19, topT 20]
theorem pc0 (w : World) (os : OsState) : segRunT treeTable PySem.W.Fast.tw11838926927082172486 w 11 ((some (.ref 6))) 1 872 (Sb w os) (piecesOf sts0 envT cT ⟨0, 0, 0, 0⟩ [topFrame qP]) = some (.next, S0 w os, cT, ⟨103, 0, 115, 75⟩) := by (try rw [PySem.W.Fast.te15667345088766844465]); (try rw [PySem.W.Fast.te14082659384304107361]); (try rw [PySem.W.Fast.te14374325043358763698]); (try rw [PySem.W.Fast.te10110043849684766642]); (try rw [PySem.W.Fast.te14364793385576792824]); (try rw [PySem.W.Fast.te11892475500146522536]); (try rw [PySem.W.Fast.te4187177175401517315]); (try rw [PySem.W.Fast.te5923862056798008813]); (try rw [PySem.W.Fast.te8920871248978507458]); kernel_rfl
theorem fin_ (w : World) (os : OsState) : topRun treeTable PySem.W.Fast.tw11838926927082172486 w 11 ((some (.ref 6))) 2 (S0 w os).abs ⟨doneF .next, cT, ⟨103, 0, 115, 75⟩, [topFrame qP]⟩ = some (Sf w os) := by (try rw [PySem.W.Fast.te15667345088766844465]); (try rw [PySem.W.Fast.te14082659384304107361]); (try rw [PySem.W.Fast.te14374325043358763698]); (try rw [PySem.W.Fast.te10110043849684766642]); (try rw [PySem.W.Fast.te14364793385576792824]); (try rw [PySem.W.Fast.te11892475500146522536]); (try rw [PySem.W.Fast.te4187177175401517315]); (try rw [PySem.W.Fast.te5923862056798008813]); (try rw [PySem.W.Fast.te8920871248978507458]); kernel_rfl
theorem body_eq : behindTheImports PySem.W.Fast.tw11838926927082172486 = (sts0 ++ []) := by kernel_rfl
theorem run_ (w : World) (os : OsState) : topRun treeTable PySem.W.Fast.tw11838926927082172486 w 11 ((some (.ref 6))) (12 + (1 + (872 + 2))) ⟨boot_heap w.params, ⟨[]⟩, boot_drawn, boot_toks, os⟩ (topStub PySem.W.Fast.tw11838926927082172486) = some (Sf w os) := by
  have h := (piece_app (segRun_of (pc0 w os)) (piece_nil (fin_ w os)))
  rw [← body_eq] at h
  exact go_top (pre_ w os) (piece_block (block_ w os) h)
noncomputable def K (P : Params) : Frag := (nat_lit 2, boot_o_2 P) :: (nat_lit 3, o3_0 P) :: (nat_lit 6, boot_o_6 P) :: (nat_lit 15, o15_0 P) :: (nat_lit 22, o22_0 P) :: (nat_lit 23, o23_0 P) :: (nat_lit 24, o24_0 P) :: (nat_lit 25, o25_0 P) :: (nat_lit 28, o28_0 P) :: (nat_lit 35, o35_0 P) :: (nat_lit 36, o36_0 P) :: (nat_lit 37, o37_0 P) :: (nat_lit 40, o40_0 P) :: (nat_lit 43, o43_0 P) :: (nat_lit 44, o44_0 P) :: (nat_lit 45, o45_0 P) :: (nat_lit 48, o48_0 P) :: (nat_lit 49, o49_0 P) :: (nat_lit 50, o50_0 P) :: (nat_lit 52, o52_0 P) :: (nat_lit 53, o53_0 P) :: (nat_lit 55, o55_0 P) :: (nat_lit 56, o56_0 P) :: (nat_lit 57, o57_0 P) :: (nat_lit 59, o59_0 P) :: (nat_lit 60, o60_0 P) :: (nat_lit 62, o62_0 P) :: (nat_lit 63, o63_0 P) :: (nat_lit 64, o64_0 P) :: (nat_lit 66, o66_0 P) :: (nat_lit 67, o67_0 P) :: (nat_lit 69, o69_0 P) :: (nat_lit 70, o70_0 P) :: (nat_lit 71, o71_0 P) :: (nat_lit 73, o73_0 P) :: (nat_lit 74, o74_0 P) :: (nat_lit 76, o76_0 P) :: (nat_lit 77, o77_0 P) :: (nat_lit 78, o78_0 P) :: (nat_lit 80, o80_0 P) :: (nat_lit 81, o81_0 P) :: (nat_lit 83, o83_0 P) :: (nat_lit 84, o84_0 P) :: (nat_lit 85, o85_0 P) :: (nat_lit 88, o88_0 P) :: (nat_lit 89, o89_0 P) :: (nat_lit 90, o90_0 P) :: (nat_lit 93, o93_0 P) :: (nat_lit 94, o94_0 P) :: (nat_lit 95, o95_0 P) :: (nat_lit 98, o98_0 P) :: (nat_lit 99, o99_0 P) :: (nat_lit 100, o100_0 P) :: (nat_lit 103, o103_0 P) :: (nat_lit 104, o104_0 P) :: (nat_lit 105, o105_0 P) :: (nat_lit 107, o107_0 P) :: (nat_lit 108, o108_0 P) :: (nat_lit 110, o110_0 P) :: (nat_lit 111, o111_0 P) :: (nat_lit 112, o112_0 P) :: (nat_lit 115, o115_0 P) :: (nat_lit 116, o116_0 P) :: (nat_lit 117, o117_0 P) :: (nat_lit 120, o120_0 P) :: (nat_lit 121, o121_0 P) :: (nat_lit 122, o122_0 P) :: (nat_lit 124, o124_0 P) :: (nat_lit 125, o125_0 P) :: (nat_lit 127, o127_0 P) :: (nat_lit 128, o128_0 P) :: []
noncomputable def KA : List Addr := [2, 3, 6, 15, 22, 23, 24, 25, 28, 35, 36, 37, 40, 43, 44, 45, 48, 49, 50, 52, 53, 55, 56, 57, 59, 60, 62, 63, 64, 66, 67, 69, 70, 71, 73, 74, 76, 77, 78, 80, 81, 83, 84, 85, 88, 89, 90, 93, 94, 95, 98, 99, 100, 103, 104, 105, 107, 108, 110, 111, 112, 115, 116, 117, 120, 121, 122, 124, 125, 127, 128]
theorem KA_eq (P : Params) : KA = (K P).map (·.1) := by kernel_rfl
noncomputable def topO (i : Nat) : Stmt := PySem.Challenge.pw_weighwalk_k61_sets.main.body.getD i (.Pass ⟨0, 0, 0, 0⟩)
theorem top_eq : topT = topO := by unfold topT topO; rw [PySem.W.Fast.te11838926927082172486]
noncomputable def qT : Program := { PySem.W.Fast.tw11838926927082172486 with main := { PySem.W.Fast.tw11838926927082172486.main with body := [topT 1, topT 2, topT 4, topT 5, topT 6, topT 7, topT 9, topT 10, topT 11, topT 12, topT 13, topT 14, topT 15, topT 16, topT 17, topT 18, topT 19, topT 20] } }
noncomputable def qO : Program := { PySem.Challenge.pw_weighwalk_k61_sets with main := { PySem.Challenge.pw_weighwalk_k61_sets.main with body := [topO 1, topO 2, topO 4, topO 5, topO 6, topO 7, topO 9, topO 10, topO 11, topO 12, topO 13, topO 14, topO 15, topO 16, topO 17, topO 18, topO 19, topO 20] } }
theorem q_eq : qO = qT := by unfold qO qT; rw [top_eq, PySem.W.Fast.te11838926927082172486]
noncomputable def recs := RowW.records (OpenRow.toRowW (OpenLaw.row PySem.Challenge.rw_weighwalk_k61_sets))
noncomputable abbrev Xt (q : Program) (s : Shared) : Bool := xlAt q [] s && recOk recs s
noncomputable abbrev hook : Hook := kHook K KA KA_eq
theorem size_ (w : World) : ((boot_heap w.params).isNs mainGlobals && (⟨[]⟩ : Array GenState).size == 0, (boot_heap w.params).objs.size, (boot_heap w.params).nsMap mainGlobals "__annotations__") = (true, 11, (some (.ref 6))) := by (try rw [PySem.W.Fast.te15667345088766844465]); (try rw [PySem.W.Fast.te14082659384304107361]); (try rw [PySem.W.Fast.te14374325043358763698]); (try rw [PySem.W.Fast.te10110043849684766642]); (try rw [PySem.W.Fast.te14364793385576792824]); (try rw [PySem.W.Fast.te11892475500146522536]); (try rw [PySem.W.Fast.te4187177175401517315]); (try rw [PySem.W.Fast.te5923862056798008813]); (try rw [PySem.W.Fast.te8920871248978507458]); kernel_rfl
theorem open_ : ∀ w : World, (fencedOpening treeTable PySem.W.Fast.tw11838926927082172486 w 1868).map (fun s => (s.heap, s.gens, s.drawn, s.toks)) = some (boot_heap w.params, ⟨[]⟩, boot_drawn, boot_toks) := boot_open (by kernel_rfl) (by decide) (fun s => by (try rw [PySem.W.Fast.te15667345088766844465]); (try rw [PySem.W.Fast.te14082659384304107361]); (try rw [PySem.W.Fast.te14374325043358763698]); (try rw [PySem.W.Fast.te10110043849684766642]); (try rw [PySem.W.Fast.te14364793385576792824]); (try rw [PySem.W.Fast.te11892475500146522536]); (try rw [PySem.W.Fast.te4187177175401517315]); (try rw [PySem.W.Fast.te5923862056798008813]); (try rw [PySem.W.Fast.te8920871248978507458]); kernel_rfl)
theorem look1 (w : World) (os : OsState) : (staticsOk (importedModules PySem.W.Fast.tw11838926927082172486.main.body) (boot_heap w.params) (Hf w.params) && namesBound PySem.W.Fast.tw11838926927082172486 (Hf w.params) && gensDone (Sf w os) && laidKept (boot_heap w.params) (Hf w.params)) = true := by (try rw [PySem.W.Fast.te15667345088766844465]); (try rw [PySem.W.Fast.te14082659384304107361]); (try rw [PySem.W.Fast.te14374325043358763698]); (try rw [PySem.W.Fast.te10110043849684766642]); (try rw [PySem.W.Fast.te14364793385576792824]); (try rw [PySem.W.Fast.te11892475500146522536]); (try rw [PySem.W.Fast.te4187177175401517315]); (try rw [PySem.W.Fast.te5923862056798008813]); (try rw [PySem.W.Fast.te8920871248978507458]); kernel_rfl
theorem look2 (w : World) (os : OsState) : openSeen qT [] (importedModules PySem.W.Fast.tw11838926927082172486.main.body) (Xt qT) true (Sf w os) = openGood qT [] := by (try rw [PySem.W.Fast.te15667345088766844465]); (try rw [PySem.W.Fast.te14082659384304107361]); (try rw [PySem.W.Fast.te14374325043358763698]); (try rw [PySem.W.Fast.te10110043849684766642]); (try rw [PySem.W.Fast.te14364793385576792824]); (try rw [PySem.W.Fast.te11892475500146522536]); (try rw [PySem.W.Fast.te4187177175401517315]); (try rw [PySem.W.Fast.te5923862056798008813]); (try rw [PySem.W.Fast.te8920871248978507458]); kernel_rfl
theorem look3 (w : World) (os : OsState) : hook.obs (Sf w os) = hook.val w := by kernel_rfl
theorem leftT : LeftO PySem.W.Fast.tw11838926927082172486 qT [] (Xt qT) hook.obs hook.val 1868 := LeftO.of_pieces (H₁ := Hf) open_ size_ run_ (by decide) (fun w => funext fun os => looks_pair (look1 w os) (looks_pair (look2 w os) (look3 w os)))
theorem left : LeftO PySem.Challenge.pw_weighwalk_k61_sets qO [] (Xt qO) hook.obs hook.val 1868 := by have h := leftT; rw [← q_eq, ← PySem.W.Fast.te11838926927082172486] at h; exact h
noncomputable def dO : DefRec := ⟨PySem.Str.ofString "law", L2.defArgs (topO 20), L2.defBody (topO 20), L2.defScope (topO 20), ⟨103, 0, 115, 75⟩⟩
theorem holds_ (said : (OpenLaw.row PySem.Challenge.rw_weighwalk_k61_sets).wellSaid = true) (hw : (OpenLaw.row PySem.Challenge.rw_weighwalk_k61_sets).toRowW.promised) (hc : WalkO qO [] (XL qO []) (Hook.says hook) (OpenLaw.row PySem.Challenge.rw_weighwalk_k61_sets).toRowW dO [] (fun f vs => PySem.call f vs)) : (OpenLaw.row PySem.Challenge.rw_weighwalk_k61_sets).Holds :=
  holds_open (r := (OpenLaw.row PySem.Challenge.rw_weighwalk_k61_sets)) (q := qO) (loose := []) (Xt := Xt qO) (XP := XL qO []) (Yf := hook.obs) (Ya := hook.val) (YP := hook.says) (d := dO) (kwd := []) (N := 1868) left hook.of hook.keeps (fun s e => xl_of s (Bool.and_eq_true_iff.mp e).1) XL.keeps (by kernel_rfl) (by kernel_rfl) (by kernel_rfl) (fun s e => recFacts_of (Bool.and_eq_true_iff.mp e).2) (by kernel_rfl) said (by decide +kernel) ⟨rfl, rfl, rfl, rfl, rfl, by decide +kernel⟩ hw hc
theorem lk_first_set (P : Params) : (K P).lookup 44 = some ⟨(.type PySem.W.SL.s7174869446012820540x8), none, .func (fnOf (PySem.Str.ofString "first_set") (PySem.Str.ofString "first_set") (L2.defArgs (topO 5)) (L2.defBody (topO 5)) (L2.defScope (topO 5)) .none .none .none (.str s37 223) none (.ref 43) .none), #[]⟩ := by rw [← top_eq]; kernel_rfl
theorem lk_next_set (P : Params) : (K P).lookup 49 = some ⟨(.type PySem.W.SL.s7174869446012820540x8), none, .func (fnOf (PySem.Str.ofString "next_set") (PySem.Str.ofString "next_set") (L2.defArgs (topO 6)) (L2.defBody (topO 6)) (L2.defScope (topO 6)) .none .none .none (.str s37 223) none (.ref 48) .none), #[]⟩ := by rw [← top_eq]; kernel_rfl
theorem lk_sets_of (P : Params) : (K P).lookup 56 = some ⟨(.type PySem.W.SL.s7174869446012820540x8), none, .func (fnOf (PySem.Str.ofString "sets_of") (PySem.Str.ofString "sets_of") (L2.defArgs (topO 7)) (L2.defBody (topO 7)) (L2.defScope (topO 7)) .none .none .none (.str s37 223) none (.ref 55) .none), #[]⟩ := by rw [← top_eq]; kernel_rfl
theorem lk__law_state (P : Params) : (K P).lookup 63 = some ⟨(.type PySem.W.SL.s7174869446012820540x8), none, .func (fnOf (PySem.Str.ofString "_law_state") (PySem.Str.ofString "_law_state") (L2.defArgs (topO 9)) (L2.defBody (topO 9)) (L2.defScope (topO 9)) .none .none .none (.str s4 250) none (.ref 62) .none), #[]⟩ := by rw [← top_eq]; kernel_rfl
theorem lk__law_next (P : Params) : (K P).lookup 70 = some ⟨(.type PySem.W.SL.s7174869446012820540x8), none, .func (fnOf (PySem.Str.ofString "_law_next") (PySem.Str.ofString "_law_next") (L2.defArgs (topO 10)) (L2.defBody (topO 10)) (L2.defScope (topO 10)) .none .none .none (.str s4 250) none (.ref 69) .none), #[]⟩ := by rw [← top_eq]; kernel_rfl
theorem lk__law_rooms (P : Params) : (K P).lookup 77 = some ⟨(.type PySem.W.SL.s7174869446012820540x8), none, .func (fnOf (PySem.Str.ofString "_law_rooms") (PySem.Str.ofString "_law_rooms") (L2.defArgs (topO 11)) (L2.defBody (topO 11)) (L2.defScope (topO 11)) .none .none .none (.str s4 250) none (.ref 76) .none), #[]⟩ := by rw [← top_eq]; kernel_rfl
theorem lk__law_letters (P : Params) : (K P).lookup 84 = some ⟨(.type PySem.W.SL.s7174869446012820540x8), none, .func (fnOf (PySem.Str.ofString "_law_letters") (PySem.Str.ofString "_law_letters") (L2.defArgs (topO 12)) (L2.defBody (topO 12)) (L2.defScope (topO 12)) .none .none .none (.str s4 250) none (.ref 83) .none), #[]⟩ := by rw [← top_eq]; kernel_rfl
theorem lk__law_truths (P : Params) : (K P).lookup 89 = some ⟨(.type PySem.W.SL.s7174869446012820540x8), none, .func (fnOf (PySem.Str.ofString "_law_truths") (PySem.Str.ofString "_law_truths") (L2.defArgs (topO 13)) (L2.defBody (topO 13)) (L2.defScope (topO 13)) .none .none .none (.str s4 250) none (.ref 88) .none), #[]⟩ := by rw [← top_eq]; kernel_rfl
theorem lk__law_machine (P : Params) : (K P).lookup 94 = some ⟨(.type PySem.W.SL.s7174869446012820540x8), none, .func (fnOf (PySem.Str.ofString "_law_machine") (PySem.Str.ofString "_law_machine") (L2.defArgs (topO 14)) (L2.defBody (topO 14)) (L2.defScope (topO 14)) .none .none .none (.str s4 250) none (.ref 93) .none), #[]⟩ := by rw [← top_eq]; kernel_rfl
theorem lk__law_first (P : Params) : (K P).lookup 99 = some ⟨(.type PySem.W.SL.s7174869446012820540x8), none, .func (fnOf (PySem.Str.ofString "_law_first") (PySem.Str.ofString "_law_first") (L2.defArgs (topO 15)) (L2.defBody (topO 15)) (L2.defScope (topO 15)) .none .none .none (.str s4 250) none (.ref 98) .none), #[]⟩ := by rw [← top_eq]; kernel_rfl
theorem lk__law_after (P : Params) : (K P).lookup 104 = some ⟨(.type PySem.W.SL.s7174869446012820540x8), none, .func (fnOf (PySem.Str.ofString "_law_after") (PySem.Str.ofString "_law_after") (L2.defArgs (topO 16)) (L2.defBody (topO 16)) (L2.defScope (topO 16)) .none .none .none (.str s4 250) none (.ref 103) .none), #[]⟩ := by rw [← top_eq]; kernel_rfl
theorem lk__law_all_sets (P : Params) : (K P).lookup 111 = some ⟨(.type PySem.W.SL.s7174869446012820540x8), none, .func (fnOf (PySem.Str.ofString "_law_all_sets") (PySem.Str.ofString "_law_all_sets") (L2.defArgs (topO 17)) (L2.defBody (topO 17)) (L2.defScope (topO 17)) .none .none .none (.str s4 250) none (.ref 110) .none), #[]⟩ := by rw [← top_eq]; kernel_rfl
theorem lk__law_key (P : Params) : (K P).lookup 116 = some ⟨(.type PySem.W.SL.s7174869446012820540x8), none, .func (fnOf (PySem.Str.ofString "_law_key") (PySem.Str.ofString "_law_key") (L2.defArgs (topO 18)) (L2.defBody (topO 18)) (L2.defScope (topO 18)) .none .none .none (.str s4 250) none (.ref 115) .none), #[]⟩ := by rw [← top_eq]; kernel_rfl
theorem lk__law_walked (P : Params) : (K P).lookup 121 = some ⟨(.type PySem.W.SL.s7174869446012820540x8), none, .func (fnOf (PySem.Str.ofString "_law_walked") (PySem.Str.ofString "_law_walked") (L2.defArgs (topO 19)) (L2.defBody (topO 19)) (L2.defScope (topO 19)) .none .none .none (.str s4 250) none (.ref 120) .none), #[]⟩ := by rw [← top_eq]; kernel_rfl
theorem lk_law (P : Params) : (K P).lookup 128 = some ⟨(.type PySem.W.SL.s7174869446012820540x8), none, .func (fnOf (PySem.Str.ofString "law") (PySem.Str.ofString "law") (L2.defArgs (topO 20)) (L2.defBody (topO 20)) (L2.defScope (topO 20)) .none .none .none (.str s4 250) none (.ref 127) .none), #[]⟩ := by rw [← top_eq]; kernel_rfl
end H61

set_option maxHeartbeats 4000000
/-! Own rules beside the layer: great ints, isinstance, a class without its own __init__, data compared. -/
namespace L2
open PySem PySem.Spec PyProof.Rows PySem.SeqAt
section
variable {X : Cx}
def CMulB (i j : Int) : Prop := Builtin.Int.intBits i ≤ 2 ^ 20 ∧ Builtin.Int.intBits j ≤ 2 ^ 20
theorem op_mulB : OpR X (binaryOp .Mult) (rI CMulB fun i j => .int (i * j)) := opI fun _ _ _ _ _ _ _ hc q => mul_int q (PySem.IntMulOk.of_bits hc.1 hc.2)
def CDivB (_ j : Int) : Prop := j ≠ 0 ∧ j.natAbs.log2 < 9000
theorem op_fdivB : OpR X (binaryOp .FloorDiv) (rI CDivB fun i j => .int (i.fdiv j)) := opI fun _ _ _ _ _ _ _ hc q => floordiv_int hc.1 q (Or.inl (PyProof.noPylong_of_log2 hc.2))
/-- isinstance(x, n), n the name of a built-in type -/
def rIsi (K : PySem.W.Frag) : List V → Hp → VK → Prop := fun xs H Q => ∃ x n t b, xs = [x, .ty n] ∧ TyOf K H x t ∧ PySem.W.kitOne K t (.type n) = some b ∧ Q (.bl b) H
theorem call_isi : CallR X (.builtin "isinstance") (rIsi X.K) := by
  intro pins s σ H xs us Q I r h
  obtain ⟨x, n, t, b, rfl, ty, e, q⟩ := h
  cases r with
  | cons rx r1 =>
    cases r1 with
    | cons ry r2 =>
      cases r2
      cases ry
      exact isinst_ok I rx ty e fun tk => ⟨.bl b, H, I.tok _, rfl, q⟩
/-- a class that has no __init__ of its own -/
structure MkO (K : PySem.W.Frag) (C : Addr) : Prop where
  makes : PySem.W.makesIn K C = true
  init : PySem.W.findIn K (.ref C) "__init__" = some (some (.builtin "object.__init__"))
  kp : PySem.W.keepIn K (.ref C) = true
def tMakeO (C : Addr) : TE := fun _ H Q => ∀ x dx, H x = none → H dx = none → dx ≠ x → Q (.ref x) (upd (upd H dx (.own x)) x (.ins C dx []))
theorem pe_makeO {C : Addr} {x : Str} {p pos : Pos} (M : MkO X.K C) (hg : Gl X x) (hm : X.mg x = some (.ref C)) (hdb : (x == ("__debug__" : Str)) = false := by decide) : PE X (.Call (.Name x p) [] [] pos) (tMakeO C) := by
  intro pins s σ H Q I h
  refine wpAny_Call_Name_kw (ld_glob I hg hm ?_ hdb)
  refine PySem.W.callWith_K0 I.kIn M.kp ?_
  have hq := h (s.heap.objs.size + 1) s.heap.objs.size (I.hok.fresh (Nat.le_succ _)) (I.hok.fresh (Nat.le_refl _)) (Nat.ne_of_lt (Nat.lt_succ_self _))
  have I2 := Inv.made (C := C) I
  have Y := PySem.W.makes_of (M := model X.prog X.w) I.kIn M.makes
  refine wpAny_call (make_map0 I.kIn M.makes M.init (fun self => PySem.W.Looks.of_pure (PySem.W.oi_bind self)) ?_)
  have t1 : PySem.W.Looks (model X.prog X.w) ((s.heap.push PySem.W.emptyDict).push (PySem.W.instObj C s.heap.objs.size)) (typeOf (.ref (s.heap.objs.size + 1))) (.ref C) :=
    (PySem.W.Looks.ld (o := PySem.W.instObj C s.heap.objs.size) (by have e : ((s.heap.push PySem.W.emptyDict).push (PySem.W.instObj C s.heap.objs.size)).get? (s.heap.push PySem.W.emptyDict).objs.size = some (PySem.W.instObj C s.heap.objs.size) := Heap.get?_push_size _ rfl; rw [Heap.size_push] at e; exact e)).andThen .now
  have t2 : PySem.W.Looks (model X.prog X.w) ((s.heap.push PySem.W.emptyDict).push (PySem.W.instObj C s.heap.objs.size)) (isInstance (.ref (s.heap.objs.size + 1)) (.type "object")) true :=
    t1.andThen (Y.top.keeps fun b o e => Heap.get?_push_of_some _ (Heap.get?_push_of_some _ e))
  refine PySem.codeAny_call_builtin PySem.W.oi_plain PySem.W.entry_oi (@PySem.W.check_slot (model X.prog X.w) _ _ _ "object.__init__" "object" "__init__" (.ref (s.heap.objs.size + 1)) [] [] _ PySem.W.oi_kind PySem.W.oi_split t2 (PySem.W.oi_args (.ref (s.heap.objs.size + 1))) ?_)
  rw [PySem.W.oi_run]
  exact wpAny_pure (And.intro rfl ⟨V.ref (s.heap.objs.size + 1), _, I2, rfl, hq⟩)
end
/-! data -/
mutual
inductive Is (K : PySem.W.Frag) (H : Hp) : V → PyData → Prop
  | non : Is K H .non .none
  | bl (b : Bool) : Is K H (.bl b) (.bool b)
  | int (i : Int) : Is K H (.int i) (.int i)
  | str (x : Str) : Is K H (.str x) (.str x)
  | tup {a : Addr} {xs : List V} {ds : List PyData} : SqT K H a xs → IsAll K H xs ds → Is K H (.ref a) (.tuple ds)
  | lst {a : Addr} {xs : List V} {ds : List PyData} : SqL K H a xs → IsAll K H xs ds → Is K H (.ref a) (.list ds)
inductive IsAll (K : PySem.W.Frag) (H : Hp) : List V → List PyData → Prop
  | nil : IsAll K H [] []
  | cons {v : V} {vs : List V} {d : PyData} {ds : List PyData} : Is K H v d → IsAll K H vs ds → IsAll K H (v :: vs) (d :: ds)
end
theorem Same.tup {K : PySem.W.Frag} {H H' : Hp} {a : Addr} {xs : List V} (e : Same H H') (h : SqT K H a xs) : SqT K H' a xs := by
  rcases h with (h | ⟨o, h⟩) | h
  · exact .inl (.inl (e _ _ h))
  · exact .inl (.inr ⟨o, e _ _ h⟩)
  · exact .inr h
mutual
theorem Is.same {K : PySem.W.Frag} {H H' : Hp} (e : Same H H') : ∀ {v : V} {d : PyData}, Is K H v d → Is K H' v d
  | _, _, .non => .non
  | _, _, .bl b => .bl b
  | _, _, .int i => .int i
  | _, _, .str x => .str x
  | _, _, .tup h r => .tup (e.tup h) (IsAll.same e r)
  | _, _, .lst h r => .lst (e.seq h) (IsAll.same e r)
theorem IsAll.same {K : PySem.W.Frag} {H H' : Hp} (e : Same H H') : ∀ {v : List V} {d : List PyData}, IsAll K H v d → IsAll K H' v d
  | _, _, .nil => .nil
  | _, _, .cons a r => .cons (Is.same e a) (IsAll.same e r)
end
section
variable {X : Cx} {pins : List (Addr × Obj)} {σ : St} {H : Hp} {s : Shared}
mutual
theorem Is.reads (I : Inv X pins σ H s) : ∀ {v : V} {d : PyData} {u : Value}, Is X.K H v d → RelV v u → ∃ as, Reads s.heap u d as
  | _, _, _, .non, r => by cases r; exact ⟨_, .none⟩
  | _, _, _, .bl b, r => by cases r; exact ⟨_, .bool b⟩
  | _, _, _, .int i, r => by obtain ⟨t, rfl⟩ := r; exact ⟨_, .int i t⟩
  | _, _, _, .str x, r => by obtain ⟨t, rfl⟩ := r; exact ⟨_, .str x t⟩
  | _, _, _, .tup h a, r => by
    cases r
    obtain ⟨its, rv, ⟨o, ho, hc, n, hd⟩, _⟩ := I.tuple h
    obtain ⟨as, hr⟩ := IsAll.reads I a rv
    exact ⟨as, .tuple ho hc hd (by simpa using hr)⟩
  | _, _, _, .lst h a, r => by
    cases r
    obtain ⟨its, rv, ⟨o, n, ho, hc, _, hd⟩, _⟩ := I.list h
    obtain ⟨as, hr⟩ := IsAll.reads I a rv
    exact ⟨_, .list ho hc hd (by simpa using hr)⟩
theorem IsAll.reads (I : Inv X pins σ H s) : ∀ {vs : List V} {ds : List PyData} {us : List Value}, IsAll X.K H vs ds → Vals vs us → ∃ as, ReadsAll s.heap us ds as
  | _, _, _, .nil, .nil => ⟨_, .nil⟩
  | _, _, _, .cons a r, .cons q t => by
    obtain ⟨as, h1⟩ := Is.reads I a q
    obtain ⟨bs, h2⟩ := IsAll.reads I r t
    exact ⟨_, .cons h1 h2⟩
end
def rEqD (K : PySem.W.Frag) : R2 := fun x y H Q => ∃ d d', Is K H x d ∧ Is K H y d' ∧ shaped d = true ∧ shaped d' = true ∧ noMix d d' = true ∧ Q (.bl (PySem.Spec.same d d')) H
def rNeD (K : PySem.W.Frag) : R2 := fun x y H Q => ∃ d d', Is K H x d ∧ Is K H y d' ∧ shaped d = true ∧ shaped d' = true ∧ noMix d d' = true ∧ Q (.bl (!PySem.Spec.same d d')) H
theorem op_eqD (hu : X.A.units + 64 < cLine) : OpR X (compareOp .Eq) (rEqD X.K) := by
  intro pins s σ H x y v u Q I rx ry h
  obtain ⟨d, d', hx, hy, sx, sy, nm, q⟩ := h
  obtain ⟨as, ra⟩ := hx.reads I rx
  obtain ⟨bs, rb⟩ := hy.reads I ry
  exact eq_dataH_same ra rb sx sy hu nm ⟨.bl _, H, I, rfl, q⟩
theorem op_neD (hu : X.A.units + 64 < cLine) : OpR X (compareOp .NotEq) (rNeD X.K) := by
  intro pins s σ H x y v u Q I rx ry h
  obtain ⟨d, d', hx, hy, sx, sy, nm, q⟩ := h
  obtain ⟨as, ra⟩ := hx.reads I rx
  obtain ⟨bs, rb⟩ := hy.reads I ry
  exact ne_dataH_same ra rb sx sy hu nm ⟨.bl _, H, I, rfl, q⟩
end
/-! tests -/
theorem iteI {i j : Int} {A B : Prop} (h1 : i = j → A) (h2 : ¬ i = j → B) : if decide (V.int i = V.int j) = true then A else B := by
  by_cases h : i = j
  · rw [if_pos (decide_eq_true (congrArg V.int h))]; exact h1 h
  · rw [if_neg (by simpa using h)]; exact h2 h
theorem iteNI {i j : Int} {A B : Prop} (h1 : ¬ i = j → A) (h2 : i = j → B) : if (!decide (V.int i = V.int j)) = true then A else B := by
  by_cases h : i = j
  · rw [if_neg (by simpa using h)]; exact h2 h
  · rw [if_pos (by simpa using h)]; exact h1 h
theorem iteP {p A B : Prop} [Decidable p] (h1 : p → A) (h2 : ¬ p → B) : if decide p = true then A else B := by
  by_cases h : p
  · rw [if_pos (decide_eq_true h)]; exact h1 h
  · rw [if_neg (by simpa using h)]; exact h2 h
theorem iteYes {c : Bool} {A B : Prop} (e : c = true) (h : A) : if c = true then A else B := by rw [if_pos e]; exact h
theorem iteNo {c : Bool} {A B : Prop} (e : c = false) (h : B) : if c = true then A else B := by rw [if_neg (by rw [e]; decide)]; exact h
theorem same_upd {H : Hp} {p : Addr} {o : HO} (h : H p = none) : Same H (upd H p o) := fun b u e => by
  rw [upd_ne (ne_of_none e h)]; exact e
end L2
/-! Exceptions over the layer: raise C('..'), calls that may raise, try .. except C as e. -/
namespace L2
open PySem PySem.Spec PyProof.Rows
section
variable {P : Program} {w : World} {H H' : Hp} {h h' : Heap}
theorem HOk.there (x : HOk P w H h) {a : Addr} {o : HO} (e : H a = some o) : ∃ ob, h.get? a = some ob := by
  have y := x a o e
  clear e x
  induction o with
  | lst xs => obtain ⟨_, its, n, r, e⟩ := y; exact ⟨_, e⟩
  | tup xs => obtain ⟨_, its, r, ob, e, c⟩ := y; exact ⟨_, e⟩
  | dK kvs => obtain ⟨_, _, vs, r, ob, es, ep, e, c⟩ := y; exact ⟨_, e⟩
  | dT kvs => obtain ⟨_, _, xs, r, ob, es, ep, e, c⟩ := y; exact ⟨_, e⟩
  | set S n => obtain ⟨ob, es, ep, t, e, c⟩ := y; exact ⟨_, e⟩
  | ins C dx fs => obtain ⟨d, z, ne, e, _⟩ := y; exact ⟨_, e⟩
  | own y' => exact y
  | xd fs => obtain ⟨mA, ⟨od, es, ep, e, c⟩, r⟩ := y; exact ⟨_, e⟩
  | rng lo hi => obtain ⟨t, u, v, e⟩ := y; exact ⟨_, e⟩
  | frz ob u ih => exact ⟨_, y.1⟩
  | tbl ps => exact ⟨_, y⟩
  | met f y' => exact ⟨_, y⟩
  | ext φ => exact y.2.1
theorem HOk.nothing (x : HOk P w H h) {a : Addr} (n : h.get? a = none) : H a = none := by
  cases q : H a with
  | none => rfl
  | some o => obtain ⟨ob, e⟩ := x.there q; rw [n] at e; cases e
/-- what is not tracked may change -/
theorem HOk.loose (x : HOk P w H h) (k : ∀ b u, H b ≠ none → h.get? b = some u → h'.get? b = some u) : HOk P w H h' := fun a o e =>
  (x a o e).stay (fun b u hb q => k b u (by
    rcases hb with z | z
    · rw [z, e]; exact nofun
    · rw [z]; exact nofun) q) (fun _ q => q) fun _ _ q => q
/-- an exception of the own class at C, with its traceback's head, in flight -/
def XT (h : Heap) (a T C : Addr) : Prop := ∃ oe vs a0 oT ts, h.get? a = some oe ∧ (oe.cls = .ref C ∧ vs[0]? = some a0) ∧ oe.data = .fields vs ∧ vs[1]? = some (.ref T) ∧ T ≠ a ∧ h.get? T = some oT ∧ oT.data = .fields ts ∧ ts[3]? = some .none
structure Fly (P : Program) (w : World) (fs : List Addr) (H H' : Hp) (s s' : Shared) (a T C : Addr) : Prop where
  os : s'.os = s.os
  bare : AllBare s'.gens
  un : Un fs [] H H' s.heap s'.heap
  hok : HOk P w H' s'.heap
  xt : XT s'.heap a T C
  na : s.heap.get? a = none
  nT : s.heap.get? T = none
  ha : H' a = none
  hT : H' T = none
/-- how an exception lies behind a call -/
def CX1 (P : Program) (w : World) : CXT := fun outer H s E e s' => ∃ a T C H', e = .ref a ∧ Fly P w (frs outer) H H' s s' a T C ∧ E (.ref C) none H'
theorem funs_rebase {h base base' : Heap} : ∀ {l : List Env}, h.FunFrames base l → (∀ b ∈ frs l, base'.get? b = none) → h.FunFrames base' l
  | [], _, _ => trivial
  | env :: r, ⟨k, ⟨L, o, hf, _, ho, hd⟩, t⟩, hb => ⟨k, ⟨L, o, hf, hb L (by unfold frs; rw [List.filterMap_cons, hf]; exact List.mem_cons_self), ho, hd⟩,
      funs_rebase t fun b hm => hb b (by unfold frs; rw [List.filterMap_cons, hf]; exact List.mem_cons_of_mem _ hm)⟩
abbrev hid (h : Heap) (a T : Addr) (fs : List Addr) : Heap := PySem.W.hideAll h (a :: T :: fs)
end
section
variable {P : Program} {w : World} {H H' : Hp} {s s' : Shared} {a T C : Addr} {l : List Env} {base0 : Heap}
theorem Fly.base (F : Fly P w (frs l) H H' s s' a T C) (ff : s'.heap.FunFrames base0 l) : ∃ a0, Heap.FlyingW (hid s'.heap a T (frs l)) l a (.ref C) a0 s'.heap := by
  obtain ⟨oe, vs, a0, oT, ts, e1, e2, e3, e4, e5, e6, e7, e8⟩ := F.xt
  exact ⟨a0, fun b o e => PySem.W.of_hideAll _ e, PySem.W.hideAll_none _ (by simp), funs_rebase ff fun b hb => PySem.W.hideAll_none _ (by simp [hb]),
    oe, vs, T, oT, ts, e1, e2, e3, e4, PySem.W.hideAll_none _ (by simp), e5, e6, e7, e8⟩
theorem Fly.back {l' : List Env} {h' : Heap} {a0 : Value} {tk : Nat} (F : Fly P w (frs l) H H' s s' a T C) (ff : s'.heap.FunFrames base0 l) (fH : ∀ b ∈ frs l, H' b = none)
    (fl : Heap.FlyingW (hid s'.heap a T (frs l)) l' a (.ref C) a0 h') (up : s'.heap.UpToSlots h') : ∃ T', Fly P w (frs l) H H' s { s' with heap := h', toks := tk } a T' C := by
  obtain ⟨k1, _, _, oe, vs, T', oT, ts, e1, e2, e3, e4, e0, e5, e6, e7, e8⟩ := fl
  have keep : ∀ b o, s'.heap.get? b = some o → b ≠ a → b ≠ T → b ∉ frs l → h'.get? b = some o := fun b o e n1 n2 n3 => k1 b o (PySem.W.hideAll_get _ e (by simp [n1, n2, n3]))
  have slot : ∀ b o, s'.heap.get? b = some o → b ∈ frs l → (∃ sl, h'.get? b = some { o with slots := sl }) ∧ ∀ vs, o.data ≠ .fields vs := fun b o e hb => by
    obtain ⟨_, o1, q1, q2⟩ := ff.mem hb
    rw [e] at q1; cases q1
    exact ⟨up b o e q2, q2⟩
  have nf : T' ∉ frs l := fun hb => by
    obtain ⟨_, o1, q1, q2⟩ := ff.mem hb
    obtain ⟨sl, q3⟩ := up _ o1 q1 q2
    rw [e6] at q3; cases q3
    exact q2 _ e7
  have tt : T' = T ∨ s'.heap.get? T' = none := by
    by_cases z : T' = T
    · exact .inl z
    · right
      cases q : s'.heap.get? T' with
      | none => rfl
      | some o =>
        have := PySem.W.hideAll_get (a :: T :: frs l) q (by simp [e5, z, nf])
        rw [e0] at this; cases this
  have hT' : H' T' = none := by
    rcases tt with z | z
    · rw [z]; exact F.hT
    · exact F.hok.nothing z
  have nT' : s.heap.get? T' = none := by
    rcases tt with z | z
    · rw [z]; exact F.nT
    · cases q : s.heap.get? T' with
      | none => rfl
      | some o =>
        obtain ⟨o', q'⟩ := F.un.there _ o q (by simp)
        rw [z] at q'; cases q'
  have ne : ∀ b o, s.heap.get? b = some o → b ≠ a ∧ b ≠ T := fun b o e => ⟨(fun z => by rw [z, F.na] at e; cases e), (fun z => by rw [z, F.nT] at e; cases e)⟩
  refine ⟨T', F.os, F.bare, ⟨fun b o e n hb hx => ?_, fun b o e n hb hx => ?_, F.un.free, fun b o e hx => ?_, F.un.tups, F.un.frzs, F.un.tbls⟩, F.hok.loose fun b u hb e => ?_, ⟨oe, vs, a0, oT, ts, e1, e2, e3, e4, e5, e6, e7, e8⟩, F.na, nT', F.ha, hT'⟩
  · exact keep b o (F.un.keep b o e n hb hx) (ne b o e).1 (ne b o e).2 hb
  · obtain ⟨sl, q⟩ := F.un.slot b o e n hb hx
    obtain ⟨⟨sl', q'⟩, _⟩ := slot b _ q hb
    exact ⟨sl', q'⟩
  · obtain ⟨o', q⟩ := F.un.there b o e hx
    by_cases hb : b ∈ frs l
    · obtain ⟨⟨sl, q'⟩, _⟩ := slot b o' q hb
      exact ⟨_, q'⟩
    · exact ⟨o', keep b o' q (ne b o e).1 (ne b o e).2 hb⟩
  · exact keep b u e (fun z => hb (z ▸ F.ha)) (fun z => hb (z ▸ F.hT)) fun z => hb (fH b z)
/-- the exception itself is tracked -/
def ExcO (a C : Addr) : HO := .ext fun h => ∃ o, h.get? a = some o ∧ o.cls = .ref C
theorem Fly.un' (F : Fly P w (frs l) H H' s s' a T C) : Un (frs l) [] H (upd H' a (ExcO a C)) s.heap s'.heap where
  keep := F.un.keep
  slot := F.un.slot
  free := fun b o e n hx => by rw [upd_ne (fun z => by rw [z, F.na] at e; cases e)]; exact F.un.free b o e n hx
  there := F.un.there
  tups := fun b xs e => by have := F.un.tups b xs e; rw [upd_ne (ne_of_none this F.ha)]; exact this
  frzs := fun b o u e => by have := F.un.frzs b o u e; rw [upd_ne (ne_of_none this F.ha)]; exact this
  tbls := fun b ps e => by obtain ⟨m, q⟩ := F.un.tbls b ps e; exact ⟨m, by rw [upd_ne (ne_of_none q F.ha)]; exact q⟩
theorem Fly.hok' (F : Fly P w (frs l) H H' s s' a T C) : HOk P w (upd H' a (ExcO a C)) s'.heap := fun b o e => by
  by_cases z : b = a
  · subst z
    rw [upd_same] at e; cases e
    obtain ⟨oe, vs, a0, oT, ts, e1, e2, _⟩ := F.xt
    exact ⟨⟨oe, e1, e2.1⟩, ⟨oe, e1⟩, fun h1 h2 ⟨o, q1, q2⟩ k => ⟨o, k o q1, q2⟩⟩
  · rw [upd_ne z] at e
    exact (F.hok b o e).stay (fun _ _ _ q => q) (fun c q => by rw [upd_ne (ne_of_none q F.ha)]; exact q) fun c xs q => by rw [upd_ne (ne_of_none q F.ha)]; exact q
end

/-! ### in a body -/
/-- an exception at an expression: names and pins are as they were -/
def XP (X : Cx) (pins : List (Addr × Obj)) (σ : St) (E : XK) (e : Value) (s' : Shared) : Prop := ∃ s H, Inv X pins σ H s ∧ CX1 X.prog X.w X.stack H s E e s'
/-- X is the context of a def's body, whose exceptions are wanted as E -/
structure Thru (X : Cx) (E : XK) : Prop where
  stk : X.stack = X.env :: X.outer
  fr : X.env.frame = some X.env.locals
  ex : X.ex = []
  xe : X.xe = fun e s' => wpAny (model X.prog X.w) X.A (leaving X.env e) (fun _ s'' => CX1 X.prog X.w X.outer X.H₀ X.s₀ E e s'') (fun e' s'' => CX1 X.prog X.w X.outer X.H₀ X.s₀ E e' s'') s'
section
variable {X : Cx} {pins : List (Addr × Obj)} {σ : St} {H : Hp} {s s' : Shared} {E : XK} {e : Value}
theorem Fly.inv {H' : Hp} {a T C : Addr} (I : Inv X pins σ H s) (F : Fly X.prog X.w (frs X.stack) H H' s s' a T C) : Inv X pins σ H' s' := I.call' F.os F.un F.hok F.bare (ch := []) (fun _ z => absurd z (by simp))
theorem Fly.inv' {H' : Hp} {a T C : Addr} (I : Inv X pins σ H s) (F : Fly X.prog X.w (frs X.stack) H H' s s' a T C) : Inv X pins σ (upd H' a (ExcO a C)) s' := I.call' F.os F.un' F.hok' F.bare (ch := []) (fun _ z => absurd z (by simp))
/-- from one frame to the frame that called it -/
theorem Fly.out {H' : Hp} {a T C : Addr} (R : Thru X E) (I : Inv X pins σ H s) (F : Fly X.prog X.w (frs X.stack) H H' s s' a T C) (q : E (.ref C) none H') : CX1 X.prog X.w X.outer X.H₀ X.s₀ E (.ref a) s' := by
  have fsub : ∀ b ∈ frs X.outer, b ∈ frs X.stack := fun b hb => by rw [R.stk]; unfold frs; rw [List.filterMap_cons, R.fr]; exact List.mem_cons_of_mem _ hb
  have u0 : Un (frs X.stack) [] X.H₀ H X.s₀.heap s.heap := I.base.mono fsub (by rw [R.ex]; simp)
  have u1 := u0.trans F.un
  have neL : ∀ b o, X.s₀.heap.get? b = some o → b ≠ X.env.locals := fun b o e => Nat.ne_of_lt (Nat.lt_of_lt_of_le (Heap.lt_size e) I.ok.above)
  have nin : ∀ b o, X.s₀.heap.get? b = some o → b ∉ frs X.outer → b ∉ frs X.stack := fun b o e hb hm => by
    rw [R.stk] at hm
    unfold frs at hm
    rw [List.filterMap_cons, R.fr] at hm
    rcases List.mem_cons.mp hm with z | z
    · exact neL b o e z
    · exact hb z
  have none0 : ∀ b, s.heap.get? b = none → X.s₀.heap.get? b = none := fun b n => by
    cases q : X.s₀.heap.get? b with
    | none => rfl
    | some o =>
      obtain ⟨o', q'⟩ := I.base.there b o q (by rw [R.ex]; simp)
      rw [n] at q'; cases q'
  exact ⟨a, T, C, H', rfl, ⟨F.os.trans I.os, F.bare, ⟨fun b o e n hb hx => u1.keep b o e n (nin b o e hb) hx, fun b o e n hb hx => u1.slot b o e n (fsub b hb) hx, u1.free, u1.there, u1.tups, u1.frzs, u1.tbls⟩, F.hok, F.xt, none0 a F.na, none0 T F.nT, F.ha, F.hT⟩, q⟩
/-- an exception that came from a callee leaves this def -/
theorem XP.leave (R : Thru X E) (x : XP X pins σ E e s') : X.xe e s' := by
  obtain ⟨s, H, I, a, T, C, H', rfl, F, q⟩ := x
  have J := F.inv I
  obtain ⟨a0, fl⟩ := F.base J.stack
  rw [R.xe]
  rw [R.stk] at fl
  refine wpAny_leaves_onW (J.ok.frames.trans (by rw [R.stk])) R.fr fl fun h' fl' up => ?_
  rw [← R.stk] at fl'
  obtain ⟨T', F'⟩ := F.back (tk := s'.toks) J.stack J.stkFree fl' up
  exact F'.out R I q
/-- an exception that was made in this def leaves it -/
theorem made_leave {h' : Heap} {a C : Addr} {vs : List Value} (R : Thru X E) (I : Inv X pins σ H s) (m : Heap.MadeExcOf s.heap h' a (.ref C) vs) (q : E (.ref C) none H) : X.xe (.ref a) { s with heap := h' } := by
  have J : Inv X pins σ H { s with heap := h' } := I.kept (t' := s.toks) m.keeps
  obtain ⟨t, he, htn, ht⟩ := m.there
  have ha : H a = none := I.hok.nothing m.new
  rw [R.xe]
  have ff : h'.FunFrames (hid h' a a (frs X.stack)) X.stack := funs_rebase J.stack fun b hb => PySem.W.hideAll_none _ (by simp [hb])
  have ff' : h'.FunFrames (hid h' a a (frs X.stack)) (X.env :: X.outer) := by
    have z := J.stack
    rw [R.stk] at z
    exact funs_rebase z fun b hb => PySem.W.hideAll_none _ (by rw [R.stk]; simp [hb])
  refine wpAny_leaving_firstW (a0 := .ref t) (base := hid h' a a (frs X.stack)) (J.ok.frames.trans (by rw [R.stk])) ff' R.fr he (fun b o e => PySem.W.of_hideAll _ e) (PySem.W.hideAll_none _ (by simp)) rfl rfl rfl fun h2 hL => ?_
  obtain ⟨k1, _, ⟨oe, ws, T', oT, ts, e1, e2, e3, e4, e0, e5, e6, e7, e8⟩, k4⟩ := hL
  have ffm : ∀ b ∈ frs X.stack, ∃ o, h'.get? b = some o ∧ ∀ vs, o.data ≠ .fields vs := fun b hb => (ff.mem hb).2
  have keep : ∀ b o, h'.get? b = some o → b ≠ a → b ∉ frs X.stack → h2.get? b = some o := fun b o e n1 n3 => k1 b o (PySem.W.hideAll_get _ e (by simp [n1, n3]))
  have nf : T' ∉ frs X.stack := fun hb => by
    obtain ⟨o1, q1, q2⟩ := ffm _ hb
    obtain ⟨sl, q3⟩ := k4 _ o1 q1 q2
    rw [e6] at q3; cases q3
    exact q2 _ e7
  have nT : h'.get? T' = none := by
    cases q : h'.get? T' with
    | none => rfl
    | some o =>
      have := PySem.W.hideAll_get (a :: a :: frs X.stack) q (by simp [e5, nf])
      rw [e0] at this; cases this
  have ne : ∀ b o, s.heap.get? b = some o → b ≠ a := fun b o e z => by rw [z, m.new] at e; cases e
  have F' : Fly X.prog X.w (frs X.stack) H H s { s with heap := h2 } a T' C := by
    refine ⟨rfl, I.bare, ⟨fun b o e n hb hx => keep b o (m.keeps b o e) (ne b o e) hb, fun b o e n hb hx => ?_, fun _ _ _ n _ => n, fun b o e hx => ?_, fun _ _ e => e, fun _ _ _ e => e, fun b ps e => ⟨#[], by rw [e]; simp⟩⟩, J.hok.loose fun b u hb e => keep b u e (fun z => hb (z ▸ ha)) fun z => hb (J.stkFree b z),
      ⟨oe, ws, _, oT, ts, e1, e2, e3, e4, e5, e6, e7, e8⟩, m.new, ?_, ha, J.hok.nothing nT⟩
    · obtain ⟨o1, q1, q2⟩ := ffm b hb
      have q3 := m.keeps b o e
      rw [q1] at q3; cases q3
      exact k4 b _ q1 q2
    · by_cases hb : b ∈ frs X.stack
      · obtain ⟨o1, q1, q2⟩ := ffm b hb
        obtain ⟨sl, q3⟩ := k4 b o1 q1 q2
        exact ⟨_, q3⟩
      · exact ⟨o, keep b o (m.keeps b o e) (ne b o e) hb⟩
    · cases q : s.heap.get? T' with
      | none => rfl
      | some o => rw [m.keeps _ o q] at nT; cases nT
  exact F'.out R I q
end
end L2
/-! ### rules -/
namespace L2
open PySem PySem.Spec PyProof.Rows
/-- a class of errors of the text under ValueError -/
abbrev bmV : List Value := [.type "ValueError", .type "Exception", .type "BaseException", .type "object"]
theorem excIn_obj {K : PySem.W.Frag} {h : Heap} {C : Addr} {bmB : List Value} {newId : String} (X : K.In h) (q : PySem.W.excIn K C bmB newId = true) :
    ∃ bm N nm q bs hdct sn sub ab col dd k0 k1 k2 k3 k5 mN, h.get? C = some (excClassObj nm q C N bs bm hdct sn sub ab col dd k0 k1 k2 k3 k5 newId) ∧ h.Ns N mN ∧ mN "__init__" = none ∧ OwnTail h bmB bm := by
  unfold PySem.W.excIn at q
  split at q
  · rename_i dd cd sl ho
    split at q
    · rename_i C' bm k0 k1 k2 k3 n k5 hm hs
      simp only [Bool.and_eq_true, beq_iff_eq, Bool.not_eq_true'] at q
      obtain ⟨⟨⟨⟨⟨rfl, rfl⟩, hdel⟩, ht⟩, hok⟩, hni⟩ := q
      obtain ⟨nm, bs, mro, ns, qn, hd, sn, sub, ab, col, del⟩ := cd
      dsimp only at hm hdel hok hni
      subst hm hdel
      have hsl : sl = #[k0, k1, k2, k3, some (.builtin n), k5] := by
        obtain ⟨l⟩ := sl
        simp only at hs
        rw [hs]
      subst hsl
      exact ⟨bm, ns, nm, qn, bs, hd, sn, sub, ab, col, dd, k0, k1, k2, k3, k5, _, X _ _ ho, .of_isNs (PySem.W.isNs_of_in X hok), PySem.W.nsMap_none_of_in X hok hni, PySem.W.tail_of_in X ht⟩
    · cases q
  · cases q
theorem FnOk.quiet {P : Program} {w : World} {K : PySem.W.Frag} {mg : Str → Option Value} {base : Heap} {k : Nat} {f : Addr} {fd : FuncData} {ps : List Str} {sp : Sp} (F : FnOk P w K mg base (CX1 P w) k f fd ps sp) :
    FnOk P w K mg base CX0 k f fd ps (fun vs H Q _ => sp vs H Q E0) :=
  ⟨fun vs H Q _ h => F.len vs H Q E0 h, fun A outer s H args us vs Q E hr e0 hb r h => codeAny_mono (F.run A outer s H args us vs Q E0 hr e0 hb r h) fun r s' hq => by
    cases r with
    | error e => obtain ⟨_, _, _, _, _, _, z⟩ := hq; exact z.elim
    | ok fl => cases fl <;> exact hq⟩
theorem FnOk.loud {P : Program} {w : World} {K : PySem.W.Frag} {mg : Str → Option Value} {base : Heap} {k : Nat} {f : Addr} {fd : FuncData} {ps : List Str} {sp : Sp} (F : FnOk P w K mg base CX0 k f fd ps sp) : FnOk P w K mg base (CX1 P w) k f fd ps sp :=
  ⟨F.len, fun A outer s H args us vs Q E hr e0 hb r h => codeAny_mono (F.run A outer s H args us vs Q E hr e0 hb r h) fun r s' hq => by
    cases r with
    | error e => exact hq.elim
    | ok fl => cases fl <;> exact hq⟩
section
variable {P : Program} {w : World} {K : PySem.W.Frag} {mg : Str → Option Value} {base : Heap}
theorem Fun.okx {x qual : Str} {st : Stmt} {f : Addr} {fd : FuncData} {N ps : List Str} {k : Nat} {sp : Sp} (F : Fun K x qual st f fd) (S : FnScope N ps (defScope st)) (len : ∀ vs H Q E, sp vs H Q E → vs.length = ps.length)
    (hbody : ∀ (cdv : Value) (A : Around) (outer : List Env) (s : Shared) (H : Hp) (vs : List V) (Q : VK) (E : XK), Room k (A.deeper (envOfC qual (defScope st) s.heap.objs.size f cdv)) → sp vs H Q E →
      ∃ t, PSs (cxOf (CX1 P w) P w K mg base N qual (defScope st) f cdv A outer s H E) (defBody st) t ∧ t { nx := fun _ H' => Q .non H', rt := Q } (start N vs) H) : FnOk P w K mg base (CX1 P w) (k + 1) f fd ps sp := by
  obtain ⟨oc, od, kV, doc, pm, an, cdv, ct, osl, rfl, lk, hcd⟩ := F.ex
  exact fn_of lk hcd S len fun A outer s H vs Q E hr hsp => hbody cdv A outer s H vs Q E hr hsp
theorem Thru.own {X : Cx} {E : XK} (R : Thru X E) : PassesOwn (model X.prog X.w) X.A X.env X.xe := by rw [R.xe]; exact PassesOwn.leaving
theorem thru_cx {N : List Str} {qual : Str} {scope : Scope} {f : Addr} {cd : Value} {A : Around} {outer : List Env} {s : Shared} {H : Hp} {E : XK} : Thru (cxOf (CX1 P w) P w K mg base N qual scope f cd A outer s H E) E := ⟨rfl, rfl, rfl, rfl⟩
end
abbrev TX := St → Hp → VK → XK → Prop
abbrev TSX := Ends → XK → St → Hp → Prop
/-- an expression that may raise -/
def PEX (X : Cx) (e : Expr) (t : TX) : Prop :=
  ∀ (pins : List (Addr × Obj)) (s : Shared) (σ : St) (H : Hp) (Q : VK) (E : XK), Inv X pins σ H s → t σ H Q E → wpAny (model X.prog X.w) X.A (eval e X.env) (EP X pins σ Q) (XP X pins σ E) s
def PSX (X : Cx) (st : Stmt) (t : TSX) : Prop :=
  ∀ (pins : List (Addr × Obj)) (s : Shared) (σ : St) (H : Hp) (D : Ends) (E : XK), Inv X pins σ H s → t D E σ H → wpAny (model X.prog X.w) X.A (exec st X.env) (SP X pins D) (XP X pins σ E) s
def PSXs (X : Cx) (st : List Stmt) (t : TSX) : Prop :=
  ∀ (pins : List (Addr × Obj)) (s : Shared) (σ : St) (H : Hp) (D : Ends) (E : XK), Inv X pins σ H s → t D E σ H → wpAny (model X.prog X.w) X.A (execs st X.env) (SP X pins D) (XP X pins σ E) s
section
variable {X : Cx} {k : Nat} {f C : Addr} {fd : FuncData} {ps : List Str} {sp : Sp} {dvs : List V} {ds : List Value} {E : XK} {x m : Str} {p np cpos pos apos : Pos} {e o : Expr} {es : List Expr} {ta : TE} {t : TA} {tx : TX}
/-- in a def's body: it leaves the def -/
theorem PEX.thru (R : Thru X E) (h : PEX X e tx) : PE X e (fun σ H Q => tx σ H Q E) := fun pins s σ H Q I q => wpAny_mono (h pins s σ H Q E I q) (fun _ _ z => z) fun _ _ z => z.leave R
theorem run_fnX {pins : List (Addr × Obj)} {σ : St} {H : Hp} {s : Shared} {Q : VK} {us : List Value} {vs : List V} (F : FnOk X.prog X.w X.K X.mg X.base (CX1 X.prog X.w) k f fd ps sp) (hr : Room k X.A) (hb : Binds X.K fd ps ds) (hd : Vals dvs ds)
    (I : Inv X pins σ H s) (r : Vals vs us) (h : sp (vs ++ dvs) H Q E) : wpAny (model X.prog X.w) X.A (call (.ref f) us) (EP X pins σ Q) (XP X pins σ E) s := by
  have r2 : Vals (vs ++ dvs) (us ++ ds) := r.append hd
  have hl : (us ++ ds).length = ps.length := by rw [← r2.length]; exact F.len _ _ _ _ h
  refine wpAny_call (codeAny_mono (F.run X.A X.stack s H ⟨us, []⟩ (us ++ ds) (vs ++ dvs) Q E hr I.env0 (hb s us I.kIn hl) r2 h) fun r s' hq => ?_)
  cases r with
  | error e => exact ⟨s, H, I, hq⟩
  | ok fl =>
    cases fl with
    | ret u => exact I.after hq
    | next => exact False.elim hq
    | brk => exact False.elim hq
    | cont => exact False.elim hq
theorem px_call (F : FnOk X.prog X.w X.K X.mg X.base (CX1 X.prog X.w) k f fd ps sp) (hr : Room k X.A) (hg : Gl X x) (hm : X.mg x = some (.ref f)) (hk : PySem.W.keepIn X.K (.ref f) = true) (hb : Binds X.K fd ps ds) (hd : Vals dvs ds)
    (ha : PA X.nox (e :: es) t) (hdb : (x == ("__debug__" : Str)) = false := by decide) (he : starEach (e :: es) X.env = (false, eval e X.env) :: starEach es X.env := by rfl) (hpl : (backTo pos (starEach es X.env)).any (·.1) = false := by rfl) :
    PEX X (.Call (.Name x p) (e :: es) [] pos) (fun σ H Q E => tCall sp dvs E t σ H Q) := by
  intro pins s σ H Q E I h
  refine wpAny_Call_Name_kw (ld_glob I hg hm ?_ hdb)
  exact PySem.W.callWith_K (h₀ := X.base) I.ok.mod.kin hk (wpAny_mono (ha pos pins s σ H _ (I.wish _) h) (fun us s1 ⟨vs, H1, I1, r, q⟩ => ⟨I1.unwish.kIn, run_fnX F hr hb hd I1.unwish r q⟩) fun _ _ z => z.elim) he hpl
theorem px_meth {pl : Sem Bool} (he : PE X.nox o ta) (c : Cls X.K C) (hm : Meth X.K C m f) (F : FnOk X.prog X.w X.K X.mg X.base (CX1 X.prog X.w) k f fd ps sp) (hr : Room k X.A) (hb : Binds X.K fd ps ds) (hd : Vals dvs ds) (ha : PA X.nox (e :: es) t)
    (hst : starEach (e :: es) X.env = (false, eval e X.env) :: starEach es X.env := by rfl) (hpl : (backTo pos (starEach es X.env)).any (·.1) = false := by rfl)
    (ht : eval (.Call (.Attribute o m apos) (e :: es) [] pos) X.env = (do
      let ov ← eval o X.env
      standAt apos.atName
      let (f, first) ← holding [ov] (getMethod ov m pl)
      callWith pos f first (backTo pos (starEach (e :: es) X.env)) (backToKw pos (keywordEach [] X.env))) := by rfl) :
    PEX X (.Call (.Attribute o m apos) (e :: es) [] pos) (fun σ H Q E => tMeth C m sp dvs E ta t σ H Q) := by
  intro pins s σ H Q E I h
  refine PySem.W.methodCall_KW (pl := pl) (wpAny_mono (he pins s σ H _ (I.wish _) h) (fun u s1 ⟨x, H1, I1, rx, a, dx, fs, ex, ea, l, q⟩ => ?_) fun _ _ z => z.elim) ht
  subst ex
  obtain rfl : u = Value.ref a := rx
  refine getmeth_ok I1.unwish ea c hm l ?_
  exact PySem.W.callWith_K (first := [.ref a]) (h₀ := X.base) I.ok.mod.kin hm.kp (wpAny_mono (ha pos pins s1 σ H1 _ I1 q) (fun us s2 ⟨vs, H2, I2, r, q2⟩ => ⟨I2.unwish.kIn, run_fnX (us := .ref a :: us) (vs := .ref a :: vs) F hr hb hd I2.unwish (.cons rfl r) q2⟩) fun _ _ z => z.elim) hst hpl
theorem px_make (M : Mk X.K C f) (F : FnOk X.prog X.w X.K X.mg X.base (CX1 X.prog X.w) k f fd ps sp) (hr : Room (k + 1) X.A) (hg : Gl X x) (hm : X.mg x = some (.ref C)) (hb : Binds X.K fd ps ds) (hd : Vals dvs ds)
    (ha : PA X.nox (e :: es) t) (hdb : (x == ("__debug__" : Str)) = false := by decide) (he : starEach (e :: es) X.env = (false, eval e X.env) :: starEach es X.env := by rfl) (hpl : (backTo pos (starEach es X.env)).any (·.1) = false := by rfl) :
    PEX X (.Call (.Name x p) (e :: es) [] pos) (fun σ H Q E => tMake C sp dvs E t σ H Q) := by
  intro pins s σ H Q E I h
  refine wpAny_Call_Name_kw (ld_glob I hg hm ?_ hdb)
  refine PySem.W.callWith_K (h₀ := X.base) I.ok.mod.kin M.kp (wpAny_mono (ha pos pins s σ H _ (I.wish _) h) (fun us s1 ⟨vs, H1, I1', r, h1⟩ => ⟨I1'.unwish.kIn, ?_⟩) fun _ _ z => z.elim) he hpl
  have I1 : Inv X pins σ H1 s1 := I1'.unwish
  have hq := h1 (s1.heap.objs.size + 1) s1.heap.objs.size (I1.hok.fresh (Nat.le_succ _)) (I1.hok.fresh (Nat.le_refl _)) (Nat.ne_of_lt (Nat.lt_succ_self _))
  have I2 := Inv.made (C := C) I1
  have r2 : Vals (V.ref (s1.heap.objs.size + 1) :: (vs ++ dvs)) (Value.ref (s1.heap.objs.size + 1) :: (us ++ ds)) := .cons rfl (r.append hd)
  have hl : (Value.ref (s1.heap.objs.size + 1) :: us ++ ds).length = ps.length := by
    have e := r2.length
    rw [F.len _ _ _ _ hq] at e
    exact e.symm
  refine wpAny_call (make_map (f := f) I1.kIn M.makes M.init (beq_iff_eq.mp M.fn) (codeAny_mono (F.run _ X.stack _ _ ⟨Value.ref (s1.heap.objs.size + 1) :: us, []⟩ (Value.ref (s1.heap.objs.size + 1) :: (us ++ ds)) _ _ E (hr.make C us [])
    (I2.env0.make C us []) (hb _ (Value.ref (s1.heap.objs.size + 1) :: us) I2.kIn hl) r2 hq) fun r s' hq' => ?_))
  cases r with
  | error e => exact ⟨_, _, I2, hq'⟩
  | ok fl =>
    cases fl with
    | ret u =>
      obtain ⟨v, H', I3, rv, ev, q3⟩ := I2.after hq'
      subst ev
      exact ⟨rv, ⟨V.ref (s1.heap.objs.size + 1), H', I3, rfl, q3⟩⟩
    | next => exact False.elim hq'
    | brk => exact False.elim hq'
    | cont => exact False.elim hq'
/-- raise C(e, ..) -/
def tRaise (E : XK) (C : Addr) (t : TA) : TS := fun _ σ H => t σ H fun vs H1 => vs.length ≤ sizeLine ∧ E (.ref C) none H1
theorem ps_raise (R : Thru X E) (hc : X.calm = true) (q : PySem.W.excIn X.K C bmV "ValueError.__new__" = true) (hg : Gl X x) (hm : X.mg x = some (.ref C)) (ha : PA X.nox (e :: es) t)
    (hdb : (x == ("__debug__" : Str)) = false := by decide) (he : starEach (e :: es) X.env = (false, eval e X.env) :: starEach es X.env := by rfl) (hpl : (backTo cpos (starEach es X.env)).any (·.1) = false := by rfl) :
    PS X (.Raise (some (.Call (.Name x np) (e :: es) [] cpos)) none pos) (tRaise E C t) := by
  intro pins s σ H D I h
  obtain ⟨bm, N, nm, qn, bs, hdct, sn, sub, ab, col, dd, k0, k1, k2, k3, k5, mN, hC, hN, hni, T⟩ := excIn_obj I.mod.kin q
  have hh : X.A.handled = none := I.ok.hd hc
  have ev := ha cpos pins s σ H _ (I.wish _) h
  refine wpAny_Raise_call_subU (C := C) (nm := nm) (q := qn) (N := N) (bs := bs) (bm := bm) (hdct := hdct) (sn := sn) (sub := sub) (ab := ab) (col := col) (dd := dd) (k0 := k0) (k1 := k1) (k2 := k2) (k3 := k3) (k5 := k5)
    PySem.F.excBase_ValueError (by decide) PySem.F.excBase_ValueError (mN := mN) (T.hasType PySem.F.excBase_ValueError.hasBase) hh (by rw [he]; show (false || (backTo cpos (starEach es X.env)).any (·.1)) = false; rw [hpl]; rfl) hni (ld_glob I hg hm ⟨rfl, ?_⟩ hdb)
  rw [he]
  change wpAny _ _ (spliced (backTo cpos (starEach (e :: es) X.env))) _ _ _ at ev
  rw [he] at ev
  refine Calls.evalArgs_plain (wpAny_mono ev (fun us s2 ⟨vs, H1, I1, r, hl, q2⟩ => ?_) fun _ _ z => z.elim)
  have J : Inv X pins σ H1 s2 := I1.unwish
  exact ⟨rfl, by rw [← r.length]; exact hl, J.bk _ _ hC, hN.keeps J.bk, T.keeps J.bk, fun h' a m => made_leave R J m q2⟩
end
end L2

/-! ### try .. except C as e -/
namespace L2
open PySem PySem.Spec PyProof.Rows
/-- the suite of an except clause: the exception at a is handled; none leaves -/
abbrev Cx.caught (X : Cx) (a : Addr) : Cx := { X with A := X.A.mark (some (.ref a)), calm := false, xe := fun _ _ => False }
section
variable {X : Cx} {pins : List (Addr × Obj)} {σ : St} {H : Hp} {s : Shared} {a : Addr}
theorem Inv.catch (I : Inv X pins σ H s) (a : Addr) : Inv (X.caught a) pins σ H s :=
  ⟨⟨I.ok.mod, I.ok.kind, I.ok.glob, I.ok.blt, I.ok.above, I.ok.inj, I.ok.has, I.ok.cab, (fun z => by cases z), I.ok.frames, I.ok.stk, I.ok.exf, I.ok.bs, I.ok.bsz, I.ok.noex, I.ok.exfs, I.ok.funs, I.ok.frf⟩, I.os, I.bare, I.base, I.loc, I.cell, I.free, I.freeC, I.pin, I.hok, I.len⟩
theorem Inv.uncatch (ok : X.Ok) (I : Inv (X.caught a) pins σ H s) : Inv X pins σ H s := ⟨ok, I.os, I.bare, I.base, I.loc, I.cell, I.free, I.freeC, I.pin, I.hok, I.len⟩
/-- a name is unbound -/
theorem Inv.unset {i : Nat} {n : Str} {m : Str → Option Value} {v : Option Value} {h' : Heap} {tk : Nat} (I : Inv X pins σ H s) (hN : X.N.Nodup) (hi : X.N[i]? = some n) (hk : X.env.kindOf n = some .local)
    (hl : ∀ (j : Nat) (x : Str) (v : V), X.N[j]? = some x → σ[j]? = some (some v) → Vis X.env.scope x → ∃ u, RelV v u ∧ Look X.env s.heap m x u)
    (hn' : h'.Ns X.env.locals (fun x => if x = n then v else m x)) (hs : Heap.SameBut X.env.locals s.heap h') : Inv X pins (σ.set i none) H { s with heap := h', toks := tk } := by
  have cne := I.cne
  have hiσ : i < σ.length := by rw [I.len]; exact (List.getElem?_eq_some_iff.mp hi).1
  have nb : ∀ b o, X.s₀.heap.get? b = some o → b ≠ X.env.locals := fun b o e => Nat.ne_of_lt (Nat.lt_of_lt_of_le (Heap.lt_size e) I.ok.above)
  refine ⟨I.ok, I.os, I.bare, ⟨fun b o e n hb hx => ?_, fun b o e n hb hx => ?_, I.base.free, fun b o e hx => ?_, I.base.tups, I.base.frzs, I.base.tbls⟩, ⟨_, hn', fun j y v' e1 e2 e3 => ?_⟩, fun y c e => ?_, I.free, I.freeC, fun p hp => ?_, I.hok.loose fun b u hb e => ?_, by simpa using I.len⟩
  · exact (hs.2 b (nb b o e)).trans (I.base.keep b o e n hb hx)
  · obtain ⟨sl, e1⟩ := I.base.slot b o e n hb hx
    exact ⟨sl, (hs.2 b (nb b o e)).trans e1⟩
  · obtain ⟨o', e1⟩ := I.base.there b o e hx
    exact ⟨o', (hs.2 b (nb b o e)).trans e1⟩
  · by_cases hj : j = i
    · subst hj
      rw [List.getElem?_set_self hiσ] at e2
      cases e2
    · rw [List.getElem?_set_ne (Ne.symm hj)] at e2
      obtain ⟨u', r', q⟩ := hl j y v' e1 e2 e3
      refine ⟨u', r', ?_⟩
      rcases q with ⟨k, e⟩ | ⟨k, c, e, z⟩
      · refine .inl ⟨k, ?_⟩
        have : y ≠ n := fun e => hj (nodup_ix hN e1 (e ▸ hi))
        simp [this, e]
      · exact .inr ⟨k, c, e, z.sameBut hs (cne y c e)⟩
  · obtain ⟨w', z⟩ := I.cell y c e
    exact ⟨w', z.sameBut hs (cne y c e)⟩
  · obtain ⟨e, n, ne, nf, d⟩ := I.pin p hp
    exact ⟨(hs.2 p.1 ne).trans e, n, ne, nf, d⟩
  · exact (hs.2 b fun z => hb (z ▸ I.free)).trans e
end
/-- behind the suite the name is gone -/
abbrev Ends.gone (D : Ends) (i : Nat) : Ends := { nx := fun σ H => D.nx (σ.set i none) H, rt := D.rt, bk := fun σ H => D.bk (σ.set i none) H, ct := fun σ H => D.ct (σ.set i none) H }
def tTry (K : PySem.W.Frag) (Cc : Addr) (i : Nat) (tb : TSX) (ts : TS) : TS := fun D σ H => tb D (fun cls _ H' => ∃ C, cls = .ref C ∧ PySem.W.exmOne K (.ref C) (.ref Cc) = some true ∧
  ∀ a, H' a = none → ts (D.gone i) (σ.set i (some (.ref a))) (upd H' a (ExcO a C))) σ H
section
variable {X : Cx} {e : Expr} {te : TE} {tx : TX} {pos : Pos} {st : Stmt} {t u : TSX}
theorem psx_one (h : PSX X st t) : PSXs X [st] t := by
  intro pins s σ H D E I q
  refine wpAny_execs_cons (thn (h pins s σ H D E I q) fun f s1 q => ?_)
  cases f with
  | next => exact wpAny_execs_nil q
  | ret v => exact q
  | brk => exact q
  | cont => exact q
theorem psx_expr (he : PEX X e tx) (hs : swapsWith e none pos.line X.env = pure false := by rfl) : PSX X (.Expr e pos) (fun D E σ H => tx σ H (fun _ H1 => D.nx σ H1) E) := by
  intro pins s σ H D E I h
  exact wpAny_Expr_any (thn (he pins s σ H _ E I h) fun v s1 ⟨x, H1, I1, r1, q1⟩ => ⟨σ, H1, I1, q1⟩) I.quiet hs
theorem psx_ret (he : PEX X e tx) : PSX X (.Return (some e) pos) (fun D E σ H => tx σ H D.rt E) := by
  intro pins s σ H D E I h
  exact wpAny_Return_some (thn (he pins s σ H _ E I h) fun v s1 ⟨x, H1, I1, r1, q1⟩ => ⟨x, σ, H1, I1, r1, q1⟩)
theorem psx_set {i : Nat} {x : Str} {pos' : Pos} (hN : X.N.Nodup) (hi : X.N[i]? = some x) (hx : Loc X.env.scope x) (he : PEX X e tx) (hs : swapsWith e (some (.Name x pos')) pos.line X.env = pure false := by rfl)
    (hf : X.fn x = true ∨ X.env.scope.names.lookup x = some .local := by first | exact .inl rfl | exact .inr rfl | assumption) : PSX X (.Assign [.Name x pos'] e pos) (fun D E σ H => tx σ H (fun v H1 => D.nx (σ.set i (some v)) H1) E) := by
  intro pins s σ H D E I h
  refine wpAny_Assign_Name (thn (he pins s σ H _ E I h) fun v s1 ⟨y, H1, I1, r1, q1⟩ => ?_) hs
  exact store_ok I1 hN hi hx r1 (fun s2 I2 => ⟨_, H1, I2, q1⟩) hf
theorem psx_if {c : Expr} {a b : List Stmt} {tc : TT} (hc : PT X.nox c tc) (ha : PSXs X a t) (hb : PSXs X b u) : PSX X (.If c a b pos) (fun D E σ H => tc σ H fun k H1 => if k = true then t D E σ H1 else u D E σ H1) := by
  intro pins s σ H D E I h
  refine wpAny_If (wpAny_mono (hc pins s σ H _ (I.wish _) h) (fun d s1 ⟨H1, I1, q1⟩ => ?_) fun _ _ z => z.elim)
  cases d with
  | true => exact ha pins s1 σ H1 D E I1.unwish q1
  | false => exact hb pins s1 σ H1 D E I1.unwish q1
theorem ps_try {body : List Stmt} {c n : Str} {np hpos : Pos} {b₀ : Stmt} {suite : List Stmt} {Cc : Addr} {i : Nat} {ts : TS} (hb : PSXs X body t) (stk : X.stack = X.env :: X.outer) (fr : X.env.frame = some X.env.locals)
    (hN : X.N.Nodup) (hi : X.N[i]? = some n) (hk : X.env.kindOf n = some .local) (hg : Gl X c) (hm : X.mg c = some (.ref Cc)) (hs : ∀ a, PSs (X.caught a) (b₀ :: suite) ts)
    (hdb : (c == ("__debug__" : Str)) = false := by decide) : PS X (.Try body [.ExceptHandler (some (.Name c np)) (some n) (b₀ :: suite) hpos] [] [] pos) (tTry X.K Cc i t ts) := by
  intro pins s σ H D I h
  refine wpAny_Try_except (wpAny_mono (hb pins s σ H D _ I h) (fun f s1 q => ?_) fun e s1 q => ?_)
  · cases f with
    | next => exact wpAny_execs_nil q
    | ret v => exact q
    | brk => exact q
    | cont => exact q
  · obtain ⟨s0, H0, I0, a, T, C, H', rfl, F, C', eC, hx, hq⟩ := q
    cases eC
    have J := F.inv I0
    obtain ⟨a0, fl⟩ := F.base J.stack
    have hfr : X.A.frames = some (X.env :: X.outer) := J.ok.frames.trans (by rw [stk])
    have fl1 := fl
    rw [stk] at fl1
    refine wpAny_looks_onW hfr fr fl1 fun h1 held up1 => ?_
    refine wpAny_landsW held fun h2 fl2 up2 => ?_
    have fl2' := fl2
    rw [← stk] at fl2'
    obtain ⟨T2, F2⟩ := F.back (tk := s1.toks) J.stack J.stkFree fl2' (up1.trans up2)
    have J2 : Inv X pins σ H' { s1 with heap := h2, toks := s1.toks } := F2.inv I0
    obtain ⟨oe, vs, b0, oT, tsx, e1, e2, _⟩ := F2.xt
    have LT : PySem.W.Looks (model X.prog X.w) h2 (typeOf (.ref a)) (.ref C) := e2.1 ▸ (PySem.W.Looks.ld e1).andThen .now
    refine wpAny_handleBy_cons (codeAny_handlers_test (ld_glob (X := X.caught a) (s := { s1 with heap := h2, toks := s1.toks }) (J2.catch a) hg hm ?_ hdb)) (by intro q; cases q)
    refine (PySem.W.exm_one (M := model X.prog X.w) J2.kIn LT hx).here ?_
    refine codeAny_handlers_suite_as ?_
    refine lands_againW fl2 fun h3 fl3 up3 => ?_
    have fl3' := fl3
    rw [← stk] at fl3'
    obtain ⟨T3, F3⟩ := F.back (tk := s1.toks) J.stack J.stkFree fl3' ((up1.trans up2).trans up3)
    have J3 : Inv X pins σ (upd H' a (ExcO a C)) { s1 with heap := h3, toks := s1.toks } := F3.inv' I0
    refine store_ok (X := X) (v := .ref a) J3 hN hi (.inl hk) rfl (fun s4 J4 => ?_) (.inr hk)
    refine wpAny_mono (hs a pins s4 _ _ (D.gone i) (J4.catch a) (hq a F.ha)) (fun fl s5 q => ?_) fun _ _ z => z.elim
    have cl : (X.env.scope.kind == .class || (X.env.scope.kind == .module && X.env.locals != X.env.globals)) = false := by rw [I.ok.kind]; rfl
    cases fl with
    | next =>
      obtain ⟨σ', H5, I5, q5⟩ := q
      have K5 := I5.uncatch I.ok
      obtain ⟨m, hn, hl⟩ := id K5.loc
      exact wpAny_nameGoes_keeps hk hn cl fun h' v hn' hs' => ⟨_, H5, K5.unset hN hi hk hl hn' hs', q5⟩
    | brk =>
      obtain ⟨σ', H5, I5, q5⟩ := q
      have K5 := I5.uncatch I.ok
      obtain ⟨m, hn, hl⟩ := id K5.loc
      exact wpAny_nameGoes_keeps hk hn cl fun h' v hn' hs' => ⟨_, H5, K5.unset hN hi hk hl hn' hs', q5⟩
    | cont =>
      obtain ⟨σ', H5, I5, q5⟩ := q
      have K5 := I5.uncatch I.ok
      obtain ⟨m, hn, hl⟩ := id K5.loc
      exact wpAny_nameGoes_keeps hk hn cl fun h' v hn' hs' => ⟨_, H5, K5.unset hN hi hk hl hn' hs', q5⟩
    | ret u =>
      obtain ⟨vr, σ', H5, I5, rv, q5⟩ := q
      have K5 := I5.uncatch I.ok
      obtain ⟨m, hn, hl⟩ := id K5.loc
      exact wpAny_nameGoes_keeps hk hn cl fun h' v hn' hs' => ⟨vr, _, H5, K5.unset hN hi hk hl hn' hs', rv, q5⟩
end
end L2

/-! ### isinstance of a caught exception -/
namespace Mine
open PySem PySem.W PySem.Spec PySem.Calls PyProof.Rows
section
variable {prog : Program} {w : World} {A : Around} {E : Value → Shared → Prop} {s : Shared} {K : Frag} {x D : Addr} {o : Obj} {c : Value}
theorem check_ga {M : Model} {nameV : Value} {Q : Unit → Shared → Prop} (X : K.In s.heap) (L0 : Looks M s.heap (typeOf (.ref x)) (.ref D)) (hb : mroIn K D (.type "BaseException") = some true) (hq : Q () s) :
    wpAny M A (checkBuiltinCall "BaseException.__getattribute__" ⟨[.ref x, nameV], []⟩) Q E s := by
  obtain ⟨hh, g, d, t, os⟩ := s
  have hk : builtinKind "BaseException.__getattribute__" = some .slot := by decide +kernel
  have hsplit : splitId "BaseException.__getattribute__" = some ("BaseException", "__getattribute__") := by decide +kernel
  have LB := looks_mroIn (M := M) X hb
  have ha := PySem.F.args_bexc_ga (.ref x) nameV
  have LI : Looks M hh (isInstance (.ref x) (.type "BaseException")) true := L0.andThen LB
  simp only [checkBuiltinCall, hk, hsplit]
  refine wpAny_bind (LI.at ?_)
  repeat (any_goals (first | assumption | wp_step))
open Builtin Builtin.Getset_descriptor in
/-- the getter of `__class__`, for any object whose class is known by a look -/
theorem class_get1 {R : Result → Shared → Prop} {tp : Value} (X : K.In s.heap) (L0 : ∀ M : Model, Looks M s.heap (typeOf (.ref x)) (.ref D)) (hm : mroIn K D (.type "object") = some true)
    (hR : R (.ok (.ret (.ref D))) s) : codeAny (model prog w) A (.call (.builtin "getset_descriptor.__get__") ⟨[.builtin "object.__class__", .ref x, tp], []⟩) R s := by
  rcases s with ⟨hp, gn, dn, tk, os⟩
  have look := L0 (model prog w)
  have above := looks_mroIn (M := model prog w) X hm
  have known := KF.slot_gs.check (model prog w) A.in1
  have kind : (⟨hp, gn, dn, tk, os⟩ : Shared).TypeIs (.builtin "object.__class__") "getset_descriptor" := KF.type_class
  apply codeAny_call_builtin KF.slot_gs.plain KF.entry_gs
  apply known _ _ _ _ _ _ kind (KF.args_gs _ _ _)
  delta Builtin.«getset_descriptor.__get__» descrGet
  rw [dga_obj]
  apply wpAny_bind
  apply wpAny_pure
  delta descrGetter descrCheckInstance descrNameAndClass isInstance
  simp only [KF.owner_class]
  repeat lk
  constructor
  · exact Code.quiet_builtin _ (by decide +kernel)
  · apply codeAny_builtin KF.entry_class
    delta Builtin.«object.__class__» shownTypeOf
    repeat lk
    exact hR
theorem class_entry {nm : Tok} {Q : Fin → Shared → Prop} (X : K.In s.heap) (L0 : ∀ M : Model, Looks M s.heap (typeOf (.ref x)) (.ref D)) (ha : findIn K (.ref D) "__class__" = some (some (.builtin "object.__class__")))
    (hm : mroIn K D (.type "object") = some true) (hq : Q (.done (.ret (.ref D))) s) :
    wpAny (model prog w) A (Builtin.«object.__getattribute__» ⟨[.ref x, .str "__class__" nm], []⟩) Q E s := by
  obtain ⟨hh, g, d, t, os⟩ := s
  have L1 := L0 (model prog w)
  have L3 := looks_findIn (M := model prog w) X ha
  have f5 := KF.type_class
  have f6 := PySem.F.slot_gs_get.lookup
  have f7 := PySem.F.slot_gs_set.lookup
  repeat (any_goals (first | assumption | with_reducible refine wpAny_bind (L1.at ?_) | with_reducible refine L1.at ?_ | with_reducible refine wpAny_bind (L3.at ?_) | with_reducible refine L3.at ?_ | wp_step))
  refine class_get1 (D := D) X L0 hm ?_
  repeat (any_goals (first | assumption | wp_step))
theorem class_call {nm : Tok} {R : Result → Shared → Prop} (X : K.In s.heap) (L0 : ∀ M : Model, Looks M s.heap (typeOf (.ref x)) (.ref D)) (ha : findIn K (.ref D) "__class__" = some (some (.builtin "object.__class__")))
    (hm : mroIn K D (.type "object") = some true) (hb : mroIn K D (.type "BaseException") = some true) (hq : R (.ok (.ret (.ref D))) s) :
    codeAny (model prog w) A (.call (.builtin "BaseException.__getattribute__") ⟨[.ref x, .str "__class__" nm], []⟩) R s :=
  codeAny_call_builtin PySem.F.attr_ValueError.ga.plain PySem.F.entry_bexc_ga (check_ga X (L0 _) hb (class_entry X L0 ha hm hq))
theorem exc_class {Q : Option Value → Shared → Prop} (X : K.In s.heap) (L0 : ∀ M : Model, Looks M s.heap (typeOf (.ref x)) (.ref D))
    (hga : findIn K (.ref D) "__getattribute__" = some (some (.builtin "BaseException.__getattribute__"))) (hgt : findIn K (.ref D) "__getattr__" = some none) (ha : findIn K (.ref D) "__class__" = some (some (.builtin "object.__class__")))
    (hm : mroIn K D (.type "object") = some true) (hb : mroIn K D (.type "BaseException") = some true) (h : Q (some (.ref D)) { s with toks := s.toks + 1 }) :
    wpAny (model prog w) A (getAttr? (.ref x) "__class__") Q E s := by
  obtain ⟨hh, g, d, t, os⟩ := s
  have L1 := L0 (model prog w)
  have L2 := looks_findIn (M := model prog w) X hga
  have L3 := looks_findIn (M := model prog w) X hgt
  have f3 := PySem.F.attr_ValueError.ga.bind (.ref x)
  have hx2 : (Value.builtin "BaseException.__getattribute__" == Value.builtin "object.__getattribute__") = false := by decide +kernel
  have hx1 : (onTheHeap (Value.ref D) && Value.builtin "BaseException.__getattribute__" == Value.builtin "object.__getattribute__") = false := by rw [hx2]; rfl
  have hx0 : (false && onTheHeap (Value.builtin "BaseException.__getattribute__")) = false := rfl
  unfold getAttr? getAttrBy? getAttrBy
  refine wpAny_bind (wpAny_mkText (wpAny_bind (wpAny_attempt (wpAny_holding (wpAny_bind (L1.at (wpAny_bind (L2.at ?_))))))))
  simp only [hx1]
  repeat (any_goals (first | assumption | with_reducible refine wpAny_bind (L1.at ?_) | with_reducible refine L1.at ?_ | with_reducible refine wpAny_bind (L3.at ?_) | with_reducible refine L3.at ?_ | wp_step))
  refine class_call (D := D) (s := ⟨hh, g, d, t + 1, os⟩) X (fun M => L0 M) ha hm hb ?_
  show wpAny (model prog w) A (handedOut (Value.ref D)) _ _ _
  exact handed_on rfl (wpAny_pure h)
def ExcAt (x D : Addr) (h : Heap) : Prop := ∃ o, h.get? x = some o ∧ o.cls = .ref D
theorem excAt_ty {M : Model} {h : Heap} (p : ExcAt x D h) : Looks M h (typeOf (.ref x)) (.ref D) := by
  obtain ⟨o, h1, h2⟩ := p
  exact h2 ▸ (Looks.ld h1).andThen .now
theorem kitx_exc
    (hga : findIn K (.ref D) "__getattribute__" = some (some (.builtin "BaseException.__getattribute__"))) (hgt : findIn K (.ref D) "__getattr__" = some none) (ha : findIn K (.ref D) "__class__" = some (some (.builtin "object.__class__")))
    (hm : mroIn K D (.type "object") = some true) (hb : mroIn K D (.type "BaseException") = some true) : KitX K (.ref x) (.ref D) (ExcAt x D) where
  ty := fun _ _ _ p => excAt_ty p
  it := fun _ _ X _ => by
    obtain ⟨cdD, hcD, _⟩ := Option.bind_eq_some_iff.mp (show (clsIn K D).bind _ = some true from hm)
    unfold clsIn at hcD
    split at hcD
    · rename_i c' d' cd' sl' ho
      intro A' Q' E' s' k q
      unfold isType loadHead
      exact wpAny_bind (wpAny_loadPart (k _ _ (X _ _ ho)) (wpAny_pure q))
    · cases hcD
  ne := fun h tp dd its n sl X htp => by
    refine Bool.eq_false_iff.mpr fun q => ?_
    have e : D = tp := Value.ref.inj (beq_iff_eq.mp q)
    subst e
    obtain ⟨cdD, hcD, _⟩ := Option.bind_eq_some_iff.mp (show (clsIn K D).bind _ = some true from hm)
    unfold clsIn at hcD
    split at hcD
    · rename_i c' d' cd' sl' ho
      have z := (X _ _ ho).symm.trans htp
      cases z
    · cases hcD
  ca := fun X p k => exc_class X (fun _ => excAt_ty p) hga hgt ha hm hb k
end
end Mine

namespace L2
open PySem PySem.Spec PyProof.Rows
/-- what isinstance asks of an exception's class -/
structure ExcK (K : PySem.W.Frag) (C : Addr) : Prop where
  ga : PySem.W.findIn K (.ref C) "__getattribute__" = some (some (.builtin "BaseException.__getattribute__"))
  gt : PySem.W.findIn K (.ref C) "__getattr__" = some none
  cl : PySem.W.findIn K (.ref C) "__class__" = some (some (.builtin "object.__class__"))
  ob : PySem.W.mroIn K C (.type "object") = some true
  be : PySem.W.mroIn K C (.type "BaseException") = some true
  ex : PySem.W.excIn K C bmV "ValueError.__new__" = true
def clsV : V → Option Value
  | .ty n => some (.type n)
  | .ref D => some (.ref D)
  | _ => none
section
variable {X : Cx}
/-- isinstance(e, D) of a caught exception -/
def rIsx (K : PySem.W.Frag) : List V → Hp → VK → Prop := fun xs H Q => ∃ a C c cv b, xs = [.ref a, c] ∧ H a = some (ExcO a C) ∧ ExcK K C ∧ clsV c = some cv ∧ PySem.W.kitOne K (.ref C) cv = some b ∧ Q (.bl b) H
theorem call_isx : CallR X (.builtin "isinstance") (rIsx X.K) := by
  intro pins s σ H xs us Q I r h
  obtain ⟨a, C, c, cv, b, rfl, ea, ek, ec, e, q⟩ := h
  cases r with
  | cons rx r1 =>
    cases r1 with
    | cons ry r2 =>
      cases r2
      cases (show _ = Value.ref a from rx)
      have hv : ∀ u, RelV c u → u = cv := fun u ru => by
        cases c with
        | ty n => cases ec; exact ru
        | ref D => cases ec; exact ru
        | _ => cases ec
      cases hv _ ry
      obtain ⟨p, _, _⟩ := (show ObjOk X.prog X.w H s.heap a (ExcO a C) from I.hok a _ ea)
      exact PySem.W.kia_one (Mine.kitx_exc ek.ga ek.gt ek.cl ek.ob ek.be) I.kIn p e (fun z => nomatch z) fun tk => ⟨.bl b, H, I.tok _, rfl, q⟩
theorem call_isxK (K : PySem.W.Frag) (h : X.K = K) : CallR X (.builtin "isinstance") (rIsx K) := h ▸ call_isx
/-- what does not raise, in a body that may -/
theorem PS.nox {st : Stmt} {t : TS} (h : PS X.nox st t) : PS X st t := fun pins s σ H D I hw =>
  wpAny_mono (h pins s σ H D (I.wish _) hw) (fun _ _ q => q.unwish) fun _ _ z => False.elim z
end
end L2

namespace L2
open PySem PySem.Spec PyProof.Rows
theorem boot_VE : bootBuiltins "ValueError" = some (.type "ValueError") := by decide +kernel
section
variable {X : Cx}
theorem op_isnotB : OpR X (compareOp .IsNot) (fun x y H Q => ∃ a b, x = .bl a ∧ y = .bl b ∧ Q (.bl (!decide (a = b))) H) := by
  intro pins s σ H x y v u Q I rx ry h
  obtain ⟨a, b, rfl, rfl, q⟩ := h
  cases rx
  cases ry
  show wpAny _ _ (do return Value.bool (!(← isSame (.bool a) (.bool b)))) _ _ _
  refine wpAny_bind (wpAny_pure (wpAny_pure (fin_bl I q ?_)))
  cases a <;> cases b <;> rfl
end
end L2
/-! // without a bound on its divisor (over the layer with 'seer'); great products. -/
namespace L2
open PySem PySem.Spec PyProof.Rows
/-- no files beside the program -/
class Plain (P : Program) : Prop where
  tree : P.given.tree = none
section
variable {X : Cx}
theorem Inv.seer {pins : List (Addr × Obj)} {σ : St} {H : Hp} {s : Shared} (I : Inv X pins σ H s) : s.heap.NoSeer := I.ok.mod.seer.keeps I.bk
theorem op_fdivP {k : Nat} (hr : Room k X.A) (hk : 34 ≤ k) (hP : X.prog.given.tree = none) (hst : X.stack = X.env :: X.outer := by rfl) (hgen : X.env.scope.isGenerator = false := by rfl) (hco : X.env.scope.isCoroutine = false := by rfl) :
    OpR X (binaryOp .FloorDiv) (rI (fun _ j => j ≠ 0) fun i j => .int (i.fdiv j)) := by
  intro pins s σ H x y v u Q I rx ry h
  obtain ⟨i, j, rfl, rfl, hc, q⟩ := h
  obtain ⟨t, rfl⟩ := rx
  obtain ⟨t', rfl⟩ := ry
  refine floordiv_int hc ⟨.int _, H, I.tok _, ⟨_, rfl⟩, q⟩ (Or.inr (PylongRoom.of I.nolimit ?_ (SeerAt.of I.seer hP (by rw [I.ok.frames, hst]) hgen hco I.ok.blt I.ok.glob)))
  have := hr.dp
  show X.A.depth + 100 < recursionLimit
  omega
def CMulG (i j : Int) : Prop := Builtin.Int.intBits i + Builtin.Int.intBits j ≤ 2 ^ 27
theorem mulOkG {a b : Int} (hc : CMulG a b) : IntMulOk a b := by
  have hc : Builtin.Int.intBits a + Builtin.Int.intBits b ≤ 2 ^ 27 := hc
  have e : Builtin.Int.intTooBig (Builtin.Int.intBits a + Builtin.Int.intBits b) = false := by
    unfold Builtin.Int.intTooBig bitsLine
    exact decide_eq_false (by omega)
  unfold IntMulOk
  rw [e]
  simp
theorem op_mulG : OpR X (binaryOp .Mult) (rI CMulG fun i j => .int (i * j)) := opI fun _ _ _ _ _ _ _ hc q => mul_int q (mulOkG hc)
end
end L2
/-! A list made by one clause without tests: [elt for target in iter]. -/
namespace L2
open PySem PySem.Spec PyProof.Rows
/-! the cells that the block reads -/
def cloOf (cells : List (Str × Addr)) : List (Str × NameKind) → List (Str × Addr) → List (Str × Addr)
  | [], cs => cs
  | (n, k) :: r, cs => cloOf cells r (if (k == .free) = true then (n, (cells.lookup n).getD 0) :: cs else cs)
theorem clo_for {env : Env} : ∀ (names : List (Str × NameKind)) (cs : List (Str × Addr)), (∀ n, (n, NameKind.free) ∈ names → ∃ c, env.cells.lookup n = some c) →
    (forIn names cs fun (x : Str × NameKind) (r : List (Str × Addr)) => (match x with | (name, kind) => if (kind == NameKind.free) = true then (do let c ← cellOf env name; pure (ForInStep.yield ((name, c) :: r))) else pure (ForInStep.yield r) : Sem (ForInStep (List (Str × Addr))))) = pure (cloOf env.cells names cs)
  | [], cs, _ => rfl
  | (n, k) :: r, cs, h => by
    rw [List.forIn_cons]
    by_cases hk : k = .free
    · subst hk
      obtain ⟨c, hc⟩ := h n List.mem_cons_self
      have ih := clo_for (env := env) r ((n, c) :: cs) fun m hm => h m (List.mem_cons_of_mem _ hm)
      have e1 : cellOf env n = pure c := by unfold cellOf; rw [hc]
      simp only [beq_self_eq_true, if_true, e1, pure_bind]
      rw [ih]
      conv => rhs; unfold cloOf
      simp only [beq_self_eq_true, if_true, hc, Option.getD_some]
    · have hb : (k == NameKind.free) = false := by simpa using hk
      have ih := clo_for (env := env) r cs fun m hm => h m (List.mem_cons_of_mem _ hm)
      simp only [hb, Bool.false_eq_true, if_false, pure_bind]
      rw [ih]
      conv => rhs; unfold cloOf
      simp only [hb, Bool.false_eq_true, if_false]
theorem clo_closure {env : Env} {scope : Scope} (h : ∀ n, (n, NameKind.free) ∈ scope.names → ∃ c, env.cells.lookup n = some c) : closureFor scope env = pure (cloOf env.cells scope.names []) := by
  have e := clo_for (env := env) scope.names [] h
  unfold closureFor
  simp only [bind_pure]
  exact e
theorem clo_in {cells : List (Str × Addr)} : ∀ {names : List (Str × NameKind)} {cs : List (Str × Addr)}, (∀ n, (n, NameKind.free) ∈ names → ∃ c, cells.lookup n = some c) → ∀ {y c}, (cloOf cells names cs).lookup y = some c → cs.lookup y = some c ∨ cells.lookup y = some c
  | [], cs, _, y, c, e => .inl e
  | (n, k) :: r, cs, h, y, c, e => by
    unfold cloOf at e
    have h' : ∀ m, (m, NameKind.free) ∈ r → ∃ c, cells.lookup m = some c := fun m hm => h m (List.mem_cons_of_mem _ hm)
    rcases clo_in h' e with z | z
    · by_cases hk : k = .free
      · subst hk
        obtain ⟨d, hd⟩ := h n List.mem_cons_self
        simp only [beq_self_eq_true, if_true, hd, Option.getD_some] at z
        rw [List.lookup_cons] at z
        cases hy : (y == n) with
        | true =>
          rw [hy] at z
          have : y = n := beq_iff_eq.mp hy
          subst this
          exact .inr (hd.trans z)
        | false => rw [hy] at z; exact .inl z
      · have hb : (k == NameKind.free) = false := by simpa using hk
        simp only [hb, Bool.false_eq_true, if_false] at z
        exact .inl z
    · exact .inr z
theorem clo_has {cells : List (Str × Addr)} : ∀ {names : List (Str × NameKind)} {cs : List (Str × Addr)} {y : Str}, ((∃ c, cs.lookup y = some c) ∨ (y, NameKind.free) ∈ names) → ∃ c, (cloOf cells names cs).lookup y = some c
  | [], cs, y, h => by
    rcases h with h | h
    · exact h
    · cases h
  | (n, k) :: r, cs, y, h => by
    unfold cloOf
    refine clo_has ?_
    rcases h with ⟨c, h⟩ | h
    · left
      split
      · rw [List.lookup_cons]
        cases hy : (y == n) with
        | true => exact ⟨_, rfl⟩
        | false => exact ⟨c, h⟩
      · exact ⟨c, h⟩
    · rcases List.mem_cons.mp h with e | h
      · cases e
        left
        simp only [beq_self_eq_true, if_true]
        rw [List.lookup_cons, beq_self_eq_true]
        exact ⟨_, rfl⟩
      · exact .inr h
/-! the loop -/
theorem compLoop_any {prog : Program} {w : World} {A : Around} {R : Result → Shared → Prop} {s : Shared} {elt target iter : Expr} {scope : Scope} {pos : Pos} {it acc : Value} {env : Env} (I : Nat → Shared → Prop)
    (turn : ∀ n s, I n s → wpAny (model prog w) A (pyNext it) (fun r s₁ => match r with
      | none => R (.ok .next) s₁
      | some v => wpAny (model prog w) A (letOwnedTupleGo target it v) (fun _ s₁' => wpAny (model prog w) A (assign target env v) (fun _ s₂ => wpAny (model prog w) A (eval elt env) (fun x s₃ =>
          wpAny (model prog w) A (call (.builtin "list.append") [acc, x]) (fun _ s₄ => ∃ m, m < n ∧ I m s₄) (fun _ _ => False) s₃) (fun _ _ => False) s₂) (fun _ _ => False) s₁') (fun _ _ => False) s₁) (fun _ _ => False) s)
    (n : Nat) (h : I n s) :
    codeAny (model prog w) A (.compLoop (.ListComp elt [⟨target, iter, [], 0⟩] scope pos) 0 it acc env) R s := by
  refine codeAny_loop rfl I (fun n s hI => ?_) n h
  show wpAny _ _ ((compTurn (.ListComp elt [⟨target, iter, [], 0⟩] scope pos) 0 it acc env).onRaise (fun x => do noteFrame x env; theTreesLotGoes x)) _ _ s
  refine wpAny_noted ?_
  rw [compTurn_list1]
  refine wpAny_bind (wpAny_standAt (wpAny_bind (wpAny_mono (turn n s hI) (fun r s₁ h₁ => ?_) fun _ _ h' => h'.elim)))
  cases r with
  | none => exact wpAny_pure h₁
  | some v =>
    exact wpAny_bind (wpAny_mono h₁ (fun _ s1' h1' => wpAny_bind (wpAny_mono h1' (fun _ s₂ h₂ => wpAny_bind (wpAny_bind (wpAny_mono h₂ (fun x s₃ h₃ => wpAny_bind (wpAny_mono h₃
      (fun _ s₄ h₄ => wpAny_pure (wpAny_pure ⟨rfl, h₄⟩)) fun _ _ h' => h'.elim)) fun _ _ h' => h'.elim))) fun _ _ h' => h'.elim)) fun _ _ h' => h'.elim)
/-! an untracked object is tracked from now on -/
theorem HOk.track {P : Program} {w : World} {H : Hp} {h : Heap} {a : Addr} {o : HO} (x : HOk P w H h) (n : H a = none) (new : ObjOk P w (upd H a o) h a o) : HOk P w (upd H a o) h := fun b u e => by
  by_cases hb : b = a
  · subst hb; rw [upd_same] at e; cases e; exact new
  · rw [upd_ne hb] at e
    exact (x b u e).stay (fun _ _ _ q => q) (fun c q => by rw [upd_ne (ne_of_none q n)]; exact q) fun c xs q => by rw [upd_ne (ne_of_none q n)]; exact q
theorem Un.track {fs ex : List Addr} {H H' : Hp} {h h' : Heap} {a : Addr} {o : HO} (u : Un fs ex H H' h h') (hp : h.objs.size ≤ a) (n : H' a = none) : Un fs ex H (upd H' a o) h h' where
  keep := u.keep
  slot := u.slot
  free := fun b ob q m hx => by rw [upd_ne (Nat.ne_of_lt (Nat.lt_of_lt_of_le (Heap.lt_size q) hp))]; exact u.free b ob q m hx
  there := u.there
  tups := fun b xs q => by have z := u.tups b xs q; rw [upd_ne (ne_of_none z n)]; exact z
  frzs := fun b ob xs q => by have z := u.frzs b ob xs q; rw [upd_ne (ne_of_none z n)]; exact z
  tbls := fun b ps q => by obtain ⟨m, z⟩ := u.tbls b ps q; exact ⟨m, by rw [upd_ne (ne_of_none z n)]; exact z⟩
/-! the block's own cells -/
theorem cells_app : ∀ (names : List (Str × NameKind)) (n : Nat) (acc : List (Str × Addr)), cellsFrom n names acc = cellsFrom n names [] ++ acc
  | [], _, _ => rfl
  | (x, k) :: r, n, acc => by
    unfold cellsFrom
    split
    · rw [cells_app r (n + 1) ((x, n) :: acc), cells_app r (n + 1) [(x, n)], List.append_assoc]; rfl
    · exact cells_app r n acc
theorem cells_in : ∀ (names : List (Str × NameKind)) (n : Nat) (y : Str) (c : Addr), (y, c) ∈ cellsFrom n names [] → (y, NameKind.cell) ∈ names
  | [], _, _, _, h => by cases h
  | (x, k) :: r, n, y, c, h => by
    unfold cellsFrom at h
    split at h
    · rename_i hk
      rw [cells_app] at h
      rcases List.mem_append.mp h with h | h
      · exact List.mem_cons_of_mem _ (cells_in r (n + 1) y c h)
      · have e := List.mem_singleton.mp h
        cases e
        rw [show k = NameKind.cell by simpa using hk]
        exact List.mem_cons_self
    · exact List.mem_cons_of_mem _ (cells_in r n y c h)
theorem cells_has : ∀ (names : List (Str × NameKind)) (n : Nat) (y : Str), (y, NameKind.cell) ∈ names → ∃ c, (y, c) ∈ cellsFrom n names []
  | [], _, _, h => by cases h
  | (x, k) :: r, n, y, h => by
    unfold cellsFrom
    rcases List.mem_cons.mp h with e | h
    · cases e
      rw [if_pos (show (NameKind.cell == NameKind.cell) = true by decide), cells_app]
      exact ⟨n, List.mem_append_right _ List.mem_cons_self⟩
    · split
      · rw [cells_app]
        obtain ⟨c, hc⟩ := cells_has r (n + 1) y h
        exact ⟨c, List.mem_append_left _ hc⟩
      · exact cells_has r n y h
theorem lookup_app {α : Type} : ∀ (l r : List (Str × α)) (y : Str), (l ++ r).lookup y = match l.lookup y with | some c => some c | none => r.lookup y
  | [], _, _ => rfl
  | (x, c) :: l, r, y => by
    rw [List.cons_append, List.lookup_cons, List.lookup_cons]
    cases (y == x) with
    | true => rfl
    | false => exact lookup_app l r y
theorem lookup_mem {α : Type} : ∀ {l : List (Str × α)} {y : Str} {c : α}, (y, c) ∈ l → ∃ c', l.lookup y = some c'
  | (x, d) :: l, y, c, h => by
    rw [List.lookup_cons]
    cases hb : (y == x) with
    | true => exact ⟨d, rfl⟩
    | false =>
      rcases List.mem_cons.mp h with e | h
      · cases e; rw [beq_self_eq_true] at hb; cases hb
      · exact lookup_mem h
abbrev cbOf (env : Env) (scope : Scope) (C : Addr) : List (Str × Addr) := cellsFrom (C + 1) scope.names (cloOf env.cells scope.names [])
theorem cb_lookup {env : Env} {scope : Scope} {C : Addr} {y : Str} {c : Addr} (h : (cbOf env scope C).lookup y = some c) : (y, c) ∈ cellsFrom (C + 1) scope.names [] ∨ (cloOf env.cells scope.names []).lookup y = some c := by
  rw [show cbOf env scope C = _ from cells_app _ _ _, lookup_app] at h
  split at h
  · rename_i e; cases h; exact .inl (PySem.mem_of_lookup e)
  · exact .inr h
theorem cb_own {env : Env} {scope : Scope} {C : Addr} {y : Str} {c : Addr} (k : scope.names.lookup y = some .cell) (h : (cbOf env scope C).lookup y = some c) : (y, c) ∈ cellsFrom (C + 1) scope.names [] := by
  rw [show cbOf env scope C = _ from cells_app _ _ _, lookup_app] at h
  obtain ⟨d, hd⟩ := cells_has scope.names (C + 1) y (PySem.mem_of_lookup k)
  obtain ⟨d', hd'⟩ := lookup_mem hd
  rw [hd'] at h
  cases h
  exact PySem.mem_of_lookup hd'
theorem cells_above : ∀ (names : List (Str × NameKind)) (n : Nat) (y : Str) (c : Addr), (y, c) ∈ cellsFrom n names [] → n ≤ c
  | [], _, _, _, h => by cases h
  | (x, k) :: r, n, y, c, h => by
    unfold cellsFrom at h
    split at h
    · rw [cells_app] at h
      rcases List.mem_append.mp h with h | h
      · have := cells_above r (n + 1) y c h; omega
      · cases List.mem_singleton.mp h; exact Nat.le_refl _
    · exact cells_above r n y c h
theorem cells_inj : ∀ (names : List (Str × NameKind)) (n : Nat) (x y : Str) (c : Addr), (x, c) ∈ cellsFrom n names [] → (y, c) ∈ cellsFrom n names [] → x = y
  | [], _, _, _, _, h, _ => by cases h
  | (z, k) :: r, n, x, y, c, h, g => by
    unfold cellsFrom at h g
    split at h
    · rename_i hk
      rw [if_pos hk] at g
      rw [cells_app] at h g
      rcases List.mem_append.mp h with h | h <;> rcases List.mem_append.mp g with g | g
      · exact cells_inj r (n + 1) x y c h g
      · cases List.mem_singleton.mp g
        have := cells_above r (n + 1) x _ h; omega
      · cases List.mem_singleton.mp h
        have := cells_above r (n + 1) y _ g; omega
      · cases List.mem_singleton.mp h; cases List.mem_singleton.mp g; rfl
    · rename_i hk
      rw [if_neg hk] at g
      exact cells_inj r n x y c h g
theorem newEnv_comp {M : Model} {A : Around} {E : Value → Shared → Prop} {s : Shared} {scope : Scope} {globals : Addr} {closure : List (Str × Addr)} {qual : Str} {env : Env} {Q : Env → Shared → Prop}
    (hQ : ∀ h' : Heap, h'.Ns s.heap.objs.size (fun _ => none) → (∀ b o, s.heap.get? b = some o → h'.get? b = some o) → CellsOk h' (s.heap.objs.size + 1) (cellsFrom (s.heap.objs.size + 1) scope.names []) →
      Q (newEnv scope s.heap.objs.size globals (cellsFrom (s.heap.objs.size + 1) scope.names closure) qual none .none (some env) builtinsNs) { s with heap := h', toks := s.toks + ([] : List (Str × Value)).length }) :
    wpAny M A (newFunctionEnv scope globals closure [] qual none .none (some env)) Q E s := by
  simp only [newFunctionEnv, Option.isSome_some, if_true]
  refine wpAny_bind (wpAny_alloc ?_)
  refine wpAny_bind (wpAny_layCells _ (fun name kind cells => by cases hkc : kind == NameKind.cell <;> simp [hkc]) _ _ _ _ ?_)
  have ok := cellsFrom_ok scope.names (s.heap.push { cls := .type "dict", data := .dict #[] }) (s.heap.objs.size + 1) [] ⟨fun _ _ hm => (nomatch hm), List.Pairwise.nil⟩ (by rw [Heap.size_push]; exact Nat.le_refl _)
  rw [Heap.size_push] at ok
  rw [show ({ s with heap := s.heap.push { cls := .type "dict", data := .dict #[] } } : Shared).heap.objs.size = s.heap.objs.size + 1 from Heap.size_push ..]
  rw [List.forIn_nil]
  refine wpAny_bind (wpAny_pure (wpAny_pure ?_))
  exact hQ _ ((Heap.Ns.new s.heap (.type "dict")).keeps (pushCells_keeps _ _)) (fun b o e => pushCells_keeps _ _ b o (Heap.get?_push_of_some _ e)) ok
/-! the block's context -/
def compCx (X : Cx) (scope : Scope) (xs : List Str) (C : Addr) (s : Shared) (H : Hp) (fp : List Addr) (pn : List (Addr × Obj)) : Cx :=
  { X with env := compEnvC scope (cbOf X.env scope C) C X.env, N := X.N ++ xs, s₀ := s, H₀ := H, outer := X.stack, ex := fp, fn := fun y => scope.names.lookup y == some .cell, pn := pn, xe := fun _ _ => False }
/-- what is asked of the scopes: S the def's, T the block's -/
structure CompOk (N : List Str) (S T : Scope) : Prop where
  kind : T.kind = .function
  cell : ∀ y ∈ N, T.names.lookup y ≠ some .cell
  names : ∀ y ∈ T.names, y.2 = .local → T.names.lookup y.1 = some .local
  uniq : ∀ y ∈ T.names, T.names.lookup y.1 = some y.2
  free : ∀ y ∈ T.names, y.2 = .free → S.names.lookup y.1 = some .cell ∨ S.names.lookup y.1 = some .free
  vis : ∀ y ∈ N, T.names.lookup y ≠ some .local
/-- a block's scope within a block -/
def rlS (S T : Scope) : Scope := { T with names := T.names.map fun (n, k) => if (k == .free && S.kind == .function && S.names.lookup n == some .cell) then (n, .cell) else (n, k) }
/-- one name relabelled -/
def rl (env : Env) (z : Str × NameKind) : Str × NameKind := match z with | (n, k) => if (k == NameKind.free && env.scope.kind == .function && env.kindOf n == some .cell) then (n, NameKind.cell) else (n, k)
theorem rl_fst (env : Env) (n : Str) (k : NameKind) : (rl env (n, k)).1 = n := by unfold rl; dsimp only; split <;> rfl
theorem rl_snd (env : Env) (n : Str) (k : NameKind) : (rl env (n, k)).2 = k ∨ (k = .free ∧ (rl env (n, k)).2 = .cell) := by
  unfold rl
  dsimp only
  split
  · rename_i h
    simp only [Bool.and_eq_true] at h
    exact .inr ⟨by simpa using h.1.1, rfl⟩
  · exact .inl rfl
theorem rl_lookup {env : Env} : ∀ {names : List (Str × NameKind)} {y : Str} {k : NameKind}, (names.map (rl env)).lookup y = some k → names.lookup y = some k ∨ (names.lookup y = some .free ∧ k = .cell)
  | [], _, _, h => by cases h
  | (n, j) :: r, y, k, h => by
    have ih := @rl_lookup env r y k
    rw [List.map_cons, show rl env (n, j) = ((rl env (n, j)).1, (rl env (n, j)).2) from rfl, rl_fst, List.lookup_cons] at h
    rw [List.lookup_cons]
    cases hy : (y == n) with
    | true =>
      rw [hy] at h
      have h : (rl env (n, j)).2 = k := Option.some.inj h
      rcases rl_snd env n j with z | ⟨z1, z2⟩
      · exact .inl (by rw [← h, z])
      · exact .inr ⟨by rw [z1], by rw [← h, z2]⟩
    | false =>
      rw [hy] at h
      exact ih h
theorem relabel_free {env : Env} {scope : Scope} {y : Str} (h : (relabel scope env).names.lookup y = some .cell ∨ (relabel scope env).names.lookup y = some .free) : scope.names.lookup y = some .free ∨ scope.names.lookup y = some .cell := by
  have e : (relabel scope env).names = scope.names.map (rl env) := rfl
  rw [e] at h
  rcases h with h | h
  · rcases rl_lookup h with z | ⟨z, _⟩
    · exact .inr z
    · exact .inl z
  · rcases rl_lookup h with z | ⟨z, _⟩
    · exact .inl z
    · exact .inl z
theorem relabel_local {env : Env} {scope : Scope} {y : Str} (h : (relabel scope env).names.lookup y = some .local) : scope.names.lookup y = some .local := by
  have e : (relabel scope env).names = scope.names.map (rl env) := rfl
  rw [e] at h
  rcases rl_lookup h with z | ⟨_, z⟩
  · exact z
  · cases z
theorem Un.but {fs ex : List Addr} {H H' : Hp} {h h1 h2 : Heap} {C : Addr} (u : Un fs ex H H' h h1) (hb : ∀ b o, b ≠ C → h1.get? b = some o → h2.get? b = some o) (hC : h.objs.size ≤ C) : Un fs ex H H' h h2 := by
  have ne : ∀ b o, h.get? b = some o → b ≠ C := fun b o e => Nat.ne_of_lt (Nat.lt_of_lt_of_le (Heap.lt_size e) hC)
  refine ⟨fun b o e n hf hx => hb b o (ne b o e) (u.keep b o e n hf hx), fun b o e n hf hx => ?_, u.free, fun b o e hx => ?_, u.tups, u.frzs, u.tbls⟩
  · obtain ⟨sl, q⟩ := u.slot b o e n hf hx
    exact ⟨sl, hb b _ (ne b o e) q⟩
  · obtain ⟨o', q⟩ := u.there b o e hx
    exact ⟨o', hb b _ (ne b o e) q⟩
theorem HOk.but {P : Program} {w : World} {H : Hp} {h1 h2 : Heap} {C : Addr} (x : HOk P w H h1) (hb : ∀ b o, b ≠ C → h1.get? b = some o → h2.get? b = some o) (n : H C = none) : HOk P w H h2 := fun b u e =>
  (x b u e).stay (fun c v hc q => hb c v (by
    rcases hc with rfl | hc
    · exact ne_of_none e n
    · exact ne_of_none hc n) q) (fun _ q => q) fun _ _ q => q
section
variable {X : Cx} {pins : List (Addr × Obj)} {σ : St} {H : Hp} {s : Shared} {scope : Scope} {xs : List Str} {fp : List Addr} {C : Addr}
theorem comp_free (I : Inv X pins σ H s) (ok : CompOk X.N X.env.scope scope) : ∀ n, (n, NameKind.free) ∈ scope.names → ∃ c, X.env.cells.lookup n = some c := fun n hn => I.ok.has n (ok.free _ hn rfl)
theorem comp_cell (I : Inv X pins σ H s) (ok : CompOk X.N X.env.scope scope) {y : Str} {c : Addr} (e : (cbOf X.env scope C).lookup y = some c) : (y, c) ∈ cellsFrom (C + 1) scope.names [] ∨ X.env.cells.lookup y = some c := by
  rcases cb_lookup e with z | z
  · exact .inl z
  · rcases clo_in (comp_free I ok) z with z | z
    · cases z
    · exact .inr z
theorem comp_old (I : Inv X pins σ H s) {y : Str} {c : Addr} (e : X.env.cells.lookup y = some c) : c < s.heap.objs.size := let ⟨_, h⟩ := I.cell y c e; h.lt
theorem comp_ok (I : Inv X pins σ H s) (ok : CompOk X.N X.env.scope scope) (hf : ∀ b ∈ fp, FpOk X pins H b) (hx : ∀ b ∈ fp, b < s.heap.objs.size) (hC : s.heap.objs.size ≤ C) :
    (compCx X scope xs C s H fp (X.pn ++ pins)).Ok where
  mod := I.mod
  kind := ok.kind
  glob := I.ok.glob
  blt := I.ok.blt
  above := hC
  inj := fun x y c h1 h2 => by
    rcases comp_cell I ok h1 with z1 | z1 <;> rcases comp_cell I ok h2 with z2 | z2
    · exact cells_inj _ _ x y c z1 z2
    · exact absurd (Nat.lt_of_lt_of_le (comp_old I z2) (Nat.le_trans hC (Nat.le_of_lt (cells_above _ _ _ _ z1)))) (Nat.lt_irrefl _)
    · exact absurd (Nat.lt_of_lt_of_le (comp_old I z1) (Nat.le_trans hC (Nat.le_of_lt (cells_above _ _ _ _ z2)))) (Nat.lt_irrefl _)
    · exact I.ok.inj x y c z1 z2
  has := fun y hy => by
    show ∃ c, (cbOf X.env scope C).lookup y = some c
    rw [show cbOf X.env scope C = _ from cells_app _ _ _, lookup_app]
    rcases relabel_free hy with z | z
    · obtain ⟨c, hc⟩ := clo_has (cells := X.env.cells) (cs := []) (.inr (PySem.mem_of_lookup z))
      split
      · rename_i c' _; exact ⟨c', rfl⟩
      · exact ⟨c, hc⟩
    · obtain ⟨c, hc⟩ := cells_has scope.names (C + 1) y (PySem.mem_of_lookup z)
      obtain ⟨c', hc'⟩ := lookup_mem hc
      rw [hc']
      exact ⟨c', rfl⟩
  cab := fun x c h e => Nat.le_trans hC (Nat.le_of_lt (cells_above _ _ _ _ (cb_own (by have h : (scope.names.lookup x == some NameKind.cell) = true := h; simpa using h) e)))
  hd := I.ok.hd
  frames := I.ok.frames
  stk := .inl rfl
  exf := fun b hb => ⟨Nat.ne_of_lt (Nat.lt_of_lt_of_le (hx b hb) hC), fun x c e => by
    rcases comp_cell I ok e with z | z
    · exact Nat.ne_of_gt (Nat.lt_of_lt_of_le (hx b hb) (Nat.le_trans hC (Nat.le_of_lt (cells_above _ _ _ _ z))))
    · exact (hf b hb).2.2.2.2.1 x c z⟩
  bs := I.bs
  bsz := Nat.le_trans I.ok.bsz I.sz
  noex := fun b o e hb => by
    rcases (hf b hb).2.2.2.1 with z | z
    · exact I.ok.noex b o e z
    · exact absurd (Nat.lt_of_lt_of_le (Heap.lt_size e) (Nat.le_trans I.ok.bsz z)) (Nat.lt_irrefl _)
  exfs := fun b hb z => by
    rcases List.mem_cons.mp (I.stkSub b z) with q | q
    · exact (hf b hb).2.1 q
    · exact (hf b hb).2.2.1 q
  funs := I.stack
  frf := I.stkFree
theorem comp_start (I : Inv X pins σ H s) (ok : CompOk X.N X.env.scope scope) (hf : ∀ b ∈ fp, FpOk X pins H b) (hx : ∀ b ∈ fp, b < s.heap.objs.size) (hC : s.heap.objs.size ≤ C) {h' : Heap} {t' : Nat} {m : Str → Option Value}
    (hn : h'.Ns C m) (hk : ∀ b o, s.heap.get? b = some o → h'.get? b = some o) (hcs : CellsOk h' (C + 1) (cellsFrom (C + 1) scope.names [])) :
    Inv (compCx X scope xs C s H fp (X.pn ++ pins)) [] (σ ++ List.replicate xs.length none) H { s with heap := h', toks := t' } where
  ok := comp_ok I ok hf hx hC
  os := rfl
  bare := I.bare
  base := Un.kept hk
  loc := by
    refine ⟨m, hn, fun i x v e1 e2 e3 => ?_⟩
    have e1 : (X.N ++ xs)[i]? = some x := e1
    have hi : i < σ.length := by
      by_cases hi : i < σ.length
      · exact hi
      · rw [List.getElem?_append_right (by omega), List.getElem?_replicate] at e2
        split at e2 <;> cases e2
    rw [List.getElem?_append_left hi] at e2
    rw [List.getElem?_append_left (by rw [← I.len]; exact hi)] at e1
    have hxN : x ∈ X.N := List.mem_of_getElem? e1
    have e4 : (relabel scope X.env).names.lookup x = some .cell ∨ (relabel scope X.env).names.lookup x = some .free := by
      rcases e3 with z | z
      · exact absurd (relabel_local z) (ok.vis x hxN)
      · exact z
    have e5 : scope.names.lookup x = some .free := by
      rcases relabel_free e4 with z | z
      · exact z
      · exact absurd z (ok.cell x hxN)
    have e6 := ok.free _ (PySem.mem_of_lookup e5) rfl
    obtain ⟨m0, _, hl⟩ := I.loc
    obtain ⟨u, ru, lu⟩ := hl i x v e1 e2 (.inr e6)
    refine ⟨u, ru, .inr ⟨e4, ?_⟩⟩
    rcases lu with ⟨q, _⟩ | ⟨_, c, hc, o, ho, hd⟩
    · have q : X.env.scope.names.lookup x = some .local := q
      rcases e6 with z | z <;> (rw [q] at z; cases z)
    · obtain ⟨c', hc'⟩ := clo_has (cells := X.env.cells) (cs := []) (.inr (PySem.mem_of_lookup e5))
      have no : (cellsFrom (C + 1) scope.names []).lookup x = none := by
        cases e : (cellsFrom (C + 1) scope.names []).lookup x with
        | none => rfl
        | some d =>
          have := ok.uniq _ (cells_in _ _ _ _ (PySem.mem_of_lookup e))
          rw [e5] at this
          cases this
      have hb : (cbOf X.env scope C).lookup x = some c' := by
        rw [show cbOf X.env scope C = _ from cells_app _ _ _, lookup_app, no]
        exact hc'
      rcases clo_in (comp_free I ok) hc' with z | z
      · cases z
      · rw [hc] at z
        cases z
        exact ⟨c, hb, o, hk _ _ ho, hd⟩
  cell := fun x c e => by
    rcases comp_cell I ok e with z | z
    · exact ⟨none, (hcs.empty x c z).1⟩
    · obtain ⟨v, o, ho, hd⟩ := I.cell x c z
      exact ⟨v, o, hk _ _ ho, hd⟩
  free := I.hok.fresh hC
  freeC := fun x c e => by
    rcases comp_cell I ok e with z | z
    · exact I.hok.fresh (by have := cells_above _ _ _ _ z; omega)
    · exact I.freeC x c z
  pin := fun p hp => by
    rw [List.append_nil] at hp
    obtain ⟨e, n, ne, nf, d⟩ := I.pin p hp
    refine ⟨hk _ _ e, n, Nat.ne_of_lt (Nat.lt_of_lt_of_le (Heap.lt_size e) hC), fun z => ?_, d⟩
    rcases List.mem_cons.mp (I.stkSub p.1 z) with q | q
    · exact ne q
    · exact nf q
  hok := I.hok.kept hk
  len := by
    show (σ ++ List.replicate xs.length none).length = (X.N ++ xs).length
    rw [List.length_append, List.length_append, List.length_replicate, I.len]
end
/-- the reading: W by the turn, a measure, the items so far, the heap -/
abbrev CTail (J : It) (k : Nat) (g : TG) (te : TE) (σ : St) (Q : VK) (H1 : Hp) : Prop := ∃ W : Nat → Nat → List V → Hp → Prop, (∃ m, W 0 m [] H1) ∧ ∀ i m ys H, W i m ys H →
  (J.stop i H ∧ ys.length ≤ sizeLine ∧ ∀ p, H p = none → Q (.ref p) (upd H p (.lst ys))) ∨
  (J.go i H ∧ ys.length < sizeLine ∧ ∀ x H', J.yld i H x H' → g x (σ ++ List.replicate k none) H' fun σ2 H2 => (∃ zs, σ2 = σ ++ zs ∧ zs.length = k) ∧ te σ2 H2 fun v H3 => ∃ m', m' < m ∧ W (i + 1) m' (ys ++ [v]) H3)
def tComp (k : Nat) (wi : TI) (g : TG) (te : TE) : TE := fun σ H Q => wi σ H fun J H1 => CTail J k g te σ Q H1
theorem pe_comp {X : Cx} {elt target iter : Expr} {scope : Scope} {pos : Pos} {wi : TI} {g : TG} {te : TE} {xs : List Str} (hc : X.calm = true) (ok : CompOk X.N X.env.scope scope) (hi : PI X target iter wi)
    (hg : ∀ C s H fp pn, PG (compCx X scope xs C s H fp pn) target g) (he : ∀ C s H fp pn, PE (compCx X scope xs C s H fp pn) elt te)
    (hs : ∀ x, foldedSetIterable iter X.env x = pure x := by intro _; rfl) : PE X (.ListComp elt [⟨target, iter, [], 0⟩] scope pos) (tComp xs.length wi g te) := by
  intro pins s σ H Q I h
  rw [eval_ListComp]
  refine wpAny_comprehension_free (use := none) rfl hs (clo_closure (comp_free I ok)) ok.kind ok.names (thn (hi pins s σ H _ I h) fun v s1 h1 => thn h1 fun itv s2 h2 => ?_)
  obtain ⟨it, fp, tn, J, H2, rfl, I2, T, st2, f2, W, ⟨m0, w0⟩, turn⟩ := h2
  refine wpAny_newObj_type (newEnv_comp fun h₁ hns₁ hsb₁ hcl₁ => ?_)
  dsimp only at hns₁ hsb₁ hcl₁ ⊢
  generalize hD : s2.heap.objs.size = D
  generalize hH3 : s2.heap.push { cls := .type "list", dict := none, data := .seq ([] : List Value).toArray } = h3 at hns₁ hsb₁ hcl₁ ⊢
  have k23 : ∀ b o, s2.heap.get? b = some o → h3.get? b = some o := fun b o e => hH3 ▸ Heap.get?_push_of_some _ e
  have hC : h3.objs.size = D + 1 := by rw [← hH3, Heap.size_push, hD]
  have eD3 : h3.get? D = some { cls := .type "list", dict := none, data := .seq ([] : List Value).toArray } := by
    rw [← hH3, ← hD]; exact Heap.get?_push_size _ rfl
  have I3 : Inv X pins σ H2 { s2 with heap := h3 } := I2.kept (t' := s2.toks) k23
  have fD : FpOk X pins H2 D := I2.fpOk (by omega) (I2.hok.fresh (by omega))
  have lt2 : ∀ b ∈ fp, b < D := fun b hb => by
    obtain ⟨o, e, _⟩ := T.obj 0 _ st2 b hb
    rw [← hD]
    exact Heap.lt_size e
  have f3 : ∀ b ∈ D :: fp, FpOk X pins H2 b := fun b hb => by
    rcases List.mem_cons.mp hb with rfl | hb
    · exact fD
    · exact f2 b hb
  have hx3 : ∀ b ∈ D :: fp, b < ({ s2 with heap := h3 } : Shared).heap.objs.size := fun b hb => by
    show b < h3.objs.size
    rcases List.mem_cons.mp hb with rfl | hb
    · rw [hC]; exact Nat.lt_succ_self _
    · rw [hC]; exact Nat.lt_succ_of_lt (lt2 b hb)
  have k31 : ∀ b o, h3.get? b = some o → h₁.get? b = some o := hsb₁
  have okX := comp_ok (C := h3.objs.size) (xs := xs) I3 ok f3 hx3 (Nat.le_refl _)
  have I4 := comp_start (C := h3.objs.size) (xs := xs) (t' := s2.toks + ([] : List (Str × Value)).length) I3 ok f3 hx3 (Nat.le_refl _) hns₁ k31 hcl₁
  have mD : D ∈ D :: fp := List.mem_cons_self
  have neC : ∀ b ∈ D :: fp, b ≠ h3.objs.size := fun b hb => (okX.exf b hb).1
  have stat : ∀ {H' : Hp} {pl : List (Addr × Obj)}, (∀ b ∈ fp, H' b = none) → (∀ p ∈ pl, p.1 = D) → ∀ b ∈ fp, FpOk (compCx X scope xs h3.objs.size { s2 with heap := h3 } H2 (D :: fp) (X.pn ++ pins)) pl H' b := fun hn hpl b hb => by
    have hb' : b ∈ D :: fp := List.mem_cons_of_mem _ hb
    refine ⟨hn b hb, neC b hb', okX.exfs b hb', .inl hb', (okX.exf b hb').2, fun p hp => ?_⟩
    rcases List.mem_append.mp hp with hp | hp
    · exact (f2 b hb).2.2.2.2.2 p hp
    · rw [hpl p hp]
      exact Nat.ne_of_gt (lt2 b hb)
  have loop : codeAny (model X.prog X.w) X.A (.compLoop (.ListComp elt [⟨target, iter, [], 0⟩] scope pos) 0 (.ref it) (.ref D) (compEnvC scope (cbOf X.env scope h3.objs.size) h3.objs.size X.env))
      (compPost (model X.prog X.w) X.A X.xe none (EP X pins σ Q) (.ref D) h3.objs.size) { s2 with heap := h₁, toks := s2.toks + ([] : List (Str × Value)).length } := by
    refine compLoop_any (fun n s' => ∃ i ys its k H', Inv (compCx X scope xs h3.objs.size { s2 with heap := h3 } H2 (D :: fp) (X.pn ++ pins)) [] (σ ++ List.replicate xs.length none) H' s' ∧
      s'.heap.get? D = some { cls := .type "list", data := .seq (its : List Value).toArray k } ∧ Vals ys its ∧ H' D = none ∧ tn i s'.heap ∧ (∀ b ∈ fp, H' b = none) ∧ W i n ys H') ?_ m0
      ⟨0, [], [], _, H2, I4, k31 _ _ eD3, .nil, fD.1, T.keep _ _ _ st2 (fun b _ o e => k31 b o (k23 b o e)), fun b hb => (f2 b hb).1, w0⟩
    rintro n s' ⟨i, ys, its, k, H', I', eD, rv, nD, st, fr, w⟩
    have Ip := I'.pins_of (pins' := [(D, { cls := .type "list", data := .seq its.toArray k })]) fun p hp => by
      rw [List.mem_singleton] at hp
      subst hp
      exact ⟨eD, nD, neC D mD, okX.exfs D mD, fun v z => by cases z⟩
    have one : ∀ p ∈ [(D, ({ cls := .type "list", data := .seq its.toArray k } : Obj))], p.1 = D := fun p hp => by rw [List.mem_singleton] at hp; rw [hp]
    rcases turn i n ys H' w with ⟨stop, hz, q⟩ | ⟨go, hz, step⟩
    · refine thn (T.done (compCx X scope xs h3.objs.size { s2 with heap := h3 } H2 (D :: fp) (X.pn ++ pins)) rfl rfl rfl hc i _ s' _ H' (fun _ _ => False) Ip (stat fr one) st stop) fun r s4 ⟨hr, J4⟩ => ?_
      subst hr
      obtain ⟨mm, hnm, _⟩ := J4.loc
      refine ⟨mm, hnm, fun h' sb => ?_⟩
      obtain ⟨eD4, nD4, _⟩ := J4.pin (D, { cls := .type "list", data := .seq its.toArray k }) (List.mem_append_right _ List.mem_cons_self)
      have hb : ∀ b o, b ≠ h3.objs.size → s4.heap.get? b = some o → h'.get? b = some o := fun b o hn e => sb.extBut b o hn e
      have u0 : Un (frs X.stack) (D :: fp) H2 H' h3 s4.heap := J4.base
      have u : Un (frs X.stack) (D :: fp) H2 H' s2.heap h' := ((Un.kept k23).trans u0).but hb (by omega)
      have os4 : s4.os = s2.os := J4.os
      refine ⟨.ref D, upd H' D (.lst ys), I2.call' (s' := { s4 with heap := h' }) (ch := D :: fp) os4 (u.track (by omega) nD4) ((J4.hok.but hb J4.free).track nD4 ⟨hz, its, k, rv, hb D _ (neC D mD) eD4⟩) J4.bare (fun b hb => ?_), rfl, q D nD4⟩
      have z := f3 b hb
      exact ⟨z.2.2.2.1, z.2.1, z.2.2.2.2.1, z.2.2.2.2.2⟩
    · refine thn (T.item (compCx X scope xs h3.objs.size { s2 with heap := h3 } H2 (D :: fp) (X.pn ++ pins)) rfl rfl rfl hc i _ s' _ H' (fun _ _ => False) Ip (stat fr one) st go) fun r s4 ⟨u, hr, h4⟩ => ?_
      subst hr
      refine thn h4 fun _ s5 ⟨x, H5, I5, r5, y5, st5, fr5⟩ => ?_
      have I5' := I5.pinned (stat fr5 one) (T.obj _ _ st5)
      refine thn (hg _ _ _ _ _ _ s5 _ H5 x u _ I5' r5 (step x H5 y5)) fun _ s6 ⟨σ6, H6, I6, ⟨zs, hz6, hl6⟩, q6⟩ => ?_
      refine thn (he _ _ _ _ _ _ s6 σ6 H6 _ I6 q6) fun xv s7 ⟨v, H7, I7, r7, m', hm', w7⟩ => ?_
      obtain ⟨eD7, nD7, _⟩ := I7.pin (D, { cls := .type "list", data := .seq its.toArray k }) (List.mem_append_right _ (List.mem_append_left _ List.mem_cons_self))
      have len := rv.length
      refine call_meets F.slot_list_append ⟨_, eD7, rfl⟩ F.entry_list_append (F.args_list_append_2 _ _) (PySem.list_append D its.toArray k xv (by rw [List.size_toArray]; omega)) ⟨eD7, ?_⟩
      have q := PySem.IsL.update eD7 (fun a => a.push xv)
      have other : ∀ b o, b ≠ D → s7.heap.get? b = some o → (s7.heap.update D (Obj.mapSeq fun a => a.push xv)).get? b = some o := fun b o hb e => (Heap.get?_update_other s7.heap _ (Ne.symm hb)).trans e
      have pinF : ∀ b ∈ fp, ∀ o, s5.heap.get? b = some o → s7.heap.get? b = some o ∧ H7 b = none := fun b hb o e =>
        ⟨(I7.pin (b, o) (List.mem_append_right _ (List.mem_append_right _ (mem_pinsAt hb e)))).1, (I7.pin (b, o) (List.mem_append_right _ (List.mem_append_right _ (mem_pinsAt hb e)))).2.1⟩
      have I7' := I7.pins_of (pins' := []) fun p hp => by cases hp
      have I8 := I7'.turned (t' := s7.toks) (it := D) other nD7 (neC D mD) (.inl mD) (okX.exf D mD).2 (fun p hp => by
        rw [List.append_nil] at hp
        exact fD.2.2.2.2.2 p hp)
      have I9 := I8.weak (σ' := σ ++ List.replicate xs.length none) (by rw [hz6, List.length_append, List.length_append, List.length_replicate, hl6]) (fun j v' e => by
        have hj : j < σ.length := by
          by_cases hj : j < σ.length
          · exact hj
          · rw [List.getElem?_append_right (by omega), List.getElem?_replicate] at e
            split at e <;> cases e
        rw [List.getElem?_append_left hj] at e
        rw [hz6, List.getElem?_append_left hj]
        exact e)
      have e9 : its.toArray.push xv = (its ++ [xv]).toArray := by simp
      rw [e9] at q
      refine ⟨m', hm', i + 1, ys ++ [v], its ++ [xv], _, H7, I9, q, rv.append (.cons r7 .nil), nD7, T.keep _ _ _ st5 (fun b hb o e => other b o (Nat.ne_of_lt (lt2 b hb)) (pinF b hb o e).1), fun b hb => ?_, w7⟩
      obtain ⟨o, e, _⟩ := T.obj _ _ st5 b hb
      exact (pinF b hb o e).2
  exact codeAny_compStart_list loop (T.self _ 0 _ _ _ (T.keep _ _ _ st2 fun b _ o e => k31 b o (k23 b o e)) loop)
end L2
/-! a comprehension whose own name is also a name of the def, not yet bound there -/
namespace L2
open PySem PySem.Spec PyProof.Rows
abbrev Cx.rn (X : Cx) (i : Nat) (y : Str) : Cx := { X with N := X.N.set i y }
section
variable {X : Cx} {pins : List (Addr × Obj)} {σ : St} {H : Hp} {s : Shared} {i : Nat} {y : Str}
theorem Inv.rn (I : Inv X pins σ H s) (h : σ[i]? = some none) : Inv (X.rn i y) pins σ H s :=
  ⟨⟨I.ok.mod, I.ok.kind, I.ok.glob, I.ok.blt, I.ok.above, I.ok.inj, I.ok.has, I.ok.cab, I.ok.hd, I.ok.frames, I.ok.stk, I.ok.exf, I.ok.bs, I.ok.bsz, I.ok.noex, I.ok.exfs, I.ok.funs, I.ok.frf⟩, I.os, I.bare, I.base,
    let ⟨m, hn, hl⟩ := I.loc; ⟨m, hn, fun j x v e1 e2 e3 => by
      by_cases z : i = j
      · subst z; rw [h] at e2; cases e2
      · exact hl j x v (by rw [← e1]; exact (List.getElem?_set_ne z).symm) e2 e3⟩, I.cell, I.free, I.freeC, I.pin, I.hok, by rw [I.len]; exact List.length_set.symm⟩
theorem Inv.unrn (ok : X.Ok) (I : Inv (X.rn i y) pins σ H s) (h : σ[i]? = some none) : Inv X pins σ H s :=
  ⟨ok, I.os, I.bare, I.base, let ⟨m, hn, hl⟩ := I.loc; ⟨m, hn, fun j x v e1 e2 e3 => by
      by_cases z : i = j
      · subst z; rw [h] at e2; cases e2
      · exact hl j x v (by rw [← e1]; exact List.getElem?_set_ne z) e2 e3⟩, I.cell, I.free, I.freeC, I.pin, I.hok, by rw [I.len]; exact List.length_set⟩
theorem pe_hide {e : Expr} {t : TE} (i : Nat) (y : Str) (h : PE (X.rn i y) e t) : PE X e (fun σ H Q => σ[i]? = some none ∧ t σ H Q) := by
  intro pins s σ H Q I ⟨hi, q⟩
  exact thn (h pins s σ H Q (I.rn hi) q) fun v s1 ⟨x, H1, I1, r, q1⟩ => ⟨x, H1, I1.unrn I.ok hi, r, q1⟩
end
end L2
/-! [elt for target in iter if c] (behind Comp). -/
namespace L2
open PySem PySem.Spec PyProof.Rows
theorem compLoop_if {prog : Program} {w : World} {A : Around} {R : Result → Shared → Prop} {s : Shared} {elt target iter c : Expr} {scope : Scope} {pos : Pos} {it acc : Value} {env : Env} (I : Nat → Shared → Prop)
    (turn : ∀ n s, I n s → wpAny (model prog w) A (pyNext it) (fun r s₁ => match r with
      | none => R (.ok .next) s₁
      | some v => wpAny (model prog w) A (letOwnedTupleGo target it v) (fun _ s₁' => wpAny (model prog w) A (assign target env v) (fun _ s₂ => wpAny (model prog w) A (isTrue c env (eval c env)) (fun ok s₂' =>
          if ok = true then wpAny (model prog w) A (eval elt env) (fun x s₃ => wpAny (model prog w) A (call (.builtin "list.append") [acc, x]) (fun _ s₄ => ∃ m, m < n ∧ I m s₄) (fun _ _ => False) s₃) (fun _ _ => False) s₂'
          else ∃ m, m < n ∧ I m s₂') (fun _ _ => False) s₂) (fun _ _ => False) s₁') (fun _ _ => False) s₁) (fun _ _ => False) s)
    (n : Nat) (h : I n s) :
    codeAny (model prog w) A (.compLoop (.ListComp elt [⟨target, iter, [c], 0⟩] scope pos) 0 it acc env) R s := by
  refine codeAny_loop rfl I (fun n s hI => ?_) n h
  show wpAny _ _ ((compTurn (.ListComp elt [⟨target, iter, [c], 0⟩] scope pos) 0 it acc env).onRaise (fun x => do noteFrame x env; theTreesLotGoes x)) _ _ s
  refine wpAny_noted ?_; rw [compTurn_list]
  refine wpAny_bind (wpAny_standAt (wpAny_bind (wpAny_mono (turn n s hI) (fun r s₁ h₁ => ?_) fun _ _ h' => h'.elim)))
  cases r with
  | none => exact wpAny_pure h₁
  | some v =>
    refine wpAny_bind (wpAny_mono h₁ (fun _ s1' h1' => wpAny_bind (wpAny_mono h1' (fun _ s₂ h₂ => wpAny_bind (wpAny_tests_one (wpAny_mono h₂ (fun ok s₃ h₃ => ?_) fun _ _ h' => h'.elim))) fun _ _ h' => h'.elim)) fun _ _ h' => h'.elim)
    cases ok with
    | false => exact wpAny_pure ⟨rfl, h₃⟩
    | true =>
      exact wpAny_bind (wpAny_bind (wpAny_mono h₃ (fun x s₄ h₄ => wpAny_bind (wpAny_mono h₄ (fun _ s₅ h₅ => wpAny_pure (wpAny_pure ⟨rfl, h₅⟩)) fun _ _ h' => h'.elim)) fun _ _ h' => h'.elim))
/-- the reading: W by the turn, a measure, the items so far, the heap -/
abbrev CTailI (J : It) (k : Nat) (g : TG) (tc : TT) (te : TE) (σ : St) (Q : VK) (H1 : Hp) : Prop := ∃ W : Nat → Nat → List V → Hp → Prop, (∃ m, W 0 m [] H1) ∧ ∀ i m ys H, W i m ys H →
  (J.stop i H ∧ ys.length ≤ sizeLine ∧ ∀ p, H p = none → Q (.ref p) (upd H p (.lst ys))) ∨
  (J.go i H ∧ ys.length < sizeLine ∧ ∀ x H', J.yld i H x H' → g x (σ ++ List.replicate k none) H' fun σ2 H2 => (∃ zs, σ2 = σ ++ zs ∧ zs.length = k) ∧ tc σ2 H2 fun b H3 => if b = true then te σ2 H3 fun v H4 => ∃ m', m' < m ∧ W (i + 1) m' (ys ++ [v]) H4 else ∃ m', m' < m ∧ W (i + 1) m' ys H3)
def tCompIf (k : Nat) (wi : TI) (g : TG) (tc : TT) (te : TE) : TE := fun σ H Q => wi σ H fun J H1 => CTailI J k g tc te σ Q H1
theorem pe_compif {X : Cx} {elt target iter c : Expr} {scope : Scope} {pos : Pos} {wi : TI} {g : TG} {tc : TT} {te : TE} {xs : List Str} (hc : X.calm = true) (ok : CompOk X.N X.env.scope scope) (hi : PI X target iter wi)
    (hg : ∀ C s H fp pn, PG (compCx X scope xs C s H fp pn) target g) (ht : ∀ C s H fp pn, PT (compCx X scope xs C s H fp pn) c tc) (he : ∀ C s H fp pn, PE (compCx X scope xs C s H fp pn) elt te)
    (hs : ∀ x, foldedSetIterable iter X.env x = pure x := by intro _; rfl) : PE X (.ListComp elt [⟨target, iter, [c], 0⟩] scope pos) (tCompIf xs.length wi g tc te) := by
  intro pins s σ H Q I h
  rw [eval_ListComp]
  refine wpAny_comprehension_free (use := none) rfl hs (clo_closure (comp_free I ok)) ok.kind ok.names (thn (hi pins s σ H _ I h) fun v s1 h1 => thn h1 fun itv s2 h2 => ?_)
  obtain ⟨it, fp, tn, J, H2, rfl, I2, T, st2, f2, W, ⟨m0, w0⟩, turn⟩ := h2
  refine wpAny_newObj_type (newEnv_comp fun h₁ hns₁ hsb₁ hcl₁ => ?_)
  dsimp only at hns₁ hsb₁ hcl₁ ⊢
  generalize hD : s2.heap.objs.size = D
  generalize hH3 : s2.heap.push { cls := .type "list", dict := none, data := .seq ([] : List Value).toArray } = h3 at hns₁ hsb₁ hcl₁ ⊢
  have k23 : ∀ b o, s2.heap.get? b = some o → h3.get? b = some o := fun b o e => hH3 ▸ Heap.get?_push_of_some _ e
  have hC : h3.objs.size = D + 1 := by rw [← hH3, Heap.size_push, hD]
  have eD3 : h3.get? D = some { cls := .type "list", dict := none, data := .seq ([] : List Value).toArray } := by
    rw [← hH3, ← hD]; exact Heap.get?_push_size _ rfl
  have I3 : Inv X pins σ H2 { s2 with heap := h3 } := I2.kept (t' := s2.toks) k23
  have fD : FpOk X pins H2 D := I2.fpOk (by omega) (I2.hok.fresh (by omega))
  have lt2 : ∀ b ∈ fp, b < D := fun b hb => by
    obtain ⟨o, e, _⟩ := T.obj 0 _ st2 b hb
    rw [← hD]
    exact Heap.lt_size e
  have f3 : ∀ b ∈ D :: fp, FpOk X pins H2 b := fun b hb => by
    rcases List.mem_cons.mp hb with rfl | hb
    · exact fD
    · exact f2 b hb
  have hx3 : ∀ b ∈ D :: fp, b < ({ s2 with heap := h3 } : Shared).heap.objs.size := fun b hb => by
    show b < h3.objs.size
    rcases List.mem_cons.mp hb with rfl | hb
    · rw [hC]; exact Nat.lt_succ_self _
    · rw [hC]; exact Nat.lt_succ_of_lt (lt2 b hb)
  have k31 : ∀ b o, h3.get? b = some o → h₁.get? b = some o := hsb₁
  have okX := comp_ok (C := h3.objs.size) (xs := xs) I3 ok f3 hx3 (Nat.le_refl _)
  have I4 := comp_start (C := h3.objs.size) (xs := xs) (t' := s2.toks + ([] : List (Str × Value)).length) I3 ok f3 hx3 (Nat.le_refl _) hns₁ k31 hcl₁
  have mD : D ∈ D :: fp := List.mem_cons_self
  have neC : ∀ b ∈ D :: fp, b ≠ h3.objs.size := fun b hb => (okX.exf b hb).1
  have stat : ∀ {H' : Hp} {pl : List (Addr × Obj)}, (∀ b ∈ fp, H' b = none) → (∀ p ∈ pl, p.1 = D) → ∀ b ∈ fp, FpOk (compCx X scope xs h3.objs.size { s2 with heap := h3 } H2 (D :: fp) (X.pn ++ pins)) pl H' b := fun hn hpl b hb => by
    have hb' : b ∈ D :: fp := List.mem_cons_of_mem _ hb
    refine ⟨hn b hb, neC b hb', okX.exfs b hb', .inl hb', (okX.exf b hb').2, fun p hp => ?_⟩
    rcases List.mem_append.mp hp with hp | hp
    · exact (f2 b hb).2.2.2.2.2 p hp
    · rw [hpl p hp]
      exact Nat.ne_of_gt (lt2 b hb)
  have loop : codeAny (model X.prog X.w) X.A (.compLoop (.ListComp elt [⟨target, iter, [c], 0⟩] scope pos) 0 (.ref it) (.ref D) (compEnvC scope (cbOf X.env scope h3.objs.size) h3.objs.size X.env))
      (compPost (model X.prog X.w) X.A X.xe none (EP X pins σ Q) (.ref D) h3.objs.size) { s2 with heap := h₁, toks := s2.toks + ([] : List (Str × Value)).length } := by
    refine compLoop_if (fun n s' => ∃ i ys its k H', Inv (compCx X scope xs h3.objs.size { s2 with heap := h3 } H2 (D :: fp) (X.pn ++ pins)) [] (σ ++ List.replicate xs.length none) H' s' ∧
      s'.heap.get? D = some { cls := .type "list", data := .seq (its : List Value).toArray k } ∧ Vals ys its ∧ H' D = none ∧ tn i s'.heap ∧ (∀ b ∈ fp, H' b = none) ∧ W i n ys H') ?_ m0
      ⟨0, [], [], _, H2, I4, k31 _ _ eD3, .nil, fD.1, T.keep _ _ _ st2 (fun b _ o e => k31 b o (k23 b o e)), fun b hb => (f2 b hb).1, w0⟩
    rintro n s' ⟨i, ys, its, k, H', I', eD, rv, nD, st, fr, w⟩
    have Ip := I'.pins_of (pins' := [(D, { cls := .type "list", data := .seq its.toArray k })]) fun p hp => by
      rw [List.mem_singleton] at hp
      subst hp
      exact ⟨eD, nD, neC D mD, okX.exfs D mD, fun v z => by cases z⟩
    have one : ∀ p ∈ [(D, ({ cls := .type "list", data := .seq its.toArray k } : Obj))], p.1 = D := fun p hp => by rw [List.mem_singleton] at hp; rw [hp]
    rcases turn i n ys H' w with ⟨stop, hz, q⟩ | ⟨go, hz, step⟩
    · refine thn (T.done (compCx X scope xs h3.objs.size { s2 with heap := h3 } H2 (D :: fp) (X.pn ++ pins)) rfl rfl rfl hc i _ s' _ H' (fun _ _ => False) Ip (stat fr one) st stop) fun r s4 ⟨hr, J4⟩ => ?_
      subst hr
      obtain ⟨mm, hnm, _⟩ := J4.loc
      refine ⟨mm, hnm, fun h' sb => ?_⟩
      obtain ⟨eD4, nD4, _⟩ := J4.pin (D, { cls := .type "list", data := .seq its.toArray k }) (List.mem_append_right _ List.mem_cons_self)
      have hb : ∀ b o, b ≠ h3.objs.size → s4.heap.get? b = some o → h'.get? b = some o := fun b o hn e => sb.extBut b o hn e
      have u0 : Un (frs X.stack) (D :: fp) H2 H' h3 s4.heap := J4.base
      have u : Un (frs X.stack) (D :: fp) H2 H' s2.heap h' := ((Un.kept k23).trans u0).but hb (by omega)
      have os4 : s4.os = s2.os := J4.os
      refine ⟨.ref D, upd H' D (.lst ys), I2.call' (s' := { s4 with heap := h' }) (ch := D :: fp) os4 (u.track (by omega) nD4) ((J4.hok.but hb J4.free).track nD4 ⟨hz, its, k, rv, hb D _ (neC D mD) eD4⟩) J4.bare (fun b hb => ?_), rfl, q D nD4⟩
      have z := f3 b hb
      exact ⟨z.2.2.2.1, z.2.1, z.2.2.2.2.1, z.2.2.2.2.2⟩
    · refine thn (T.item (compCx X scope xs h3.objs.size { s2 with heap := h3 } H2 (D :: fp) (X.pn ++ pins)) rfl rfl rfl hc i _ s' _ H' (fun _ _ => False) Ip (stat fr one) st go) fun r s4 ⟨u, hr, h4⟩ => ?_
      subst hr
      refine thn h4 fun _ s5 ⟨x, H5, I5, r5, y5, st5, fr5⟩ => ?_
      have I5' := I5.pinned (stat fr5 one) (T.obj _ _ st5)
      refine thn (hg _ _ _ _ _ _ s5 _ H5 x u _ I5' r5 (step x H5 y5)) fun _ s6 ⟨σ6, H6, I6, ⟨zs, hz6, hl6⟩, q6⟩ => ?_
      have pinF : ∀ {s7 : Shared} {σ7 : St} {H7 : Hp}, Inv (compCx X scope xs h3.objs.size { s2 with heap := h3 } H2 (D :: fp) (X.pn ++ pins)) ([(D, { cls := .type "list", data := .seq its.toArray k })] ++ pinsAt fp s5.heap) σ7 H7 s7 → ∀ b ∈ fp, ∀ o, s5.heap.get? b = some o → s7.heap.get? b = some o ∧ H7 b = none := fun I7 b hb o e =>
        ⟨(I7.pin (b, o) (List.mem_append_right _ (List.mem_append_right _ (mem_pinsAt hb e)))).1, (I7.pin (b, o) (List.mem_append_right _ (List.mem_append_right _ (mem_pinsAt hb e)))).2.1⟩
      have back : ∀ {H7 : Hp} {s7 : Shared}, Inv (compCx X scope xs h3.objs.size { s2 with heap := h3 } H2 (D :: fp) (X.pn ++ pins)) [] σ6 H7 s7 → Inv (compCx X scope xs h3.objs.size { s2 with heap := h3 } H2 (D :: fp) (X.pn ++ pins)) [] (σ ++ List.replicate xs.length none) H7 s7 := fun I8 =>
        I8.weak (by rw [hz6, List.length_append, List.length_append, List.length_replicate, hl6]) (fun j v' e => by
          have hj : j < σ.length := by
            by_cases hj : j < σ.length
            · exact hj
            · rw [List.getElem?_append_right (by omega), List.getElem?_replicate] at e
              split at e <;> cases e
          rw [List.getElem?_append_left hj] at e
          rw [hz6, List.getElem?_append_left hj]
          exact e)
      refine thn (ht _ _ _ _ _ _ s6 σ6 H6 _ I6 q6) fun ok s6' ⟨H6', I6', q6'⟩ => ?_
      cases ok with
      | false =>
        obtain ⟨m', hm', w7⟩ := (show ∃ m', m' < n ∧ W (i + 1) m' ys H6' from q6')
        obtain ⟨eD7, nD7, _⟩ := I6'.pin (D, { cls := .type "list", data := .seq its.toArray k }) (List.mem_append_right _ (List.mem_append_left _ List.mem_cons_self))
        refine ⟨m', hm', i + 1, ys, its, _, H6', back (I6'.pins_of (pins' := []) fun p hp => by cases hp), eD7, rv, nD7, T.keep _ _ _ st5 (fun b hb o e => (pinF I6' b hb o e).1), fun b hb => ?_, w7⟩
        obtain ⟨o, e, _⟩ := T.obj _ _ st5 b hb
        exact (pinF I6' b hb o e).2
      | true =>
        refine thn (he _ _ _ _ _ _ s6' σ6 H6' _ I6' q6') fun xv s7 ⟨v, H7, I7, r7, m', hm', w7⟩ => ?_
        obtain ⟨eD7, nD7, _⟩ := I7.pin (D, { cls := .type "list", data := .seq its.toArray k }) (List.mem_append_right _ (List.mem_append_left _ List.mem_cons_self))
        have len := rv.length
        refine call_meets F.slot_list_append ⟨_, eD7, rfl⟩ F.entry_list_append (F.args_list_append_2 _ _) (PySem.list_append D its.toArray k xv (by rw [List.size_toArray]; omega)) ⟨eD7, ?_⟩
        have q := PySem.IsL.update eD7 (fun a => a.push xv)
        have other : ∀ b o, b ≠ D → s7.heap.get? b = some o → (s7.heap.update D (Obj.mapSeq fun a => a.push xv)).get? b = some o := fun b o hb e => (Heap.get?_update_other s7.heap _ (Ne.symm hb)).trans e
        have I7' := I7.pins_of (pins' := []) fun p hp => by cases hp
        have I8 := I7'.turned (t' := s7.toks) (it := D) other nD7 (neC D mD) (.inl mD) (okX.exf D mD).2 (fun p hp => by
          rw [List.append_nil] at hp
          exact fD.2.2.2.2.2 p hp)
        have e9 : its.toArray.push xv = (its ++ [xv]).toArray := by simp
        rw [e9] at q
        refine ⟨m', hm', i + 1, ys ++ [v], its ++ [xv], _, H7, back I8, q, rv.append (.cons r7 .nil), nD7, T.keep _ _ _ st5 (fun b hb o e => other b o (Nat.ne_of_lt (lt2 b hb)) (pinF I7 b hb o e).1), fun b hb => ?_, w7⟩
        obtain ⟨o, e, _⟩ := T.obj _ _ st5 b hb
        exact (pinF I7 b hb o e).2
  exact codeAny_compStart_list loop (T.self _ 0 _ _ _ (T.keep _ _ _ st2 fun b _ o e => k31 b o (k23 b o e)) loop)
end L2
/-! x = [.. for ..], stored ahead of the block's end (behind Comp, CompIf). -/
namespace L2
open PySem PySem.Spec PyProof.Rows
theorem ps_setC {X : Cx} {i₀ : Nat} {x₀ : Str} {pos₀ pos₁ : Pos} {elt target iter : Expr} {scope : Scope} {pos : Pos} {wi : TI} {g : TG} {te : TE} {xs : List Str} (hN : X.N.Nodup) (hi₀ : X.N[i₀]? = some x₀) (hx₀ : Loc X.env.scope x₀) (hc : X.calm = true) (ok : CompOk X.N X.env.scope scope) (hi : PI X target iter wi)
    (hg : ∀ C s H fp pn, PG (compCx X scope xs C s H fp pn) target g) (he : ∀ C s H fp pn, PE (compCx X scope xs C s H fp pn) elt te)
    (hs : ∀ x, foldedSetIterable iter X.env x = pure x := by intro _; rfl) (hw : swapsWith (.ListComp elt [⟨target, iter, [], 0⟩] scope pos) (some (.Name x₀ pos₀)) pos₁.line X.env = pure true := by rfl)
    (hf₀ : X.fn x₀ = true ∨ X.env.scope.names.lookup x₀ = some .local := by first | exact .inl rfl | exact .inr rfl | assumption) :
    PS X (.Assign [.Name x₀ pos₀] (.ListComp elt [⟨target, iter, [], 0⟩] scope pos) pos₁) (tAsg (tComp xs.length wi g te) (gName i₀)) := by
  intro pins s σ H D₀ I h
  rw [exec_Assign_Name_used _ _ _ _ hw]
  refine wpAny_bind (wpAny_standAt (wpAny_bind ?_))
  show wpAny _ _ (comprehension _ _ _ _ _ _ _ _ >>= _) _ _ _
  refine wpAny_bind (wpAny_comprehension_free (Q := fun _ s' => wpAny (model X.prog X.w) X.A (pure ()) (fun _ s'' => wpAny (model X.prog X.w) X.A (pure Flow.next) (SP X pins D₀) X.xe s'') X.xe s') (use := some (assign (.Name x₀ pos₀) X.env)) rfl hs (clo_closure (comp_free I ok)) ok.kind ok.names (thn (hi pins s σ H _ I h) fun v s1 h1 => thn h1 fun itv s2 h2 => ?_))
  obtain ⟨it, fp, tn, J, H2, rfl, I2, T, st2, f2, W, ⟨m0, w0⟩, turn⟩ := h2
  refine wpAny_newObj_type (newEnv_comp fun h₁ hns₁ hsb₁ hcl₁ => ?_)
  dsimp only at hns₁ hsb₁ hcl₁ ⊢
  generalize hD : s2.heap.objs.size = D
  generalize hH3 : s2.heap.push { cls := .type "list", dict := none, data := .seq ([] : List Value).toArray } = h3 at hns₁ hsb₁ hcl₁ ⊢
  have k23 : ∀ b o, s2.heap.get? b = some o → h3.get? b = some o := fun b o e => hH3 ▸ Heap.get?_push_of_some _ e
  have hC : h3.objs.size = D + 1 := by rw [← hH3, Heap.size_push, hD]
  have eD3 : h3.get? D = some { cls := .type "list", dict := none, data := .seq ([] : List Value).toArray } := by
    rw [← hH3, ← hD]; exact Heap.get?_push_size _ rfl
  have I3 : Inv X pins σ H2 { s2 with heap := h3 } := I2.kept (t' := s2.toks) k23
  have fD : FpOk X pins H2 D := I2.fpOk (by omega) (I2.hok.fresh (by omega))
  have lt2 : ∀ b ∈ fp, b < D := fun b hb => by
    obtain ⟨o, e, _⟩ := T.obj 0 _ st2 b hb
    rw [← hD]
    exact Heap.lt_size e
  have f3 : ∀ b ∈ D :: fp, FpOk X pins H2 b := fun b hb => by
    rcases List.mem_cons.mp hb with rfl | hb
    · exact fD
    · exact f2 b hb
  have hx3 : ∀ b ∈ D :: fp, b < ({ s2 with heap := h3 } : Shared).heap.objs.size := fun b hb => by
    show b < h3.objs.size
    rcases List.mem_cons.mp hb with rfl | hb
    · rw [hC]; exact Nat.lt_succ_self _
    · rw [hC]; exact Nat.lt_succ_of_lt (lt2 b hb)
  have k31 : ∀ b o, h3.get? b = some o → h₁.get? b = some o := hsb₁
  have okX := comp_ok (C := h3.objs.size) (xs := xs) I3 ok f3 hx3 (Nat.le_refl _)
  have I4 := comp_start (C := h3.objs.size) (xs := xs) (t' := s2.toks + ([] : List (Str × Value)).length) I3 ok f3 hx3 (Nat.le_refl _) hns₁ k31 hcl₁
  have mD : D ∈ D :: fp := List.mem_cons_self
  have neC : ∀ b ∈ D :: fp, b ≠ h3.objs.size := fun b hb => (okX.exf b hb).1
  have stat : ∀ {H' : Hp} {pl : List (Addr × Obj)}, (∀ b ∈ fp, H' b = none) → (∀ p ∈ pl, p.1 = D) → ∀ b ∈ fp, FpOk (compCx X scope xs h3.objs.size { s2 with heap := h3 } H2 (D :: fp) (X.pn ++ pins)) pl H' b := fun hn hpl b hb => by
    have hb' : b ∈ D :: fp := List.mem_cons_of_mem _ hb
    refine ⟨hn b hb, neC b hb', okX.exfs b hb', .inl hb', (okX.exf b hb').2, fun p hp => ?_⟩
    rcases List.mem_append.mp hp with hp | hp
    · exact (f2 b hb).2.2.2.2.2 p hp
    · rw [hpl p hp]
      exact Nat.ne_of_gt (lt2 b hb)
  have loop : codeAny (model X.prog X.w) X.A (.compLoop (.ListComp elt [⟨target, iter, [], 0⟩] scope pos) 0 (.ref it) (.ref D) (compEnvC scope (cbOf X.env scope h3.objs.size) h3.objs.size X.env))
      (compPost (model X.prog X.w) X.A X.xe (some (assign (.Name x₀ pos₀) X.env)) (fun _ s' => wpAny (model X.prog X.w) X.A (pure ()) (fun _ s'' => wpAny (model X.prog X.w) X.A (pure Flow.next) (SP X pins D₀) X.xe s'') X.xe s') (.ref D) h3.objs.size) { s2 with heap := h₁, toks := s2.toks + ([] : List (Str × Value)).length } := by
    refine compLoop_any (fun n s' => ∃ i ys its k H', Inv (compCx X scope xs h3.objs.size { s2 with heap := h3 } H2 (D :: fp) (X.pn ++ pins)) [] (σ ++ List.replicate xs.length none) H' s' ∧
      s'.heap.get? D = some { cls := .type "list", data := .seq (its : List Value).toArray k } ∧ Vals ys its ∧ H' D = none ∧ tn i s'.heap ∧ (∀ b ∈ fp, H' b = none) ∧ W i n ys H') ?_ m0
      ⟨0, [], [], _, H2, I4, k31 _ _ eD3, .nil, fD.1, T.keep _ _ _ st2 (fun b _ o e => k31 b o (k23 b o e)), fun b hb => (f2 b hb).1, w0⟩
    rintro n s' ⟨i, ys, its, k, H', I', eD, rv, nD, st, fr, w⟩
    have Ip := I'.pins_of (pins' := [(D, { cls := .type "list", data := .seq its.toArray k })]) fun p hp => by
      rw [List.mem_singleton] at hp
      subst hp
      exact ⟨eD, nD, neC D mD, okX.exfs D mD, fun v z => by cases z⟩
    have one : ∀ p ∈ [(D, ({ cls := .type "list", data := .seq its.toArray k } : Obj))], p.1 = D := fun p hp => by rw [List.mem_singleton] at hp; rw [hp]
    rcases turn i n ys H' w with ⟨stop, hz, q⟩ | ⟨go, hz, step⟩
    · refine thn (T.done (compCx X scope xs h3.objs.size { s2 with heap := h3 } H2 (D :: fp) (X.pn ++ pins)) rfl rfl rfl hc i _ s' _ H' (fun _ _ => False) Ip (stat fr one) st stop) fun r s4 ⟨hr, J4⟩ => ?_
      subst hr
      obtain ⟨mm, hnm, _⟩ := J4.loc
      obtain ⟨eD4, nD4, _⟩ := J4.pin (D, { cls := .type "list", data := .seq its.toArray k }) (List.mem_append_right _ List.mem_cons_self)
      have u0 : Un (frs X.stack) (D :: fp) H2 H' h3 s4.heap := J4.base
      have u : Un (frs X.stack) (D :: fp) H2 H' s2.heap s4.heap := (Un.kept k23).trans u0
      have os4 : s4.os = s2.os := J4.os
      have nC4 : H' h3.objs.size = none := J4.free
      have IX : Inv X pins σ (upd H' D (.lst ys)) s4 := I2.call' (s' := s4) (ch := D :: fp) os4 (u.track (by omega) nD4) (J4.hok.track nD4 ⟨hz, its, k, rv, eD4⟩) J4.bare (fun b hb => by
        have z := f3 b hb
        exact ⟨z.2.2.2.1, z.2.1, z.2.2.2.2.1, z.2.2.2.2.2⟩)
      have fC : FpOk X pins H2 h3.objs.size := I2.fpOk (by omega) (I2.hok.fresh (by omega))
      have nCX : upd H' D (.lst ys) h3.objs.size = none := by rw [upd_ne (Ne.symm (neC D mD))]; exact nC4
      refine wpAny_assign_Name (store_ok2 IX hN hi₀ hx₀ (v := .ref D) rfl (fun s5 I5 ⟨a5, sb5, ha5⟩ => ⟨mm, ?_, fun h' sb => ?_⟩) hf₀)
      · have : h3.objs.size ≠ a5 := by
          rcases ha5 with e | e
          · rw [e]; exact fC.2.1
          · exact Ne.symm (fC.2.2.2.2.1 x₀ a5 e)
        obtain ⟨o, es, ep, e, r⟩ := hnm
        exact ⟨o, es, ep, sb5.extBut _ _ this e, r⟩
      · have I6 : Inv X pins (σ.set i₀ (some (.ref D))) (upd H' D (.lst ys)) { s5 with heap := h' } := I5.turned (t' := s5.toks) (it := h3.objs.size) (fun b o hb e => sb.extBut b o hb e) nCX fC.2.1 fC.2.2.2.1 fC.2.2.2.2.1 fC.2.2.2.2.2
        exact wpAny_pure (wpAny_pure ⟨_, _, I6, q D nD4⟩)
    · refine thn (T.item (compCx X scope xs h3.objs.size { s2 with heap := h3 } H2 (D :: fp) (X.pn ++ pins)) rfl rfl rfl hc i _ s' _ H' (fun _ _ => False) Ip (stat fr one) st go) fun r s4 ⟨u, hr, h4⟩ => ?_
      subst hr
      refine thn h4 fun _ s5 ⟨x, H5, I5, r5, y5, st5, fr5⟩ => ?_
      have I5' := I5.pinned (stat fr5 one) (T.obj _ _ st5)
      refine thn (hg _ _ _ _ _ _ s5 _ H5 x u _ I5' r5 (step x H5 y5)) fun _ s6 ⟨σ6, H6, I6, ⟨zs, hz6, hl6⟩, q6⟩ => ?_
      refine thn (he _ _ _ _ _ _ s6 σ6 H6 _ I6 q6) fun xv s7 ⟨v, H7, I7, r7, m', hm', w7⟩ => ?_
      obtain ⟨eD7, nD7, _⟩ := I7.pin (D, { cls := .type "list", data := .seq its.toArray k }) (List.mem_append_right _ (List.mem_append_left _ List.mem_cons_self))
      have len := rv.length
      refine call_meets F.slot_list_append ⟨_, eD7, rfl⟩ F.entry_list_append (F.args_list_append_2 _ _) (PySem.list_append D its.toArray k xv (by rw [List.size_toArray]; omega)) ⟨eD7, ?_⟩
      have q := PySem.IsL.update eD7 (fun a => a.push xv)
      have other : ∀ b o, b ≠ D → s7.heap.get? b = some o → (s7.heap.update D (Obj.mapSeq fun a => a.push xv)).get? b = some o := fun b o hb e => (Heap.get?_update_other s7.heap _ (Ne.symm hb)).trans e
      have pinF : ∀ b ∈ fp, ∀ o, s5.heap.get? b = some o → s7.heap.get? b = some o ∧ H7 b = none := fun b hb o e =>
        ⟨(I7.pin (b, o) (List.mem_append_right _ (List.mem_append_right _ (mem_pinsAt hb e)))).1, (I7.pin (b, o) (List.mem_append_right _ (List.mem_append_right _ (mem_pinsAt hb e)))).2.1⟩
      have I7' := I7.pins_of (pins' := []) fun p hp => by cases hp
      have I8 := I7'.turned (t' := s7.toks) (it := D) other nD7 (neC D mD) (.inl mD) (okX.exf D mD).2 (fun p hp => by
        rw [List.append_nil] at hp
        exact fD.2.2.2.2.2 p hp)
      have I9 := I8.weak (σ' := σ ++ List.replicate xs.length none) (by rw [hz6, List.length_append, List.length_append, List.length_replicate, hl6]) (fun j v' e => by
        have hj : j < σ.length := by
          by_cases hj : j < σ.length
          · exact hj
          · rw [List.getElem?_append_right (by omega), List.getElem?_replicate] at e
            split at e <;> cases e
        rw [List.getElem?_append_left hj] at e
        rw [hz6, List.getElem?_append_left hj]
        exact e)
      have e9 : its.toArray.push xv = (its ++ [xv]).toArray := by simp
      rw [e9] at q
      refine ⟨m', hm', i + 1, ys ++ [v], its ++ [xv], _, H7, I9, q, rv.append (.cons r7 .nil), nD7, T.keep _ _ _ st5 (fun b hb o e => other b o (Nat.ne_of_lt (lt2 b hb)) (pinF b hb o e).1), fun b hb => ?_, w7⟩
      obtain ⟨o, e, _⟩ := T.obj _ _ st5 b hb
      exact (pinF b hb o e).2
  exact codeAny_compStart_list loop (T.self _ 0 _ _ _ (T.keep _ _ _ st2 fun b _ o e => k31 b o (k23 b o e)) loop)
theorem ps_setCI {X : Cx} {i₀ : Nat} {x₀ : Str} {pos₀ pos₁ : Pos} {elt target iter c : Expr} {scope : Scope} {pos : Pos} {wi : TI} {g : TG} {tc : TT} {te : TE} {xs : List Str} (hN : X.N.Nodup) (hi₀ : X.N[i₀]? = some x₀) (hx₀ : Loc X.env.scope x₀) (hc : X.calm = true) (ok : CompOk X.N X.env.scope scope) (hi : PI X target iter wi)
    (hg : ∀ C s H fp pn, PG (compCx X scope xs C s H fp pn) target g) (ht : ∀ C s H fp pn, PT (compCx X scope xs C s H fp pn) c tc) (he : ∀ C s H fp pn, PE (compCx X scope xs C s H fp pn) elt te)
    (hs : ∀ x, foldedSetIterable iter X.env x = pure x := by intro _; rfl) (hw : swapsWith (.ListComp elt [⟨target, iter, [c], 0⟩] scope pos) (some (.Name x₀ pos₀)) pos₁.line X.env = pure true := by rfl)
    (hf₀ : X.fn x₀ = true ∨ X.env.scope.names.lookup x₀ = some .local := by first | exact .inl rfl | exact .inr rfl | assumption) :
    PS X (.Assign [.Name x₀ pos₀] (.ListComp elt [⟨target, iter, [c], 0⟩] scope pos) pos₁) (tAsg (tCompIf xs.length wi g tc te) (gName i₀)) := by
  intro pins s σ H D₀ I h
  rw [exec_Assign_Name_used _ _ _ _ hw]
  refine wpAny_bind (wpAny_standAt (wpAny_bind ?_))
  show wpAny _ _ (comprehension _ _ _ _ _ _ _ _ >>= _) _ _ _
  refine wpAny_bind (wpAny_comprehension_free (Q := fun _ s' => wpAny (model X.prog X.w) X.A (pure ()) (fun _ s'' => wpAny (model X.prog X.w) X.A (pure Flow.next) (SP X pins D₀) X.xe s'') X.xe s') (use := some (assign (.Name x₀ pos₀) X.env)) rfl hs (clo_closure (comp_free I ok)) ok.kind ok.names (thn (hi pins s σ H _ I h) fun v s1 h1 => thn h1 fun itv s2 h2 => ?_))
  obtain ⟨it, fp, tn, J, H2, rfl, I2, T, st2, f2, W, ⟨m0, w0⟩, turn⟩ := h2
  refine wpAny_newObj_type (newEnv_comp fun h₁ hns₁ hsb₁ hcl₁ => ?_)
  dsimp only at hns₁ hsb₁ hcl₁ ⊢
  generalize hD : s2.heap.objs.size = D
  generalize hH3 : s2.heap.push { cls := .type "list", dict := none, data := .seq ([] : List Value).toArray } = h3 at hns₁ hsb₁ hcl₁ ⊢
  have k23 : ∀ b o, s2.heap.get? b = some o → h3.get? b = some o := fun b o e => hH3 ▸ Heap.get?_push_of_some _ e
  have hC : h3.objs.size = D + 1 := by rw [← hH3, Heap.size_push, hD]
  have eD3 : h3.get? D = some { cls := .type "list", dict := none, data := .seq ([] : List Value).toArray } := by
    rw [← hH3, ← hD]; exact Heap.get?_push_size _ rfl
  have I3 : Inv X pins σ H2 { s2 with heap := h3 } := I2.kept (t' := s2.toks) k23
  have fD : FpOk X pins H2 D := I2.fpOk (by omega) (I2.hok.fresh (by omega))
  have lt2 : ∀ b ∈ fp, b < D := fun b hb => by
    obtain ⟨o, e, _⟩ := T.obj 0 _ st2 b hb
    rw [← hD]
    exact Heap.lt_size e
  have f3 : ∀ b ∈ D :: fp, FpOk X pins H2 b := fun b hb => by
    rcases List.mem_cons.mp hb with rfl | hb
    · exact fD
    · exact f2 b hb
  have hx3 : ∀ b ∈ D :: fp, b < ({ s2 with heap := h3 } : Shared).heap.objs.size := fun b hb => by
    show b < h3.objs.size
    rcases List.mem_cons.mp hb with rfl | hb
    · rw [hC]; exact Nat.lt_succ_self _
    · rw [hC]; exact Nat.lt_succ_of_lt (lt2 b hb)
  have k31 : ∀ b o, h3.get? b = some o → h₁.get? b = some o := hsb₁
  have okX := comp_ok (C := h3.objs.size) (xs := xs) I3 ok f3 hx3 (Nat.le_refl _)
  have I4 := comp_start (C := h3.objs.size) (xs := xs) (t' := s2.toks + ([] : List (Str × Value)).length) I3 ok f3 hx3 (Nat.le_refl _) hns₁ k31 hcl₁
  have mD : D ∈ D :: fp := List.mem_cons_self
  have neC : ∀ b ∈ D :: fp, b ≠ h3.objs.size := fun b hb => (okX.exf b hb).1
  have stat : ∀ {H' : Hp} {pl : List (Addr × Obj)}, (∀ b ∈ fp, H' b = none) → (∀ p ∈ pl, p.1 = D) → ∀ b ∈ fp, FpOk (compCx X scope xs h3.objs.size { s2 with heap := h3 } H2 (D :: fp) (X.pn ++ pins)) pl H' b := fun hn hpl b hb => by
    have hb' : b ∈ D :: fp := List.mem_cons_of_mem _ hb
    refine ⟨hn b hb, neC b hb', okX.exfs b hb', .inl hb', (okX.exf b hb').2, fun p hp => ?_⟩
    rcases List.mem_append.mp hp with hp | hp
    · exact (f2 b hb).2.2.2.2.2 p hp
    · rw [hpl p hp]
      exact Nat.ne_of_gt (lt2 b hb)
  have loop : codeAny (model X.prog X.w) X.A (.compLoop (.ListComp elt [⟨target, iter, [c], 0⟩] scope pos) 0 (.ref it) (.ref D) (compEnvC scope (cbOf X.env scope h3.objs.size) h3.objs.size X.env))
      (compPost (model X.prog X.w) X.A X.xe (some (assign (.Name x₀ pos₀) X.env)) (fun _ s' => wpAny (model X.prog X.w) X.A (pure ()) (fun _ s'' => wpAny (model X.prog X.w) X.A (pure Flow.next) (SP X pins D₀) X.xe s'') X.xe s') (.ref D) h3.objs.size) { s2 with heap := h₁, toks := s2.toks + ([] : List (Str × Value)).length } := by
    refine compLoop_if (fun n s' => ∃ i ys its k H', Inv (compCx X scope xs h3.objs.size { s2 with heap := h3 } H2 (D :: fp) (X.pn ++ pins)) [] (σ ++ List.replicate xs.length none) H' s' ∧
      s'.heap.get? D = some { cls := .type "list", data := .seq (its : List Value).toArray k } ∧ Vals ys its ∧ H' D = none ∧ tn i s'.heap ∧ (∀ b ∈ fp, H' b = none) ∧ W i n ys H') ?_ m0
      ⟨0, [], [], _, H2, I4, k31 _ _ eD3, .nil, fD.1, T.keep _ _ _ st2 (fun b _ o e => k31 b o (k23 b o e)), fun b hb => (f2 b hb).1, w0⟩
    rintro n s' ⟨i, ys, its, k, H', I', eD, rv, nD, st, fr, w⟩
    have Ip := I'.pins_of (pins' := [(D, { cls := .type "list", data := .seq its.toArray k })]) fun p hp => by
      rw [List.mem_singleton] at hp
      subst hp
      exact ⟨eD, nD, neC D mD, okX.exfs D mD, fun v z => by cases z⟩
    have one : ∀ p ∈ [(D, ({ cls := .type "list", data := .seq its.toArray k } : Obj))], p.1 = D := fun p hp => by rw [List.mem_singleton] at hp; rw [hp]
    rcases turn i n ys H' w with ⟨stop, hz, q⟩ | ⟨go, hz, step⟩
    · refine thn (T.done (compCx X scope xs h3.objs.size { s2 with heap := h3 } H2 (D :: fp) (X.pn ++ pins)) rfl rfl rfl hc i _ s' _ H' (fun _ _ => False) Ip (stat fr one) st stop) fun r s4 ⟨hr, J4⟩ => ?_
      subst hr
      obtain ⟨mm, hnm, _⟩ := J4.loc
      obtain ⟨eD4, nD4, _⟩ := J4.pin (D, { cls := .type "list", data := .seq its.toArray k }) (List.mem_append_right _ List.mem_cons_self)
      have u0 : Un (frs X.stack) (D :: fp) H2 H' h3 s4.heap := J4.base
      have u : Un (frs X.stack) (D :: fp) H2 H' s2.heap s4.heap := (Un.kept k23).trans u0
      have os4 : s4.os = s2.os := J4.os
      have nC4 : H' h3.objs.size = none := J4.free
      have IX : Inv X pins σ (upd H' D (.lst ys)) s4 := I2.call' (s' := s4) (ch := D :: fp) os4 (u.track (by omega) nD4) (J4.hok.track nD4 ⟨hz, its, k, rv, eD4⟩) J4.bare (fun b hb => by
        have z := f3 b hb
        exact ⟨z.2.2.2.1, z.2.1, z.2.2.2.2.1, z.2.2.2.2.2⟩)
      have fC : FpOk X pins H2 h3.objs.size := I2.fpOk (by omega) (I2.hok.fresh (by omega))
      have nCX : upd H' D (.lst ys) h3.objs.size = none := by rw [upd_ne (Ne.symm (neC D mD))]; exact nC4
      refine wpAny_assign_Name (store_ok2 IX hN hi₀ hx₀ (v := .ref D) rfl (fun s5 I5 ⟨a5, sb5, ha5⟩ => ⟨mm, ?_, fun h' sb => ?_⟩) hf₀)
      · have : h3.objs.size ≠ a5 := by
          rcases ha5 with e | e
          · rw [e]; exact fC.2.1
          · exact Ne.symm (fC.2.2.2.2.1 x₀ a5 e)
        obtain ⟨o, es, ep, e, r⟩ := hnm
        exact ⟨o, es, ep, sb5.extBut _ _ this e, r⟩
      · have I6 : Inv X pins (σ.set i₀ (some (.ref D))) (upd H' D (.lst ys)) { s5 with heap := h' } := I5.turned (t' := s5.toks) (it := h3.objs.size) (fun b o hb e => sb.extBut b o hb e) nCX fC.2.1 fC.2.2.2.1 fC.2.2.2.2.1 fC.2.2.2.2.2
        exact wpAny_pure (wpAny_pure ⟨_, _, I6, q D nD4⟩)
    · refine thn (T.item (compCx X scope xs h3.objs.size { s2 with heap := h3 } H2 (D :: fp) (X.pn ++ pins)) rfl rfl rfl hc i _ s' _ H' (fun _ _ => False) Ip (stat fr one) st go) fun r s4 ⟨u, hr, h4⟩ => ?_
      subst hr
      refine thn h4 fun _ s5 ⟨x, H5, I5, r5, y5, st5, fr5⟩ => ?_
      have I5' := I5.pinned (stat fr5 one) (T.obj _ _ st5)
      refine thn (hg _ _ _ _ _ _ s5 _ H5 x u _ I5' r5 (step x H5 y5)) fun _ s6 ⟨σ6, H6, I6, ⟨zs, hz6, hl6⟩, q6⟩ => ?_
      have pinF : ∀ {s7 : Shared} {σ7 : St} {H7 : Hp}, Inv (compCx X scope xs h3.objs.size { s2 with heap := h3 } H2 (D :: fp) (X.pn ++ pins)) ([(D, { cls := .type "list", data := .seq its.toArray k })] ++ pinsAt fp s5.heap) σ7 H7 s7 → ∀ b ∈ fp, ∀ o, s5.heap.get? b = some o → s7.heap.get? b = some o ∧ H7 b = none := fun I7 b hb o e =>
        ⟨(I7.pin (b, o) (List.mem_append_right _ (List.mem_append_right _ (mem_pinsAt hb e)))).1, (I7.pin (b, o) (List.mem_append_right _ (List.mem_append_right _ (mem_pinsAt hb e)))).2.1⟩
      have back : ∀ {H7 : Hp} {s7 : Shared}, Inv (compCx X scope xs h3.objs.size { s2 with heap := h3 } H2 (D :: fp) (X.pn ++ pins)) [] σ6 H7 s7 → Inv (compCx X scope xs h3.objs.size { s2 with heap := h3 } H2 (D :: fp) (X.pn ++ pins)) [] (σ ++ List.replicate xs.length none) H7 s7 := fun I8 =>
        I8.weak (by rw [hz6, List.length_append, List.length_append, List.length_replicate, hl6]) (fun j v' e => by
          have hj : j < σ.length := by
            by_cases hj : j < σ.length
            · exact hj
            · rw [List.getElem?_append_right (by omega), List.getElem?_replicate] at e
              split at e <;> cases e
          rw [List.getElem?_append_left hj] at e
          rw [hz6, List.getElem?_append_left hj]
          exact e)
      refine thn (ht _ _ _ _ _ _ s6 σ6 H6 _ I6 q6) fun ok s6' ⟨H6', I6', q6'⟩ => ?_
      cases ok with
      | false =>
        obtain ⟨m', hm', w7⟩ := (show ∃ m', m' < n ∧ W (i + 1) m' ys H6' from q6')
        obtain ⟨eD7, nD7, _⟩ := I6'.pin (D, { cls := .type "list", data := .seq its.toArray k }) (List.mem_append_right _ (List.mem_append_left _ List.mem_cons_self))
        refine ⟨m', hm', i + 1, ys, its, _, H6', back (I6'.pins_of (pins' := []) fun p hp => by cases hp), eD7, rv, nD7, T.keep _ _ _ st5 (fun b hb o e => (pinF I6' b hb o e).1), fun b hb => ?_, w7⟩
        obtain ⟨o, e, _⟩ := T.obj _ _ st5 b hb
        exact (pinF I6' b hb o e).2
      | true =>
        refine thn (he _ _ _ _ _ _ s6' σ6 H6' _ I6' q6') fun xv s7 ⟨v, H7, I7, r7, m', hm', w7⟩ => ?_
        obtain ⟨eD7, nD7, _⟩ := I7.pin (D, { cls := .type "list", data := .seq its.toArray k }) (List.mem_append_right _ (List.mem_append_left _ List.mem_cons_self))
        have len := rv.length
        refine call_meets F.slot_list_append ⟨_, eD7, rfl⟩ F.entry_list_append (F.args_list_append_2 _ _) (PySem.list_append D its.toArray k xv (by rw [List.size_toArray]; omega)) ⟨eD7, ?_⟩
        have q := PySem.IsL.update eD7 (fun a => a.push xv)
        have other : ∀ b o, b ≠ D → s7.heap.get? b = some o → (s7.heap.update D (Obj.mapSeq fun a => a.push xv)).get? b = some o := fun b o hb e => (Heap.get?_update_other s7.heap _ (Ne.symm hb)).trans e
        have I7' := I7.pins_of (pins' := []) fun p hp => by cases hp
        have I8 := I7'.turned (t' := s7.toks) (it := D) other nD7 (neC D mD) (.inl mD) (okX.exf D mD).2 (fun p hp => by
          rw [List.append_nil] at hp
          exact fD.2.2.2.2.2 p hp)
        have e9 : its.toArray.push xv = (its ++ [xv]).toArray := by simp
        rw [e9] at q
        refine ⟨m', hm', i + 1, ys ++ [v], its ++ [xv], _, H7, back I8, q, rv.append (.cons r7 .nil), nD7, T.keep _ _ _ st5 (fun b hb o e => other b o (Nat.ne_of_lt (lt2 b hb)) (pinF I7 b hb o e).1), fun b hb => ?_, w7⟩
        obtain ⟨o, e, _⟩ := T.obj _ _ st5 b hb
        exact (pinF I7 b hb o e).2
  exact codeAny_compStart_list loop (T.self _ 0 _ _ _ (T.keep _ _ _ st2 fun b _ o e => k31 b o (k23 b o e)) loop)
/-- a store whose value's own block shadows the name in slot i, not yet bound -/
theorem ps_hideA {X : Cx} {st : Stmt} {te : TE} {i₀ : Nat} (i : Nat) (y : Str) (hi : i₀ ≠ i) (h : PS (X.rn i y) st (tAsg te (gName i₀))) : PS X st (fun D σ H => σ[i]? = some none ∧ tAsg te (gName i₀) D σ H) := by
  intro pins s σ H D I ⟨h0, q⟩
  have e : (fun v H1 => (σ.set i₀ (some v))[i]? = some none ∧ D.nx (σ.set i₀ (some v)) H1) = fun v H1 => D.nx (σ.set i₀ (some v)) H1 := by
    funext v H1
    exact propext ⟨fun z => z.2, fun z => ⟨by rw [List.getElem?_set_ne hi]; exact h0, z⟩⟩
  have q' : tAsg te (gName i₀) { D with nx := fun σ' H' => σ'[i]? = some none ∧ D.nx σ' H', rt := fun _ _ => False, bk := fun _ _ => False, ct := fun _ _ => False } σ H := by
    show te σ H fun v H1 => (σ.set i₀ (some v))[i]? = some none ∧ D.nx (σ.set i₀ (some v)) H1
    rw [e]
    exact q
  refine thn (h pins s σ H _ (I.rn h0) q') fun f s1 sp => ?_
  cases f with
  | next =>
    obtain ⟨σ', H', I', z, n⟩ := sp
    exact ⟨σ', H', I'.unrn I.ok z, n⟩
  | ret v => obtain ⟨_, _, _, _, _, z⟩ := sp; exact z.elim
  | brk => obtain ⟨_, _, _, z⟩ := sp; exact z.elim
  | cont => obtain ⟨_, _, _, z⟩ := sp; exact z.elim
end L2
/-! zip of two and enumerate, over lists, tuples and texts. -/
namespace L2
open PySem PySem.Spec PyProof.Rows
section
variable {prog : Program} {w : World} {A : Around} {E : Value → Shared → Prop} {s : Shared}
theorem nextT_item {I t : Addr} {i : Nat} {vs : Array Value} {x : Value} {Q : Value → Shared → Prop} (hI : s.heap.IsTupleIter I t i) (ht : s.heap.IsTuple t vs) (e : vs[i]? = some x)
    (q : ∀ h', h'.IsTupleIter I t (i + 1) → Heap.SameBut I s.heap h' → Q x { s with heap := h' }) : wpAny (model prog w) A (Builtin.SmallTypes.nextOf (.ref I)) Q E s := by
  obtain ⟨o, eo, co, fo⟩ := id hI; obtain ⟨u, eu, _, n, fu⟩ := ht; unfold Builtin.SmallTypes.nextOf
  refine wpAny_bind (wpAny_callSpecial?_slot (name := Str.ofString "__next__") hI.typeIs F.slot_tuple_iterator_next (wpAny_call_entry F.slot_tuple_iterator_next hI.typeIs F.entry_tuple_iterator_next ?_ (F.args_tuple_iterator_next_1 _)))
  show wpAny _ _ (field (.ref I) 0 >>= _) _ _ s
  refine wpAny_bind (wpAny_field eo fo (x := .ref t) rfl ?_); show wpAny _ _ (if (Value.ref t == Value.none) = true then _ else _) _ _ s
  rw [if_neg (show ¬ ((Value.ref t == Value.none) = true) from Bool.false_ne_true)]; show wpAny _ _ (field (.ref I) 1 >>= _) _ _ s
  refine wpAny_bind (wpAny_field eo fo (x := .int i 0) rfl ?_); show wpAny _ _ (seqItems? (.ref t) >>= _) _ _ s
  refine wpAny_bind (wpAny_seqItems eu fu ?_); simp only [Int.toNat_natCast, e]
  refine wpAny_bind (wpAny_setField eo fo (by simp) (wpAny_pure ⟨x, rfl, wpAny_pure (q _ ?_ (Heap.SameBut.update ..))⟩))
  exact ⟨_, Heap.get?_update_self _ eo (Obj.isFreed_of_fields (Obj.data_mapFields fo _)), (Obj.cls_mapFields ..).trans co, by rw [Obj.data_mapFields fo]; simp [rawInt]⟩
theorem nextT_end {I t : Addr} {i : Nat} {vs : Array Value} {Q : Value → Shared → Prop} (hh : A.handled = none) (hI : s.heap.IsTupleIter I t i) (ht : s.heap.IsTuple t vs) (e : vs[i]? = none)
    (q : ∀ h' x, Heap.ExtBut I s.heap h' → (∃ o, h'.get? x = some o ∧ o.cls = .type "StopIteration") → E (.ref x) { s with heap := h' }) : wpAny (model prog w) A (Builtin.SmallTypes.nextOf (.ref I)) Q E s := by
  obtain ⟨o, eo, co, fo⟩ := id hI; obtain ⟨u, eu, _, n, fu⟩ := ht; unfold Builtin.SmallTypes.nextOf
  refine wpAny_bind (wpAny_callSpecial?_slot (name := Str.ofString "__next__") hI.typeIs F.slot_tuple_iterator_next (wpAny_call_entry F.slot_tuple_iterator_next hI.typeIs F.entry_tuple_iterator_next ?_ (F.args_tuple_iterator_next_1 _)))
  show wpAny _ _ (field (.ref I) 0 >>= _) _ _ s
  refine wpAny_bind (wpAny_field eo fo (x := .ref t) rfl ?_); show wpAny _ _ (if (Value.ref t == Value.none) = true then _ else _) _ _ s
  rw [if_neg (show ¬ ((Value.ref t == Value.none) = true) from Bool.false_ne_true)]; show wpAny _ _ (field (.ref I) 1 >>= _) _ _ s
  refine wpAny_bind (wpAny_field eo fo (x := .int i 0) rfl ?_); show wpAny _ _ (seqItems? (.ref t) >>= _) _ _ s
  refine wpAny_bind (wpAny_seqItems eu fu ?_); simp only [Int.toNat_natCast, e]
  refine wpAny_bind (wpAny_rule (wpAny_bind (wpAny_setField eo fo (by simp) ?_))); show wpAny _ _ (newExc (.type "StopIteration") [] >>= _) _ _ _
  refine wpAny_bind ?_; simp only [newExc, newTuple]
  refine wpAny_bind (wpAny_newObj_type ?_ (by size_fits)); refine wpAny_bind (m := firstArgMember _ _) (wpAny_of_eq (a := Value.none) (by first | rfl | (simp only [firstArgMember]; rfl)) ?_)
  refine wpAny_newObj_type ?_ (by size_fits); simp only [raiseNew]; refine wpAny_bind (wpAny_handled ?_)
  first | rw [show A.in1.handled = none from hh] | rw [hh]
  refine wpAny_bind (wpAny_pure (wpAny_throw ?_)); exact q _ _ (((Heap.SameBut.update ..).extBut.push _).push _) ⟨_, Heap.get?_push_size _ rfl, rfl⟩
end
/-- what is walked: a list, a tuple, a text -/
inductive Sr
  | lst (a : Addr)
  | tup (a : Addr)
  | str (x : Str)
def Sr.it : Sr → Heap → Addr → Nat → Prop
  | .lst a, h, I, i => h.IsListIter I a i
  | .tup a, h, I, i => h.IsTupleIter I a i
  | .str x, h, I, i => ∃ t, h.IsStrIter I (strIterType x) x t i
def Sr.has : Sr → Heap → Array Value → Prop
  | .lst a, h, vs => h.IsList a vs
  | .tup a, h, vs => h.IsTuple a vs
  | .str x, _, vs => vs.size = x.cps.size
def Sr.is : Sr → Array Value → Nat → Value → Prop
  | .lst _, vs, i, v => vs[i]? = some v
  | .tup _, vs, i, v => vs[i]? = some v
  | .str x, _, i, v => ∃ c u, x.cps[i]? = some c ∧ v = .str ⟨#[c]⟩ u
def Sr.fp : Sr → Addr → List Addr
  | .lst a, I => [I, a]
  | .tup a, I => [I, a]
  | .str _, I => [I]
/-- the thing walked is none of these -/
def Sr.off : Sr → Addr → Prop
  | .lst a, I => a ≠ I
  | .tup a, I => a ≠ I
  | .str _, _ => True
theorem Sr.fp_off {S : Sr} {I b : Addr} (h : S.off b) (hb : b ≠ I) : b ∉ S.fp I := by
  cases S <;> simp [Sr.fp, Sr.off] at h ⊢ <;> first | exact ⟨hb, Ne.symm h⟩ | exact hb
theorem Sr.it.mv {S : Sr} {h h' : Heap} {I : Addr} {i : Nat} (x : S.it h I i) (k : ∀ o, h.get? I = some o → h'.get? I = some o) : S.it h' I i := by
  cases S with
  | lst a => obtain ⟨o, e, r⟩ := x; exact ⟨o, k o e, r⟩
  | tup a => obtain ⟨o, e, r⟩ := x; exact ⟨o, k o e, r⟩
  | str z => obtain ⟨t, o, e, r⟩ := x; exact ⟨t, o, k o e, r⟩
theorem Sr.it.obj {S : Sr} {h : Heap} {I : Addr} {i : Nat} (x : S.it h I i) : ∃ o, h.get? I = some o ∧ ∀ v, o.data ≠ .cell v := by
  cases S with
  | lst a => obtain ⟨o, e, _, d⟩ := x; exact ⟨o, e, fun v z => by rw [d] at z; cases z⟩
  | tup a => obtain ⟨o, e, _, d⟩ := x; exact ⟨o, e, fun v z => by rw [d] at z; cases z⟩
  | str z => obtain ⟨t, o, e, _, d⟩ := x; exact ⟨o, e, fun v z => by rw [d] at z; cases z⟩
theorem Sr.has.mv {S : Sr} {h h' : Heap} {vs : Array Value} {I : Addr} (x : S.has h vs) (k : ∀ b o, b ≠ I → h.get? b = some o → h'.get? b = some o) (off : S.off I) : S.has h' vs := by
  cases S with
  | lst a => obtain ⟨o, e, r⟩ := x; exact ⟨o, k a o off e, r⟩
  | tup a => obtain ⟨o, e, r⟩ := x; exact ⟨o, k a o off e, r⟩
  | str z => exact x
theorem Sr.draws {prog : Program} {w : World} {A : Around} (S : Sr) (hh : A.handled = none) (I : Addr) (off : S.off I) (vs : Array Value) :
    Draws prog w A I (S.fp I) vs.size (S.is vs) (fun i h => S.it h I i ∧ S.has h vs) := by
  cases S with
  | lst a => exact Draws.list hh I a off vs
  | tup a => exact {
      live := fun _ _ st => let ⟨o, e, _⟩ := st.1; ⟨o, e⟩
      frame := fun _ _ _ st k => ⟨let ⟨o, e, r⟩ := st.1; ⟨o, k I (by simp [Sr.fp]) o e, r⟩, let ⟨o, e, r⟩ := st.2; ⟨o, k a (by simp [Sr.fp]) o e, r⟩⟩
      item := fun i s Q E hi st q => nextT_item st.1 st.2 (x := vs[i]) (by simp [hi]) fun h' a' b' => q _ h' s.toks (show vs[i]? = some vs[i] by simp [hi]) ⟨a', Heap.IsTuple.extBut st.2 b'.extBut off⟩ b'
      done := fun s Q E st q => nextT_end hh st.1 st.2 (by simp) q }
  | str x =>
    cases ha : x.cps.all (· < 128) with
    | true =>
      have e : strIterType x = "str_ascii_iterator" := by simp [strIterType, ha]
      exact {
        live := fun _ _ st => let ⟨_, o, e, _⟩ := st.1; ⟨o, e⟩
        frame := fun _ _ _ st k => ⟨let ⟨t, o, e, r⟩ := st.1; ⟨t, o, k I (by simp [Sr.fp]) o e, r⟩, st.2⟩
        item := fun i s Q E hi st q => by
          obtain ⟨⟨t, g⟩, z⟩ := st
          have hz : vs.size = x.cps.size := z
          rw [e] at g
          exact (Draws.strAscii (prog := prog) (w := w) hh I x t).item i s Q E (by omega) g fun v h' tk p st' sb => q v h' tk p ⟨⟨t, by rw [e]; exact st'⟩, z⟩ sb
        done := fun s Q E st q => by
          obtain ⟨⟨t, g⟩, z⟩ := st
          have hz : vs.size = x.cps.size := z
          rw [e, hz] at g
          exact (Draws.strAscii (prog := prog) (w := w) hh I x t).done s Q E g q }
    | false =>
      have e : strIterType x = "str_iterator" := by simp [strIterType, ha]
      exact {
        live := fun _ _ st => let ⟨_, o, e, _⟩ := st.1; ⟨o, e⟩
        frame := fun _ _ _ st k => ⟨let ⟨t, o, e, r⟩ := st.1; ⟨t, o, k I (by simp [Sr.fp]) o e, r⟩, st.2⟩
        item := fun i s Q E hi st q => by
          obtain ⟨⟨t, g⟩, z⟩ := st
          have hz : vs.size = x.cps.size := z
          rw [e] at g
          exact (Draws.strWide (prog := prog) (w := w) hh I x t).item i s Q E (by omega) g fun v h' tk p st' sb => q v h' tk p ⟨⟨t, by rw [e]; exact st'⟩, z⟩ sb
        done := fun s Q E st q => by
          obtain ⟨⟨t, g⟩, z⟩ := st
          have hz : vs.size = x.cps.size := z
          rw [e, hz] at g
          exact (Draws.strWide (prog := prog) (w := w) hh I x t).done s Q E g q }
end L2
namespace L2
open PySem PySem.Spec PyProof.Rows
/-- the objects of a zip are apart, and none of them is walked -/
structure ZA (S1 S2 : Sr) (z TI TO i1 i2 : Addr) : Prop where
  a : TI ≠ z
  b : TO ≠ z
  c : i1 ≠ z
  d : i2 ≠ z
  e : TI ≠ TO
  f : TI ≠ i1
  g : TI ≠ i2
  h : TO ≠ i1
  i : TO ≠ i2
  j : i1 ≠ i2
  k : ∀ x ∈ [z, TO, i1, i2], S1.off x ∧ S2.off x
/-- where the zip stands -/
structure ZS (S1 S2 : Sr) (v1 v2 : Array Value) (z TI TO i1 i2 : Addr) (n : Nat) (u : Value) (h : Heap) : Prop where
  z : IsZip h z TI TO u
  ti : IsPair h TI (.ref i1) (.ref i2)
  to : ∃ x y, IsPair h TO x y
  s1 : S1.it h i1 n
  s2 : S2.it h i2 n
  h1 : S1.has h v1
  h2 : S2.has h v2
section
variable {prog : Program} {w : World} {A : Around} {E : Value → Shared → Prop} {s : Shared} {S1 S2 : Sr} {v1 v2 : Array Value} {z TI TO i1 i2 : Addr} {n : Nat}
theorem zip_item (D : ZA S1 S2 z TI TO i1 i2) (hh : A.handled = none) (Z : ZS S1 S2 v1 v2 z TI TO i1 i2 n .none s.heap) (l1 : n < v1.size) (l2 : n < v2.size) {Q : Value → Shared → Prop}
    (q : ∀ x y h' tk, S1.is v1 n x → S2.is v2 n y → ZS S1 S2 v1 v2 z TI TO i1 i2 (n + 1) (rawInt s.heap.objs.size) h' → IsPair h' s.heap.objs.size x y → h'.objs.size = s.heap.objs.size + 1 →
      (∀ c o, c ≠ z → c ≠ TO → c ≠ i1 → c ≠ i2 → s.heap.get? c = some o → h'.get? c = some o) → Q (.ref s.heap.objs.size) { s with heap := h', toks := tk }) :
    wpAny (model prog w) A (Builtin.«zip.__next__» ⟨[.ref z], []⟩) (fun fin s' => ∃ v, fin = .done (.ret v) ∧ Q v s') E s := by
  obtain ⟨hp, g0, d0, tk0, os0⟩ := s
  obtain ⟨Zz, Zi, ⟨x0, y0, Zo⟩, Z1, Z2, Y1, Y2⟩ := Z
  have oz := D.k z (by simp); have oT := D.k TO (by simp); have o1 := D.k i1 (by simp); have o2 := D.k i2 (by simp)
  show wpAny _ _ (field (.ref z) 2 >>= _) _ _ _
  refine wpAny_bind (wpAny_field Zz rfl (x := .bool false) rfl ?_); show wpAny _ _ (field (.ref z) 3 >>= _) _ _ _
  refine wpAny_bind (wpAny_field Zz rfl (x := .ref TI) rfl ?_); refine wpAny_bind (wpAny_seqItems Zi rfl ?_)
  show wpAny _ _ (Builtin.SmallTypes.ownedTupleIsFree (.ref z) >>= _) _ _ _
  refine wpAny_bind ?_; unfold Builtin.SmallTypes.ownedTupleIsFree
  refine wpAny_bind (wpAny_field Zz rfl (x := .none) rfl (wpAny_pure ?_)); simp only [if_true]; refine wpAny_bind (wpAny_rule ?_)
  refine wpAny_bind (wpAny_field Zz rfl (x := .ref TO) rfl ?_)
  refine wpAny_bind (wpAny_setField_rec Zz (by simp) fun g1 Za b1 => ?_)
  replace Za : IsZip g1 z TI TO .ellipsis := Za
  replace b1 : Heap.SameBut z hp g1 := b1
  refine wpAny_bind ?_; simp only [List.zipIdx_cons, List.zipIdx_nil, List.forIn_cons, List.forIn_nil]
  -- the first one
  refine wpAny_bind (wpAny_bind (wpAny_onRaise ?_)); show wpAny _ _ (Builtin.SmallTypes.nextOf (.ref i1) >>= _) _ _ _
  refine wpAny_bind ((S1.draws hh i1 o1.1 v1).item n _ _ _ l1 ⟨Z1.mv fun o e => b1.extBut _ _ D.c e, Y1.mv (fun b o hb e => b1.extBut _ _ hb e) oz.1⟩ fun x g2 k2 px st2 b2 => wpAny_pure ?_)
  replace b2 : Heap.SameBut i1 g1 g2 := b2
  have To2 : IsPair g2 TO x0 y0 := b2.extBut _ _ D.h (b1.extBut _ _ D.b Zo)
  refine wpAny_bind (wpAny_seqItems To2 rfl ?_); refine wpAny_bind (wpAny_updateSeq_pair To2 fun g3 To3 b3 => ?_)
  replace To3 : IsPair g3 TO x y0 := To3
  replace b3 : Heap.SameBut TO g2 g3 := b3
  refine wpAny_bind (wpAny_letGo (wpAny_pure ?_))
  -- the second one
  refine wpAny_bind (wpAny_bind (wpAny_onRaise ?_)); show wpAny _ _ (Builtin.SmallTypes.nextOf (.ref i2) >>= _) _ _ _
  refine wpAny_bind ((S2.draws hh i2 o2.2 v2).item n _ _ _ l2 ⟨Z2.mv fun o e => b3.extBut _ _ D.i.symm (b2.extBut _ _ D.j.symm (b1.extBut _ _ D.d e)),
    ((Y2.mv (fun b o hb e => b1.extBut _ _ hb e) oz.2).mv (fun b o hb e => b2.extBut _ _ hb e) o1.2).mv (fun b o hb e => b3.extBut _ _ hb e) oT.2⟩ fun y g4 k4 py st4 b4 => wpAny_pure ?_)
  replace b4 : Heap.SameBut i2 g3 g4 := b4
  have To4 : IsPair g4 TO x y0 := b4.extBut _ _ D.i To3
  refine wpAny_bind (wpAny_seqItems To4 rfl ?_); refine wpAny_bind (wpAny_updateSeq_pair To4 fun g5 To5 b5 => ?_)
  replace To5 : IsPair g5 TO x y := To5
  replace b5 : Heap.SameBut TO g4 g5 := b5
  refine wpAny_bind (wpAny_letGo (wpAny_pure (wpAny_pure ?_)))
  refine wpAny_bind (wpAny_seqItems To5 rfl ?_); refine wpAny_bind (wpAny_newTuple ?_)
  have sz : g5.objs.size = hp.objs.size := by rw [b5.1, b4.1, b3.1, b2.1, b1.1]
  have Z5 : IsZip g5 z TI TO .ellipsis := b5.extBut _ _ D.b.symm (b4.extBut _ _ D.d.symm (b3.extBut _ _ D.b.symm (b2.extBut _ _ D.c.symm Za)))
  have up5 : ∀ c o, c ≠ z → c ≠ TO → c ≠ i1 → c ≠ i2 → hp.get? c = some o → g5.get? c = some o := fun c o n1 n2 n3 n4 e => b5.extBut _ _ n2 (b4.extBut _ _ n4 (b3.extBut _ _ n2 (b2.extBut _ _ n3 (b1.extBut _ _ n1 e))))
  have I1 : S1.it g5 i1 (n + 1) := st2.1.mv fun o e => b5.extBut _ _ D.h.symm (b4.extBut _ _ D.j (b3.extBut _ _ D.h.symm e))
  have I2 : S2.it g5 i2 (n + 1) := st4.1.mv fun o e => b5.extBut _ _ D.i.symm e
  have H1 : S1.has g5 v1 := ((st2.2.mv (fun b o hb e => b3.extBut _ _ hb e) oT.1).mv (fun b o hb e => b4.extBut _ _ hb e) o2.1).mv (fun b o hb e => b5.extBut _ _ hb e) oT.1
  have H2 : S2.has g5 v2 := st4.2.mv (fun b o hb e => b5.extBut _ _ hb e) oT.2
  have zlt : z < g5.objs.size := Heap.lt_size Z5
  show wpAny _ _ (Builtin.SmallTypes.ownedTupleHandOut (.ref z) (.ref g5.objs.size) >>= _) _ _ _
  refine wpAny_bind ?_; unfold Builtin.SmallTypes.ownedTupleHandOut
  have Z6 : IsZip (g5.push { cls := .type "tuple", data := .seq #[x, y] }) z TI TO .ellipsis := Heap.get?_push_of_some _ Z5
  refine wpAny_bind (wpAny_setField_rec Z6 (by simp) fun g7 Z7 b7 => ?_)
  replace Z7 : IsZip g7 z TI TO (rawInt g5.objs.size) := Z7
  refine wpAny_setField_rec Z7 (by simp) fun g8 Z8 b8 => ?_
  replace Z8 : IsZip g8 z TI TO (rawInt g5.objs.size) := Z8
  have up : ∀ c o, c ≠ z → g5.get? c = some o → g8.get? c = some o := fun c o n1 e => b8.extBut _ _ n1 (b7.extBut _ _ n1 (Heap.get?_push_of_some _ e))
  have T8 : IsPair g8 g5.objs.size x y := b8.extBut _ _ (Nat.ne_of_gt zlt) (b7.extBut _ _ (Nat.ne_of_gt zlt) (Heap.get?_push_size _ rfl))
  have sz8 : g8.objs.size = g5.objs.size + 1 := by rw [b8.1, b7.1, Heap.size_push]
  rw [sz] at Z8 T8 sz8
  refine wpAny_pure ⟨_, rfl, ?_⟩
  show Q (.ref g5.objs.size) _
  rw [sz]
  exact q x y g8 k4 px py ⟨Z8, up _ _ D.a (up5 _ _ D.a D.e D.f D.g Zi), ⟨_, _, up _ _ D.b To5⟩, I1.mv fun o e => up _ o D.c e, I2.mv fun o e => up _ o D.d e,
    H1.mv (fun b o hb e => up b o hb e) oz.1, H2.mv (fun b o hb e => up b o hb e) oz.2⟩ T8 sz8 fun c o n1 n2 n3 n4 e => up c o n1 (up5 c o n1 n2 n3 n4 e)
theorem zip_end (D : ZA S1 S2 z TI TO i1 i2) (hh : A.handled = none) (Z : ZS S1 S2 v1 v2 z TI TO i1 i2 n .none s.heap) (l : n = v1.size ∨ (n < v1.size ∧ n = v2.size)) {Q : Fin → Shared → Prop}
    (q : ∀ h' x tk, (∀ c o, c ≠ z → c ≠ TO → c ≠ i1 → c ≠ i2 → s.heap.get? c = some o → h'.get? c = some o) → (∃ o, h'.get? x = some o ∧ o.cls = .type "StopIteration") → E (.ref x) { s with heap := h', toks := tk }) :
    wpAny (model prog w) A (Builtin.«zip.__next__» ⟨[.ref z], []⟩) Q E s := by
  obtain ⟨hp, g0, d0, tk0, os0⟩ := s
  obtain ⟨Zz, Zi, ⟨x0, y0, Zo⟩, Z1, Z2, Y1, Y2⟩ := Z
  have oz := D.k z (by simp); have oT := D.k TO (by simp); have o1 := D.k i1 (by simp); have o2 := D.k i2 (by simp)
  show wpAny _ _ (field (.ref z) 2 >>= _) _ _ _
  refine wpAny_bind (wpAny_field Zz rfl (x := .bool false) rfl ?_); show wpAny _ _ (field (.ref z) 3 >>= _) _ _ _
  refine wpAny_bind (wpAny_field Zz rfl (x := .ref TI) rfl ?_); refine wpAny_bind (wpAny_seqItems Zi rfl ?_)
  show wpAny _ _ (Builtin.SmallTypes.ownedTupleIsFree (.ref z) >>= _) _ _ _
  refine wpAny_bind ?_; unfold Builtin.SmallTypes.ownedTupleIsFree
  refine wpAny_bind (wpAny_field Zz rfl (x := .none) rfl (wpAny_pure ?_)); simp only [if_true]; refine wpAny_bind (wpAny_rule ?_)
  refine wpAny_bind (wpAny_field Zz rfl (x := .ref TO) rfl ?_)
  refine wpAny_bind (wpAny_setField_rec Zz (by simp) fun g1 Za b1 => ?_)
  replace Za : IsZip g1 z TI TO .ellipsis := Za
  replace b1 : Heap.SameBut z hp g1 := b1
  refine wpAny_bind ?_; simp only [List.zipIdx_cons, List.zipIdx_nil, List.forIn_cons, List.forIn_nil]
  have W1 : S1.it g1 i1 n ∧ S1.has g1 v1 := ⟨Z1.mv fun o e => b1.extBut _ _ D.c e, Y1.mv (fun b o hb e => b1.extBut _ _ hb e) oz.1⟩
  refine wpAny_bind (wpAny_bind (wpAny_onRaise ?_)); show wpAny _ _ (Builtin.SmallTypes.nextOf (.ref i1) >>= _) _ _ _
  rcases l with l | ⟨l1, l2⟩
  · refine wpAny_bind ((S1.draws hh i1 o1.1 v1).done _ _ _ (l ▸ W1) fun g2 x b2 ⟨ox, ex, cx⟩ => ?_)
    have Zb : IsZip g2 z TI TO .ellipsis := b2 _ _ D.c.symm Za
    have xz : x ≠ z := fun e => by subst e; rw [Zb] at ex; cases ex; simp at cx
    refine wpAny_setField_rec Zb (by simp) fun g3 _ b3 => q g3 x tk0 (fun c o n1 _ n3 _ e => b3.extBut _ _ n1 (b2 _ _ n3 (b1.extBut _ _ n1 e))) ⟨ox, b3.extBut _ _ xz ex, cx⟩
  · refine wpAny_bind ((S1.draws hh i1 o1.1 v1).item n _ _ _ l1 W1 fun x g2 k2 px st2 b2 => wpAny_pure ?_)
    replace b2 : Heap.SameBut i1 g1 g2 := b2
    have To2 : IsPair g2 TO x0 y0 := b2.extBut _ _ D.h (b1.extBut _ _ D.b Zo)
    refine wpAny_bind (wpAny_seqItems To2 rfl ?_); refine wpAny_bind (wpAny_updateSeq_pair To2 fun g3 To3 b3 => ?_)
    replace b3 : Heap.SameBut TO g2 g3 := b3
    refine wpAny_bind (wpAny_letGo (wpAny_pure ?_)); refine wpAny_bind (wpAny_bind (wpAny_onRaise ?_)); show wpAny _ _ (Builtin.SmallTypes.nextOf (.ref i2) >>= _) _ _ _
    refine wpAny_bind ((S2.draws hh i2 o2.2 v2).done _ _ _ (l2 ▸ ⟨Z2.mv fun o e => b3.extBut _ _ D.i.symm (b2.extBut _ _ D.j.symm (b1.extBut _ _ D.d e)),
      ((Y2.mv (fun b o hb e => b1.extBut _ _ hb e) oz.2).mv (fun b o hb e => b2.extBut _ _ hb e) o1.2).mv (fun b o hb e => b3.extBut _ _ hb e) oT.2⟩) fun g4 x' b4 ⟨ox, ex, cx⟩ => ?_)
    have Zb : IsZip g4 z TI TO .ellipsis := b4 _ _ D.d.symm (b3.extBut _ _ D.b.symm (b2.extBut _ _ D.c.symm Za))
    have xz : x' ≠ z := fun e => by subst e; rw [Zb] at ex; cases ex; simp at cx
    refine wpAny_setField_rec Zb (by simp) fun g5 _ b5 => q g5 x' k2 (fun c o n1 n2 n3 n4 e => b5.extBut _ _ n1 (b4 _ _ n4 (b3.extBut _ _ n2 (b2.extBut _ _ n3 (b1.extBut _ _ n1 e))))) ⟨ox, b5.extBut _ _ xz ex, cx⟩
end
/-- an iterator of this thing is made by a push -/
def Begins (h : Heap) (v : Value) (o : Obj) : Prop := ∀ (prog : Program) (w : World) (A : Around) (E : Value → Shared → Prop) (s : Shared) (Q : Value → Shared → Prop), (∀ b u, h.get? b = some u → s.heap.get? b = some u) →
  Q (.ref s.heap.objs.size) { s with heap := s.heap.push o } → wpAny (model prog w) A (pyIter v) Q E s
def Sr.val : Sr → Value → Prop
  | .lst a, v => v = .ref a
  | .tup a, v => v = .ref a
  | .str x, v => ∃ t, v = .str x t
theorem Sr.begins {S : Sr} {h : Heap} {v : Value} {vs : Array Value} (e : S.val v) (x : S.has h vs) : ∃ o : Obj, Begins h v o ∧ o.isFreed = false ∧ ∀ (h' : Heap) (I : Addr), h'.get? I = some o → S.it h' I 0 := by
  cases S with
  | lst a =>
    cases (show v = .ref a from e)
    exact ⟨_, fun _ _ _ _ s Q k q => wpAny_pyIter_list (let ⟨o, e, r⟩ := x; ⟨o, k a o e, r⟩) q, rfl, fun h' I e => ⟨_, e, rfl, rfl⟩⟩
  | tup a =>
    cases (show v = .ref a from e)
    exact ⟨_, fun _ _ _ _ s Q k q => wpAny_pyIter_tuple (let ⟨o, e, r⟩ := x; ⟨o, k a o e, r⟩) q, rfl, fun h' I e => ⟨_, e, rfl, rfl⟩⟩
  | str z =>
    obtain ⟨t, rfl⟩ := (show ∃ t, v = .str z t from e)
    exact ⟨_, fun _ _ _ _ s Q k q => wpAny_pyIter_strU q, rfl, fun h' I e => ⟨t, _, e, rfl, rfl⟩⟩
abbrev zh2 (h : Heap) (o1 o2 : Obj) : Heap := (h.push o1).push o2
abbrev zh3 (h : Heap) (o1 o2 : Obj) : Heap := (zh2 h o1 o2).push { cls := .type "tuple", data := .seq #[.ref h.objs.size, .ref (h.push o1).objs.size] }
abbrev zh4 (h : Heap) (o1 o2 : Obj) : Heap := (zh3 h o1 o2).push { cls := .type "tuple", data := .seq #[.none, .none] }
abbrev zh5 (h : Heap) (o1 o2 : Obj) : Heap := (zh4 h o1 o2).push { cls := .type "zip", data := .fields #[.none, .bool false, .bool false, .ref (zh2 h o1 o2).objs.size, .ref (zh3 h o1 o2).objs.size] }
theorem zip_new (a b : Value) (o1 o2 : Obj) : Meets (Builtin.«zip.__new__» ⟨[.type "zip", a, b], []⟩) (fun _ R s => Begins s.heap a o1 ∧ Begins s.heap b o2 ∧
      R (.ok (.ret (.ref (zh4 s.heap o1 o2).objs.size))) { s with heap := zh5 s.heap o1 o2 }) :=
  .of_wp fun prog w A R s h => by
    obtain ⟨hp, g, d, tk, os⟩ := s; obtain ⟨h1, h2, h⟩ := h
    have hsub := sub_zip
    have k1 : ∀ {A' : Around} {E' : Value → Shared → Prop} {Q : Value → Shared → Prop}, Q (.ref (Shared.heap ⟨hp, g, d, tk, os⟩).objs.size) ⟨hp.push o1, g, d, tk, os⟩ → wpAny (model prog w) A' (pyIter a) Q E' ⟨hp, g, d, tk, os⟩ := fun q => h1 _ _ _ _ _ _ (fun _ _ e => e) q
    have k2 : ∀ {A' : Around} {E' : Value → Shared → Prop} {Q : Value → Shared → Prop}, Q (.ref (Shared.heap ⟨hp.push o1, g, d, tk, os⟩).objs.size) ⟨(hp.push o1).push o2, g, d, tk, os⟩ → wpAny (model prog w) A' (pyIter b) Q E' ⟨hp.push o1, g, d, tk, os⟩ := fun q => h2 _ _ _ _ _ _ (fun _ _ e => Heap.get?_push_of_some _ e) q
    wp_walk using k1, k2
    exact ⟨_, rfl, h⟩
theorem call_zip {prog : Program} {w : World} {A : Around} {E : Value → Shared → Prop} {s : Shared} {S1 S2 : Sr} {v1 v2 : Array Value} {a b : Value} {Q : Value → Shared → Prop} (e1 : S1.val a) (e2 : S2.val b) (x1 : S1.has s.heap v1) (x2 : S2.has s.heap v2)
    (q : ∀ h', ZS S1 S2 v1 v2 (s.heap.objs.size + 4) (s.heap.objs.size + 2) (s.heap.objs.size + 3) s.heap.objs.size (s.heap.objs.size + 1) 0 .none h' → ZA S1 S2 (s.heap.objs.size + 4) (s.heap.objs.size + 2) (s.heap.objs.size + 3) s.heap.objs.size (s.heap.objs.size + 1) →
      (∀ c o, s.heap.get? c = some o → h'.get? c = some o) → Q (.ref (s.heap.objs.size + 4)) { s with heap := h' }) : wpAny (model prog w) A (call (.type "zip") [a, b]) Q E s := by
  obtain ⟨o1, B1, f1, I1⟩ := Sr.begins e1 x1
  obtain ⟨o2, B2, f2, I2⟩ := Sr.begins e2 x2
  refine callType_new F.called_zip (by decide) (F.typeCall_zip_2 _ _) (F.newCall_zip_2 _ _) (fun obj => F.args_object_init_3 obj _ _) F.entry_zip_new (zip_new a b o1 o2) ⟨B1, B2, ?_⟩
  have y1 : (s.heap.push o1).objs.size = s.heap.objs.size + 1 := Heap.size_push ..
  have y2 : (zh2 s.heap o1 o2).objs.size = s.heap.objs.size + 2 := by rw [Heap.size_push, y1]
  have y3 : (zh3 s.heap o1 o2).objs.size = s.heap.objs.size + 3 := by rw [Heap.size_push, y2]
  have y4 : (zh4 s.heap o1 o2).objs.size = s.heap.objs.size + 4 := by rw [Heap.size_push, y3]
  have g5 : (zh5 s.heap o1 o2).get? (zh4 s.heap o1 o2).objs.size = some _ := Heap.get?_push_size _ rfl
  have g4 : (zh5 s.heap o1 o2).get? (zh3 s.heap o1 o2).objs.size = some _ := Heap.get?_push_of_some _ (Heap.get?_push_size _ rfl)
  have g3 : (zh5 s.heap o1 o2).get? (zh2 s.heap o1 o2).objs.size = some _ := Heap.get?_push_of_some _ (Heap.get?_push_of_some _ (Heap.get?_push_size _ rfl))
  have g2 : (zh5 s.heap o1 o2).get? (s.heap.push o1).objs.size = some o2 := Heap.get?_push_of_some _ (Heap.get?_push_of_some _ (Heap.get?_push_of_some _ (Heap.get?_push_size _ f2)))
  have g1 : (zh5 s.heap o1 o2).get? s.heap.objs.size = some o1 := Heap.get?_push_of_some _ (Heap.get?_push_of_some _ (Heap.get?_push_of_some _ (Heap.get?_push_of_some _ (Heap.get?_push_size _ f1))))
  have up : ∀ c o, s.heap.get? c = some o → (zh5 s.heap o1 o2).get? c = some o := fun c o x => Heap.get?_push_of_some _ (Heap.get?_push_of_some _ (Heap.get?_push_of_some _ (Heap.get?_push_of_some _ (Heap.get?_push_of_some _ x))))
  have off : ∀ {S : Sr} {vs : Array Value} (k : Nat), S.has s.heap vs → S.off (s.heap.objs.size + k) := fun {S vs} k x => by
    cases S with
    | lst a => obtain ⟨o, e, _⟩ := x; exact Nat.ne_of_lt (Nat.lt_of_lt_of_le (Heap.lt_size e) (Nat.le_add_right _ k))
    | tup a => obtain ⟨o, e, _⟩ := x; exact Nat.ne_of_lt (Nat.lt_of_lt_of_le (Heap.lt_size e) (Nat.le_add_right _ k))
    | str z => exact trivial
  have keep : ∀ {S : Sr} {vs : Array Value}, S.has s.heap vs → S.has (zh5 s.heap o1 o2) vs := fun {S vs} x => by
    cases S with
    | lst a => obtain ⟨o, e, r⟩ := x; exact ⟨o, up _ _ e, r⟩
    | tup a => obtain ⟨o, e, r⟩ := x; exact ⟨o, up _ _ e, r⟩
    | str z => exact x
  show _ ∧ _
  rw [y2, y3, y4] at g5
  rw [y1, y2] at g3
  rw [y3] at g4
  rw [y1] at g2
  rw [y4]
  refine ⟨⟨_, g5, rfl⟩, q _ ⟨g5, g3, ⟨_, _, g4⟩, I1 _ _ g1, I2 _ _ g2, keep x1, keep x2⟩ ?_ up⟩
  have ne : ∀ i j : Nat, i ≠ j → s.heap.objs.size + i ≠ s.heap.objs.size + j := fun i j hn h => hn (Nat.add_left_cancel h)
  refine ⟨ne 2 4 (by decide), ne 3 4 (by decide), ne 0 4 (by decide), ne 1 4 (by decide), ne 2 3 (by decide), ne 2 0 (by decide), ne 2 1 (by decide), ne 3 0 (by decide), ne 3 1 (by decide), ne 0 1 (by decide), fun x hx => ?_⟩
  simp only [List.mem_cons, List.not_mem_nil, or_false] at hx
  rcases hx with rfl | rfl | rfl | rfl
  · exact ⟨off 4 x1, off 4 x2⟩
  · exact ⟨off 3 x1, off 3 x2⟩
  · exact ⟨off 0 x1, off 0 x2⟩
  · exact ⟨off 1 x1, off 1 x2⟩
end L2
/-! enumerate of a tuple (behind Zip). -/
namespace L2
open PySem PySem.Spec PyProof.Rows
abbrev tIt (l : Addr) : Obj := { cls := .type "tuple_iterator", data := .fields #[.ref l, .int 0 0] }
abbrev enO (i : Addr) : Obj := { cls := .type "enumerate", data := .fields #[.none, .bool false, .ref i, rawInt 0, .none, .none] }
theorem enum_newT (l : Addr) (vs : Array Value) (n : Nat) (dct : Option Addr) (sl : Array (Option Value)) :
    Meets (Builtin.«enumerate.__new__» ⟨[.type "enumerate", .ref l], []⟩) (fun _ R s => s.heap.get? l = some { cls := .type "tuple", dict := dct, data := .seq vs n, slots := sl } ∧
      R (.ok (.ret (.ref (s.heap.push (tIt l)).objs.size))) { s with heap := (s.heap.push (tIt l)).push (enO s.heap.objs.size) }) :=
  .of_wp fun prog w A R s h => by
    obtain ⟨hp, g, d, tk, os⟩ := s; obtain ⟨hl, h⟩ := h; have hsub := sub_enumerate
    have hL : Heap.IsTuple (Shared.heap ⟨hp, g, d, tk, os⟩) l vs := ⟨_, hl, rfl, n, rfl⟩
    wp_walk using AutoSeq1.wpAny_loadPart' hl
    refine wpAny_stack_any fun st => wpAny_pure ?_; split
    · rename_i c _ _ _ _ _; cases (c == Value.type "enumerate")
      · wp_walk using AutoSeq1.wpAny_loadPart' hl, wpAny_pyIter_tuple hL; exact ⟨_, rfl, h⟩
      · wp_walk using AutoSeq1.wpAny_loadPart' hl, wpAny_pyIter_tuple hL; exact ⟨_, rfl, h⟩
    · wp_walk using AutoSeq1.wpAny_loadPart' hl, wpAny_pyIter_tuple hL; exact ⟨_, rfl, h⟩
theorem call_enumT {prog : Program} {w : World} {A : Around} {E : Value → Shared → Prop} {s : Shared} {l : Addr} {vs : Array Value} {Q : Value → Shared → Prop} (hL : s.heap.IsTuple l vs)
    (h : ∀ h', IsEnum h' (s.heap.objs.size + 1) s.heap.objs.size 0 .none → h'.IsTupleIter s.heap.objs.size l 0 → (∀ b o, s.heap.get? b = some o → h'.get? b = some o) → Q (.ref (s.heap.objs.size + 1)) { s with heap := h' }) :
    wpAny (model prog w) A (call (.type "enumerate") [.ref l]) Q E s := by
  obtain ⟨⟨c, dct, dt, sl⟩, hl, hc, n, hd⟩ := hL
  replace hc : c = .type "tuple" := hc; replace hd : dt = .seq vs n := hd; subst hc hd
  refine callType_new F.called_enumerate (by decide) (F.typeCall_enumerate_1 _) (F.newCall_enumerate_1 _) (fun obj => F.args_object_init_2 obj _) F.entry_enumerate_new (enum_newT l vs n dct sl) ⟨hl, ?_⟩
  have hz : (s.heap.push (tIt l)).objs.size = s.heap.objs.size + 1 := Heap.size_push ..
  show _ ∧ _
  rw [hz]
  have he : IsEnum ((s.heap.push (tIt l)).push (enO s.heap.objs.size)) (s.heap.objs.size + 1) s.heap.objs.size 0 .none := by
    have := Heap.get?_push_size (s.heap.push (tIt l)) (o := enO s.heap.objs.size) rfl
    rw [hz] at this; exact this
  exact ⟨⟨_, he, rfl⟩, h _ he ⟨_, Heap.get?_push_of_some _ (Heap.get?_push_size _ rfl), rfl, rfl⟩ fun b o x => Heap.get?_push_of_some _ (Heap.get?_push_of_some _ x)⟩
theorem call_enum {prog : Program} {w : World} {A : Around} {E : Value → Shared → Prop} {s : Shared} {S : Sr} {vs : Array Value} {v : Value} {Q : Value → Shared → Prop} (e : S.val v) (x : S.has s.heap vs)
    (h : ∀ h', IsEnum h' (s.heap.objs.size + 1) s.heap.objs.size 0 .none → S.it h' s.heap.objs.size 0 → (∀ b o, s.heap.get? b = some o → h'.get? b = some o) → Q (.ref (s.heap.objs.size + 1)) { s with heap := h' }) :
    wpAny (model prog w) A (call (.type "enumerate") [v]) Q E s := by
  cases S with
  | lst a => cases (show v = .ref a from e); exact call_enumerate_list x fun h' a b _ c => h h' a b c
  | tup a => cases (show v = .ref a from e); exact call_enumT x h
  | str z => obtain ⟨t, rfl⟩ := (show ∃ t, v = .str z t from e); exact call_enumerate_str fun h' a b _ c => h h' a ⟨t, b⟩ c
end L2
/-! zip and enumerate in the layer (behind Comp, Zip). -/
namespace L2
open PySem PySem.Spec PyProof.Rows
section
variable {X : Cx} {pins : List (Addr × Obj)} {σ : St} {H : Hp} {s : Shared} {h' : Heap}
/-- several untracked records of ours have turned -/
theorem Inv.turneds {t' : Nat} {ch : List Addr} (I : Inv X pins σ H s) (k : ∀ b o, b ∉ ch → s.heap.get? b = some o → h'.get? b = some o) (hf : ∀ b ∈ ch, FpOk X pins H b) : Inv X pins σ H { s with heap := h', toks := t' } := by
  have nit : ∀ b u, H b = some u → b ∉ ch := fun b u e z => by rw [(hf b z).1] at e; cases e
  refine I.step (g' := s.gens) (d' := s.drawn) (ch := ch) (fun b hb => ?_) (fun b o _ _ hc e _ => k b o hc e) (fun b o _ _ hc e _ => ⟨o.slots, k b o hc e⟩) (fun _ _ _ _ n => n) (fun b o hc e => ⟨o, k b o hc e⟩) (fun _ _ e => e) (fun _ _ _ e => e)
    (fun b ps e => ⟨#[], by rw [e]; simp⟩) (fun m hm => ?_) (fun b u e => ?_) I.bare
  · obtain ⟨f0, f1, f2, f3, f4, f5⟩ := hf b hb
    exact ⟨f3, f1, f4, f5⟩
  · obtain ⟨o, es, ep, ho, r⟩ := hm
    exact ⟨o, es, ep, k _ o (fun z => (hf _ z).2.1 rfl) ho, r⟩
  · refine (I.hok b u e).stay (fun c v hc q => k c v ?_ q) (fun _ q => q) fun _ _ q => q
    rcases hc with z | z
    · rw [z]; exact nit b u e
    · exact nit c _ z
/-- an untracked object of ours is tracked from now on -/
theorem Inv.track {a : Addr} {o : HO} (I : Inv X pins σ H s) (hs : X.s₀.heap.objs.size ≤ a) (f : FpOk X pins H a) (new : ObjOk X.prog X.w (upd H a o) s.heap a o) : Inv X pins σ (upd H a o) s :=
  ⟨I.ok, I.os, I.bare, I.base.track hs f.1, I.loc, I.cell, by rw [upd_ne (Ne.symm f.2.1)]; exact I.free, fun x c e => by rw [upd_ne (f.2.2.2.2.1 x c e)]; exact I.freeC x c e, fun p hp => by
    obtain ⟨e, n, r⟩ := I.pin p hp
    exact ⟨e, by rw [upd_ne (f.2.2.2.2.2 p hp)]; exact n, r⟩, I.hok.track f.1 new, I.len⟩
end
def signs (x : Str) : List V := x.cps.toList.map fun c => V.str ⟨#[c]⟩
/-- what is walked, in the abstract heap -/
def Sr.vals (K : PySem.W.Frag) (H : Hp) : Sr → List V → Prop
  | .lst a, xs => SqL K H a xs
  | .tup a, xs => SqT K H a xs
  | .str x, xs => xs = signs x
def Sr.ofV : Sr → V → Prop
  | .lst a, v => v = .ref a
  | .tup a, v => v = .ref a
  | .str x, v => v = .str x
section
variable {X : Cx} {pins : List (Addr × Obj)} {σ : St} {H : Hp} {s : Shared} {S : Sr} {xs ys : List V}
theorem Sr.vals.get (I : Inv X pins σ H s) (h : S.vals X.K H xs) : ∃ vs, S.has s.heap vs ∧ vs.size = xs.length ∧ ∀ i x v, xs[i]? = some x → S.is vs i v → RelV x v := by
  cases S with
  | lst a =>
    obtain ⟨its, rv, p, hz⟩ := I.list h
    refine ⟨its.toArray, p.isList, by have := rv.length; simp; omega, fun i x v e1 e2 => ?_⟩
    obtain ⟨u, hu, ru⟩ := rv.get e1
    have e2 : its.toArray[i]? = some v := e2
    rw [List.getElem?_toArray, hu] at e2
    cases e2
    exact ru
  | tup a =>
    obtain ⟨its, rv, p, hz⟩ := I.tuple h
    refine ⟨its.toArray, (show s.heap.IsTuple a its.toArray from p), by have := rv.length; simp; omega, fun i x v e1 e2 => ?_⟩
    obtain ⟨u, hu, ru⟩ := rv.get e1
    have e2 : its.toArray[i]? = some v := e2
    rw [List.getElem?_toArray, hu] at e2
    cases e2
    exact ru
  | str z =>
    cases (show xs = signs z from h)
    refine ⟨Array.replicate z.cps.size .none, by show (Array.replicate _ _).size = _; simp, by simp [signs], fun i x v e1 e2 => ?_⟩
    obtain ⟨c, u, ec, rfl⟩ := (show ∃ c u, z.cps[i]? = some c ∧ v = .str ⟨#[c]⟩ u from e2)
    have : (signs z)[i]? = some (V.str ⟨#[c]⟩) := by simp [signs, ec]
    rw [this] at e1
    cases e1
    exact ⟨u, rfl⟩
theorem Sr.vals.inj (I : Inv X pins σ H s) (h : S.vals X.K H xs) (h' : S.vals X.K H ys) : xs = ys := by
  cases S with
  | lst a => exact I.list_inj h h'
  | tup a => exact I.tuple_inj h h'
  | str z => exact (show xs = signs z from h).trans (show ys = signs z from h').symm
theorem Sr.ofV.val {x : V} {u : Value} (e : S.ofV x) (r : RelV x u) : S.val u := by
  cases S with
  | lst a => cases (show x = .ref a from e); exact r
  | tup a => cases (show x = .ref a from e); exact r
  | str z => cases (show x = .str z from e); exact r
end
theorem Sr.vals.same {K : PySem.W.Frag} {H H' : Hp} {S : Sr} {xs : List V} (h : S.vals K H xs) (hl : ∀ a, SqL K H a xs → SqL K H' a xs) (ht : ∀ a, SqT K H a xs → SqT K H' a xs) : S.vals K H' xs := by
  cases S with
  | lst a => exact hl a h
  | tup a => exact ht a h
  | str z => exact h
/-- the pairs of two, as a new tuple each -/
def Itz (K : PySem.W.Frag) (S1 S2 : Sr) : It :=
  ⟨fun i H => ∃ xs ys x y, S1.vals K H xs ∧ S2.vals K H ys ∧ xs[i]? = some x ∧ ys[i]? = some y,
   fun i H v H' => ∃ p x y, v = .ref p ∧ H p = none ∧ H' = upd H p (.tup [x, y]) ∧ (∀ xs, S1.vals K H xs → xs[i]? = some x) ∧ ∀ ys, S2.vals K H ys → ys[i]? = some y,
   fun i H => ∃ xs ys, S1.vals K H xs ∧ S2.vals K H ys ∧ (i = xs.length ∨ (i < xs.length ∧ i = ys.length))⟩
theorem turn_zip {P : Program} {w : World} {K : PySem.W.Frag} {es : List Expr} {kk : Nat} {tp : Pos} {S1 S2 : Sr} {z TI TO i1 i2 : Addr} (D : ZA S1 S2 z TI TO i1 i2) :
    Turn P w K (.Tuple es kk tp) (Itz K S1 S2) [z, TI, TO, i1, i2] z (fun i h => IsZip h z TI TO .none ∧ IsPair h TI (.ref i1) (.ref i2) ∧ (∃ a b, IsPair h TO a b) ∧ S1.it h i1 i ∧ S2.it h i2 i) where
  mem := by simp
  obj := fun i h st b hb => by
    obtain ⟨hz, hi, ⟨a, a', ho⟩, h1, h2⟩ := st
    simp only [List.mem_cons, List.not_mem_nil, or_false] at hb
    rcases hb with rfl | rfl | rfl | rfl | rfl
    · exact ⟨_, hz, fun v z => by simp at z⟩
    · exact ⟨_, hi, fun v z => by simp at z⟩
    · exact ⟨_, ho, fun v z => by simp at z⟩
    · exact h1.obj
    · exact h2.obj
  keep := fun i h h' st k => by
    obtain ⟨hz, hi, ⟨a, a', ho⟩, h1, h2⟩ := st
    exact ⟨k z (by simp) _ hz, k TI (by simp) _ hi, ⟨a, a', k TO (by simp) _ ho⟩, h1.mv fun o e => k i1 (by simp) o e, h2.mv fun o e => k i2 (by simp) o e⟩
  item := by
    intro X hP hw hK hc i pins s σ H E I hf st hg
    subst hP hw hK
    obtain ⟨xs, ys, x, y, hx, hy, ex, ey⟩ := hg
    obtain ⟨v1, a1, z1, r1⟩ := Sr.vals.get I hx
    obtain ⟨v2, a2, z2, r2⟩ := Sr.vals.get I hy
    obtain ⟨hz, hi, ho, h1, h2⟩ := st
    have l1 := (List.getElem?_eq_some_iff.mp ex).1
    have l2 := (List.getElem?_eq_some_iff.mp ey).1
    have hT : s.TypeIs (.ref z) "zip" := ⟨_, hz, rfl⟩
    have lt : ∀ b ∈ [z, TI, TO, i1, i2], b ≠ s.heap.objs.size := fun b hb => by
      obtain ⟨a, a', ho⟩ := ho
      simp only [List.mem_cons, List.not_mem_nil, or_false] at hb
      rcases hb with rfl | rfl | rfl | rfl | rfl
      · exact Nat.ne_of_lt (Heap.lt_size hz)
      · exact Nat.ne_of_lt (Heap.lt_size hi)
      · exact Nat.ne_of_lt (Heap.lt_size ho)
      · obtain ⟨_, e, _⟩ := h1.obj; exact Nat.ne_of_lt (Heap.lt_size e)
      · obtain ⟨_, e, _⟩ := h2.obj; exact Nat.ne_of_lt (Heap.lt_size e)
    unfold pyNext
    refine wpAny_bind (wpAny_attempt (wpAny_callSpecial?_slot (name := Str.ofString "__next__") hT F.slot_zip_next (wpAny_call_entry F.slot_zip_next hT F.entry_zip_next
      (zip_item (A := X.A.in1) D (show X.A.in1.handled = none from I.ok.hd hc) ⟨hz, hi, ho, h1, h2, a1, a2⟩ (by omega) (by omega) fun xv yv h' tk px py Z hp hs up => wpAny_pure ?_) (F.args_zip_next_1 _))))
    refine ⟨_, rfl, wpAny_letOwnedTupleGo_zip Z.z fun h'' hz'' sb => ?_⟩
    have sb : Heap.SameBut z h' h'' := sb
    have kk : ∀ b o, b ∉ [z, TI, TO, i1, i2] → s.heap.get? b = some o → h''.get? b = some o := fun b o hb e => by
      simp only [List.mem_cons, List.not_mem_nil, or_false, not_or] at hb
      exact sb.extBut _ _ hb.1 (up b o hb.1 hb.2.2.1 hb.2.2.2.1 hb.2.2.2.2 e)
    have I1 : Inv X pins σ H { s with heap := h'', toks := tk } := I.turneds (t' := tk) kk hf
    have fT : FpOk X pins H s.heap.objs.size := I.fpOk (Nat.le_refl _) (I.hok.fresh (Nat.le_refl _))
    have zT : s.heap.objs.size ≠ z := Ne.symm (lt z (by simp))
    have oT : IsPair h'' s.heap.objs.size xv yv := sb.extBut _ _ zT hp
    have I2 : Inv X pins σ (upd H s.heap.objs.size (.tup [x, y])) { s with heap := h'', toks := tk } := I1.track (Nat.le_trans I.sz (Nat.le_refl _)) fT
      ⟨by show 2 ≤ sizeLine; decide, [xv, yv], .cons (r1 i x xv ex px) (.cons (r2 i y yv ey py) .nil), ⟨_, oT, rfl, _, rfl⟩⟩
    refine ⟨.ref s.heap.objs.size, _, I2, rfl, ⟨_, x, y, rfl, fT.1, rfl, fun xs' h => by rw [Sr.vals.inj I h hx]; exact ex, fun ys' h => by rw [Sr.vals.inj I h hy]; exact ey⟩, ⟨hz'', sb.extBut _ _ D.a Z.ti, ?_, Z.s1.mv fun o e => sb.extBut _ _ D.c e, Z.s2.mv fun o e => sb.extBut _ _ D.d e⟩, fun b hb => ?_⟩
    · obtain ⟨a, a', ho⟩ := Z.to
      exact ⟨a, a', sb.extBut _ _ D.b ho⟩
    · rw [upd_ne (lt b hb)]
      exact (hf b hb).1
  done := by
    intro X hP hw hK hc i pins s σ H E I hf st hg
    subst hP hw hK
    obtain ⟨xs, ys, hx, hy, l⟩ := hg
    obtain ⟨v1, a1, z1, r1⟩ := Sr.vals.get I hx
    obtain ⟨v2, a2, z2, r2⟩ := Sr.vals.get I hy
    obtain ⟨hz, hi, ho, h1, h2⟩ := st
    have hT : s.TypeIs (.ref z) "zip" := ⟨_, hz, rfl⟩
    unfold pyNext
    refine wpAny_bind (wpAny_attempt (wpAny_callSpecial?_slot (name := Str.ofString "__next__") hT F.slot_zip_next (wpAny_call_entry F.slot_zip_next hT F.entry_zip_next
      (zip_end (A := X.A.in1) D (show X.A.in1.handled = none from I.ok.hd hc) ⟨hz, hi, ho, h1, h2, a1, a2⟩ (by omega) fun h' e tk up ⟨o, eo, co⟩ => ?_) (F.args_zip_next_1 _))))
    refine wpAny_bind (wpAny_isInstance (T := "StopIteration") (b := true) ⟨o, eo, co⟩ isSubtype_stop ?_)
    refine wpAny_pure ⟨rfl, I.turneds (ch := [z, TI, TO, i1, i2]) (t' := tk) (fun b o hb e => ?_) hf⟩
    simp only [List.mem_cons, List.not_mem_nil, or_false, not_or] at hb
    exact up b o hb.1 hb.2.2.1 hb.2.2.2.1 hb.2.2.2.2 e
  self := fun _ _ _ _ _ st h => wpAny_pyIter_zip st.1 h
def iZip (K : PySem.W.Frag) (ta : TA) : TI := fun σ H R => ta σ H fun vs H1 => ∃ S1 S2 x y xs ys, vs = [x, y] ∧ Sr.ofV S1 x ∧ Sr.ofV S2 y ∧ S1.vals K H1 xs ∧ S2.vals K H1 ys ∧ R (Itz K S1 S2) H1
theorem pi_zip {X : Cx} {a b : Expr} {ta : TA} {p pos tp : Pos} {es : List Expr} {kk : Nat} (hg : Gl X "zip") (hm : X.mg "zip" = none) (ha : PA X [a, b] ta) (hs : starEach [a, b] X.env = [(false, eval a X.env), (false, eval b X.env)] := by rfl)
    (hs2 : starEach [b] X.env = [(false, eval b X.env)] := by rfl) : PI X (.Tuple es kk tp) (.Call (.Name "zip" p) [a, b] [] pos) (iZip X.K ta) := by
  intro pins s σ H R I h
  refine Call_ (ld_blt I hg hm boot_zip (PyProof.Rows.callWith_type1 (thn (ha pos pins s σ H _ I h) fun us s1 ⟨vs, H1, I1, r1, q1⟩ => ?_) (by rw [hs, hs2]) (by rw [hs2]; rfl)))
  obtain ⟨S1, S2, x, y, xs, ys, e, e1, e2, hx, hy, q⟩ := q1
  subst e
  cases r1 with
  | cons r rr =>
    cases rr with
    | cons r' rr =>
      cases rr
      obtain ⟨v1, a1, z1, _⟩ := Sr.vals.get I1 hx
      obtain ⟨v2, a2, z2, _⟩ := Sr.vals.get I1 hy
      refine call_zip (e1.val r) (e2.val r') a1 a2 fun h' Z D up => wpAny_pyIter_zip Z.z ⟨_, _, _, _, H1, rfl, I1.kept (t' := s1.toks) up, turn_zip D, ⟨Z.z, Z.ti, Z.to, Z.s1, Z.s2⟩, fun b hb => ?_, q⟩
      simp only [List.mem_cons, List.not_mem_nil, or_false] at hb
      have le : s1.heap.objs.size ≤ b := by rcases hb with rfl | rfl | rfl | rfl | rfl <;> omega
      exact I1.fpOk le (I1.hok.fresh le)
/-- place and thing, as a new tuple each -/
def Ite (K : PySem.W.Frag) (S : Sr) : It :=
  ⟨fun i H => ∃ xs x, S.vals K H xs ∧ xs[i]? = some x, fun i H v H' => ∃ p x, v = .ref p ∧ H p = none ∧ H' = upd H p (.tup [.int i, x]) ∧ ∀ xs, S.vals K H xs → xs[i]? = some x, fun i H => ∃ xs, S.vals K H xs ∧ i = xs.length⟩
theorem Sr.fp_it (S : Sr) (I : Addr) : I ∈ S.fp I := by cases S <;> simp [Sr.fp]
theorem turn_enum {P : Program} {w : World} {K : PySem.W.Frag} {es : List Expr} {kk : Nat} {tp : Pos} {S : Sr} {e it : Addr} (D : e ≠ it) (o1 : S.off e) (o2 : S.off it) :
    Turn P w K (.Tuple es kk tp) (Ite K S) [e, it] e (fun i h => (∃ old, IsEnum h e it i old) ∧ S.it h it i) where
  mem := by simp
  obj := fun i h st b hb => by
    obtain ⟨⟨old, he⟩, h1⟩ := st
    simp only [List.mem_cons, List.not_mem_nil, or_false] at hb
    rcases hb with rfl | rfl
    · exact ⟨_, he, fun v z => by simp at z⟩
    · exact h1.obj
  keep := fun i h h' st k => by
    obtain ⟨⟨old, he⟩, h1⟩ := st
    exact ⟨⟨old, k e (by simp) _ he⟩, h1.mv fun o q => k it (by simp) o q⟩
  item := by
    intro X hP hw hK hc i pins s σ H E I hf st hg
    subst hP hw hK
    obtain ⟨xs, x, hx, ex⟩ := hg
    obtain ⟨vs, a1, z1, r1⟩ := Sr.vals.get I hx
    obtain ⟨⟨old, he⟩, h1⟩ := st
    have l1 := (List.getElem?_eq_some_iff.mp ex).1
    have lt : ∀ b ∈ [e, it], b < s.heap.objs.size := fun b hb => by
      simp only [List.mem_cons, List.not_mem_nil, or_false] at hb
      rcases hb with rfl | rfl
      · exact Heap.lt_size he
      · obtain ⟨_, q, _⟩ := h1.obj; exact Heap.lt_size q
    have hh : X.A.in1.handled = none := I.ok.hd hc
    have W := WalksT.enumerateD (prog := X.prog) (w := X.w) (A := X.A) (S.draws hh it o2 vs) e D (Sr.fp_off o1 D) (S.fp_it it)
    refine W.item i s _ E (by omega) ⟨⟨old, he⟩, h1, a1⟩ fun T vals h' tk hP hT ht hM hk => ⟨_, rfl, W.go es kk tp i T _ _ E hM fun h'' st'' hk'' => ?_⟩
    obtain ⟨t, xv, px, rfl⟩ := hP
    have kk : ∀ b o, b ∉ [e, it] → s.heap.get? b = some o → h''.get? b = some o := fun b o hb q => hk'' b o hb (hk b o hb q)
    have I1 : Inv X pins σ H { s with heap := h'', toks := tk } := I.turneds (t' := tk) kk hf
    have fT : FpOk X pins H T := I.fpOk hT (I.hok.fresh hT)
    have nT : T ∉ [e, it] := W.apart i T _ hM
    have oT : h''.IsTuple T #[.int i t, xv] := let ⟨o, q, r⟩ := ht; ⟨o, hk'' T o nT q, r⟩
    have I2 : Inv X pins σ (upd H T (.tup [.int i, x])) { s with heap := h'', toks := tk } := I1.track (Nat.le_trans I.sz hT) fT
      ⟨by show 2 ≤ sizeLine; decide, [.int i t, xv], .cons ⟨t, rfl⟩ (.cons (r1 i x xv ex px) .nil), oT⟩
    refine ⟨.ref T, _, I2, rfl, ⟨_, x, rfl, fT.1, rfl, fun xs' h => by rw [Sr.vals.inj I h hx]; exact ex⟩, ⟨st''.1, st''.2.1⟩, fun b hb => ?_⟩
    rw [upd_ne (Nat.ne_of_lt (Nat.lt_of_lt_of_le (lt b hb) hT))]
    exact (hf b hb).1
  done := by
    intro X hP hw hK hc i pins s σ H E I hf st hg
    subst hP hw hK
    obtain ⟨xs, hx, l⟩ := hg
    obtain ⟨vs, a1, z1, r1⟩ := Sr.vals.get I hx
    obtain ⟨⟨old, he⟩, h1⟩ := st
    have hh : X.A.in1.handled = none := I.ok.hd hc
    have W := WalksT.enumerateD (prog := X.prog) (w := X.w) (A := X.A) (S.draws hh it o2 vs) e D (Sr.fp_off o1 D) (S.fp_it it)
    have ei : i = vs.size := by omega
    subst ei
    exact W.done s _ E ⟨⟨old, he⟩, h1, a1⟩ fun h' tk hk => ⟨rfl, I.turneds (t' := tk) hk hf⟩
  self := fun _ _ _ _ _ st h => by
    obtain ⟨⟨old, he⟩, _⟩ := st
    exact wpAny_pyIter_enum he h
def iEnum (K : PySem.W.Frag) (ta : TA) : TI := fun σ H R => ta σ H fun vs H1 => ∃ S x xs, vs = [x] ∧ Sr.ofV S x ∧ S.vals K H1 xs ∧ R (Ite K S) H1
theorem pi_enum {X : Cx} {a : Expr} {ta : TA} {p pos tp : Pos} {es : List Expr} {kk : Nat} (hg : Gl X "enumerate") (hm : X.mg "enumerate" = none) (ha : PA X [a] ta) (hs : starEach [a] X.env = [(false, eval a X.env)] := by rfl) :
    PI X (.Tuple es kk tp) (.Call (.Name "enumerate" p) [a] [] pos) (iEnum X.K ta) := by
  intro pins s σ H R I h
  refine Call_ (ld_blt I hg hm boot_enumerate (PyProof.Rows.callWith_type1 (thn (ha pos pins s σ H _ I h) fun us s1 ⟨vs, H1, I1, r1, q1⟩ => ?_) hs rfl))
  obtain ⟨S, x, xs, e, e1, hx, q⟩ := q1
  subst e
  cases r1 with
  | cons r rr =>
    cases rr
    obtain ⟨v1, a1, z1, _⟩ := Sr.vals.get I1 hx
    have off : ∀ k : Nat, S.off (s1.heap.objs.size + k) := fun k => by
      cases S with
      | lst a => obtain ⟨o, q, _⟩ := a1; exact Nat.ne_of_lt (Nat.lt_of_lt_of_le (Heap.lt_size q) (Nat.le_add_right _ k))
      | tup a => obtain ⟨o, q, _⟩ := a1; exact Nat.ne_of_lt (Nat.lt_of_lt_of_le (Heap.lt_size q) (Nat.le_add_right _ k))
      | str z => exact trivial
    refine call_enum (e1.val r) a1 fun h' he hi up => wpAny_pyIter_enum he ⟨_, _, _, _, H1, rfl, I1.kept (t' := s1.toks) up, turn_enum (Nat.succ_ne_self _) (off 1) (off 0), ⟨⟨_, he⟩, hi⟩, fun b hb => ?_, q⟩
    simp only [List.mem_cons, List.not_mem_nil, or_false] at hb
    have le : s1.heap.objs.size ≤ b := by rcases hb with rfl | rfl <;> omega
    exact I1.fpOk le (I1.hok.fresh le)
/-- over two that the body leaves as they are -/
theorem for_zip {K : PySem.W.Frag} {S1 S2 : Sr} {xs ys : List V} {g : TG} {tb : TS} {D : Ends} {σ : St} {H : Hp} (Pv : Nat → St → Hp → Prop) (hll : xs.length = ys.length) (h0 : Pv 0 σ H) (hl : ∀ i σ H, i ≤ xs.length → Pv i σ H → S1.vals K H xs ∧ S2.vals K H ys)
    (hs : ∀ i x y p σ H, xs[i]? = some x → ys[i]? = some y → H p = none → Pv i σ H → g (.ref p) σ (upd H p (.tup [x, y])) fun σ2 H2 => tb { D with nx := Pv (i + 1), ct := Pv (i + 1), bk := D.nx } σ2 H2) (hd : ∀ σ H, Pv xs.length σ H → D.nx σ H) :
    ∃ W : Nat → Nat → St → Hp → Prop, (∃ m, W 0 m σ H) ∧ ∀ i m σ H, W i m σ H →
      ((Itz K S1 S2).stop i H ∧ D.nx σ H) ∨ ((Itz K S1 S2).go i H ∧ ∃ N : St → Hp → Prop, (∀ σ' H', N σ' H' → ∃ m', m' < m ∧ W (i + 1) m' σ' H') ∧ ∀ x H', (Itz K S1 S2).yld i H x H' → g x σ H' fun σ2 H2 => tb { D with nx := N, ct := N, bk := D.nx } σ2 H2) := by
  refine ⟨fun i m σ H => m = xs.length - i ∧ i ≤ xs.length ∧ Pv i σ H, ⟨xs.length, by simp, Nat.zero_le _, h0⟩, ?_⟩
  rintro i m σ H ⟨rfl, hi, p⟩
  obtain ⟨q1, q2⟩ := hl i σ H hi p
  by_cases hlt : i < xs.length
  · have hly : i < ys.length := by omega
    refine .inr ⟨⟨xs, ys, xs[i], ys[i], q1, q2, by simp [hlt], by simp [hly]⟩, Pv (i + 1), fun σ' H' p' => ⟨xs.length - (i + 1), by omega, rfl, hlt, p'⟩, fun x H' y => ?_⟩
    obtain ⟨pp, x', y', rfl, hn, rfl, y1, y2⟩ := y
    exact hs i x' y' pp σ H (y1 xs q1) (y2 ys q2) hn p
  · have e : i = xs.length := by omega
    subst e
    exact .inl ⟨⟨xs, ys, q1, q2, .inl rfl⟩, hd σ H p⟩
end L2
/-! Texts over the layer: slices, times, index, a walk sign by sign; tuple(list). -/
namespace L2
open PySem PySem.Spec PyProof.Rows
section
variable {X : Cx}
def rSlS : V → Option Int → Option Int → Hp → VK → Prop := fun x lo hi H Q => ∃ z, x = .str z ∧ z.length ≤ sizeLine ∧ Q (.str (Txt.slice z lo hi)) H
theorem sl_str : SlR X rSlS := by
  intro pins s σ H x v vl vu lo hi sl Q I rx hs pl pu h
  obtain ⟨z, rfl, hz, q⟩ := h
  obtain ⟨t, rfl⟩ := rx
  have fin : ∀ t' k, EP X pins σ Q (.str (Txt.slice z lo hi) t') { s with toks := k } := fun t' k => ⟨.str _, H, I.tok _, ⟨_, rfl⟩, q⟩
  refine ⟨"str", _, F.slot_str_getitem.lookup, typeIs_str _ _ _, ?_⟩
  cases pl with
  | none =>
    cases pu with
    | none => exact wpAny_getItem_str_slice (l := none) (u := none) (st := none) hs rfl (post_val_or_str ⟨Nat.le_trans (Txt.slice_le z _ _) hz, fin⟩)
    | int j uj => exact wpAny_getItem_str_slice (l := none) (u := some (j, uj)) (st := none) hs rfl (post_val_or_str ⟨Nat.le_trans (Txt.slice_le z _ _) hz, fin⟩)
  | int i ui =>
    cases pu with
    | none => exact wpAny_getItem_str_slice (l := some (i, ui)) (u := none) (st := none) hs rfl (post_val_or_str ⟨Nat.le_trans (Txt.slice_le z _ _) hz, fin⟩)
    | int j uj => exact wpAny_getItem_str_slice (l := some (i, ui)) (u := some (j, uj)) (st := none) hs rfl (post_val_or_str ⟨Nat.le_trans (Txt.slice_le z _ _) hz, fin⟩)
def repS (z : Str) (n : Int) : Str := if n < 1 then Str.empty else if (n == 1 || z.length == 0) = true then z else ⟨(List.replicate n.toNat z.cps).foldl (· ++ ·) #[]⟩
def rMulS : R2 := fun x y H Q => ∃ z n, x = .str z ∧ y = .int n ∧ (-1000000 ≤ n ∧ n ≤ 1000000 ∧ z.length ≤ 1000000 ∧ z.length * n.toNat ≤ 1000000 ∧ (repS z n).length ≤ sizeLine) ∧ Q (.str (repS z n)) H
theorem op_mulS : OpR X (binaryOp .Mult) rMulS := by
  intro pins s σ H x y v u Q I rx ry h
  obtain ⟨z, n, rfl, rfl, ⟨h1, h2, h3, h4, h5⟩, q⟩ := h
  obtain ⟨t, rfl⟩ := rx
  obtain ⟨t', rfl⟩ := ry
  refine PySem.P.mul_str (by rw [decide_eq_false (by omega), decide_eq_false (by omega)]; rfl) (fun hn _ => ?_) (fun hn _ => ?_) ?_
  · have : n ≤ 1000000 := h2
    have e : (2 ^ 63 - 1 : Int) / n ≥ (2 ^ 63 - 1 : Int) / 1000000 := by
      have hp : (0 : Int) < n := by omega
      rw [ge_iff_le, Int.le_ediv_iff_mul_le hp]
      have hm : (2 ^ 63 - 1 : Int) / 1000000 * n ≤ (2 ^ 63 - 1 : Int) / 1000000 * 1000000 := Int.mul_le_mul_of_nonneg_left h2 (by decide)
      have : (2 ^ 63 - 1 : Int) / 1000000 * 1000000 ≤ 2 ^ 63 - 1 := by decide
      omega
    have f : (2 ^ 63 - 1 : Int) / 1000000 = 9223372036854 := by decide
    omega
  · unfold Builtin.Str.tooLong
    exact decide_eq_false (by have := sizeLine_eq; omega)
  · unfold repS at h5 q
    split
    · rename_i hn
      rw [if_pos hn] at q h5
      exact ⟨h5, .str _, H, I.tok _, ⟨_, rfl⟩, q⟩
    · rename_i hn
      rw [if_neg hn] at q h5
      split
      · rename_i hm
        rw [if_pos hm] at q
        exact ⟨.str _, H, I, ⟨_, rfl⟩, q⟩
      · rename_i hm
        rw [if_neg hm] at q h5
        exact ⟨h5, .str _, H, I.tok _, ⟨_, rfl⟩, q⟩
def rIndexS : V → List V → Hp → VK → Prop := fun x xs H Q => ∃ z y i rest, x = .str z ∧ xs = [.str y] ∧ Builtin.Str.occurrences z y 0 z.length 1 = i :: rest ∧ Q (.int (i : Nat)) H
theorem mt_indexS : MtR X "str.index" rIndexS := by
  intro pins s σ H x xs v us Q I rx rs h
  obtain ⟨z, y, i, rest, rfl, rfl, e, q⟩ := h
  obtain ⟨t, rfl⟩ := rx
  obtain ⟨u, rfl, ru⟩ := rs.one
  obtain ⟨t', rfl⟩ := ru
  exact call_gives F.slot_str_index (typeIs_str s z t) F.entry_str_index (F.args_str_index_2 _ _) (PySem.gives_str_index z y t t' i rest e) ⟨.int _, H, I.tok _, ⟨_, rfl⟩, q⟩
/-! a text sign by sign (ASCII) -/
def Its (z : Str) : It := ⟨fun i _ => i < z.cps.size, fun i H x H' => H' = H ∧ ∃ c, z.cps[i]? = some c ∧ x = .str ⟨#[c]⟩, fun i _ => z.cps.size ≤ i⟩
theorem turn_str {P : Program} {w : World} {K : PySem.W.Frag} {tg : Expr} (z : Str) (t : Tok) (it : Addr) : Turn P w K tg (Its z) [it] it (fun i h => h.IsStrIter it "str_ascii_iterator" z t i) where
  mem := by simp
  obj := fun i h st b hb => by
    have e : b = it := by simpa using hb
    subst e
    obtain ⟨o, e, c, d⟩ := st
    exact ⟨o, e, fun v q => by rw [d] at q; cases q⟩
  keep := fun i h h' st k => by
    obtain ⟨o, e, r⟩ := st
    exact ⟨o, k it (by simp) o e, r⟩
  item := by
    intro X hP hw hK hc i pins s σ H E I hf st hg
    subst hP hw hK
    have hg : i < z.cps.size := hg
    obtain ⟨f0, f1, f2, f3, f4, f5⟩ := hf it (by simp)
    refine wpAny_pyNext_ascii_item st (c := z.cps[i]) (by simp [hg]) fun h' st' sb => ?_
    have I1 : Inv X pins σ H { s with heap := h', toks := s.toks + 1 } := I.turned (t' := s.toks + 1) (fun b o hb e => (sb.2 b hb).trans e) f0 f1 f3 f4 f5
    obtain ⟨o, e, c, d⟩ := id st'
    exact ⟨_, rfl, go_of (s := { s with heap := h', toks := s.toks + 1 }) e c d (by decide) ⟨.str ⟨#[z.cps[i]]⟩, H, I1, ⟨_, rfl⟩, ⟨rfl, _, by simp [hg], rfl⟩, st', fun b hb => (hf b hb).1⟩⟩
  done := by
    intro X hP hw hK hc i pins s σ H E I hf st hg
    subst hP hw hK
    have hg : z.cps.size ≤ i := hg
    obtain ⟨f0, f1, f2, f3, f4, f5⟩ := hf it (by simp)
    exact wpAny_pyNext_ascii_end (I.ok.hd hc) st (by simp; omega) fun h' eb => ⟨rfl, I.turned (t' := s.toks) (fun b o hb e => eb b o hb e) f0 f1 f3 f4 f5⟩
  self := fun _ _ _ _ _ st h => wpAny_pyIter_striter_ascii st h
def iStr (tl : TE) : TI := fun σ H R => tl σ H fun x H1 => ∃ z, x = .str z ∧ z.cps.all (· < 128) = true ∧ R (Its z) H1
theorem pi_str {tg l : Expr} {tl : TE} (hl : PE X l tl) : PI X tg l (iStr tl) := by
  intro pins s σ H R I h
  refine thn (hl pins s σ H _ I h) fun v s1 ⟨x, H1, I1, r1, z, e, ha, q⟩ => ?_
  subst e
  obtain ⟨t, rfl⟩ := r1
  refine wpAny_pyIter_ascii ha ?_
  have hf : H1 s1.heap.objs.size = none := I1.hok.fresh (Nat.le_refl _)
  refine ⟨s1.heap.objs.size, [s1.heap.objs.size], _, Its z, H1, rfl, I1.kept (t' := s1.toks) (fun b ob q => Heap.get?_push_of_some _ q), turn_str z t _, ⟨_, Heap.get?_push_size _ rfl, rfl, rfl⟩, fun b hb => ?_, q⟩
  have e : b = s1.heap.objs.size := by simpa using hb
  subst e
  exact I1.fpOk (Nat.le_refl _) hf
/-- tuple(xs), xs a list -/
theorem call_tupleL : CallR X (.type "tuple") (fun xs H Q => ∃ a ys, xs = [.ref a] ∧ SqL X.K H a ys ∧ ∀ p, H p = none → Q (.ref p) (upd H p (.tup ys))) := by
  intro pins s σ H xs us Q I r h
  obtain ⟨a, ys, rfl, ha, q⟩ := h
  obtain ⟨u, rfl, ru⟩ := vals1 r
  cases ru
  obtain ⟨its, rv, pl, hz⟩ := I.list ha
  refine call_tuple_list pl.isList (fun h' hk => ?_) (by rw [List.size_toArray, ← rv.length]; exact hz)
  have I1 : Inv X pins σ H { s with heap := h' } := I.kept (t' := s.toks) hk
  exact ⟨.ref h'.objs.size, _, I1.laid (t' := s.toks) (o := .tup ys) (fun b ob q => Heap.get?_push_of_some _ q) (Nat.le_refl _) ⟨hz, its, rv, IsTup.new _ _⟩, rfl, q _ (I1.hok.fresh (Nat.le_refl _))⟩
end
end L2
/-! all(..) and any(..) of a list of truths. -/
namespace L2
open PySem PySem.Spec PyProof.Rows
section
variable {X : Cx}
theorem vals_bl {bs : List Bool} {its : List Value} (r : Vals (bs.map V.bl) its) {i : Nat} {v : Value} (h : its[i]? = some v) : ∃ b, bs[i]? = some b ∧ v = .bool b := by
  have len := r.length
  rw [List.length_map] at len
  have hi : i < its.length := (List.getElem?_eq_some_iff.mp h).1
  have hb : bs[i]? = some (bs[i]'(by omega)) := List.getElem?_eq_getElem (by omega)
  obtain ⟨u, hu, ru⟩ := r.get (i := i) (x := V.bl (bs[i]'(by omega))) (by rw [List.getElem?_map, hb]; rfl)
  rw [h] at hu
  cases hu
  exact ⟨_, hb, ru⟩
theorem all_range (bs : List Bool) : (List.range bs.length).all (fun i => bs[i]?.getD false) = bs.all id := by
  rw [Bool.eq_iff_iff, List.all_eq_true, List.all_eq_true]
  constructor
  · intro h b hb
    obtain ⟨i, hi, e⟩ := List.getElem_of_mem hb
    have := h i (List.mem_range.mpr hi)
    rw [List.getElem?_eq_getElem hi, Option.getD_some, e] at this
    exact this
  · intro h i hi
    have hi := List.mem_range.mp hi
    rw [List.getElem?_eq_getElem hi, Option.getD_some]
    exact h _ (List.getElem_mem hi)
theorem any_range (bs : List Bool) : (List.range bs.length).any (fun i => bs[i]?.getD false) = bs.any id := by
  rw [Bool.eq_iff_iff, List.any_eq_true, List.any_eq_true]
  constructor
  · rintro ⟨i, hi, e⟩
    have hi := List.mem_range.mp hi
    rw [List.getElem?_eq_getElem hi, Option.getD_some] at e
    exact ⟨_, List.getElem_mem hi, e⟩
  · rintro ⟨b, hb, e⟩
    obtain ⟨i, hi, e'⟩ := List.getElem_of_mem hb
    exact ⟨i, List.mem_range.mpr hi, by rw [List.getElem?_eq_getElem hi, Option.getD_some, e']; exact e⟩
def rAll (K : PySem.W.Frag) (f : List Bool → Bool) : List V → Hp → VK → Prop := fun xs H Q => ∃ a bs, xs = [.ref a] ∧ SqL K H a (bs.map V.bl) ∧ Q (.bl (f bs)) H
theorem call_all (hc : X.calm = true) : CallR X (.builtin "all") (rAll X.K fun bs => bs.all id) := by
  intro pins s σ H xs us Q I r h
  obtain ⟨a, bs, rfl, hq, q⟩ := h
  obtain ⟨u, rfl, ru⟩ := r.one
  cases (show u = Value.ref a from ru)
  obtain ⟨its, rv, p, hz⟩ := I.list hq
  have lt : a ≠ s.heap.objs.size := by obtain ⟨o, n, e, _⟩ := p; exact Nat.ne_of_lt (Heap.lt_size e)
  have hh : X.A.in1.handled = none := I.ok.hd hc
  have hl := p.isList
  have len := rv.length
  rw [List.length_map] at len
  refine call_all_walk (wpAny_pyIter_list hl ⟨_, _, _, _, _, _, fun i => bs[i]?.getD false, rfl, Walks.list hh s.heap.objs.size a lt its.toArray, ⟨⟨_, Heap.get?_push_size _ rfl, rfl, rfl⟩, Heap.IsList.push hl _⟩, fun i v s' Q' E' hv q' => ?_, fun h' tk k => ?_⟩)
  · have hv : its.toArray[i]? = some v := hv
    rw [List.getElem?_toArray] at hv
    obtain ⟨b, eb, rfl⟩ := vals_bl rv hv
    have q' : Q' (bs[i]?.getD false) s' := q'
    rw [eb] at q'
    exact wpAny_truthy_bool q'
  · rw [List.size_toArray, ← len, all_range]
    refine ⟨.bl _, H, I.kept (t' := tk) fun b o e => k b o (fun z => ?_) (Heap.get?_push_of_some _ e), rfl, q⟩
    rw [List.mem_singleton] at z
    exact absurd (Heap.lt_size e) (by rw [z]; exact Nat.lt_irrefl _)
theorem call_any (hc : X.calm = true) : CallR X (.builtin "any") (rAll X.K fun bs => bs.any id) := by
  intro pins s σ H xs us Q I r h
  obtain ⟨a, bs, rfl, hq, q⟩ := h
  obtain ⟨u, rfl, ru⟩ := r.one
  cases (show u = Value.ref a from ru)
  obtain ⟨its, rv, p, hz⟩ := I.list hq
  have lt : a ≠ s.heap.objs.size := by obtain ⟨o, n, e, _⟩ := p; exact Nat.ne_of_lt (Heap.lt_size e)
  have hh : X.A.in1.handled = none := I.ok.hd hc
  have hl := p.isList
  have len := rv.length
  rw [List.length_map] at len
  refine call_any_walk (wpAny_pyIter_list hl ⟨_, _, _, _, _, _, fun i => bs[i]?.getD false, rfl, Walks.list hh s.heap.objs.size a lt its.toArray, ⟨⟨_, Heap.get?_push_size _ rfl, rfl, rfl⟩, Heap.IsList.push hl _⟩, fun i v s' Q' E' hv q' => ?_, fun h' tk k => ?_⟩)
  · have hv : its.toArray[i]? = some v := hv
    rw [List.getElem?_toArray] at hv
    obtain ⟨b, eb, rfl⟩ := vals_bl rv hv
    have q' : Q' (bs[i]?.getD false) s' := q'
    rw [eb] at q'
    exact wpAny_truthy_bool q'
  · rw [List.size_toArray, ← len, any_range]
    refine ⟨.bl _, H, I.kept (t' := tk) fun b o e => k b o (fun z => ?_) (Heap.get?_push_of_some _ e), rfl, q⟩
    rw [List.mem_singleton] at z
    exact absurd (Heap.lt_size e) (by rw [z]; exact Nat.lt_irrefl _)
end
end L2
/-! A list taken apart into names; any loop as so many turns. -/
namespace L2
open PySem PySem.Spec PyProof.Rows
section
variable {prog : Program} {w : World} {A : Around} {E : Value → Shared → Prop} {s : Shared}
theorem draw_list {it t : Addr} {items : Array Value} (hne : t ≠ it) : ∀ (n i : Nat) (s : Shared) (Q : List Value → Shared → Prop), s.heap.IsListIter it t i → s.heap.IsList t items → i + n ≤ items.size →
    (∀ h', h'.IsListIter it t (i + n) → Heap.SameBut it s.heap h' → Q ((items.toList.drop i).take n) { s with heap := h' }) → wpAny (model prog w) A (draw (.ref it) n) Q E s
  | 0, i, s, Q, hit, _, _, hQ => by
    show wpAny _ _ (pure []) Q E s
    exact wpAny_pure (by simpa using hQ s.heap hit (Heap.SameBut.refl ..))
  | n + 1, i, s, Q, hit, ht, hle, hQ => by
    have hlt : i < items.size := by omega
    show wpAny _ _ (pyNext (.ref it) >>= _) Q E s
    refine wpAny_bind (wpAny_pyNext_list_item hit ht (x := items[i]) (by simp [hlt]) fun h₁ hit₁ hs₁ => ?_)
    refine wpAny_bind (wpAny_holding (draw_list hne n (i + 1) _ _ hit₁ (ht.extBut hs₁.extBut hne) (by omega) fun h₂ hit₂ hs₂ => wpAny_pure ?_))
    have hd : items.toList.drop i = items[i] :: items.toList.drop (i + 1) := by simp [List.drop_eq_getElem_cons, hlt]
    have := hQ h₂ (by rw [show i + (n + 1) = i + 1 + n by omega]; exact hit₂) (hs₁.trans hs₂)
    rw [hd, List.take_succ_cons] at this
    exact this
theorem unpackItems_list {t : Addr} {items : Array Value} {Q : List Value → Shared → Prop} (hh : A.handled = none) (ht : s.heap.IsList t items)
    (hQ : ∀ h', Heap.ExtBut s.heap.objs.size s.heap h' → Q items.toList { s with heap := h' }) : wpAny (model prog w) A (unpackItems (.ref t) items.size none) Q E s := by
  have hlt : t ≠ s.heap.objs.size := by obtain ⟨o, ho, _⟩ := ht; exact Nat.ne_of_lt (Heap.lt_size ho)
  unfold unpackItems
  refine wpAny_bind ?_
  · unfold notIterableAtAll
    refine wpAny_bind (wpAny_specialOf ht.typeIs F.slot_list_iter.lookup ?_)
    refine wpAny_pure ?_
    simp only [Bool.false_eq_true, if_false]
    refine wpAny_bind (wpAny_holding (wpAny_pyIter_list ht ?_))
    refine wpAny_bind (wpAny_holding (draw_list hlt items.size 0 _ _ ⟨_, Heap.get?_push_size _ rfl, rfl, rfl⟩ (Heap.IsList.push ht _) (by omega) fun h₁ hit₁ hs₁ => ?_))
    have hall : List.take items.size (List.drop 0 items.toList) = items.toList := by
      rw [List.drop_zero]; exact List.take_of_length_le (by simp)
    rw [hall]
    rw [if_neg (by simp)]
    have ht₁ : h₁.IsList t items := (Heap.IsList.push ht _).extBut hs₁.extBut hlt
    refine wpAny_bind (wpAny_holding (wpAny_pyNext_list_end hh hit₁ ht₁ (by simp) fun h₂ he₂ => ?_))
    simp only [Option.isSome_none, Bool.false_eq_true, if_false]
    refine wpAny_pure (hQ h₂ fun b o hb e => he₂ b o hb (hs₁.extBut b o hb (Heap.get?_push_of_some _ e)))
end
def gLst (K : PySem.W.Frag) (n : Nat) (t : TGs) : TG := fun v σ H Q => ∃ a xs, v = .ref a ∧ SqL K H a xs ∧ xs.length = n ∧ t xs σ H Q
theorem pg_lst {X : Cx} {pos : Pos} {es : List Expr} {k : Nat} {t : TGs} {n : Nat} (hc : X.calm = true) (h : PGs X es t)
    (hn : (assignEach es X.env).length = n := by rfl) (hst : (assignEach es X.env).findIdx? (·.1) = none := by rfl) : PG X (.Tuple es k pos) (gLst X.K n t) := by
  intro pins s σ H v u Q I r hw
  obtain ⟨a, xs, e1, hq, hl, hw⟩ := hw
  subst e1
  cases r
  obtain ⟨its, rv, pl, hz⟩ := I.list hq
  rw [assign_Tuple]
  refine wpAny_bind (wpAny_standAt ?_)
  unfold unpack
  rw [show (assignEach es X.env).length = its.toArray.size by simp [hn, ← hl, rv.length], hst]
  refine wpAny_bind (wpAny_holding (unpackItems_list (I.ok.hd hc) pl.isList fun h' hx => ?_))
  have I1 : Inv X pins σ H { s with heap := h' } := I.kept (t' := s.toks) fun b o e => hx b o (Nat.ne_of_lt (Heap.lt_size e)) e
  exact h pins _ σ H xs _ Q I1 (by simpa using rv) hw
/-- a loop over whatever gives so many things -/
theorem for_it {J : It} {n : Nat} {g : TG} {tb : TS} {D : Ends} {σ : St} {H : Hp} (Pv : Nat → St → Hp → Prop) (h0 : Pv 0 σ H)
    (hs : ∀ i σ H, i < n → Pv i σ H → J.go i H ∧ ∀ x H', J.yld i H x H' → g x σ H' fun σ2 H2 => tb { D with nx := Pv (i + 1), ct := Pv (i + 1), bk := D.nx } σ2 H2) (hd : ∀ σ H, Pv n σ H → J.stop n H ∧ D.nx σ H) :
    ∃ W : Nat → Nat → St → Hp → Prop, (∃ m, W 0 m σ H) ∧ ∀ i m σ H, W i m σ H →
      (J.stop i H ∧ D.nx σ H) ∨ (J.go i H ∧ ∃ N : St → Hp → Prop, (∀ σ' H', N σ' H' → ∃ m', m' < m ∧ W (i + 1) m' σ' H') ∧ ∀ x H', J.yld i H x H' → g x σ H' fun σ2 H2 => tb { D with nx := N, ct := N, bk := D.nx } σ2 H2) := by
  refine ⟨fun i m σ H => m = n - i ∧ i ≤ n ∧ Pv i σ H, ⟨n, by simp, Nat.zero_le _, h0⟩, ?_⟩
  rintro i m σ H ⟨rfl, hi, p⟩
  by_cases hlt : i < n
  · obtain ⟨a, b⟩ := hs i σ H hlt p
    exact .inr ⟨a, Pv (i + 1), fun σ' H' p' => ⟨n - (i + 1), by omega, rfl, hlt, p'⟩, b⟩
  · have e : i = n := by omega
    subst e
    exact .inl (hd σ H p)
theorem tuple_addW0 (l b : Addr) (items items2 : Array Value) (n n2 : Nat) (dd dd2 : Option Addr) (sl sl2 : Array (Option Value)) (hc0 : items.isEmpty = true) :
    Meets (Builtin.«tuple.__add__» ⟨[.ref l, .ref b], []⟩) (fun _ R s => s.heap.get? l = some { cls := .type "tuple", dict := dd, data := .seq items n, slots := sl } ∧ s.heap.get? b = some { cls := .type "tuple", dict := dd2, data := .seq items2 n2, slots := sl2 } ∧ R (.ok (.ret (Value.ref b))) { s with heap := s.heap, toks := s.toks }) :=
  .of_wp fun prog w A R s h => by obtain ⟨hp, g, d, tk, os⟩ := s; obtain ⟨hl, hb, h⟩ := h; have f1 := AutoSeq1.idx_int; have f2 := AutoSeq1.sub_tuple_tuple; wp_walk using AutoSeq1.wpAny_loadPart' hl, AutoSeq1.wpAny_loadPart' hb; exact ⟨_, rfl, h⟩
/-- t + u, u not empty: t empty gives u itself -/
def rCatN (K : PySem.W.Frag) : R2 := fun x y H Q => ∃ a b xs ys, x = .ref a ∧ y = .ref b ∧ SqT K H a xs ∧ SqT K H b ys ∧ ys ≠ [] ∧ xs.length + ys.length ≤ sizeLine ∧
  (xs = [] → Q (.ref b) H) ∧ (xs ≠ [] → ∀ p, H p = none → Q (.ref p) (upd H p (.tup (xs ++ ys))))
theorem op_catN {X : Cx} : OpR X (binaryOp .Add) (rCatN X.K) := by
  intro pins s σ H x y v u Q I rx ry h
  obtain ⟨a, b, xs, ys, rfl, rfl, ha, hb, hy, hz, q1, q2⟩ := h
  cases rx
  cases ry
  by_cases hx : xs = []
  · obtain ⟨its, r1, p1, _⟩ := I.tuple ha
    obtain ⟨its2, r2, p2, _⟩ := I.tuple hb
    have e0 : its = [] := r1.nil_iff.mpr hx
    obtain ⟨⟨cls, dd, data, sl⟩, ho, hc, n, hd⟩ := id p1
    obtain ⟨⟨cls2, dd2, data2, sl2⟩, ho2, hc2, n2, hd2⟩ := id p2
    simp only at hc hd hc2 hd2
    subst hc hd hc2 hd2
    exact concat_meets ⟨_, ho, rfl⟩ ⟨_, ho2, rfl⟩ noFill_tuple_add seq_tuple_add PySem.F.slot_tuple_add PySem.F.entry_tuple_add (PySem.F.args_tuple_add_2 _ _)
      (tuple_addW0 a b its.toArray its2.toArray n n2 dd dd2 sl sl2 (by rw [e0]; rfl)) ⟨ho, ho2, ⟨.ref b, H, I, rfl, q1 hx⟩⟩
  · exact op_catT pins s σ H (.ref a) (.ref b) (.ref a) (.ref b) Q I rfl rfl ⟨a, b, xs, ys, rfl, rfl, ha, hb, hx, hz, fun z => absurd z hy, fun _ => q2 hx⟩
/-- t + u of tuples, empty or not -/
def rCatA : R2 := fun x y H Q => ∃ a b xs ys, x = .ref a ∧ y = .ref b ∧ H a = some (.tup xs) ∧ H b = some (.tup ys) ∧ xs.length + ys.length ≤ sizeLine ∧
  ∀ p H', Same H H' → H' p = some (.tup (xs ++ ys)) → Q (.ref p) H'
theorem op_catA {X : Cx} : OpR X (binaryOp .Add) rCatA := by
  intro pins s σ H x y v u Q I rx ry h
  obtain ⟨a, b, xs, ys, rfl, rfl, ha, hb, hz, q⟩ := h
  cases rx
  cases ry
  by_cases hx : xs = []
  · obtain ⟨its, r1, p1, _⟩ := I.tuple (SqT.of ha)
    obtain ⟨its2, r2, p2, _⟩ := I.tuple (SqT.of hb)
    have e0 : its = [] := r1.nil_iff.mpr hx
    obtain ⟨⟨cls, dd, data, sl⟩, ho, hc, n, hd⟩ := id p1
    obtain ⟨⟨cls2, dd2, data2, sl2⟩, ho2, hc2, n2, hd2⟩ := id p2
    simp only at hc hd hc2 hd2
    subst hc hd hc2 hd2
    exact concat_meets ⟨_, ho, rfl⟩ ⟨_, ho2, rfl⟩ noFill_tuple_add seq_tuple_add PySem.F.slot_tuple_add PySem.F.entry_tuple_add (PySem.F.args_tuple_add_2 _ _)
      (tuple_addW0 a b its.toArray its2.toArray n n2 dd dd2 sl sl2 (by rw [e0]; rfl)) ⟨ho, ho2, ⟨.ref b, H, I, rfl, q b H (Same.refl _) (by rw [hx]; exact hb)⟩⟩
  · exact op_catT pins s σ H (.ref a) (.ref b) (.ref a) (.ref b) Q I rfl rfl ⟨a, b, xs, ys, rfl, rfl, SqT.of ha, SqT.of hb, hx, hz, fun z => q a H (Same.refl _) (by rw [z, List.append_nil]; exact ha), fun _ p np => q p _ (same_upd np) upd_same⟩
theorem op_isnotBB {X : Cx} : OpR X (compareOp .IsNot) (fun x y H Q => ∃ a b, x = .bl a ∧ y = .bl b ∧ Q (.bl (!decide (a = b))) H) := by
  intro pins s σ H x y v u Q I rx ry h
  obtain ⟨a, b, rfl, rfl, q⟩ := h
  cases rx
  cases ry
  show wpAny _ _ (do return Value.bool (!(← isSame (.bool a) (.bool b)))) _ _ _
  refine wpAny_bind (wpAny_pure (wpAny_pure (fin_bl I q ?_)))
  cases a <;> cases b <;> rfl
end L2
/-! Tuples and lists of things, comprehensions that make them (behind Comp, ZipL). -/
namespace L2
open PySem PySem.Spec PyProof.Rows
/-- tuples stay -/
def SameT (H H' : Hp) : Prop := ∀ p vs, H p = some (.tup vs) → H' p = some (.tup vs)
theorem SameT.refl (H : Hp) : SameT H H := fun _ _ h => h
theorem SameT.trans {H H1 H2 : Hp} (x : SameT H H1) (y : SameT H1 H2) : SameT H H2 := fun p vs h => y p vs (x p vs h)
theorem Same.t {H H' : Hp} (x : Same H H') : SameT H H' := fun p vs h => x p _ h
/-- ys are so many things, each as told -/
def Ents (Pd : Nat → V → Hp → Prop) (ys : List V) (n : Nat) (H : Hp) : Prop := ys.length = n ∧ ∀ j, j < n → ∃ u, ys[j]? = some u ∧ Pd j u H
section
variable {Pd Pe : Nat → V → Hp → Prop} {ys : List V} {n : Nat} {H H' : Hp} {v : V}
theorem Ents.nil : Ents Pd [] 0 H := ⟨rfl, fun j h => absurd h (Nat.not_lt_zero j)⟩
theorem Ents.mono (h : Ents Pd ys n H) (s : ∀ j u, j < n → Pd j u H → Pe j u H') : Ents Pe ys n H' := ⟨h.1, fun j hj => by
  obtain ⟨u, e, p⟩ := h.2 j hj
  exact ⟨u, e, s j u hj p⟩⟩
theorem Ents.snoc (h : Ents Pd ys n H) (p : Pd n v H) : Ents Pd (ys ++ [v]) (n + 1) H := ⟨by rw [List.length_append, h.1]; rfl, fun j hj => by
  by_cases hn : j < n
  · obtain ⟨u, e, q⟩ := h.2 j hn
    exact ⟨u, by rw [List.getElem?_append_left (by rw [h.1]; exact hn)]; exact e, q⟩
  · have e : j = n := by omega
    subst e
    exact ⟨v, by rw [List.getElem?_append_right (by rw [h.1]; exact Nat.le_refl _), h.1, Nat.sub_self]; rfl, p⟩⟩
theorem Ents.at (h : Ents Pd ys n H) {j : Nat} {u : V} (e : ys[j]? = some u) : j < n ∧ Pd j u H := by
  have hj : j < n := by rw [← h.1]; exact (List.getElem?_eq_some_iff.mp e).1
  obtain ⟨u', e', p⟩ := h.2 j hj
  rw [e] at e'
  cases e'
  exact ⟨hj, p⟩
end
/-- a tuple of such things -/
def TupOf (Pd : Nat → V → Hp → Prop) (n : Nat) (v : V) (H : Hp) : Prop := ∃ p vs, v = .ref p ∧ H p = some (.tup vs) ∧ Ents Pd vs n H
/-- a tuple or a list of such things -/
def SeqOf (K : PySem.W.Frag) (Pd : Nat → V → Hp → Prop) (n : Nat) (v : V) (H : Hp) : Prop := ∃ S vs, Sr.ofV S v ∧ S.vals K H vs ∧ (∀ H', Same H H' → S.vals K H' vs ∧ LenV K v H' vs.length) ∧ Ents Pd vs n H
theorem TupOf.seq {K : PySem.W.Frag} {Pd : Nat → V → Hp → Prop} {n : Nat} {v : V} {H : Hp} (h : TupOf Pd n v H) : SeqOf K Pd n v H := by
  obtain ⟨p, vs, rfl, hp, e⟩ := h
  exact ⟨.tup p, vs, rfl, SqT.of hp, fun H' q => ⟨SqT.of (q _ _ hp), .inr ⟨_, SqT.of (q _ _ hp), rfl⟩⟩, e⟩
theorem TupOf.mono {Pd Pe : Nat → V → Hp → Prop} {n : Nat} {v : V} {H H' : Hp} (h : TupOf Pd n v H) (s : SameT H H') (m : ∀ j u, j < n → Pd j u H → Pe j u H') : TupOf Pe n v H' := by
  obtain ⟨p, vs, rfl, hp, e⟩ := h
  exact ⟨p, vs, rfl, s _ _ hp, e.mono m⟩
theorem SeqOf.mono {K : PySem.W.Frag} {Pd Pe : Nat → V → Hp → Prop} {n : Nat} {v : V} {H H' : Hp} (h : SeqOf K Pd n v H) (s : Same H H') (m : ∀ j u, j < n → Pd j u H → Pe j u H') : SeqOf K Pe n v H' := by
  obtain ⟨S, vs, e, hv, hs, he⟩ := h
  exact ⟨S, vs, e, (hs _ s).1, fun H2 q => hs _ (s.trans q), he.mono m⟩
theorem SeqOf.list {K : PySem.W.Frag} {Pd : Nat → V → Hp → Prop} {n : Nat} {p : Addr} {vs : List V} {H : Hp} (hp : H p = some (.lst vs)) (e : Ents Pd vs n H) : SeqOf K Pd n (.ref p) H :=
  ⟨.lst p, vs, rfl, SqL.of hp, fun H' q => ⟨SqL.of (q _ _ hp), .inl ⟨_, SqL.of (q _ _ hp), rfl⟩⟩, e⟩
theorem TupOf.len {K : PySem.W.Frag} {Pd : Nat → V → Hp → Prop} {n : Nat} {v : V} {H : Hp} (h : TupOf Pd n v H) : LenV K v H n := by
  obtain ⟨p, vs, rfl, hp, e⟩ := h
  have e1 := e.1
  subst e1
  exact .inr ⟨_, SqT.of hp, rfl⟩
theorem SeqOf.len {K : PySem.W.Frag} {Pd : Nat → V → Hp → Prop} {n : Nat} {v : V} {H : Hp} (h : SeqOf K Pd n v H) : LenV K v H n := by
  obtain ⟨S, vs, _, _, hs, e⟩ := h
  have q := (hs _ (Same.refl _)).2
  rw [e.1] at q
  exact q
/-- what a comprehension walks, made plain: so many turns -/
theorem comp_go {J : It} {n k : Nat} {g : TG} {te : TE} {σ : St} {Q : VK} {H1 : Hp} (Pv : Nat → List V → Hp → Prop) (hn : n ≤ 1000) (h0 : Pv 0 [] H1) (hl : ∀ i ys H, Pv i ys H → ys.length = i)
    (hgo : ∀ i ys H, i < n → Pv i ys H → J.go i H ∧ ∀ x H', J.yld i H x H' → g x (σ ++ List.replicate k none) H' fun σ2 H2 => (∃ zs, σ2 = σ ++ zs ∧ zs.length = k) ∧ te σ2 H2 fun v H3 => Pv (i + 1) (ys ++ [v]) H3)
    (hstop : ∀ ys H, Pv n ys H → J.stop n H) (hend : ∀ ys H p, Pv n ys H → H p = none → Q (.ref p) (upd H p (.lst ys))) :
    CTail J k g te σ Q H1 := by
  have z : 1000 < sizeLine := by decide
  refine ⟨fun i m ys H => m = n - i ∧ i ≤ n ∧ Pv i ys H, ⟨n, rfl, Nat.zero_le _, h0⟩, ?_⟩
  rintro i m ys H ⟨rfl, hi, p⟩
  have yl := hl i ys H p
  by_cases hlt : i < n
  · obtain ⟨a, b⟩ := hgo i ys H hlt p
    refine .inr ⟨a, by omega, fun x H' y => ?_⟩
    have c := b x H' y
    have e : (fun σ2 H2 => (∃ zs, σ2 = σ ++ zs ∧ zs.length = k) ∧ te σ2 H2 fun v H3 => ∃ m', m' < n - i ∧ m' = n - (i + 1) ∧ i + 1 ≤ n ∧ Pv (i + 1) (ys ++ [v]) H3) = fun σ2 H2 => (∃ zs, σ2 = σ ++ zs ∧ zs.length = k) ∧ te σ2 H2 fun v H3 => Pv (i + 1) (ys ++ [v]) H3 := by
      funext σ2 H2
      congr 2
      funext v H3
      exact propext ⟨fun ⟨_, _, _, _, q⟩ => q, fun q => ⟨_, by omega, rfl, hlt, q⟩⟩
    rw [e]
    exact c
  · have e : i = n := by omega
    subst e
    exact .inl ⟨hstop ys H p, by omega, fun q nq => hend ys H q p nq⟩
end L2
/-! list.insert(i, x); list(range(n)) (behind the layer). -/
namespace L2
open PySem PySem.Spec PyProof.Rows
def rInsert : V → List V → Hp → VK → Prop := fun x vs H Q => ∃ l xs i y, x = .ref l ∧ vs = [.int i, y] ∧ H l = some (.lst xs) ∧ 0 ≤ i ∧ i < 2 ^ 62 ∧ xs.length < sizeLine ∧ Q .non (upd H l (.lst (xs.take (min i.toNat xs.length) ++ y :: xs.drop (min i.toNat xs.length))))
theorem ins_eq (l : List Value) (k : Nat) (y : Value) : (l.toArray.extract 0 k).push y ++ l.toArray.extract k = (l.take k ++ y :: l.drop k).toArray := by
  apply Array.toList_inj.mp
  simp
  exact List.take_of_length_le (by simp)
theorem mt_insert {X : Cx} : MtM X "list.insert" rInsert := by
  intro pins s σ H x vs v us Q I rx rv h
  obtain ⟨l, xs, i, y, rfl, rfl, hH, h1, h2, hz, q⟩ := h
  cases rx
  cases rv with
  | cons ri rr =>
    obtain ⟨t, rfl⟩ := ri
    obtain ⟨u, rfl, ru⟩ := Vals.one rr
    obtain ⟨z, its, n, r, hl, e⟩ := I.lstM hH
    refine call_meets F.slot_list_insert ⟨_, e, rfl⟩ F.entry_list_insert (F.args_list_insert_3 _ _ _)
      (AutoSeq1.list_insert_list_int_val_1 l its.toArray n i t u (by simp [fitsIndex_both (show -(2 ^ 63) ≤ i by omega) (show i < 2 ^ 63 by omega)]) (by rw [List.size_toArray]; omega)) ⟨e, ?_⟩
    refine ⟨.non, _, I.lset (its' := its.take (min i.toNat its.length) ++ u :: its.drop (min i.toNat its.length)) hH e ?_ ?_ ?_, rfl, q⟩
    · show (its.toArray.extract 0 (if i < 0 then (i + (its.toArray.size : Int)).toNat else min i.toNat its.toArray.size)).push u ++ its.toArray.extract (if i < 0 then (i + (its.toArray.size : Int)).toNat else min i.toNat its.toArray.size) = _
      rw [if_neg (by omega)]
      exact ins_eq its (min i.toNat its.length) u
    · rw [hl]
      exact (r.take _).append (.cons ru (r.drop _))
    · rw [List.length_append, List.length_cons, List.length_take, List.length_drop]
      omega
def tLRng (ta : TA) : TE := fun σ H Q => ta σ H fun vs H1 => ∃ n : Nat, vs = [.int n] ∧ n ≤ 1000 ∧ ∀ p, H1 p = none → Q (.ref p) (upd H1 p (.lst ((List.range n).map fun i => V.int (i : Nat))))
theorem pe_lrange {X : Cx} {a : Expr} {ta : TA} {p p' pos pos' : Pos} (hc : X.calm = true) (hg : Gl X "list") (hm : X.mg "list" = none) (hg' : Gl X "range") (hm' : X.mg "range" = none) (ha : PA X [a] ta)
    (hs : starEach [a] X.env = [(false, eval a X.env)] := by rfl) (hs' : starEach [.Call (.Name "range" p') [a] [] pos'] X.env = [(false, eval (.Call (.Name "range" p') [a] [] pos') X.env)] := by rfl) :
    PE X (.Call (.Name "list" p) [.Call (.Name "range" p') [a] [] pos'] [] pos) (tLRng ta) := by
  intro pins s σ H Q I h
  refine wpAny_Call_Name_kw (ld_blt I hg hm boot_list ?_)
  refine PyProof.Rows.callWith_type1 ?_ hs' rfl
  rw [hs']
  refine Calls.spliced_cons ?_
  refine Call_ (ld_blt I hg' hm' boot_range (PyProof.Rows.callWith_type1 (thn (ha pos' pins s σ H _ I h) fun us s1 ⟨vs, H1, I1, r1, q1⟩ => ?_) hs rfl))
  obtain ⟨n, e, hn, q⟩ := q1
  subst e
  have line : 1000 < sizeLine := by decide
  cases r1 with
  | cons r rr =>
    cases rr
    obtain ⟨t, rfl⟩ := r
    refine call_range_1 ?_
    refine Calls.spliced_nil ?_
    have sz : (s1.heap.push { cls := .type "range", data := .fields #[.int 0 s1.toks, .int n t, .int 1 (s1.toks + 1)] }).objs.size = s1.heap.objs.size + 1 := Heap.size_push ..
    refine call_list_range (n := n) (I1.ok.hd hc) (IsRange.new ..) (small_one (by omega) (by omega) (by omega) (by omega)) (by rw [rangeSize_one]; split <;> omega) (by omega) fun h' tk acc' c' hk hS hacc => ?_
    have up : ∀ b o, s1.heap.get? b = some o → h'.get? b = some o := fun b o e => hk b o (Heap.get?_push_of_some _ e)
    have sz2 : s1.heap.objs.size ≤ (s1.heap.push { cls := .type "range", data := .fields #[.int 0 s1.toks, .int n t, .int 1 (s1.toks + 1)] }).objs.size := by rw [sz]; omega
    obtain ⟨hsz, hit⟩ := hacc
    have vals : Vals ((List.range n).map fun i => V.int (i : Nat)) acc'.toList := by
      have key : ∀ (m k : Nat) (ls : List Value), ls.length = m → (∀ i v, ls[i]? = some v → ∃ t, v = Value.int ((k + i : Nat) : Int) t) → Vals ((List.range' k m).map fun i => V.int (i : Nat)) ls := by
        intro m
        induction m with
        | zero => intro k ls e _; cases List.length_eq_zero_iff.mp e; exact .nil
        | succ m ih =>
          intro k ls e g
          cases ls with
          | nil => cases e
          | cons v ls =>
            rw [List.range'_succ, List.map_cons]
            obtain ⟨t, rfl⟩ := g 0 v rfl
            exact .cons ⟨t, rfl⟩ (ih (k + 1) ls (by simpa using e) fun i v hv => by
              obtain ⟨t, e2⟩ := g (i + 1) v (by simpa using hv)
              exact ⟨t, by rw [e2, show k + (i + 1) = k + 1 + i by omega]⟩)
      have := key n 0 acc'.toList (by simpa using hsz) fun i v hv => by
        obtain ⟨t, e2⟩ := hit i v (by rw [← Array.getElem?_toList]; exact hv)
        exact ⟨t, by rw [e2]; congr 1; omega⟩
      rw [← List.range_eq_range'] at this
      exact this
    exact ⟨.ref _, _, I1.laid (t' := tk) up sz2 (show ObjOk X.prog X.w _ h' _ (.lst _) from ⟨by rw [List.length_map, List.length_range]; omega, acc'.toList, c', vals, by rw [Array.toArray_toList]; exact hS⟩), rfl, q _ (I1.hok.fresh sz2)⟩
end L2
/-! text.replace: what is known of the tokens of a letter that was just picked (behind StrX). -/
namespace L2
open PySem PySem.Spec PyProof.Rows
section
variable {X : Cx} {n : Nat} {st : Stmt} {rest : List Stmt} {t u : TS}
theorem keepT {α : Type} {t : Sem α} {Q : α → Shared → Prop} {M : Model} {A : Around} {E : Value → Shared → Prop} {s : Shared} (hn : n ≤ s.toks) (h : wpAny M A t Q E s) :
    wpAny M A t (fun a s' => n ≤ s'.toks ∧ Q a s') E s := wpAny_mono (wpAny_toks_of hn h) (fun _ _ x => x) fun _ _ x => x.2
/-- a statement, where n tokens are given out -/
def PSn (X : Cx) (n : Nat) (st : Stmt) (t : TS) : Prop :=
  ∀ pins s σ H D, n ≤ s.toks → Inv X pins σ H s → t D σ H → wpAny (model X.prog X.w) X.A (exec st X.env) (SP X pins D) X.xe s
def PSsn (X : Cx) (n : Nat) (ss : List Stmt) (t : TS) : Prop :=
  ∀ pins s σ H D, n ≤ s.toks → Inv X pins σ H s → t D σ H → wpAny (model X.prog X.w) X.A (execs ss X.env) (SP X pins D) X.xe s
theorem PS.fl (h : PS X st t) : PSn X n st t := fun pins s σ H D _ => h pins s σ H D
theorem PSs.fl (h : PSs X rest t) : PSsn X n rest t := fun pins s σ H D _ => h pins s σ H D
theorem pssn_cons (h1 : PSn X n st t) (h2 : PSsn X n rest u) : PSsn X n (st :: rest) (tSeq t u) := by
  intro pins s σ H D hn I h
  refine wpAny_execs_cons (thn (keepT hn (h1 pins s σ H { D with nx := u D } hn I h)) fun f s1 q => ?_)
  obtain ⟨hn1, q⟩ := q
  cases f with
  | next =>
    obtain ⟨σ', H', I', q⟩ := q
    exact h2 pins s1 σ' H' D hn1 I' q
  | brk => exact q
  | cont => exact q
  | ret v => exact q
theorem ps_forn {tg iter : Expr} {body : List Stmt} {wi : TI} {g : TG} {tb : TS} {pos : Pos} (hp : PassesOwn (model X.prog X.w) X.A X.env X.xe) (hc : X.calm = true) (hi : PI X tg iter wi) (hg : PG X tg g) (hb : PSsn X n body tb)
    (hs : ∀ x, foldedSetIterable iter X.env x = pure x := by intro _; rfl) : PSn X n (.For tg iter body [] pos) (tFor wi g tb) := by
  intro pins s σ H D hn I h
  refine wpAny_For (thn (keepT hn (hi pins s σ H _ I h)) fun v s1 hh1 => thn (keepT hh1.1 hh1.2) fun itv s2 hh2 => ?_) hs
  obtain ⟨n2, it, fp, tn, J, H2, e, I2, T, st2, f2, W, ⟨m0, w0⟩, turn⟩ := hh2
  subst e
  have stat : ∀ {G : Hp}, (∀ b ∈ fp, G b = none) → ∀ b ∈ fp, FpOk X pins G b := fun k b hb => ⟨k b hb, (f2 b hb).2⟩
  refine codeAny_forLoop_any (fun k s' => n ≤ s'.toks ∧ ∃ i τ G, Inv X pins τ G s' ∧ tn i s'.heap ∧ (∀ b ∈ fp, G b = none) ∧ W i k τ G) ?_ m0 ⟨n2, 0, σ, H2, I2, st2, fun b hb => (f2 b hb).1, w0⟩
  rintro k s3 ⟨n3, i, τ, G, I3, st3, fr3, w3⟩
  rcases turn i k τ G w3 with ⟨stop, qn⟩ | ⟨go, N, hN, step⟩
  · refine wpAny_passesOwn hp (thn (T.done X rfl rfl rfl hc i pins s3 τ G X.xe I3 (stat fr3) st3 stop) fun r s4 ⟨hr, I4⟩ => ?_)
    subst hr
    exact wpAny_execs_nil ⟨τ, G, I4, qn⟩
  · refine wpAny_passesOwn hp (thn (keepT n3 (T.item X rfl rfl rfl hc i pins s3 τ G X.xe I3 (stat fr3) st3 go)) fun r s4 ⟨n4, u, hr, h4⟩ => ?_)
    subst hr
    refine wpAny_passesOwn hp (thn (keepT n4 h4) fun _ s5 ⟨n5, x, H5, I5, r5, y5, st5, fr5⟩ => ?_)
    have J5 := I5.pinned (stat fr5) (T.obj _ _ st5)
    refine wpAny_passesOwn hp (thn (keepT n5 (hg _ s5 τ H5 x u _ J5 r5 (step x H5 y5))) fun _ s6 ⟨n6, σ6, H6, I6, q6⟩ => ?_)
    refine wpAny_passesOwn hp (thn (keepT n6 (hb _ s6 σ6 H6 _ n6 I6 q6)) fun f s7 hh7 => ?_)
    obtain ⟨n7, q7⟩ := hh7
    have more : ∀ {σ7 : St} {H7 : Hp}, Inv X (pins ++ pinsAt fp s5.heap) σ7 H7 s7 → N σ7 H7 → ∃ m, m < k ∧ n ≤ s7.toks ∧ ∃ i τ G, Inv X pins τ G s7 ∧ tn i s7.heap ∧ (∀ b ∈ fp, G b = none) ∧ W i m τ G := fun {σ7 H7} I7 c7 => by
      obtain ⟨m', hm, w7⟩ := hN σ7 H7 c7
      have pn : ∀ b ∈ fp, ∀ o, s5.heap.get? b = some o → s7.heap.get? b = some o ∧ H7 b = none := fun b hb o e => by
        have := I7.pin (b, o) (List.mem_append_right _ (List.mem_append_right _ (mem_pinsAt hb e)))
        exact ⟨this.1, this.2.1⟩
      refine ⟨m', hm, n7, i + 1, σ7, H7, I7.unpinned, T.keep _ _ _ st5 fun b hb o e => (pn b hb o e).1, fun b hb => ?_, w7⟩
      obtain ⟨o, e, _⟩ := T.obj _ _ st5 b hb
      exact (pn b hb o e).2
    cases f with
    | next => obtain ⟨σ7, H7, I7, c7⟩ := q7; exact more I7 c7
    | cont => obtain ⟨σ7, H7, I7, c7⟩ := q7; exact more I7 c7
    | brk => obtain ⟨σ7, H7, I7, c7⟩ := q7; exact ⟨σ7, H7, I7.unpinned, c7⟩
    | ret v => obtain ⟨x7, σ7, H7, I7, r7, c7⟩ := q7; exact ⟨x7, σ7, H7, I7.unpinned, r7, c7⟩
/-- a local's slot written: the state behind it -/
theorem Inv.stored {pins : List (Addr × Obj)} {σ : St} {H : Hp} {s : Shared} {i : Nat} {x : Str} {v : V} {w : Value} {m : Str → Option Value} {h' : Heap} (I : Inv X pins σ H s) (hN : X.N.Nodup) (hi : X.N[i]? = some x)
    (hk : X.env.kindOf x = some .local) (r : RelV v w) (hm : ∀ (j : Nat) (y : Str) (z : V), X.N[j]? = some y → σ[j]? = some (some z) → Vis X.env.scope y → ∃ w', RelV z w' ∧ Look X.env s.heap m y w')
    (hn : h'.Ns X.env.locals (fun y => if y = x then some w else m y)) (hs : Heap.SameBut X.env.locals s.heap h') (k : Nat) : Inv X pins (σ.set i (some v)) H { s with heap := h', toks := k } := by
  have old : ∀ b o, X.s₀.heap.get? b = some o → h'.get? b = s.heap.get? b := fun b o e => hs.2 b (Nat.ne_of_lt (Nat.lt_of_lt_of_le (Heap.lt_size e) I.ok.above))
  have hσ : i < σ.length := by rw [I.len]; exact (List.getElem?_eq_some_iff.mp hi).1
  have B := I.base
  refine { ok := I.ok, os := I.os, bare := I.bare, base := ⟨?_, ?_, B.free, ?_, B.tups, B.frzs, B.tbls⟩, loc := ⟨_, hn, ?_⟩, cell := ?_, free := I.free, freeC := I.freeC, pin := ?_, hok := ?_, len := by simpa using I.len }
  · intro b o e a1 a2 a3
    rw [← B.keep b o e a1 a2 a3]; exact old b o e
  · intro b o e a1 a2 a3
    obtain ⟨sl, q⟩ := B.slot b o e a1 a2 a3
    exact ⟨sl, (old b o e).trans q⟩
  · intro b o e a1
    obtain ⟨o', q⟩ := B.there b o e a1
    exact ⟨o', (old b o e).trans q⟩
  · intro j y z e1 e2 e3
    by_cases hj : i = j
    · subst hj
      rw [hi] at e1
      cases e1
      rw [List.getElem?_set_self hσ] at e2
      cases e2
      exact ⟨w, r, .inl ⟨hk, if_pos rfl⟩⟩
    · rw [List.getElem?_set_ne hj] at e2
      have ny : y ≠ x := fun q => hj (nodup_ix hN hi (q ▸ e1))
      obtain ⟨w', r', q⟩ := hm j y z e1 e2 e3
      rcases q with ⟨a1, a2⟩ | ⟨a1, c, a2, a3⟩
      · exact ⟨w', r', .inl ⟨a1, (if_neg ny).trans a2⟩⟩
      · exact ⟨w', r', .inr ⟨a1, c, a2, a3.sameBut hs (I.cne y c a2)⟩⟩
  · intro y c e
    obtain ⟨z, q⟩ := I.cell y c e
    exact ⟨z, q.sameBut hs (I.cne y c e)⟩
  · intro p hp
    obtain ⟨a1, a2, a3, a4⟩ := I.pin p hp
    exact ⟨(hs.2 p.1 a3).trans a1, a2, a3, a4⟩
  · intro b ob e
    obtain ⟨m0, ⟨oL, _, _, hoL, _⟩, _⟩ := I.loc
    refine (I.hok b ob e).stay (fun c w' hc q => (hs.2 c ?_).trans q) (fun _ q => q) fun _ _ q => q
    intro z
    subst z
    rcases hc with z | z
    · subst z; rw [I.free] at e; cases e
    · rw [I.free] at z; cases z
theorem Inv.nocls {pins : List (Addr × Obj)} {σ : St} {H : Hp} {s : Shared} (I : Inv X pins σ H s) : (X.env.scope.kind == .class || (X.env.scope.kind == .module && X.env.locals != X.env.globals)) = false := by rw [I.ok.kind]; rfl
theorem Inv.here {σ : St} {s : Shared} {i : Nat} {x : Str} {v : V} {m : Str → Option Value} (hm : ∀ (j : Nat) (y : Str) (z : V), X.N[j]? = some y → σ[j]? = some (some z) → Vis X.env.scope y → ∃ w', RelV z w' ∧ Look X.env s.heap m y w')
    (hi : X.N[i]? = some x) (e : σ[i]? = some (some v)) (hk : X.env.kindOf x = some .local) : ∃ w, RelV v w ∧ m x = some w := by
  obtain ⟨w, r, q⟩ := hm i x v hi e (.inl hk)
  rcases q with ⟨_, q⟩ | ⟨q, _⟩
  · exact ⟨w, r, q⟩
  · rw [hk] at q
    rcases q with q | q <;> cases q
/-- name = e, and a token is given out behind it -/
theorem pss_fl {i : Nat} {x : Str} {e : Expr} {te : TE} {pos pos' : Pos} (hN : X.N.Nodup) (hi : X.N[i]? = some x) (hk : X.env.kindOf x = some .local) (he : PE X e te) (h2 : PSsn X 1 rest u)
    (hs : swapsWith e (some (.Name x pos')) pos.line X.env = pure false := by rfl) : PSs X (.Assign [.Name x pos'] e pos :: rest) (tSeq (tAsg te (gName i)) u) := by
  intro pins s σ H D I h
  refine wpAny_execs_cons (wpAny_Assign_Name (thn (he pins s σ H _ I h) fun v s1 ⟨y, H1, I1, r1, q1⟩ => ?_) hs)
  obtain ⟨m, hn, hm⟩ := I1.loc
  exact wpAny_storeName_local hk hn (fun h' hn' hs' => h2 pins _ _ H1 D (Nat.le_add_left 1 _) (I1.stored hN hi hk r1 hm hn' hs' _) q1) I1.nocls
/-- l = a[idx]; w = w + l; a = a.replace(l, '') -/
def tLetter (il ia iw : Nat) (ti : TE) : TS := fun D σ H => ∃ z y : Str, σ[ia]? = some (some (.str z)) ∧ σ[iw]? = some (some (.str y)) ∧ z.length ≤ 1000 ∧ y.length ≤ 1000 ∧ ti σ H fun x H1 => ∃ (i : Int) (c : Nat), x = .int i ∧ atI z.cps.toList i = some c ∧
  D.nx (((σ.set il (some (.str ⟨#[c]⟩))).set iw (some (.str (y ++ ⟨#[c]⟩)))).set ia (some (.str (Txt.replace z ⟨#[c]⟩ "")))) H1
theorem pssn_letter {il ia iw : Nat} {l a w : Str} {idx : Expr} {ti : TE} {j : Nat} {p1 p2 p3 p4 p5 p6 p7 p8 p9 p10 p11 p12 p13 p14 p15 p16 : Pos} (hN : X.N.Nodup) (hl : X.N[il]? = some l) (ha : X.N[ia]? = some a) (hw : X.N[iw]? = some w)
    (kl : X.env.kindOf l = some .local) (ka : X.env.kindOf a = some .local) (kw : X.env.kindOf w = some .local) (nla : l ≠ a) (nlw : l ≠ w) (naw : a ≠ w) (hi : PE X idx ti) (hpl : PlainIx idx)
    (dl : (l == ("__debug__" : Str)) = false := by decide) (da : (a == ("__debug__" : Str)) = false := by decide) (dw : (w == ("__debug__" : Str)) = false := by decide)
    (dca : (a == ("__classdict__" : Str)) = false := by decide)
    (hs1 : swapsWith (.Subscript (.Name a p2) idx p3) (some (.Name l p1)) p4.line X.env = pure false := by rfl)
    (hs2 : swapsWith (.BinOp (.Name w p6) .Add (.Name l p7) p8) (some (.Name w p5)) p9.line X.env = pure false := by rfl)
    (hs3 : swapsWith (.Call (.Attribute (.Name a p11) "replace" p12) [.Name l p13, .Constant (.str "") j p14] [] p15) (some (.Name a p10)) p16.line X.env = pure false := by rfl)
    (hbase : attributeBase (.Name a p11) "replace" X.env (eval (.Name a p11) X.env) = eval (.Name a p11) X.env := by rfl)
    (hfew : ((backTo p15 (starEach [.Name l p13, .Constant (.str "") j p14] X.env)).all (fun x => !x.1) && (backToKw p15 (keywordEach [] X.env)).all (fun x => x.1.isSome)
      && decide (([.Name l p13, .Constant (.str "") j p14] : List Expr).length + ([] : List Keyword).length + (if ([] : List Keyword).isEmpty then 0 else 1) < 30)) = true := by rfl)
    (hline : (p12.endLine == p15.line) = true := by rfl)
    (hst : backTo p15 (starEach [.Name l p13, .Constant (.str "") j p14] X.env) = [(false, eval (.Name l p13) X.env), (false, eval (.Constant (.str "") j p14) X.env)] := by rfl) :
    PSsn X 1 [.Assign [.Name l p1] (.Subscript (.Name a p2) idx p3) p4, .Assign [.Name w p5] (.BinOp (.Name w p6) .Add (.Name l p7) p8) p9,
      .Assign [.Name a p10] (.Call (.Attribute (.Name a p11) "replace" p12) [.Name l p13, .Constant (.str "") j p14] [] p15) p16] (tLetter il ia iw ti) := by
  intro pins s σ H D hn I h
  obtain ⟨z, y, ez, ey, lz, ly, h⟩ := h
  refine wpAny_execs_cons (wpAny_Assign_Name (Subscript_ ?_) hs1)
  refine thn (keepT hn ((pe_var ha (.inl ka) da dca) pins s σ H (fun x H1 => x = .str z ∧ ti σ H1 _) I ⟨.str z, ez, rfl, h⟩)) fun v s1 ⟨n1, x1, H1, I1, r1, e1, q1⟩ => ?_
  subst e1
  obtain ⟨t1, rfl⟩ := r1
  refine thn (keepT n1 (hi pins s1 σ H1 _ I1 q1)) fun v2 s2 ⟨n2, x2, H2, I2, r2, i, c, e2, hc, q2⟩ => ?_
  subst e2
  obtain ⟨t2, rfl⟩ := r2
  obtain ⟨k0, k1, k2, k3, k4, k5⟩ := atI_get hc
  have hzl : z.cps.toList.length = z.length := by simp [Str.length]
  rw [hzl] at k1 k4 k5
  have l63 := line63
  have h1s : (⟨#[c]⟩ : Str).length = 1 := rfl
  refine tail_any (typeIs_str s2 z t1) slot_str_getitem.lookup (getItem_str (c := c) (by
    have e1 : decide (i < -(2 ^ 63 : Int)) = false := decide_eq_false (by omega)
    have e2 : decide (i ≥ 2 ^ 63) = false := decide_eq_false (by omega)
    rw [e1, e2, Bool.or_false]) (by rw [k1]; simpa using k2) ?_) (hpl _ _)
  obtain ⟨m, hm0, hm⟩ := I2.loc
  obtain ⟨_, ⟨ta, rfl⟩, mz⟩ := Inv.here hm ha ez ka
  obtain ⟨_, ⟨tw, rfl⟩, my⟩ := Inv.here hm hw ey kw
  refine wpAny_storeName_local kl (show Heap.Ns { s2 with toks := s2.toks + 1 }.heap _ m from hm0) (fun g1 ns1 sb1 => ?_) I2.nocls
  have I3 := I2.stored hN hl kl (show RelV (.str ⟨#[c]⟩) (.str ⟨#[c]⟩ s2.toks) from ⟨_, rfl⟩) hm ns1 sb1
  obtain ⟨m3, hm3, hmm3⟩ := (I3 0).loc
  -- w = w + l
  refine wpAny_execs_cons (wpAny_Assign_Name (wpAny_BinOp ?_) hs2)
  refine wpAny_Name (wpAny_loadName_local I.ok.kind kw ns1 ((if_neg (Ne.symm nlw)).trans my) ?_) dw
  refine wpAny_Name (wpAny_loadName_local I.ok.kind kl ns1 (if_pos rfl) ?_) dl
  refine thn (keepT (n := s2.toks + 1) (show s2.toks + 1 ≤ s2.toks + 1 + 1 from Nat.le_succ _) (add_str (Q := fun v s' => ∃ t' tk, v = .str (y ++ ⟨#[c]⟩) t' ∧ s' = { s2 with heap := g1, toks := tk }) (fun t' tk => ⟨t', tk, rfl, rfl⟩) (by rw [h1s, sizeLine_eq]; omega))) ?_
  rintro _ _ ⟨n3, t3, tk, rfl, rfl⟩
  refine wpAny_storeName_local kw (show Heap.Ns { s2 with heap := g1, toks := tk }.heap _ _ from ns1) (fun g2 ns2 sb2 => ?_) I2.nocls
  have I4 : ∀ k, Inv X pins ((σ.set il (some (.str ⟨#[c]⟩))).set iw (some (.str (y ++ ⟨#[c]⟩)))) H2 { s2 with heap := g2, toks := k } := fun k => by
    refine (I3 tk).stored hN hw kw (show RelV (.str (y ++ ⟨#[c]⟩)) (.str (y ++ ⟨#[c]⟩) t3) from ⟨_, rfl⟩) (fun j y' z' e1 e2 e3 => ?_) ns2 sb2 k
    by_cases hj : il = j
    · subst hj
      rw [hl] at e1
      cases e1
      rw [List.getElem?_set_self (by rw [I.len]; exact (List.getElem?_eq_some_iff.mp hl).1)] at e2
      cases e2
      exact ⟨_, ⟨_, rfl⟩, .inl ⟨kl, if_pos rfl⟩⟩
    · rw [List.getElem?_set_ne hj] at e2
      have ny : y' ≠ l := fun q => hj (nodup_ix hN hl (q ▸ e1))
      obtain ⟨w', r', q⟩ := hm j y' z' e1 e2 e3
      rcases q with ⟨a1, a2⟩ | ⟨a1, c', a2, a3⟩
      · exact ⟨w', r', .inl ⟨a1, (if_neg ny).trans a2⟩⟩
      · exact ⟨w', r', .inr ⟨a1, c', a2, a3.sameBut sb1 (I2.cne y' c' a2)⟩⟩
  -- a = a.replace(l, '')
  have ml : (if l = w then some (Value.str (y ++ ⟨#[c]⟩) t3) else if l = l then some (Value.str ⟨#[c]⟩ s2.toks) else m l) = some (Value.str ⟨#[c]⟩ s2.toks) := by rw [if_neg nlw, if_pos rfl]
  have ma : (if a = w then some (Value.str (y ++ ⟨#[c]⟩) t3) else if a = l then some (Value.str ⟨#[c]⟩ s2.toks) else m a) = some (Value.str z ta) := by rw [if_neg naw, if_neg (Ne.symm nla)]; exact mz
  refine wpAny_execs_cons (wpAny_Assign_Name (wpAny_Call_method_late hbase hfew hline rfl (wpAny_Name (wpAny_loadName_local I.ok.kind ka ns2 ma ?_) da)) hs3)
  refine ⟨"str", "str.replace", F.plainAttrs_str, F.slot_str_replace, F.type_str_replace, typeIs_str _ _ _, (fun b e => by nomatch e), ?_⟩
  rw [hst]
  refine Calls.callWith_builtin rfl (Calls.evalArgs_plain ?_)
  refine Calls.spliced_cons (wpAny_Name (wpAny_loadName_local I.ok.kind kl ns2 ml ?_) dl)
  refine Calls.spliced_cons (Calls.Constant_str (Calls.spliced_nil ?_))
  refine SC.replace (show s2.toks ≠ 0 from Nat.ne_of_gt n2) (show tk + 1 ≠ 0 by omega) (show s2.toks ≠ tk + 1 by have : s2.toks + 1 ≤ tk := n3; omega) (by rfl) (by show z.length + (z.length + 1) * 0 ≤ 16777216; omega) fun t' k => ?_
  obtain ⟨m4, hm4, hl4⟩ := (I4 k).loc
  refine wpAny_storeName_local ka hm4 (fun g3 ns3 sb3 => ?_) I2.nocls
  exact wpAny_execs_nil ⟨_, H2, (I4 k).stored hN ha ka (show RelV (.str (Txt.replace z ⟨#[c]⟩ "")) (.str (Txt.replace z ⟨#[c]⟩ "") t') from ⟨_, rfl⟩) hl4 ns3 sb3 _, q2⟩
end
end L2
/-! (n, [..]) < (m, [..]) and <=, of ints; x in, not in a list of data; a list's count of a datum (behind Ext). -/
namespace HT
open PySem PyProof.Rows
/-- the order of lists of ints; le: equal ones count -/
def cmpR (le : Bool) : List Int → List Int → Bool
  | [], [] => le
  | [], _ :: _ => true
  | _ :: _, [] => false
  | x :: xs, y :: ys => if x = y then cmpR le xs ys else decide (x < y)
theorem cmpR_refl (le : Bool) : ∀ ns, cmpR le ns ns = le
  | [] => rfl
  | x :: xs => by rw [cmpR, if_pos rfl, cmpR_refl le xs]
theorem rcI {A : Around} {s : Shared} (le : Bool) {a c : Int} (t u : Tok) (hne : ¬ a = c) (prog : Program) (w : World) (E : Value → Shared → Prop) (Q : Value → Shared → Prop) (h : Q (.bool (decide (a < c))) s) :
    wpAny (model prog w) A (richCompare (if le then .LtE else .Lt) (.int a t) (.int c u)) Q E s := by
  cases le
  · exact (PyProof.Rows.lt_int h : wpAny (model prog w) A (compareOp .Lt (.int a t) (.int c u)) Q E s)
  · refine (PyProof.Rows.le_int ?_ : wpAny (model prog w) A (compareOp .LtE (.int a t) (.int c u)) Q E s)
    rw [show decide (a ≤ c) = decide (a < c) from decide_eq_decide.mpr ⟨fun q => by omega, fun q => by omega⟩]
    exact h
section
open PySem.SeqAt
open PySem.AutoSeq1 (wpAny_loadPart')
open PySem.MeetsSeq PySem.MeetsSeq2 PySem.MeetsSeq3
theorem cmp_loop (le : Bool) (l b : Addr) (items items2 : Array Value) (n n2 : Nat) (dd dd2 : Option Addr) (sl sl2 : Array (Option Value)) (ns ms : List Int) (z1 : items.size = ns.length) (z2 : items2.size = ms.length)
    (i1 : ∀ (j : Nat) a, ns[j]? = some a → ∃ t, items[j]? = some (.int a t)) (i2 : ∀ (j : Nat) a, ms[j]? = some a → ∃ t, items2[j]? = some (.int a t)) (k : Nat) :
    ∀ i : Nat, i ≤ items.size → i ≤ items2.size → items.size - i = k → Meets (Builtin.«list.__eq__.loop» ⟨[.ref l, .ref b, rawInt i, rawInt (if le then 1 else 0)], []⟩)
      (fun _ R s => s.heap.get? l = some { cls := .type "list", dict := dd, data := .seq items n, slots := sl } ∧ s.heap.get? b = some { cls := .type "list", dict := dd2, data := .seq items2 n2, slots := sl2 } ∧
        R (.ok (.ret (.bool (cmpR le (ns.drop i) (ms.drop i))))) s) := by
  induction k with
  | zero =>
    intro i hle hle2 hk prog w A R s h
    obtain ⟨hp, g, d, tk, os⟩ := s; obtain ⟨hl, hb, h⟩ := h
    have e0 : i = items.size := by omega
    have d1 : ns.drop i = [] := by simp; omega
    have hi1 : items[((i : Nat) : Int).toNat]? = none := by simp; omega
    rw [d1] at h
    have val : (Value.bool (cmpR le [] (ms.drop i))) = .bool (if le then decide (items.size ≤ items2.size) else decide (items.size < items2.size)) := by
      cases hd : ms.drop i with
      | nil =>
        have q : ms.length ≤ i := by simpa using hd
        cases le
        · rw [cmpR, if_neg Bool.false_ne_true, decide_eq_false (by omega)]
        · rw [cmpR, if_pos rfl, decide_eq_true (by omega)]
      | cons y ys =>
        have q : i < ms.length := by
          have := congrArg List.length hd
          simp at this
          omega
        cases le
        · rw [cmpR, if_neg Bool.false_ne_true, decide_eq_true (by omega)]
        · rw [cmpR, if_pos rfl, decide_eq_true (by omega)]
    rw [val] at h
    cases le
    · wp_walk using wpAny_loadPart' hl, wpAny_loadPart' hb
      rw [hi1]
      wp_walk using wpAny_loadPart' hl, wpAny_loadPart' hb
      exact h
    · wp_walk using wpAny_loadPart' hl, wpAny_loadPart' hb
      rw [hi1]
      wp_walk using wpAny_loadPart' hl, wpAny_loadPart' hb
      exact h
  | succ k ih =>
    intro i hle hle2 hk prog w A R s h
    obtain ⟨hp, g, d, tk, os⟩ := s; obtain ⟨hl, hb, h⟩ := h
    have hlt : i < ns.length := by omega
    obtain ⟨t, ht⟩ := i1 i _ (List.getElem?_eq_getElem hlt)
    have hi1 : items[((i : Nat) : Int).toNat]? = some (.int ns[i] t) := ht
    have d1 : ns.drop i = ns[i] :: ns.drop (i + 1) := List.drop_eq_getElem_cons hlt
    rw [d1] at h
    have hc : ((i : Int) + 1) = ((i + 1 : Nat) : Int) := by push_cast; rfl
    by_cases hlt2 : i < ms.length
    · obtain ⟨u, hu⟩ := i2 i _ (List.getElem?_eq_getElem hlt2)
      have hi2 : items2[((i : Nat) : Int).toNat]? = some (.int ms[i] u) := hu
      rw [List.drop_eq_getElem_cons hlt2, cmpR] at h
      have rc := fun (q : ¬ ns[i] = ms[i]) => @rcI A.in1 ⟨hp, g, d, tk, os⟩ le ns[i] ms[i] t u q prog w
      cases le
      · wp_walk using wpAny_loadPart' hl, wpAny_loadPart' hb
        rw [hi1, hi2]
        refine wpAny_bind ((EqAt.int_int ns[i] t ms[i] u) prog w _ _ ?_)
        by_cases he : ns[i] = ms[i]
        · rw [if_pos he] at h
          rw [show (ns[i] == ms[i]) = true by simpa using he]
          wp_walk
          rw [hc]
          exact ⟨plainId_quiet plain_eq_loop _, codeAny_builtin entry_eq_loop (by
            rw [Around.under_plainId plain_eq_loop _]
            exact ih (i + 1) (by omega) (by omega) (by omega) prog w A R _ ⟨hl, hb, h⟩)⟩
        · rw [if_neg he] at h
          rw [show (ns[i] == ms[i]) = false by simpa using he]
          wp_walk using wpAny_loadPart' hl, wpAny_loadPart' hb
          rw [hi1, hi2]
          have rc' : ∀ (E : Value → Shared → Prop) (Q : Value → Shared → Prop), Q (.bool (decide (ns[i] < ms[i]))) ⟨hp, g, d, tk, os⟩ → wpAny (model prog w) A.in1 (richCompare .Lt (.int ns[i] t) (.int ms[i] u)) Q E ⟨hp, g, d, tk, os⟩ := rc he
          wp_walk using rc'
          exact h
      · wp_walk using wpAny_loadPart' hl, wpAny_loadPart' hb
        rw [hi1, hi2]
        refine wpAny_bind ((EqAt.int_int ns[i] t ms[i] u) prog w _ _ ?_)
        by_cases he : ns[i] = ms[i]
        · rw [if_pos he] at h
          rw [show (ns[i] == ms[i]) = true by simpa using he]
          wp_walk
          rw [hc]
          exact ⟨plainId_quiet plain_eq_loop _, codeAny_builtin entry_eq_loop (by
            rw [Around.under_plainId plain_eq_loop _]
            exact ih (i + 1) (by omega) (by omega) (by omega) prog w A R _ ⟨hl, hb, h⟩)⟩
        · rw [if_neg he] at h
          rw [show (ns[i] == ms[i]) = false by simpa using he]
          wp_walk using wpAny_loadPart' hl, wpAny_loadPart' hb
          rw [hi1, hi2]
          have rc' : ∀ (E : Value → Shared → Prop) (Q : Value → Shared → Prop), Q (.bool (decide (ns[i] < ms[i]))) ⟨hp, g, d, tk, os⟩ → wpAny (model prog w) A.in1 (richCompare .LtE (.int ns[i] t) (.int ms[i] u)) Q E ⟨hp, g, d, tk, os⟩ := rc he
          wp_walk using rc'
          exact h
    · have hi2 : items2[((i : Nat) : Int).toNat]? = none := by simp; omega
      have d2 : ms.drop i = [] := by simp; omega
      rw [d2] at h
      have val : (Value.bool (cmpR le (ns[i] :: ns.drop (i + 1)) [])) = .bool (if le then decide (items.size ≤ items2.size) else decide (items.size < items2.size)) := by
        cases le
        · rw [cmpR, if_neg Bool.false_ne_true, decide_eq_false (by omega)]
        · rw [cmpR, if_pos rfl, decide_eq_false (by omega)]
      rw [val] at h
      cases le
      · wp_walk using wpAny_loadPart' hl, wpAny_loadPart' hb
        rw [hi1, hi2]
        wp_walk using wpAny_loadPart' hl, wpAny_loadPart' hb
        exact h
      · wp_walk using wpAny_loadPart' hl, wpAny_loadPart' hb
        rw [hi1, hi2]
        wp_walk using wpAny_loadPart' hl, wpAny_loadPart' hb
        exact h
theorem list_cmp (le : Bool) (l b : Addr) (items items2 : Array Value) (n n2 : Nat) (dd dd2 : Option Addr) (sl sl2 : Array (Option Value)) (ns ms : List Int) (z1 : items.size = ns.length) (z2 : items2.size = ms.length)
    (i1 : ∀ (j : Nat) a, ns[j]? = some a → ∃ t, items[j]? = some (.int a t)) (i2 : ∀ (j : Nat) a, ms[j]? = some a → ∃ t, items2[j]? = some (.int a t)) :
    Meets ((if le then Builtin.«list.__le__» else Builtin.«list.__lt__») ⟨[.ref l, .ref b], []⟩)
      (fun _ R s => s.heap.get? l = some { cls := .type "list", dict := dd, data := .seq items n, slots := sl } ∧ s.heap.get? b = some { cls := .type "list", dict := dd2, data := .seq items2 n2, slots := sl2 } ∧
        R (.ok (.ret (.bool (cmpR le ns ms)))) s) := by
  cases le
  · show Meets (Builtin.«list.__lt__» ⟨[.ref l, .ref b], []⟩) _
    intro prog w A R s h
    obtain ⟨hp, g, d, tk, os⟩ := s; obtain ⟨hl, hb, h⟩ := h
    have f3 := AutoSeq1.sub_list_list
    wp_walk using wpAny_loadPart' hl, wpAny_loadPart' hb
    exact ⟨plainId_quiet plain_eq_loop _, codeAny_builtin entry_eq_loop (by
      rw [Around.under_plainId plain_eq_loop _]
      exact cmp_loop _ l b items items2 n n2 dd dd2 sl sl2 ns ms z1 z2 i1 i2 _ 0 (Nat.zero_le _) (Nat.zero_le _) rfl prog w A R ⟨hp, g, d, tk, os⟩ ⟨hl, hb, h⟩)⟩
  · show Meets (Builtin.«list.__le__» ⟨[.ref l, .ref b], []⟩) _
    intro prog w A R s h
    obtain ⟨hp, g, d, tk, os⟩ := s; obtain ⟨hl, hb, h⟩ := h
    have f3 := AutoSeq1.sub_list_list
    wp_walk using wpAny_loadPart' hl, wpAny_loadPart' hb
    exact ⟨plainId_quiet plain_eq_loop _, codeAny_builtin entry_eq_loop (by
      rw [Around.under_plainId plain_eq_loop _]
      exact cmp_loop _ l b items items2 n n2 dd dd2 sl sl2 ns ms z1 z2 i1 i2 _ 0 (Nat.zero_le _) (Nat.zero_le _) rfl prog w A R ⟨hp, g, d, tk, os⟩ ⟨hl, hb, h⟩)⟩
/-- a pair of an int and a list -/
theorem pair_cmp (le : Bool) (l b : Addr) (x y x2 y2 : Value) (n n2 : Nat) (dd dd2 : Option Addr) (sl sl2 : Array (Option Value)) (e e2 r r2 : Bool) :
    Meets ((if le then Builtin.«tuple.__le__» else Builtin.«tuple.__lt__») ⟨[.ref l, .ref b], []⟩)
      (fun A R s => s.heap.get? l = some { cls := .type "tuple", dict := dd, data := .seq #[x, x2] n, slots := sl } ∧ s.heap.get? b = some { cls := .type "tuple", dict := dd2, data := .seq #[y, y2] n2, slots := sl2 } ∧
        EqAt A.in1 s x y e ∧ EqAt A.in1 s x2 y2 e2 ∧
        (e = false → ∀ (prog : Program) (w : World) (E : Value → Shared → Prop) (Q : Value → Shared → Prop), Q (.bool r) s → wpAny (model prog w) A.in1 (richCompare (if le then .LtE else .Lt) x y) Q E s) ∧
        (e2 = false → ∀ (prog : Program) (w : World) (E : Value → Shared → Prop) (Q : Value → Shared → Prop), Q (.bool r2) s → wpAny (model prog w) A.in1 (richCompare (if le then .LtE else .Lt) x2 y2) Q E s) ∧
        R (.ok (.ret (.bool (if e = true then if e2 = true then le else r2 else r)))) s) := by
  cases le
  · show Meets (Builtin.«tuple.__lt__» ⟨[.ref l, .ref b], []⟩) _
    intro prog w A R s h
    obtain ⟨hp, g, d, tk, os⟩ := s; obtain ⟨hl, hb, he, he2, hr, hr2, h⟩ := h
    have f3 := AutoSeq1.sub_tuple_tuple
    have k1 := he prog w
    have k2 := he2 prog w
    cases e with
    | false =>
      have k3 : ∀ (E : Value → Shared → Prop) (Q : Value → Shared → Prop), Q (.bool r) ⟨hp, g, d, tk, os⟩ → wpAny (model prog w) A.in1 (richCompare .Lt x y) Q E ⟨hp, g, d, tk, os⟩ := hr rfl prog w
      wp_walk using wpAny_loadPart' hl, wpAny_loadPart' hb, k1, k3
      exact h
    | true =>
      cases e2 with
      | false =>
        have k3 : ∀ (E : Value → Shared → Prop) (Q : Value → Shared → Prop), Q (.bool r2) ⟨hp, g, d, tk, os⟩ → wpAny (model prog w) A.in1 (richCompare .Lt x2 y2) Q E ⟨hp, g, d, tk, os⟩ := hr2 rfl prog w
        wp_walk using wpAny_loadPart' hl, wpAny_loadPart' hb, k1, k2, k3
        exact h
      | true =>
        wp_walk using wpAny_loadPart' hl, wpAny_loadPart' hb, k1, k2
        exact h
  · show Meets (Builtin.«tuple.__le__» ⟨[.ref l, .ref b], []⟩) _
    intro prog w A R s h
    obtain ⟨hp, g, d, tk, os⟩ := s; obtain ⟨hl, hb, he, he2, hr, hr2, h⟩ := h
    have f3 := AutoSeq1.sub_tuple_tuple
    have k1 := he prog w
    have k2 := he2 prog w
    cases e with
    | false =>
      have k3 : ∀ (E : Value → Shared → Prop) (Q : Value → Shared → Prop), Q (.bool r) ⟨hp, g, d, tk, os⟩ → wpAny (model prog w) A.in1 (richCompare .LtE x y) Q E ⟨hp, g, d, tk, os⟩ := hr rfl prog w
      wp_walk using wpAny_loadPart' hl, wpAny_loadPart' hb, k1, k3
      exact h
    | true =>
      cases e2 with
      | false =>
        have k3 : ∀ (E : Value → Shared → Prop) (Q : Value → Shared → Prop), Q (.bool r2) ⟨hp, g, d, tk, os⟩ → wpAny (model prog w) A.in1 (richCompare .LtE x2 y2) Q E ⟨hp, g, d, tk, os⟩ := hr2 rfl prog w
        wp_walk using wpAny_loadPart' hl, wpAny_loadPart' hb, k1, k2, k3
        exact h
      | true =>
        wp_walk using wpAny_loadPart' hl, wpAny_loadPart' hb, k1, k2
        exact h
end
end HT
namespace L2
open PySem PySem.Spec PyProof.Rows PySem.SeqAt
section
variable {X : Cx}
theorem Room.units1 {k : Nat} {A : Around} (r : Room k A) : A.units + 65 < cLine := by have := r.un; omega
theorem Vals.ints {ns : List Int} {us : List Value} (r : Vals (ns.map V.int) us) : ∀ (j : Nat) a, ns[j]? = some a → ∃ t, us.toArray[j]? = some (.int a t) := fun j a e => by
  obtain ⟨u, h1, t, h2⟩ := r.get (i := j) (x := .int a) (by rw [List.getElem?_map, e]; rfl)
  exact ⟨t, by rw [← h2, ← h1]; simp⟩
theorem isAll_ints {K : PySem.W.Frag} {H : Hp} : ∀ ns : List Int, IsAll K H (ns.map V.int) (ns.map PyData.int)
  | [] => .nil
  | n :: ns => .cons (.int n) (isAll_ints ns)
theorem cl_ints : ∀ ns : List Int, PyData.canLayAll0 (ns.map PyData.int) = true
  | [] => by simp [PyData.canLayAll0]
  | n :: ns => by simp [PyData.canLayAll0, PyData.canLay0, cl_ints ns]
theorem dp_ints : ∀ ns : List Int, PyData.depthAll (ns.map PyData.int) ≤ 0
  | [] => by simp [PyData.depthAll]
  | n :: ns => by have := dp_ints ns; simp [PyData.depthAll, PyData.depth]; omega
theorem depth_ints (ns : List Int) : PyData.depth (.list (ns.map .int)) ≤ 1 := by have := dp_ints ns; simp [PyData.depth]; omega
theorem shaped_ints (ns : List Int) : shaped (.list (ns.map .int)) = true := by
  have := depth_ints ns
  simp [shaped, PyData.canLay0, cl_ints ns]; omega
theorem nma_ints : ∀ ns ms : List Int, noMixAll (ns.map PyData.int) (ms.map PyData.int) = true
  | [], [] => by simp [noMixAll]
  | [], _ :: _ => by simp [noMixAll]
  | _ :: _, [] => by simp [noMixAll]
  | n :: ns, m :: ms => by simp [noMixAll, noMix, nma_ints ns ms]
theorem nm_ints (ns ms : List Int) : noMix (.list (ns.map .int)) (.list (ms.map .int)) = true := by rw [noMix]; exact nma_ints ns ms
def rKey (K : PySem.W.Frag) (le : Bool) : R2 := fun x y H Q => ∃ p q a b n m ns ms, x = .ref p ∧ y = .ref q ∧ SqT K H p [.int n, .ref a] ∧ SqT K H q [.int m, .ref b] ∧ SqL K H a (ns.map V.int) ∧ SqL K H b (ms.map V.int) ∧
  Q (.bl (if n = m then HT.cmpR le ns ms else decide (n < m))) H
theorem op_key (le : Bool) (hu : X.A.units + 65 < cLine) : OpR X (compareOp (if le then .LtE else .Lt)) (rKey X.K le) := by
  intro pins s σ H x y v u Q I rx ry h
  obtain ⟨p, q, a, b, n, m, ns, ms, rfl, rfl, hp, hq, ha, hb, h⟩ := h
  cases rx
  cases ry
  obtain ⟨i1, r1, t1, _⟩ := I.tuple hp
  obtain ⟨i2, r2, t2, _⟩ := I.tuple hq
  obtain ⟨la, ra, pa, _⟩ := I.list ha
  obtain ⟨lb, rb, pb, _⟩ := I.list hb
  cases r1 with
  | cons f1 r1 =>
  cases r1 with
  | cons f2 r1 =>
  cases r1
  cases r2 with
  | cons g1 r2 =>
  cases r2 with
  | cons g2 r2 =>
  cases r2
  obtain ⟨tn, rfl⟩ := f1
  obtain ⟨tm, rfl⟩ := g1
  cases f2
  cases g2
  obtain ⟨as, rda⟩ := (Is.lst ha (isAll_ints ns)).reads I (show RelV (.ref a) (.ref a) from rfl)
  obtain ⟨bs, rdb⟩ := (Is.lst hb (isAll_ints ms)).reads I (show RelV (.ref b) (.ref b) from rfl)
  have E2 : ∀ A : Around, A.units + 1 < cLine → EqAt A s (.ref a) (.ref b) (PyData.eqv (.list (ns.map .int)) (.list (ms.map .int))) := fun A hA =>
    eqAt_reads _ _ A s _ _ _ _ rda rdb (canLay_of_shaped (shaped_ints ns)) (canLay_of_shaped (shaped_ints ms)) (by have := depth_ints ns; omega)
  obtain ⟨⟨cls, dd, data, sl⟩, ho, hc, k, hd⟩ := id t1
  obtain ⟨⟨cls2, dd2, data2, sl2⟩, ho2, hc2, k2, hd2⟩ := id t2
  obtain ⟨⟨clsa, dda, dataa, sla⟩, hoa, hca, ka, hda⟩ := id pa.isList
  obtain ⟨⟨clsb, ddb, datab, slb⟩, hob, hcb, kb, hdb⟩ := id pb.isList
  simp only at hc hd hc2 hd2 hca hda hcb hdb
  subst hc hd hc2 hd2 hca hda hcb hdb
  have z1 : la.toArray.size = ns.length := by rw [List.size_toArray, ← ra.length, List.length_map]
  have z2 : lb.toArray.size = ms.length := by rw [List.size_toArray, ← rb.length, List.length_map]
  have un : X.A.in1.units = X.A.units + 1 := rfl
  have R2 : ∀ (prog : Program) (w : World) (E : Value → Shared → Prop) (Q : Value → Shared → Prop), Q (.bool (HT.cmpR le ns ms)) s → wpAny (model prog w) X.A.in1 (richCompare (if le then .LtE else .Lt) (.ref a) (.ref b)) Q E s := fun prog w E Q q => by
    have lm := HT.list_cmp le a b la.toArray lb.toArray ka kb dda ddb sla slb ns ms z1 z2 ra.ints rb.ints
    cases le
    · exact richCompare_meets_room (op := .Lt) ⟨_, hoa, rfl⟩ ⟨_, hob, rfl⟩ F.slot_list_lt F.entry_list_lt (F.args_list_lt_2 _ _) lm ⟨hoa, hob, show _ ∧ _ from ⟨(fun x => nomatch x), q⟩⟩ (by omega)
    · exact richCompare_meets_room (op := .LtE) ⟨_, hoa, rfl⟩ ⟨_, hob, rfl⟩ F.slot_list_le F.entry_list_le (F.args_list_le_2 _ _) lm ⟨hoa, hob, show _ ∧ _ from ⟨(fun x => nomatch x), q⟩⟩ (by omega)
  have val : (if (n == m) = true then if PyData.eqv (.list (ns.map .int)) (.list (ms.map .int)) = true then le else HT.cmpR le ns ms else decide (n < m)) = (if n = m then HT.cmpR le ns ms else decide (n < m)) := by
    by_cases hnm : n = m
    · rw [if_pos (by simpa using hnm), if_pos hnm]
      by_cases hl : ns = ms
      · subst hl
        rw [HT.cmpR_refl]
        split <;> rfl
      · rw [if_neg]
        intro q
        rw [← same_eq_eqv _ _ (nm_ints ns ms)] at q
        have := eq_of_same _ _ q
        injection this with this
        exact hl ((List.map_inj_right (fun _ _ z => by injection z)).mp this)
    · rw [if_neg (by simpa using hnm), if_neg hnm]
  rw [← val] at h
  have pm := HT.pair_cmp le p q (.int n tn) (.int m tm) (.ref a) (.ref b) k k2 dd dd2 sl sl2 (n == m) (PyData.eqv (.list (ns.map .int)) (.list (ms.map .int))) (decide (n < m)) (HT.cmpR le ns ms)
  cases le
  · exact richCompare_meets_room (op := .Lt) ⟨_, ho, rfl⟩ ⟨_, ho2, rfl⟩ F.slot_tuple_lt F.entry_tuple_lt (F.args_tuple_lt_2 _ _) pm
      ⟨ho, ho2, EqAt.int_int n tn m tm, E2 _ (by omega), fun e prog w E Q q => HT.rcI false tn tm (by simpa using e) prog w E Q q, fun _ => R2, show _ ∧ _ from ⟨(fun x => nomatch x), ⟨.bl _, H, I, rfl, h⟩⟩⟩ (by omega)
  · exact richCompare_meets_room (op := .LtE) ⟨_, ho, rfl⟩ ⟨_, ho2, rfl⟩ F.slot_tuple_le F.entry_tuple_le (F.args_tuple_le_2 _ _) pm
      ⟨ho, ho2, EqAt.int_int n tn m tm, E2 _ (by omega), fun e prog w E Q q => HT.rcI true tn tm (by simpa using e) prog w E Q q, fun _ => R2, show _ ∧ _ from ⟨(fun x => nomatch x), ⟨.bl _, H, I, rfl, h⟩⟩⟩ (by omega)
theorem op_keyLt (hu : X.A.units + 65 < cLine) : OpR X (compareOp .Lt) (rKey X.K false) := op_key false hu
theorem op_keyLe (hu : X.A.units + 65 < cLine) : OpR X (compareOp .LtE) (rKey X.K true) := op_key true hu
theorem any_same {d : PyData} : ∀ {ds : List PyData}, (∀ e ∈ ds, noMix e d = true) → ds.any (fun y => PyData.eqv y d) = ds.any fun y => PySem.Spec.same y d
  | [], _ => rfl
  | e :: ds, h => by
    rw [List.any_cons, List.any_cons, same_eq_eqv e d (h e (List.mem_cons_self ..)), any_same fun z hz => h z (List.mem_cons_of_mem _ hz)]
/-- x in, x not in a list of data -/
def rInD (K : PySem.W.Frag) (neg : Bool) : R2 := fun x y H Q => ∃ d ds, Is K H x d ∧ Is K H y (.list ds) ∧ shaped d = true ∧ shaped (.list ds) = true ∧ (∀ e ∈ ds, noMix e d = true) ∧
  Q (.bl (if neg then !(ds.any fun y => PySem.Spec.same y d) else ds.any fun y => PySem.Spec.same y d)) H
theorem op_inD (hu : X.A.units + 65 < cLine) : OpR X (compareOp .In) (rInD X.K false) := by
  intro pins s σ H x y v u Q I rx ry h
  obtain ⟨d, ds, hx, hy, sx, sy, nm, q⟩ := h
  obtain ⟨as, ra⟩ := hx.reads I rx
  obtain ⟨bs, rb⟩ := hy.reads I ry
  refine in_list_reads rb ra (canLay_of_shaped sy) (canLay_of_shaped sx) (room_in_shaped sx hu) ⟨.bl _, H, I, rfl, ?_⟩
  rw [any_same nm]; exact q
theorem op_notInD (hu : X.A.units + 65 < cLine) : OpR X (compareOp .NotIn) (rInD X.K true) := by
  intro pins s σ H x y v u Q I rx ry h
  obtain ⟨d, ds, hx, hy, sx, sy, nm, q⟩ := h
  obtain ⟨as, ra⟩ := hx.reads I rx
  obtain ⟨bs, rb⟩ := hy.reads I ry
  refine notIn_list_reads rb ra (canLay_of_shaped sy) (canLay_of_shaped sx) (room_in_shaped sx hu) ⟨.bl _, H, I, rfl, ?_⟩
  rw [any_same nm]; exact q
theorem count_same {h : Heap} {d : PyData} {ds : List PyData} {vs : List Value} {as : List Addr} (r : ReadsAll h vs ds as) (hc : PyData.canLayAll0 ds = true) (nm : ∀ e ∈ ds, noMix e d = true) :
    vs.countP (fun y => PyData.eqv (readOf h y) d) = ds.countP fun y => PySem.Spec.same y d := by
  rw [← readsAll_map ds vs as hc r] at nm ⊢
  rw [List.countP_map]
  refine List.countP_congr fun y hy => ?_
  rw [Function.comp, same_eq_eqv _ d (nm _ (List.mem_map_of_mem hy))]
/-- xs.count(x) -/
def rCount (K : PySem.W.Frag) : V → List V → Hp → VK → Prop := fun y xs H Q => ∃ x d ds, xs = [x] ∧ Is K H x d ∧ Is K H y (.list ds) ∧ shaped d = true ∧ shaped (.list ds) = true ∧ (∀ e ∈ ds, noMix e d = true) ∧
  Q (.int ((ds.countP fun y => PySem.Spec.same y d : Nat) : Int)) H
theorem mt_count (hu : X.A.units + 65 < cLine) : MtR X "list.count" (rCount X.K) := by
  intro pins s σ H y xs v us Q I ry rs h
  obtain ⟨x, d, ds, rfl, hx, hy, sx, sy, nm, q⟩ := h
  cases rs with
  | cons rx rs =>
  cases rs
  obtain ⟨as, ra⟩ := hx.reads I rx
  obtain ⟨bs, rb⟩ := hy.reads I ry
  cases rb with
  | list h1 h2 h3 h4 =>
  rename_i o n _ _
  obtain ⟨cls, dd, data, sl⟩ := o
  simp only at h2 h3
  subst h2 h3
  refine call_meets F.slot_list_count ⟨_, h1, rfl⟩ F.entry_list_count (F.args_list_count_2 _ _) (list_countAt _ _ _ _ _ _ _) ⟨h1, items_eqAt h4 ra (canLay_of_shaped sy) (canLay_of_shaped sx) (room_in_shaped sx hu), ?_⟩
  rw [count_same h4 (canLay_of_shaped sy) nm]
  exact ⟨.int _, H, I.tok _, ⟨_, rfl⟩, q⟩
end
end L2
/-! A search, one step after another: what is met first, and by which word. -/
namespace Mine
section
variable {α : Type} [DecidableEq α]
/-- the value of a word of digits below L: words in the order of their lengths, and then of their digits -/
def vw (L : Nat) (a : Nat) (w : List Nat) : Nat := w.foldl (fun v k => L * v + k + 1) a
theorem vw_snoc (L a : Nat) (w : List Nat) (k : Nat) : vw L a (w ++ [k]) = L * vw L a w + k + 1 := by simp [vw]
theorem vw_up {L : Nat} : ∀ {w w' : List Nat} {a b : Nat}, w.length = w'.length → (∀ k ∈ w, k < L) → a < b → vw L a w < vw L b w'
  | [], [], _, _, _, _, h => h
  | [], _ :: _, _, _, e, _, _ => by simp at e
  | _ :: _, [], _, _, e, _, _ => by simp at e
  | k :: w, k' :: w', a, b, e, hd, h => by
    show vw L (L * a + k + 1) w < vw L (L * b + k' + 1) w'
    refine vw_up (by simpa using e) (fun x hx => hd x (List.mem_cons_of_mem _ hx)) ?_
    have h1 := hd k (List.mem_cons_self ..)
    have h2 : L * (a + 1) ≤ L * b := Nat.mul_le_mul_left _ h
    rw [Nat.mul_add] at h2
    omega
theorem vw_len {L : Nat} {w w' : List Nat} (h : w.length < w'.length) (hd : ∀ k ∈ w, k < L) : vw L 0 w < vw L 0 w' := by
  have e : w' = w'.take (w'.length - w.length) ++ w'.drop (w'.length - w.length) := (List.take_append_drop _ _).symm
  rw [e, vw, vw, List.foldl_append]
  refine vw_up (by rw [List.length_drop]; omega) hd ?_
  cases hu : w'.take (w'.length - w.length) with
  | nil =>
    have := congrArg List.length hu
    rw [List.length_take] at this
    simp at this
    omega
  | cons x xs =>
    have : ∀ (u : List Nat) (v : Nat), 0 < v → 0 < u.foldl (fun v k => L * v + k + 1) v := by
      intro u
      induction u with
      | nil => intro v h; exact h
      | cons y ys ih => intro v _; exact ih _ (Nat.succ_pos _)
    exact this xs _ (Nat.succ_pos _)
/-- the words' order as Python tells it -/
theorem vw_cmp {L : Nat} (le : Bool) : ∀ {w w' : List Nat} (a : Nat), w.length = w'.length → (∀ k ∈ w, k < L) → (∀ k ∈ w', k < L) →
    HT.cmpR le (w.map fun k : Nat => (k : Int)) (w'.map fun k : Nat => (k : Int)) = (if le then decide (vw L a w ≤ vw L a w') else decide (vw L a w < vw L a w'))
  | [], [], a, _, _, _ => by cases le <;> simp [HT.cmpR, vw]
  | [], _ :: _, _, e, _, _ => by simp at e
  | _ :: _, [], _, e, _, _ => by simp at e
  | k :: w, k' :: w', a, e, h1, h2 => by
    have el : w.length = w'.length := by simpa using e
    have d1 : ∀ x ∈ w, x < L := fun x hx => h1 x (List.mem_cons_of_mem _ hx)
    have d2 : ∀ x ∈ w', x < L := fun x hx => h2 x (List.mem_cons_of_mem _ hx)
    rw [List.map_cons, List.map_cons, HT.cmpR]
    by_cases hk : k = k'
    · subst hk
      rw [if_pos rfl]
      exact vw_cmp le (L * a + k + 1) el d1 d2
    · rw [if_neg (by omega)]
      by_cases hlt : k < k'
      · have q : vw L a (k :: w) < vw L a (k' :: w') := (vw_up el d1 (by omega) : vw L (L * a + k + 1) w < vw L (L * a + k' + 1) w')
        rw [decide_eq_true (by omega)]
        cases le
        · rw [if_neg Bool.false_ne_true, decide_eq_true q]
        · rw [if_pos rfl, decide_eq_true (Nat.le_of_lt q)]
      · have q : vw L a (k' :: w') < vw L a (k :: w) := (vw_up el.symm d2 (by omega) : vw L (L * a + k' + 1) w' < vw L (L * a + k + 1) w)
        rw [decide_eq_false (by omega)]
        cases le
        · rw [if_neg Bool.false_ne_true, decide_eq_false (by omega)]
        · rw [if_pos rfl, decide_eq_false (by omega)]
theorem vw_key {L : Nat} (le : Bool) {w w' : List Nat} (h1 : ∀ k ∈ w, k < L) (h2 : ∀ k ∈ w', k < L) :
    (if (w.length : Int) = (w'.length : Int) then HT.cmpR le (w.map fun k : Nat => (k : Int)) (w'.map fun k : Nat => (k : Int)) else decide ((w.length : Int) < (w'.length : Int))) = (if le then decide (vw L 0 w ≤ vw L 0 w') else decide (vw L 0 w < vw L 0 w')) := by
  by_cases e : w.length = w'.length
  · rw [if_pos (by omega)]; exact vw_cmp le 0 e h1 h2
  · rw [if_neg (by omega)]
    by_cases q : w.length < w'.length
    · have := vw_len q h1
      rw [decide_eq_true (by omega)]
      cases le
      · rw [if_neg Bool.false_ne_true, decide_eq_true this]
      · rw [if_pos rfl, decide_eq_true (Nat.le_of_lt this)]
    · have := vw_len (show w'.length < w.length by omega) h2
      rw [decide_eq_false (by omega)]
      cases le
      · rw [if_neg Bool.false_ne_true, decide_eq_false (by omega)]
      · rw [if_pos rfl, decide_eq_false (by omega)]
/-- a search: f c tells what the c-th step meets, out of what is met so far -/
def srch (L : Nat) (f : Nat → α → α) (x0 : α) : Nat → List α × List (List Nat)
  | 0 => ([x0], [[]])
  | c + 1 => match (srch L f x0 c).1[c / L]?, (srch L f x0 c).2[c / L]? with
    | some x, some w => if f (c % L) x ∈ (srch L f x0 c).1 then srch L f x0 c else ((srch L f x0 c).1 ++ [f (c % L) x], (srch L f x0 c).2 ++ [w ++ [c % L]])
    | _, _ => srch L f x0 c
structure SI (L : Nat) (f : Nat → α → α) (x0 : α) (c : Nat) (Ts : List α) (Ws : List (List Nat)) : Prop where
  len : Ws.length = Ts.length
  nd : Ts.Nodup
  z : Ts[0]? = some x0 ∧ Ws[0]? = some []
  dg : ∀ w ∈ Ws, ∀ k ∈ w, k < L
  up : ∀ (a : Nat) w w', Ws[a]? = some w → Ws[a + 1]? = some w' → vw L 0 w < vw L 0 w'
  top : ∀ (a : Nat) w (b : Nat) v, Ws[a]? = some w → Ws[b]? = some v → c / L ≤ b → vw L 0 w < L * vw L 0 v + c % L + 1
  par : ∀ (a : Nat) y, Ts[a + 1]? = some y → ∃ e x w, e < c ∧ e / L ≤ a ∧ Ts[e / L]? = some x ∧ Ws[e / L]? = some w ∧ Ws[a + 1]? = some (w ++ [e % L]) ∧ f (e % L) x = y ∧ ∀ e' x', e' < e → Ts[e' / L]? = some x' → f (e' % L) x' ≠ y
  cl : ∀ e x, e < c → Ts[e / L]? = some x → f (e % L) x ∈ Ts
theorem dm {L : Nat} (hL : L = 1 ∨ L = 2 ∨ L = 3) (c : Nat) : ((c + 1) / L = c / L ∧ (c + 1) % L = c % L + 1 ∧ c % L + 1 < L) ∨ ((c + 1) / L = c / L + 1 ∧ (c + 1) % L = 0 ∧ c % L + 1 = L) := by
  rcases hL with rfl | rfl | rfl <;> omega
theorem dm2 {L : Nat} (hL : L = 1 ∨ L = 2 ∨ L = 3) (j k : Nat) (hk : k < L) : (j * L + k) / L = j ∧ (j * L + k) % L = k := by
  rcases hL with rfl | rfl | rfl <;> omega
theorem div_mono {L a b : Nat} (hL : L = 1 ∨ L = 2 ∨ L = 3) (h : a ≤ b) : a / L ≤ b / L := by
  rcases hL with rfl | rfl | rfl <;> omega
variable {L : Nat} {f : Nat → α → α} {x0 : α} {c : Nat} {Ts : List α} {Ws : List (List Nat)}
theorem SI.lt (I : SI L f x0 c Ts Ws) : ∀ (d a : Nat) w v, Ws[a]? = some w → Ws[a + d + 1]? = some v → vw L 0 w < vw L 0 v
  | 0, a, w, v, h1, h2 => I.up a w v h1 h2
  | d + 1, a, w, v, h1, h2 => by
    have hl := (List.getElem?_eq_some_iff.mp h2).1
    obtain ⟨u, hu⟩ : ∃ u, Ws[a + d + 1]? = some u := ⟨_, List.getElem?_eq_getElem (by omega)⟩
    have := I.lt d a w u h1 hu
    have := I.up (a + d + 1) u v hu h2
    omega
theorem SI.start (hL : L = 1 ∨ L = 2 ∨ L = 3) : SI L f x0 0 [x0] [[]] where
  len := rfl
  nd := by simp
  z := ⟨rfl, rfl⟩
  dg := fun w hw k hk => by rw [List.mem_singleton.mp hw] at hk; cases hk
  up := fun a w w' _ h => by simp at h
  top := fun a w b v h1 h2 _ => by
    have e1 : w = [] := by cases a with
      | zero => simpa using h1.symm
      | succ a => simp at h1
    subst e1
    exact Nat.succ_pos _
  par := fun a y h => by simp at h
  cl := fun e x h => absurd h (Nat.not_lt_zero e)
theorem SI.stay (hL : L = 1 ∨ L = 2 ∨ L = 3) (I : SI L f x0 c Ts Ws) {x : α} (hx : Ts[c / L]? = some x) (hin : f (c % L) x ∈ Ts) : SI L f x0 (c + 1) Ts Ws where
  len := I.len
  nd := I.nd
  z := I.z
  dg := I.dg
  up := I.up
  top := fun a w b v h1 h2 hb => by
    have hr : c / L < Ws.length := by rw [I.len]; exact (List.getElem?_eq_some_iff.mp hx).1
    obtain ⟨r, er⟩ : ∃ r, Ws[c / L]? = some r := ⟨_, List.getElem?_eq_getElem hr⟩
    have q := I.top a w (c / L) r h1 er (Nat.le_refl _)
    rcases dm hL c with ⟨e1, e2, e3⟩ | ⟨e1, e2, e3⟩
    · rw [e1] at hb
      have := I.top a w b v h1 h2 hb
      omega
    · rw [e1] at hb
      have lt := I.lt (b - (c / L) - 1) (c / L) r v er (by rw [show c / L + (b - c / L - 1) + 1 = b by omega]; exact h2)
      have m : L * (vw L 0 r + 1) ≤ L * vw L 0 v := Nat.mul_le_mul_left _ lt
      rw [Nat.mul_add] at m
      omega
  par := fun a y h => by
    obtain ⟨e, x', w, h1, h2⟩ := I.par a y h
    exact ⟨e, x', w, by omega, h2⟩
  cl := fun e x' he h => by
    by_cases q : e = c
    · subst q
      rw [hx] at h
      cases h
      exact hin
    · exact I.cl e x' (by omega) h
theorem gA {β : Type} {l : List β} {y u : β} {a : Nat} (h : (l ++ [y])[a]? = some u) : (a < l.length ∧ l[a]? = some u) ∨ (a = l.length ∧ u = y) := by
  by_cases q : a < l.length
  · rw [List.getElem?_append_left q] at h; exact .inl ⟨q, h⟩
  · rw [List.getElem?_append_right (by omega)] at h
    have hl := (List.getElem?_eq_some_iff.mp h).1
    simp at hl
    have e : a - l.length = 0 := by omega
    rw [e] at h
    exact .inr ⟨by omega, by simpa using h.symm⟩
theorem gL {β : Type} {l : List β} {y u : β} {a : Nat} (h : l[a]? = some u) : (l ++ [y])[a]? = some u := by
  rw [List.getElem?_append_left (List.getElem?_eq_some_iff.mp h).1]; exact h
theorem SI.more (hL : L = 1 ∨ L = 2 ∨ L = 3) (I : SI L f x0 c Ts Ws) {x : α} {r : List Nat} (hx : Ts[c / L]? = some x) (hr : Ws[c / L]? = some r) (hn : f (c % L) x ∉ Ts) : SI L f x0 (c + 1) (Ts ++ [f (c % L) x]) (Ws ++ [r ++ [c % L]]) := by
  have hc : c / L < Ts.length := (List.getElem?_eq_some_iff.mp hx).1
  have L0 : 0 < L := by omega
  have V := vw_snoc L 0 r (c % L)
  have old : ∀ (e : Nat) x', e ≤ c → (Ts ++ [f (c % L) x])[e / L]? = some x' → Ts[e / L]? = some x' := fun e x' he h => by
    have := div_mono hL he
    rcases gA h with ⟨_, q⟩ | ⟨q, _⟩
    · exact q
    · omega
  have tV : ∀ (a : Nat) w, (Ws ++ [r ++ [c % L]])[a]? = some w → vw L 0 w ≤ L * vw L 0 r + c % L + 1 := fun a w h => by
    rcases gA h with ⟨_, q⟩ | ⟨_, q⟩
    · exact Nat.le_of_lt (I.top a w (c / L) r q hr (Nat.le_refl _))
    · rw [q, V]; exact Nat.le_refl _
  refine ⟨?_, ?_, ⟨gL I.z.1, gL I.z.2⟩, ?_, ?_, ?_, ?_, ?_⟩
  · rw [List.length_append, List.length_append, I.len]; rfl
  · refine List.nodup_append.mpr ⟨I.nd, by simp, fun a ha b hb q => ?_⟩
    rw [q, List.mem_singleton.mp hb] at ha
    exact hn ha
  · intro w hw k hk
    rcases List.mem_append.mp hw with hw | hw
    · exact I.dg w hw k hk
    · rw [List.mem_singleton.mp hw] at hk
      rcases List.mem_append.mp hk with hk | hk
      · exact I.dg r (List.mem_of_getElem? hr) k hk
      · rw [List.mem_singleton.mp hk]; exact Nat.mod_lt _ L0
  · intro a w w' h1 h2
    rcases gA h2 with ⟨q2, p2⟩ | ⟨q2, p2⟩
    · rcases gA h1 with ⟨_, p1⟩ | ⟨q1, _⟩
      · exact I.up a w w' p1 p2
      · omega
    · rcases gA h1 with ⟨_, p1⟩ | ⟨q1, _⟩
      · rw [p2, V]; exact I.top a w (c / L) r p1 hr (Nat.le_refl _)
      · omega
  · intro a w b v h1 h2 hb
    have wV := tV a w h1
    rcases gA h2 with ⟨q2, p2⟩ | ⟨q2, p2⟩
    · rcases dm hL c with ⟨e1, e2, e3⟩ | ⟨e1, e2, e3⟩
      · rw [e1] at hb
        have m : L * vw L 0 r ≤ L * vw L 0 v := by
          refine Nat.mul_le_mul_left _ ?_
          by_cases z : b = c / L
          · subst z
            rw [hr] at p2
            cases p2
            exact Nat.le_refl _
          · exact Nat.le_of_lt (I.lt (b - (c / L) - 1) (c / L) r v hr (by rw [show c / L + (b - c / L - 1) + 1 = b by omega]; exact p2))
        omega
      · rw [e1] at hb
        have lt := I.lt (b - (c / L) - 1) (c / L) r v hr (by rw [show c / L + (b - c / L - 1) + 1 = b by omega]; exact p2)
        have m : L * (vw L 0 r + 1) ≤ L * vw L 0 v := Nat.mul_le_mul_left _ lt
        rw [Nat.mul_add] at m
        omega
    · have m : L * vw L 0 r + c % L + 1 ≤ L * (L * vw L 0 r + c % L + 1) := Nat.le_mul_of_pos_left _ L0
      rw [p2, V]
      omega
  · intro a y h
    rcases gA h with ⟨q, p⟩ | ⟨q, p⟩
    · obtain ⟨e, x', w, a1, a2, a3, a4, a5, a6, a7⟩ := I.par a y p
      exact ⟨e, x', w, by omega, a2, gL a3, gL a4, gL a5, a6, fun e' y' he h' => a7 e' y' he (old e' y' (by omega) h')⟩
    · refine ⟨c, x, r, by omega, by omega, gL hx, gL hr, ?_, p.symm, fun e' y' he h' z => ?_⟩
      · rw [q, ← I.len, List.getElem?_append_right (Nat.le_refl _)]; simp
      · have := I.cl e' y' he (old e' y' (by omega) h')
        rw [z, p] at this
        exact hn this
  · intro e x' he h
    have h' := old e x' (by omega) h
    by_cases z : e = c
    · subst z
      rw [hx] at h'
      cases h'
      simp
    · exact List.mem_append_left _ (I.cl e x' (by omega) h')
end
end Mine
namespace K61
open PySem L2 Mine PyProof.Rows PySem.SeqAt
abbrev Pr : Program := PySem.Challenge.pw_weighwalk_k61_sets
theorem tree0 : Pr.given.tree = none := rfl
def top (i : Nat) : Stmt := PySem.Challenge.pw_weighwalk_k61_sets.main.body.getD i (.Pass ⟨0, 0, 0, 0⟩)
abbrev s_first_set : Stmt := top 5
abbrev s_next_set : Stmt := top 6
abbrev s_sets_of : Stmt := top 7
abbrev s_law_state : Stmt := top 9
abbrev s_law_next : Stmt := top 10
abbrev s_law_rooms : Stmt := top 11
abbrev s_law_letters : Stmt := top 12
abbrev s_law_truths : Stmt := top 13
abbrev s_law_machine : Stmt := top 14
abbrev s_law_first : Stmt := top 15
abbrev s_law_after : Stmt := top 16
abbrev s_law_all_sets : Stmt := top 17
abbrev s_law_key : Stmt := top 18
abbrev s_law_walked : Stmt := top 19
abbrev s_law : Stmt := top 20
theorem sc_first_set : FnScope ["machine"] ["machine"] (defScope s_first_set) := ⟨rfl, rfl, rfl, by decide +kernel, rfl, by decide +kernel, by decide +kernel⟩
theorem sc_next_set : FnScope ["table", "within"] ["table", "within"] (defScope s_next_set) := ⟨rfl, rfl, rfl, by decide +kernel, rfl, by decide +kernel, by decide +kernel⟩
theorem sc_sets_of : FnScope ["machine", "told", "place", "table", "after"] ["machine"] (defScope s_sets_of) := ⟨rfl, rfl, rfl, by decide +kernel, rfl, by decide +kernel, by decide +kernel⟩
theorem sc_law_state : FnScope ["_law_script", "_law_seed", "_law_cell"] ["_law_script"] (defScope s_law_state) := ⟨rfl, rfl, rfl, by decide +kernel, rfl, by decide +kernel, by decide +kernel⟩
theorem sc_law_next : FnScope ["_law_state_here", "_law_many", "_law_found"] ["_law_state_here", "_law_many"] (defScope s_law_next) := ⟨rfl, rfl, rfl, by decide +kernel, rfl, by decide +kernel, by decide +kernel⟩
theorem sc_law_rooms : FnScope ["_law_state_here", "_law_few", "_law_most"] ["_law_state_here", "_law_few", "_law_most"] (defScope s_law_rooms) := ⟨rfl, rfl, rfl, by decide +kernel, rfl, by decide +kernel, by decide +kernel⟩
theorem sc_law_letters : FnScope ["_law_state_here", "_law_some", "_law_answer", "_law_k", "_law_letter"] ["_law_state_here"] (defScope s_law_letters) := ⟨rfl, rfl, rfl, by decide +kernel, rfl, by decide +kernel, by decide +kernel⟩
theorem sc_law_truths : FnScope ["_law_state_here", "_law_many", "_law_thin"] ["_law_state_here", "_law_many", "_law_thin"] (defScope s_law_truths) := ⟨rfl, rfl, rfl, by decide +kernel, rfl, by decide +kernel, by decide +kernel⟩
theorem sc_law_machine : FnScope ["_law_state_here", "_law_letters_here", "_law_many", "_law_thin", "_law_start", "_law_tables", "_law_letter"] ["_law_state_here", "_law_letters_here", "_law_many", "_law_thin"] (defScope s_law_machine) := ⟨rfl, rfl, rfl, by decide +kernel, rfl, by decide +kernel, by decide +kernel⟩
theorem sc_law_first : FnScope ["_law_machine_here"] ["_law_machine_here"] (defScope s_law_first) := ⟨rfl, rfl, rfl, by decide +kernel, rfl, by decide +kernel, by decide +kernel⟩
theorem sc_law_after : FnScope ["_law_machine_here", "_law_some", "_law_at", "_law_table"] ["_law_machine_here", "_law_some", "_law_at"] (defScope s_law_after) := ⟨rfl, rfl, rfl, by decide +kernel, rfl, by decide +kernel, by decide +kernel⟩
theorem sc_law_all_sets : FnScope ["_law_machine_here", "_law_most", "_law_some", "_law_at", "_law_k", "_law_more"] ["_law_machine_here", "_law_most"] (defScope s_law_all_sets) := ⟨rfl, rfl, rfl, by decide +kernel, rfl, by decide +kernel, by decide +kernel⟩
theorem sc_law_key : FnScope ["_law_letters_here", "_law_word"] ["_law_letters_here", "_law_word"] (defScope s_law_key) := ⟨rfl, rfl, rfl, by decide +kernel, rfl, by decide +kernel, by decide +kernel⟩
theorem sc_law_walked : FnScope ["_law_machine_here", "_law_answer", "_law_letters_here", "_law_steps", "_law_some", "_law_met", "_law_at", "_law_best", "_law_j", "_law_k", "_law_word"] ["_law_machine_here", "_law_answer"] (defScope s_law_walked) := ⟨rfl, rfl, rfl, by decide +kernel, rfl, by decide +kernel, by decide +kernel⟩
theorem sc_law : FnScope ["_law_script", "_law_state_here", "_law_letters_here", "_law_machine_here", "_law_refused", "_law_answer", "e"] ["_law_script"] (defScope s_law) := ⟨rfl, rfl, rfl, by decide +kernel, rfl, by decide +kernel, by decide +kernel⟩
structure Adr where
  first_set : Addr
  d_first_set : FuncData
  next_set : Addr
  d_next_set : FuncData
  sets_of : Addr
  d_sets_of : FuncData
  law_state : Addr
  d_law_state : FuncData
  law_next : Addr
  d_law_next : FuncData
  law_rooms : Addr
  d_law_rooms : FuncData
  law_letters : Addr
  d_law_letters : FuncData
  law_truths : Addr
  d_law_truths : FuncData
  law_machine : Addr
  d_law_machine : FuncData
  law_first : Addr
  d_law_first : FuncData
  law_after : Addr
  d_law_after : FuncData
  law_all_sets : Addr
  d_law_all_sets : FuncData
  law_key : Addr
  d_law_key : FuncData
  law_walked : Addr
  d_law_walked : FuncData
  law : Addr
  d_law : FuncData
  WeighError : Addr
  TooGreat : Addr
structure Txt (K : PySem.W.Frag) (mg : Str → Option Value) (t : Adr) : Prop where
  F_first_set : Fun K "first_set" "first_set" s_first_set t.first_set t.d_first_set
  b_first_set : Binds K t.d_first_set ["machine"] []
  m_first_set : mg "first_set" = some (.ref t.first_set)
  F_next_set : Fun K "next_set" "next_set" s_next_set t.next_set t.d_next_set
  b_next_set : Binds K t.d_next_set ["table", "within"] []
  m_next_set : mg "next_set" = some (.ref t.next_set)
  F_sets_of : Fun K "sets_of" "sets_of" s_sets_of t.sets_of t.d_sets_of
  b_sets_of : Binds K t.d_sets_of ["machine"] []
  m_sets_of : mg "sets_of" = some (.ref t.sets_of)
  F_law_state : Fun K "_law_state" "_law_state" s_law_state t.law_state t.d_law_state
  b_law_state : Binds K t.d_law_state ["_law_script"] []
  m_law_state : mg "_law_state" = some (.ref t.law_state)
  F_law_next : Fun K "_law_next" "_law_next" s_law_next t.law_next t.d_law_next
  b_law_next : Binds K t.d_law_next ["_law_state_here", "_law_many"] []
  m_law_next : mg "_law_next" = some (.ref t.law_next)
  F_law_rooms : Fun K "_law_rooms" "_law_rooms" s_law_rooms t.law_rooms t.d_law_rooms
  b_law_rooms : Binds K t.d_law_rooms ["_law_state_here", "_law_few", "_law_most"] []
  m_law_rooms : mg "_law_rooms" = some (.ref t.law_rooms)
  F_law_letters : Fun K "_law_letters" "_law_letters" s_law_letters t.law_letters t.d_law_letters
  b_law_letters : Binds K t.d_law_letters ["_law_state_here"] []
  m_law_letters : mg "_law_letters" = some (.ref t.law_letters)
  F_law_truths : Fun K "_law_truths" "_law_truths" s_law_truths t.law_truths t.d_law_truths
  b_law_truths : Binds K t.d_law_truths ["_law_state_here", "_law_many", "_law_thin"] []
  m_law_truths : mg "_law_truths" = some (.ref t.law_truths)
  F_law_machine : Fun K "_law_machine" "_law_machine" s_law_machine t.law_machine t.d_law_machine
  b_law_machine : Binds K t.d_law_machine ["_law_state_here", "_law_letters_here", "_law_many", "_law_thin"] []
  m_law_machine : mg "_law_machine" = some (.ref t.law_machine)
  F_law_first : Fun K "_law_first" "_law_first" s_law_first t.law_first t.d_law_first
  b_law_first : Binds K t.d_law_first ["_law_machine_here"] []
  m_law_first : mg "_law_first" = some (.ref t.law_first)
  F_law_after : Fun K "_law_after" "_law_after" s_law_after t.law_after t.d_law_after
  b_law_after : Binds K t.d_law_after ["_law_machine_here", "_law_some", "_law_at"] []
  m_law_after : mg "_law_after" = some (.ref t.law_after)
  F_law_all_sets : Fun K "_law_all_sets" "_law_all_sets" s_law_all_sets t.law_all_sets t.d_law_all_sets
  b_law_all_sets : Binds K t.d_law_all_sets ["_law_machine_here", "_law_most"] []
  m_law_all_sets : mg "_law_all_sets" = some (.ref t.law_all_sets)
  F_law_key : Fun K "_law_key" "_law_key" s_law_key t.law_key t.d_law_key
  b_law_key : Binds K t.d_law_key ["_law_letters_here", "_law_word"] []
  m_law_key : mg "_law_key" = some (.ref t.law_key)
  F_law_walked : Fun K "_law_walked" "_law_walked" s_law_walked t.law_walked t.d_law_walked
  b_law_walked : Binds K t.d_law_walked ["_law_machine_here", "_law_answer"] []
  m_law_walked : mg "_law_walked" = some (.ref t.law_walked)
  F_law : Fun K "law" "law" s_law t.law t.d_law
  b_law : Binds K t.d_law ["_law_script"] []
  m_law : mg "law" = some (.ref t.law)
  m_WeighError : mg "WeighError" = some (.ref t.WeighError)
  x_WeighError : ExcK K t.WeighError
  m_TooGreat : mg "TooGreat" = some (.ref t.TooGreat)
  x_TooGreat : ExcK K t.TooGreat
  z_tuple : mg "tuple" = none
  z_enumerate : mg "enumerate" = none
  z_range : mg "range" = none
  z_len : mg "len" = none
  z_any : mg "any" = none
  c_MOST_SETS : ∃ tk, mg "MOST_SETS" = some (Value.int 20 tk)
  z_isinstance : mg "isinstance" = none
  z_list : mg "list" = none
  z_all : mg "all" = none
  z_ValueError : mg "ValueError" = none
  k_tt : PySem.W.kitOne K (.type "tuple") (.type "tuple") = some true
  k_ll : PySem.W.kitOne K (.type "list") (.type "list") = some true
  e_G : PySem.W.exmOne K (.ref t.TooGreat) (.ref t.TooGreat) = some true
  k_GV : PySem.W.kitOne K (.ref t.TooGreat) (.type "ValueError") = some true
  k_GW : PySem.W.kitOne K (.ref t.TooGreat) (.ref t.WeighError) = some true
seal L2.PSs L2.PS L2.PE L2.PT L2.PW L2.PA L2.PG L2.PGs L2.PI
section
variable {w : World} {K : PySem.W.Frag} {mg : Str → Option Value} {base : Heap} {t : Adr}
theorem cut_take (xs : List V) (k : Nat) : cutV xs none (some (k : Int)) = xs.take k := by
  unfold cutV
  rw [HT.sIx_none, HT.sIx_nat, List.drop_zero, Nat.sub_zero]
  by_cases h : k ≤ xs.length
  · rw [Nat.min_eq_left h]
  · rw [Nat.min_eq_right (by omega), List.take_length, List.take_of_length_le (by omega)]
/-! draws -/
def Dr (H : Hp) (a : Addr) : Prop := ∃ x : Int, H a = some (.lst [.int x]) ∨ ∃ d : Int, H a = some (.lst [.int d, .int x])
/-- all but the list at a is as it was -/
def SameX (a : Addr) (H H' : Hp) : Prop := ∀ b o, b ≠ a → H b = some o → H' b = some o
theorem SameX.refl (a : Addr) (H : Hp) : SameX a H H := fun _ _ _ h => h
theorem SameX.trans {a : Addr} {H H1 H2 : Hp} (x : SameX a H H1) (y : SameX a H1 H2) : SameX a H H2 := fun b o n h => y b o n (x b o n h)
theorem SameX.upd {a : Addr} {H : Hp} {o : HO} : SameX a H (upd H a o) := fun b u n h => by rw [upd_ne n]; exact h
theorem SameX.of {a : Addr} {H H' : Hp} (x : Same H H') : SameX a H H' := fun b o _ h => x b o h
def sp_next : Sp := fun vs H Q _ => ∃ (a : Addr) (m : Int), vs = [.ref a, .int m] ∧ (Dr H a ∧ 0 < m ∧ m ≤ 1000000000000000) ∧ ∀ (r : Int) H', SameX a H H' → Dr H' a → 0 ≤ r → r < m → Q (.int r) H'
def sp_state (K : PySem.W.Frag) : Sp := fun vs H Q _ => ∃ (a : Addr) (ns : List Int), vs = [.ref a] ∧ SqL K H a (ns.map V.int) ∧ ns.length ≤ 63 ∧ ∀ b H', H b = none → Same H H' → Dr H' b → Q (.ref b) H'
theorem small_div {m : Int} (h : 0 < m) (h' : m ≤ 1000000000000000) (x : Int) : CDivB x m := by
  refine ⟨by omega, ?_⟩
  have : m.natAbs ≤ 2 ^ 50 := by
    have e : (2 : Nat) ^ 50 = 1125899906842624 := by decide
    omega
  by_cases e : m.natAbs = 0
  · rw [e]; decide
  · rw [Nat.log2_lt e]
    exact Nat.lt_of_le_of_lt this (Nat.pow_lt_pow_right (by decide) (by decide))
theorem ok_law_next (T : Txt K mg t) : FnOk Pr w K mg base CX0 1 t.law_next t.d_law_next ["_law_state_here", "_law_many"] sp_next := by
  refine T.F_law_next.ok sc_law_next (fun vs H Q E h => ?_) (fun cdv A outer s H vs Q E hr h => ?_)
  · obtain ⟨a, m, rfl, _⟩ := h
    rfl
  · obtain ⟨a, m, rfl, ⟨⟨x, hD⟩, m0, m1⟩, k⟩ := h
    refine ⟨_, (pss_cons (ps_if (pt_cmpR op_eq (pe_callB call_len (by rfl) T.z_len PySem.boot_len (pa_cons (pv 0) pa_nil)) pe_int (nomark _)) (pss_cons (ps_set (i := 2) sc_law_next.nd rfl (Or.inl rfl) (pe_op op_modN (pe_ix ix_list (pv 0) pe_int (fun _ _ => rfl)) (pv 1))) (pss_cons (ps_asg (pe_op op_fdivB (pe_ix ix_list (pv 0) pe_int (fun _ _ => rfl)) (pv 1)) (pg_sub (pv 0) pe_int set_list)) (pss_cons (ps_if (pt_cmpR op_eq (pe_ix ix_list (pv 0) pe_int (fun _ _ => rfl)) pe_int (nomark _)) (pss_one (ps_expr (pe_bm PySem.F.plainAttrs_list PySem.F.slot_list_pop PySem.F.type_list_pop mt_popAt (pv 0) (pa_cons pe_int pa_nil)))) pss_nil) (pss_one (ps_ret (pv 2)))))) pss_nil) (pss_cons (ps_asg (pe_op op_modN (pe_op op_add (pe_op op_mul (pe_ix ix_list (pv 0) pe_int (fun _ _ => rfl)) pe_int) pe_int) pe_int) (pg_sub (pv 0) pe_int set_list)) (pss_one (ps_ret (pe_op op_modN (pe_op op_fdivB (pe_ix ix_list (pv 0) pe_int (fun _ _ => rfl)) pe_int) (pv 1)))))), ?_⟩
    rcases hD with hD | ⟨d, hD⟩
    · have lc : LenV K (.ref a) H 1 := .inl ⟨_, SqL.of hD, rfl⟩
      refine ⟨_, rfl, _, _, rfl, lc, rfl, _, rfl, ?_⟩
      refine iteI (fun h => absurd h (by decide)) (fun _ => ?_)
      refine ⟨_, rfl, _, _, _, _, rfl, rfl, SqL.of hD, rfl, _, _, rfl, rfl, .inr ⟨by decide, by decide⟩, _, _, rfl, rfl, _, _, rfl, rfl, (show (2305843009213693951 : Int) ≠ 0 by decide), ?_⟩
      refine ⟨_, rfl, _, _, _, _, rfl, rfl, hD, rfl, ?_⟩
      refine ⟨_, rfl, _, _, _, _, rfl, rfl, SqL.of upd_same, rfl, _, _, rfl, rfl, ⟨by decide, by decide⟩, _, rfl, _, _, rfl, rfl, (show m ≠ 0 by omega), ?_⟩
      exact k _ _ SameX.upd ⟨_, .inl upd_same⟩ (Int.fmod_nonneg_of_pos _ m0) (Int.fmod_lt_of_pos _ m0)
    · have lc : LenV K (.ref a) H 2 := .inl ⟨_, SqL.of hD, rfl⟩
      refine ⟨_, rfl, _, _, rfl, lc, rfl, _, rfl, ?_⟩
      refine iteI (fun _ => ?_) (fun h => absurd rfl h)
      refine ⟨_, rfl, _, _, _, _, rfl, rfl, SqL.of hD, rfl, _, rfl, _, _, rfl, rfl, (show m ≠ 0 by omega), ?_⟩
      refine ⟨_, rfl, _, _, _, _, rfl, rfl, SqL.of hD, rfl, _, rfl, _, _, rfl, rfl, small_div m0 m1 _, ?_⟩
      refine ⟨_, rfl, _, _, _, _, rfl, rfl, hD, rfl, ?_⟩
      refine ⟨_, rfl, _, _, _, _, rfl, rfl, SqL.of upd_same, rfl, rfl, _, rfl, ?_⟩
      refine iteI (fun _ => ?_) (fun _ => ?_)
      · refine ⟨_, rfl, .inl ⟨rfl, _, SqL.of upd_same⟩, _, _, _, _, _, rfl, rfl, upd_same, (by decide), (by decide), rfl, rfl, ?_⟩
        refine ⟨_, rfl, ?_⟩
        exact k _ _ (SameX.upd.trans SameX.upd) ⟨x, .inl upd_same⟩ (Int.fmod_nonneg_of_pos _ m0) (Int.fmod_lt_of_pos _ m0)
      · refine ⟨_, rfl, ?_⟩
        exact k _ _ SameX.upd ⟨x, .inr ⟨_, upd_same⟩⟩ (Int.fmod_nonneg_of_pos _ m0) (Int.fmod_lt_of_pos _ m0)
theorem ok_law_state (T : Txt K mg t) : FnOk Pr w K mg base CX0 1 t.law_state t.d_law_state ["_law_script"] (sp_state K) := by
  refine T.F_law_state.ok sc_law_state (fun vs H Q E h => ?_) (fun cdv A outer s H vs Q E hr h => ?_)
  · obtain ⟨a, ns, rfl, _⟩ := h
    rfl
  · obtain ⟨a, ns, rfl, hS, hlen, k⟩ := h
    refine ⟨_, (pss_cons (ps_set (i := 1) sc_law_state.nd rfl (Or.inl rfl) pe_int) (pss_cons (ps_for PassesOwn.never rfl (pi_list (pe_slice sl_list (pv 0) po_none (po_some pe_int))) (pg_name (i := 2) sc_law_state.nd rfl (Or.inl rfl)) (pss_one (ps_set (i := 1) sc_law_state.nd rfl (Or.inl rfl) (pe_op op_modN (pe_op op_add (pe_op op_add (pe_op op_mul (pv 1) pe_int) (pe_op op_modN (pv 2) (pe_op op_pow pe_int pe_int))) pe_int) pe_int)))) (pss_cons (ps_if (PW.pt (pw_and (pt_cmpR op_gt (pe_callB call_len (by rfl) T.z_len PySem.boot_len (pa_cons (pv 0) pa_nil)) pe_int (nomark _)) (pw_and (pt_cmpR op_gt (pe_ix ix_list (pv 0) pe_int (fun _ _ => rfl)) pe_int (nomark _)) (pw_and1 (pt_cmpR op_eq (pe_op op_modN (pe_ix ix_list (pv 0) pe_int (fun _ _ => rfl)) pe_int) pe_int (nomark _)))))) (pss_one (ps_ret (pe_lst (pa_cons (pe_op op_fdivB (pe_ix ix_list (pv 0) pe_int (fun _ _ => rfl)) pe_int) (pa_cons (pv 1) pa_nil))))) pss_nil) (pss_one (ps_ret (pe_lst (pa_cons (pv 1) pa_nil))))))), ?_⟩
    refine ⟨_, rfl, _, rfl, _, _, rfl, hS, fun c1 hc1 => ?_⟩
    have ec : cutV (ns.map V.int) none (some 200) = (ns.take 200).map V.int := by
      rw [show (200 : Int) = ((200 : Nat) : Int) from rfl, cut_take, List.map_take]
    have s1 := same_upd (o := .lst (cutV (ns.map V.int) none (some 200))) hc1
    have k1 := upd_same (H := H) (a := c1) (o := .lst (cutV (ns.map V.int) none (some 200)))
    have hS1 := s1.seq hS
    clear hc1
    revert s1 k1 hS1
    generalize upd H c1 (.lst (cutV (ns.map V.int) none (some 200))) = H1
    intro s1 k1 hS1
    rw [ec] at k1
    refine ⟨c1, rfl, ⟨_, SqL.of k1⟩, for_list (K := K) (a := c1) (xs := (ns.take 200).map V.int) (fun i σ H' => ∃ (x : Int) (v : Option V), σ = [some (.ref a), some (.int x), v] ∧ H' = H1) ⟨_, _, rfl, rfl⟩ (fun i σ H' _ ⟨_, _, _, e⟩ => e ▸ SqL.of k1) ?_ ?_⟩
    · rintro i y σ H' hi ⟨x, v, rfl, rfl⟩
      obtain ⟨z, rfl⟩ : ∃ z, y = V.int z := by
        rw [List.getElem?_map] at hi
        cases e : (ns.take 200)[i]? with
        | none => rw [e] at hi; cases hi
        | some z => rw [e] at hi; exact ⟨z, (Option.some.inj hi).symm⟩
      refine ⟨_, rfl, _, _, rfl, rfl, .inr ⟨by decide, by decide⟩, _, rfl, _, _, rfl, rfl, ⟨by decide, by decide, by decide⟩, _, _, rfl, rfl, (show ((10 : Int) ^ (30 : Int).toNat) ≠ 0 by decide), _, _, rfl, rfl, _, _, rfl, rfl, _, _, rfl, rfl, (show (2305843009213693951 : Int) ≠ 0 by decide), ?_⟩
      exact ⟨_, _, rfl, rfl⟩
    · rintro σ H' ⟨x, v, rfl, rfl⟩
      have lc : LenV K (.ref a) H' (ns.map V.int).length := .inl ⟨_, hS1, rfl⟩
      rw [List.length_map] at lc
      have last : tSeq tNext (tRet (tLst (tCons (tVar 1) tNil))) { nx := fun _ H'' => Q .non H'', rt := Q } [some (.ref a), some (.int x), v] H' := by
        refine ⟨_, rfl, (by show 1 ≤ sizeLine; decide), fun b hb => ?_⟩
        exact k b _ (s1.free hb) (s1.trans (same_upd hb)) ⟨x, .inl upd_same⟩
      refine ⟨_, rfl, _, _, rfl, lc, _, _, rfl, rfl, _, rfl, ?_⟩
      refine iteP (fun h0 => ?_) (fun _ => ?_)
      · obtain ⟨n0, g0⟩ : ∃ n, ns[0]? = some n := ⟨ns[0]'(by omega), by simp⟩
        have a0 : atI (ns.map V.int) 0 = some (V.int n0) := atI_nat (j := 0) (by rw [List.getElem?_map, g0]; rfl)
        refine ⟨_, rfl, _, _, _, _, rfl, rfl, hS1, a0, _, _, rfl, rfl, _, rfl, ?_⟩
        refine iteP (fun _ => ?_) (fun _ => ?_)
        · refine ⟨_, rfl, _, _, _, _, rfl, rfl, hS1, a0, _, _, rfl, rfl, (show (2 : Int) ≠ 0 by decide), rfl, _, rfl, ?_⟩
          refine iteI (fun _ => ?_) (fun _ => ?_)
          · refine ⟨_, rfl, _, _, _, _, rfl, rfl, hS1, a0, _, _, rfl, rfl, ⟨by decide, by decide⟩, _, rfl, (by show 2 ≤ sizeLine; decide), fun b hb => ?_⟩
            exact k b _ (s1.free hb) (s1.trans (same_upd hb)) ⟨x, .inr ⟨_, upd_same⟩⟩
          · exact last
        · exact last
      · exact last
theorem Dr.same {H H' : Hp} {a : Addr} (e : Same H H') (h : Dr H a) : Dr H' a := by
  obtain ⟨x, h | ⟨d, h⟩⟩ := h
  · exact ⟨x, .inl (e _ _ h)⟩
  · exact ⟨x, .inr ⟨d, e _ _ h⟩⟩
theorem Dr.lst {H : Hp} {a : Addr} (h : Dr H a) : ∃ xs, H a = some (.lst xs) := by
  obtain ⟨x, h | ⟨d, h⟩⟩ := h
  · exact ⟨_, h⟩
  · exact ⟨_, h⟩
theorem SameX.tt {a : Addr} {H H' : Hp} (s : SameX a H H') (d : Dr H a) : SameT H H' := fun p vs h => s p _ (by
  rintro rfl
  obtain ⟨xs, e⟩ := d.lst
  rw [h] at e; cases e) h
theorem SameX.tup {a p : Addr} {H : Hp} {o : HO} (n : H p = none) (d : Dr H a) : SameX a H (L2.upd H p o) ∧ Dr (L2.upd H p o) a := ⟨.of (same_upd n), d.same (same_upd n)⟩
/-- a text by its signs -/
def tx (l : List Nat) : Str := ⟨l.toArray⟩
def vT (l : List Nat) : V := .str (tx l)
theorem tx_app (a b : List Nat) : tx a ++ tx b = tx (a ++ b) := by
  show (⟨a.toArray ++ b.toArray⟩ : Str) = ⟨(a ++ b).toArray⟩
  simp
theorem tx_len (a : List Nat) : (tx a).length = a.length := by
  show a.toArray.size = a.length
  simp
theorem three {l : List Nat} (h1 : 1 ≤ l.length) (h3 : l.length ≤ 3) : (∃ a, l = [a]) ∨ (∃ a b, l = [a, b]) ∨ ∃ a b c, l = [a, b, c] := by
  match l, h1, h3 with
  | [a], _, _ => exact .inl ⟨a, rfl⟩
  | [a, b], _, _ => exact .inr (.inl ⟨a, b, rfl⟩)
  | [a, b, c], _, _ => exact .inr (.inr ⟨a, b, c, rfl⟩)
theorem occ1 (a x : Nat) (h : x = a) : Builtin.Str.occurrences (tx [a]) (tx [x]) 0 (tx [a]).length 1 = [0] := by
  subst h
  simp [Builtin.Str.occurrences, Builtin.Str.subAt, tx, Str.length, List.range']
theorem occ2 (a b x : Nat) (n : a ≠ b) (h : x = a ∨ x = b) : Builtin.Str.occurrences (tx [a, b]) (tx [x]) 0 (tx [a, b]).length 1 = [List.idxOf x [a, b]] := by
  rcases h with rfl | rfl
  · simp [Builtin.Str.occurrences, Builtin.Str.subAt, tx, Str.length, List.range', List.idxOf_cons]
  · simp [Builtin.Str.occurrences, Builtin.Str.subAt, tx, Str.length, List.range', List.idxOf_cons, n, beq_false_of_ne n]
theorem occ3 (a b c x : Nat) (n : (a ≠ b ∧ a ≠ c) ∧ b ≠ c) (h : x = a ∨ x = b ∨ x = c) : Builtin.Str.occurrences (tx [a, b, c]) (tx [x]) 0 (tx [a, b, c]).length 1 = [List.idxOf x [a, b, c]] := by
  rcases h with rfl | rfl | rfl
  · simp [Builtin.Str.occurrences, Builtin.Str.subAt, tx, Str.length, List.range', List.idxOf_cons]
  · simp [Builtin.Str.occurrences, Builtin.Str.subAt, tx, Str.length, List.range', List.idxOf_cons, n.1.1, beq_false_of_ne n.1.1]
  · simp [Builtin.Str.occurrences, Builtin.Str.subAt, tx, Str.length, List.range', List.idxOf_cons, n.1.2, n.2, beq_false_of_ne n.1.2, beq_false_of_ne n.2]
structure LOk (l : List Nat) : Prop where
  h1 : 1 ≤ l.length
  h3 : l.length ≤ 3
  nd : l.Nodup
  as : ∀ c ∈ l, c < 128
theorem occ_of {l : List Nat} (h : LOk l) {x : Nat} (hx : x ∈ l) : Builtin.Str.occurrences (tx l) (tx [x]) 0 (tx l).length 1 = [l.idxOf x] := by
  have nd := h.nd
  rcases three h.h1 h.h3 with ⟨a, rfl⟩ | ⟨a, b, rfl⟩ | ⟨a, b, c, rfl⟩
  · have : x = a := by simpa using hx
    rw [occ1 a x this, this]; simp
  · exact occ2 a b x (by simpa using nd) (by simpa using hx)
  · exact occ3 a b c x (by simpa [not_or] using nd) (by simpa using hx)
/-! letters drawn -/
structure Pool (p l : List Nat) (i : Nat) : Prop where
  nd : (p ++ l).Nodup
  pl : p.length = 26 - i
  ll : l.length = i
  az : ∀ c ∈ p ++ l, 97 ≤ c ∧ c ≤ 122
def azs : List Nat := [97, 98, 99, 100, 101, 102, 103, 104, 105, 106, 107, 108, 109, 110, 111, 112, 113, 114, 115, 116, 117, 118, 119, 120, 121, 122]
theorem az_is : (Str.ofString "abcdefghijklmnopqrstuvwxyz") = tx azs := by decide +kernel
theorem em_is : (Str.ofString "") = tx [] := by decide +kernel
theorem Pool.start : Pool azs [] 0 := ⟨by decide, by decide, rfl, by decide⟩
theorem Pool.turn {p l : List Nat} {i j : Nat} {c : Nat} (h : Pool p l i) (hi : i ≤ 20) (hc : p[j]? = some c) : Pool (p.take j ++ p.drop (j + 1)) (l ++ [c]) (i + 1) := by
  have hj : j < p.length := (List.getElem?_eq_some_iff.mp hc).1
  have e : p = p.take j ++ c :: p.drop (j + 1) := by
    have : p[j] = c := (List.getElem?_eq_some_iff.mp hc).2
    rw [← this, List.getElem_cons_drop_succ_eq_drop hj, List.take_append_drop]
  have pm : ((p.take j ++ p.drop (j + 1)) ++ (l ++ [c])).Perm (p ++ l) := by
    conv => rhs; rw [e]
    have h1 : ((p.take j ++ p.drop (j + 1)) ++ (l ++ [c])).Perm ((l ++ [c]) ++ (p.take j ++ p.drop (j + 1))) := List.perm_append_comm
    have h2 : (p.take j ++ c :: p.drop (j + 1)).Perm (c :: (p.take j ++ p.drop (j + 1))) := List.perm_middle
    have h3 : (p.take j ++ c :: p.drop (j + 1) ++ l).Perm (c :: (p.take j ++ p.drop (j + 1)) ++ l) := h2.append_right l
    have h4 : (c :: (p.take j ++ p.drop (j + 1)) ++ l).Perm (l ++ c :: (p.take j ++ p.drop (j + 1))) := List.perm_append_comm
    have h5 : (l ++ [c]) ++ (p.take j ++ p.drop (j + 1)) = l ++ c :: (p.take j ++ p.drop (j + 1)) := by simp
    rw [h5] at h1
    exact h1.trans (h4.symm.trans h3.symm)
  refine ⟨pm.nodup_iff.mpr h.nd, ?_, ?_, fun x hx => h.az x (pm.mem_iff.mp hx)⟩
  · rw [List.length_append, List.length_take, List.length_drop]
    have := h.pl
    omega
  · rw [List.length_append, h.ll]; rfl
theorem sl_to {p : List Nat} {q : Int} (h0 : 0 ≤ q) (h1 : q ≤ p.length) : Txt.slice (tx p) none (some q) = tx (p.take q.toNat) := by
  have e := PyProof.Rows.slice_closes_toL (x := tx p) (j := q) h0 (by rw [tx_len]; exact h1)
  rw [beq_iff_eq] at e
  rw [e]
  show (⟨_⟩ : Str) = ⟨_⟩
  simp [tx]
theorem sl_from {p : List Nat} {q : Int} (h0 : 0 ≤ q) (h1 : q ≤ p.length) : Txt.slice (tx p) (some q) none = tx (p.drop q.toNat) := by
  rw [PyProof.Rows.slice_from_eq (x := tx p) (b := p.length) h0 (by rw [tx_len]; exact h1) (by rw [tx_len])]
  show (⟨_⟩ : Str) = ⟨_⟩
  have e : ((p.drop q.toNat).take ((p.length : Int) - q).toNat) = p.drop q.toNat := List.take_of_length_le (by rw [List.length_drop]; omega)
  simp only [tx, List.toList_toArray, e]
def sp_letters : Sp := fun vs H Q _ => ∃ (a : Addr), vs = [.ref a] ∧ Dr H a ∧ ∀ (p l : List Nat) (i : Nat) H', SameX a H H' → Dr H' a → Pool p l i → 1 ≤ i → i ≤ 3 → Q (vT l) H'
theorem strike {p : List Nat} {j c : Nat} (hd : p.Nodup) (hc : p[j]? = some c) : p.filter (· != c) = p.take j ++ p.drop (j + 1) := by
  induction p generalizing j with
  | nil => cases hc
  | cons a p ih =>
    rw [List.nodup_cons] at hd
    cases j with
    | zero =>
      have e : a = c := by simpa using hc
      subst e
      rw [List.filter_cons_of_neg (p := fun x => x != a) (by simp), PyProof.Rows.filter_free a p hd.1]
      rfl
    | succ j =>
      have hc' : p[j]? = some c := by simpa using hc
      have ne : (a != c) = true := by
        simp only [bne_iff_ne]
        intro e
        subst e
        exact hd.1 (List.mem_of_getElem? hc')
      rw [List.filter_cons_of_pos (p := fun x => x != c) ne, ih hd.2 hc']
      rfl
theorem Pool.nodup {p l : List Nat} {i : Nat} (G : Pool p l i) : p.Nodup := (List.nodup_append.mp G.nd).1
theorem ok_law_letters (T : Txt K mg t) : FnOk Pr w K mg base CX0 2 t.law_letters t.d_law_letters ["_law_state_here"] sp_letters := by
  refine T.F_law_letters.ok sc_law_letters (fun vs H Q E h => ?_) (fun cdv A outer s H vs Q E hr h => ?_)
  · obtain ⟨a, rfl, _⟩ := h
    rfl
  · obtain ⟨a, rfl, hD, k⟩ := h
    have szl : (1000 : Nat) < sizeLine := by decide
    refine ⟨_, (pss_fl (i := 1) sc_law_letters.nd rfl rfl pe_str (pssn_cons (PS.fl (ps_set (i := 2) sc_law_letters.nd rfl (Or.inl rfl) pe_str)) (pssn_cons (ps_forn PassesOwn.never rfl (pi_range1 rfl T.z_range (pa_cons (pe_op op_add pe_int (pe_call (ok_law_next T) (hr.mono (by decide)) rfl T.m_law_next T.F_law_next.kp T.b_law_next .nil pass0 (pa_cons (pv 0) (pa_cons pe_int pa_nil)))) pa_nil)) (pg_name (i := 3) sc_law_letters.nd rfl (Or.inl rfl)) (pssn_letter (il := 4) (ia := 1) (iw := 2) sc_law_letters.nd rfl rfl rfl rfl rfl rfl (by decide) (by decide) (by decide) (pe_call (ok_law_next T) (hr.mono (by decide)) rfl T.m_law_next T.F_law_next.kp T.b_law_next .nil pass0 (pa_cons (pv 0) (pa_cons (pe_callB call_len (by rfl) T.z_len PySem.boot_len (pa_cons (pv 1) pa_nil)) pa_nil))) (fun _ _ => rfl))) (PSs.fl (pss_one (ps_ret (pv 2))))))), ?_⟩
    refine ⟨_, rfl, _, _, rfl, ⟨hD, by decide, by decide⟩, fun r H1 s1 D1 r0 r3 => ?_⟩
    refine ⟨_, _, rfl, rfl, _, rfl, (by omega), (by omega), for_range (lo := 0) (n := (1 + r).toNat)
      (fun i σ H' => ∃ p l v3 v4, σ = [some (.ref a), some (vT p), some (vT l), v3, v4] ∧ SameX a H H' ∧ Dr H' a ∧ Pool p l i)
      ⟨azs, [], _, _, (by rw [vT, vT, ← az_is, ← em_is]; rfl), s1, D1, Pool.start⟩ ?_ ?_⟩
    · rintro i σ H' hi ⟨p, l, v3, v4, rfl, q, D, G⟩
      have hp := G.pl
      have hll := G.ll
      have lp : LenV K (vT p) H' (tx p).length := ⟨by rw [tx_len]; omega, rfl⟩
      rw [tx_len] at lp
      refine ⟨tx p, tx l, rfl, rfl, by rw [tx_len]; omega, by rw [tx_len]; omega, ?_⟩
      refine ⟨_, rfl, _, rfl, _, _, rfl, lp, _, _, rfl, ⟨D, by omega, by omega⟩, fun z H2 s2 D2 z0 z1 => ?_⟩
      obtain ⟨c, hc⟩ : ∃ c, p[z.toNat]? = some c := ⟨p[z.toNat]'(by omega), by simp⟩
      have ac : atI (tx p).cps.toList z = some c := by
        have e : z = ((z.toNat : Nat) : Int) := by omega
        rw [e]
        exact atI_nat (by show p.toArray.toList[z.toNat]? = some c; simpa using hc)
      refine ⟨z, c, rfl, ac, ?_⟩
      have e1 : tx l ++ (⟨#[c]⟩ : Str) = tx (l ++ [c]) := tx_app l [c]
      have e3 : Txt.replace (tx p) ⟨#[c]⟩ (Str.ofString "") = tx (p.take z.toNat ++ p.drop (z.toNat + 1)) := by
        have := PyProof.Rows.replace_strikes (tx p) c
        rw [show (tx p).cps.toList = p by simp [tx], strike G.nodup hc] at this
        show (⟨_⟩ : Str) = ⟨_⟩
        rw [← this]
        rfl
      exact ⟨_, _, _, _, (by rw [e1, e3]; rfl), q.trans s2, D2, G.turn (by omega) hc⟩
    · rintro σ H' ⟨p, l, v3, v4, rfl, q, D, G⟩
      refine ⟨_, rfl, ?_⟩
      exact k p l _ H' q D G (by omega) (by omega)
theorem Pool.ok {p l : List Nat} {i : Nat} (G : Pool p l i) (h1 : 1 ≤ i) (h3 : i ≤ 3) : LOk l := by
  have e := G.ll
  refine ⟨by omega, by omega, (List.nodup_append.mp G.nd).2.1, fun c hc => ?_⟩
  have := (G.az c (List.mem_append_right _ hc)).2
  omega
theorem LOk.asc {l : List Nat} (L : LOk l) : (tx l).cps.all (· < 128) = true := by
  show l.toArray.all (· < 128) = true
  simp only [List.all_toArray, List.all_eq_true, decide_eq_true_eq]
  exact fun c hc => L.as c hc
/-! rows and tables of truths, as lists -/
def BR (r : List Bool) (v : V) (H : Hp) : Prop := ∃ p, v = .ref p ∧ H p = some (.tup (r.map V.bl))
theorem BR.same {r : List Bool} {v : V} {H H' : Hp} (s : SameT H H') (h : BR r v H) : BR r v H' := by
  obtain ⟨p, rfl, h⟩ := h
  exact ⟨p, rfl, s _ _ h⟩
/-- a tuple of things that the list tells, one by one -/
def LT {α : Type} (Pd : α → V → Hp → Prop) (m : List α) (v : V) (H : Hp) : Prop := ∃ p vs, v = .ref p ∧ H p = some (.tup vs) ∧ Ents (fun i u H => ∃ r, m[i]? = some r ∧ Pd r u H) vs m.length H
def BT (m : List (List Bool)) (v : V) (H : Hp) : Prop := LT BR m v H
theorem LT.same {α : Type} {Pd : α → V → Hp → Prop} {m : List α} {v : V} {H H' : Hp} (hp : ∀ r u, Pd r u H → Pd r u H') (s : SameT H H') (h : LT Pd m v H) : LT Pd m v H' := by
  obtain ⟨p, vs, rfl, h, e⟩ := h
  exact ⟨p, vs, rfl, s _ _ h, e.mono fun j u _ ⟨r, e1, e2⟩ => ⟨r, e1, hp r u e2⟩⟩
theorem BT.same {m : List (List Bool)} {v : V} {H H' : Hp} (s : SameT H H') (h : BT m v H) : BT m v H' := LT.same (fun _ _ => BR.same s) s h
theorem ents_snoc {α : Type} {Pd : α → V → Hp → Prop} {m : List α} {ys : List V} {H H' : Hp} {r : α} {u : V} (e : Ents (fun i u H => ∃ r, m[i]? = some r ∧ Pd r u H) ys m.length H) (hp : ∀ r u, Pd r u H → Pd r u H') (h : Pd r u H') :
    Ents (fun i u H => ∃ q, (m ++ [r])[i]? = some q ∧ Pd q u H) (ys ++ [u]) (m ++ [r]).length H' := by
  rw [List.length_append, List.length_singleton]
  refine (e.mono fun j v hj ⟨q, e1, e2⟩ => ⟨q, by rw [List.getElem?_append_left hj]; exact e1, hp q v e2⟩).snoc ⟨r, by simp, h⟩
/-- a machine of truths: letters, start, tables, ends -/
structure BMok (l : List Nat) (n : Nat) (st : List Bool) (ts : List (List (List Bool))) (en : List Bool) : Prop where
  lk : LOk l
  n20 : n ≤ 20
  sl : st.length = n
  tl : ts.length = l.length
  tb : ∀ m ∈ ts, m.length = n ∧ ∀ r ∈ m, r.length = n
  el : en.length = n
def BM (l : List Nat) (st : List Bool) (ts : List (List (List Bool))) (en : List Bool) (v : V) (H : Hp) : Prop := ∃ p s tv e, v = .ref p ∧ H p = some (.tup [vT l, s, tv, e]) ∧ BR st s H ∧ LT BT ts tv H ∧ BR en e H
theorem BM.same {l : List Nat} {st : List Bool} {ts : List (List (List Bool))} {en : List Bool} {v : V} {H H' : Hp} (s : SameT H H') (h : BM l st ts en v H) : BM l st ts en v H' := by
  obtain ⟨p, a, b, c, rfl, h, h1, h2, h3⟩ := h
  exact ⟨p, a, b, c, rfl, s _ _ h, h1.same s, h2.same (fun _ _ => BT.same s) s, h3.same s⟩
def sp_lrooms : Sp := fun vs H Q _ => ∃ (a : Addr) (f m : Int), vs = [.ref a, .int f, .int m] ∧ (Dr H a ∧ 0 < f ∧ f ≤ 20 ∧ 0 < m ∧ m ≤ 20) ∧ ∀ (r : Int) H', SameX a H H' → Dr H' a → 0 ≤ r → r < 20 → Q (.int r) H'
theorem ok_law_rooms (T : Txt K mg t) : FnOk Pr w K mg base CX0 2 t.law_rooms t.d_law_rooms ["_law_state_here", "_law_few", "_law_most"] sp_lrooms := by
  refine T.F_law_rooms.ok sc_law_rooms (fun vs H Q E h => ?_) (fun cdv A outer s H vs Q E hr h => ?_)
  · obtain ⟨a, f, m, rfl, _⟩ := h
    rfl
  · obtain ⟨a, f, m, rfl, ⟨hD, f0, f1, m0, m1⟩, k⟩ := h
    refine ⟨_, (pss_cons (ps_if (pt_cmpR op_eq (pe_call (ok_law_next T) (hr.mono (by decide)) rfl T.m_law_next T.F_law_next.kp T.b_law_next .nil pass0 (pa_cons (pv 0) (pa_cons pe_int pa_nil))) pe_int (nomark _)) (pss_one (ps_ret (pe_call (ok_law_next T) (hr.mono (by decide)) rfl T.m_law_next T.F_law_next.kp T.b_law_next .nil pass0 (pa_cons (pv 0) (pa_cons (pv 2) pa_nil))))) pss_nil) (pss_one (ps_ret (pe_call (ok_law_next T) (hr.mono (by decide)) rfl T.m_law_next T.F_law_next.kp T.b_law_next .nil pass0 (pa_cons (pv 0) (pa_cons (pv 1) pa_nil)))))), ?_⟩
    refine ⟨_, rfl, _, _, rfl, ⟨hD, by decide, by decide⟩, fun r H1 s1 D1 r0 r3 => ?_⟩
    refine ⟨rfl, _, rfl, ?_⟩
    refine iteI (fun _ => ?_) (fun _ => ?_)
    · refine ⟨_, rfl, _, rfl, _, _, rfl, ⟨D1, by omega, by omega⟩, fun r H2 s2 D2 r0 r3 => ?_⟩
      exact k r H2 (s1.trans s2) D2 r0 (by omega)
    · refine ⟨_, rfl, _, rfl, _, _, rfl, ⟨D1, by omega, by omega⟩, fun r H2 s2 D2 r0 r3 => ?_⟩
      exact k r H2 (s1.trans s2) D2 r0 (by omega)
def sp_truths : Sp := fun vs H Q _ => ∃ (a : Addr) (n : Nat) (z m : Int), vs = [.ref a, .int z, .int m] ∧ (Dr H a ∧ z = n ∧ n ≤ 20 ∧ 0 < m ∧ m ≤ 20) ∧ ∀ r v H', SameX a H H' → Dr H' a → r.length = n → BR r v H' → Q v H'
theorem ok_law_truths (T : Txt K mg t) : FnOk Pr w K mg base CX0 3 t.law_truths t.d_law_truths ["_law_state_here", "_law_many", "_law_thin"] sp_truths := by
  refine T.F_law_truths.ok sc_law_truths (fun vs H Q E h => ?_) (fun cdv A outer s H vs Q E hr h => ?_)
  · obtain ⟨a, n, z, m, rfl, _⟩ := h
    rfl
  · obtain ⟨a, n, z, m, rfl, ⟨hD, rfl, hn, m0, m1⟩, k⟩ := h
    refine ⟨_, (pss_one (ps_ret (pe_callTy call_tuple_of (by rfl) T.z_tuple boot_tuple (pa_cons (pe_comp (xs := ["_law_k"]) rfl (show CompOk ["_law_state_here", "_law_many", "_law_thin"] (defScope s_law_truths) _ from ⟨rfl, by decide +kernel, by decide +kernel, by decide +kernel, by decide +kernel, by decide +kernel⟩) (pi_range1 rfl T.z_range (pa_cons (pv 1) pa_nil)) (fun _ _ _ _ _ => (pg_name (i := 3) (by show List.Nodup (["_law_state_here", "_law_many", "_law_thin", "_law_k"] : List Str); decide +kernel) rfl (Or.inl rfl))) (fun _ _ _ _ _ => (pe_cmpR op_eq (pe_call (ok_law_next (w := w) (base := base) T) (hr.mono (by decide)) rfl T.m_law_next T.F_law_next.kp T.b_law_next .nil pass0 (pa_cons (pv 0) (pa_cons (pv 2) pa_nil))) pe_int (nomark _)))) pa_nil)))), ?_⟩
    refine ⟨_, rfl, _, rfl, (by omega), (by omega), comp_go (n := n) (fun j ys H2 => ∃ bs : List Bool, SameX a H H2 ∧ Dr H2 a ∧ ys = bs.map V.bl ∧ bs.length = j) (by omega) ⟨[], SameX.refl _ _, hD, rfl, rfl⟩ (fun j ys H2 ⟨bs, _, _, q, e⟩ => by rw [q, List.length_map, e]) ?_ ?_ ?_⟩
    · rintro j ys H2 hj ⟨bs, q, d2, rfl, e⟩
      refine ⟨(show j < (n : Int).toNat by omega), fun y H' hy => ?_⟩
      obtain ⟨rfl, rfl⟩ := hy
      refine ⟨⟨[some _], rfl, rfl⟩, _, rfl, _, rfl, _, _, rfl, ⟨d2, by omega, by omega⟩, fun r H3 s3 d3 r0 r1 => ?_⟩
      refine ⟨rfl, bs ++ [decide (V.int r = V.int 0)], q.trans s3, d3, ?_, by simp [e]⟩
      simp
    · rintro ys H2 ⟨bs, q, d2, rfl, e⟩
      show (n : Int).toNat ≤ n
      omega
    · rintro ys H2 l ⟨bs, q, d2, rfl, e⟩ nl
      have s1 := same_upd (o := .lst (bs.map V.bl)) nl
      refine ⟨l, _, rfl, .inl ⟨SqL.of upd_same, fun l2 n2 => ?_⟩⟩
      have s2 := same_upd (o := .tup (bs.map V.bl)) n2
      have s12 := s1.trans s2
      exact k _ _ _ (q.trans (.of s12)) (d2.same s12) e ⟨l2, rfl, upd_same⟩
def sp_bmachine : Sp := fun vs H Q _ => ∃ (a : Addr) (l : List Nat) (n : Nat) (z m : Int), vs = [.ref a, vT l, .int z, .int m] ∧ (Dr H a ∧ LOk l ∧ z = n ∧ n ≤ 20 ∧ 0 < m ∧ m ≤ 20) ∧ ∀ st ts en v H', SameX a H H' → Dr H' a → BMok l n st ts en → BM l st ts en v H' → Q v H'
theorem ok_law_machine (T : Txt K mg t) : FnOk Pr w K mg base CX0 4 t.law_machine t.d_law_machine ["_law_state_here", "_law_letters_here", "_law_many", "_law_thin"] sp_bmachine := by
  refine T.F_law_machine.ok sc_law_machine (fun vs H Q E h => ?_) (fun cdv A outer s H vs Q E hr h => ?_)
  · obtain ⟨a, l, n, z, m, rfl, _⟩ := h
    rfl
  · obtain ⟨a, l, n, z, m, rfl, ⟨hD, L, rfl, hn, m0, m1⟩, k⟩ := h
    have l3 := L.h3
    have z20 : 20 < sizeLine := by decide
    refine ⟨_, (pss_cons (ps_set (i := 4) sc_law_machine.nd rfl (Or.inl rfl) (pe_call (ok_law_truths T) (hr.mono (by decide)) rfl T.m_law_truths T.F_law_truths.kp T.b_law_truths .nil pass0 (pa_cons (pv 0) (pa_cons (pv 2) (pa_cons pe_int pa_nil))))) (pss_cons (ps_set (i := 5) sc_law_machine.nd rfl (Or.inl rfl) (pe_lst pa_nil)) (pss_cons (ps_for PassesOwn.never rfl (pi_str (pv 1)) (pg_name (i := 6) sc_law_machine.nd rfl (Or.inl rfl)) (pss_one (ps_expr (pe_bm PySem.F.plainAttrs_list PySem.F.slot_list_append PySem.F.type_list_append mt_append (pv 5) (pa_cons (pe_callTy call_tuple_of (by rfl) T.z_tuple boot_tuple (pa_cons (pe_comp (xs := ["_law_k"]) rfl (show CompOk ["_law_state_here", "_law_letters_here", "_law_many", "_law_thin", "_law_start", "_law_tables", "_law_letter"] (defScope s_law_machine) _ from ⟨rfl, by decide +kernel, by decide +kernel, by decide +kernel, by decide +kernel, by decide +kernel⟩) (pi_range1 rfl T.z_range (pa_cons (pv 2) pa_nil)) (fun _ _ _ _ _ => (pg_name (i := 7) (by show List.Nodup (["_law_state_here", "_law_letters_here", "_law_many", "_law_thin", "_law_start", "_law_tables", "_law_letter", "_law_k"] : List Str); decide +kernel) rfl (Or.inl rfl))) (fun _ _ _ _ _ => (pe_call (ok_law_truths (w := w) (base := base) T) (hr.mono (by decide)) rfl T.m_law_truths T.F_law_truths.kp T.b_law_truths .nil pass0 (pa_cons (pv 0) (pa_cons (pv 2) (pa_cons (pv 3) pa_nil)))))) pa_nil)) pa_nil))))) (pss_one (ps_ret (pe_tup (pa_cons (pv 1) (pa_cons (pv 4) (pa_cons (pe_callTy call_tuple_of (by rfl) T.z_tuple boot_tuple (pa_cons (pv 5) pa_nil)) (pa_cons (pe_call (ok_law_truths T) (hr.mono (by decide)) rfl T.m_law_truths T.F_law_truths.kp T.b_law_truths .nil pass0 (pa_cons (pv 0) (pa_cons (pv 2) (pa_cons pe_int pa_nil)))) pa_nil)))))))))), ?_⟩
    refine ⟨_, rfl, _, rfl, a, n, _, _, rfl, ⟨hD, rfl, hn, by decide, by decide⟩, fun st sv H1 s1 d1 e1 r1 => ?_⟩
    refine ⟨Nat.zero_le _, fun tp ntp => ?_⟩
    have s2 := same_upd (o := .lst []) ntp
    have k2 := upd_same (H := H1) (a := tp) (o := .lst [])
    have d2 := d1.same s2
    have na : tp ≠ a := fun q => by
      subst q
      obtain ⟨xs, e⟩ := d1.lst
      rw [ntp] at e; cases e
    revert s2 k2 d2
    generalize upd H1 tp (.lst []) = H2
    intro s2 k2 d2
    refine ⟨_, rfl, _, rfl, L.asc, for_it (n := l.length) (fun i σ H3 => ∃ v6 ys ts, σ = [some (.ref a), some (vT l), some (.int n), some (.int m), some sv, some (.ref tp), v6] ∧ SameX a H1 H3 ∧ Dr H3 a ∧ H3 tp = some (.lst ys) ∧
      Ents (fun i u H => ∃ r, ts[i]? = some r ∧ BT r u H) ys ts.length H3 ∧ ts.length = i ∧ ∀ m ∈ ts, m.length = n ∧ ∀ r ∈ m, r.length = n) ⟨_, [], [], rfl, .of s2, d2, k2, Ents.nil, rfl, fun _ h => by cases h⟩ ?_ ?_⟩
    · rintro i σ H3 hi ⟨v6, ys, ts, rfl, s3, d3, k3, e3, t3, g3⟩
      refine ⟨(by show i < l.toArray.size; simpa using hi), fun y G3 hy => ?_⟩
      obtain ⟨rfl, c, hc, rfl⟩ := hy
      refine ⟨_, rfl, .inl ⟨rfl, _, SqL.of k3⟩, ?_⟩
      refine ⟨_, rfl, _, rfl, (by omega), (by omega), comp_go (n := n) (fun j zs H4 => ∃ b, SameX a G3 H4 ∧ Dr H4 a ∧ Ents (fun i u H => ∃ r, b[i]? = some r ∧ BR r u H) zs b.length H4 ∧ b.length = j ∧ ∀ r ∈ b, r.length = n) (by omega)
        ⟨[], SameX.refl _ _, d3, Ents.nil, rfl, fun _ h => by cases h⟩ (fun j zs H4 ⟨b, _, _, e, q, _⟩ => by rw [e.1, q]) ?_ ?_ ?_⟩
      · rintro j zs H4 hj ⟨b, s4, d4, e4, b4, g4⟩
        refine ⟨(show j < (n : Int).toNat by omega), fun y H' hy => ?_⟩
        obtain ⟨rfl, rfl⟩ := hy
        refine ⟨⟨[some _], rfl, rfl⟩, _, rfl, _, rfl, _, rfl, a, n, _, _, rfl, ⟨d4, rfl, hn, m0, m1⟩, fun r rv H5 s5 d5 e5 r5 => ?_⟩
        refine ⟨b ++ [r], s4.trans s5, d5, ents_snoc e4 (fun _ _ => BR.same (s5.tt d4)) r5, by simp [b4], fun x hx => ?_⟩
        rcases List.mem_append.mp hx with hx | hx
        · exact g4 x hx
        · rw [List.mem_singleton.mp hx]; exact e5
      · rintro zs H4 ⟨b, s4, d4, e4, b4, g4⟩
        show (n : Int).toNat ≤ n
        omega
      · rintro zs H4 lp ⟨b, s4, d4, e4, b4, g4⟩ nl
        have t1 := same_upd (o := .lst zs) nl
        refine ⟨lp, _, rfl, .inl ⟨SqL.of upd_same, fun l2 n2 => ?_⟩⟩
        have t2 := same_upd (o := .tup zs) n2
        have t12 := t1.trans t2
        have k4 := t12 _ _ (s4 tp _ na k3)
        have ht : BT b (.ref l2) (upd (upd H4 lp (.lst zs)) l2 (.tup zs)) := ⟨l2, zs, rfl, upd_same, e4.mono fun _ _ _ ⟨r, q1, q2⟩ => ⟨r, q1, q2.same t12.t⟩⟩
        have d4' := d4.same t12
        have s4' : SameX a G3 (upd (upd H4 lp (.lst zs)) l2 (.tup zs)) := s4.trans (.of t12)
        clear t1 t2 t12 nl n2
        revert k4 ht d4' s4'
        generalize upd (upd H4 lp (.lst zs)) l2 (.tup zs) = H5
        intro k4 ht d4' s4'
        refine ⟨tp, ys, _, rfl, rfl, k4, (by rw [e3.1, t3]; omega), ?_⟩
        have nx : ∀ o, SameT H5 (upd H5 tp (.lst o)) := fun o p vs hp => by
          by_cases q : p = tp
          · subst q; rw [hp] at k4; cases k4
          · rw [upd_ne q]; exact hp
        refine ⟨_, ys ++ [.ref l2], ts ++ [b], rfl, fun c' o nc hc' => ?_, ?_, upd_same, ents_snoc e3 (fun _ _ h => (h.same (s4'.tt d3)).same (nx _)) (ht.same (nx _)), by simp [t3], fun x hx => ?_⟩
        · rw [upd_ne (ne_of_none hc' ntp)]; exact s4' c' o nc (s3 c' o nc hc')
        · obtain ⟨x, q⟩ := d4'
          exact ⟨x, by rw [upd_ne (Ne.symm na)]; exact q⟩
        · rcases List.mem_append.mp hx with hx | hx
          · exact g3 x hx
          · rw [List.mem_singleton.mp hx]; exact ⟨b4, g4⟩
    · rintro σ H3 ⟨v6, ys, ts, rfl, s3, d3, k3, e3, t3, g3⟩
      refine ⟨(by show l.toArray.size ≤ _; simp), ?_⟩
      refine ⟨_, rfl, _, rfl, _, rfl, tp, ys, rfl, .inl ⟨SqL.of k3, fun l2 n2 => ?_⟩⟩
      have t1 := same_upd (o := .tup ys) n2
      have ht : LT BT ts (.ref l2) (upd H3 l2 (.tup ys)) := ⟨l2, ys, rfl, upd_same, e3.mono fun _ _ _ ⟨r, q1, q2⟩ => ⟨r, q1, q2.same t1.t⟩⟩
      have d4 := d3.same t1
      have s4 : SameX a H1 (upd H3 l2 (.tup ys)) := s3.trans (.of t1)
      clear t1 n2
      revert ht d4 s4
      generalize upd H3 l2 (.tup ys) = H4
      intro ht d4 s4
      refine ⟨_, rfl, _, rfl, a, n, _, _, rfl, ⟨d4, rfl, hn, by decide, by decide⟩, fun en ev H5 s5 d5 e5 r5 => ?_⟩
      refine ⟨(by show 4 ≤ sizeLine; decide), fun p6 n6 => ?_⟩
      have t6 := same_upd (o := .tup [vT l, sv, V.ref l2, ev]) n6
      have u5 := (s5.tt d4).trans t6.t
      exact k st ts en _ _ (((s1.trans s4).trans s5).trans (.of t6)) (d5.same t6) ⟨L, hn, e1, t3, g3, e5⟩ ⟨p6, _, _, _, rfl, upd_same, r1.same ((s4.tt d1).trans u5), ht.same (fun _ _ => BT.same u5) u5, r5.same t6.t⟩
/-- a comprehension with a test: so many turns -/
theorem comp_goI {J : It} {n k : Nat} {g : TG} {tc : TT} {te : TE} {σ : L2.St} {Q : VK} {H1 : Hp} (Pv : Nat → List V → Hp → Prop) (hn : n ≤ 10000) (h0 : Pv 0 [] H1) (hl : ∀ i ys H, Pv i ys H → ys.length ≤ i)
    (hgo : ∀ i ys H, i < n → Pv i ys H → J.go i H ∧ ∀ x H', J.yld i H x H' → g x (σ ++ List.replicate k none) H' fun σ2 H2 => (∃ zs, σ2 = σ ++ zs ∧ zs.length = k) ∧ tc σ2 H2 fun b H3 => if b = true then te σ2 H3 fun v H4 => Pv (i + 1) (ys ++ [v]) H4 else Pv (i + 1) ys H3)
    (hstop : ∀ ys H, Pv n ys H → J.stop n H) (hend : ∀ ys H p, Pv n ys H → H p = none → Q (.ref p) (upd H p (.lst ys))) :
    CTailI J k g tc te σ Q H1 := by
  have z : 10000 < sizeLine := by decide
  refine ⟨fun i m ys H => m = n - i ∧ i ≤ n ∧ Pv i ys H, ⟨n, rfl, Nat.zero_le _, h0⟩, ?_⟩
  rintro i m ys H ⟨rfl, hi, p⟩
  have yl := hl i ys H p
  by_cases hlt : i < n
  · obtain ⟨a, b⟩ := hgo i ys H hlt p
    refine .inr ⟨a, by omega, fun x H' y => ?_⟩
    have c := b x H' y
    have e1 : ∀ ys H3, (∃ m', m' < n - i ∧ m' = n - (i + 1) ∧ i + 1 ≤ n ∧ Pv (i + 1) ys H3) = Pv (i + 1) ys H3 := fun ys H3 => propext ⟨fun ⟨_, _, _, _, q⟩ => q, fun q => ⟨_, by omega, rfl, hlt, q⟩⟩
    simp only [e1]
    exact c
  · have e : i = n := by omega
    subst e
    exact .inl ⟨hstop ys H p, by omega, fun q nq => hend ys H q p nq⟩
--SETS
/-! sets of rooms, as lists that go up -/
def bit (r : List Bool) (j : Nat) : Bool := r.getD j false
def fstS (st : List Bool) : List Nat := (List.range st.length).filter (bit st)
def nxtS (m : List (List Bool)) (S : List Nat) : List Nat := (List.range m.length).filter fun j => S.any fun o => bit (m.getD o []) j
def vS (S : List Nat) : List V := S.map fun i : Nat => V.int (i : Int)
def ST (S : List Nat) (v : V) (H : Hp) : Prop := ∃ p, v = .ref p ∧ H p = some (.tup (vS S))
theorem ST.same {S : List Nat} {v : V} {H H' : Hp} (s : SameT H H') (h : ST S v H) : ST S v H' := by
  obtain ⟨p, rfl, h⟩ := h
  exact ⟨p, rfl, s _ _ h⟩
structure SOk (n : Nat) (S : List Nat) : Prop where
  lt : ∀ o ∈ S, o < n
  len : S.length ≤ n
theorem SOk.filter (n : Nat) (P : Nat → Bool) : SOk n ((List.range n).filter P) := ⟨fun o h => List.mem_range.mp (List.mem_filter.mp h).1, by
  have := List.length_filter_le P (List.range n)
  rw [List.length_range] at this
  exact this⟩
theorem filt_succ (P : Nat → Bool) (i : Nat) : vS ((List.range (i + 1)).filter P) = if P i = true then vS ((List.range i).filter P) ++ [.int (i : Int)] else vS ((List.range i).filter P) := by
  rw [List.range_succ, List.filter_append]
  by_cases h : P i = true
  · rw [if_pos h, List.filter_cons_of_pos h]
    simp [vS]
  · rw [if_neg h, List.filter_cons_of_neg h]
    simp
theorem filt_len (P : Nat → Bool) (i : Nat) : (vS ((List.range i).filter P)).length ≤ i := by
  rw [vS, List.length_map]
  exact (SOk.filter i P).len
theorem bit_at {r : List Bool} {j : Nat} (h : j < r.length) : atI (r.map V.bl) (j : Int) = some (.bl (bit r j)) := by
  refine atI_nat ?_
  rw [List.getElem?_map, List.getElem?_eq_getElem h]
  simp [bit, h]
def sp_nextset : Sp := fun vs H Q _ => ∃ tv wv m S n, vs = [tv, wv] ∧ (BT m tv H ∧ ST S wv H ∧ m.length = n ∧ n ≤ 20 ∧ (∀ r ∈ m, r.length = n) ∧ SOk n S) ∧ ∀ v H', Same H H' → ST (nxtS m S) v H' → Q v H'
theorem ok_next_set (T : Txt K mg t) : FnOk Pr w K mg base CX0 1 t.next_set t.d_next_set ["table", "within"] sp_nextset := by
  refine T.F_next_set.ok sc_next_set (fun vs H Q E h => ?_) (fun cdv A outer s H vs Q E hr h => ?_)
  · obtain ⟨tv, wv, m, S, n, rfl, _⟩ := h
    rfl
  · obtain ⟨tv, wv, m, S, n, rfl, ⟨⟨tp, tvs, rfl, htp, et⟩, ⟨wp, rfl, hwp⟩, rfl, hn, hm, hS⟩, k⟩ := h
    have lt : LenV K (.ref tp) H m.length := .inr ⟨_, SqT.of htp, et.1.symm⟩
    have sl := hS.len
    have z20 : 20 < sizeLine := by decide
    refine ⟨_, (pss_one (ps_ret (pe_callTy call_tuple_of (by rfl) T.z_tuple boot_tuple (pa_cons (pe_compif (xs := ["room"]) rfl (show CompOk ["table", "within"] (defScope s_next_set) _ from ⟨rfl, by decide +kernel, by decide +kernel, by decide +kernel, by decide +kernel, by decide +kernel⟩) (pi_range1 rfl T.z_range (pa_cons (pe_callB call_len (by rfl) T.z_len PySem.boot_len (pa_cons (pv 0) pa_nil)) pa_nil)) (fun _ _ _ _ _ => (pg_name (i := 2) (by show List.Nodup (["table", "within", "room"] : List Str); decide +kernel) rfl (Or.inr rfl))) (fun _ _ _ _ _ => (pt_val (pe_callB (show CallR _ (.builtin "any") (rAll K fun bs => bs.any id) from call_any rfl) (by rfl) T.z_any boot_any (pa_cons (pe_comp (xs := ["other"]) rfl (show CompOk ["table", "within", "room"] (rlS (defScope s_next_set) _) _ from ⟨rfl, by decide +kernel, by decide +kernel, by decide +kernel, by decide +kernel, by decide +kernel⟩) (show PI _ _ _ (iTup K _) from pi_tup (pv 1)) (fun _ _ _ _ _ => (pg_name (i := 3) (by show List.Nodup (["table", "within", "room", "other"] : List Str); decide +kernel) rfl (Or.inl rfl))) (fun _ _ _ _ _ => (pe_ix (show IxR _ (rIxT K) from ix_tup) (pe_ix (show IxR _ (rIxT K) from ix_tup) (pv 0) (pv 3) (fun _ _ => rfl)) (pv 2) (fun _ _ => rfl)))) pa_nil)))) (fun _ _ _ _ _ => (pv 2))) pa_nil)))), ?_⟩
    refine ⟨_, rfl, _, _, rfl, lt, _, rfl, (by omega), (by omega), comp_goI (n := m.length) (fun i ys H2 => Same H H2 ∧ ys = vS ((List.range i).filter fun j => S.any fun o => bit (m.getD o []) j)) (by omega) ⟨Same.refl _, rfl⟩ (fun i ys H2 q => by rw [q.2]; exact filt_len _ _) ?_ ?_ ?_⟩
    · rintro i ys H2 hi ⟨s2, rfl⟩
      refine ⟨(show i < (m.length : Int).toNat by omega), fun y G2 hy => ?_⟩
      obtain ⟨rfl, rfl⟩ := hy
      refine ⟨⟨[some _], rfl, rfl⟩, ?_⟩
      refine ⟨_, rfl, wp, rfl, ⟨_, SqT.of (s2 _ _ hwp)⟩, comp_go (n := S.length) (fun j zs H3 => (Same G2 H3 ∧ zs = ((S.take j).map fun o => bit (m.getD o []) i).map V.bl) ∧ zs.length = j) (by omega) ⟨⟨Same.refl _, rfl⟩, rfl⟩ (fun j zs H3 q => q.2) ?_ ?_ ?_⟩
      · rintro j zs H3 hj ⟨⟨s3, rfl⟩, lz⟩
        have hwp3 := s3 _ _ (s2 _ _ hwp)
        have eu : (vS S)[j]? = some (.int ((S[j] : Nat) : Int)) := by rw [vS, List.getElem?_map, List.getElem?_eq_getElem hj]; rfl
        refine ⟨⟨_, _, SqT.of hwp3, eu⟩, fun y G3 hy => ?_⟩
        obtain ⟨rfl, hy⟩ := hy
        have := hy _ (SqT.of hwp3)
        rw [eu] at this
        cases this
        have ho : S[j] < m.length := hS.lt _ (List.getElem_mem hj)
        obtain ⟨u, eu2, r, er, rp, rfl, hr2⟩ := et.2 S[j] ho
        have lr : r.length = m.length := hm r (List.mem_of_getElem? er)
        have gr : m.getD S[j] [] = r := by rw [List.getD_eq_getElem?_getD, er]; rfl
        refine ⟨⟨[some _], rfl, rfl⟩, _, rfl, _, rfl, _, _, _, _, rfl, rfl, SqT.of (s3 _ _ (s2 _ _ htp)), atI_nat eu2, _, rfl, _, _, _, _, rfl, rfl, SqT.of (s3 _ _ (s2 _ _ hr2)), (by rw [show (0 : Int) + (i : Int) = (i : Int) by omega]; exact bit_at (by omega)), ⟨s3, ?_⟩, by rw [List.length_append, lz]; rfl⟩
        rw [List.take_succ, List.getElem?_eq_getElem hj, List.map_append, List.map_append]
        simp [er]
      · rintro zs H3 ⟨⟨s3, rfl⟩, _⟩
        exact ⟨_, SqT.of (s3 _ _ (s2 _ _ hwp)), by rw [vS, List.length_map]; exact Nat.le_refl _⟩
      · rintro zs H3 lp ⟨⟨s3, rfl⟩, _⟩ nl
        have t3 := same_upd (o := .lst (((S.take S.length).map fun o => bit (m.getD o []) i).map V.bl)) nl
        refine ⟨lp, _, rfl, SqL.of upd_same, _, rfl, ?_⟩
        have ea : ((S.take S.length).map fun o => bit (m.getD o []) i).any id = (S.any fun o => bit (m.getD o []) i) := by
          rw [List.take_length, List.any_map]; rfl
        dsimp only
        rw [ea]
        have fs := filt_succ (fun j => S.any fun o => bit (m.getD o []) j) i
        have s4 := s2.trans (s3.trans t3)
        by_cases hb : (S.any fun o => bit (m.getD o []) i) = true
        · rw [if_pos hb]
          refine ⟨_, rfl, s4, ?_⟩
          rw [fs, if_pos hb, show (0 : Int) + (i : Int) = (i : Int) by omega]
        · rw [if_neg hb]
          exact ⟨s4, by rw [fs, if_neg hb]⟩
    · rintro ys H2 ⟨s2, rfl⟩
      show (m.length : Int).toNat ≤ m.length
      omega
    · rintro ys H2 lp ⟨s2, rfl⟩ nl
      have t1 := same_upd (o := .lst (vS ((List.range m.length).filter fun j => S.any fun o => bit (m.getD o []) j))) nl
      refine ⟨lp, _, rfl, .inl ⟨SqL.of upd_same, fun l2 n2 => ?_⟩⟩
      have t2 := same_upd (o := .tup (vS ((List.range m.length).filter fun j => S.any fun o => bit (m.getD o []) j))) n2
      exact k _ _ ((s2.trans t1).trans t2) ⟨l2, rfl, upd_same⟩
def sp_bfirst : Sp := fun vs H Q _ => ∃ mv l n st ts en, vs = [mv] ∧ (BM l st ts en mv H ∧ BMok l n st ts en) ∧ ∀ v H', Same H H' → ST (fstS st) v H' → Q v H'
theorem ok_first_set (T : Txt K mg t) : FnOk Pr w K mg base CX0 1 t.first_set t.d_first_set ["machine"] sp_bfirst := by
  refine T.F_first_set.ok sc_first_set (fun vs H Q E h => ?_) (fun cdv A outer s H vs Q E hr h => ?_)
  · obtain ⟨mv, l, n, st, ts, en, rfl, _⟩ := h
    rfl
  · obtain ⟨mv, l, n, st, ts, en, rfl, ⟨⟨p, sv, tv, ev, rfl, hp, ⟨sp, rfl, hs⟩, _, _⟩, O⟩, k⟩ := h
    have sl := O.sl
    have n20 := O.n20
    have z20 : 20 < sizeLine := by decide
    refine ⟨_, (pss_one (ps_ret (pe_callTy call_tuple_of (by rfl) T.z_tuple boot_tuple (pa_cons (pe_compif (xs := ["room", "x"]) rfl (show CompOk ["machine"] (defScope s_first_set) _ from ⟨rfl, by decide +kernel, by decide +kernel, by decide +kernel, by decide +kernel, by decide +kernel⟩) (pi_enum rfl T.z_enumerate (pa_cons (pe_ix ix_tup (pv 0) pe_int (fun _ _ => rfl)) pa_nil)) (fun _ _ _ _ _ => (show PG _ _ (gTup K 2 _) from (pg_tup rfl (pgs_cons (pg_name (i := 1) (by show List.Nodup (["machine", "room", "x"] : List Str); decide +kernel) rfl (Or.inl rfl)) (pgs_cons (pg_name (i := 2) (by show List.Nodup (["machine", "room", "x"] : List Str); decide +kernel) rfl (Or.inl rfl)) pgs_nil))))) (fun _ _ _ _ _ => (pt_val (pv 2))) (fun _ _ _ _ _ => (pv 1))) pa_nil)))), ?_⟩
    refine ⟨_, rfl, _, _, _, _, rfl, rfl, SqT.of hp, rfl, .tup sp, _, _, rfl, rfl, SqT.of hs, comp_goI (n := st.length) (fun i ys H2 => Same H H2 ∧ ys = vS ((List.range i).filter (bit st))) (by omega) ⟨Same.refl _, rfl⟩ (fun i ys H2 q => by rw [q.2]; exact filt_len _ _) ?_ ?_ ?_⟩
    · rintro i ys H2 hi ⟨s2, rfl⟩
      have hs2 := s2 _ _ hs
      have eu : (st.map V.bl)[i]? = some (.bl (bit st i)) := by rw [List.getElem?_map, List.getElem?_eq_getElem hi]; simp [bit, hi]
      refine ⟨⟨_, _, SqT.of hs2, eu⟩, fun y G2 hy => ?_⟩
      obtain ⟨q, x, rfl, nq, rfl, hy⟩ := hy
      have := hy _ (SqT.of hs2)
      rw [eu] at this
      cases this
      have t2 := same_upd (o := .tup [.int (i : Int), .bl (bit st i)]) nq
      refine ⟨q, _, rfl, SqT.of upd_same, rfl, _, _, rfl, _, _, rfl, rfl, ⟨[some _, some _], rfl, rfl⟩, _, rfl, _, rfl, ?_⟩
      have fs := filt_succ (bit st) i
      have s4 := s2.trans t2
      dsimp only
      by_cases hb : bit st i = true
      · rw [if_pos hb]
        refine ⟨_, rfl, s4, ?_⟩
        rw [fs, if_pos hb]
      · rw [if_neg hb]
        exact ⟨s4, by rw [fs, if_neg hb]⟩
    · rintro ys H2 ⟨s2, rfl⟩
      exact ⟨_, SqT.of (s2 _ _ hs), by rw [List.length_map]⟩
    · rintro ys H2 lp ⟨s2, rfl⟩ nl
      have t1 := same_upd (o := .lst (vS ((List.range st.length).filter (bit st)))) nl
      refine ⟨lp, _, rfl, .inl ⟨SqL.of upd_same, fun l2 n2 => ?_⟩⟩
      have t2 := same_upd (o := .tup (vS ((List.range st.length).filter (bit st)))) n2
      exact k _ _ ((s2.trans t1).trans t2) ⟨l2, rfl, upd_same⟩
theorem ok_law_first (T : Txt K mg t) : FnOk Pr w K mg base CX0 1 t.law_first t.d_law_first ["_law_machine_here"] sp_bfirst := by
  refine T.F_law_first.ok sc_law_first (fun vs H Q E h => ?_) (fun cdv A outer s H vs Q E hr h => ?_)
  · obtain ⟨mv, l, n, st, ts, en, rfl, _⟩ := h
    rfl
  · obtain ⟨mv, l, n, st, ts, en, rfl, ⟨⟨p, sv, tv, ev, rfl, hp, ⟨sp, rfl, hs⟩, _, _⟩, O⟩, k⟩ := h
    have sl := O.sl
    have n20 := O.n20
    have z20 : 20 < sizeLine := by decide
    have lt : LenV K (.ref sp) H st.length := .inr ⟨_, SqT.of hs, by rw [List.length_map]⟩
    refine ⟨_, (pss_one (ps_ret (pe_callTy call_tuple_of (by rfl) T.z_tuple boot_tuple (pa_cons (pe_compif (xs := ["_law_k"]) rfl (show CompOk ["_law_machine_here"] (defScope s_law_first) _ from ⟨rfl, by decide +kernel, by decide +kernel, by decide +kernel, by decide +kernel, by decide +kernel⟩) (pi_range1 rfl T.z_range (pa_cons (pe_callB call_len (by rfl) T.z_len PySem.boot_len (pa_cons (pe_ix ix_tup (pv 0) pe_int (fun _ _ => rfl)) pa_nil)) pa_nil)) (fun _ _ _ _ _ => (pg_name (i := 1) (by show List.Nodup (["_law_machine_here", "_law_k"] : List Str); decide +kernel) rfl (Or.inl rfl))) (fun _ _ _ _ _ => (pt_val (pe_ix (show IxR _ (rIxT K) from ix_tup) (pe_ix (show IxR _ (rIxT K) from ix_tup) (pv 0) pe_int (fun _ _ => rfl)) (pv 1) (fun _ _ => rfl)))) (fun _ _ _ _ _ => (pv 1))) pa_nil)))), ?_⟩
    refine ⟨_, rfl, _, _, _, _, rfl, rfl, SqT.of hp, rfl, _, _, rfl, lt, _, rfl, (by omega), (by omega), comp_goI (n := st.length) (fun i ys H2 => Same H H2 ∧ ys = vS ((List.range i).filter (bit st))) (by omega) ⟨Same.refl _, rfl⟩ (fun i ys H2 q => by rw [q.2]; exact filt_len _ _) ?_ ?_ ?_⟩
    · rintro i ys H2 hi ⟨s2, rfl⟩
      refine ⟨(show i < (st.length : Int).toNat by omega), fun y G2 hy => ?_⟩
      obtain ⟨rfl, rfl⟩ := hy
      refine ⟨⟨[some _], rfl, rfl⟩, ?_⟩
      refine ⟨_, rfl, _, _, _, _, rfl, rfl, SqT.of (s2 _ _ hp), rfl, _, rfl, _, _, _, _, rfl, rfl, SqT.of (s2 _ _ hs), (by rw [show (0 : Int) + (i : Int) = (i : Int) by omega]; exact bit_at hi), _, rfl, ?_⟩
      have fs := filt_succ (bit st) i
      dsimp only
      by_cases hb : bit st i = true
      · rw [if_pos hb]
        refine ⟨_, rfl, s2, ?_⟩
        rw [fs, if_pos hb, show (0 : Int) + (i : Int) = (i : Int) by omega]
      · rw [if_neg hb]
        exact ⟨s2, by rw [fs, if_neg hb]⟩
    · rintro ys H2 ⟨s2, rfl⟩
      show (st.length : Int).toNat ≤ st.length
      omega
    · rintro ys H2 lp ⟨s2, rfl⟩ nl
      have t1 := same_upd (o := .lst (vS ((List.range st.length).filter (bit st)))) nl
      refine ⟨lp, _, rfl, .inl ⟨SqL.of upd_same, fun l2 n2 => ?_⟩⟩
      have t2 := same_upd (o := .tup (vS ((List.range st.length).filter (bit st)))) n2
      exact k _ _ ((s2.trans t1).trans t2) ⟨l2, rfl, upd_same⟩
def sp_bafter : Sp := fun vs H Q _ => ∃ mv wv, ∃ q : Nat, ∃ l n st ts en m S, vs = [mv, wv, .int (q : Int)] ∧ (BM l st ts en mv H ∧ BMok l n st ts en ∧ ST S wv H ∧ ts[q]? = some m ∧ SOk n S) ∧ ∀ v H', Same H H' → ST (nxtS m S) v H' → Q v H'
theorem ok_law_after (T : Txt K mg t) : FnOk Pr w K mg base CX0 1 t.law_after t.d_law_after ["_law_machine_here", "_law_some", "_law_at"] sp_bafter := by
  refine T.F_law_after.ok sc_law_after (fun vs H Q E h => ?_) (fun cdv A outer s H vs Q E hr h => ?_)
  · obtain ⟨mv, wv, q, l, n, st, ts, en, m, S, rfl, _⟩ := h
    rfl
  · obtain ⟨mv, wv, q, l, n, st, ts, en, m, S, rfl, ⟨⟨p, sv, tv, ev, rfl, hp, ⟨sp, rfl, hs⟩, ⟨ap, avs, rfl, hap, ea0⟩, _⟩, O, ⟨wp, rfl, hwp⟩, hq, hS⟩, k⟩ := h
    obtain ⟨u0, eu0, m', em, ⟨tp, tvs, rfl, htp, et⟩⟩ := ea0.2 q (List.getElem?_eq_some_iff.mp hq).1
    rw [hq] at em
    cases em
    obtain ⟨rfl, hm⟩ := O.tb m (List.mem_of_getElem? hq)
    have hn := O.n20
    have lt : LenV K (.ref sp) H m.length := .inr ⟨_, SqT.of hs, by rw [List.length_map]; exact O.sl.symm⟩
    have sl := hS.len
    have z20 : 20 < sizeLine := by decide
    refine ⟨_, (pss_cons (ps_set (i := 3) sc_law_after.nd rfl (Or.inr rfl) (pe_ix ix_tup (pe_ix ix_tup (pv 0) pe_int (fun _ _ => rfl)) (pv 2) (fun _ _ => rfl))) (pss_one (ps_ret (pe_callTy call_tuple_of (by rfl) T.z_tuple boot_tuple (pa_cons (pe_compif (xs := ["_law_k"]) rfl (show CompOk ["_law_machine_here", "_law_some", "_law_at", "_law_table"] (defScope s_law_after) _ from ⟨rfl, by decide +kernel, by decide +kernel, by decide +kernel, by decide +kernel, by decide +kernel⟩) (pi_range1 rfl T.z_range (pa_cons (pe_callB call_len (by rfl) T.z_len PySem.boot_len (pa_cons (pe_ix ix_tup (pv 0) pe_int (fun _ _ => rfl)) pa_nil)) pa_nil)) (fun _ _ _ _ _ => (pg_name (i := 4) (by show List.Nodup (["_law_machine_here", "_law_some", "_law_at", "_law_table", "_law_k"] : List Str); decide +kernel) rfl (Or.inr rfl))) (fun _ _ _ _ _ => (pt_val (pe_callB (show CallR _ (.builtin "any") (rAll K fun bs => bs.any id) from call_any rfl) (by rfl) T.z_any boot_any (pa_cons (pe_comp (xs := ["_law_j"]) rfl (show CompOk ["_law_machine_here", "_law_some", "_law_at", "_law_table", "_law_k"] (rlS (defScope s_law_after) _) _ from ⟨rfl, by decide +kernel, by decide +kernel, by decide +kernel, by decide +kernel, by decide +kernel⟩) (show PI _ _ _ (iTup K _) from pi_tup (pv 1)) (fun _ _ _ _ _ => (pg_name (i := 5) (by show List.Nodup (["_law_machine_here", "_law_some", "_law_at", "_law_table", "_law_k", "_law_j"] : List Str); decide +kernel) rfl (Or.inl rfl))) (fun _ _ _ _ _ => (pe_ix (show IxR _ (rIxT K) from ix_tup) (pe_ix (show IxR _ (rIxT K) from ix_tup) (pv 3) (pv 5) (fun _ _ => rfl)) (pv 4) (fun _ _ => rfl)))) pa_nil)))) (fun _ _ _ _ _ => (pv 4))) pa_nil))))), ?_⟩
    refine ⟨_, rfl, _, _, _, _, rfl, rfl, SqT.of hp, rfl, _, rfl, _, _, _, _, rfl, rfl, SqT.of hap, atI_nat eu0, ?_⟩
    refine ⟨_, rfl, _, _, _, _, rfl, rfl, SqT.of hp, rfl, _, _, rfl, lt, _, rfl, (by omega), (by omega), comp_goI (n := m.length) (fun i ys H2 => Same H H2 ∧ ys = vS ((List.range i).filter fun j => S.any fun o => bit (m.getD o []) j)) (by omega) ⟨Same.refl _, rfl⟩ (fun i ys H2 q => by rw [q.2]; exact filt_len _ _) ?_ ?_ ?_⟩
    · rintro i ys H2 hi ⟨s2, rfl⟩
      refine ⟨(show i < (m.length : Int).toNat by omega), fun y G2 hy => ?_⟩
      obtain ⟨rfl, rfl⟩ := hy
      refine ⟨⟨[some _], rfl, rfl⟩, ?_⟩
      refine ⟨_, rfl, wp, rfl, ⟨_, SqT.of (s2 _ _ hwp)⟩, comp_go (n := S.length) (fun j zs H3 => (Same G2 H3 ∧ zs = ((S.take j).map fun o => bit (m.getD o []) i).map V.bl) ∧ zs.length = j) (by omega) ⟨⟨Same.refl _, rfl⟩, rfl⟩ (fun j zs H3 q => q.2) ?_ ?_ ?_⟩
      · rintro j zs H3 hj ⟨⟨s3, rfl⟩, lz⟩
        have hwp3 := s3 _ _ (s2 _ _ hwp)
        have eu : (vS S)[j]? = some (.int ((S[j] : Nat) : Int)) := by rw [vS, List.getElem?_map, List.getElem?_eq_getElem hj]; rfl
        refine ⟨⟨_, _, SqT.of hwp3, eu⟩, fun y G3 hy => ?_⟩
        obtain ⟨rfl, hy⟩ := hy
        have := hy _ (SqT.of hwp3)
        rw [eu] at this
        cases this
        have ho : S[j] < m.length := hS.lt _ (List.getElem_mem hj)
        obtain ⟨u, eu2, r, er, rp, rfl, hr2⟩ := et.2 S[j] ho
        have lr : r.length = m.length := hm r (List.mem_of_getElem? er)
        have gr : m.getD S[j] [] = r := by rw [List.getD_eq_getElem?_getD, er]; rfl
        refine ⟨⟨[some _], rfl, rfl⟩, _, rfl, _, rfl, _, _, _, _, rfl, rfl, SqT.of (s3 _ _ (s2 _ _ htp)), atI_nat eu2, _, rfl, _, _, _, _, rfl, rfl, SqT.of (s3 _ _ (s2 _ _ hr2)), (by rw [show (0 : Int) + (i : Int) = (i : Int) by omega]; exact bit_at (by omega)), ⟨s3, ?_⟩, by rw [List.length_append, lz]; rfl⟩
        rw [List.take_succ, List.getElem?_eq_getElem hj, List.map_append, List.map_append]
        simp [er]
      · rintro zs H3 ⟨⟨s3, rfl⟩, _⟩
        exact ⟨_, SqT.of (s3 _ _ (s2 _ _ hwp)), by rw [vS, List.length_map]; exact Nat.le_refl _⟩
      · rintro zs H3 lp ⟨⟨s3, rfl⟩, _⟩ nl
        have t3 := same_upd (o := .lst (((S.take S.length).map fun o => bit (m.getD o []) i).map V.bl)) nl
        refine ⟨lp, _, rfl, SqL.of upd_same, _, rfl, ?_⟩
        have ea : ((S.take S.length).map fun o => bit (m.getD o []) i).any id = (S.any fun o => bit (m.getD o []) i) := by
          rw [List.take_length, List.any_map]; rfl
        dsimp only
        rw [ea]
        have fs := filt_succ (fun j => S.any fun o => bit (m.getD o []) j) i
        have s4 := s2.trans (s3.trans t3)
        by_cases hb : (S.any fun o => bit (m.getD o []) i) = true
        · rw [if_pos hb]
          refine ⟨_, rfl, s4, ?_⟩
          rw [fs, if_pos hb, show (0 : Int) + (i : Int) = (i : Int) by omega]
        · rw [if_neg hb]
          exact ⟨s4, by rw [fs, if_neg hb]⟩
    · rintro ys H2 ⟨s2, rfl⟩
      show (m.length : Int).toNat ≤ m.length
      omega
    · rintro ys H2 lp ⟨s2, rfl⟩ nl
      have t1 := same_upd (o := .lst (vS ((List.range m.length).filter fun j => S.any fun o => bit (m.getD o []) j))) nl
      refine ⟨lp, _, rfl, .inl ⟨SqL.of upd_same, fun l2 n2 => ?_⟩⟩
      have t2 := same_upd (o := .tup (vS ((List.range m.length).filter fun j => S.any fun o => bit (m.getD o []) j))) n2
      exact k _ _ ((s2.trans t1).trans t2) ⟨l2, rfl, upd_same⟩
--BFS
/-! the sets met one after another -/
def addS (Ts : List (List Nat)) (S : List Nat) : List (List Nat) := if S ∈ Ts then Ts else Ts ++ [S]
def growS (ts : List (List (List Bool))) (Ts : List (List Nat)) (S : List Nat) : List (List Nat) := ts.foldl (fun acc m => addS acc (nxtS m S)) Ts
def bfs (st : List Bool) (ts : List (List (List Bool))) : Nat → List (List Nat)
  | 0 => [fstS st]
  | i + 1 => match (bfs st ts i)[i]? with
    | some S => growS ts (bfs st ts i) S
    | none => bfs st ts i
theorem bfs_succ {st : List Bool} {ts : List (List (List Bool))} {i : Nat} {S : List Nat} (h : (bfs st ts i)[i]? = some S) : bfs st ts (i + 1) = growS ts (bfs st ts i) S := by rw [bfs, h]
/-- the search has come to the place i -/
structure Run (st : List Bool) (ts : List (List (List Bool))) (i : Nat) : Prop where
  go : ∀ j, j < i → j < (bfs st ts j).length ∧ (bfs st ts j).length ≤ 20
theorem Run.zero {st : List Bool} {ts : List (List (List Bool))} : Run st ts 0 := ⟨fun j h => absurd h (Nat.not_lt_zero j)⟩
theorem Run.succ {st : List Bool} {ts : List (List (List Bool))} {i : Nat} (h : Run st ts i) (h1 : i < (bfs st ts i).length) (h2 : (bfs st ts i).length ≤ 20) : Run st ts (i + 1) := ⟨fun j hj => by
  by_cases e : j = i
  · subst e; exact ⟨h1, h2⟩
  · exact h.go j (by omega)⟩
theorem Run.uniq {st : List Bool} {ts : List (List (List Bool))} {i j : Nat} (h : Run st ts i) (h' : Run st ts j) (e : (bfs st ts i).length ≤ i ∨ 20 < (bfs st ts i).length) (e' : (bfs st ts j).length ≤ j ∨ 20 < (bfs st ts j).length) : i = j := by
  rcases Nat.lt_trichotomy i j with q | q | q
  · have := h'.go i q; omega
  · exact q
  · have := h.go j q; omega
theorem addS_mem {Ts : List (List Nat)} {S x : List Nat} (h : x ∈ addS Ts S) : x ∈ Ts ∨ x = S := by
  unfold addS at h
  split at h
  · exact .inl h
  · rcases List.mem_append.mp h with h | h
    · exact .inl h
    · exact .inr (List.mem_singleton.mp h)
theorem addS_get {Ts : List (List Nat)} {S x : List Nat} {i : Nat} (h : Ts[i]? = some x) : (addS Ts S)[i]? = some x := by
  unfold addS
  split
  · exact h
  · rw [List.getElem?_append_left (List.getElem?_eq_some_iff.mp h).1]; exact h
theorem addS_len {Ts : List (List Nat)} {S : List Nat} : Ts.length ≤ (addS Ts S).length ∧ (addS Ts S).length ≤ Ts.length + 1 := by
  unfold addS
  split
  · omega
  · simp
def dS (S : List Nat) : PyData := .tuple ((S.map fun i : Nat => (i : Int)).map PyData.int)
theorem vS_eq (S : List Nat) : vS S = (S.map fun i : Nat => (i : Int)).map V.int := by rw [vS, List.map_map]; rfl
theorem ST.is {S : List Nat} {v : V} {H : Hp} (h : ST S v H) : Is K H v (dS S) := by
  obtain ⟨p, rfl, h⟩ := h
  rw [vS_eq] at h
  exact .tup (SqT.of h) (isAll_ints _)
theorem dS_cl (S : List Nat) : (dS S).canLay0 = true := by rw [dS, PyData.canLay0]; exact cl_ints _
theorem dS_dp (S : List Nat) : (dS S).depth ≤ 1 := by have := dp_ints (S.map fun i : Nat => (i : Int)); rw [dS, PyData.depth]; omega
theorem dS_sh (S : List Nat) : shaped (dS S) = true := by
  have := dS_dp S
  simp [shaped, dS_cl]; omega
theorem dS_nm (S S' : List Nat) : noMix (dS S) (dS S') = true := by rw [dS, dS, noMix]; exact nma_ints _ _
theorem dS_inj {S S' : List Nat} (h : dS S = dS S') : S = S' := by
  unfold dS at h
  injection h with h
  have := (List.map_inj_right (fun _ _ z => by injection z)).mp h
  exact (List.map_inj_right (fun _ _ z => by exact Int.ofNat.inj z)).mp this
/-- a list of sets -/
def SL (Ts : List (List Nat)) (a : Addr) (H : Hp) : Prop := ∃ vs, H a = some (.lst vs) ∧ Ents (fun i u H => ∃ S, Ts[i]? = some S ∧ ST S u H) vs Ts.length H
theorem dl_cl : ∀ Ts : List (List Nat), PyData.canLayAll0 (Ts.map dS) = true
  | [] => by simp [PyData.canLayAll0]
  | S :: Ts => by simp [PyData.canLayAll0, dS_cl, dl_cl Ts]
theorem dl_dp : ∀ Ts : List (List Nat), PyData.depthAll (Ts.map dS) ≤ 1
  | [] => by simp [PyData.depthAll]
  | S :: Ts => by have := dl_dp Ts; have := dS_dp S; simp [PyData.depthAll]; omega
theorem dl_sh (Ts : List (List Nat)) : shaped (.list (Ts.map dS)) = true := by
  have := dl_dp Ts
  simp [shaped, PyData.canLay0, dl_cl Ts, PyData.depth]; omega
theorem dl_nm (Ts : List (List Nat)) (S : List Nat) : ∀ e ∈ Ts.map dS, noMix e (dS S) = true := fun e he => by
  obtain ⟨S', _, rfl⟩ := List.mem_map.mp he
  exact dS_nm S' S
theorem isAll_of {Ts : List (List Nat)} : ∀ {vs : List V} {H : Hp}, Ents (fun i u H => ∃ S, Ts[i]? = some S ∧ ST S u H) vs Ts.length H → IsAll K H vs (Ts.map dS) := by
  induction Ts with
  | nil =>
    intro vs H e
    have := e.1
    cases vs with
    | nil => exact .nil
    | cons _ _ => simp at this
  | cons S Ts ih =>
    intro vs H e
    cases vs with
    | nil => have := e.1; simp at this
    | cons v vs =>
      obtain ⟨u, e1, S', e2, e3⟩ := e.2 0 (by simp)
      have q1 : v = u := by simpa using e1
      have q2 : S = S' := by simpa using e2
      subst q1 q2
      refine .cons e3.is (ih ⟨by have := e.1; simpa using this, fun j hj => ?_⟩)
      obtain ⟨u, f1, S', f2, f3⟩ := e.2 (j + 1) (by simpa using hj)
      exact ⟨u, by simpa using f1, S', by simpa using f2, f3⟩
theorem SL.is {Ts : List (List Nat)} {a : Addr} {H : Hp} (h : SL Ts a H) : Is K H (.ref a) (.list (Ts.map dS)) := by
  obtain ⟨vs, h, e⟩ := h
  exact .lst (SqL.of h) (isAll_of e)
theorem any_S (Ts : List (List Nat)) (S : List Nat) : ((Ts.map dS).any fun y => PySem.Spec.same y (dS S)) = decide (S ∈ Ts) := by
  rw [List.any_map]
  by_cases h : S ∈ Ts
  · rw [decide_eq_true h, List.any_eq_true]
    exact ⟨S, h, same_refl _⟩
  · rw [decide_eq_false h, List.any_eq_false]
    intro x hx q
    exact h (dS_inj (eq_of_same _ _ q) ▸ hx)
theorem SL.at {Ts : List (List Nat)} {a : Addr} {H : Hp} (h : SL Ts a H) {i : Nat} {S : List Nat} (e : Ts[i]? = some S) : ∃ vs u, H a = some (.lst vs) ∧ vs[i]? = some u ∧ ST S u H := by
  obtain ⟨vs, h, en⟩ := h
  obtain ⟨u, e1, S', e2, e3⟩ := en.2 i (List.getElem?_eq_some_iff.mp e).1
  rw [e] at e2
  cases e2
  exact ⟨vs, u, h, e1, e3⟩
theorem SL.len {Ts : List (List Nat)} {a : Addr} {H : Hp} (h : SL Ts a H) : LenV K (.ref a) H Ts.length := by
  obtain ⟨vs, h, en⟩ := h
  exact .inl ⟨_, SqL.of h, en.1.symm⟩
theorem SL.push {Ts : List (List Nat)} {a : Addr} {H : Hp} {S : List Nat} {u : V} {vs : List V} (h : H a = some (.lst vs)) (e : Ents (fun i u H => ∃ S, Ts[i]? = some S ∧ ST S u H) vs Ts.length H) (q : ST S u H) : SL (Ts ++ [S]) a (upd H a (.lst (vs ++ [u]))) := by
  have nx : SameT H (upd H a (.lst (vs ++ [u]))) := fun p ws hp => by
    by_cases z : p = a
    · subst z; rw [hp] at h; cases h
    · rw [upd_ne z]; exact hp
  exact ⟨_, upd_same, ents_snoc e (fun _ _ => ST.same nx) (q.same nx)⟩
--SOF
theorem grow_take {ts : List (List (List Bool))} {Ts : List (List Nat)} {S : List Nat} {q : Nat} {m : List (List Bool)} (h : ts[q]? = some m) : growS (ts.take (q + 1)) Ts S = addS (growS (ts.take q) Ts S) (nxtS m S) := by
  rw [growS, List.take_succ, h, List.foldl_append]
  rfl
def spx_sets (t : Adr) : Sp := fun vs H Q E => ∃ mv l n st ts en, vs = [mv] ∧ (BM l st ts en mv H ∧ BMok l n st ts en) ∧
  (∀ i a H', Same H H' → SL (bfs st ts i) a H' → Run st ts i → (bfs st ts i).length ≤ i → (bfs st ts i).length ≤ 20 → (∀ S ∈ bfs st ts i, SOk n S) → Q (.ref a) H') ∧
  (∀ i H', Same H H' → Run st ts i → 20 < (bfs st ts i).length → E (.ref t.TooGreat) none H')
theorem okx_sets_of (T : Txt K mg t) : FnOk Pr w K mg base (CX1 Pr w) 2 t.sets_of t.d_sets_of ["machine"] (spx_sets t) := by
  refine T.F_sets_of.okx sc_sets_of (fun vs H Q E h => ?_) (fun cdv A outer s H vs Q E hr h => ?_)
  · obtain ⟨mv, l, n, st, ts, en, rfl, _⟩ := h
    rfl
  · obtain ⟨mv, l, n, st, ts, en, rfl, ⟨hM, O⟩, k0, k1⟩ := h
    have n20 := O.n20
    have z40 : 40 < sizeLine := by decide
    have l3 := O.lk.h3
    have tl := O.tl
    refine ⟨_, (pss_cons (ps_set (i := 1) sc_sets_of.nd rfl (Or.inl rfl) (pe_lst (pa_cons (pe_call (ok_first_set T) (hr.mono (by decide)) rfl T.m_first_set T.F_first_set.kp T.b_first_set .nil pass0 (pa_cons (pv 0) pa_nil)) pa_nil))) (pss_cons (ps_set (i := 2) sc_sets_of.nd rfl (Or.inl rfl) pe_int) (pss_cons (ps_while thru_cx.own (pt_cmpR op_lt (pv 2) (pe_callB call_len (by rfl) T.z_len PySem.boot_len (pa_cons (pv 1) pa_nil)) (nomark _)) (pss_cons (PS.nox (ps_for PassesOwn.never rfl (pi_tup (pe_ix ix_tup (pv 0) pe_int (fun _ _ => rfl))) (pg_name (i := 3) sc_sets_of.nd rfl (Or.inl rfl)) (pss_cons (ps_set (i := 4) sc_sets_of.nd rfl (Or.inl rfl) (pe_call (ok_next_set T) (hr.mono (by decide)) rfl T.m_next_set T.F_next_set.kp T.b_next_set .nil pass0 (pa_cons (pv 3) (pa_cons (pe_ix ix_list (pv 1) (pv 2) (fun _ _ => rfl)) pa_nil)))) (pss_one (ps_if (pt_cmpR (op_notInD hr.units1) (pv 4) (pv 1) (by with_unfolding_all rfl)) (pss_one (ps_expr (pe_bm PySem.F.plainAttrs_list PySem.F.slot_list_append PySem.F.type_list_append mt_append (pv 1) (pa_cons (pv 4) pa_nil)))) pss_nil))))) (pss_cons (ps_if (pt_cmpR op_gt (pe_callB call_len (by rfl) T.z_len PySem.boot_len (pa_cons (pv 1) pa_nil)) (pe_glob (v := .int 20) rfl T.c_MOST_SETS.choose_spec ⟨_, rfl⟩) (nomark _)) (pss_one (ps_raise thru_cx rfl T.x_TooGreat.ex rfl T.m_TooGreat (pa_cons pe_str pa_nil))) pss_nil) (pss_one (ps_set (i := 2) sc_sets_of.nd rfl (Or.inl rfl) (pe_op op_add (pv 2) pe_int)))))) (pss_one (ps_ret (pv 1)))))), ?_⟩
    refine ⟨_, rfl, mv, l, n, st, ts, en, rfl, ⟨hM, O⟩, fun v H1 s1 q1 => ⟨(by show 1 ≤ sizeLine; decide), fun ap nap => ?_⟩⟩
    have t1 := same_upd (o := .lst [v]) nap
    have sl1 : SL (bfs st ts 0) ap (upd H1 ap (.lst [v])) := ⟨[v], upd_same, rfl, fun j hj => by
      have e : j = 0 := by have : j < 1 := hj; omega
      subst e
      exact ⟨v, rfl, fstS st, rfl, q1.same t1.t⟩⟩
    have nap0 : H ap = none := by
      cases e : H ap with
      | none => rfl
      | some o => rw [s1 _ _ e] at nap; cases nap
    have s2 := s1.trans t1
    clear t1 nap s1 q1
    revert sl1 s2
    generalize upd H1 ap (.lst [v]) = H2
    intro sl1 s2
    refine ⟨fun m σ H' => ∃ i v3 v4, σ = [some mv, some (.ref ap), some (.int ((i : Nat) : Int)), v3, v4] ∧ m = 21 - i ∧ Same H H' ∧ SL (bfs st ts i) ap H' ∧ Run st ts i ∧ (bfs st ts i).length ≤ 20 ∧ ∀ S ∈ bfs st ts i, SOk n S,
      ⟨_, 0, _, _, rfl, rfl, s2, sl1, Run.zero, by show 1 ≤ 20; decide, fun S hS => by
        rw [List.mem_singleton.mp hS, ← O.sl]; exact SOk.filter _ _⟩, ?_⟩
    rintro m σ H' ⟨i, v3, v4, rfl, rfl, s3, sl3, run, l20, ok3⟩
    refine ⟨_, rfl, _, rfl, _, _, rfl, sl3.len, _, _, rfl, rfl, _, rfl, ?_⟩
    refine iteP (fun h0 => ?_) (fun h0 => ?_)
    · have hi : i < (bfs st ts i).length := by omega
      obtain ⟨S, eS⟩ : ∃ S, (bfs st ts i)[i]? = some S := ⟨_, List.getElem?_eq_getElem hi⟩
      refine ⟨fun σ' H'' => ∃ m', m' < 21 - i ∧ ∃ i v3 v4, σ' = [some mv, some (.ref ap), some (.int ((i : Nat) : Int)), v3, v4] ∧ m' = 21 - i ∧ Same H H'' ∧ SL (bfs st ts i) ap H'' ∧ Run st ts i ∧ (bfs st ts i).length ≤ 20 ∧ ∀ S ∈ bfs st ts i, SOk n S, fun σ' H'' q => q, ?_⟩
      have hM3 := hM.same s3.t
      obtain ⟨p, sv, tv, ev, rfl, hp, _, ⟨tp, tvs, rfl, htp, et⟩, _⟩ := id hM3
      have hM0 := hM
      refine ⟨_, rfl, _, _, _, _, rfl, rfl, SqT.of hp, rfl, tp, rfl, ⟨_, SqT.of htp⟩, for_it (n := ts.length) (fun q σ H4 => ∃ v3 v4, σ = [some (.ref p), some (.ref ap), some (.int ((i : Nat) : Int)), v3, v4] ∧ Same H H4 ∧ SameT H' H4 ∧ SL (growS (ts.take q) (bfs st ts i) S) ap H4 ∧
        (growS (ts.take q) (bfs st ts i) S).length ≤ 20 + q ∧ (growS (ts.take q) (bfs st ts i) S)[i]? = some S ∧ ∀ S' ∈ growS (ts.take q) (bfs st ts i) S, SOk n S') ⟨_, _, rfl, s3, SameT.refl _, sl3, l20, eS, ok3⟩ ?_ ?_⟩
      · rintro q σ H4 hq ⟨w3, w4, rfl, s4, u4, sl4, l4, e4, ok4⟩
        obtain ⟨u, eu, mt, em, hu⟩ := et.2 q hq
        refine ⟨⟨_, _, SqT.of (u4 _ _ htp), eu⟩, fun y G4 hy => ?_⟩
        obtain ⟨rfl, hy⟩ := hy
        have := hy _ (SqT.of (u4 _ _ htp))
        rw [eu] at this
        cases this
        obtain ⟨vs4, u5, h4, e5, st5⟩ := sl4.at e4
        have ob := O.tb mt (List.mem_of_getElem? em)
        refine ⟨_, rfl, _, rfl, _, rfl, _, _, _, _, rfl, rfl, SqL.of h4, atI_nat e5, u, u5, mt, S, n, rfl, ⟨hu.same u4, st5, ob.1, n20, ob.2, ok4 _ (List.mem_of_getElem? e4)⟩, fun av H5 s5 q5 => ?_⟩
        have sl5 : SL (growS (ts.take q) (bfs st ts i) S) ap H5 := by
          obtain ⟨vs, h, e⟩ := sl4
          exact ⟨vs, s5 _ _ h, e.mono fun _ _ _ ⟨r, a1, a2⟩ => ⟨r, a1, a2.same s5.t⟩⟩
        refine ⟨_, rfl, _, rfl, _, _, q5.is, sl5.is, dS_sh _, dl_sh _, dl_nm _ _, _, rfl, ?_⟩
        rw [any_S]
        have gt := grow_take (Ts := bfs st ts i) (S := S) em
        have al := @addS_len (growS (ts.take q) (bfs st ts i) S) (nxtS mt S)
        have oks : ∀ S' ∈ addS (growS (ts.take q) (bfs st ts i) S) (nxtS mt S), SOk n S' := fun S' hS' => by
          rcases addS_mem hS' with z | z
          · exact ok4 _ z
          · rw [z, ← ob.1]; exact SOk.filter _ _
        have eg := addS_get (S := nxtS mt S) e4
        dsimp only
        by_cases hin : nxtS mt S ∈ growS (ts.take q) (bfs st ts i) S
        · rw [decide_eq_true hin]
          (try refine iteF ?_)
          have ad : addS (growS (ts.take q) (bfs st ts i) S) (nxtS mt S) = growS (ts.take q) (bfs st ts i) S := if_pos hin
          refine ⟨_, _, rfl, s4.trans s5, u4.trans s5.t, ?_, ?_, ?_, ?_⟩
          · rw [gt, ad]; exact sl5
          · rw [gt]; omega
          · rw [gt]; exact eg
          · rw [gt]; exact oks
        · rw [decide_eq_false hin]
          (try refine iteT ?_)
          have ad : addS (growS (ts.take q) (bfs st ts i) S) (nxtS mt S) = growS (ts.take q) (bfs st ts i) S ++ [nxtS mt S] := if_neg hin
          obtain ⟨vs5, h5, e5'⟩ := sl5
          refine ⟨_, rfl, .inl ⟨rfl, _, SqL.of h5⟩, _, rfl, ap, vs5, av, rfl, rfl, h5, (by rw [e5'.1]; omega), ?_⟩
          refine ⟨_, _, rfl, fun c o hc => ?_, fun c ws hc => ?_, ?_, ?_, ?_, ?_⟩
          · rw [upd_ne (ne_of_none hc nap0)]; exact s5 _ _ (s4 _ _ hc)
          · have q0 := s5.t _ _ (u4 _ _ hc)
            by_cases z : c = ap
            · subst z; rw [q0] at h5; cases h5
            · rw [upd_ne z]; exact q0
          · rw [gt, ad]; exact SL.push h5 e5' q5
          · rw [gt]; omega
          · rw [gt]; exact eg
          · rw [gt]; exact oks
      · rintro σ H4 ⟨w3, w4, rfl, s4, u4, sl4, l4, e4, ok4⟩
        rw [List.take_length] at sl4 l4 e4 ok4
        rw [← bfs_succ eS] at sl4 l4 e4 ok4
        have run' := run.succ hi l20
        refine ⟨⟨_, SqT.of (u4 _ _ htp), by rw [et.1]; exact Nat.le_refl _⟩, ?_⟩
        refine ⟨_, rfl, _, _, rfl, sl4.len, _, _, rfl, rfl, _, rfl, ?_⟩
        refine iteP (fun h1 => ?_) (fun h1 => ?_)
        · exact ⟨(by show 1 ≤ sizeLine; decide), k1 (i + 1) H4 s4 run' (by omega)⟩
        · refine ⟨_, rfl, _, _, rfl, rfl, 21 - (i + 1), by omega, i + 1, w3, w4, ?_, rfl, s4, sl4, run', by omega, ok4⟩
          rw [show ((i + 1 : Nat) : Int) = (i : Int) + 1 by omega]
          rfl
    · refine ⟨_, rfl, ?_⟩
      exact k0 i ap H' s3 sl3 run (by omega) l20 ok3
--ALL
def sp_allsets : Sp := fun vs H Q _ => ∃ mv l n st ts en, vs = [mv, .int 20] ∧ (BM l st ts en mv H ∧ BMok l n st ts en) ∧
  ∀ i a H', Same H H' → SL (bfs st ts i) a H' → Run st ts i → (bfs st ts i).length ≤ i ∨ 20 < (bfs st ts i).length → Q (.ref a) H'
theorem ok_law_all_sets (T : Txt K mg t) : FnOk Pr w K mg base CX0 2 t.law_all_sets t.d_law_all_sets ["_law_machine_here", "_law_most"] sp_allsets := by
  refine T.F_law_all_sets.ok sc_law_all_sets (fun vs H Q E h => ?_) (fun cdv A outer s H vs Q E hr h => ?_)
  · obtain ⟨mv, l, n, st, ts, en, rfl, _⟩ := h
    rfl
  · obtain ⟨mv, l, n, st, ts, en, rfl, ⟨hM, O⟩, k0⟩ := h
    have n20 := O.n20
    have z40 : 40 < sizeLine := by decide
    have l3 := O.lk.h3
    have tl := O.tl
    refine ⟨_, (pss_cons (ps_set (i := 2) sc_law_all_sets.nd rfl (Or.inl rfl) (pe_lst (pa_cons (pe_call (ok_law_first T) (hr.mono (by decide)) rfl T.m_law_first T.F_law_first.kp T.b_law_first .nil pass0 (pa_cons (pv 0) pa_nil)) pa_nil))) (pss_cons (ps_set (i := 3) sc_law_all_sets.nd rfl (Or.inl rfl) pe_int) (pss_cons (ps_while PassesOwn.never (PW.pt (pw_and (pt_cmpR op_lt (pv 3) (pe_callB call_len (by rfl) T.z_len PySem.boot_len (pa_cons (pv 2) pa_nil)) (nomark _)) (pw_and1 (pt_cmpR op_le (pe_callB call_len (by rfl) T.z_len PySem.boot_len (pa_cons (pv 2) pa_nil)) (pv 1) (nomark _))))) (pss_cons (ps_for PassesOwn.never rfl (pi_range1 rfl T.z_range (pa_cons (pe_callB call_len (by rfl) T.z_len PySem.boot_len (pa_cons (pe_ix ix_tup (pv 0) pe_int (fun _ _ => rfl)) pa_nil)) pa_nil)) (pg_name (i := 4) sc_law_all_sets.nd rfl (Or.inl rfl)) (pss_cons (ps_set (i := 5) sc_law_all_sets.nd rfl (Or.inl rfl) (pe_call (ok_law_after T) (hr.mono (by decide)) rfl T.m_law_after T.F_law_after.kp T.b_law_after .nil pass0 (pa_cons (pv 0) (pa_cons (pe_ix ix_list (pv 2) (pv 3) (fun _ _ => rfl)) (pa_cons (pv 4) pa_nil))))) (pss_one (ps_if (pt_cmpR (op_notInD hr.units1) (pv 5) (pv 2) (by with_unfolding_all rfl)) (pss_one (ps_expr (pe_bm PySem.F.plainAttrs_list PySem.F.slot_list_append PySem.F.type_list_append mt_append (pv 2) (pa_cons (pv 5) pa_nil)))) pss_nil)))) (pss_one (ps_aug (i := 3) sc_law_all_sets.nd rfl (Or.inl rfl) pe_int ip_add)))) (pss_one (ps_ret (pv 2)))))), ?_⟩
    refine ⟨_, rfl, mv, l, n, st, ts, en, rfl, ⟨hM, O⟩, fun v H1 s1 q1 => ⟨(by show 1 ≤ sizeLine; decide), fun ap nap => ?_⟩⟩
    have t1 := same_upd (o := .lst [v]) nap
    have sl1 : SL (bfs st ts 0) ap (upd H1 ap (.lst [v])) := ⟨[v], upd_same, rfl, fun j hj => by
      have e : j = 0 := by have : j < 1 := hj; omega
      subst e
      exact ⟨v, rfl, fstS st, rfl, q1.same t1.t⟩⟩
    have nap0 : H ap = none := by
      cases e : H ap with
      | none => rfl
      | some o => rw [s1 _ _ e] at nap; cases nap
    have s2 := s1.trans t1
    clear t1 nap s1 q1
    revert sl1 s2
    generalize upd H1 ap (.lst [v]) = H2
    intro sl1 s2
    refine ⟨fun m σ H' => ∃ i v3 v4, σ = [some mv, some (.int 20), some (.ref ap), some (.int ((i : Nat) : Int)), v3, v4] ∧ m = 21 - i ∧ Same H H' ∧ SL (bfs st ts i) ap H' ∧ Run st ts i ∧ (bfs st ts i).length ≤ 23 ∧ ∀ S ∈ bfs st ts i, SOk n S,
      ⟨_, 0, _, _, rfl, rfl, s2, sl1, Run.zero, by show 1 ≤ 23; decide, fun S hS => by
        rw [List.mem_singleton.mp hS, ← O.sl]; exact SOk.filter _ _⟩, ?_⟩
    rintro m σ H' ⟨i, v3, v4, rfl, rfl, s3, sl3, run, l23, ok3⟩
    refine ⟨_, rfl, _, rfl, _, _, rfl, sl3.len, _, _, rfl, rfl, _, rfl, ?_⟩
    refine iteP (fun h0 => ?_) (fun h0 => ?_)
    refine ⟨_, rfl, _, _, rfl, sl3.len, _, rfl, _, _, rfl, rfl, _, rfl, ?_⟩
    dsimp only
    refine iteP (fun h9 => ?_) (fun h9 => ?_)
    · have l20 : (bfs st ts i).length ≤ 20 := by omega
      have hi : i < (bfs st ts i).length := by omega
      obtain ⟨S, eS⟩ : ∃ S, (bfs st ts i)[i]? = some S := ⟨_, List.getElem?_eq_getElem hi⟩
      refine ⟨fun σ' H'' => ∃ m', m' < 21 - i ∧ ∃ i v3 v4, σ' = [some mv, some (.int 20), some (.ref ap), some (.int ((i : Nat) : Int)), v3, v4] ∧ m' = 21 - i ∧ Same H H'' ∧ SL (bfs st ts i) ap H'' ∧ Run st ts i ∧ (bfs st ts i).length ≤ 23 ∧ ∀ S ∈ bfs st ts i, SOk n S, fun σ' H'' q => q, ?_⟩
      have hM3 := hM.same s3.t
      obtain ⟨p, sv, tv, ev, rfl, hp, _, ⟨tp, tvs, rfl, htp, et⟩, _⟩ := id hM3
      have ll : LenV K (vT l) H' (tx l).length := ⟨by rw [tx_len]; omega, rfl⟩
      rw [tx_len] at ll
      refine ⟨_, rfl, _, _, _, _, rfl, rfl, SqT.of hp, rfl, _, _, rfl, ll, _, rfl, (by omega), (by omega), for_it (n := ts.length) (fun q σ H4 => ∃ v3 v4, σ = [some (.ref p), some (.int 20), some (.ref ap), some (.int ((i : Nat) : Int)), v3, v4] ∧ Same H H4 ∧ SameT H' H4 ∧ SL (growS (ts.take q) (bfs st ts i) S) ap H4 ∧
        (growS (ts.take q) (bfs st ts i) S).length ≤ 20 + q ∧ (growS (ts.take q) (bfs st ts i) S)[i]? = some S ∧ ∀ S' ∈ growS (ts.take q) (bfs st ts i) S, SOk n S') ⟨_, _, rfl, s3, SameT.refl _, sl3, l20, eS, ok3⟩ ?_ ?_⟩
      · rintro q σ H4 hq ⟨w3, w4, rfl, s4, u4, sl4, l4, e4, ok4⟩
        obtain ⟨u, eu, mt, em, hu⟩ := et.2 q hq
        refine ⟨(show q < (l.length : Int).toNat by omega), fun y G4 hy => ?_⟩
        obtain ⟨rfl, rfl⟩ := hy
        obtain ⟨vs4, u5, h4, e5, st5⟩ := sl4.at e4
        have ob := O.tb mt (List.mem_of_getElem? em)
        refine ⟨_, rfl, _, rfl, _, rfl, _, _, _, _, rfl, rfl, SqL.of h4, atI_nat e5, _, rfl, .ref p, u5, q, l, n, st, ts, en, mt, S, (by rw [show (0 : Int) + (q : Int) = (q : Int) by omega]; rfl), ⟨hM3.same u4, O, st5, em, ok4 _ (List.mem_of_getElem? e4)⟩, fun av H5 s5 q5 => ?_⟩
        have sl5 : SL (growS (ts.take q) (bfs st ts i) S) ap H5 := by
          obtain ⟨vs, h, e⟩ := sl4
          exact ⟨vs, s5 _ _ h, e.mono fun _ _ _ ⟨r, a1, a2⟩ => ⟨r, a1, a2.same s5.t⟩⟩
        refine ⟨_, rfl, _, rfl, _, _, q5.is, sl5.is, dS_sh _, dl_sh _, dl_nm _ _, _, rfl, ?_⟩
        rw [any_S]
        have gt := grow_take (Ts := bfs st ts i) (S := S) em
        have al := @addS_len (growS (ts.take q) (bfs st ts i) S) (nxtS mt S)
        have oks : ∀ S' ∈ addS (growS (ts.take q) (bfs st ts i) S) (nxtS mt S), SOk n S' := fun S' hS' => by
          rcases addS_mem hS' with z | z
          · exact ok4 _ z
          · rw [z, ← ob.1]; exact SOk.filter _ _
        have eg := addS_get (S := nxtS mt S) e4
        dsimp only
        by_cases hin : nxtS mt S ∈ growS (ts.take q) (bfs st ts i) S
        · rw [decide_eq_true hin]
          (try refine iteF ?_)
          have ad : addS (growS (ts.take q) (bfs st ts i) S) (nxtS mt S) = growS (ts.take q) (bfs st ts i) S := if_pos hin
          refine ⟨_, _, rfl, s4.trans s5, u4.trans s5.t, ?_, ?_, ?_, ?_⟩
          · rw [gt, ad]; exact sl5
          · rw [gt]; omega
          · rw [gt]; exact eg
          · rw [gt]; exact oks
        · rw [decide_eq_false hin]
          (try refine iteT ?_)
          have ad : addS (growS (ts.take q) (bfs st ts i) S) (nxtS mt S) = growS (ts.take q) (bfs st ts i) S ++ [nxtS mt S] := if_neg hin
          obtain ⟨vs5, h5, e5'⟩ := sl5
          refine ⟨_, rfl, .inl ⟨rfl, _, SqL.of h5⟩, _, rfl, ap, vs5, av, rfl, rfl, h5, (by rw [e5'.1]; omega), ?_⟩
          refine ⟨_, _, rfl, fun c o hc => ?_, fun c ws hc => ?_, ?_, ?_, ?_, ?_⟩
          · rw [upd_ne (ne_of_none hc nap0)]; exact s5 _ _ (s4 _ _ hc)
          · have q0 := s5.t _ _ (u4 _ _ hc)
            by_cases z : c = ap
            · subst z; rw [q0] at h5; cases h5
            · rw [upd_ne z]; exact q0
          · rw [gt, ad]; exact SL.push h5 e5' q5
          · rw [gt]; omega
          · rw [gt]; exact eg
          · rw [gt]; exact oks
      · rintro σ H4 ⟨w3, w4, rfl, s4, u4, sl4, l4, e4, ok4⟩
        rw [List.take_length] at sl4 l4 e4 ok4
        rw [← bfs_succ eS] at sl4 l4 e4 ok4
        have run' := run.succ hi l20
        refine ⟨(show (l.length : Int).toNat ≤ ts.length by omega), ?_⟩
        refine ⟨_, rfl, _, _, rfl, rfl, 21 - (i + 1), by omega, i + 1, w3, w4, ?_, rfl, s4, sl4, run', by omega, ok4⟩
        rw [show ((i + 1 : Nat) : Int) = (i : Int) + 1 by omega]
        rfl
    · refine ⟨_, rfl, ?_⟩
      exact k0 i ap H' s3 sl3 run (.inr (by omega))
    · refine ⟨_, rfl, ?_⟩
      exact k0 i ap H' s3 sl3 run (.inl (by omega))
--KEY
/-! the search told as one row of steps -/
def fS (ts : List (List (List Bool))) (k : Nat) (S : List Nat) : List Nat := nxtS (ts.getD k []) S
theorem fS_at {ts : List (List (List Bool))} {k : Nat} {m : List (List Bool)} (h : ts[k]? = some m) (S : List Nat) : fS ts k S = nxtS m S := by rw [fS, List.getD_eq_getElem?_getD, h]; rfl
theorem grow_SI {st : List Bool} {ts : List (List (List Bool))} (hL : ts.length = 1 ∨ ts.length = 2 ∨ ts.length = 3) {i : Nat} {Ts : List (List Nat)} {S : List Nat} (hS : Ts[i]? = some S) (h : ∃ Ws, SI ts.length (fS ts) (fstS st) (i * ts.length) Ts Ws) :
    ∀ q, q ≤ ts.length → (growS (ts.take q) Ts S)[i]? = some S ∧ ∃ Ws, SI ts.length (fS ts) (fstS st) (i * ts.length + q) (growS (ts.take q) Ts S) Ws
  | 0, _ => ⟨hS, h⟩
  | q + 1, hq => by
    obtain ⟨e, Ws, I⟩ := grow_SI hL hS h q (by omega)
    obtain ⟨m, hm⟩ : ∃ m, ts[q]? = some m := ⟨_, List.getElem?_eq_getElem (by omega)⟩
    obtain ⟨d1, d2⟩ := dm2 hL i q (by omega)
    rw [grow_take hm]
    refine ⟨addS_get e, ?_⟩
    have hx : (growS (ts.take q) Ts S)[(i * ts.length + q) / ts.length]? = some S := by rw [d1]; exact e
    have hr : i < Ws.length := by rw [I.len]; exact (List.getElem?_eq_some_iff.mp e).1
    obtain ⟨r, er⟩ : ∃ r, Ws[i]? = some r := ⟨_, List.getElem?_eq_getElem hr⟩
    have ef : fS ts ((i * ts.length + q) % ts.length) S = nxtS m S := by rw [d2]; exact fS_at hm S
    unfold addS
    split
    · rename_i z
      exact ⟨Ws, I.stay hL hx (show fS ts ((i * ts.length + q) % ts.length) S ∈ _ by rw [ef]; exact z)⟩
    · rename_i z
      have := I.more hL hx (r := r) (by rw [d1]; exact er) (show ¬ fS ts ((i * ts.length + q) % ts.length) S ∈ _ by rw [ef]; exact z)
      rw [ef] at this
      exact ⟨_, this⟩
theorem bfs_SI {st : List Bool} {ts : List (List (List Bool))} (hL : ts.length = 1 ∨ ts.length = 2 ∨ ts.length = 3) : ∀ i, Run st ts i → ∃ Ws, SI ts.length (fS ts) (fstS st) (i * ts.length) (bfs st ts i) Ws
  | 0, _ => ⟨[[]], by rw [Nat.zero_mul]; exact SI.start hL⟩
  | i + 1, h => by
    have h' := bfs_SI hL i ⟨fun j hj => h.go j (by omega)⟩
    obtain ⟨S, eS⟩ : ∃ S, (bfs st ts i)[i]? = some S := ⟨_, List.getElem?_eq_getElem (h.go i (by omega)).1⟩
    obtain ⟨_, Ws, I⟩ := grow_SI hL eS h' ts.length (Nat.le_refl _)
    rw [List.take_length, ← bfs_succ eS] at I
    exact ⟨Ws, by rw [Nat.succ_mul]; exact I⟩
theorem SI.wl {L : Nat} {f : Nat → List Nat → List Nat} {x0 : List Nat} {c : Nat} {Ts : List (List Nat)} {Ws : List (List Nat)} (I : SI L f x0 c Ts Ws) (a : Nat) : ∀ w, Ws[a]? = some w → w.length ≤ a := by
  induction a using Nat.strongRecOn with
  | ind a ih =>
    intro w h
    cases a with
    | zero => rw [I.z.2] at h; cases h; exact Nat.le_refl _
    | succ a =>
      obtain ⟨y, hy⟩ : ∃ y, Ts[a + 1]? = some y := ⟨_, List.getElem?_eq_getElem (by rw [← I.len]; exact (List.getElem?_eq_some_iff.mp h).1)⟩
      obtain ⟨e, x, w', _, h2, _, h4, h5, _⟩ := I.par a y hy
      rw [h] at h5
      cases h5
      have := ih (e / L) (by omega) w' h4
      rw [List.length_append]
      simp
      omega
/-- a word, by the places of its letters -/
def lw (l W : List Nat) : List Nat := W.map fun k => l.getD k 0
theorem lw_len (l W : List Nat) : (lw l W).length = W.length := by simp [lw]
theorem lw_mem {l W : List Nat} (h : ∀ k ∈ W, k < l.length) : ∀ x ∈ lw l W, x ∈ l := fun x hx => by
  obtain ⟨k, hk, rfl⟩ := List.mem_map.mp hx
  rw [List.getD_eq_getElem?_getD, List.getElem?_eq_getElem (h k hk)]
  exact List.getElem_mem _
theorem lw_asc {l W : List Nat} (L : LOk l) (h : ∀ k ∈ W, k < l.length) : (tx (lw l W)).cps.all (· < 128) = true := by
  show (lw l W).toArray.all (· < 128) = true
  simp only [List.all_toArray, List.all_eq_true, decide_eq_true_eq]
  exact fun c hc => L.as c (lw_mem h c hc)
def KeyV (W : List Nat) (v : V) (H : Hp) : Prop := ∃ p a, v = .ref p ∧ H p = some (.tup [.int (W.length : Int), .ref a]) ∧ H a = some (.lst ((W.map fun k : Nat => (k : Int)).map V.int))
def sp_key : Sp := fun vs H Q _ => ∃ l W, vs = [vT l, vT (lw l W)] ∧ (LOk l ∧ (∀ k ∈ W, k < l.length) ∧ W.length ≤ 100) ∧ ∀ v H', Same H H' → KeyV W v H' → Q v H'
theorem ok_law_key (T : Txt K mg t) : FnOk Pr w K mg base CX0 1 t.law_key t.d_law_key ["_law_letters_here", "_law_word"] sp_key := by
  refine T.F_law_key.ok sc_law_key (fun vs H Q E h => ?_) (fun cdv A outer s H vs Q E hr h => ?_)
  · obtain ⟨l, W, rfl, _⟩ := h
    rfl
  · obtain ⟨l, W, rfl, ⟨L, hW, hw⟩, k⟩ := h
    have z40 : 1000 < sizeLine := by decide
    have ll : LenV K (vT (lw l W)) H (tx (lw l W)).length := ⟨by rw [tx_len, lw_len]; omega, rfl⟩
    rw [tx_len, lw_len] at ll
    refine ⟨_, (pss_one (ps_ret (pe_tup (pa_cons (pe_callB call_len (by rfl) T.z_len PySem.boot_len (pa_cons (pv 1) pa_nil)) (pa_cons (pe_comp (xs := ["_law_letter"]) rfl (show CompOk ["_law_letters_here", "_law_word"] (defScope s_law_key) _ from ⟨rfl, by decide +kernel, by decide +kernel, by decide +kernel, by decide +kernel, by decide +kernel⟩) (pi_str (pv 1)) (fun _ _ _ _ _ => (pg_name (i := 2) (by show List.Nodup (["_law_letters_here", "_law_word", "_law_letter"] : List Str); decide +kernel) rfl (Or.inl rfl))) (fun _ _ _ _ _ => (show PE _ _ (tBM K "str" rIndexS _ _) from (pe_bm PySem.F.plainAttrs_str PySem.F.slot_str_index PySem.F.type_str_index mt_indexS (pv 0) (pa_cons (pv 2) pa_nil))))) pa_nil))))), ?_⟩
    refine ⟨_, rfl, _, _, rfl, ll, _, rfl, _, rfl, lw_asc L hW, comp_go (n := W.length) (fun j ys H2 => H2 = H ∧ ys = ((W.take j).map fun k : Nat => (k : Int)).map V.int ∧ ys.length = j) (by omega) ⟨rfl, rfl, rfl⟩ (fun j ys H2 q => q.2.2) ?_ ?_ ?_⟩
    · rintro j ys H2 hj ⟨rfl, rfl, e⟩
      refine ⟨(by show j < (lw l W).toArray.size; simpa [lw] using hj), fun y H' hy => ?_⟩
      obtain ⟨rfl, c, hc, rfl⟩ := hy
      have hk := hW W[j] (List.getElem_mem hj)
      have ec : c = l[W[j]] := by
        have : (lw l W)[j]? = some c := by simpa [tx] using hc
        rw [lw, List.getElem?_map, List.getElem?_eq_getElem hj] at this
        simp [hk] at this
        exact this.symm
      have oc := occ_of L (x := c) (by rw [ec]; exact List.getElem_mem _)
      have ix : l.idxOf c = W[j] := by rw [ec]; exact L.nd.idxOf_getElem _ _
      rw [ix] at oc
      refine ⟨⟨[some _], rfl, rfl⟩, _, rfl, rfl, _, rfl, _, _, _, _, rfl, rfl, oc, rfl, ?_, by rw [List.length_append, e]; rfl⟩
      rw [List.take_succ, List.getElem?_eq_getElem hj, List.map_append, List.map_append]
      rfl
    · rintro ys H2 ⟨rfl, rfl, e⟩
      show (lw l W).toArray.size ≤ W.length
      simp [lw]
    · rintro ys H2 lp ⟨rfl, rfl, e⟩ nl
      rw [List.take_length]
      have t1 := same_upd (o := .lst ((W.map fun k : Nat => (k : Int)).map V.int)) nl
      refine ⟨(by show 2 ≤ sizeLine; decide), fun p np => ?_⟩
      have t2 := same_upd (o := .tup [.int (W.length : Int), .ref lp]) np
      exact k _ _ (t1.trans t2) ⟨p, lp, rfl, upd_same, t2 _ _ upd_same⟩
--WALK
/-! the law's own walk through the answer -/
def rowS (ts : List (List (List Bool))) (S : List Nat) : List (List Nat) := (List.range ts.length).map fun k => fS ts k S
def RL (ts : List (List (List Bool))) (sp : Addr) (S : List Nat) (u : V) (H : Hp) : Prop := ∃ a, u = .ref a ∧ a ≠ sp ∧ SL (rowS ts S) a H
theorem SL.samx {Ts : List (List Nat)} {a b : Addr} {H H' : Hp} (s : SameX b H H') (n : a ≠ b) (l : ∃ xs, H b = some (.lst xs)) (h : SL Ts a H) : SL Ts a H' := by
  obtain ⟨vs, h, e⟩ := h
  obtain ⟨xs, l⟩ := l
  have st : SameT H H' := fun p ws hp => s p _ (fun z => by subst z; rw [hp] at l; cases l) hp
  exact ⟨vs, s _ _ n h, e.mono fun _ _ _ ⟨S, a1, a2⟩ => ⟨S, a1, a2.same st⟩⟩
structure WI (ts : List (List (List Bool))) (st : List Bool) (Ts Ws : List (List Nat)) (N : Nat) : Prop where
  I : SI ts.length (fS ts) (fstS st) (N * ts.length) Ts Ws
  cl : Ts.length ≤ N
  l20 : Ts.length ≤ 20
theorem WI.in {ts : List (List (List Bool))} {st : List Bool} {Ts Ws : List (List Nat)} {N : Nat} (h : WI ts st Ts Ws N) (hL : ts.length = 1 ∨ ts.length = 2 ∨ ts.length = 3) {j k : Nat} {S : List Nat} (hS : Ts[j]? = some S) (hk : k < ts.length) : fS ts k S ∈ Ts := by
  have hj : j < Ts.length := (List.getElem?_eq_some_iff.mp hS).1
  obtain ⟨d1, d2⟩ := dm2 hL j k hk
  have := h.I.cl (j * ts.length + k) S (by
    have hc := h.cl
    have : (j + 1) * ts.length ≤ N * ts.length := Nat.mul_le_mul_right _ (by omega)
    rw [Nat.succ_mul] at this
    omega) (by rw [d1]; exact hS)
  rw [d2] at this
  exact this
theorem count_S : ∀ {Ts : List (List Nat)} {S : List Nat}, Ts.Nodup → S ∈ Ts → ((Ts.map dS).countP fun y => PySem.Spec.same y (dS S)) = 1
  | [], _, _, h => by cases h
  | x :: Ts, S, nd, h => by
    rw [List.nodup_cons] at nd
    rw [List.map_cons, List.countP_cons]
    by_cases e : x = S
    · subst e
      rw [if_pos (same_refl _)]
      have z : ((Ts.map dS).countP fun y => PySem.Spec.same y (dS x)) = 0 := by
        rw [List.countP_eq_zero]
        intro y hy q
        obtain ⟨S', h1, rfl⟩ := List.mem_map.mp hy
        exact nd.1 (dS_inj (eq_of_same _ _ q) ▸ h1)
      rw [z]
    · rw [if_neg (fun q => e (dS_inj (eq_of_same _ _ q)))]
      exact count_S nd.2 ((List.mem_cons.mp h).resolve_left fun q => e q.symm)
theorem all_true (n : Nat) : (List.replicate n true).all id = true := by rw [List.all_eq_true]; exact fun b hb => (List.mem_replicate.mp hb).2
theorem rowS_at {ts : List (List (List Bool))} {S : List Nat} {k : Nat} (h : k < ts.length) : (rowS ts S)[k]? = some (fS ts k S) := by
  rw [rowS, List.getElem?_map, List.getElem?_range h]; rfl
def sp_walked : Sp := fun vs H Q _ => ∃ mv ap l n st ts en Ts Ws N, vs = [mv, .ref ap] ∧ (BM l st ts en mv H ∧ BMok l n st ts en ∧ SL Ts ap H ∧ WI ts st Ts Ws N ∧ ∀ S ∈ Ts, SOk n S) ∧ ∀ H', Same H H' → Q (.bl true) H'
theorem ok_law_walked (T : Txt K mg t) : FnOk Pr w K mg base CX0 3 t.law_walked t.d_law_walked ["_law_machine_here", "_law_answer"] sp_walked := by
  refine T.F_law_walked.ok sc_law_walked (fun vs H Q E h => ?_) (fun cdv A outer s H vs Q E hr h => ?_)
  · obtain ⟨mv, ap, l, n, st, ts, en, Ts, Ws, N, rfl, _⟩ := h
    rfl
  · obtain ⟨mv, ap, l, n, st, ts, en, Ts, Ws, N, rfl, ⟨hM, O, hT, WW, oks⟩, k⟩ := h
    have z40 : 1000 < sizeLine := by decide
    have l3 := O.lk.h3
    have l1 := O.lk.h1
    have tl := O.tl
    have l20 := WW.l20
    have hL : ts.length = 1 ∨ ts.length = 2 ∨ ts.length = 3 := by omega
    obtain ⟨p, sv, tv, ev, rfl, hp, h1, h2, h3⟩ := id hM
    have t0 := WW.I.z.1
    have tpos : 0 < Ts.length := (List.getElem?_eq_some_iff.mp t0).1
    obtain ⟨vs0, u0, hv0, e0, q0⟩ := hT.at t0
    refine ⟨_, (pss_cons (ps_set (i := 2) sc_law_walked.nd rfl (Or.inl rfl) (pe_ix ix_tup (pv 0) pe_int (fun _ _ => rfl))) (pss_cons (ps_if (PW.pt (pw_or (pt_not (pt_val (pe_callB call_isi (by rfl) T.z_isinstance boot_isinstance (pa_cons (pv 1) (pa_cons (pe_bltn (v := .ty "list") rfl T.z_list boot_list rfl) pa_nil))))) (pw_or (pt_cmpR (op_eqD hr.units) (pv 1) (pe_lst pa_nil) (nomark _)) (pw_or1 (pt_cmpR (op_neD hr.units) (pe_ix ix_list (pv 1) pe_int (fun _ _ => rfl)) (pe_call (ok_law_first T) (hr.mono (by decide)) rfl T.m_law_first T.F_law_first.kp T.b_law_first .nil pass0 (pa_cons (pv 0) pa_nil)) (nomark _)))))) (pss_one (ps_ret pe_bl)) pss_nil) (pss_cons (ps_set (i := 3) sc_law_walked.nd rfl (Or.inl rfl) (pe_lst pa_nil)) (pss_cons (ps_for PassesOwn.never rfl (pi_list (pv 1)) (pg_name (i := 4) sc_law_walked.nd rfl (Or.inr rfl)) (pss_cons (ps_if (PW.pt (pw_or (pt_not (pt_val (pe_callB call_isi (by rfl) T.z_isinstance boot_isinstance (pa_cons (pv 4) (pa_cons (pe_bltn (v := .ty "tuple") rfl T.z_tuple boot_tuple rfl) pa_nil))))) (pw_or1 (pt_cmpR op_ne (pe_bm PySem.F.plainAttrs_list PySem.F.slot_list_count PySem.F.type_list_count (mt_count hr.units1) (pv 1) (pa_cons (pv 4) pa_nil)) pe_int (nomark _))))) (pss_one (ps_ret pe_bl)) pss_nil) (pss_cons (ps_expr (pe_bm PySem.F.plainAttrs_list PySem.F.slot_list_append PySem.F.type_list_append mt_append (pv 3) (pa_cons (pe_hide 9 "#1" (pe_comp (xs := ["_law_k"]) rfl (show CompOk ["_law_machine_here", "_law_answer", "_law_letters_here", "_law_steps", "_law_some", "_law_met", "_law_at", "_law_best", "_law_j", "#1", "_law_word"] (defScope s_law_walked) _ from ⟨rfl, by decide +kernel, by decide +kernel, by decide +kernel, by decide +kernel, by decide +kernel⟩) (pi_range1 rfl T.z_range (pa_cons (pe_callB call_len (by rfl) T.z_len PySem.boot_len (pa_cons (pv 2) pa_nil)) pa_nil)) (fun _ _ _ _ _ => (pg_name (i := 11) (by show List.Nodup (["_law_machine_here", "_law_answer", "_law_letters_here", "_law_steps", "_law_some", "_law_met", "_law_at", "_law_best", "_law_j", "#1", "_law_word", "_law_k"] : List Str); decide +kernel) rfl (Or.inl rfl))) (fun _ _ _ _ _ => (pe_call (ok_law_after (w := w) (base := base) T) (hr.mono (by decide)) rfl T.m_law_after T.F_law_after.kp T.b_law_after .nil pass0 (pa_cons (pv 0) (pa_cons (pv 4) (pa_cons (pv 11) pa_nil))))))) pa_nil))) (pss_one (ps_if (pt_not (pt_val (pe_callB (call_all rfl) (by rfl) T.z_all boot_all (pa_cons (pe_comp (xs := ["_law_other"]) rfl (show CompOk ["_law_machine_here", "_law_answer", "_law_letters_here", "_law_steps", "_law_some", "_law_met", "_law_at", "_law_best", "_law_j", "_law_k", "_law_word"] (defScope s_law_walked) _ from ⟨rfl, by decide +kernel, by decide +kernel, by decide +kernel, by decide +kernel, by decide +kernel⟩) (pi_list (pe_ix ix_list (pv 3) (pe_un un_neg pe_int) (fun _ _ => rfl))) (fun _ _ _ _ _ => (pg_name (i := 11) (by show List.Nodup (["_law_machine_here", "_law_answer", "_law_letters_here", "_law_steps", "_law_some", "_law_met", "_law_at", "_law_best", "_law_j", "_law_k", "_law_word", "_law_other"] : List Str); decide +kernel) rfl (Or.inl rfl))) (fun _ _ _ _ _ => (pe_cmpR (show OpR _ (compareOp .In) (rInD K false) from op_inD hr.units1) (pv 11) (pv 1) (by with_unfolding_all rfl)))) pa_nil)))) (pss_one (ps_ret pe_bl)) pss_nil))))) (pss_cons (ps_set (i := 5) sc_law_walked.nd rfl (Or.inl rfl) (pe_lst (pa_cons pe_str pa_nil))) (pss_cons (ps_for PassesOwn.never rfl (pi_range2 rfl T.z_range (pa_cons pe_int (pa_cons (pe_callB call_len (by rfl) T.z_len PySem.boot_len (pa_cons (pv 1) pa_nil)) pa_nil))) (pg_name (i := 6) sc_law_walked.nd rfl (Or.inl rfl)) (pss_cons (ps_set (i := 7) sc_law_walked.nd rfl (Or.inl rfl) pe_non) (pss_cons (ps_for PassesOwn.never rfl (pi_range1 rfl T.z_range (pa_cons (pv 6) pa_nil)) (pg_name (i := 8) sc_law_walked.nd rfl (Or.inl rfl)) (pss_one (ps_for PassesOwn.never rfl (pi_range1 rfl T.z_range (pa_cons (pe_callB call_len (by rfl) T.z_len PySem.boot_len (pa_cons (pv 2) pa_nil)) pa_nil)) (pg_name (i := 9) sc_law_walked.nd rfl (Or.inl rfl)) (pss_cons (ps_set (i := 10) sc_law_walked.nd rfl (Or.inl rfl) (pe_op op_add_str (pe_ix ix_list (pv 5) (pv 8) (fun _ _ => rfl)) (pe_ix ix_str (pv 2) (pv 9) (fun _ _ => rfl)))) (pss_cons (ps_if (pt_cmpR (op_neD hr.units) (pe_ix ix_list (pe_ix ix_list (pv 3) (pv 8) (fun _ _ => rfl)) (pv 9) (fun _ _ => rfl)) (pe_ix ix_list (pv 1) (pv 6) (fun _ _ => rfl)) (nomark _)) (pss_one ps_continue) pss_nil) (pss_one (ps_if (PW.pt (pw_or (pt_cmpR op_isN (pv 7) pe_non (nomark _)) (pw_or1 (pt_cmpR (op_keyLt hr.units1) (pe_call (ok_law_key T) (hr.mono (by decide)) rfl T.m_law_key T.F_law_key.kp T.b_law_key .nil pass0 (pa_cons (pv 2) (pa_cons (pv 10) pa_nil))) (pe_call (ok_law_key T) (hr.mono (by decide)) rfl T.m_law_key T.F_law_key.kp T.b_law_key .nil pass0 (pa_cons (pv 2) (pa_cons (pv 7) pa_nil))) (nomark _))))) (pss_one (ps_set (i := 7) sc_law_walked.nd rfl (Or.inl rfl) (pv 10))) pss_nil))))))) (pss_cons (ps_if (PW.pt (pw_or (pt_cmpR op_isN (pv 7) pe_non (nomark _)) (pw_or1 (pt_cmpR (op_keyLe hr.units1) (pe_call (ok_law_key T) (hr.mono (by decide)) rfl T.m_law_key T.F_law_key.kp T.b_law_key .nil pass0 (pa_cons (pv 2) (pa_cons (pv 7) pa_nil))) (pe_call (ok_law_key T) (hr.mono (by decide)) rfl T.m_law_key T.F_law_key.kp T.b_law_key .nil pass0 (pa_cons (pv 2) (pa_cons (pe_ix ix_list (pv 5) (pe_un un_neg pe_int) (fun _ _ => rfl)) pa_nil))) (nomark _))))) (pss_one (ps_ret pe_bl)) pss_nil) (pss_one (ps_expr (pe_bm PySem.F.plainAttrs_list PySem.F.slot_list_append PySem.F.type_list_append mt_append (pv 5) (pa_cons (pv 7) pa_nil)))))))) (pss_one (ps_ret pe_bl)))))))), ?_⟩
    refine ⟨_, rfl, _, _, _, _, rfl, rfl, SqT.of hp, rfl, ?_⟩
    refine ⟨_, rfl, _, _, _, _, rfl, TyOf.lst hv0, T.k_ll, _, rfl, ?_⟩
    (try refine iteF ?_)
    refine ⟨_, rfl, Nat.zero_le _, fun np nnp => ?_⟩
    have t1 := same_upd (o := .lst []) nnp
    have hT1 : SL Ts ap (upd H np (.lst [])) := by
      obtain ⟨vs, h, e⟩ := hT
      exact ⟨vs, t1 _ _ h, e.mono fun _ _ _ ⟨S, a1, a2⟩ => ⟨S, a1, a2.same t1.t⟩⟩
    refine ⟨_, .list [], hT1.is, .lst (SqL.of upd_same) .nil, dl_sh _, rfl, by cases Ts <;> simp [noMix, noMixAll], _, rfl, ?_⟩
    have e1 : PySem.Spec.same (.list (Ts.map dS)) (.list []) = false := by
      cases Ts with
      | nil => simp at tpos
      | cons _ _ => simp [PySem.Spec.same, PySem.Spec.sameAll]
    dsimp only
    rw [e1]
    (try refine iteF ?_)
    obtain ⟨vs1, u1, hv1, e1', q1⟩ := hT1.at t0
    refine ⟨_, rfl, _, _, _, _, rfl, rfl, SqL.of hv1, atI_nat e1', _, rfl, .ref p, l, n, st, ts, en, rfl, ⟨hM.same t1.t, O⟩, fun fv H2 s2 q2 => ?_⟩
    refine ⟨_, _, (q1.same s2.t).is, q2.is, dS_sh _, dS_sh _, dS_nm _ _, _, rfl, ?_⟩
    dsimp only
    rw [same_refl]
    (try refine iteF ?_)
    have s02 := t1.trans s2
    have hT2 : SL Ts ap H2 := by
      obtain ⟨vs, h, e⟩ := hT
      exact ⟨vs, s02 _ _ h, e.mono fun _ _ _ ⟨S, a1, a2⟩ => ⟨S, a1, a2.same s02.t⟩⟩
    clear hT1 t1 s2 q2 q1 hv1 e1' nnp
    refine ⟨Nat.zero_le _, fun sp nsp => ?_⟩
    have nsp0 : H sp = none := by
      cases e : H sp with
      | none => rfl
      | some o => rw [s02 _ _ e] at nsp; cases nsp
    have t3 := same_upd (o := .lst []) nsp
    have s03 := s02.trans t3
    have k3 := upd_same (H := H2) (a := sp) (o := .lst [])
    clear t3 nsp s02 hT2
    revert s03 k3
    generalize upd H2 sp (.lst []) = H3
    intro s03 k3
    have sT : ∀ {G : Hp}, Same H G → SL Ts ap G := fun {G} g => by
      obtain ⟨vs, h, e⟩ := hT
      exact ⟨vs, g _ _ h, e.mono fun _ _ _ ⟨S, a1, a2⟩ => ⟨S, a1, a2.same g.t⟩⟩
    refine ⟨_, rfl, ap, rfl, ⟨_, SqL.of (s03 _ _ hv0)⟩, for_it (n := Ts.length) (fun i σ G => ∃ v4 ys, σ = [some (.ref p), some (.ref ap), some (vT l), some (.ref sp), v4, none, none, none, none, none, none] ∧ Same H G ∧ G sp = some (.lst ys) ∧ Ents (fun i u H => ∃ S, Ts[i]? = some S ∧ RL ts sp S u H) ys i G) ⟨_, [], rfl, s03, k3, Ents.nil⟩ ?_ ?_⟩
    · rintro i σ G hi ⟨v4, ys, rfl, sG, kG, eG⟩
      obtain ⟨S, eS⟩ : ∃ S, Ts[i]? = some S := ⟨_, List.getElem?_eq_getElem hi⟩
      obtain ⟨vs, u, hv, eu, q⟩ := (sT sG).at eS
      refine ⟨⟨_, _, SqL.of hv, eu⟩, fun y G4 hy => ?_⟩
      obtain ⟨rfl, hy⟩ := hy
      have := hy _ (SqL.of hv)
      rw [eu] at this
      cases this
      obtain ⟨up, rfl, hu⟩ := id q
      refine ⟨_, rfl, _, _, _, _, rfl, TyOf.tup hu, T.k_tt, _, rfl, ?_⟩
      (try refine iteF ?_)
      refine ⟨_, rfl, .inl ⟨rfl, _, SqL.of hv⟩, _, rfl, _, _, _, rfl, q.is, (sT sG).is, dS_sh _, dl_sh _, dl_nm _ _, ?_⟩
      rw [count_S WW.I.nd (List.mem_of_getElem? eS)]
      refine ⟨rfl, _, rfl, ?_⟩
      dsimp only
      refine iteNI (fun z => absurd rfl z) (fun _ => ?_)
      have ll : LenV K (vT l) G4 (tx l).length := ⟨by rw [tx_len]; omega, rfl⟩
      rw [tx_len] at ll
      refine ⟨_, rfl, .inl ⟨rfl, _, SqL.of kG⟩, rfl, _, rfl, _, _, rfl, ll, _, rfl, (by omega), (by omega), comp_go (n := ts.length) (fun j zs F => Same G4 F ∧ Ents (fun i u H => ST (fS ts i S) u H) zs j F) (by omega) ⟨Same.refl _, Ents.nil⟩ (fun j zs F q => q.2.1) ?_ ?_ ?_⟩
      · rintro j zs F hj ⟨sF, eF⟩
        refine ⟨(show j < (l.length : Int).toNat by omega), fun y F' hy => ?_⟩
        obtain ⟨rfl, rfl⟩ := hy
        obtain ⟨m, em⟩ : ∃ m, ts[j]? = some m := ⟨_, List.getElem?_eq_getElem hj⟩
        refine ⟨⟨[some _], rfl, rfl⟩, _, rfl, _, rfl, _, rfl, .ref p, .ref up, j, l, n, st, ts, en, m, S, (by rw [show (0 : Int) + (j : Int) = (j : Int) by omega]; rfl), ⟨hM.same (sG.trans sF).t, O, q.same sF.t, em, oks _ (List.mem_of_getElem? eS)⟩, fun v F2 s2 q2 => ?_⟩
        exact ⟨sF.trans s2, (eF.mono fun _ _ _ q => q.same s2.t).snoc (by rw [fS_at em]; exact q2)⟩
      · rintro zs F ⟨sF, eF⟩
        show (l.length : Int).toNat ≤ ts.length
        omega
      · rintro zs F lp ⟨sF, eF⟩ nl
        have t5 := same_upd (o := .lst zs) nl
        have s5 := sF.trans t5
        have nls : lp ≠ sp := fun z => by
          subst z
          rw [sF _ _ kG] at nl; cases nl
        have hl : SL (rowS ts S) lp (upd F lp (.lst zs)) := ⟨zs, upd_same, by rw [rowS, List.length_map, List.length_range]; exact eF.mono fun k u hk q => ⟨_, rowS_at hk, q.same t5.t⟩⟩
        have k5 := s5 _ _ kG
        clear t5 nl sF
        revert s5 hl k5
        generalize upd F lp (.lst zs) = F5
        intro s5 hl k5
        refine ⟨sp, ys, _, rfl, rfl, k5, (by rw [eG.1]; omega), ?_⟩
        have x6 : SameX sp F5 (upd F5 sp (.lst (ys ++ [.ref lp]))) := SameX.upd
        have hl6 := hl.samx x6 nls ⟨_, k5⟩
        have k6 := upd_same (H := F5) (a := sp) (o := .lst (ys ++ [.ref lp]))
        have s06 : Same H (upd F5 sp (.lst (ys ++ [.ref lp]))) := fun c o hc => by rw [upd_ne (ne_of_none hc nsp0)]; exact s5 _ _ (sG _ _ hc)
        have e6 : Ents (fun i u H => ∃ S, Ts[i]? = some S ∧ RL ts sp S u H) (ys ++ [.ref lp]) (i + 1) (upd F5 sp (.lst (ys ++ [.ref lp]))) := by
          refine (eG.mono fun j u _ ⟨S', a1, b, a2, a3, a4⟩ => ⟨S', a1, b, a2, a3, ?_⟩).snoc ⟨S, eS, lp, rfl, nls, hl6⟩
          refine SL.samx x6 a3 ⟨_, k5⟩ ?_
          obtain ⟨vs, h, e⟩ := a4
          exact ⟨vs, s5 _ _ h, e.mono fun _ _ _ ⟨S, b1, b2⟩ => ⟨S, b1, b2.same s5.t⟩⟩
        clear x6 k5 hl
        revert hl6 k6 s06 e6
        generalize upd F5 sp (.lst (ys ++ [.ref lp])) = F6
        intro hl6 k6 s06 e6
        obtain ⟨rvs, hrow, erow⟩ := hl6
        have lrow : (rowS ts S).length = ts.length := by rw [rowS, List.length_map, List.length_range]
        rw [lrow] at erow
        refine ⟨_, rfl, _, rfl, _, _, _, _, rfl, rfl, SqL.of k6, atI_last _ _, lp, rfl, ⟨_, SqL.of hrow⟩, comp_go (n := ts.length) (fun j zs F => F = F6 ∧ zs = (List.replicate j true).map V.bl) (by omega) ⟨rfl, rfl⟩ (fun j zs F q => by rw [q.2]; simp) ?_ ?_ ?_⟩
        · rintro j zs F hj ⟨rfl, rfl⟩
          obtain ⟨u', eu', S', eS', qS'⟩ := erow.2 j hj
          refine ⟨⟨_, _, SqL.of hrow, eu'⟩, fun y F' hy => ?_⟩
          obtain ⟨rfl, hy⟩ := hy
          have := hy _ (SqL.of hrow)
          rw [eu'] at this
          cases this
          rw [rowS_at hj] at eS'
          cases eS'
          have hin := WW.in hL eS hj
          refine ⟨⟨[some _], rfl, rfl⟩, _, rfl, _, rfl, _, _, qS'.is, (sT s06).is, dS_sh _, dl_sh _, dl_nm _ _, rfl, ?_⟩
          rw [any_S, decide_eq_true hin, List.replicate_succ', List.map_append]
          rfl
        · rintro zs F ⟨rfl, rfl⟩
          exact ⟨_, SqL.of hrow, by rw [erow.1]; exact Nat.le_refl _⟩
        · rintro zs F l7 ⟨rfl, rfl⟩ n7
          have t7 := same_upd (o := .lst ((List.replicate ts.length true).map V.bl)) n7
          refine ⟨l7, List.replicate ts.length true, rfl, SqL.of upd_same, true, congrArg V.bl (all_true ts.length), ?_⟩
          (try refine iteF ?_)
          refine ⟨_, _, rfl, s06.trans t7, t7 _ _ k6, e6.mono fun j u _ ⟨S', a1, b, a2, a3, a4⟩ => ⟨S', a1, b, a2, a3, ?_⟩⟩
          obtain ⟨vs, h, e⟩ := a4
          exact ⟨vs, t7 _ _ h, e.mono fun _ _ _ ⟨S, b1, b2⟩ => ⟨S, b1, b2.same t7.t⟩⟩
    · rintro σ G ⟨v4, ys, rfl, sG, kG, eG⟩
      refine ⟨⟨_, SqL.of (sG _ _ hv0), ?_⟩, ?_⟩
      · obtain ⟨vs, h, e⟩ := hT
        rw [hv0] at h
        cases h
        rw [e.1]
        exact Nat.le_refl _
      refine ⟨(by show 1 ≤ sizeLine; decide), fun mp nmp => ?_⟩
      have t8 := same_upd (o := .lst [.str (Str.ofString "")]) nmp
      have k8 := upd_same (H := G) (a := mp) (o := .lst [.str (Str.ofString "")])
      have s08 := sG.trans t8
      have kS := t8 _ _ kG
      have nmp0 : H mp = none := by
        cases e : H mp with
        | none => rfl
        | some o => rw [sG _ _ e] at nmp; cases nmp
      have nsm : sp ≠ mp := fun z => by rw [z] at kG; rw [kG] at nmp; cases nmp
      have e8 : Ents (fun i u H => ∃ S, Ts[i]? = some S ∧ RL ts mp S u H) ys Ts.length (upd G mp (.lst [.str (Str.ofString "")])) := eG.mono fun j u _ ⟨S', a1, b, a2, a3, a4⟩ => by
        obtain ⟨vs, h, e⟩ := a4
        exact ⟨S', a1, b, a2, ne_of_none h nmp, vs, t8 _ _ h, e.mono fun _ _ _ ⟨S, b1, b2⟩ => ⟨S, b1, b2.same t8.t⟩⟩
      have m0 : [V.str (Str.ofString "")] = (Ws.take 1).map fun W => vT (lw l W) := by
        have z := WW.I.z.2
        cases Ws with
        | nil => cases z
        | cons a b =>
          have : a = [] := by simpa using z
          subst this
          rw [em_is]
          rfl
      clear t8 nmp kG eG sG
      revert k8 s08 kS e8
      generalize upd G mp (.lst [.str (Str.ofString "")]) = H8
      intro k8 s08 kS e8
      rw [m0] at k8
      have lT : LenV K (.ref ap) H8 Ts.length := (sT s08).len
      refine ⟨_, rfl, _, _, rfl, lT, _, _, rfl, ⟨by omega, by omega, by omega, by omega⟩, for_it (n := Ts.length - 1) (fun i σ G => ∃ v4 v6 v7 v8 v9 v10, σ = [some (.ref p), some (.ref ap), some (vT l), some (.ref sp), v4, some (.ref mp), v6, v7, v8, v9, v10] ∧ Same H G ∧ G sp = some (.lst ys) ∧
        Ents (fun i u H => ∃ S, Ts[i]? = some S ∧ RL ts mp S u H) ys Ts.length G ∧ G mp = some (.lst ((Ws.take (i + 1)).map fun W => vT (lw l W)))) ⟨_, _, _, _, _, _, rfl, s08, kS, e8, k8⟩ ?_ ?_⟩
      · rintro i σ G hi ⟨v4, v6, v7, v8, v9, v10, rfl, sG, kG, eG, mG⟩
        have hi1 : i + 1 < Ts.length := by omega
        obtain ⟨y, ey⟩ : ∃ y, Ts[i + 1]? = some y := ⟨_, List.getElem?_eq_getElem hi1⟩
        obtain ⟨e0, x, wp, f1, f2, f3, f4, f5, f6, f7⟩ := WW.I.par i y ey
        have Va : vw ts.length 0 (wp ++ [e0 % ts.length]) = ts.length * vw ts.length 0 wp + e0 % ts.length + 1 := vw_snoc _ _ _ _
        have e0i : e0 < (i + 1) * ts.length := by
          rcases hL with z | z | z <;> rw [z] at f2 ⊢ <;> omega
        refine ⟨(show i < ((Ts.length : Int) - 1).toNat by omega), fun yv G4 hy => ?_⟩
        obtain ⟨rfl, rfl⟩ := hy
        have at1 : (1 : Int) + (i : Int) = ((i + 1 : Nat) : Int) := by omega
        rw [at1]
        refine ⟨_, rfl, _, rfl, (by omega), (by omega), for_it (n := i + 1) (fun j σ F => ∃ v8 v9 v10, σ = [some (.ref p), some (.ref ap), some (vT l), some (.ref sp), v4, some (.ref mp), some (.int ((i + 1 : Nat) : Int)), some (if e0 < j * ts.length then vT (lw l (wp ++ [e0 % ts.length])) else .non), v8, v9, v10] ∧ Same G4 F) ⟨_, _, _, (by rw [Nat.zero_mul, if_neg (Nat.not_lt_zero _)]; rfl), Same.refl _⟩ ?_ ?_⟩
        · rintro j σ F hj ⟨v8, v9, v10, rfl, sF⟩
          refine ⟨(show j < ((i + 1 : Nat) : Int).toNat by omega), fun yv F4 hy => ?_⟩
          obtain ⟨rfl, rfl⟩ := hy
          obtain ⟨u1, eu1, Sj, eSj, ra, rfl, _, hra⟩ := eG.2 j (by omega)
          obtain ⟨wj, ewj⟩ : ∃ wj, Ws[j]? = some wj := ⟨_, List.getElem?_eq_getElem (by rw [WW.I.len]; omega)⟩
          have dwj := WW.I.dg wj (List.mem_of_getElem? ewj)
          have lwj := SI.wl WW.I j wj ewj
          have ll : LenV K (vT l) F4 (tx l).length := ⟨by rw [tx_len]; omega, rfl⟩
          rw [tx_len] at ll
          refine ⟨_, rfl, _, _, rfl, ll, _, rfl, (by omega), (by omega), for_it (n := ts.length) (fun k σ F => ∃ v9 v10, σ = [some (.ref p), some (.ref ap), some (vT l), some (.ref sp), v4, some (.ref mp), some (.int ((i + 1 : Nat) : Int)), some (if e0 < j * ts.length + k then vT (lw l (wp ++ [e0 % ts.length])) else .non), some (.int (0 + (j : Int))), v9, v10] ∧ Same G4 F) ⟨_, _, rfl, sF⟩ ?_ ?_⟩
          · rintro kk σ F ek ⟨v9, v10, rfl, sF⟩
            refine ⟨(show kk < (l.length : Int).toNat by omega), fun yv F5 hy => ?_⟩
            obtain ⟨rfl, rfl⟩ := hy
            obtain ⟨d1, d2⟩ := dm2 hL j kk ek
            obtain ⟨rvs, u2, hrv, eu2, qu2⟩ := hra.at (rowS_at ek)
            obtain ⟨avs, u3, hav, eu3, qu3⟩ := (sT (sG.trans sF)).at ey
            have hkl : kk < l.length := by omega
            have em : ((Ws.take (i + 1)).map fun W => vT (lw l W))[j]? = some (vT (lw l wj)) := by
              rw [List.getElem?_map, List.getElem?_take_of_lt hj, ewj]; rfl
            have z0 : ∀ q : Nat, (0 : Int) + (q : Int) = (q : Int) := fun q => by omega
            have ac : atI (tx l).cps.toList ((0 : Int) + (kk : Int)) = some l[kk] := by
              rw [z0]; exact atI_nat (by show l.toArray.toList[kk]? = some l[kk]; simp [hkl])
            refine ⟨_, rfl, _, rfl, _, _, _, _, rfl, rfl, SqL.of (sF _ _ mG), (by rw [z0]; exact atI_nat em), _, rfl, _, rfl, _, _, _, rfl, rfl, (by rw [tx_len]; omega), ac, _, _, rfl, rfl, (by show (tx (lw l wj)).length + 1 ≤ _; rw [tx_len, lw_len]; omega), ?_⟩
            have ew : tx (lw l wj) ++ (⟨#[l[kk]]⟩ : Str) = tx (lw l (wj ++ [kk])) := by
              rw [show (⟨#[l[kk]]⟩ : Str) = tx [l[kk]] from rfl, tx_app]
              congr 1
              simp [lw, hkl]
            rw [ew]
            refine ⟨_, rfl, _, rfl, _, _, _, _, rfl, rfl, SqL.of (sF _ _ kG), (by rw [z0]; exact atI_nat eu1), _, rfl, _, _, _, _, rfl, rfl, SqL.of (sF _ _ hrv), (by rw [z0]; exact atI_nat eu2), _, rfl, _, rfl, _, _, _, _, rfl, rfl, SqL.of hav, atI_nat eu3, _, _, (qu2.same sF.t).is, qu3.is, dS_sh _, dS_sh _, dS_nm _ _, _, rfl, ?_⟩
            dsimp only
            have dwp := WW.I.dg wp (List.mem_of_getElem? f4)
            have lwp := SI.wl WW.I _ wp f4
            have L0 : 0 < ts.length := by omega
            have de : e0 % ts.length < ts.length := Nat.mod_lt _ L0
            have dA : ∀ x ∈ wp ++ [e0 % ts.length], x < l.length := fun x hx => by
              rw [← tl]
              rcases List.mem_append.mp hx with hx | hx
              · exact dwp x hx
              · rw [List.mem_singleton.mp hx]; exact de
            have dB : ∀ x ∈ wj ++ [kk], x < l.length := fun x hx => by
              rw [← tl]
              rcases List.mem_append.mp hx with hx | hx
              · exact dwj x hx
              · rw [List.mem_singleton.mp hx]; exact ek
            by_cases hyy : fS ts kk Sj = y
            · rw [hyy, same_refl]
              (try refine iteF ?_)
              by_cases lt : e0 < j * ts.length + kk
              · rw [if_pos lt]
                have hV : vw ts.length 0 (wp ++ [e0 % ts.length]) < vw ts.length 0 (wj ++ [kk]) := by
                  rw [vw_snoc, vw_snoc]
                  have dmn := div_mono hL (Nat.le_of_lt lt)
                  rw [d1] at dmn
                  by_cases ee : e0 / ts.length = j
                  · rw [ee, ewj] at f4
                    cases f4
                    have : e0 % ts.length < kk := by
                      rcases hL with z | z | z <;> rw [z] at lt ee ek ⊢ <;> omega
                    omega
                  · have lq := SI.lt WW.I (j - e0 / ts.length - 1) (e0 / ts.length) wp wj f4 (by rw [show e0 / ts.length + (j - e0 / ts.length - 1) + 1 = j by omega]; exact ewj)
                    have m : ts.length * (vw ts.length 0 wp + 1) ≤ ts.length * vw ts.length 0 wj := Nat.mul_le_mul_left _ lq
                    rw [Nat.mul_add] at m
                    omega
                refine ⟨_, rfl, rfl, _, rfl, ?_⟩
                rw [decide_eq_false (show ¬ vT (lw l (wp ++ [e0 % ts.length])) = V.non from fun z => by cases z)]
                (try refine iteF ?_)
                refine ⟨_, rfl, _, rfl, l, wj ++ [kk], rfl, ⟨O.lk, dB, by rw [List.length_append]; simp; omega⟩, fun k1 F6 s6 ⟨p1, a1, r1, b1, c1⟩ => ?_⟩
                subst r1
                refine ⟨_, rfl, _, rfl, l, wp ++ [e0 % ts.length], rfl, ⟨O.lk, dA, by rw [List.length_append]; simp; omega⟩, fun k2 F7 s7 ⟨p2, a2, r2, b2, c2⟩ => ?_⟩
                subst r2
                refine ⟨p1, p2, a1, a2, _, _, _, _, rfl, rfl, SqT.of (s7 _ _ b1), SqT.of b2, SqL.of (s7 _ _ c1), SqL.of c2, false, ?_, ?_⟩
                · rw [vw_key (L := ts.length) false (fun x hx => by have := dB x hx; omega) (fun x hx => by have := dA x hx; omega), if_neg Bool.false_ne_true, decide_eq_false (by omega)]
                (try refine iteF ?_)
                refine ⟨some (.int (0 + (kk : Int))), some (vT (lw l (wj ++ [kk]))), ?_, sF.trans (s6.trans s7)⟩
                rw [if_pos (show e0 < j * ts.length + (kk + 1) by omega)]
                rfl
              · rw [if_neg lt]
                have ec : e0 = j * ts.length + kk := by
                  by_cases z : j * ts.length + kk < e0
                  · exact absurd (by rw [d2]; exact hyy) (f7 (j * ts.length + kk) Sj z (by rw [d1]; exact eSj))
                  · omega
                refine ⟨_, rfl, rfl, _, rfl, ?_⟩
                rw [decide_eq_true rfl]
                (try refine iteT ?_)
                (try refine iteT ?_)
                refine ⟨_, rfl, some (.int (0 + (kk : Int))), some (vT (lw l (wj ++ [kk]))), ?_, sF⟩
                rw [if_pos (show e0 < j * ts.length + (kk + 1) by omega)]
                have w1 : wp = wj := by
                  rw [ec, d1, ewj] at f4
                  cases f4
                  rfl
                rw [w1, show e0 % ts.length = kk by rw [ec]; exact d2]
                rfl
            · have ne : PySem.Spec.same (dS (fS ts kk Sj)) (dS y) = false := by
                cases q : PySem.Spec.same (dS (fS ts kk Sj)) (dS y) with
                | false => rfl
                | true => exact absurd (dS_inj (eq_of_same _ _ q)) hyy
              rw [ne]
              (try refine iteT ?_)
              refine ⟨some (.int (0 + (kk : Int))), some (vT (lw l (wj ++ [kk]))), ?_, sF⟩
              have ec : e0 ≠ j * ts.length + kk := fun z => by
                rw [z, d1] at f3
                rw [z, d2] at f6
                rw [eSj] at f3
                cases f3
                exact hyy f6
              by_cases lt : e0 < j * ts.length + kk
              · rw [if_pos lt, if_pos (show e0 < j * ts.length + (kk + 1) by omega)]
                rfl
              · rw [if_neg lt, if_neg (show ¬ e0 < j * ts.length + (kk + 1) by omega)]
                rfl
          · rintro σ F ⟨v9, v10, rfl, sF⟩
            refine ⟨(show (l.length : Int).toNat ≤ ts.length by omega), some (.int (0 + (j : Int))), v9, v10, ?_, sF⟩
            rw [Nat.succ_mul]
        · rintro σ F ⟨v8, v9, v10, rfl, sF⟩
          refine ⟨(show ((i + 1 : Nat) : Int).toNat ≤ i + 1 by omega), ?_⟩
          rw [if_pos e0i]
          obtain ⟨wi, ewi⟩ : ∃ wi, Ws[i]? = some wi := ⟨_, List.getElem?_eq_getElem (by rw [WW.I.len]; omega)⟩
          have hup := WW.I.up i wi _ ewi f5
          have lwi := SI.wl WW.I i wi ewi
          have dwi := WW.I.dg wi (List.mem_of_getElem? ewi)
          have lwa := SI.wl WW.I (i + 1) _ f5
          have dwa := WW.I.dg _ (List.mem_of_getElem? f5)
          refine ⟨_, rfl, rfl, _, rfl, ?_⟩
          rw [decide_eq_false (show ¬ vT (lw l (wp ++ [e0 % ts.length])) = V.non from fun z => by cases z)]
          (try refine iteF ?_)
          refine ⟨_, rfl, _, rfl, l, wp ++ [e0 % ts.length], rfl, ⟨O.lk, by rw [← tl]; exact dwa, by omega⟩, fun k1 F6 s6 ⟨p1, a1, r1, b1, c1⟩ => ?_⟩
          subst r1
          have em : atI ((Ws.take (i + 1)).map fun W => vT (lw l W)) (-1) = some (vT (lw l wi)) := by
            rw [List.take_succ, ewi, List.map_append]
            exact atI_last _ _
          refine ⟨_, rfl, _, rfl, _, rfl, _, _, _, _, rfl, rfl, SqL.of (s6 _ _ (sF _ _ mG)), em, l, wi, rfl, ⟨O.lk, by rw [← tl]; exact dwi, by omega⟩, fun k2 F7 s7 ⟨p2, a2, r2, b2, c2⟩ => ?_⟩
          subst r2
          refine ⟨p1, p2, a1, a2, _, _, _, _, rfl, rfl, SqT.of (s7 _ _ b1), SqT.of b2, SqL.of (s7 _ _ c1), SqL.of c2, false, ?_, ?_⟩
          · rw [vw_key (L := ts.length) true dwa dwi, if_pos rfl, decide_eq_false (by omega)]
          (try refine iteF ?_)
          have s9 := sF.trans (s6.trans s7)
          have m9 := s9 _ _ mG
          refine ⟨_, rfl, .inl ⟨rfl, _, SqL.of m9⟩, _, rfl, mp, _, _, rfl, rfl, m9, (by rw [List.length_map, List.length_take]; omega), ?_⟩
          have x9 : ∀ o, SameX mp F7 (upd F7 mp o) := fun o => SameX.upd
          refine ⟨_, _, _, _, _, _, rfl, fun c o hc => ?_, ?_, ?_, ?_⟩
          · rw [upd_ne (ne_of_none hc nmp0)]; exact s9 _ _ (sG _ _ hc)
          · rw [upd_ne nsm]; exact s9 _ _ kG
          · refine eG.mono fun q u _ ⟨S', a1, b, a2, a3, a4⟩ => ⟨S', a1, b, a2, a3, ?_⟩
            refine SL.samx (x9 _) a3 ⟨_, m9⟩ ?_
            obtain ⟨vs, h, e⟩ := a4
            exact ⟨vs, s9 _ _ h, e.mono fun _ _ _ ⟨S, b1, b2⟩ => ⟨S, b1, b2.same s9.t⟩⟩
          · rw [upd_same, List.take_succ (i := i + 1), f5, List.map_append]
            rfl
      · rintro σ G ⟨v4, v6, v7, v8, v9, v10, rfl, sG, kG, eG, mG⟩
        refine ⟨(show ((Ts.length : Int) - 1).toNat ≤ Ts.length - 1 by omega), ?_⟩
        exact k _ sG
--LAW
def sp_law (K : PySem.W.Frag) : Sp := fun vs H Q _ => ∃ (a : Addr) (ns : List Int), vs = [.ref a] ∧ SqL K H a (ns.map V.int) ∧ ns.length ≤ 63 ∧ ∀ H', Q (.bl true) H'
theorem ok_law (T : Txt K mg t) : FnOk Pr w K mg base CX0 50 t.law t.d_law ["_law_script"] (sp_law K) := by
  refine T.F_law.ok sc_law (fun vs H Q E h => ?_) (fun cdv A outer s H vs Q E hr h => ?_)
  · obtain ⟨a, ns, rfl, _⟩ := h
    rfl
  · obtain ⟨a0, ns, rfl, hS0, hlen, k⟩ := h
    refine ⟨_, (pss_cons (ps_set (i := 1) sc_law.nd rfl (Or.inl rfl) (pe_call (ok_law_state T) (hr.mono (by decide)) rfl T.m_law_state T.F_law_state.kp T.b_law_state .nil pass0 (pa_cons (pv 0) pa_nil))) (pss_cons (ps_set (i := 2) sc_law.nd rfl (Or.inl rfl) (pe_call (ok_law_letters T) (hr.mono (by decide)) rfl T.m_law_letters T.F_law_letters.kp T.b_law_letters .nil pass0 (pa_cons (pv 1) pa_nil))) (pss_cons (ps_set (i := 3) sc_law.nd rfl (Or.inl rfl) (pe_call (ok_law_machine T) (hr.mono (by decide)) rfl T.m_law_machine T.F_law_machine.kp T.b_law_machine .nil pass0 (pa_cons (pv 1) (pa_cons (pv 2) (pa_cons (pe_call (ok_law_rooms T) (hr.mono (by decide)) rfl T.m_law_rooms T.F_law_rooms.kp T.b_law_rooms .nil pass0 (pa_cons (pv 1) (pa_cons pe_int (pa_cons pe_int pa_nil)))) (pa_cons (pe_op op_add pe_int (pe_call (ok_law_next T) (hr.mono (by decide)) rfl T.m_law_next T.F_law_next.kp T.b_law_next .nil pass0 (pa_cons (pv 1) (pa_cons pe_int pa_nil)))) pa_nil)))))) (pss_cons (ps_set (i := 4) sc_law.nd rfl (Or.inl rfl) pe_bl) (pss_cons (ps_set (i := 5) sc_law.nd rfl (Or.inl rfl) pe_non) (pss_cons (ps_try (i := 6) (psx_one (psx_set (i := 5) sc_law.nd rfl (Or.inl rfl) (px_call (okx_sets_of T) (hr.mono (by decide)) rfl T.m_sets_of T.F_sets_of.kp T.b_sets_of .nil (pa_cons (pv 3) pa_nil)))) rfl rfl sc_law.nd rfl rfl rfl T.m_TooGreat (fun _ => (pss_one (ps_set (i := 4) sc_law.nd rfl (Or.inl rfl) (pe_and (pe_callB (call_isxK K rfl) (by rfl) T.z_isinstance boot_isinstance (pa_cons (pv 6) (pa_cons (pe_glob (v := .ref t.WeighError) rfl T.m_WeighError rfl) pa_nil))) (pe_one (pe_callB (call_isxK K rfl) (by rfl) T.z_isinstance boot_isinstance (pa_cons (pv 6) (pa_cons (pe_bltn (v := .ty "ValueError") rfl T.z_ValueError boot_VE rfl) pa_nil))))))))) (pss_cons (ps_if (pt_cmpR op_gt (pe_callB call_len (by rfl) T.z_len PySem.boot_len (pa_cons (pe_call (ok_law_all_sets T) (hr.mono (by decide)) rfl T.m_law_all_sets T.F_law_all_sets.kp T.b_law_all_sets .nil pass0 (pa_cons (pv 3) (pa_cons pe_int pa_nil))) pa_nil)) pe_int (nomark _)) (pss_one (ps_ret (pv 4))) pss_nil) (pss_one (ps_ret (pe_and (pe_not (pv 4)) (pe_one (pe_call (ok_law_walked T) (hr.mono (by decide)) rfl T.m_law_walked T.F_law_walked.kp T.b_law_walked .nil pass0 (pa_cons (pv 3) (pa_cons (pv 5) pa_nil)))))))))))))), ?_⟩
    refine ⟨_, rfl, a0, ns, rfl, hS0, hlen, fun a H1 na s1 d1 => ?_⟩
    refine ⟨_, rfl, a, rfl, d1, fun pl l il H2 s2 d2 G i1 i3 => ?_⟩
    have L := G.ok i1 i3
    refine ⟨_, rfl, _, rfl, _, rfl, a, 7, 13, rfl, ⟨d2, by decide, by decide, by decide, by decide⟩, fun r H3 s3 d3 r0 r1 => ?_⟩
    refine ⟨_, rfl, a, 4, rfl, ⟨d3, by decide, by decide⟩, fun q H4 s4 d4 q0 q1 => ?_⟩
    refine ⟨_, _, rfl, rfl, a, l, r.toNat, _, _, rfl, ⟨d4, L, by omega, by omega, by omega, by omega⟩, fun st ts en mv H5 s5 d5 O hM => ?_⟩
    have l1 := L.h1
    have l3 := L.h3
    have tl := O.tl
    have hL : ts.length = 1 ∨ ts.length = 2 ∨ ts.length = 3 := by omega
    refine ⟨_, rfl, mv, l, r.toNat, st, ts, en, rfl, ⟨hM, O⟩, fun i ap H6 s6 sl6 run hi l20 ok6 => ?_, fun i H6 s6 run h20 => ⟨_, rfl, T.e_G, fun xa nxa => ?_⟩⟩
    · refine ⟨_, rfl, mv, l, r.toNat, st, ts, en, rfl, ⟨hM.same s6.t, O⟩, fun i' a' H7 s7 sl7 run' hal => ?_⟩
      have ei := run.uniq run' (.inl hi) hal
      subst ei
      refine ⟨_, _, rfl, sl7.len, _, _, rfl, rfl, _, rfl, ?_⟩
      refine iteP (fun z => absurd z (by omega)) (fun _ => ?_)
      obtain ⟨Ws, I⟩ := bfs_SI hL i run
      have sl8 : SL (bfs st ts i) ap H7 := by
        obtain ⟨vs, h, e⟩ := sl6
        exact ⟨vs, s7 _ _ h, e.mono fun _ _ _ ⟨S, a1, a2⟩ => ⟨S, a1, a2.same s7.t⟩⟩
      refine ⟨_, rfl, ?_⟩
      (try refine iteT ?_)
      refine ⟨_, rfl, _, rfl, _, rfl, _, rfl, mv, ap, l, r.toNat, st, ts, en, bfs st ts i, Ws, i, rfl, ⟨hM.same (s6.trans s7).t, O, sl8, ⟨I, hi, l20⟩, ok6⟩, fun H8 s8 => k _⟩
    · have hx : upd H6 xa (ExcO xa t.TooGreat) xa = some (ExcO xa t.TooGreat) := upd_same
      have t7 := same_upd (o := ExcO xa t.TooGreat) nxa
      refine ⟨_, rfl, _, _, _, _, _, rfl, hx, T.x_TooGreat, rfl, T.k_GW, _, rfl, ?_⟩
      (try refine iteT ?_)
      refine ⟨_, rfl, _, _, _, _, _, rfl, hx, T.x_TooGreat, rfl, T.k_GV, ?_⟩
      refine ⟨_, rfl, mv, l, r.toNat, st, ts, en, rfl, ⟨hM.same (s6.trans t7).t, O⟩, fun i' a' H7 s7 sl7 run' hal => ?_⟩
      have ei := run.uniq run' (.inr h20) hal
      subst ei
      refine ⟨_, _, rfl, sl7.len, _, _, rfl, rfl, _, rfl, ?_⟩
      refine iteP (fun z => ?_) (fun z => absurd (show ((bfs st ts i).length : Int) > 20 by omega) z)
      exact ⟨_, rfl, k _⟩
theorem law_binds (T : Txt K mg t) : ∀ (s : Shared) (u : Value), BindsTo s t.d_law ⟨[u], []⟩ [("_law_script", u)] := by
  obtain ⟨oc, od, kV, doc, pm, an, cdv, ct, osl, e, _, _⟩ := T.F_law.ex
  rw [e]
  exact fun s u => .of_eq rfl
end
abbrev FD (n q : Str) (s : Stmt) (c d e : Value) (v : Option Addr) (g j : Value) : FuncData := PySem.W.fnOf n q (defArgs s) (defBody s) (defScope s) .none c d e v g j
abbrev NS (K : PySem.W.Frag) (x : Str) (a : Addr) : Prop := PySem.W.nsIn K mainGlobals x = some (some (.ref a))
abbrev HL (K : PySem.W.Frag) (a : Addr) (b : Value) (u : Option Addr) (d : FuncData) (w : Array (Option Value)) : Prop := K.lookup a = some ⟨b, u, .func d, w⟩
abbrev KI (K : PySem.W.Frag) (a : Addr) : Prop := PySem.W.keepIn K (.ref a) = true
theorem txt_mk {K : PySem.W.Frag} {h : Heap} {mg : Str → Option Value} (X : K.In h) (G : h.Ns mainGlobals mg) {A0 A1 A2 A3 A4 A5 A6 A7 A8 A9 A10 A11 A12 A13 A14 A15 A16 : Addr} {b0 c0 d0 e0 g0 j0 b1 c1 d1 e1 g1 j1 b2 c2 d2 e2 g2 j2 b3 c3 d3 e3 g3 j3 b4 c4 d4 e4 g4 j4 b5 c5 d5 e5 g5 j5 b6 c6 d6 e6 g6 j6 b7 c7 d7 e7 g7 j7 b8 c8 d8 e8 g8 j8 b9 c9 d9 e9 g9 j9 b10 c10 d10 e10 g10 j10 b11 c11 d11 e11 g11 j11 b12 c12 d12 e12 g12 j12 b13 c13 d13 e13 g13 j13 b14 c14 d14 e14 g14 j14 : Value} {u0 v0 u1 v1 u2 v2 u3 v3 u4 v4 u5 v5 u6 v6 u7 v7 u8 v8 u9 v9 u10 v10 u11 v11 u12 v12 u13 v13 u14 v14 : Option Addr} {w0 w1 w2 w3 w4 w5 w6 w7 w8 w9 w10 w11 w12 w13 w14 : Array (Option Value)}
 (N0 : NS K "WeighError" A0)
 (X0 : ExcK K A0)
 (N1 : NS K "TooGreat" A1)
 (X1 : ExcK K A1)
 (n0 : NS K "first_set" A2)
 (l0 : HL K A2 b0 u0 (FD "first_set" "first_set" s_first_set c0 d0 e0 v0 g0 j0) w0)
 (q0 : PySem.W.codeIn K g0 "first_set" = true)
 (k0 : KI K A2)
 (n1 : NS K "next_set" A3)
 (l1 : HL K A3 b1 u1 (FD "next_set" "next_set" s_next_set c1 d1 e1 v1 g1 j1) w1)
 (q1 : PySem.W.codeIn K g1 "next_set" = true)
 (k1 : KI K A3)
 (n2 : NS K "sets_of" A4)
 (l2 : HL K A4 b2 u2 (FD "sets_of" "sets_of" s_sets_of c2 d2 e2 v2 g2 j2) w2)
 (q2 : PySem.W.codeIn K g2 "sets_of" = true)
 (k2 : KI K A4)
 (n3 : NS K "_law_state" A5)
 (l3 : HL K A5 b3 u3 (FD "_law_state" "_law_state" s_law_state c3 d3 e3 v3 g3 j3) w3)
 (q3 : PySem.W.codeIn K g3 "_law_state" = true)
 (k3 : KI K A5)
 (n4 : NS K "_law_next" A6)
 (l4 : HL K A6 b4 u4 (FD "_law_next" "_law_next" s_law_next c4 d4 e4 v4 g4 j4) w4)
 (q4 : PySem.W.codeIn K g4 "_law_next" = true)
 (k4 : KI K A6)
 (n5 : NS K "_law_rooms" A7)
 (l5 : HL K A7 b5 u5 (FD "_law_rooms" "_law_rooms" s_law_rooms c5 d5 e5 v5 g5 j5) w5)
 (q5 : PySem.W.codeIn K g5 "_law_rooms" = true)
 (k5 : KI K A7)
 (n6 : NS K "_law_letters" A8)
 (l6 : HL K A8 b6 u6 (FD "_law_letters" "_law_letters" s_law_letters c6 d6 e6 v6 g6 j6) w6)
 (q6 : PySem.W.codeIn K g6 "_law_letters" = true)
 (k6 : KI K A8)
 (n7 : NS K "_law_truths" A9)
 (l7 : HL K A9 b7 u7 (FD "_law_truths" "_law_truths" s_law_truths c7 d7 e7 v7 g7 j7) w7)
 (q7 : PySem.W.codeIn K g7 "_law_truths" = true)
 (k7 : KI K A9)
 (n8 : NS K "_law_machine" A10)
 (l8 : HL K A10 b8 u8 (FD "_law_machine" "_law_machine" s_law_machine c8 d8 e8 v8 g8 j8) w8)
 (q8 : PySem.W.codeIn K g8 "_law_machine" = true)
 (k8 : KI K A10)
 (n9 : NS K "_law_first" A11)
 (l9 : HL K A11 b9 u9 (FD "_law_first" "_law_first" s_law_first c9 d9 e9 v9 g9 j9) w9)
 (q9 : PySem.W.codeIn K g9 "_law_first" = true)
 (k9 : KI K A11)
 (n10 : NS K "_law_after" A12)
 (l10 : HL K A12 b10 u10 (FD "_law_after" "_law_after" s_law_after c10 d10 e10 v10 g10 j10) w10)
 (q10 : PySem.W.codeIn K g10 "_law_after" = true)
 (k10 : KI K A12)
 (n11 : NS K "_law_all_sets" A13)
 (l11 : HL K A13 b11 u11 (FD "_law_all_sets" "_law_all_sets" s_law_all_sets c11 d11 e11 v11 g11 j11) w11)
 (q11 : PySem.W.codeIn K g11 "_law_all_sets" = true)
 (k11 : KI K A13)
 (n12 : NS K "_law_key" A14)
 (l12 : HL K A14 b12 u12 (FD "_law_key" "_law_key" s_law_key c12 d12 e12 v12 g12 j12) w12)
 (q12 : PySem.W.codeIn K g12 "_law_key" = true)
 (k12 : KI K A14)
 (n13 : NS K "_law_walked" A15)
 (l13 : HL K A15 b13 u13 (FD "_law_walked" "_law_walked" s_law_walked c13 d13 e13 v13 g13 j13) w13)
 (q13 : PySem.W.codeIn K g13 "_law_walked" = true)
 (k13 : KI K A15)
 (n14 : NS K "law" A16)
 (l14 : HL K A16 b14 u14 (FD "law" "law" s_law c14 d14 e14 v14 g14 j14) w14)
 (q14 : PySem.W.codeIn K g14 "law" = true)
 (k14 : KI K A16)
 (z_tuple : PySem.W.nsIn K mainGlobals "tuple" = some none)
 (z_enumerate : PySem.W.nsIn K mainGlobals "enumerate" = some none)
 (z_range : PySem.W.nsIn K mainGlobals "range" = some none)
 (z_len : PySem.W.nsIn K mainGlobals "len" = some none)
 (z_any : PySem.W.nsIn K mainGlobals "any" = some none)
 {tk_c_MOST_SETS : Tok}
 (c_MOST_SETS : PySem.W.nsIn K mainGlobals "MOST_SETS" = some (some (.int 20 tk_c_MOST_SETS)))
 (z_isinstance : PySem.W.nsIn K mainGlobals "isinstance" = some none)
 (z_list : PySem.W.nsIn K mainGlobals "list" = some none)
 (z_all : PySem.W.nsIn K mainGlobals "all" = some none)
 (z_ValueError : PySem.W.nsIn K mainGlobals "ValueError" = some none)
 (k_tt : PySem.W.kitOne K (.type "tuple") (.type "tuple") = some true)
 (k_ll : PySem.W.kitOne K (.type "list") (.type "list") = some true)
 (e_G : PySem.W.exmOne K (.ref A1) (.ref A1) = some true)
 (k_GV : PySem.W.kitOne K (.ref A1) (.type "ValueError") = some true)
 (k_GW : PySem.W.kitOne K (.ref A1) (.ref A0) = some true)
 : ∃ t : Adr, Txt K mg t :=
 ⟨{ first_set := A2, d_first_set := FD "first_set" "first_set" s_first_set c0 d0 e0 v0 g0 j0, next_set := A3, d_next_set := FD "next_set" "next_set" s_next_set c1 d1 e1 v1 g1 j1, sets_of := A4, d_sets_of := FD "sets_of" "sets_of" s_sets_of c2 d2 e2 v2 g2 j2, law_state := A5, d_law_state := FD "_law_state" "_law_state" s_law_state c3 d3 e3 v3 g3 j3, law_next := A6, d_law_next := FD "_law_next" "_law_next" s_law_next c4 d4 e4 v4 g4 j4, law_rooms := A7, d_law_rooms := FD "_law_rooms" "_law_rooms" s_law_rooms c5 d5 e5 v5 g5 j5, law_letters := A8, d_law_letters := FD "_law_letters" "_law_letters" s_law_letters c6 d6 e6 v6 g6 j6, law_truths := A9, d_law_truths := FD "_law_truths" "_law_truths" s_law_truths c7 d7 e7 v7 g7 j7, law_machine := A10, d_law_machine := FD "_law_machine" "_law_machine" s_law_machine c8 d8 e8 v8 g8 j8, law_first := A11, d_law_first := FD "_law_first" "_law_first" s_law_first c9 d9 e9 v9 g9 j9, law_after := A12, d_law_after := FD "_law_after" "_law_after" s_law_after c10 d10 e10 v10 g10 j10, law_all_sets := A13, d_law_all_sets := FD "_law_all_sets" "_law_all_sets" s_law_all_sets c11 d11 e11 v11 g11 j11, law_key := A14, d_law_key := FD "_law_key" "_law_key" s_law_key c12 d12 e12 v12 g12 j12, law_walked := A15, d_law_walked := FD "_law_walked" "_law_walked" s_law_walked c13 d13 e13 v13 g13 j13, law := A16, d_law := FD "law" "law" s_law c14 d14 e14 v14 g14 j14, WeighError := A0, TooGreat := A1 },
   { F_first_set := fun_mk (st := s_first_set) l0 q0 k0,
     b_first_set := (fun_mk (st := s_first_set) l0 q0 k0).binds (ps := ["machine"]) fun _ _ _ _ _ _ us hl => match us, hl with | [_], _ => rfl,
     m_first_set := PySem.W.mg_of X G n0,
     F_next_set := fun_mk (st := s_next_set) l1 q1 k1,
     b_next_set := (fun_mk (st := s_next_set) l1 q1 k1).binds (ps := ["table", "within"]) fun _ _ _ _ _ _ us hl => match us, hl with | [_, _], _ => rfl,
     m_next_set := PySem.W.mg_of X G n1,
     F_sets_of := fun_mk (st := s_sets_of) l2 q2 k2,
     b_sets_of := (fun_mk (st := s_sets_of) l2 q2 k2).binds (ps := ["machine"]) fun _ _ _ _ _ _ us hl => match us, hl with | [_], _ => rfl,
     m_sets_of := PySem.W.mg_of X G n2,
     F_law_state := fun_mk (st := s_law_state) l3 q3 k3,
     b_law_state := (fun_mk (st := s_law_state) l3 q3 k3).binds (ps := ["_law_script"]) fun _ _ _ _ _ _ us hl => match us, hl with | [_], _ => rfl,
     m_law_state := PySem.W.mg_of X G n3,
     F_law_next := fun_mk (st := s_law_next) l4 q4 k4,
     b_law_next := (fun_mk (st := s_law_next) l4 q4 k4).binds (ps := ["_law_state_here", "_law_many"]) fun _ _ _ _ _ _ us hl => match us, hl with | [_, _], _ => rfl,
     m_law_next := PySem.W.mg_of X G n4,
     F_law_rooms := fun_mk (st := s_law_rooms) l5 q5 k5,
     b_law_rooms := (fun_mk (st := s_law_rooms) l5 q5 k5).binds (ps := ["_law_state_here", "_law_few", "_law_most"]) fun _ _ _ _ _ _ us hl => match us, hl with | [_, _, _], _ => rfl,
     m_law_rooms := PySem.W.mg_of X G n5,
     F_law_letters := fun_mk (st := s_law_letters) l6 q6 k6,
     b_law_letters := (fun_mk (st := s_law_letters) l6 q6 k6).binds (ps := ["_law_state_here"]) fun _ _ _ _ _ _ us hl => match us, hl with | [_], _ => rfl,
     m_law_letters := PySem.W.mg_of X G n6,
     F_law_truths := fun_mk (st := s_law_truths) l7 q7 k7,
     b_law_truths := (fun_mk (st := s_law_truths) l7 q7 k7).binds (ps := ["_law_state_here", "_law_many", "_law_thin"]) fun _ _ _ _ _ _ us hl => match us, hl with | [_, _, _], _ => rfl,
     m_law_truths := PySem.W.mg_of X G n7,
     F_law_machine := fun_mk (st := s_law_machine) l8 q8 k8,
     b_law_machine := (fun_mk (st := s_law_machine) l8 q8 k8).binds (ps := ["_law_state_here", "_law_letters_here", "_law_many", "_law_thin"]) fun _ _ _ _ _ _ us hl => match us, hl with | [_, _, _, _], _ => rfl,
     m_law_machine := PySem.W.mg_of X G n8,
     F_law_first := fun_mk (st := s_law_first) l9 q9 k9,
     b_law_first := (fun_mk (st := s_law_first) l9 q9 k9).binds (ps := ["_law_machine_here"]) fun _ _ _ _ _ _ us hl => match us, hl with | [_], _ => rfl,
     m_law_first := PySem.W.mg_of X G n9,
     F_law_after := fun_mk (st := s_law_after) l10 q10 k10,
     b_law_after := (fun_mk (st := s_law_after) l10 q10 k10).binds (ps := ["_law_machine_here", "_law_some", "_law_at"]) fun _ _ _ _ _ _ us hl => match us, hl with | [_, _, _], _ => rfl,
     m_law_after := PySem.W.mg_of X G n10,
     F_law_all_sets := fun_mk (st := s_law_all_sets) l11 q11 k11,
     b_law_all_sets := (fun_mk (st := s_law_all_sets) l11 q11 k11).binds (ps := ["_law_machine_here", "_law_most"]) fun _ _ _ _ _ _ us hl => match us, hl with | [_, _], _ => rfl,
     m_law_all_sets := PySem.W.mg_of X G n11,
     F_law_key := fun_mk (st := s_law_key) l12 q12 k12,
     b_law_key := (fun_mk (st := s_law_key) l12 q12 k12).binds (ps := ["_law_letters_here", "_law_word"]) fun _ _ _ _ _ _ us hl => match us, hl with | [_, _], _ => rfl,
     m_law_key := PySem.W.mg_of X G n12,
     F_law_walked := fun_mk (st := s_law_walked) l13 q13 k13,
     b_law_walked := (fun_mk (st := s_law_walked) l13 q13 k13).binds (ps := ["_law_machine_here", "_law_answer"]) fun _ _ _ _ _ _ us hl => match us, hl with | [_, _], _ => rfl,
     m_law_walked := PySem.W.mg_of X G n13,
     F_law := fun_mk (st := s_law) l14 q14 k14,
     b_law := (fun_mk (st := s_law) l14 q14 k14).binds (ps := ["_law_script"]) fun _ _ _ _ _ _ us hl => match us, hl with | [_], _ => rfl,
     m_law := PySem.W.mg_of X G n14,
     m_WeighError := PySem.W.mg_of X G N0,
     x_WeighError := X0,
     m_TooGreat := PySem.W.mg_of X G N1,
     x_TooGreat := X1,
     z_tuple := PySem.W.mg_none_of X G z_tuple,
     z_enumerate := PySem.W.mg_none_of X G z_enumerate,
     z_range := PySem.W.mg_none_of X G z_range,
     z_len := PySem.W.mg_none_of X G z_len,
     z_any := PySem.W.mg_none_of X G z_any,
     c_MOST_SETS := ⟨_, PySem.W.mg_of X G c_MOST_SETS⟩,
     z_isinstance := PySem.W.mg_none_of X G z_isinstance,
     z_list := PySem.W.mg_none_of X G z_list,
     z_all := PySem.W.mg_none_of X G z_all,
     z_ValueError := PySem.W.mg_none_of X G z_ValueError,
     k_tt := k_tt,
     k_ll := k_ll,
     e_G := e_G,
     k_GV := k_GV,
     k_GW := k_GW }⟩
end K61
open PySem PySem.W PyProof.Rows
set_option maxRecDepth 100000 in
set_option maxHeartbeats 0 in
theorem PySem.Challenge.cw_weighwalk_k61_sets_holds : PySem.Challenge.rw_weighwalk_k61_sets.Holds := by
  w_on; o_law
  refine H61.holds_ (by assumption) ?hw ?hc
  (case hw => w_witness2)
  unfold H61.hook
  k_fill
  refine L2.walk_ofK (l := PySem.Challenge.rw_weighwalk_k61_sets) (n := 63) (k := 50) (x := "_law_script") (CX := L2.CX0) (sp := K61.sp_law) rfl (by decide) rfl ⟨rfl, by decide, by decide⟩ (by decide +kernel) (fun w h Y => PySem.W.kIn_of Y) ?F ?S ?C
  case F =>
    intro w mg fa h KX G hmg
    have T : ∃ t, K61.Txt (L2.KOf KX) mg t := by
      dsimp only [L2.KOf]
      refine' K61.txt_mk KX G ?N0 ?X0 ?N1 ?X1 ?n0 ?l0 ?q0 ?k0 ?n1 ?l1 ?q1 ?k1 ?n2 ?l2 ?q2 ?k2 ?n3 ?l3 ?q3 ?k3 ?n4 ?l4 ?q4 ?k4 ?n5 ?l5 ?q5 ?k5 ?n6 ?l6 ?q6 ?k6 ?n7 ?l7 ?q7 ?k7 ?n8 ?l8 ?q8 ?k8 ?n9 ?l9 ?q9 ?k9 ?n10 ?l10 ?q10 ?k10 ?n11 ?l11 ?q11 ?k11 ?n12 ?l12 ?q12 ?k12 ?n13 ?l13 ?q13 ?k13 ?n14 ?l14 ?q14 ?k14 ?z_tuple ?z_enumerate ?z_range ?z_len ?z_any ?c_MOST_SETS ?z_isinstance ?z_list ?z_all ?z_ValueError ?k_tt ?k_ll ?e_G ?k_GV ?k_GW
      (case N0 => show _ = _; k_is)
      (case X0 => exact ⟨by kernel_rfl, by kernel_rfl, by kernel_rfl, by kernel_rfl, by kernel_rfl, by kernel_rfl⟩)
      (case N1 => show _ = _; k_is)
      (case X1 => exact ⟨by kernel_rfl, by kernel_rfl, by kernel_rfl, by kernel_rfl, by kernel_rfl, by kernel_rfl⟩)
      (case n0 => show _ = _; k_is)
      (case l0 => exact H61.lk_first_set _)
      (case q0 => show _ = _; k_is)
      (case k0 => show _ = _; k_is)
      (case n1 => show _ = _; k_is)
      (case l1 => exact H61.lk_next_set _)
      (case q1 => show _ = _; k_is)
      (case k1 => show _ = _; k_is)
      (case n2 => show _ = _; k_is)
      (case l2 => exact H61.lk_sets_of _)
      (case q2 => show _ = _; k_is)
      (case k2 => show _ = _; k_is)
      (case n3 => show _ = _; k_is)
      (case l3 => exact H61.lk__law_state _)
      (case q3 => show _ = _; k_is)
      (case k3 => show _ = _; k_is)
      (case n4 => show _ = _; k_is)
      (case l4 => exact H61.lk__law_next _)
      (case q4 => show _ = _; k_is)
      (case k4 => show _ = _; k_is)
      (case n5 => show _ = _; k_is)
      (case l5 => exact H61.lk__law_rooms _)
      (case q5 => show _ = _; k_is)
      (case k5 => show _ = _; k_is)
      (case n6 => show _ = _; k_is)
      (case l6 => exact H61.lk__law_letters _)
      (case q6 => show _ = _; k_is)
      (case k6 => show _ = _; k_is)
      (case n7 => show _ = _; k_is)
      (case l7 => exact H61.lk__law_truths _)
      (case q7 => show _ = _; k_is)
      (case k7 => show _ = _; k_is)
      (case n8 => show _ = _; k_is)
      (case l8 => exact H61.lk__law_machine _)
      (case q8 => show _ = _; k_is)
      (case k8 => show _ = _; k_is)
      (case n9 => show _ = _; k_is)
      (case l9 => exact H61.lk__law_first _)
      (case q9 => show _ = _; k_is)
      (case k9 => show _ = _; k_is)
      (case n10 => show _ = _; k_is)
      (case l10 => exact H61.lk__law_after _)
      (case q10 => show _ = _; k_is)
      (case k10 => show _ = _; k_is)
      (case n11 => show _ = _; k_is)
      (case l11 => exact H61.lk__law_all_sets _)
      (case q11 => show _ = _; k_is)
      (case k11 => show _ = _; k_is)
      (case n12 => show _ = _; k_is)
      (case l12 => exact H61.lk__law_key _)
      (case q12 => show _ = _; k_is)
      (case k12 => show _ = _; k_is)
      (case n13 => show _ = _; k_is)
      (case l13 => exact H61.lk__law_walked _)
      (case q13 => show _ = _; k_is)
      (case k13 => show _ = _; k_is)
      (case n14 => show _ = _; k_is)
      (case l14 => exact H61.lk_law _)
      (case q14 => show _ = _; k_is)
      (case k14 => show _ = _; k_is)
      (case z_tuple => show _ = _; k_is)
      (case z_enumerate => show _ = _; k_is)
      (case z_range => show _ = _; k_is)
      (case z_len => show _ = _; k_is)
      (case z_any => show _ = _; k_is)
      (case c_MOST_SETS => show _ = _; k_is)
      (case z_isinstance => show _ = _; k_is)
      (case z_list => show _ = _; k_is)
      (case z_all => show _ = _; k_is)
      (case z_ValueError => show _ = _; k_is)
      (case k_tt => kit_is)
      (case k_ll => kit_is)
      (case e_G => kernel_rfl)
      (case k_GV => kernel_rfl)
      (case k_GW => kernel_rfl)
    obtain ⟨t, T⟩ := T
    have e0 := hmg.symm.trans T.m_law
    cases e0
    exact ⟨_, K61.law_binds T, fun base kb nb => K61.ok_law T⟩
  case S => exact fun K H a ns hl hO hS => ⟨a, ns, rfl, hS, hl, fun _ => rfl⟩
  case C => exact fun _ _ _ _ z => z
