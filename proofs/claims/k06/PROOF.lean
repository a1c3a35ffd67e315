import PyProof.Rows.All
import Wide.All
import OpenK.AllK
import Wide.FinOn
import Lean
import PyProof.EqAt
import PyProof.EqKinds
import PyProof.TupleCall
import KE.KTryMore
import PySem.Challenge.RW_weighwalk_k06_minus_and_inverses
set_option Elab.async false
set_option linter.all false
set_option maxRecDepth 100000
/-! THE HAND LAYER, for ints, bools, texts, own classes, LISTS and tuples (index, slices, in, append, pop ..), calls, loops. Paste it whole ahead of your own text; what your proof does not reach may be deleted. -/
namespace L2
open PySem PySem.Spec PyProof.Rows

/-- a key: an int or a str -/
abbrev Key := Sum Int Str
def keyIs : Key → Value → Bool
  | .inl k, v => Value.isInt k v
  | .inr x, v => Value.isStrOf x v
def keyH (w : World) : Key → Int
  | .inl k => hashInt k
  | .inr x => hashStr w x
theorem keyIs_shape : ∀ {k : Key} {v : Value}, keyIs k v = true → (∃ i t, k = Sum.inl i ∧ v = Value.int i t) ∨ (∃ x t, k = Sum.inr x ∧ v = Value.str x t)
  | .inl i, v, h => by
    obtain ⟨t, e⟩ := Value.isInt_shape (k := i) (v := v) h
    exact .inl ⟨i, t, rfl, e⟩
  | .inr x, v, h => by
    obtain ⟨t, e⟩ := Value.isStrOf_shape (x := x) (v := v) h
    exact .inr ⟨x, t, rfl, e⟩
theorem key_ll (a b : Int) : decide ((Sum.inl a : Key) = Sum.inl b) = (a == b) := by
  by_cases e : a = b
  · subst e; simp
  · have h : ¬ (Sum.inl a : Key) = Sum.inl b := fun q => e (Sum.inl.inj q)
    rw [decide_eq_false h]
    exact (beq_eq_false_iff_ne.mpr e).symm
theorem key_rr (a b : Str) : decide ((Sum.inr a : Key) = Sum.inr b) = decide (a = b) := by
  by_cases e : a = b
  · subst e; simp
  · have h : ¬ (Sum.inr a : Key) = Sum.inr b := fun q => e (Sum.inr.inj q)
    rw [decide_eq_false h, decide_eq_false e]
theorem key_lr (a : Int) (b : Str) : decide ((Sum.inl a : Key) = Sum.inr b) = false := decide_eq_false (fun q => nomatch q)
theorem key_rl (a : Str) (b : Int) : decide ((Sum.inr a : Key) = Sum.inl b) = false := decide_eq_false (fun q => nomatch q)

def mixKind (prog : Program) (w : World) : PySem.KeyKind prog w Key where
  is := keyIs
  hash := keyH w
  inj := fun v a b ha hb => by
    rcases keyIs_shape ha with ⟨i, t, rfl, rfl⟩ | ⟨x, t, rfl, rfl⟩
    · rcases keyIs_shape hb with ⟨j, u, rfl, e⟩ | ⟨y, u, rfl, e⟩
      · injection e with e1 _; rw [e1]
      · exact nomatch e
    · rcases keyIs_shape hb with ⟨j, u, rfl, e⟩ | ⟨y, u, rfl, e⟩
      · exact nomatch e
      · injection e with e1 _; rw [e1]
  byValue := fun k v h => by
    rcases keyIs_shape h with ⟨i, t, rfl, rfl⟩ | ⟨x, t, rfl, rfl⟩ <;> rfl
  pyHash := fun hv h => by
    rcases keyIs_shape hv with ⟨i, t, rfl, rfl⟩ | ⟨x, t, rfl, rfl⟩
    · exact wpAny_pyHash_int h
    · exact wpAny_pyHash_str h
  eqBool := fun hu hv h => by
    rcases keyIs_shape hu with ⟨i, t, rfl, rfl⟩ | ⟨x, t, rfl, rfl⟩
    · rcases keyIs_shape hv with ⟨j, u, rfl, rfl⟩ | ⟨y, u, rfl, rfl⟩
      · rw [key_ll] at h; exact wpAny_eqBool_int h
      · rw [key_lr] at h; exact SeqAt.EqAt.int_str i t y u _ _ _ _ h
    · rcases keyIs_shape hv with ⟨j, u, rfl, rfl⟩ | ⟨y, u, rfl, rfl⟩
      · rw [key_rl] at h; exact SeqAt.EqAt.str_int x t j u _ _ _ _ h
      · rw [key_rr] at h; exact wpAny_eqBool_str h
  «strs» := fun k x t v h => by
    rcases keyIs_shape h with ⟨i, u, rfl, e⟩ | ⟨y, u, rfl, e⟩
    · exact nomatch e
    · injection e with e1 _
      subst e1
      cases v <;> rfl

end L2

namespace L2
open PySem PySem.Spec PyProof.Rows

/-- a value, without the heap -/
inductive V where
  | non | bl (b : Bool) | int (i : Int) | str (x : Str) | byt (b : Array UInt8) | flt (b : UInt64) | ref (a : Addr) | ty (n : String)
  deriving DecidableEq

def RelV : V → Value → Prop
  | .non, u => u = Value.none
  | .bl b, u => u = Value.bool b
  | .int i, u => ∃ t, u = Value.int i t
  | .str x, u => ∃ t, u = Value.str x t
  | .byt b, u => ∃ t, u = Value.bytes b t
  | .flt b, u => ∃ t, u = Value.float b t
  | .ref a, u => u = Value.ref a
  | .ty n, u => u = Value.type n

abbrev Vals : List V → List Value → Prop := Paired RelV
theorem Vals.length {xs : List V} {us : List Value} (r : Vals xs us) : xs.length = us.length := Paired.length r
theorem Vals.get : ∀ {xs : List V} {us : List Value} {i : Nat} {x : V}, Vals xs us → xs[i]? = some x → ∃ u, us[i]? = some u ∧ RelV x u
  | _, _, _, _, .nil, e => by simp at e
  | _, _, 0, _, .cons r _, e => by simp at e; subst e; exact ⟨_, rfl, r⟩
  | _, _, i + 1, x, .cons _ t, e => by
    obtain ⟨u, h1, h2⟩ := Vals.get (i := i) (x := x) t (by simpa using e)
    exact ⟨u, by simpa using h1, h2⟩
theorem Vals.set {x : V} {u : Value} (r : RelV x u) : ∀ {xs : List V} {us : List Value} (i : Nat), Vals xs us → Vals (xs.set i x) (us.set i u)
  | _, _, _, .nil => .nil
  | _, _, 0, .cons _ t => .cons r t
  | _, _, i + 1, .cons q t => .cons q (Vals.set r i t)
theorem Vals.append : ∀ {xs ys : List V} {us ws : List Value}, Vals xs us → Vals ys ws → Vals (xs ++ ys) (us ++ ws)
  | _, _, _, _, .nil, s => s
  | _, _, _, _, .cons r t, s => .cons r (Vals.append t s)
theorem Vals.take : ∀ {xs : List V} {us : List Value} (n : Nat), Vals xs us → Vals (xs.take n) (us.take n)
  | _, _, 0, _ => .nil
  | _, _, _ + 1, .nil => .nil
  | _, _, n + 1, .cons r t => .cons r (Vals.take n t)
theorem Vals.drop : ∀ {xs : List V} {us : List Value} (n : Nat), Vals xs us → Vals (xs.drop n) (us.drop n)
  | _, _, 0, r => r
  | _, _, _ + 1, .nil => .nil
  | _, _, n + 1, .cons _ t => Vals.drop n t
theorem Vals.none_of : ∀ {xs : List V} {us : List Value} {i : Nat}, Vals xs us → xs[i]? = none → us[i]? = none := fun {xs us i} r e => by
  have h1 := r.length
  have h2 : xs.length ≤ i := List.getElem?_eq_none_iff.mp e
  exact List.getElem?_eq_none_iff.mpr (by omega)

def RelO : Option V → Option Value → Prop
  | some v, some u => RelV v u
  | none, none => True
  | _, _ => False
def KV {κ : Type} : List (κ × V) → List (κ × Value) → Prop := Paired fun (p : κ × V) (q : κ × Value) => p.1 = q.1 ∧ RelV p.2 q.2

/-- a key of a dict (00_mix): an int or a text -/
def kV : Key → V
  | .inl i => .int i
  | .inr x => .str x

/-- what stands at a tracked address -/
inductive HO where
  /-- a list -/
  | lst (xs : List V)
  /-- a tuple (never changes) -/
  | tup (xs : List V)
  /-- a dict whose keys are ints and texts; one whose keys are tuples of ints and texts (the empty one is both) -/
  | dK (kvs : List (Key × V)) | dT (kvs : List (List Key × V))
  /-- a set of ints: its members, its size -/
  | set (S : Int → Bool) (n : Nat)
  /-- an instance of the class at C, its dict at dx, its attributes -/
  | ins (C dx : Addr) (fs : List (Str × V))
  /-- the dict of the instance at x -/
  | own (x : Addr)
  /-- the dict of an exception -/
  | xd (fs : List (Str × V))
  /-- a bound method, f of x -/
  | met (f x : Addr)
  /-- a range object lo, lo + 1, .. below hi -/
  | rng (lo hi : Int)
  /-- a thing that is known to the object (the script; a dict while a loop walks it): read, never written while it is so -/
  | frz (o : Obj) (u : HO)
  /-- a code object's table -/
  | tbl (ps : Array Value)
  /-- any other thing, by what is true of its one object (a def of one's own: SetO a S n := HO.ext fun h => ..) -/
  | ext (φ : Heap → Prop)

abbrev Hp := Addr → Option HO
def upd (H : Hp) (a : Addr) (o : HO) : Hp := fun b => if b = a then some o else H b
theorem upd_same {H : Hp} {a : Addr} {o : HO} : upd H a o a = some o := by unfold upd; rw [if_pos rfl]
theorem upd_ne {H : Hp} {a b : Addr} {o : HO} (h : b ≠ a) : upd H a o b = H b := by unfold upd; rw [if_neg h]
theorem upd_upd {H : Hp} {a : Addr} {o u : HO} : upd (upd H a o) a u = upd H a u := by
  funext b; unfold upd; split <;> rfl
theorem ne_of_none {H : Hp} {a b : Addr} {o : HO} (h : H a = some o) (h' : H b = none) : a ≠ b := by
  intro e; subst e; rw [h] at h'; cases h'

section
variable (P : Program) (w : World)
def ObjOk (H : Hp) (h : Heap) (a : Addr) : HO → Prop
  | .lst xs => xs.length ≤ sizeLine ∧ ∃ (its : List Value) (n : Nat), Vals xs its ∧ h.get? a = some { cls := .type "list", data := .seq its.toArray n }
  | .tup xs => xs.length ≤ sizeLine ∧ ∃ its : List Value, Vals xs its ∧ IsTup h a its.toArray
  | .dK kvs => kvs.length ≤ sizeLine ∧ (a == sysModules) = false ∧ ∃ vs, KV kvs vs ∧ h.DictOf (mixKind P w) a vs
  | .dT kvs => kvs.length ≤ sizeLine ∧ (a == sysModules) = false ∧ ∃ xs : List (List Key × Addr × Value),
      Paired (fun (p : List Key × V) (q : List Key × Addr × Value) => p.1 = q.1 ∧ H q.2.1 = some (.tup (p.1.map kV)) ∧ RelV p.2 q.2.2) kvs xs ∧
      ∃ o es ep, h.get? a = some o ∧ o.ExactDict ∧ o.data = .dict es ep ∧ es.toList = xs.map (entryOfKey (tupleKind (mixKind P w))) ∧ (xs.map (·.1)).Nodup
  | .set S n => h.SetOf (intKind P w) a S n
  | .ins C dx fs => H dx = some (.own a) ∧ fs.length ≤ 1000 ∧ dx ≠ a ∧ h.get? a = some (PySem.W.instObj C dx) ∧
      ∃ mA, h.Ns1 dx mA ∧ (∀ f, RelO (fs.lookup f) (mA f)) ∧ PySem.Within mA (fs.map (·.1))
  | .own _ => ∃ o, h.get? a = some o
  | .xd fs => ∃ mA, h.Ns1 a mA ∧ ∀ f, RelO (fs.lookup f) (mA f)
  | .rng lo hi => ∃ t u v, h.get? a = some { cls := .type "range", data := .fields #[.int lo t, .int hi u, .int 1 v] }
  | .frz o u => h.get? a = some o ∧ ObjOk H h a u
  | .tbl ps => h.get? a = some { cls := .none, data := .fields ps }
  | .met f x => h.get? a = some (PySem.W.methodObj (.ref f) (.ref x))
  | .ext φ => φ h ∧ (∃ o, h.get? a = some o) ∧ ∀ h1 h2 : Heap, φ h1 → (∀ o, h1.get? a = some o → h2.get? a = some o) → φ h2
/-- the abstract heap is held -/
def HOk (H : Hp) (h : Heap) : Prop := ∀ a o, H a = some o → ObjOk P w H h a o
end

section
variable {P : Program} {w : World} {H H' : Hp} {h h' : Heap} {a : Addr} {o : HO}
theorem ObjOk.lt (x : ObjOk P w H h a o) : a < h.objs.size := by
  cases o with
  | lst xs => obtain ⟨_, _, _, _, e⟩ := x; exact Heap.lt_size e
  | tup xs => obtain ⟨_, _, _, p⟩ := x; exact p.lt
  | dK kvs => obtain ⟨_, _, _, _, o, _, _, e, _⟩ := x; exact Heap.lt_size e
  | dT kvs => obtain ⟨_, _, _, _, o, _, _, e, _⟩ := x; exact Heap.lt_size e
  | set S n => obtain ⟨o, _, _, _, e, _⟩ := x; exact Heap.lt_size e
  | ins C dx fs => obtain ⟨_, _, _, e, _⟩ := x; exact Heap.lt_size e
  | own y => obtain ⟨_, e⟩ := x; exact Heap.lt_size e
  | xd fs => obtain ⟨_, ⟨_, _, _, e, _⟩, _⟩ := x; exact Heap.lt_size e
  | rng lo hi => obtain ⟨_, _, _, e⟩ := x; exact Heap.lt_size e
  | frz ob u => obtain ⟨e, _⟩ := x; exact Heap.lt_size e
  | tbl ps => exact Heap.lt_size (show h.get? a = some _ from x)
  | met f y => exact Heap.lt_size (show h.get? a = some _ from x)
  | ext φ => obtain ⟨_, ⟨_, e⟩, _⟩ := x; exact Heap.lt_size e
theorem Paired.mapP {α β : Type} {F G : α → β → Prop} : ∀ {l₁ : List α} {l₂ : List β}, Paired F l₁ l₂ → (∀ a b, F a b → G a b) → Paired G l₁ l₂
  | _, _, .nil, _ => .nil
  | _, _, .cons r t, f => .cons (f _ _ r) (Paired.mapP t f)
/-- what an object's description leans on: its own object, its own dict, the tuples -/
theorem ObjOk.stay (x : ObjOk P w H h a o) (k : ∀ b u, (b = a ∨ H b = some (.own a)) → h.get? b = some u → h'.get? b = some u)
    (ho : ∀ b, H b = some (.own a) → H' b = some (.own a)) (ht : ∀ b xs, H b = some (.tup xs) → H' b = some (.tup xs)) : ObjOk P w H' h' a o := by
  induction o with
  | lst xs => obtain ⟨z, its, n, r, e⟩ := x; exact ⟨z, its, n, r, k _ _ (.inl rfl) e⟩
  | tup xs => obtain ⟨z, its, r, ob, e, c⟩ := x; exact ⟨z, its, r, ob, k _ _ (.inl rfl) e, c⟩
  | dK kvs => obtain ⟨z, y, vs, r, ob, es, ep, e, c⟩ := x; exact ⟨z, y, vs, r, ob, es, ep, k _ _ (.inl rfl) e, c⟩
  | dT kvs =>
    obtain ⟨z, y, xs, r, ob, es, ep, e, c⟩ := x
    exact ⟨z, y, xs, Paired.mapP r fun p q z => ⟨z.1, ht _ _ z.2.1, z.2.2⟩, ob, es, ep, k _ _ (.inl rfl) e, c⟩
  | set S n => obtain ⟨ob, es, ep, t, e, c⟩ := x; exact ⟨ob, es, ep, t, k _ _ (.inl rfl) e, c⟩
  | ins C dx fs =>
    obtain ⟨d, z, ne, e, mA, ⟨od, es, ep, e2, c⟩, r⟩ := x
    exact ⟨ho _ d, z, ne, k _ _ (.inl rfl) e, mA, ⟨od, es, ep, k _ _ (.inr d) e2, c⟩, r⟩
  | own y => obtain ⟨ob, e⟩ := x; exact ⟨ob, k _ _ (.inl rfl) e⟩
  | xd fs => obtain ⟨mA, ⟨od, es, ep, e, c⟩, r⟩ := x; exact ⟨mA, ⟨od, es, ep, k _ _ (.inl rfl) e, c⟩, r⟩
  | rng lo hi => obtain ⟨t, u, v, e⟩ := x; exact ⟨t, u, v, k _ _ (.inl rfl) e⟩
  | frz ob u ih => obtain ⟨e, q⟩ := x; exact ⟨k _ _ (.inl rfl) e, ih q⟩
  | tbl ps =>
    have e : h.get? a = some { cls := .none, data := .fields ps } := x
    show h'.get? a = some { cls := .none, data := .fields ps }
    exact k a _ (.inl rfl) e
  | met f y =>
    have e : h.get? a = some (PySem.W.methodObj (.ref f) (.ref y)) := x
    show h'.get? a = some (PySem.W.methodObj (.ref f) (.ref y))
    exact k a _ (.inl rfl) e
  | ext φ => obtain ⟨p, ⟨o, e⟩, st⟩ := x; exact ⟨st _ _ p fun o q => k _ _ (.inl rfl) q, ⟨o, k _ _ (.inl rfl) e⟩, st⟩
theorem HOk.lt (x : HOk P w H h) (e : H a = some o) : a < h.objs.size := (x a o e).lt
theorem HOk.fresh (x : HOk P w H h) (e : h.objs.size ≤ a) : H a = none := by
  cases q : H a with
  | none => rfl
  | some u => exact absurd (Nat.lt_of_lt_of_le (x.lt q) e) (Nat.lt_irrefl _)
/-- every object of the heap is kept -/
theorem HOk.kept (x : HOk P w H h) (k : ∀ b u, h.get? b = some u → h'.get? b = some u) : HOk P w H h' := fun a o e =>
  (x a o e).stay (fun b u _ q => k b u q) (fun _ q => q) fun _ _ q => q
/-- a new object is laid and tracked -/
theorem HOk.laid (x : HOk P w H h) (k : ∀ b u, h.get? b = some u → h'.get? b = some u) (hp : h.objs.size ≤ a) (new : ObjOk P w (upd H a o) h' a o) : HOk P w (upd H a o) h' := fun b u e => by
  have hn := x.fresh hp
  by_cases hb : b = a
  · subst hb; rw [upd_same] at e; cases e; exact new
  · rw [upd_ne hb] at e
    exact (x b u e).stay (fun c v _ q => k c v q) (fun c q => by rw [upd_ne (ne_of_none q hn)]; exact q) fun c xs q => by rw [upd_ne (ne_of_none q hn)]; exact q
end

/-- what may be read as u: it is u, or a known u -/
def Rd (H : Hp) (a : Addr) (u : HO) : Prop := H a = some u ∨ ∃ o, H a = some (.frz o u)
theorem Rd.of {H : Hp} {a : Addr} {u : HO} (h : H a = some u) : Rd H a u := .inl h
theorem Rd.ok {P : Program} {w : World} {H : Hp} {h : Heap} {a : Addr} {u : HO} (r : Rd H a u) (x : HOk P w H h) : ObjOk P w H h a u := by
  rcases r with r | ⟨o, r⟩
  · exact x a u r
  · obtain ⟨_, q⟩ := x a _ r
    exact q
/-- what may be written -/
def Mut : Option HO → Prop
  | some (.lst _) => True
  | some (.dK _) => True
  | some (.dT _) => True
  | some (.set _ _) => True
  | some (.ins _ _ _) => True
  | some (.ext _) => True
  | _ => False
section
variable {P : Program} {w : World} {H : Hp} {h h' : Heap} {x e : Addr} {o' : HO}
/-- the object at e is changed: x itself, or the dict of the instance x -/
theorem HOk.write (ok : HOk P w H h) (mu : Mut (H x)) (he : e = x ∨ H e = some (.own x)) (k : ∀ b u, b ≠ e → h.get? b = some u → h'.get? b = some u) (heo : ∃ u, h'.get? e = some u)
    (new : ObjOk P w (upd H x o') h' x o') : HOk P w (upd H x o') h' := fun b u q => by
  have nown : ∀ c y, H c = some (.own y) → c ≠ x := fun c y r z => by subst z; rw [r] at mu; exact mu
  have ntup : ∀ c xs, H c = some (.tup xs) → c ≠ x := fun c xs r z => by subst z; rw [r] at mu; exact mu
  by_cases hb : b = x
  · subst hb; rw [upd_same] at q; cases q; exact new
  · rw [upd_ne hb] at q
    by_cases hbe : b = e
    · have q' : H b = some (.own x) := by
        rcases he with z | z
        · exact absurd (hbe.trans z) hb
        · rw [hbe]; exact z
      rw [q] at q'; cases q'
      obtain ⟨v, hv⟩ := heo
      exact ⟨v, by rw [hbe]; exact hv⟩
    · refine (ok b u q).stay (fun c v hc r => k c v ?_ r) (fun c r => by rw [upd_ne (nown c b r)]; exact r) fun c xs r => by rw [upd_ne (ntup c xs r)]; exact r
      rcases hc with rfl | hc
      · exact hbe
      · rintro rfl
        rcases he with z | z
        · exact nown c b hc z
        · rw [hc] at z; cases z; exact hb rfl
end

/-! ### kept unless tracked; of the frames at fs (the callers') the slots may change (an exception that passes writes there); of the records at ex (iterators) nothing is said -/
structure Un (fs ex : List Addr) (H H' : Hp) (h h' : Heap) : Prop where
  keep : ∀ b o, h.get? b = some o → H b = none → b ∉ fs → b ∉ ex → h'.get? b = some o
  slot : ∀ b o, h.get? b = some o → H b = none → b ∈ fs → b ∉ ex → ∃ sl, h'.get? b = some { o with slots := sl }
  free : ∀ b o, h.get? b = some o → H b = none → b ∉ ex → H' b = none
  there : ∀ b o, h.get? b = some o → b ∉ ex → ∃ o', h'.get? b = some o'
  tups : ∀ b xs, H b = some (.tup xs) → H' b = some (.tup xs)
  frzs : ∀ b o u, H b = some (.frz o u) → H' b = some (.frz o u)
  tbls : ∀ b ps, H b = some (.tbl ps) → ∃ more, H' b = some (.tbl (ps ++ more))
section
variable {fs fs' ex ex' : List Addr} {H H1 H2 : Hp} {h h1 h2 h' : Heap} {a x e : Addr} {o : HO}
theorem Un.any (u : Un fs ex H H1 h h1) {b : Addr} {ob : Obj} (q : h.get? b = some ob) (n : H b = none) (hx : b ∉ ex) : ∃ sl, h1.get? b = some { ob with slots := sl } := by
  by_cases hb : b ∈ fs
  · exact u.slot b ob q n hb hx
  · exact ⟨ob.slots, u.keep b ob q n hb hx⟩
theorem Un.trans (a : Un fs ex H H1 h h1) (b : Un fs ex H1 H2 h1 h2) : Un fs ex H H2 h h2 where
  keep := fun c ob q n hc hx => b.keep c ob (a.keep c ob q n hc hx) (a.free c ob q n hx) hc hx
  slot := fun c ob q n hc hx => by
    obtain ⟨sl, e1⟩ := a.slot c ob q n hc hx
    obtain ⟨sl', e2⟩ := b.slot c _ e1 (a.free c ob q n hx) hc hx
    exact ⟨sl', e2⟩
  free := fun c ob q n hx => by
    obtain ⟨o', e1⟩ := a.there c ob q hx
    exact b.free c o' e1 (a.free c ob q n hx) hx
  there := fun c ob q hx => by
    obtain ⟨o', e1⟩ := a.there c ob q hx
    exact b.there c o' e1 hx
  tups := fun c xs q => b.tups c xs (a.tups c xs q)
  frzs := fun c ob xs q => b.frzs c ob xs (a.frzs c ob xs q)
  tbls := fun c ps q => by
    obtain ⟨m1, e1⟩ := a.tbls c ps q
    obtain ⟨m2, e2⟩ := b.tbls c _ e1
    exact ⟨m1 ++ m2, by rw [e2, Array.append_assoc]⟩
theorem Un.kept (k : ∀ b u, h.get? b = some u → h'.get? b = some u) : Un fs ex H H h h' :=
  ⟨fun b ob q _ _ _ => k b ob q, fun b ob q _ _ _ => ⟨ob.slots, k b ob q⟩, fun _ _ _ n _ => n, fun b ob q _ => ⟨ob, k b ob q⟩, fun _ _ q => q, fun _ _ _ q => q, fun _ ps q => ⟨#[], by rw [q]; simp⟩⟩
theorem Un.refl : Un fs ex H H h h := Un.kept fun _ _ q => q
theorem Un.laid (k : ∀ b u, h.get? b = some u → h'.get? b = some u) (hp : h.objs.size ≤ a) (hn : H a = none) : Un fs ex H (upd H a o) h h' where
  keep := fun b u q _ _ _ => k b u q
  slot := fun b u q _ _ _ => ⟨u.slots, k b u q⟩
  free := fun b u q n _ => by rw [upd_ne (Nat.ne_of_lt (Nat.lt_of_lt_of_le (Heap.lt_size q) hp))]; exact n
  there := fun b u q _ => ⟨u, k b u q⟩
  tups := fun b xs q => by rw [upd_ne (ne_of_none q hn)]; exact q
  frzs := fun b u xs q => by rw [upd_ne (ne_of_none q hn)]; exact q
  tbls := fun b ps q => ⟨#[], by rw [upd_ne (ne_of_none q hn), q]; simp⟩
theorem Un.write (mu : Mut (H x)) (he : e = x ∨ H e = some (.own x)) (k : ∀ b u, b ≠ e → h.get? b = some u → h'.get? b = some u) (heo : ∃ u, h'.get? e = some u) : Un fs ex H (upd H x o) h h' := by
  have hx : ∀ b, H b = none → b ≠ x := fun b n z => by subst z; rw [n] at mu; exact mu
  have hb : ∀ b, H b = none → b ≠ e := fun b n z => by
    subst z
    rcases he with r | r
    · exact hx b n r
    · rw [n] at r; cases r
  have hm : ∀ b u, H b = some u → ¬ Mut (some u) → b ≠ x := fun b u q nm z => by subst z; rw [q] at mu; exact nm mu
  refine ⟨fun b u q n _ _ => k b u (hb b n) q, fun b u q n _ _ => ⟨u.slots, k b u (hb b n) q⟩, fun b u q n _ => by rw [upd_ne (hx b n)]; exact n, fun b u q _ => ?_,
    fun b xs q => by rw [upd_ne (hm b _ q fun z => z)]; exact q, fun b u xs q => by rw [upd_ne (hm b _ q fun z => z)]; exact q, fun b ps q => ⟨#[], by rw [upd_ne (hm b _ q fun z => z), q]; simp⟩⟩
  by_cases hbe : b = e
  · subst hbe; exact heo
  · exact ⟨u, k b u hbe q⟩
theorem Un.mono (u : Un fs ex H H1 h h1) (hs : ∀ b ∈ fs, b ∈ fs') (hx : ∀ b ∈ ex, b ∈ ex') : Un fs' ex' H H1 h h1 :=
  ⟨fun b ob q n hb he => u.keep b ob q n (fun z => hb (hs b z)) fun z => he (hx b z), fun _ _ q n _ he => u.any q n fun z => he (hx _ z), fun b ob q n he => u.free b ob q n fun z => he (hx b z), fun b ob q he => u.there b ob q fun z => he (hx b z), u.tups, u.frzs, u.tbls⟩
end

/-! ### the heap without what is tracked -/
def trk (h : Heap) (H : Hp) : List Addr := (List.range h.objs.size).filter fun a => (H a).isSome
def hidT (h : Heap) (H : Hp) : Heap := PySem.W.hideAll h (trk h H)
theorem hidT_size (h : Heap) (H : Hp) : (hidT h H).objs.size = h.objs.size := PySem.W.hideAll_size _ _
theorem hidT_get {h : Heap} {H : Hp} {b : Addr} {o : Obj} (e : h.get? b = some o) (n : H b = none) : (hidT h H).get? b = some o :=
  PySem.W.hideAll_get _ e fun hm => by
    have q : (H b).isSome = true := (List.mem_filter.mp hm).2
    rw [n] at q; simp at q
theorem of_hidT {h : Heap} {H : Hp} {b : Addr} {o : Obj} (e : (hidT h H).get? b = some o) : h.get? b = some o ∧ H b = none := by
  have e' : h.get? b = some o := PySem.W.of_hideAll (trk h H) e
  refine ⟨e', ?_⟩
  cases q : H b with
  | none => rfl
  | some x =>
    have hm : b ∈ trk h H := List.mem_filter.mpr ⟨List.mem_range.mpr (Heap.lt_size e'), by simp [q]⟩
    have z : (hidT h H).get? b = none := PySem.W.hideAll_none (trk h H) hm
    rw [z] at e; cases e

/-! ### OpenK's ledger, filled with every new object but one -/
def allNews (g h : Heap) (L : Addr) : List (Addr × Obj) := (List.range h.objs.size).filterMap fun a => if a = L ∨ (g.get? a).isSome = true then none else (h.get? a).map fun o => (a, o)
def rest (g h : Heap) (L d : Addr) : List (Addr × Obj) := (allNews g h L).filter fun p => decide (p.1 ≠ d)
end L2

namespace L2
open PySem PySem.Spec PyProof.Rows

/-- the module's facts, over the base: the heap at the law's entry without what is tracked there -/
structure Mod (K : PySem.W.Frag) (mg : Str → Option Value) (base : Heap) : Prop where
  kin : K.In base
  glob : base.Ns mainGlobals mg
  blt : ∃ mb, base.Ns builtinsNs mb ∧ ∀ x : Str, x ≠ "__name__" → mb x = bootBuiltins x
  nolimit : base.NoLimit

/-- the context: a def's body (or a comprehension's block) running. base: fixed through the whole law; s₀, H₀: the entry; outer: the frames whose slots others may change (a def's callers); stack: all frames that run;
   ex: iterators that were made ahead of the entry and are walked here (a comprehension's); fn: the names whose cells were made at the entry (a def: all; a comprehension's block: its own); calm: not within an except suite; pn: pins that every state bears; xe: what is wanted of an exception that leaves the code -/
structure Cx where
  prog : Program
  w : World
  K : PySem.W.Frag
  mg : Str → Option Value
  base : Heap
  A : Around
  N : List Str
  s₀ : Shared
  H₀ : Hp
  env : Env
  outer : List Env
  stack : List Env
  ex : List Addr
  fn : Str → Bool
  calm : Bool
  pn : List (Addr × Obj)
  xe : Value → Shared → Prop
/-- the callers' frames -/
def frs (l : List Env) : List Addr := l.filterMap (·.frame)
abbrev Cx.fs (X : Cx) : List Addr := frs X.outer

def Vis (sc : Scope) (x : Str) : Prop := sc.names.lookup x = some .local ∨ sc.names.lookup x = some .cell ∨ sc.names.lookup x = some .free
def Loc (sc : Scope) (x : Str) : Prop := sc.names.lookup x = some .local ∨ sc.names.lookup x = some .cell
def Look (env : Env) (h : Heap) (m : Str → Option Value) (x : Str) (u : Value) : Prop :=
  (env.kindOf x = some .local ∧ m x = some u) ∨ ((env.kindOf x = some .cell ∨ env.kindOf x = some .free) ∧ ∃ c, env.cells.lookup x = some c ∧ h.IsCell c (some u))

structure Cx.Ok (X : Cx) : Prop where
  mod : Mod X.K X.mg X.base
  kind : X.env.scope.kind = .function
  glob : X.env.globals = mainGlobals
  blt : X.env.builtins = builtinsNs
  above : X.s₀.heap.objs.size ≤ X.env.locals
  inj : ∀ x y c, X.env.cells.lookup x = some c → X.env.cells.lookup y = some c → x = y
  has : ∀ x, (X.env.kindOf x = some .cell ∨ X.env.kindOf x = some .free) → ∃ c, X.env.cells.lookup x = some c
  cab : ∀ x c, X.fn x = true → X.env.cells.lookup x = some c → X.s₀.heap.objs.size ≤ c
  hd : X.calm = true → X.A.handled = none
  frames : X.A.frames = some X.stack
  stk : X.stack = X.outer ∨ (X.stack = X.env :: X.outer ∧ X.env.frame = some X.env.locals)
  exf : ∀ b ∈ X.ex, b ≠ X.env.locals ∧ ∀ x c, X.env.cells.lookup x = some c → c ≠ b
  bs : ∀ b o, X.base.get? b = some o → X.s₀.heap.get? b = some o ∧ X.H₀ b = none
  bsz : X.base.objs.size ≤ X.s₀.heap.objs.size
  noex : ∀ b o, X.base.get? b = some o → b ∉ X.ex
  exfs : ∀ b ∈ X.ex, b ∉ X.fs
  funs : X.s₀.heap.FunFrames X.base X.outer
  frf : ∀ b ∈ X.fs, X.H₀ b = none

structure Inv (X : Cx) (pins : List (Addr × Obj)) (σ : List (Option V)) (H : Hp) (s : Shared) : Prop where
  ok : X.Ok
  os : s.os = X.s₀.os
  bare : AllBare s.gens
  base : Un X.fs X.ex X.H₀ H X.s₀.heap s.heap
  loc : ∃ m, s.heap.Ns X.env.locals m ∧ ∀ (i : Nat) (x : Str) (v : V), X.N[i]? = some x → σ[i]? = some (some v) → Vis X.env.scope x → ∃ u, RelV v u ∧ Look X.env s.heap m x u
  cell : ∀ x c, X.env.cells.lookup x = some c → ∃ v, s.heap.IsCell c v
  free : H X.env.locals = none
  freeC : ∀ x c, X.env.cells.lookup x = some c → H c = none
  pin : ∀ p ∈ X.pn ++ pins, s.heap.get? p.1 = some p.2 ∧ H p.1 = none ∧ p.1 ≠ X.env.locals ∧ p.1 ∉ X.fs ∧ ∀ v, p.2.data ≠ .cell v
  hok : HOk X.prog X.w H s.heap
  len : σ.length = X.N.length

section
variable {X : Cx} {pins : List (Addr × Obj)} {σ : List (Option V)} {H H' : Hp} {s : Shared} {h' : Heap}

theorem Cx.Ok.nofr (ok : X.Ok) {b : Addr} {o : Obj} (e : X.base.get? b = some o) : b ∉ X.fs := fun hb => by
  have := (ok.funs.mem hb).1
  rw [e] at this; cases this
theorem Inv.bs (I : Inv X pins σ H s) : ∀ b o, X.base.get? b = some o → s.heap.get? b = some o ∧ H b = none := fun b o e =>
  ⟨I.base.keep b o (I.ok.bs b o e).1 (I.ok.bs b o e).2 (I.ok.nofr e) (I.ok.noex b o e), I.base.free b o (I.ok.bs b o e).1 (I.ok.bs b o e).2 (I.ok.noex b o e)⟩
theorem Inv.bk (I : Inv X pins σ H s) : ∀ b o, X.base.get? b = some o → s.heap.get? b = some o := fun b o e => (I.bs b o e).1
theorem Inv.mod (I : Inv X pins σ H s) : Mod X.K X.mg X.base := I.ok.mod
theorem Inv.kIn (I : Inv X pins σ H s) : X.K.In s.heap := I.ok.mod.kin.keeps I.bk
theorem Inv.nolimit (I : Inv X pins σ H s) : s.heap.NoLimit := I.ok.mod.nolimit.keeps I.bk
/-- the frame over the base: for OpenK's rules (K.In X.base is I.mod.kin) -/
theorem Inv.fr (I : Inv X pins σ H s) : ∃ m, Fr X.base X.env.locals s.heap m :=
  let ⟨m, hn, _⟩ := I.loc
  ⟨m, hn, I.bk, Nat.le_trans I.ok.bsz I.ok.above⟩
theorem Inv.lt (I : Inv X pins σ H s) : X.env.locals < s.heap.objs.size := let ⟨_, hn, _⟩ := I.loc; hn.lt
theorem Inv.sz (I : Inv X pins σ H s) : X.s₀.heap.objs.size ≤ s.heap.objs.size := Nat.le_trans I.ok.above (Nat.le_of_lt I.lt)
theorem Inv.nofs (I : Inv X pins σ H s) {a : Addr} (h : s.heap.objs.size ≤ a) : a ∉ X.fs := fun hb => by
  obtain ⟨_, o, ho, _⟩ := I.ok.funs.mem hb
  exact absurd (Nat.lt_of_lt_of_le (Heap.lt_size ho) (Nat.le_trans I.sz h)) (Nat.lt_irrefl _)
theorem Inv.cne (I : Inv X pins σ H s) : ∀ x c, X.env.cells.lookup x = some c → c ≠ X.env.locals := fun x c e z => by
  obtain ⟨v, o, ho, hd⟩ := I.cell x c e
  obtain ⟨m, ⟨o', es, ep, ho', hd', _⟩, _⟩ := I.loc
  rw [z, ho'] at ho; cases ho; rw [hd'] at hd; cases hd
theorem Inv.funs (I : Inv X pins σ H s) : s.heap.FunFrames X.base X.outer := by
  have all : ∀ (l : List Env), (∀ b ∈ frs l, b ∈ X.fs) → X.s₀.heap.FunFrames X.base l → s.heap.FunFrames X.base l := by
    intro l
    induction l with
    | nil => intro _ _; trivial
    | cons env r ih =>
      intro hs hl
      obtain ⟨hk, ⟨L, o, hf, hn, ho, hd⟩, hr⟩ := hl
      have hL : L ∈ X.fs := hs L (by unfold frs; rw [List.filterMap_cons, hf]; exact List.mem_cons_self)
      obtain ⟨sl, e⟩ := I.base.slot L o ho (I.ok.frf L hL) hL fun z => I.ok.exfs L z hL
      exact ⟨hk, ⟨L, _, hf, hn, e, hd⟩, ih (fun b hb => hs b (by unfold frs; rw [List.filterMap_cons, hf]; exact List.mem_cons_of_mem _ hb)) hr⟩
  exact all X.outer (fun _ hb => hb) I.ok.funs

/-- the frames that run, for a call -/
theorem Inv.stack (I : Inv X pins σ H s) : s.heap.FunFrames X.base X.stack := by
  rcases I.ok.stk with e | ⟨e, hf⟩
  · rw [e]; exact I.funs
  · rw [e]
    obtain ⟨m, hn, _⟩ := I.loc
    refine .cons (by rw [I.ok.kind]; decide) hf hn ?_ I.funs
    exact Heap.get?_none_of_le (Nat.le_trans I.ok.bsz I.ok.above)
theorem Inv.stkSub (I : Inv X pins σ H s) : ∀ b ∈ frs X.stack, b ∈ X.env.locals :: X.fs := fun b hb => by
  rcases I.ok.stk with e | ⟨e, hf⟩
  · rw [e] at hb; exact List.mem_cons_of_mem _ hb
  · rw [e] at hb
    unfold frs at hb
    rw [List.filterMap_cons, hf] at hb
    exact hb
theorem Inv.stkFree (I : Inv X pins σ H s) : ∀ b ∈ frs X.stack, H b = none := fun b hb => by
  rcases List.mem_cons.mp (I.stkSub b hb) with e | hb
  · rw [e]; exact I.free
  · obtain ⟨_, o, ho, _⟩ := I.ok.funs.mem hb
    exact I.base.free b o ho (I.ok.frf b hb) fun z => I.ok.exfs b z hb

/-- THE STEP: the untracked objects but the frame and the records at ch are kept (the callers' frames up to slots), the frame's map is kept, the new abstract heap is held -/
theorem Inv.step {g' : Array GenState} {t' : Nat} {d' : Drawn} {ch : List Addr} (I : Inv X pins σ H s)
    (hch : ∀ b ∈ ch, (b ∈ X.ex ∨ X.s₀.heap.objs.size ≤ b) ∧ b ≠ X.env.locals ∧ (∀ x c, X.env.cells.lookup x = some c → c ≠ b) ∧ ∀ p ∈ X.pn ++ pins, p.1 ≠ b)
    (keep : ∀ b o, b ≠ X.env.locals → b ∉ X.fs → b ∉ ch → s.heap.get? b = some o → H b = none → h'.get? b = some o)
    (slot : ∀ b o, b ≠ X.env.locals → b ∈ X.fs → b ∉ ch → s.heap.get? b = some o → H b = none → ∃ sl, h'.get? b = some { o with slots := sl }) (free : ∀ b o, b ∉ ch → s.heap.get? b = some o → H b = none → H' b = none)
    (there : ∀ b o, b ∉ ch → s.heap.get? b = some o → ∃ o', h'.get? b = some o')
    (tups : ∀ b xs, H b = some (.tup xs) → H' b = some (.tup xs)) (frzs : ∀ b o u, H b = some (.frz o u) → H' b = some (.frz o u)) (tbls : ∀ b ps, H b = some (.tbl ps) → ∃ more, H' b = some (.tbl (ps ++ more)))
    (ns : ∀ m, s.heap.Ns X.env.locals m → h'.Ns X.env.locals m) (hok : HOk X.prog X.w H' h') (hg : AllBare g') :
    Inv X pins σ H' { s with heap := h', gens := g', drawn := d', toks := t' } := by
  have neL : ∀ b o, X.s₀.heap.get? b = some o → b ≠ X.env.locals := fun b o e => Nat.ne_of_lt (Nat.lt_of_lt_of_le (Heap.lt_size e) I.ok.above)
  have neC : ∀ b o, X.s₀.heap.get? b = some o → b ∉ X.ex → b ∉ ch := fun b o e hx hb => by
    rcases (hch b hb).1 with z | z
    · exact hx z
    · exact absurd (Nat.lt_of_lt_of_le (Heap.lt_size e) z) (Nat.lt_irrefl _)
  have cellK : ∀ x c, X.env.cells.lookup x = some c → ∀ v, s.heap.IsCell c v → h'.IsCell c v := fun x c e v ⟨o, ho, hd⟩ => by
    have nch : c ∉ ch := fun z => (hch c z).2.2.1 x c e rfl
    by_cases hc : c ∈ X.fs
    · obtain ⟨sl, q⟩ := slot c o (I.cne x c e) hc nch ho (I.freeC x c e)
      exact ⟨_, q, hd⟩
    · exact ⟨o, keep c o (I.cne x c e) hc nch ho (I.freeC x c e), hd⟩
  refine ⟨I.ok, I.os, hg, ⟨fun b o e n hb hx => ?_, fun b o e n hb hx => ?_, fun b o e n hx => ?_, fun b o e hx => ?_, fun b xs e => tups b xs (I.base.tups b xs e), fun b o xs e => frzs b o xs (I.base.frzs b o xs e), fun b ps e => ?_⟩, ?_, fun x c e => ?_, ?_, fun x c e => ?_, fun p hp => ?_, hok, I.len⟩
  · exact keep b o (neL b o e) hb (neC b o e hx) (I.base.keep b o e n hb hx) (I.base.free b o e n hx)
  · obtain ⟨sl, e1⟩ := I.base.slot b o e n hb hx
    obtain ⟨sl', e2⟩ := slot b _ (neL b o e) hb (neC b o e hx) e1 (I.base.free b o e n hx)
    exact ⟨sl', e2⟩
  · obtain ⟨o', e1⟩ := I.base.there b o e hx
    exact free b o' (neC b o e hx) e1 (I.base.free b o e n hx)
  · obtain ⟨o', e1⟩ := I.base.there b o e hx
    exact there b o' (neC b o e hx) e1
  · obtain ⟨m1, e1⟩ := I.base.tbls b ps e
    obtain ⟨m2, e2⟩ := tbls b _ e1
    exact ⟨m1 ++ m2, by rw [e2, Array.append_assoc]⟩
  · obtain ⟨m, hn, hl⟩ := I.loc
    refine ⟨m, ns m hn, fun i x v e1 e2 e3 => ?_⟩
    obtain ⟨u, r, l⟩ := hl i x v e1 e2 e3
    refine ⟨u, r, ?_⟩
    rcases l with l | ⟨k, c, e, z⟩
    · exact .inl l
    · exact .inr ⟨k, c, e, cellK x c e _ z⟩
  · obtain ⟨v, z⟩ := I.cell x c e
    exact ⟨v, cellK x c e v z⟩
  · obtain ⟨m, ⟨o, _, _, ho, _⟩, _⟩ := I.loc
    exact free _ o (fun z => (hch _ z).2.1 rfl) ho I.free
  · obtain ⟨v, o, ho, hd⟩ := I.cell x c e
    exact free c o (fun z => (hch c z).2.2.1 x c e rfl) ho (I.freeC x c e)
  · obtain ⟨e, n, ne, nf, d⟩ := I.pin p hp
    have nch : p.1 ∉ ch := fun z => (hch p.1 z).2.2.2 p hp rfl
    exact ⟨keep p.1 p.2 ne nf nch e n, free p.1 p.2 nch e n, ne, nf, d⟩
/-- .. where the frame's own object is kept too -/
theorem Inv.un {t' : Nat} (I : Inv X pins σ H s) (u : Un X.fs [] H H' s.heap h') (hok : HOk X.prog X.w H' h') : Inv X pins σ H' { s with heap := h', toks := t' } := by
  obtain ⟨m, ⟨o, es, ep, ho, r⟩, _⟩ := id I.loc
  obtain ⟨sl, hL⟩ := u.any ho I.free (by simp)
  exact I.step (g' := s.gens) (d' := s.drawn) (ch := []) (fun _ z => nomatch z) (fun b o _ hb _ e n => u.keep b o e n hb (by simp)) (fun b o _ hb _ e n => u.slot b o e n hb (by simp)) (fun b o _ e n => u.free b o e n (by simp)) (fun b o _ e => u.there b o e (by simp)) u.tups u.frzs u.tbls (fun m' hm => by
    obtain ⟨o', es', ep', ho', r'⟩ := hm
    rw [ho] at ho'; cases ho'
    exact ⟨_, es', ep', hL, r'⟩) hok I.bare
/-- behind a call (or a comprehension's block): the slots of this frame may have changed too, the records at ch may have turned -/
theorem Inv.call {g' : Array GenState} {t' : Nat} {d' : Drawn} {ch : List Addr} (I : Inv X pins σ H s) (u : Un (frs X.stack) ch H H' s.heap h') (hok : HOk X.prog X.w H' h') (hg : AllBare g')
    (hch : ∀ b ∈ ch, (b ∈ X.ex ∨ X.s₀.heap.objs.size ≤ b) ∧ b ≠ X.env.locals ∧ (∀ x c, X.env.cells.lookup x = some c → c ≠ b) ∧ ∀ p ∈ X.pn ++ pins, p.1 ≠ b) :
    Inv X pins σ H' { s with heap := h', gens := g', drawn := d', toks := t' } := by
  obtain ⟨m, ⟨o, es, ep, ho, r⟩, _⟩ := id I.loc
  obtain ⟨sl, hL⟩ := u.any ho I.free fun z => (hch _ z).2.1 rfl
  exact I.step (ch := ch) hch (fun b o hL hb hc e n => u.keep b o e n (fun z => (List.mem_cons.mp (I.stkSub b z)).elim hL hb) hc) (fun b o _ _ hc e n => u.any e n hc) (fun b o hc e n => u.free b o e n hc) (fun b o hc e => u.there b o e hc) u.tups u.frzs u.tbls (fun m' hm => by
    obtain ⟨o', es', ep', ho', r'⟩ := hm
    rw [ho] at ho'; cases ho'
    exact ⟨_, es', ep', hL, r'⟩) hok hg
/-- an untracked record of ours (an iterator) has turned -/
theorem Inv.turned {t' : Nat} {it : Addr} (I : Inv X pins σ H s) (k : ∀ b o, b ≠ it → s.heap.get? b = some o → h'.get? b = some o) (hn : H it = none) (hL : it ≠ X.env.locals)
    (h1 : it ∈ X.ex ∨ X.s₀.heap.objs.size ≤ it) (h2 : ∀ x c, X.env.cells.lookup x = some c → c ≠ it) (h3 : ∀ p ∈ X.pn ++ pins, p.1 ≠ it) : Inv X pins σ H { s with heap := h', toks := t' } := by
  have nit : ∀ b u, H b = some u → b ≠ it := fun b u e z => by rw [z, hn] at e; cases e
  refine I.step (g' := s.gens) (d' := s.drawn) (ch := [it]) (fun b hb => ?_) (fun b o _ _ hc e _ => k b o (fun z => hc (by simp [z])) e) (fun b o _ _ hc e _ => ⟨o.slots, k b o (fun z => hc (by simp [z])) e⟩) (fun _ _ _ _ n => n)
    (fun b o hc e => ⟨o, k b o (fun z => hc (by simp [z])) e⟩) (fun _ _ e => e) (fun _ _ _ e => e) (fun b ps e => ⟨#[], by rw [e]; simp⟩) (fun m hm => ?_) (fun b u e => ?_) I.bare
  · have e : b = it := by simpa using hb
    subst e
    exact ⟨h1, hL, h2, h3⟩
  · obtain ⟨o, es, ep, ho, r⟩ := hm
    exact ⟨o, es, ep, k _ o (Ne.symm hL) ho, r⟩
  · refine (I.hok b u e).stay (fun c v hc q => k c v ?_ q) (fun _ q => q) fun _ _ q => q
    rcases hc with z | z
    · rw [z]; exact nit b u e
    · exact nit c _ z
theorem Inv.tok (I : Inv X pins σ H s) (t : Nat) : Inv X pins σ H { s with toks := t } := I.un (h' := s.heap) (t' := t) Un.refl I.hok
/-- all objects kept -/
theorem Inv.kept {t' : Nat} (I : Inv X pins σ H s) (k : ∀ b u, s.heap.get? b = some u → h'.get? b = some u) : Inv X pins σ H { s with heap := h', toks := t' } := I.un (Un.kept k) (I.hok.kept k)
/-- a new object laid and tracked -/
theorem Inv.laid {a : Addr} {o : HO} {t' : Nat} (I : Inv X pins σ H s) (k : ∀ b u, s.heap.get? b = some u → h'.get? b = some u) (hp : s.heap.objs.size ≤ a) (new : ObjOk X.prog X.w (upd H a o) h' a o) :
    Inv X pins σ (upd H a o) { s with heap := h', toks := t' } := I.un (Un.laid k hp (I.hok.fresh hp)) (I.hok.laid k hp new)
/-- an object written -/
theorem Inv.write {x e : Addr} {o : HO} {t' : Nat} (I : Inv X pins σ H s) (mu : Mut (H x)) (he : e = x ∨ H e = some (.own x)) (k : ∀ b u, b ≠ e → s.heap.get? b = some u → h'.get? b = some u) (heo : ∃ u, h'.get? e = some u)
    (new : ObjOk X.prog X.w (upd H x o) h' x o) : Inv X pins σ (upd H x o) { s with heap := h', toks := t' } := I.un (Un.write mu he k heo) (I.hok.write mu he k heo new)
theorem Inv.pins_of {pins' : List (Addr × Obj)} (I : Inv X pins σ H s) (h : ∀ p ∈ pins', s.heap.get? p.1 = some p.2 ∧ H p.1 = none ∧ p.1 ≠ X.env.locals ∧ p.1 ∉ X.fs ∧ ∀ v, p.2.data ≠ .cell v) : Inv X pins' σ H s :=
  ⟨I.ok, I.os, I.bare, I.base, I.loc, I.cell, I.free, I.freeC, fun p hp => (List.mem_append.mp hp).elim (fun z => I.pin p (List.mem_append_left _ z)) (h p), I.hok, I.len⟩

theorem nodup_ix {N : List Str} (hN : N.Nodup) {i j : Nat} {x : Str} (a : N[i]? = some x) (b : N[j]? = some x) : i = j := by
  obtain ⟨h1, e1⟩ := List.getElem?_eq_some_iff.mp a
  obtain ⟨h2, e2⟩ := List.getElem?_eq_some_iff.mp b
  exact (List.getElem_inj hN).mp (e1.trans e2.symm)

/-- a name is stored; what changed -/
theorem store_ok2 {M : Model} {A : Around} {E : Value → Shared → Prop} {i : Nat} {x : Str} {v : V} {u : Value} {Q : Unit → Shared → Prop} (I : Inv X pins σ H s) (hN : X.N.Nodup) (hi : X.N[i]? = some x) (hx : Loc X.env.scope x) (r : RelV v u)
    (h : ∀ s', Inv X pins (σ.set i (some v)) H s' → (∃ a, Heap.SameBut a s.heap s'.heap ∧ (a = X.env.locals ∨ X.env.cells.lookup x = some a)) → Q () s') (hf : X.fn x = true ∨ X.env.scope.names.lookup x = some .local := by first | exact .inl rfl | exact .inr rfl | assumption) : wpAny M A (storeName X.env x u) Q E s := by
  obtain ⟨m, hn, hl⟩ := id I.loc
  have hcls : (X.env.scope.kind == .class || (X.env.scope.kind == .module && X.env.locals != X.env.globals)) = false := by rw [I.ok.kind]; rfl
  have hiσ : i < σ.length := by rw [I.len]; exact (List.getElem?_eq_some_iff.mp hi).1
  have cne := I.cne
  have tracked : ∀ {a : Addr} {h' : Heap}, (∃ o, s.heap.get? a = some o ∧ H a = none) → Heap.SameBut a s.heap h' → HOk X.prog X.w H h' := fun {a h'} ha hs b ob e => by
    obtain ⟨_, _, hfree⟩ := ha
    refine (I.hok b ob e).stay (fun c w' hc q => (hs.2 c ?_).trans q) (fun _ q => q) fun _ _ q => q
    rintro rfl
    rcases hc with rfl | hc
    · rw [hfree] at e; cases e
    · rw [hfree] at hc; cases hc
  rcases hx with hk | hk
  · refine wpAny_storeName_local hk hn (fun h' hn' hs => ?_) hcls
    obtain ⟨oL, _, _, hoL, _⟩ := id hn
    refine h _ ⟨I.ok, I.os, I.bare, ⟨fun b o e n hb hx => ?_, fun b o e n hb hx => ?_, I.base.free, fun b o e hx => ?_, I.base.tups, I.base.frzs, I.base.tbls⟩, ⟨_, hn', fun j y v' e1 e2 e3 => ?_⟩, fun y c e => ?_, I.free, I.freeC, fun p hp => ?_, tracked ⟨oL, hoL, I.free⟩ hs, by simpa using I.len⟩ ⟨_, hs, .inl rfl⟩
    · exact (hs.2 b (Nat.ne_of_lt (Nat.lt_of_lt_of_le (Heap.lt_size e) I.ok.above))).trans (I.base.keep b o e n hb hx)
    · obtain ⟨sl, e1⟩ := I.base.slot b o e n hb hx
      exact ⟨sl, (hs.2 b (Nat.ne_of_lt (Nat.lt_of_lt_of_le (Heap.lt_size e) I.ok.above))).trans e1⟩
    · obtain ⟨o', e1⟩ := I.base.there b o e hx
      exact ⟨o', (hs.2 b (Nat.ne_of_lt (Nat.lt_of_lt_of_le (Heap.lt_size e) I.ok.above))).trans e1⟩
    · by_cases hj : j = i
      · subst hj
        rw [hi] at e1; cases e1
        rw [List.getElem?_set_self hiσ] at e2
        cases e2
        exact ⟨u, r, .inl ⟨hk, by simp⟩⟩
      · rw [List.getElem?_set_ne (Ne.symm hj)] at e2
        obtain ⟨u', r', q⟩ := hl j y v' e1 e2 e3
        refine ⟨u', r', ?_⟩
        rcases q with ⟨k, e⟩ | ⟨k, c, e, z⟩
        · refine .inl ⟨k, ?_⟩
          have : y ≠ x := fun e => hj (nodup_ix hN e1 (e ▸ hi))
          simp [this, e]
        · exact .inr ⟨k, c, e, z.sameBut hs (cne y c e)⟩
    · obtain ⟨w', z⟩ := I.cell y c e
      exact ⟨w', z.sameBut hs (cne y c e)⟩
    · obtain ⟨e, n, ne, nf, d⟩ := I.pin p hp
      exact ⟨(hs.2 p.1 ne).trans e, n, ne, nf, d⟩
  · have hfn : X.fn x = true := by
      rcases hf with z | z
      · exact z
      · rw [z] at hk; cases hk
    obtain ⟨c, hc⟩ := I.ok.has x (.inl hk)
    obtain ⟨w', z⟩ := I.cell x c hc
    refine wpAny_storeName_cell I.ok.kind hk hc z (fun h' hc' hs => ?_)
    obtain ⟨oc, hoc, hocd⟩ := id z
    refine h { s with heap := h' } ⟨I.ok, I.os, I.bare, ⟨fun b o e n hb hx => ?_, fun b o e n hb hx => ?_, I.base.free, fun b o e hx => ?_, I.base.tups, I.base.frzs, I.base.tbls⟩, ⟨m, hn.sameBut hs (Ne.symm (cne x c hc)), fun j y v' e1 e2 e3 => ?_⟩, fun y c' e => ?_, I.free, I.freeC, fun p hp => ?_, tracked ⟨oc, hoc, I.freeC x c hc⟩ hs, by simpa using I.len⟩ ⟨c, hs, .inr hc⟩
    · exact (hs.2 b (Nat.ne_of_lt (Nat.lt_of_lt_of_le (Heap.lt_size e) (I.ok.cab x c hfn hc)))).trans (I.base.keep b o e n hb hx)
    · obtain ⟨sl, e1⟩ := I.base.slot b o e n hb hx
      exact ⟨sl, (hs.2 b (Nat.ne_of_lt (Nat.lt_of_lt_of_le (Heap.lt_size e) (I.ok.cab x c hfn hc)))).trans e1⟩
    · obtain ⟨o', e1⟩ := I.base.there b o e hx
      exact ⟨o', (hs.2 b (Nat.ne_of_lt (Nat.lt_of_lt_of_le (Heap.lt_size e) (I.ok.cab x c hfn hc)))).trans e1⟩
    · by_cases hj : j = i
      · subst hj
        rw [hi] at e1; cases e1
        rw [List.getElem?_set_self hiσ] at e2
        cases e2
        exact ⟨u, r, .inr ⟨.inl hk, c, hc, hc'⟩⟩
      · rw [List.getElem?_set_ne (Ne.symm hj)] at e2
        obtain ⟨u', r', q⟩ := hl j y v' e1 e2 e3
        refine ⟨u', r', ?_⟩
        rcases q with q | ⟨k, c', e, z'⟩
        · exact .inl q
        · refine .inr ⟨k, c', e, z'.sameBut hs ?_⟩
          rintro rfl
          exact hj (nodup_ix hN e1 (I.ok.inj _ _ _ e hc ▸ hi))
    · by_cases hcc : c' = c
      · subst hcc; exact ⟨_, hc'⟩
      · obtain ⟨w2, z2⟩ := I.cell y c' e
        exact ⟨w2, z2.sameBut hs hcc⟩
    · obtain ⟨e, n, ne, nf, d⟩ := I.pin p hp
      refine ⟨(hs.2 p.1 ?_).trans e, n, ne, nf, d⟩
      intro q
      rw [q, hoc] at e
      have q' : oc = p.2 := Option.some.inj e
      exact d w' (by rw [← q']; exact hocd)
theorem store_ok {M : Model} {A : Around} {E : Value → Shared → Prop} {i : Nat} {x : Str} {v : V} {u : Value} {Q : Unit → Shared → Prop} (I : Inv X pins σ H s) (hN : X.N.Nodup) (hi : X.N[i]? = some x) (hx : Loc X.env.scope x) (r : RelV v u)
    (h : ∀ s', Inv X pins (σ.set i (some v)) H s' → Q () s') (hf : X.fn x = true ∨ X.env.scope.names.lookup x = some .local := by first | exact .inl rfl | exact .inr rfl | assumption) : wpAny M A (storeName X.env x u) Q E s :=
  store_ok2 I hN hi hx r (fun s' I' _ => h s' I') hf
/-- behind a call or a block, the state as it is -/
theorem Inv.call' {s' : Shared} {ch : List Addr} (I : Inv X pins σ H s) (ho : s'.os = s.os) (u : Un (frs X.stack) ch H H' s.heap s'.heap) (hok : HOk X.prog X.w H' s'.heap) (hg : AllBare s'.gens)
    (hch : ∀ b ∈ ch, (b ∈ X.ex ∨ X.s₀.heap.objs.size ≤ b) ∧ b ≠ X.env.locals ∧ (∀ x c, X.env.cells.lookup x = some c → c ≠ b) ∧ ∀ p ∈ X.pn ++ pins, p.1 ≠ b) : Inv X pins σ H' s' := by
  obtain ⟨h', g', d', t', o'⟩ := s'
  have e : o' = s.os := ho
  subst e
  exact I.call (g' := g') (t' := t') (d' := d') u hok hg hch
end

/-! ### the judgements -/
/-- an exception: its class, its own dict's address (where it has one), the abstract heap behind it -/
abbrev XK := Value → Option Addr → Hp → Prop
abbrev St := List (Option V)
abbrev VK := V → Hp → Prop
/-- an expression's reading; a test's; an argument list's -/
abbrev TE := St → Hp → VK → Prop
abbrev TT := St → Hp → (Bool → Hp → Prop) → Prop
abbrev TA := St → Hp → (List V → Hp → Prop) → Prop
/-- what is wanted behind a statement -/
structure Ends where
  nx : St → Hp → Prop
  rt : VK
  bk : St → Hp → Prop := fun _ _ => False
  ct : St → Hp → Prop := fun _ _ => False
abbrev TS := Ends → St → Hp → Prop

def EP (X : Cx) (pins : List (Addr × Obj)) (σ : St) (Q : VK) (u : Value) (s' : Shared) : Prop := ∃ v H', Inv X pins σ H' s' ∧ RelV v u ∧ Q v H'
def TP (X : Cx) (pins : List (Addr × Obj)) (σ : St) (Q : Bool → Hp → Prop) (b : Bool) (s' : Shared) : Prop := ∃ H', Inv X pins σ H' s' ∧ Q b H'
def AP (X : Cx) (pins : List (Addr × Obj)) (σ : St) (Q : List V → Hp → Prop) (us : List Value) (s' : Shared) : Prop := ∃ vs H', Inv X pins σ H' s' ∧ Vals vs us ∧ Q vs H'
def SP (X : Cx) (pins : List (Addr × Obj)) (D : Ends) (f : Flow) (s' : Shared) : Prop :=
  match f with
  | .next => ∃ σ' H', Inv X pins σ' H' s' ∧ D.nx σ' H'
  | .brk => ∃ σ' H', Inv X pins σ' H' s' ∧ D.bk σ' H'
  | .cont => ∃ σ' H', Inv X pins σ' H' s' ∧ D.ct σ' H'
  | .ret u => ∃ v σ' H', Inv X pins σ' H' s' ∧ RelV v u ∧ D.rt v H'

def PE (X : Cx) (e : Expr) (t : TE) : Prop :=
  ∀ (pins : List (Addr × Obj)) (s : Shared) (σ : St) (H : Hp) (Q : VK), Inv X pins σ H s → t σ H Q → wpAny (model X.prog X.w) X.A (eval e X.env) (EP X pins σ Q) X.xe s
def PT (X : Cx) (e : Expr) (t : TT) : Prop :=
  ∀ (pins : List (Addr × Obj)) (s : Shared) (σ : St) (H : Hp) (Q : Bool → Hp → Prop), Inv X pins σ H s → t σ H Q → wpAny (model X.prog X.w) X.A (isTrue e X.env (eval e X.env)) (TP X pins σ Q) X.xe s
/-- a test whatever its 'whole' is (and, or) -/
def PW (X : Cx) (e : Expr) (t : TT) : Prop :=
  ∀ (whole : Sem Value) (pins : List (Addr × Obj)) (s : Shared) (σ : St) (H : Hp) (Q : Bool → Hp → Prop), Inv X pins σ H s → t σ H Q → wpAny (model X.prog X.w) X.A (isTrue e X.env whole) (TP X pins σ Q) X.xe s
theorem PW.pt {X : Cx} {e : Expr} {t : TT} (h : PW X e t) : PT X e t := h _
/-- an argument list (no star), from the left -/
def PA (X : Cx) (es : List Expr) (t : TA) : Prop :=
  ∀ (pos : Pos) (pins : List (Addr × Obj)) (s : Shared) (σ : St) (H : Hp) (Q : List V → Hp → Prop), Inv X pins σ H s → t σ H Q → wpAny (model X.prog X.w) X.A (spliced (backTo pos (starEach es X.env))) (AP X pins σ Q) X.xe s
def PS (X : Cx) (st : Stmt) (t : TS) : Prop :=
  ∀ (pins : List (Addr × Obj)) (s : Shared) (σ : St) (H : Hp) (D : Ends), Inv X pins σ H s → t D σ H → wpAny (model X.prog X.w) X.A (exec st X.env) (SP X pins D) X.xe s
def PSs (X : Cx) (st : List Stmt) (t : TS) : Prop :=
  ∀ (pins : List (Addr × Obj)) (s : Shared) (σ : St) (H : Hp) (D : Ends), Inv X pins σ H s → t D σ H → wpAny (model X.prog X.w) X.A (execs st X.env) (SP X pins D) X.xe s
/-- weaken the end -/
theorem thn {α : Type} {t : Sem α} {Q Q' : α → Shared → Prop} {M : Model} {A : Around} {E : Value → Shared → Prop} {s : Shared} (h : wpAny M A t Q E s) (hQ : ∀ a s, Q a s → Q' a s) : wpAny M A t Q' E s := wpAny_mono h hQ fun _ _ x => x
end L2

namespace L2
open PySem PySem.Spec PyProof.Rows
section
variable {X : Cx}


/-! ### names and constants -/
def tVar (i : Nat) : TE := fun σ H Q => ∃ v, σ[i]? = some (some v) ∧ Q v H
def tC (v : V) : TE := fun _ H Q => Q v H
theorem pe_var {i : Nat} {x : Str} {pos : Pos} (hN : X.N[i]? = some x) (hv : Vis X.env.scope x) (hd : (x == ("__debug__" : Str)) = false := by decide) (hcd : (x == ("__classdict__" : Str)) = false := by decide) : PE X (.Name x pos) (tVar i) := by
  intro pins s σ H Q I h
  obtain ⟨v, e, h⟩ := h
  obtain ⟨m, hn, hl⟩ := I.loc
  obtain ⟨u, r, l⟩ := hl i x v hN e hv
  have fin : EP X pins σ Q u s := ⟨v, H, I, r, h⟩
  rcases l with ⟨hk, hm⟩ | ⟨hk, c, hc, hcell⟩
  · exact wpAny_Name (wpAny_loadName_local I.ok.kind hk hn hm fin) hd
  · rcases hk with hk | hk
    · exact wpAny_Name (wpAny_loadName_cell I.ok.kind hk hc hcell fin) hd
    · exact wpAny_Name (wpAny_loadName_free I.ok.kind hk hc hcell fin hcd) hd
theorem pe_int {i j pos} : PE X (.Constant (.int i) j pos) (tC (.int i)) := fun _ _ _ H _ I h => wpAny_Constant_int ⟨.int i, H, I.tok _, ⟨_, rfl⟩, h⟩
theorem pe_bl {b j pos} : PE X (.Constant (.bool b) j pos) (tC (.bl b)) := fun _ _ _ H _ I h => Constant_bool ⟨.bl b, H, I, rfl, h⟩
theorem pe_non {j pos} : PE X (.Constant .none j pos) (tC .non) := fun _ _ _ H _ I h => Constant_none ⟨.non, H, I, rfl, h⟩
theorem pe_str {x j pos} : PE X (.Constant (.str x) j pos) (tC (.str x)) := fun _ _ _ H _ I h => Calls.Constant_str ⟨.str x, H, I.tok _, ⟨_, rfl⟩, h⟩

/-- a global name of the def -/
def Gl (X : Cx) (x : Str) : Prop := X.env.kindOf x = some .globalImplicit
theorem ld_glob {E : Value → Shared → Prop} {pins : List (Addr × Obj)} {s : Shared} {σ : St} {H : Hp} {x : Str} {u : Value} {pos : Pos} {Q : Value → Shared → Prop} (I : Inv X pins σ H s) (hg : Gl X x) (hm : X.mg x = some u) (h : Q u s)
    (hd : (x == ("__debug__" : Str)) = false := by decide) : wpAny (model X.prog X.w) X.A (eval (.Name x pos) X.env) Q E s :=
  Calls.Name_function_global I.ok.kind hg (Calls.loadGlobal_global (by rw [I.ok.glob]; exact I.mod.glob.keeps I.bk) hm h) hd
theorem ld_blt {E : Value → Shared → Prop} {pins : List (Addr × Obj)} {s : Shared} {σ : St} {H : Hp} {x : Str} {u : Value} {pos : Pos} {Q : Value → Shared → Prop} (I : Inv X pins σ H s) (hg : Gl X x) (hm : X.mg x = none) (hv : bootBuiltins x = some u) (h : Q u s)
    (hn : x ≠ "__name__" := by decide) (hd : (x == ("__debug__" : Str)) = false := by decide) : wpAny (model X.prog X.w) X.A (eval (.Name x pos) X.env) Q E s := by
  obtain ⟨mb, h1, h2⟩ := I.mod.blt
  exact Calls.Name_function_global I.ok.kind hg (Calls.loadGlobal_builtin (by rw [I.ok.glob]; exact I.mod.glob.keeps I.bk) hm (by rw [I.ok.blt]; exact h1.keeps I.bk) ((h2 x hn).trans hv) h) hd
/-- a module's constant, a class, a function, as a value -/
theorem pe_glob {x : Str} {v : V} {u : Value} {pos : Pos} (hg : Gl X x) (hm : X.mg x = some u) (r : RelV v u) (hd : (x == ("__debug__" : Str)) = false := by decide) : PE X (.Name x pos) (tC v) :=
  fun _ _ _ H _ I h => ld_glob I hg hm ⟨v, H, I, r, h⟩ hd
theorem pe_bltn {x : Str} {v : V} {u : Value} {pos : Pos} (hg : Gl X x) (hm : X.mg x = none) (hv : bootBuiltins x = some u) (r : RelV v u) (hn : x ≠ "__name__" := by decide) (hd : (x == ("__debug__" : Str)) = false := by decide) : PE X (.Name x pos) (tC v) :=
  fun _ _ _ H _ I h => ld_blt I hg hm hv ⟨v, H, I, r, h⟩ hn hd

/-! ### arithmetic -/
variable {a b : Expr} {ta tb : TE} {pos : Pos}

/-! ### comparisons -/
/-- a comparison as a value, as a test -/
def tB (t : TE) : TT := fun σ H Q => t σ H fun x H1 => ∃ c, x = .bl c ∧ Q c H1
/-- an expression whose value is a bool, as a test -/
theorem pt_val {e : Expr} {t : TE} (h : PE X e t) (he : ∀ whole, isTrue e X.env whole = (do let v ← whole; standAt e.pos; holding [v] (truthy v)) := by intro _; rfl) : PT X e (tB t) := by
  intro pins s σ H Q I hw
  refine isTrue_plain (thn (h pins s σ H _ I hw) fun v s1 ⟨x, H1, I1, r1, q1⟩ => ?_) (he _)
  obtain ⟨d, rfl, q⟩ := q1
  cases r1
  exact wpAny_truthy_bool ⟨H1, I1, q⟩

/-! ### and, or, not -/
variable {tA tB' : TT} {rest : List Expr}
def tAnd (t u : TT) : TT := fun σ H Q => t σ H fun c H1 => if c = true then u σ H1 Q else Q false H1
def tOr (t u : TT) : TT := fun σ H Q => t σ H fun c H1 => if c = true then Q true H1 else u σ H1 Q
def tNot (t : TT) : TT := fun σ H Q => t σ H fun c H1 => Q (!c) H1
theorem pw_and1 (ha : PT X a tA) : PW X (.BoolOp .And [a] pos) tA := by
  intro wh pins s σ H Q I h
  refine isTrue_and (thn (ha pins s σ H Q I h) fun c s1 e => ?_)
  cases c with
  | true => exact isTrue_and_nil e
  | false => exact e
theorem pw_or1 (ha : PT X a tA) : PW X (.BoolOp .Or [a] pos) tA := by
  intro wh pins s σ H Q I h
  refine isTrue_or (thn (ha pins s σ H Q I h) fun c s1 e => ?_)
  cases c with
  | false => exact isTrue_or_nil e
  | true => exact e
theorem pw_and (ha : PT X a tA) (hb : PW X (.BoolOp .And (b :: rest) pos) tB') : PW X (.BoolOp .And (a :: b :: rest) pos) (tAnd tA tB') := by
  intro wh pins s σ H Q I h
  refine isTrue_and (thn (ha pins s σ H _ I h) fun c s1 ⟨H1, I1, q1⟩ => ?_)
  cases c with
  | true => exact hb wh pins s1 σ H1 Q I1 q1
  | false => exact ⟨H1, I1, q1⟩
theorem pw_or (ha : PT X a tA) (hb : PW X (.BoolOp .Or (b :: rest) pos) tB') : PW X (.BoolOp .Or (a :: b :: rest) pos) (tOr tA tB') := by
  intro wh pins s σ H Q I h
  refine isTrue_or (thn (ha pins s σ H _ I h) fun c s1 ⟨H1, I1, q1⟩ => ?_)
  cases c with
  | true => exact ⟨H1, I1, q1⟩
  | false => exact hb wh pins s1 σ H1 Q I1 q1
theorem pt_not (ha : PT X a tA) : PT X (.UnaryOp .Not a pos) (tNot tA) := by
  intro pins s σ H Q I h
  exact isTrue_not (ha pins s σ H (fun c H1 => Q (!c) H1) I h)
/-- .. as values (bools) -/
def tAndV (ta tb : TE) : TE := fun σ H Q => ta σ H fun x H1 => ∃ c, x = .bl c ∧ if c = true then tb σ H1 Q else Q (.bl false) H1
def tNotV (ta : TE) : TE := fun σ H Q => ta σ H fun x H1 => ∃ c, x = .bl c ∧ Q (.bl (!c)) H1
theorem pe_one {op} {t : TE} (h : PE X a t) : PE X (.BoolOp op [a] pos) t := fun pins s σ H Q I hw => BoolOp_one (h pins s σ H Q I hw)
theorem pe_and (ha : PE X a ta) (hb : PE X (.BoolOp .And (b :: rest) pos) tb) : PE X (.BoolOp .And (a :: b :: rest) pos) (tAndV ta tb) := by
  intro pins s σ H Q I h
  refine BoolOp_and (thn (ha pins s σ H _ I h) fun v s1 ⟨x, H1, I1, r1, q1⟩ => ?_)
  obtain ⟨c, rfl, q1⟩ := q1
  cases r1
  refine wpAny_truthy_bool ?_
  cases c with
  | true => exact hb pins s1 σ H1 Q I1 q1
  | false => exact ⟨.bl false, H1, I1, rfl, q1⟩
theorem pe_not (ha : PE X a ta) : PE X (.UnaryOp .Not a pos) (tNotV ta) := by
  intro pins s σ H Q I h
  refine UnaryOp_ (thn (ha pins s σ H _ I h) fun v s1 ⟨x, H1, I1, r1, q1⟩ => ?_)
  obtain ⟨c, rfl, q1⟩ := q1
  cases r1
  exact not_of (wpAny_truthy_bool ⟨.bl (!c), H1, I1, rfl, q1⟩)
end
end L2

namespace L2
open PySem PySem.Spec PyProof.Rows

/-! ### a list, a tuple that is read: tracked, frozen, or an object of the module -/
def SqL (K : PySem.W.Frag) (H : Hp) (a : Addr) (xs : List V) : Prop :=
  Rd H a (.lst xs) ∨
    ∃ (o : Obj) (its : Array Value) (n : Nat), K.lookup a = some o ∧ o.cls = .type "list" ∧ o.dict = none ∧ o.data = .seq its n ∧ its.size ≤ sizeLine ∧ Vals xs its.toList
def SqT (K : PySem.W.Frag) (H : Hp) (a : Addr) (xs : List V) : Prop :=
  Rd H a (.tup xs) ∨
    ∃ (o : Obj) (its : Array Value) (n : Nat), K.lookup a = some o ∧ o.cls = .type "tuple" ∧ o.data = .seq its n ∧ its.size ≤ sizeLine ∧ Vals xs its.toList
def absV : Value → Option V
  | .none => some .non
  | .bool b => some (.bl b)
  | .int i _ => some (.int i)
  | .str x _ => some (.str x)
  | .bytes b _ => some (.byt b)
  | .float b _ => some (.flt b)
  | .ref a => some (.ref a)
  | .type n => some (.ty n)
  | _ => none
theorem RelV.abs {x : V} {u : Value} (r : RelV x u) : absV u = some x := by
  cases x with
  | non => cases r; rfl
  | bl _ => cases r; rfl
  | int _ => obtain ⟨t, rfl⟩ := r; rfl
  | str _ => obtain ⟨t, rfl⟩ := r; rfl
  | byt _ => obtain ⟨t, rfl⟩ := r; rfl
  | flt _ => obtain ⟨t, rfl⟩ := r; rfl
  | ref _ => cases r; rfl
  | ty _ => cases r; rfl
theorem RelV.inj {x y : V} {u : Value} (r : RelV x u) (q : RelV y u) : x = y := Option.some.inj (r.abs.symm.trans q.abs)
theorem Vals.inj : ∀ {xs ys : List V} {us : List Value}, Vals xs us → Vals ys us → xs = ys
  | _, _, _, .nil, .nil => rfl
  | _, _, _, .cons r t, .cons r' t' => by rw [r.inj r', Vals.inj t t']
section
variable {X : Cx} {pins : List (Addr × Obj)} {σ : St} {H : Hp} {s : Shared} {a : Addr} {xs ys : List V}
theorem SqL.of {K : PySem.W.Frag} (h : H a = some (.lst xs)) : SqL K H a xs := .inl (.inl h)
theorem SqT.of {K : PySem.W.Frag} (h : H a = some (.tup xs)) : SqT K H a xs := .inl (.inl h)
theorem Inv.list (I : Inv X pins σ H s) (h : SqL X.K H a xs) : ∃ its : List Value, Vals xs its ∧ PlainL s.heap a its.toArray ∧ xs.length ≤ sizeLine := by
  rcases h with h | ⟨o, its, n, hk, hc, hd, hs, hz, r⟩
  · obtain ⟨z, its, n, r, e⟩ := h.ok I.hok
    exact ⟨its, r, ⟨_, n, e, rfl, rfl, rfl⟩, z⟩
  · refine ⟨its.toList, r, ⟨o, n, I.kIn a o hk, hc, hd, by simpa using hs⟩, ?_⟩
    have e := r.length
    simp only [Array.length_toList] at e
    omega
theorem Inv.tuple (I : Inv X pins σ H s) (h : SqT X.K H a xs) : ∃ its : List Value, Vals xs its ∧ IsTup s.heap a its.toArray ∧ xs.length ≤ sizeLine := by
  rcases h with h | ⟨o, its, n, hk, hc, hs, hz, r⟩
  · obtain ⟨z, its, r, p⟩ := h.ok I.hok
    exact ⟨its, r, p, z⟩
  · refine ⟨its.toList, r, ⟨o, I.kIn a o hk, hc, n, by simpa using hs⟩, ?_⟩
    have e := r.length
    simp only [Array.length_toList] at e
    omega
theorem Inv.list_inj (I : Inv X pins σ H s) (h : SqL X.K H a xs) (h' : SqL X.K H a ys) : xs = ys := by
  obtain ⟨its, r, ⟨o, n, e, _, _, d⟩, _⟩ := I.list h
  obtain ⟨its', r', ⟨o', n', e', _, _, d'⟩, _⟩ := I.list h'
  rw [e] at e'; cases e'
  rw [d] at d'
  injection d' with d1 _
  have : its = its' := by simpa using congrArg Array.toList d1
  subst this
  exact r.inj r'
end

/-! ### another wish about exceptions -/
abbrev Cx.wish (X : Cx) (E : Value → Shared → Prop) : Cx := { X with xe := E }
/-- no exception leaves -/
abbrev Cx.nox (X : Cx) : Cx := X.wish fun _ _ => False
theorem Cx.Ok.wish {X : Cx} (ok : X.Ok) (E : Value → Shared → Prop) : (X.wish E).Ok :=
  ⟨ok.mod, ok.kind, ok.glob, ok.blt, ok.above, ok.inj, ok.has, ok.cab, ok.hd, ok.frames, ok.stk, ok.exf, ok.bs, ok.bsz, ok.noex, ok.exfs, ok.funs, ok.frf⟩
theorem Cx.Ok.unwish {X : Cx} {E : Value → Shared → Prop} (ok : (X.wish E).Ok) : X.Ok :=
  ⟨ok.mod, ok.kind, ok.glob, ok.blt, ok.above, ok.inj, ok.has, ok.cab, ok.hd, ok.frames, ok.stk, ok.exf, ok.bs, ok.bsz, ok.noex, ok.exfs, ok.funs, ok.frf⟩
section
variable {X : Cx} {pins : List (Addr × Obj)} {σ : St} {H : Hp} {s : Shared} {E : Value → Shared → Prop}
theorem Inv.wish (I : Inv X pins σ H s) (E : Value → Shared → Prop) : Inv (X.wish E) pins σ H s := ⟨I.ok.wish E, I.os, I.bare, I.base, I.loc, I.cell, I.free, I.freeC, I.pin, I.hok, I.len⟩
theorem Inv.unwish (I : Inv (X.wish E) pins σ H s) : Inv X pins σ H s := ⟨I.ok.unwish, I.os, I.bare, I.base, I.loc, I.cell, I.free, I.freeC, I.pin, I.hok, I.len⟩
theorem SP.unwish {D : Ends} {f : Flow} {s' : Shared} (h : SP (X.wish E) pins D f s') : SP X pins D f s' := by
  cases f with
  | next => obtain ⟨σ', H', I, q⟩ := h; exact ⟨σ', H', I.unwish, q⟩
  | brk => obtain ⟨σ', H', I, q⟩ := h; exact ⟨σ', H', I.unwish, q⟩
  | cont => obtain ⟨σ', H', I, q⟩ := h; exact ⟨σ', H', I.unwish, q⟩
  | ret u => obtain ⟨v, σ', H', I, r, q⟩ := h; exact ⟨v, σ', H', I.unwish, r, q⟩
theorem PE.nox {e : Expr} {t : TE} (h : PE X.nox e t) : PE X e t := fun pins s σ H Q I hw =>
  wpAny_mono (h pins s σ H Q (I.wish _) hw) (fun _ _ ⟨v, H', I', r, q⟩ => ⟨v, H', I'.unwish, r, q⟩) fun _ _ z => False.elim z
theorem PT.nox {e : Expr} {t : TT} (h : PT X.nox e t) : PT X e t := fun pins s σ H Q I hw =>
  wpAny_mono (h pins s σ H Q (I.wish _) hw) (fun _ _ ⟨H', I', q⟩ => ⟨H', I'.unwish, q⟩) fun _ _ z => False.elim z
theorem PSs.nox {st : List Stmt} {t : TS} (h : PSs X.nox st t) : PSs X st t := fun pins s σ H D I hw =>
  wpAny_mono (h pins s σ H D (I.wish _) hw) (fun _ _ q => q.unwish) fun _ _ z => False.elim z
end

/-! ### blocks and small statements -/
section
variable {X : Cx} {st : Stmt} {rest : List Stmt} {t u : TS} {e : Expr} {te : TE} {pos : Pos}
def tNext : TS := fun D σ H => D.nx σ H
def tSeq (t u : TS) : TS := fun D σ H => t { D with nx := u D } σ H
theorem pss_nil : PSs X [] tNext := fun _ _ σ H _ I h => wpAny_execs_nil ⟨σ, H, I, h⟩
theorem pss_cons (h1 : PS X st t) (h2 : PSs X rest u) : PSs X (st :: rest) (tSeq t u) := by
  intro pins s σ H D I h
  refine wpAny_execs_cons (thn (h1 pins s σ H { D with nx := u D } I h) fun f s1 q => ?_)
  cases f with
  | next =>
    obtain ⟨σ', H', I', q⟩ := q
    exact h2 pins s1 σ' H' D I' q
  | ret v => exact q
  | brk => exact q
  | cont => exact q
theorem pss_one (h1 : PS X st t) : PSs X [st] t := by
  intro pins s σ H D I h
  refine wpAny_execs_cons (thn (h1 pins s σ H D I h) fun f s1 q => ?_)
  cases f with
  | next => exact wpAny_execs_nil q
  | ret v => exact q
  | brk => exact q
  | cont => exact q
/-- in a def's body nothing is shown -/
theorem Inv.quiet {pins : List (Addr × Obj)} {σ : St} {H : Hp} {s : Shared} (I : Inv X pins σ H s) : interactive X.env = false := by simp [interactive, I.ok.kind]
def tRet (te : TE) : TS := fun D σ H => te σ H D.rt
theorem ps_ret (he : PE X e te) : PS X (.Return (some e) pos) (tRet te) := by
  intro pins s σ H D I h
  exact wpAny_Return_some (thn (he pins s σ H _ I h) fun v s1 ⟨x, H1, I1, r1, q1⟩ => ⟨x, σ, H1, I1, r1, q1⟩)
def tIfS (c : TT) (t u : TS) : TS := fun D σ H => c σ H fun b H1 => if b = true then t D σ H1 else u D σ H1
theorem ps_if {c : Expr} {a b : List Stmt} {tc : TT} (hc : PT X c tc) (ha : PSs X a t) (hb : PSs X b u) : PS X (.If c a b pos) (tIfS tc t u) := by
  intro pins s σ H D I h
  refine wpAny_If (thn (hc pins s σ H _ I h) fun d s1 ⟨H1, I1, q1⟩ => ?_)
  cases d with
  | true => exact ha pins s1 σ H1 D I1 q1
  | false => exact hb pins s1 σ H1 D I1 q1
/-- code that the proof never comes to -/
def tNever : TS := fun _ _ _ => False
theorem ps_never : PS X st tNever := fun _ _ _ _ _ _ h => h.elim
end

/-! ### targets -/
abbrev TG := V → St → Hp → (St → Hp → Prop) → Prop
def PG (X : Cx) (target : Expr) (t : TG) : Prop :=
  ∀ (pins : List (Addr × Obj)) (s : Shared) (σ : St) (H : Hp) (v : V) (u : Value) (Q : St → Hp → Prop), Inv X pins σ H s → RelV v u → t v σ H Q →
    wpAny (model X.prog X.w) X.A (assign target X.env u) (fun _ s' => ∃ σ' H', Inv X pins σ' H' s' ∧ Q σ' H') X.xe s
section
variable {X : Cx} {pos : Pos}
def gName (i : Nat) : TG := fun v σ H Q => Q (σ.set i (some v)) H
theorem pg_name {i : Nat} {x : Str} (hN : X.N.Nodup) (hi : X.N[i]? = some x) (hx : Loc X.env.scope x) (hf : X.fn x = true ∨ X.env.scope.names.lookup x = some .local := by first | exact .inl rfl | exact .inr rfl | assumption) : PG X (.Name x pos) (gName i) := by
  intro pins s σ H v u Q I r h
  exact wpAny_assign_Name (store_ok I hN hi hx r (fun s' I' => ⟨_, H, I', h⟩) hf)
/-- target = value -/
def tAsg (te : TE) (g : TG) : TS := fun D σ H => te σ H fun x H1 => g x σ H1 D.nx
/-- name = value -/
theorem ps_set {i : Nat} {x : Str} {e : Expr} {te : TE} {pos' : Pos} (hN : X.N.Nodup) (hi : X.N[i]? = some x) (hx : Loc X.env.scope x) (he : PE X e te) (hs : swapsWith e (some (.Name x pos')) pos.line X.env = pure false := by rfl) (hf : X.fn x = true ∨ X.env.scope.names.lookup x = some .local := by first | exact .inl rfl | exact .inr rfl | assumption) :
    PS X (.Assign [.Name x pos'] e pos) (tAsg te (gName i)) := by
  intro pins s σ H D I h
  refine wpAny_Assign_Name (thn (he pins s σ H _ I h) fun v s1 ⟨y, H1, I1, r1, q1⟩ => ?_) hs
  exact store_ok I1 hN hi hx r1 (fun s2 I2 => ⟨_, H1, I2, q1⟩) hf
/-- a, b = x, y with plain local names: stored from the right; the pair itself is not tracked (the opening rows as in PyProof/Rows/TupAssign.lean:23) -/
def tPar (i j : Nat) (ta : TA) : TS := fun D σ H => ta σ H fun vs H1 => ∃ v w, vs = [v, w] ∧ D.nx ((σ.set i (some v)).set j (some w)) H1
theorem ps_par {i j : Nat} {x y : Str} {a b : Expr} {ta : TA} {px py pt : Pos} {kt k2 pt2} (hc : X.calm = true) (hN : X.N.Nodup) (hi : X.N[i]? = some x) (hj : X.N[j]? = some y) (hij : i ≠ j)
    (hx : X.env.scope.names.lookup x = some .local) (hy : X.env.scope.names.lookup y = some .local) (ha : PA X [a, b] ta)
    (hw : swappedStores [.Tuple [.Name x px, .Name y py] kt pt] (.Tuple [a, b] k2 pt2) X.env = pure (some [x, y]))
    (hs : swapsWithSole [.Tuple [.Name x px, .Name y py] kt pt] (.Tuple [a, b] k2 pt2) pos.line X.env = pure false := by rfl) :
    PS X (.Assign [.Tuple [.Name x px, .Name y py] kt pt] (.Tuple [a, b] k2 pt2) pos) (tPar i j ta) := by
  intro pins s σ H D I h
  rw [exec_Assign_arm]
  refine wpAny_bind (wpAny_standAt ?_)
  rw [hs]
  refine wpAny_bind (wpAny_pure ?_)
  rw [if_neg (by decide)]
  refine wpAny_bind (Tuple_ (thn (ha _ pins s σ H _ I h) fun us s1 ⟨vs, H1, I1, r1, q1⟩ => ?_))
  obtain ⟨v, w, e1, q1⟩ := q1
  subst e1
  obtain ⟨u1, u2, rfl, rv, rw'⟩ : ∃ u1 u2, us = [u1, u2] ∧ RelV v u1 ∧ RelV w u2 := by
    cases r1 with
    | cons p q =>
      cases q with
      | cons p' q' =>
        cases q'
        exact ⟨_, _, rfl, p, p'⟩
  refine wpAny_newObj_type ?_ (by show 2 ≤ sizeLine; decide)
  have I2 : Inv X pins σ H1 { s1 with heap := s1.heap.push { cls := .type "tuple", data := .seq [u1, u2].toArray } } := I1.kept (t' := s1.toks) fun b o e => Heap.get?_push_of_some _ e
  rw [hw]
  refine wpAny_bind (wpAny_pure ?_)
  show wpAny (model X.prog X.w) X.A (do rule "assign.swapped-stores"; let items ← unpackItems (.ref s1.heap.objs.size) 2 none; assignInOrder [fun v => bindName X.env y v, fun v => bindName X.env x v] items.reverse; pure Flow.next) _ _ _
  refine wpAny_bind (wpAny_rule (wpAny_bind (unpackItems_tuple (items := #[u1, u2]) (I.ok.hd hc) (IsTup.new s1.heap _) fun h' hx' => ?_)))
  have I3 := I2.kept (h' := h') (t' := s1.toks) fun b o e => hx' b o (Nat.ne_of_lt (Heap.lt_size e)) e
  show wpAny _ _ (assignInOrder [fun v => bindName X.env y v, fun v => bindName X.env x v] [u2, u1] >>= fun _ => pure Flow.next) _ _ _
  refine wpAny_bind (assignInOrder_cons (wpAny_bindName (store_ok I3 hN hj (.inl hy) rw' (fun s2 I4 => ?_) (.inr hy))))
  refine assignInOrder_cons (wpAny_bindName (store_ok I4 hN hi (.inl hx) rv (fun s3 I5 => assignInOrder_nil (wpAny_pure ?_)) (.inr hx)))
  rw [List.set_comm _ _ (Ne.symm hij)] at I5
  exact ⟨_, H1, I5, q1⟩
end

/-! ### while -/
section
variable {X : Cx} {pos : Pos}
/-- the invariant W with its measure -/
def tWhile (c : TT) (tb : TS) : TS := fun D σ H => ∃ W : Nat → St → Hp → Prop, (∃ m, W m σ H) ∧ ∀ m σ H, W m σ H →
  c σ H fun b H1 => if b = true then ∃ N : St → Hp → Prop, (∀ σ' H', N σ' H' → ∃ m', m' < m ∧ W m' σ' H') ∧ tb { D with nx := N, ct := N, bk := D.nx } σ H1 else D.nx σ H1
theorem ps_while {c : Expr} {body : List Stmt} {tc : TT} {tb : TS} (hp : PassesOwn (model X.prog X.w) X.A X.env X.xe) (hc : PT X c tc) (hb : PSs X body tb) : PS X (.While c body [] pos) (tWhile tc tb) := by
  intro pins s σ H D I h
  obtain ⟨W, ⟨m0, w0⟩, turn⟩ := h
  refine wpAny_While (codeAny_whileLoop (fun n s' => ∃ σ' H', Inv X pins σ' H' s' ∧ W n σ' H') ?_ m0 ⟨σ, H, I, w0⟩)
  rintro n s1 ⟨σ1, H1, I1, w1⟩
  refine wpAny_passesOwn hp (thn (hc pins s1 σ1 H1 _ I1 (turn n σ1 H1 w1)) fun b s2 ⟨H2, I2, q2⟩ => ?_)
  cases b with
  | true =>
    obtain ⟨N, hN, q2⟩ := q2
    rw [if_pos rfl]
    refine wpAny_passesOwn hp (thn (hb pins s2 σ1 H2 _ I2 q2) fun f s3 q3 => ?_)
    cases f with
    | next =>
      obtain ⟨σ3, H3, I3, n3⟩ := q3
      obtain ⟨m', hm, w3⟩ := hN σ3 H3 n3
      exact ⟨m', hm, σ3, H3, I3, w3⟩
    | cont =>
      obtain ⟨σ3, H3, I3, n3⟩ := q3
      obtain ⟨m', hm, w3⟩ := hN σ3 H3 n3
      exact ⟨m', hm, σ3, H3, I3, w3⟩
    | brk => exact q3
    | ret v => exact q3
  | false =>
    rw [if_neg Bool.false_ne_true]
    exact wpAny_execs_nil ⟨σ1, H2, I2, q2⟩
end

/-! ### what a loop or a comprehension walks -/
/-- at turn i: it yields x (the heap may grow), or it stops -/
structure It where
  go : Nat → Hp → Prop
  yld : Nat → Hp → V → Hp → Prop
  stop : Nat → Hp → Prop
/-- the iterator's own objects may turn: they are not the frame's, not pinned, younger than the entry (or a comprehension's own) -/
def FpOk (X : Cx) (pins : List (Addr × Obj)) (H : Hp) (b : Addr) : Prop :=
  H b = none ∧ b ≠ X.env.locals ∧ b ∉ X.fs ∧ (b ∈ X.ex ∨ X.s₀.heap.objs.size ≤ b) ∧ (∀ x c, X.env.cells.lookup x = some c → c ≠ b) ∧ ∀ p ∈ X.pn ++ pins, p.1 ≠ b
theorem Inv.fpOk {X : Cx} {pins : List (Addr × Obj)} {σ : St} {H H' : Hp} {s : Shared} {b : Addr} (I : Inv X pins σ H s) (hb : s.heap.objs.size ≤ b) (hn : H' b = none) : FpOk X pins H' b := by
  refine ⟨hn, Nat.ne_of_gt (Nat.lt_of_lt_of_le I.lt hb), I.nofs hb, .inr (Nat.le_trans I.sz hb), fun x c e z => ?_, fun p hp z => ?_⟩
  · obtain ⟨v, q⟩ := I.cell x c e
    exact absurd (Nat.lt_of_lt_of_le q.lt (by rw [z]; exact hb)) (Nat.lt_irrefl _)
  · exact absurd (Nat.lt_of_lt_of_le (Heap.lt_size (I.pin p hp).1) (by rw [z]; exact hb)) (Nat.lt_irrefl _)
structure Turn (P : Program) (w : World) (K : PySem.W.Frag) (tg : Expr) (J : It) (fp : List Addr) (it : Addr) (tn : Nat → Heap → Prop) : Prop where
  mem : it ∈ fp
  obj : ∀ i h, tn i h → ∀ b ∈ fp, ∃ o, h.get? b = some o ∧ ∀ v, o.data ≠ .cell v
  keep : ∀ i h h', tn i h → (∀ b ∈ fp, ∀ o, h.get? b = some o → h'.get? b = some o) → tn i h'
  item : ∀ (X : Cx), X.prog = P → X.w = w → X.K = K → X.calm = true → ∀ (i : Nat) (pins : List (Addr × Obj)) (s : Shared) (σ : St) (H : Hp) (E : Value → Shared → Prop), Inv X pins σ H s → (∀ b ∈ fp, FpOk X pins H b) → tn i s.heap → J.go i H →
    wpAny (model P w) X.A (pyNext (.ref it)) (fun r s1 => ∃ u, r = some u ∧
      wpAny (model P w) X.A (letOwnedTupleGo tg (.ref it) u) (fun _ s2 => ∃ x H', Inv X pins σ H' s2 ∧ RelV x u ∧ J.yld i H x H' ∧ tn (i + 1) s2.heap ∧ ∀ b ∈ fp, H' b = none) E s1) E s
  done : ∀ (X : Cx), X.prog = P → X.w = w → X.K = K → X.calm = true → ∀ (i : Nat) (pins : List (Addr × Obj)) (s : Shared) (σ : St) (H : Hp) (E : Value → Shared → Prop), Inv X pins σ H s → (∀ b ∈ fp, FpOk X pins H b) → tn i s.heap → J.stop i H →
    wpAny (model P w) X.A (pyNext (.ref it)) (fun r s1 => r = none ∧ Inv X pins σ H s1) E s
  self : ∀ (A : Around) (i : Nat) (s : Shared) (Q : Value → Shared → Prop) (E : Value → Shared → Prop), tn i s.heap → Q (.ref it) s → wpAny (model P w) A (pyIter (.ref it)) Q E s
abbrev TI := St → Hp → (It → Hp → Prop) → Prop
/-- an iterator has come -/
def PIE (X : Cx) (pins : List (Addr × Obj)) (σ : St) (tg : Expr) (R : It → Hp → Prop) (itv : Value) (s2 : Shared) : Prop :=
  ∃ (it : Addr) (fp : List Addr) (tn : Nat → Heap → Prop) (J : It) (H' : Hp), itv = .ref it ∧ Inv X pins σ H' s2 ∧ Turn X.prog X.w X.K tg J fp it tn ∧ tn 0 s2.heap ∧ (∀ b ∈ fp, FpOk X pins H' b) ∧ R J H'
def PI (X : Cx) (tg iter : Expr) (wi : TI) : Prop :=
  ∀ (pins : List (Addr × Obj)) (s : Shared) (σ : St) (H : Hp) (R : It → Hp → Prop), Inv X pins σ H s → wi σ H R →
    wpAny (model X.prog X.w) X.A (eval iter X.env) (fun v s1 => wpAny (model X.prog X.w) X.A (pyIter v) (PIE X pins σ tg R) X.xe s1) X.xe s

/-- the step ahead of the store is nothing for an iterator that keeps no tuple -/
theorem go_of {M : Model} {A : Around} {E : Value → Shared → Prop} {s : Shared} {tg : Expr} {it : Addr} {u : Value} {o : Obj} {n : String} {vs : Array Value} {Q : Unit → Shared → Prop} (ho : s.heap.get? it = some o) (hc : o.cls = .type n) (hd : o.data = .fields vs)
    (hn : ["enumerate", "zip", "dict_itemiterator", "dict_reverseitemiterator", "odict_iterator", "itertools.zip_longest", "itertools.pairwise"].contains n = false) (hQ : Q () s) : wpAny M A (letOwnedTupleGo tg (.ref it) u) Q E s := by
  unfold letOwnedTupleGo
  cases tg <;> first
    | exact wpAny_pure hQ
    | (cases u <;> first
        | exact wpAny_pure hQ
        | (refine wpAny_bind (wpAny_load ho ?_)
           rw [hc, hd]
           show wpAny M A (if (["enumerate", "zip", "dict_itemiterator", "dict_reverseitemiterator", "odict_iterator", "itertools.zip_longest", "itertools.pairwise"].contains n && vs[0]? == some (rawInt _)) = true then _ else _) Q E s
           rw [if_neg (by intro h; rw [hn, Bool.false_and] at h; cases h)]
           exact wpAny_pure hQ))

/-- the list at a, as it stands at each turn (a loop may append to it) -/
def Itl (K : PySem.W.Frag) (a : Addr) : It :=
  ⟨fun i H => ∃ xs x, SqL K H a xs ∧ xs[i]? = some x, fun i H x H' => H' = H ∧ ∀ xs, SqL K H a xs → xs[i]? = some x, fun i H => ∃ xs, SqL K H a xs ∧ xs.length ≤ i⟩
/-- lo, lo + 1, .. (n of them) -/
def Itr (lo : Int) (n : Nat) : It := ⟨fun i _ => i < n, fun i H x H' => H' = H ∧ x = .int (lo + i), fun i _ => n ≤ i⟩
theorem turn_list {P : Program} {w : World} {K : PySem.W.Frag} {tg : Expr} (a it : Addr) : Turn P w K tg (Itl K a) [it] it (fun i h => h.IsListIter it a i) where
  mem := by simp
  obj := fun i h st b hb => by
    have e : b = it := by simpa using hb
    subst e
    obtain ⟨o, e, c, d⟩ := st
    exact ⟨o, e, fun v z => by rw [d] at z; cases z⟩
  keep := fun i h h' st k => st.at fun o e => k it (by simp) o e
  item := by
    intro X hP hw hK hc i pins s σ H E I hf st hg
    subst hP hw hK
    obtain ⟨xs, x, hq, hx⟩ := hg
    obtain ⟨its, rv, p, hz⟩ := I.list hq
    obtain ⟨u, hu, ru⟩ := rv.get hx
    obtain ⟨f0, f1, f2, f3, f4, f5⟩ := hf it (by simp)
    refine wpAny_pyNext_list_item st p.isList (x := u) (by simpa using hu) fun h' st' sb => ?_
    have I1 : Inv X pins σ H { s with heap := h' } := I.turned (t' := s.toks) (fun b o hb e => (sb.2 b hb).trans e) f0 f1 f3 f4 f5
    obtain ⟨o, e, c, d⟩ := id st'
    exact ⟨u, rfl, go_of (s := { s with heap := h' }) e c d (by decide) ⟨x, H, I1, ru, ⟨rfl, fun ys hy => by rw [I.list_inj hy hq]; exact hx⟩, st', fun b hb => (hf b hb).1⟩⟩
  done := by
    intro X hP hw hK hc i pins s σ H E I hf st hg
    subst hP hw hK
    obtain ⟨xs, hq, hx⟩ := hg
    obtain ⟨its, rv, p, hz⟩ := I.list hq
    obtain ⟨f0, f1, f2, f3, f4, f5⟩ := hf it (by simp)
    have hl := rv.length
    exact wpAny_pyNext_list_end (I.ok.hd hc) st p.isList (by simp; omega) fun h' eb => ⟨rfl, I.turned (t' := s.toks) (fun b o hb e => eb b o hb e) f0 f1 f3 f4 f5⟩
  self := fun _ _ _ _ _ st h => wpAny_pyIter_listiter st h
theorem turn_range {P : Program} {w : World} {K : PySem.W.Frag} {tg : Expr} (it : Addr) (lo : Int) (n : Nat) : Turn P w K tg (Itr lo n) [it] it (fun i h => IsRangeIter h it (lo + (i : Nat) * 1) ((n : Int) - (i : Nat)) 1) where
  mem := by simp
  obj := fun i h st b hb => by
    have e : b = it := by simpa using hb
    subst e
    exact ⟨_, st, fun v z => by
      have z' : Data.fields _ = Data.cell v := z
      cases z'⟩
  keep := fun i h h' st k => k it (by simp) _ st
  item := by
    intro X hP hw hK hc i pins s σ H E I hf st hg
    subst hP hw hK
    obtain ⟨f0, f1, f2, f3, f4, f5⟩ := hf it (by simp)
    have W := Walks.range (prog := X.prog) (w := X.w) (I.ok.hd hc) it lo 1 n
    refine W.item i s _ _ hg st fun v h' tk hv st' kk => ?_
    obtain ⟨t, rfl⟩ := hv
    have I1 : Inv X pins σ H { s with heap := h', toks := tk } := I.turned (fun b o hb e => kk b o (by simpa using hb) e) f0 f1 f3 f4 f5
    refine ⟨_, rfl, go_of (s := { s with heap := h', toks := tk }) (n := "range_iterator") st' rfl rfl (by decide) ⟨.int (lo + i), H, I1, ⟨t, ?_⟩, ⟨rfl, rfl⟩, st', fun b hb => (hf b hb).1⟩⟩
    rw [Int.mul_one]
  done := by
    intro X hP hw hK hc i pins s σ H E I hf st hg
    subst hP hw hK
    obtain ⟨f0, f1, f2, f3, f4, f5⟩ := hf it (by simp)
    exact wpAny_pyNext_range_end (I.ok.hd hc) st (by have : n ≤ i := hg; omega) fun h' eb => ⟨rfl, I.turned (t' := s.toks) (fun b o hb e => eb b o hb e) f0 f1 f3 f4 f5⟩
  self := fun _ _ _ _ _ st h => wpAny_pyIter_rangeiter st h
end L2

namespace L2
open PySem PySem.Spec PyProof.Rows
section
variable {X : Cx} {tg : Expr}
def iList (K : PySem.W.Frag) (tl : TE) : TI := fun σ H R => tl σ H fun x H1 => ∃ a, x = .ref a ∧ (∃ xs, SqL K H1 a xs) ∧ R (Itl K a) H1
theorem pi_list {l : Expr} {tl : TE} (hl : PE X l tl) : PI X tg l (iList X.K tl) := by
  intro pins s σ H R I h
  refine thn (hl pins s σ H _ I h) fun v s1 ⟨x, H1, I1, r1, q1⟩ => ?_
  obtain ⟨a, e, ⟨xs, hq⟩, q⟩ := q1
  subst e
  cases r1
  obtain ⟨its, rv, p, hz⟩ := I1.list hq
  refine wpAny_pyIter_list p.isList ?_
  refine ⟨s1.heap.objs.size, [s1.heap.objs.size], _, _, H1, rfl, I1.kept (t' := s1.toks) fun b o e => Heap.get?_push_of_some _ e, turn_list a _, ⟨_, Heap.get?_push_size _ rfl, rfl, rfl⟩, fun b hb => ?_, q⟩
  have e : b = s1.heap.objs.size := by simpa using hb
  subst e
  exact I1.fpOk (Nat.le_refl _) (I1.hok.fresh (Nat.le_refl _))
/-- a range object just made, walked -/
theorem range_it {pins : List (Addr × Obj)} {σ : St} {H : Hp} {s : Shared} {R : It → Hp → Prop} {E : Value → Shared → Prop} {lo hi : Int} {t u v : Tok} {tk : Nat} (I : Inv X pins σ H s) (h1 : -(2 ^ 62) ≤ lo) (h2 : lo < 2 ^ 62) (h3 : -(2 ^ 62) ≤ hi) (h4 : hi < 2 ^ 62)
    (q : R (Itr lo (hi - lo).toNat) H) : wpAny (model X.prog X.w) X.A (pyIter (.ref s.heap.objs.size)) (PIE X pins σ tg R) E { s with heap := s.heap.push { cls := .type "range", data := .fields #[.int lo t, .int hi u, .int 1 v] }, toks := tk } := by
  refine wpAny_pyIter_range (IsRange.new ..) (small_one h1 h2 h3 h4) ?_
  have I1 : Inv X pins σ H { s with heap := s.heap.push { cls := .type "range", data := .fields #[.int lo t, .int hi u, .int 1 v] }, toks := tk } := I.kept fun b o e => Heap.get?_push_of_some _ e
  refine ⟨(s.heap.push { cls := .type "range", data := .fields #[.int lo t, .int hi u, .int 1 v] }).objs.size, [(s.heap.push { cls := .type "range", data := .fields #[.int lo t, .int hi u, .int 1 v] }).objs.size], _, _, H, rfl,
    I1.kept (t' := tk) fun b o e => Heap.get?_push_of_some _ e, turn_range _ lo (hi - lo).toNat, ?_, fun b hb => ?_, q⟩
  · have e1 : lo + ((0 : Nat) : Int) * 1 = lo := by simp
    have e2 : (((hi - lo).toNat : Nat) : Int) - ((0 : Nat) : Int) = Builtin.Range.rangeSize lo hi 1 := by rw [rangeSize_one]; split <;> omega
    show IsRangeIter _ _ (lo + ((0 : Nat) : Int) * 1) ((((hi - lo).toNat : Nat) : Int) - ((0 : Nat) : Int)) 1
    rw [e1, e2]
    exact Heap.get?_push_size _ rfl
  · have e : b = (s.heap.push { cls := .type "range", data := .fields #[.int lo t, .int hi u, .int 1 v] }).objs.size := by simpa using hb
    subst e
    exact I1.fpOk (Nat.le_refl _) (I1.hok.fresh (Nat.le_refl _))
def iRng1 (ta : TA) : TI := fun σ H R => ta σ H fun vs H1 => ∃ j : Int, vs = [.int j] ∧ -(2 ^ 62) ≤ j ∧ j < 2 ^ 62 ∧ R (Itr 0 j.toNat) H1
theorem pi_range1 {a : Expr} {ta : TA} {p pos : Pos} (hg : Gl X "range") (hm : X.mg "range" = none) (ha : PA X [a] ta) (hs : starEach [a] X.env = [(false, eval a X.env)] := by rfl) : PI X tg (.Call (.Name "range" p) [a] [] pos) (iRng1 ta) := by
  intro pins s σ H R I h
  refine Call_ (ld_blt I hg hm boot_range (PyProof.Rows.callWith_type1 (thn (ha pos pins s σ H _ I h) fun us s1 ⟨vs, H1, I1, r1, q1⟩ => ?_) hs rfl))
  obtain ⟨j, e, q1, q2, q⟩ := q1
  subst e
  cases r1 with
  | cons r rr =>
    cases rr
    obtain ⟨t, rfl⟩ := r
    exact call_range_1 (range_it I1 (by omega) (by omega) q1 q2 (by simpa using q))

/-! ### for -/
/-- W: the invariant by the turn and a measure; N: what the body is to reach -/
def tFor (wi : TI) (g : TG) (tb : TS) : TS := fun D σ H => wi σ H fun J H1 => ∃ W : Nat → Nat → St → Hp → Prop, (∃ m, W 0 m σ H1) ∧ ∀ i m σ H, W i m σ H →
  (J.stop i H ∧ D.nx σ H) ∨ (J.go i H ∧ ∃ N : St → Hp → Prop, (∀ σ' H', N σ' H' → ∃ m', m' < m ∧ W (i + 1) m' σ' H') ∧ ∀ x H', J.yld i H x H' → g x σ H' fun σ2 H2 => tb { D with nx := N, ct := N, bk := D.nx } σ2 H2)
/-- the records at fp as they stand -/
def pinsAt (fp : List Addr) (h : Heap) : List (Addr × Obj) := fp.filterMap fun b => (h.get? b).map fun o => (b, o)
theorem mem_pinsAt {fp : List Addr} {h : Heap} {b : Addr} {o : Obj} (hb : b ∈ fp) (e : h.get? b = some o) : (b, o) ∈ pinsAt fp h := List.mem_filterMap.mpr ⟨b, hb, by rw [e]; rfl⟩
theorem of_pinsAt {fp : List Addr} {h : Heap} {p : Addr × Obj} (hp : p ∈ pinsAt fp h) : p.1 ∈ fp ∧ h.get? p.1 = some p.2 := by
  obtain ⟨b, hb, e⟩ := List.mem_filterMap.mp hp
  cases q : h.get? b with
  | none => rw [q] at e; cases e
  | some o =>
    rw [q] at e
    have e' : (b, o) = p := Option.some.inj e
    subst e'
    exact ⟨hb, q⟩
theorem Inv.pinned {pins : List (Addr × Obj)} {σ : St} {H : Hp} {s : Shared} {fp : List Addr} (I : Inv X pins σ H s) (hf : ∀ b ∈ fp, FpOk X pins H b) (ho : ∀ b ∈ fp, ∃ o, s.heap.get? b = some o ∧ ∀ v, o.data ≠ .cell v) : Inv X (pins ++ pinsAt fp s.heap) σ H s :=
  I.pins_of fun p hp => (List.mem_append.mp hp).elim (fun z => I.pin p (List.mem_append_right _ z)) fun z => by
    obtain ⟨hb, e⟩ := of_pinsAt z
    obtain ⟨f0, f1, f2, _⟩ := hf p.1 hb
    obtain ⟨o, e', d⟩ := ho p.1 hb
    rw [e] at e'; cases e'
    exact ⟨e, f0, f1, f2, d⟩
theorem Inv.unpinned {pins pl : List (Addr × Obj)} {σ : St} {H : Hp} {s : Shared} (I : Inv X (pins ++ pl) σ H s) : Inv X pins σ H s := I.pins_of fun p hp => I.pin p (List.mem_append_right _ (List.mem_append_left _ hp))
theorem ps_for {iter : Expr} {body : List Stmt} {wi : TI} {g : TG} {tb : TS} {pos : Pos} (hp : PassesOwn (model X.prog X.w) X.A X.env X.xe) (hc : X.calm = true) (hi : PI X tg iter wi) (hg : PG X tg g) (hb : PSs X body tb)
    (hs : ∀ x, foldedSetIterable iter X.env x = pure x := by intro _; rfl) : PS X (.For tg iter body [] pos) (tFor wi g tb) := by
  intro pins s σ H D I h
  refine wpAny_For (thn (hi pins s σ H _ I h) fun v s1 h1 => thn h1 fun itv s2 h2 => ?_) hs
  obtain ⟨it, fp, tn, J, H2, e, I2, T, st2, f2, W, ⟨m0, w0⟩, turn⟩ := h2
  subst e
  -- what stays true of the iterator's objects through the loop
  have stat : ∀ {H' : Hp}, (∀ b ∈ fp, H' b = none) → ∀ b ∈ fp, FpOk X pins H' b := fun hn b hb => ⟨hn b hb, (f2 b hb).2⟩
  refine codeAny_forLoop_any (fun n s' => ∃ i σ' H', Inv X pins σ' H' s' ∧ tn i s'.heap ∧ (∀ b ∈ fp, H' b = none) ∧ W i n σ' H') ?_ m0 ⟨0, σ, H2, I2, st2, fun b hb => (f2 b hb).1, w0⟩
  rintro n s3 ⟨i, σ3, H3, I3, st3, fr3, w3⟩
  rcases turn i n σ3 H3 w3 with ⟨stop, qn⟩ | ⟨go, N, hN, step⟩
  · refine wpAny_passesOwn hp (thn (T.done X rfl rfl rfl hc i pins s3 σ3 H3 X.xe I3 (stat fr3) st3 stop) fun r s4 ⟨hr, I4⟩ => ?_)
    subst hr
    exact wpAny_execs_nil ⟨σ3, H3, I4, qn⟩
  · refine wpAny_passesOwn hp (thn (T.item X rfl rfl rfl hc i pins s3 σ3 H3 X.xe I3 (stat fr3) st3 go) fun r s4 ⟨u, hr, h4⟩ => ?_)
    subst hr
    refine wpAny_passesOwn hp (thn h4 fun _ s5 ⟨x, H5, I5, r5, y5, st5, fr5⟩ => ?_)
    have I5' := I5.pinned (stat fr5) (T.obj _ _ st5)
    refine wpAny_passesOwn hp (thn (hg _ s5 σ3 H5 x u _ I5' r5 (step x H5 y5)) fun _ s6 ⟨σ6, H6, I6, q6⟩ => ?_)
    refine wpAny_passesOwn hp (thn (hb _ s6 σ6 H6 _ I6 q6) fun f s7 q7 => ?_)
    have again : ∀ {σ7 : St} {H7 : Hp}, Inv X (pins ++ pinsAt fp s5.heap) σ7 H7 s7 → N σ7 H7 → ∃ m, m < n ∧ ∃ i σ' H', Inv X pins σ' H' s7 ∧ tn i s7.heap ∧ (∀ b ∈ fp, H' b = none) ∧ W i m σ' H' := fun {σ7 H7} I7 n7 => by
      obtain ⟨m', hm, w7⟩ := hN σ7 H7 n7
      refine ⟨m', hm, i + 1, σ7, H7, I7.unpinned, T.keep _ _ _ st5 fun b hb o e => (I7.pin (b, o) (List.mem_append_right _ (List.mem_append_right _ (mem_pinsAt hb e)))).1, fun b hb => ?_, w7⟩
      obtain ⟨o, e, d⟩ := T.obj _ _ st5 b hb
      exact (I7.pin (b, o) (List.mem_append_right _ (List.mem_append_right _ (mem_pinsAt hb e)))).2.1
    cases f with
    | next => obtain ⟨σ7, H7, I7, n7⟩ := q7; exact again I7 n7
    | cont => obtain ⟨σ7, H7, I7, n7⟩ := q7; exact again I7 n7
    | brk => obtain ⟨σ7, H7, I7, q7⟩ := q7; exact ⟨σ7, H7, I7.unpinned, q7⟩
    | ret v => obtain ⟨x7, σ7, H7, I7, r7, q7⟩ := q7; exact ⟨x7, σ7, H7, I7.unpinned, r7, q7⟩
end

/-! ### the forms one uses -/
/-- over a list that the body leaves as it is -/
theorem for_list {K : PySem.W.Frag} {a : Addr} {xs : List V} {g : TG} {tb : TS} {D : Ends} {σ : St} {H : Hp} (Pv : Nat → St → Hp → Prop) (h0 : Pv 0 σ H) (hl : ∀ i σ H, i ≤ xs.length → Pv i σ H → SqL K H a xs)
    (hs : ∀ i x σ H, xs[i]? = some x → Pv i σ H → g x σ H fun σ2 H2 => tb { D with nx := Pv (i + 1), ct := Pv (i + 1), bk := D.nx } σ2 H2) (hd : ∀ σ H, Pv xs.length σ H → D.nx σ H) :
    ∃ W : Nat → Nat → St → Hp → Prop, (∃ m, W 0 m σ H) ∧ ∀ i m σ H, W i m σ H →
      ((Itl K a).stop i H ∧ D.nx σ H) ∨ ((Itl K a).go i H ∧ ∃ N : St → Hp → Prop, (∀ σ' H', N σ' H' → ∃ m', m' < m ∧ W (i + 1) m' σ' H') ∧ ∀ x H', (Itl K a).yld i H x H' → g x σ H' fun σ2 H2 => tb { D with nx := N, ct := N, bk := D.nx } σ2 H2) := by
  refine ⟨fun i m σ H => m = xs.length - i ∧ i ≤ xs.length ∧ Pv i σ H, ⟨xs.length, by simp, Nat.zero_le _, h0⟩, ?_⟩
  rintro i m σ H ⟨rfl, hi, p⟩
  have q := hl i σ H hi p
  by_cases hlt : i < xs.length
  · refine .inr ⟨⟨xs, xs[i], q, by simp [hlt]⟩, Pv (i + 1), fun σ' H' p' => ⟨xs.length - (i + 1), by omega, rfl, hlt, p'⟩, fun x H' y => ?_⟩
    obtain ⟨e, y⟩ := y
    subst e
    exact hs i x σ _ (y xs q) p
  · have e : i = xs.length := by omega
    subst e
    exact .inl ⟨⟨xs, q, Nat.le_refl _⟩, hd σ H p⟩
theorem for_range {lo : Int} {n : Nat} {g : TG} {tb : TS} {D : Ends} {σ : St} {H : Hp} (Pv : Nat → St → Hp → Prop) (h0 : Pv 0 σ H)
    (hs : ∀ i σ H, i < n → Pv i σ H → g (.int (lo + i)) σ H fun σ2 H2 => tb { D with nx := Pv (i + 1), ct := Pv (i + 1), bk := D.nx } σ2 H2) (hd : ∀ σ H, Pv n σ H → D.nx σ H) :
    ∃ W : Nat → Nat → St → Hp → Prop, (∃ m, W 0 m σ H) ∧ ∀ i m σ H, W i m σ H →
      ((Itr lo n).stop i H ∧ D.nx σ H) ∨ ((Itr lo n).go i H ∧ ∃ N : St → Hp → Prop, (∀ σ' H', N σ' H' → ∃ m', m' < m ∧ W (i + 1) m' σ' H') ∧ ∀ x H', (Itr lo n).yld i H x H' → g x σ H' fun σ2 H2 => tb { D with nx := N, ct := N, bk := D.nx } σ2 H2) := by
  refine ⟨fun i m σ H => m = n - i ∧ i ≤ n ∧ Pv i σ H, ⟨n, by simp, Nat.zero_le _, h0⟩, ?_⟩
  rintro i m σ H ⟨rfl, hi, p⟩
  by_cases hlt : i < n
  · refine .inr ⟨hlt, Pv (i + 1), fun σ' H' p' => ⟨n - (i + 1), by omega, rfl, hlt, p'⟩, fun x H' y => ?_⟩
    obtain ⟨e, y⟩ := y
    subst e y
    exact hs i σ _ hlt p
  · have e : i = n := by omega
    subst e
    exact .inl ⟨Nat.le_refl _, hd σ H p⟩
end L2

namespace L2
open PySem PySem.Spec PyProof.Rows

abbrev R2 := V → V → Hp → VK → Prop
/-- a two-place operation on values: f is binaryOp op, inplaceOp op or compareOp op -/
def OpR (X : Cx) (f : Value → Value → Sem Value) (r : R2) : Prop :=
  ∀ (pins : List (Addr × Obj)) (s : Shared) (σ : St) (H : Hp) (x y : V) (v u : Value) (Q : VK), Inv X pins σ H s → RelV x v → RelV y u → r x y H Q →
    wpAny (model X.prog X.w) X.A (f v u) (EP X pins σ Q) X.xe s
/-- a one-place operation -/
def UnR (X : Cx) (f : Value → Sem Value) (r : V → Hp → VK → Prop) : Prop :=
  ∀ (pins : List (Addr × Obj)) (s : Shared) (σ : St) (H : Hp) (x : V) (v : Value) (Q : VK), Inv X pins σ H s → RelV x v → r x H Q →
    wpAny (model X.prog X.w) X.A (f v) (EP X pins σ Q) X.xe s
/-- a call of a value that is known (a builtin, a type) with values -/
def CallR (X : Cx) (f : Value) (r : List V → Hp → VK → Prop) : Prop :=
  ∀ (pins : List (Addr × Obj)) (s : Shared) (σ : St) (H : Hp) (xs : List V) (us : List Value) (Q : VK), Inv X pins σ H s → Vals xs us → r xs H Q →
    wpAny (model X.prog X.w) X.A (call f us) (EP X pins σ Q) X.xe s

def tOp (r : R2) (ta tb : TE) : TE := fun σ H Q => ta σ H fun x H1 => tb σ H1 fun y H2 => r x y H2 Q
def tUn (r : V → Hp → VK → Prop) (ta : TE) : TE := fun σ H Q => ta σ H fun x H1 => r x H1 Q
/-- ints in, under C, and a value out -/
def rI (C : Int → Int → Prop) (g : Int → Int → V) : R2 := fun x y H Q => ∃ i j, x = .int i ∧ y = .int j ∧ C i j ∧ Q (g i j) H
def rI0 (g : Int → Int → V) : R2 := fun x y H Q => ∃ i j, x = .int i ∧ y = .int j ∧ Q (g i j) H
def rU (g : Int → V) : V → Hp → VK → Prop := fun x H Q => ∃ i, x = .int i ∧ Q (g i) H

section
variable {X : Cx} {a b c : Expr} {ta tb tc : TE} {pos : Pos}

theorem binT (ha : PE X a ta) (hb : PE X b tb) {pins : List (Addr × Obj)} {s : Shared} {σ : St} {H : Hp} {R : V → V → Hp → Prop} (I : Inv X pins σ H s)
    (h : ta σ H fun x H1 => tb σ H1 fun y H2 => R x y H2) {Q : Value → Shared → Prop} {f : Value → Value → Sem Value}
    (hf : ∀ v u s2 x y H2, Inv X pins σ H2 s2 → RelV x v → RelV y u → R x y H2 → wpAny (model X.prog X.w) X.A (f v u) Q X.xe s2) :
    wpAny (model X.prog X.w) X.A (eval a X.env) (fun v s₁ => wpAny (model X.prog X.w) X.A (eval b X.env) (fun u s₂ => wpAny (model X.prog X.w) X.A (f v u) Q X.xe s₂) X.xe s₁) X.xe s := by
  refine thn (ha pins s σ H _ I h) fun v s1 ⟨x, H1, I1, r1, q1⟩ => ?_
  refine thn (hb pins s1 σ H1 _ I1 q1) fun u s2 ⟨y, H2, I2, r2, q2⟩ => ?_
  exact hf v u s2 x y H2 I2 r1 r2 q2

theorem pe_op {op : Operator} {r : R2} (ho : OpR X (binaryOp op) r) (ha : PE X a ta) (hb : PE X b tb) : PE X (.BinOp a op b pos) (tOp r ta tb) := by
  intro pins s σ H Q I h
  exact wpAny_BinOp (binT ha hb I h fun v u s2 x y H2 I2 rx ry q => ho pins s2 σ H2 x y v u Q I2 rx ry q)
theorem pe_un {op : UnaryOp} {r : V → Hp → VK → Prop} (ho : UnR X (unaryOp op) r) (ha : PE X a ta) : PE X (.UnaryOp op a pos) (tUn r ta) := by
  intro pins s σ H Q I h
  exact UnaryOp_ (thn (ha pins s σ H _ I h) fun v s1 ⟨x, H1, I1, r1, q1⟩ => ho pins s1 σ H1 x v Q I1 r1 q1)

/-! ### ints -/
theorem opI {f : Value → Value → Sem Value} {C : Int → Int → Prop} {g : Int → Int → Int}
    (rule : ∀ (i j : Int) (t u : Tok) (s : Shared) (Q : Value → Shared → Prop) (E : Value → Shared → Prop), C i j → Q (.int (g i j) s.toks) { s with toks := s.toks + 1 } → wpAny (model X.prog X.w) X.A (f (.int i t) (.int j u)) Q E s) :
    OpR X f (rI C fun i j => .int (g i j)) := by
  intro pins s σ H x y v u Q I rx ry h
  obtain ⟨i, j, rfl, rfl, hc, q⟩ := h
  obtain ⟨t, rfl⟩ := rx
  obtain ⟨t', rfl⟩ := ry
  exact rule i j t t' s _ _ hc ⟨.int (g i j), H, I.tok _, ⟨_, rfl⟩, q⟩
theorem opI0 {f : Value → Value → Sem Value} {g : Int → Int → Int}
    (rule : ∀ (i j : Int) (t u : Tok) (s : Shared) (Q : Value → Shared → Prop) (E : Value → Shared → Prop), Q (.int (g i j) s.toks) { s with toks := s.toks + 1 } → wpAny (model X.prog X.w) X.A (f (.int i t) (.int j u)) Q E s) :
    OpR X f (rI0 fun i j => .int (g i j)) := by
  intro pins s σ H x y v u Q I rx ry h
  obtain ⟨i, j, rfl, rfl, q⟩ := h
  obtain ⟨t, rfl⟩ := rx
  obtain ⟨t', rfl⟩ := ry
  exact rule i j t t' s _ _ ⟨.int (g i j), H, I.tok _, ⟨_, rfl⟩, q⟩
theorem opB0 {f : Value → Value → Sem Value} {g : Int → Int → Bool}
    (rule : ∀ (i j : Int) (t u : Tok) (s : Shared) (Q : Value → Shared → Prop) (E : Value → Shared → Prop), Q (.bool (g i j)) s → wpAny (model X.prog X.w) X.A (f (.int i t) (.int j u)) Q E s) :
    OpR X f (rI0 fun i j => .bl (g i j)) := by
  intro pins s σ H x y v u Q I rx ry h
  obtain ⟨i, j, rfl, rfl, q⟩ := h
  obtain ⟨t, rfl⟩ := rx
  obtain ⟨t', rfl⟩ := ry
  exact rule i j t t' s _ _ ⟨.bl (g i j), H, I, rfl, q⟩

def CPow (i j : Int) : Prop := 0 ≤ j ∧ j ≤ 1000000 ∧ i.natAbs < 2 ^ 64
def CMul (i j : Int) : Prop := (-(2 ^ 64) < i ∧ i < 2 ^ 64) ∨ (-(2 ^ 64) < j ∧ j < 2 ^ 64)
theorem CMul.ok {i j : Int} (h : CMul i j) : IntMulOk i j := by
  rcases h with ⟨h1, h2⟩ | ⟨h1, h2⟩
  · exact .of_left (intBits_le_64 h1 h2)
  · exact .of_right (intBits_le_64 h1 h2)

theorem op_add : OpR X (binaryOp .Add) (rI0 fun i j => .int (i + j)) := opI0 fun _ _ _ _ _ _ _ q => add_int q
theorem op_sub : OpR X (binaryOp .Sub) (rI0 fun i j => .int (i - j)) := opI0 fun _ _ _ _ _ _ _ q => sub_int q
theorem op_mul : OpR X (binaryOp .Mult) (rI CMul fun i j => .int (i * j)) := opI fun _ _ _ _ _ _ _ hc q => mul_int q hc.ok
theorem op_modN : OpR X (binaryOp .Mod) (rI (fun _ j => j ≠ 0) fun i j => .int (i.fmod j)) := opI fun _ _ _ _ _ _ _ hc q => mod_int' hc q
theorem op_pow : OpR X (binaryOp .Pow) (rI CPow fun i j => .int (i ^ j.toNat)) := opI fun _ _ _ _ _ _ _ hc q => pow_int_small hc.1 hc.2.1 hc.2.2 q


theorem unI {f : Value → Sem Value} {g : Int → Int}
    (rule : ∀ (i : Int) (t : Tok) (s : Shared) (Q : Value → Shared → Prop) (E : Value → Shared → Prop), Q (.int (g i) s.toks) { s with toks := s.toks + 1 } → wpAny (model X.prog X.w) X.A (f (.int i t)) Q E s) :
    UnR X f (rU fun i => .int (g i)) := by
  intro pins s σ H x v Q I rx h
  obtain ⟨i, rfl, q⟩ := h
  obtain ⟨t, rfl⟩ := rx
  exact rule i t s _ _ ⟨.int (g i), H, I.tok _, ⟨_, rfl⟩, q⟩
theorem un_neg : UnR X (unaryOp .USub) (rU fun i => .int (-i)) := unI fun _ _ _ _ _ q => neg_int q

/-! ### bools among ints: n += (a < b) -/
end

/-! ### comparisons -/
/-- the scalars that == tells apart as data does -/
def scal : V → V → Bool
  | .non, .non => true | .non, .int _ => true | .int _, .non => true | .non, .bl _ => true | .bl _, .non => true | .non, .str _ => true | .str _, .non => true
  | .int _, .int _ => true | .bl _, .bl _ => true | .str _, .str _ => true | .byt _, .byt _ => true
  | .int _, .str _ => true | .str _, .int _ => true | .bl _, .str _ => true | .str _, .bl _ => true
  | _, _ => false
def rEq : R2 := fun x y H Q => scal x y = true ∧ Q (.bl (decide (x = y))) H
def rNe : R2 := fun x y H Q => scal x y = true ∧ Q (.bl (!decide (x = y))) H

theorem dec_int {i j : Int} : decide (V.int i = V.int j) = (i == j) := by
  rw [Bool.eq_iff_iff]
  simp
theorem dec_bl {i j : Bool} : decide (V.bl i = V.bl j) = (i == j) := by
  rw [Bool.eq_iff_iff]
  simp
theorem dec_str {i j : Str} : decide (V.str i = V.str j) = (i == j) := by
  rw [Bool.eq_iff_iff]
  simp
theorem dec_byt {i j : Array UInt8} : decide (V.byt i = V.byt j) = (i.toList == j.toList) := by
  rw [Bool.eq_iff_iff]
  cases i
  cases j
  simp

section
variable {X : Cx} {a b c : Expr} {ta tb tc : TE} {pos : Pos}
theorem fin_bl {pins : List (Addr × Obj)} {σ : St} {H : Hp} {s : Shared} {Q : VK} {k k' : Bool} (I : Inv X pins σ H s) (q : Q (.bl k) H) (e : k = k') : EP X pins σ Q (.bool k') s := by
  subst e
  exact ⟨.bl k, H, I, rfl, q⟩
theorem op_eq : OpR X (compareOp .Eq) rEq := by
  intro pins s σ H x y v u Q I rx ry h
  obtain ⟨hs, q⟩ := h
  cases x with
  | non =>
    cases rx
    cases y with
    | non => cases ry; exact PySem.EqNone.eq_none_none (fin_bl I q (by simp))
    | bl j => cases ry; exact PySem.EqNone.eq_none_bool (fin_bl I q (by simp))
    | int j => obtain ⟨t', rfl⟩ := ry; exact PySem.EqNone.eq_none_int (fin_bl I q (by simp))
    | str j => obtain ⟨t', rfl⟩ := ry; exact PySem.EqNone.eq_none_str (fin_bl I q (by simp))
    | _ => exact absurd (show false = true from hs) Bool.false_ne_true
  | bl i =>
    cases rx
    cases y with
    | non => cases ry; exact PySem.EqNone.eq_bool_none (fin_bl I q (by simp))
    | bl j => cases ry; exact eq_bool (fin_bl I q dec_bl)
    | str j => obtain ⟨t', rfl⟩ := ry; exact PySem.EqMixed.eq_bool_str (fin_bl I q (by simp))
    | _ => exact absurd (show false = true from hs) Bool.false_ne_true
  | int i =>
    obtain ⟨t, rfl⟩ := rx
    cases y with
    | non => cases ry; exact PySem.EqNone.eq_int_none (fin_bl I q (by simp))
    | int j => obtain ⟨t', rfl⟩ := ry; exact eq_int (fin_bl I q dec_int)
    | str j => obtain ⟨t', rfl⟩ := ry; exact PySem.EqMixed.eq_int_str (fin_bl I q (by simp))
    | _ => exact absurd (show false = true from hs) Bool.false_ne_true
  | str i =>
    obtain ⟨t, rfl⟩ := rx
    cases y with
    | non => cases ry; exact PySem.EqNone.eq_str_none (fin_bl I q (by simp))
    | bl j => cases ry; exact PySem.EqMixed.eq_str_bool (fin_bl I q (by simp))
    | int j => obtain ⟨t', rfl⟩ := ry; exact PySem.EqMixed.eq_str_int (fin_bl I q (by simp))
    | str j => obtain ⟨t', rfl⟩ := ry; exact eq_str (fin_bl I q dec_str)
    | _ => exact absurd (show false = true from hs) Bool.false_ne_true
  | byt i =>
    obtain ⟨t, rfl⟩ := rx
    cases y with
    | byt j => obtain ⟨t', rfl⟩ := ry; exact PySem.W.eq_bytes (fin_bl I q dec_byt)
    | _ => exact absurd (show false = true from hs) Bool.false_ne_true
  | _ => cases y <;> exact absurd (show false = true from hs) Bool.false_ne_true
theorem op_ne : OpR X (compareOp .NotEq) rNe := by
  intro pins s σ H x y v u Q I rx ry h
  obtain ⟨hs, q⟩ := h
  cases x with
  | non =>
    cases rx
    cases y with
    | non => cases ry; exact PySem.EqNone.ne_none_none (fin_bl I q (by simp))
    | bl j => cases ry; exact PySem.EqNone.ne_none_bool (fin_bl I q (by simp))
    | int j => obtain ⟨t', rfl⟩ := ry; exact PySem.EqNone.ne_none_int (fin_bl I q (by simp))
    | str j => obtain ⟨t', rfl⟩ := ry; exact PySem.EqNone.ne_none_str (fin_bl I q (by simp))
    | _ => exact absurd (show false = true from hs) Bool.false_ne_true
  | bl i =>
    cases rx
    cases y with
    | non => cases ry; exact PySem.EqNone.ne_bool_none (fin_bl I q (by simp))
    | bl j => cases ry; exact ne_bool (fin_bl I q (congrArg not dec_bl))
    | str j => obtain ⟨t', rfl⟩ := ry; exact PySem.EqMixed.ne_bool_str (fin_bl I q (by simp))
    | _ => exact absurd (show false = true from hs) Bool.false_ne_true
  | int i =>
    obtain ⟨t, rfl⟩ := rx
    cases y with
    | non => cases ry; exact PySem.EqNone.ne_int_none (fin_bl I q (by simp))
    | int j => obtain ⟨t', rfl⟩ := ry; exact ne_int (fin_bl I q (congrArg not dec_int))
    | str j => obtain ⟨t', rfl⟩ := ry; exact PySem.EqMixed.ne_int_str (fin_bl I q (by simp))
    | _ => exact absurd (show false = true from hs) Bool.false_ne_true
  | str i =>
    obtain ⟨t, rfl⟩ := rx
    cases y with
    | non => cases ry; exact PySem.EqNone.ne_str_none (fin_bl I q (by simp))
    | bl j => cases ry; exact PySem.EqMixed.ne_str_bool (fin_bl I q (by simp))
    | int j => obtain ⟨t', rfl⟩ := ry; exact PySem.EqMixed.ne_str_int (fin_bl I q (by simp))
    | str j => obtain ⟨t', rfl⟩ := ry; exact ne_str (fin_bl I q (congrArg not dec_str))
    | _ => exact absurd (show false = true from hs) Bool.false_ne_true
  | byt i =>
    obtain ⟨t, rfl⟩ := rx
    cases y with
    | byt j => obtain ⟨t', rfl⟩ := ry; exact PySem.W.ne_bytes (fin_bl I q (congrArg not dec_byt))
    | _ => exact absurd (show false = true from hs) Bool.false_ne_true
  | _ => cases y <;> exact absurd (show false = true from hs) Bool.false_ne_true

theorem op_lt : OpR X (compareOp .Lt) (rI0 fun i j => .bl (decide (i < j))) := opB0 fun _ _ _ _ _ _ _ q => lt_int q
theorem op_le : OpR X (compareOp .LtE) (rI0 fun i j => .bl (decide (i ≤ j))) := opB0 fun _ _ _ _ _ _ _ q => le_int q
theorem op_gt : OpR X (compareOp .Gt) (rI0 fun i j => .bl (decide (j < i))) := opB0 fun _ _ _ _ _ _ _ q => gt_int q
theorem op_ge : OpR X (compareOp .GtE) (rI0 fun i j => .bl (decide (j ≤ i))) := opB0 fun _ _ _ _ _ _ _ q => ge_int q



/-- two rules for one operation: by cases -/
theorem OpR.or {f : Value → Value → Sem Value} {r r' : R2} (h : OpR X f r) (h' : OpR X f r') : OpR X f (fun x y H Q => r x y H Q ∨ r' x y H Q) := by
  intro pins s σ H x y v u Q I rx ry q
  rcases q with q | q
  · exact h pins s σ H x y v u Q I rx ry q
  · exact h' pins s σ H x y v u Q I rx ry q

theorem nomark (b : Expr) {op : CmpOp} (h : op ≠ .In := by decide) (h2 : op ≠ .NotIn := by decide) : behindInMarks op b = false := by
  have e1 : (op == CmpOp.In) = false := by cases op <;> first | rfl | exact absurd rfl h
  have e2 : (op == CmpOp.NotIn) = false := by cases op <;> first | rfl | exact absurd rfl h2
  cases b <;> simp [behindInMarks, e1, e2]
/-- a comparison as a value; hm: nomark b, or (for in, not in) by with_unfolding_all rfl -/
theorem pe_cmpR {op : CmpOp} {r : R2} (ho : OpR X (compareOp op) r) (ha : PE X a ta) (hb : PE X b tb) (hm : behindInMarks op b = false) : PE X (.Compare a [op] [b] pos) (tOp r ta tb) := by
  intro pins s σ H Q I h
  exact wpAny_Compare1 (binT ha hb I h fun v u s2 x y H2 I2 rx ry q => ho pins s2 σ H2 x y v u Q I2 rx ry q) hm
/-- a reading of a value as a test -/
def tTest (t : TE) : TT := fun σ H Q => t σ H fun x H' => ∃ k, x = .bl k ∧ Q k H'
theorem pt_cmpR {op : CmpOp} {r : R2} (ho : OpR X (compareOp op) r) (ha : PE X a ta) (hb : PE X b tb) (hm : behindInMarks op b = false) : PT X (.Compare a [op] [b] pos) (tTest (tOp r ta tb)) := by
  intro pins s σ H Q I h
  refine wpAny_isTrue_Compare1 (thn (ha pins s σ H _ I h) fun v s1 ⟨x, H1, I1, r1, q1⟩ => thn (hb pins s1 σ H1 _ I1 q1) fun u s2 ⟨y, H2, I2, r2, q2⟩ =>
    thn (ho pins s2 σ H2 x y v u _ I2 r1 r2 q2) fun c s3 ⟨z, H3, I3, r3, k, e, q3⟩ => ?_) hm
  subst e
  cases r3
  exact wpAny_truthy_bool ⟨H3, I3, q3⟩
/-- a op1 b op2 c -/
def tChain (r r' : R2) (ta tb tc : TE) : TE := fun σ H Q => ta σ H fun x H1 => tb σ H1 fun y H2 => r x y H2 fun z H3 => ∃ k, z = .bl k ∧
  (if k = true then tc σ H3 fun w' H4 => r' y w' H4 Q else Q (.bl false) H3)
theorem pe_chain {op op' : CmpOp} {r r' : R2} (ho : OpR X (compareOp op) r) (ho' : OpR X (compareOp op') r') (ha : PE X a ta) (hb : PE X b tb) (hc : PE X c tc)
    (hm : lastMarks [op, op'] [b, c] = false := by with_unfolding_all rfl) : PE X (.Compare a [op, op'] [b, c] pos) (tChain r r' ta tb tc) := by
  intro pins s σ H Q I h
  refine Compare_chain (thn (ha pins s σ H _ I h) fun v s1 ⟨x, H1, I1, r1, q1⟩ => chain_link (thn (hb pins s1 σ H1 _ I1 q1) fun u s2 ⟨y, H2, I2, r2, q2⟩ =>
    thn (ho pins s2 σ H2 x y v u _ I2 r1 r2 q2) fun d s3 ⟨z, H3, I3, r3, k, e, q3⟩ => ?_)) hm
  subst e
  cases r3
  refine wpAny_truthy_bool ?_
  cases k with
  | false => exact ite_ff ⟨.bl false, H3, I3, rfl, q3⟩
  | true => exact ite_tt (chain_last (thn (hc pins s3 σ H3 _ I3 q3) fun w' s4 ⟨z', H4, I4, r4, q4⟩ => ho' pins s4 σ H4 y z' u w' Q I4 r2 r4 q4))

/-! ### truth -/
theorem line63 : (sizeLine : Nat) < 2 ^ 63 := by rw [sizeLine_eq]; decide

/-! ### strs and bytes -/


/-! ### scalar builtins, by CallR -/
theorem vals1 {x : V} {us : List Value} (r : Vals [x] us) : ∃ u, us = [u] ∧ RelV x u := by
  cases r with
  | cons r1 r2 => cases r2; exact ⟨_, rfl, r1⟩
theorem vals2 {x y : V} {us : List Value} (r : Vals [x, y] us) : ∃ u w', us = [u, w'] ∧ RelV x u ∧ RelV y w' := by
  cases r with
  | cons r1 r2 =>
    cases r2 with
    | cons r3 r4 => cases r4; exact ⟨_, _, rfl, r1, r3⟩
theorem call_abs : CallR X (.builtin "abs") (fun xs H Q => ∃ i, xs = [.int i] ∧ Q (.int (if i < 0 then -i else i)) H) := by
  intro pins s σ H xs us Q I r h
  obtain ⟨i, rfl, q⟩ := h
  obtain ⟨u, rfl, t, rfl⟩ := vals1 r
  exact call_abs_int fun u tk => ⟨.int (if i < 0 then -i else i), H, I.tok _, ⟨_, rfl⟩, q⟩
theorem call_max2 (hc : X.calm = true) : CallR X (.builtin "max") (fun xs H Q => ∃ i j, xs = [.int i, .int j] ∧ Q (.int (if j > i then j else i)) H) := by
  intro pins s σ H xs us Q I r h
  obtain ⟨i, j, rfl, q⟩ := h
  obtain ⟨u, w', rfl, ⟨t, rfl⟩, ⟨t', rfl⟩⟩ := vals2 r
  refine max_two_ints (I.ok.hd hc) fun h' tk k => ⟨_, H, I.kept k, ?_, q⟩
  by_cases hj : j > i
  · rw [if_pos hj, if_pos hj]; exact ⟨_, rfl⟩
  · rw [if_neg hj, if_neg hj]; exact ⟨_, rfl⟩
/-- len of a str, a bytes, a list, a tuple -/
def LenV (K : PySem.W.Frag) (x : V) (H : Hp) (n : Nat) : Prop :=
  match x with
  | .str y => y.length ≤ sizeLine ∧ n = y.length
  | .byt y => y.size ≤ sizeLine ∧ n = y.size
  | .ref p => (∃ xs, SqL K H p xs ∧ n = xs.length) ∨ ∃ xs, SqT K H p xs ∧ n = xs.length
  | _ => False
theorem call_len : CallR X (.builtin "len") (fun xs H Q => ∃ x n, xs = [x] ∧ LenV X.K x H n ∧ Q (.int n) H) := by
  intro pins s σ H xs us Q I r h
  obtain ⟨x, n, rfl, e, q⟩ := h
  obtain ⟨u, rfl, rx⟩ := vals1 r
  have hl := line63
  have hs : sizeLine = 16777216 := sizeLine_eq
  cases x with
  | str y =>
    obtain ⟨t, rfl⟩ := rx
    obtain ⟨hy, e'⟩ : y.length ≤ sizeLine ∧ n = y.length := e
    subst e'
    exact len_str (by omega) ⟨.int _, H, I.tok _, ⟨_, rfl⟩, q⟩
  | byt y =>
    obtain ⟨t, rfl⟩ := rx
    obtain ⟨hy, e'⟩ : y.size ≤ sizeLine ∧ n = y.size := e
    subst e'
    exact PySem.W.len_bytes (by omega) ⟨.int _, H, I.tok _, ⟨_, rfl⟩, q⟩
  | ref p =>
    cases rx
    have e' : (∃ xs, SqL X.K H p xs ∧ n = xs.length) ∨ ∃ xs, SqT X.K H p xs ∧ n = xs.length := e
    rcases e' with ⟨xs, hx, e'⟩ | ⟨xs, hx, e'⟩
    · subst e'
      obtain ⟨its, r', pl, hz⟩ := I.list hx
      have hlen := r'.length
      exact Calls.call_len_list pl.isList (by simp only [List.size_toArray]; omega) ⟨.int xs.length, H, I.tok _, ⟨_, by simp only [List.size_toArray]; rw [hlen]⟩, q⟩
    · subst e'
      obtain ⟨its, r', pl, hz⟩ := I.tuple hx
      have hlen := r'.length
      exact len_tuple pl (by simp only [List.size_toArray]; omega) ⟨.int xs.length, H, I.tok _, ⟨_, by simp only [List.size_toArray]; rw [hlen]⟩, q⟩
  | _ => exact (show False from e).elim
end
end L2

namespace L2
open PySem PySem.Spec PyProof.Rows

/-! ### an instance, its attributes a map -/
structure ObjM (h : Heap) (x dx C : Addr) (mA : Str → Option Value) : Prop where
  obj : h.get? x = some (PySem.W.instObj C dx)
  ns : h.Ns1 dx mA
  ne : dx ≠ x

theorem lookIn_ns {h : Heap} {dx : Addr} {mA : Str → Option Value} (n : h.Ns1 dx mA) : ∃ od, h.get? dx = some od ∧ ∀ name, PySem.W.lookIn name od = some (mA name) := by
  obtain ⟨o, es, ep, ho, hd, hk, _, hm⟩ := n
  refine ⟨o, ho, fun name => ?_⟩
  have e := hm name
  unfold nsFind findBy at e
  rw [← Array.find?_toList] at e
  unfold PySem.W.lookIn
  rw [hd]
  dsimp only
  split
  · rename_i y q
    rw [q] at e
    exact congrArg some e
  · rename_i q
    rw [q] at e
    have a : es.toList.any (·.refKey) = false := by
      rw [List.any_eq_false]
      intro y hy
      obtain ⟨z, t, hkey⟩ := hk y (Array.mem_toList_iff.mp hy)
      simp [DictEntry.refKey, hkey]
    have a' : ¬ es.toList.any (·.refKey) = true := by rw [a]; exact Bool.false_ne_true
    rw [if_neg a']
    exact congrArg some e

theorem ObjM.look {h : Heap} {x dx C : Addr} {mA : Str → Option Value} (I : ObjM h x dx C mA) : ∃ od, PySem.W.InstAt h x (PySem.W.instObj C dx) C (some od) ∧ ∀ name, PySem.W.lookIn name od = some (mA name) :=
  let ⟨od, ho, hl⟩ := lookIn_ns I.ns
  ⟨od, ⟨I.obj, rfl, rfl, ho⟩, hl⟩

section
variable {prog : Program} {w : World} {A : Around} {E : Value → Shared → Prop} {s : Shared} {K : PySem.W.Frag} {x dx C f : Addr} {mA : Str → Option Value} {name : Str} {v : Value}

theorem get_map {expr : Bool} {Q : Value → Shared → Prop} (X : K.In s.heap) (I : ObjM s.heap x dx C mA) (hg : PySem.W.plainGet K C name = true) (hh : PySem.W.hasDictIn K C = true)
    (ha : PySem.W.findIn K (.ref C) name = some none) (hv : mA name = some v) (hv' : PySem.W.handedIn v = true) (h : Q v { s with toks := s.toks + 1 }) :
    wpAny (model prog w) A (getAttr (.ref x) name expr) Q E s := by
  obtain ⟨od, J, hl⟩ := I.look
  exact PySem.W.get_value X J (PySem.W.plainGet_of hg).1 (PySem.W.findObj_own hh ha rfl (by rw [hl, hv])) hv' h


theorem get_meth {pl : Sem Bool} {Q : Value × List Value → Shared → Prop} (X : K.In s.heap) (I : ObjM s.heap x dx C mA) (hg : PySem.W.plainGet K C name = true)
    (hf : PySem.W.findIn K (.ref C) name = some (some (.ref f))) (ht : PySem.W.isFn K (.ref f) = true) (hv : mA name = none) (h : Q (.ref f, [.ref x]) s) :
    wpAny (model prog w) A (getMethod (.ref x) name pl) Q E s := by
  obtain ⟨od, J, hl⟩ := I.look
  exact PySem.W.method_fn X J (PySem.W.plainGet_of hg).1 (PySem.W.plainGet_of hg).2 hf (beq_iff_eq.mp ht) (by show (PySem.W.lookIn name od).map (·.isSome) = some false; rw [hl, hv]; rfl) h

theorem set_map {ns : List Str} {Q : Unit → Shared → Prop} (X : K.In s.heap) (I : ObjM s.heap x dx C mA)
    (hs : PySem.W.findIn K (.ref C) "__setattr__" = some (some (.builtin "object.__setattr__"))) (hp : PySem.W.plainOver K C = true) (ht : PySem.W.takerIn K C name = some none) (hh : PySem.W.hasDictIn K C = true)
    (hw : PySem.Within mA ns) (hsz : ns.length ≤ sizeLine)
    (h : ∀ h', ObjM h' x dx C (fun y => if y = name then some v else mA y) → Heap.SameBut dx s.heap h' → Q () { s with heap := h', toks := s.toks + 2 }) :
    wpAny (model prog w) A (setAttr (.ref x) name v) Q E s := by
  obtain ⟨od, J, hl⟩ := I.look
  refine PySem.W.set_plain X J hs (PySem.W.osa_open (s := { s with toks := s.toks + 1 }) (r := none) X J hp ht fun b => ?_)
  obtain ⟨cd, hc, hd'⟩ := PySem.W.any_some hh
  have hx : s.heap.get? x = some ⟨.ref C, some dx, .plain, #[]⟩ := I.obj
  refine wpAny_bind (wpAny_pure (wpAny_bind (wpAny_bind (wpAny_loadPart hx (wpAny_bind (PySem.W.Looks.here (s := { s with toks := s.toks + 1 }) (PySem.W.looks_clsIn X hc) ?_))))))
  rw [hd']
  refine wpAny_pure (a := some dx) (wpAny_bind (wpAny_pure (wpAny_bind ?_)))
  refine wpAny_nsSet1 (s := { s with toks := s.toks + 1 }) I.ns fun h' hn2 hs2 => ?_
  obtain ⟨oD, esD, epD, hoD, hdD, hcD⟩ := hn2.count (PySem.Within.cons name v hw)
  refine wpAny_bind (wpAny_lookBehind hoD (by rw [hdD]; exact pastItsLine_dict (Nat.le_trans hcD (by rw [List.length_cons]; omega))) ?_)
  exact wpAny_pure (h _ ⟨(hs2.2 _ (Ne.symm I.ne)).trans I.obj, hn2, I.ne⟩ hs2)

/-- C(..): the dict at the heap's end, the instance behind it; then its __init__ -/
theorem make_map {R : Result → Shared → Prop} {vs : List Value} {kw : List (Str × Value)} (X : K.In s.heap) (hm : PySem.W.makesIn K C = true)
    (hi : PySem.W.findIn K (.ref C) "__init__" = some (some (.ref f))) (hf : PySem.W.typeIn K (.ref f) = some (.type "function"))
    (h : codeAny (model prog w) (A.under (.builtin "type.__call__" ⟨.ref C :: vs, kw⟩)) (.call (.ref f) ⟨.ref (s.heap.objs.size + 1) :: vs, kw⟩) (PySem.W.InitBack (s.heap.objs.size + 1) R)
      { s with heap := (s.heap.push PySem.W.emptyDict).push (PySem.W.instObj C s.heap.objs.size) }) :
    codeAny (model prog w) A (.call (.ref C) ⟨vs, kw⟩) R s := by
  obtain ⟨hh, g, d, t, os⟩ := s
  exact PySem.W.make_core (PySem.W.makes_of X hm) (PySem.W.looks_findIn X hi) (fun self => PySem.W.bind_fn X self hf) (.inl rfl) h
/-- C() where there is no __init__ but object's -/
theorem make_map0 {R : Result → Shared → Prop} (X : K.In s.heap) (hm : PySem.W.makesIn K C = true)
    (hi : PySem.W.findIn K (.ref C) "__init__" = some (some (.builtin "object.__init__")))
    (hb : ∀ self, PySem.W.Looks (model prog w) s.heap (bindSpecial (.builtin "object.__init__") self) (.builtin "object.__init__", [self]))
    (h : codeAny (model prog w) (A.under (.builtin "type.__call__" ⟨[.ref C], []⟩)) (.call (.builtin "object.__init__") ⟨[.ref (s.heap.objs.size + 1)], []⟩) (PySem.W.InitBack (s.heap.objs.size + 1) R)
      { s with heap := (s.heap.push PySem.W.emptyDict).push (PySem.W.instObj C s.heap.objs.size) }) :
    codeAny (model prog w) A (.call (.ref C) ⟨[], []⟩) R s := by
  obtain ⟨hh, g, d, t, os⟩ := s
  exact PySem.W.make_core (PySem.W.makes_of X hm) (PySem.W.looks_findIn X hi) hb (.inr ⟨rfl, rfl⟩) h
end

/-! ### the attributes as a list of pairs -/
def putF (f : Str) (v : V) : List (Str × V) → List (Str × V)
  | [] => [(f, v)]
  | (g, x) :: r => if g = f then (g, v) :: r else (g, x) :: putF f v r
theorem lookup_putF (f g : Str) (v : V) : ∀ fs : List (Str × V), (putF f v fs).lookup g = if g = f then some v else fs.lookup g
  | [] => by
    show List.lookup g [(f, v)] = _
    by_cases h : g = f
    · have hb : (g == f) = true := beq_iff_eq.mpr h
      simp only [List.lookup, hb, if_pos h]
    · have hb : (g == f) = false := beq_eq_false_iff_ne.mpr h
      simp only [List.lookup, hb, if_neg h]
  | (k, x) :: r => by
    have ih := lookup_putF f g v r
    rw [show putF f v ((k, x) :: r) = (if k = f then (k, v) :: r else (k, x) :: putF f v r) from rfl]
    by_cases hk : k = f
    · rw [if_pos hk]
      by_cases h : g = k
      · have hb : (g == k) = true := beq_iff_eq.mpr h
        simp only [List.lookup, hb, if_pos (h.trans hk)]
      · have hb : (g == k) = false := beq_eq_false_iff_ne.mpr h
        simp only [List.lookup, hb, if_neg (fun e : g = f => h (e.trans hk.symm))]
    · rw [if_neg hk]
      by_cases h : g = k
      · have hb : (g == k) = true := beq_iff_eq.mpr h
        simp only [List.lookup, hb, if_neg (fun e : g = f => hk (h.symm.trans e))]
      · have hb : (g == k) = false := beq_eq_false_iff_ne.mpr h
        simp only [List.lookup, hb]
        exact ih
theorem keys_putF (f : Str) (v : V) : ∀ fs : List (Str × V), f ∈ (putF f v fs).map (·.1) ∧ ∀ g, g ∈ fs.map (·.1) → g ∈ (putF f v fs).map (·.1)
  | [] => ⟨by simp [putF], fun g h => by simp at h⟩
  | (k, x) :: r => by
    obtain ⟨i1, i2⟩ := keys_putF f v r
    rw [show putF f v ((k, x) :: r) = (if k = f then (k, v) :: r else (k, x) :: putF f v r) from rfl]
    by_cases hk : k = f
    · rw [if_pos hk]
      subst hk
      exact ⟨by simp, fun g h => by simpa using h⟩
    · rw [if_neg hk]
      refine ⟨?_, fun g h => ?_⟩
      · rw [List.map_cons]
        exact List.mem_cons_of_mem _ i1
      · rw [List.map_cons] at h ⊢
        rcases List.mem_cons.mp h with e | e
        · exact List.mem_cons.mpr (.inl e)
        · exact List.mem_cons_of_mem _ (i2 g e)
theorem length_putF (f : Str) (v : V) : ∀ fs : List (Str × V), (putF f v fs).length ≤ fs.length + 1
  | [] => by simp [putF]
  | (k, x) :: r => by
    have ih := length_putF f v r
    rw [show putF f v ((k, x) :: r) = (if k = f then (k, v) :: r else (k, x) :: putF f v r) from rfl]
    by_cases hk : k = f
    · rw [if_pos hk, List.length_cons, List.length_cons]; omega
    · rw [if_neg hk, List.length_cons, List.length_cons]; omega

theorem RelO.some_of {v : V} {o : Option Value} (r : RelO (some v) o) : ∃ u, o = some u ∧ RelV v u := by
  cases o with
  | none => exact (show False from r).elim
  | some u => exact ⟨u, rfl, r⟩
theorem RelO.none_of {o : Option Value} (r : RelO none o) : o = none := by
  cases o with
  | none => rfl
  | some u => exact (show False from r).elim
theorem handed_of {v : V} {u : Value} (r : RelV v u) : PySem.W.handedIn u = true := by
  cases v with
  | non => cases (show u = Value.none from r); rfl
  | bl b => cases (show u = Value.bool b from r); rfl
  | int i => obtain ⟨t, e⟩ := (show ∃ t, u = Value.int i t from r); cases e; rfl
  | str x => obtain ⟨t, e⟩ := (show ∃ t, u = Value.str x t from r); cases e; rfl
  | byt b => obtain ⟨t, e⟩ := (show ∃ t, u = Value.bytes b t from r); cases e; rfl
  | flt b => obtain ⟨t, e⟩ := (show ∃ t, u = Value.float b t from r); cases e; rfl
  | ref a => cases (show u = Value.ref a from r); rfl
  | ty n => cases (show u = Value.type n from r); rfl

section
variable {P : Program} {w : World} {H H' : Hp} {h h' : Heap} {a C dx : Addr} {fs fs' : List (Str × V)}
theorem ins_get (hok : HOk P w H h) (e : H a = some (.ins C dx fs)) : ∃ mA, ObjM h a dx C mA ∧ (∀ f, RelO (fs.lookup f) (mA f)) ∧ PySem.Within mA (fs.map (·.1)) ∧ fs.length ≤ 1000 ∧ H dx = some (.own a) := by
  obtain ⟨d, z, ne, ob, mA, n, r, q⟩ := (show ObjOk P w H h a (.ins C dx fs) from hok a _ e)
  exact ⟨mA, ⟨ob, n, ne⟩, r, q, z, d⟩
end

/-! ### what of the text a class must have -/
structure Cls (K : PySem.W.Frag) (C : Addr) : Prop where
  pg : PySem.W.plainGet K C Str.empty = true
  hd : PySem.W.hasDictIn K C = true
  po : PySem.W.plainOver K C = true
  sa : PySem.W.findIn K (.ref C) "__setattr__" = some (some (.builtin "object.__setattr__"))
theorem Cls.get {K : PySem.W.Frag} {C : Addr} (c : Cls K C) (f : Str) : PySem.W.plainGet K C f = true := c.pg
/-- no class of it has the name -/
def NoAttr (K : PySem.W.Frag) (C : Addr) (f : Str) : Prop := PySem.W.findIn K (.ref C) f = some none
theorem NoAttr.taker {K : PySem.W.Frag} {C : Addr} {f : Str} (n : NoAttr K C f) : PySem.W.takerIn K C f = some none := by
  unfold PySem.W.takerIn
  rw [show PySem.W.findIn K (.ref C) f = some none from n]
  rfl
/-- a constant of the class -/
structure Con (K : PySem.W.Frag) (C : Addr) (f : Str) (v : V) (u : Value) : Prop where
  at_ : PySem.W.findIn K (.ref C) f = some (some u)
  rel : RelV v u
  get : PySem.W.specialIn K u "__get__" = some none
  cp : PySem.W.copiedNames.contains f = false
/-- a method: a plain def of the class or of one above it -/
structure Meth (K : PySem.W.Frag) (C : Addr) (m : Str) (f : Addr) : Prop where
  at_ : PySem.W.findIn K (.ref C) m = some (some (.ref f))
  fn : PySem.W.isFn K (.ref f) = true
  kp : PySem.W.keepIn K (.ref f) = true

section
variable {X : Cx} {pins : List (Addr × Obj)} {σ : St} {H : Hp} {s : Shared} {a C dx : Addr} {fs : List (Str × V)} {f : Str} {v : V} {A : Around} {E : Value → Shared → Prop}

theorem getattr_ok {b : Bool} {Q : Value → Shared → Prop} (I : Inv X pins σ H s) (e : H a = some (.ins C dx fs)) (c : Cls X.K C) (n : NoAttr X.K C f) (l : fs.lookup f = some v)
    (h : ∀ u s', Inv X pins σ H s' → RelV v u → Q u s') : wpAny (model X.prog X.w) A (getAttr (.ref a) f b) Q E s := by
  obtain ⟨mA, O, r, _, _, _⟩ := ins_get I.hok e
  obtain ⟨u, hu, ru⟩ := RelO.some_of (v := v) (o := mA f) (by rw [← l]; exact r f)
  exact get_map I.kIn O (c.get f) c.hd n hu (handed_of ru) (h u _ (I.tok _) ru)


theorem getmeth_ok {m : Str} {g : Addr} {pl : Sem Bool} {Q : Value × List Value → Shared → Prop} (I : Inv X pins σ H s) (e : H a = some (.ins C dx fs)) (c : Cls X.K C) (k : Meth X.K C m g) (l : fs.lookup m = none)
    (h : Q (.ref g, [.ref a]) s) : wpAny (model X.prog X.w) A (getMethod (.ref a) m pl) Q E s := by
  obtain ⟨mA, O, r, _, _, _⟩ := ins_get I.hok e
  have hn : mA m = none := RelO.none_of (by rw [← l]; exact r m)
  exact get_meth I.kIn O (c.get m) k.at_ k.fn hn h

theorem setattr_ok {y : V} {u : Value} {Q : Unit → Shared → Prop} (I : Inv X pins σ H s) (e : H a = some (.ins C dx fs)) (c : Cls X.K C) (n : NoAttr X.K C f) (hl : fs.length < 1000) (ry : RelV y u)
    (h : ∀ s', Inv X pins σ (upd H a (.ins C dx (putF f y fs))) s' → Q () s') : wpAny (model X.prog X.w) A (setAttr (.ref a) f u) Q E s := by
  obtain ⟨mA, O, r, wi, _, ho⟩ := ins_get I.hok e
  have hz : (fs.map (·.1)).length ≤ sizeLine := by rw [List.length_map, sizeLine_eq]; omega
  refine set_map I.kIn O c.sa c.po n.taker c.hd wi hz fun h' O' sb => h _ ?_
  have hd : ∃ o, h'.get? dx = some o := let ⟨o, _, _, e', _⟩ := O'.ns; ⟨o, e'⟩
  refine I.write (x := a) (e := dx) (by rw [e]; exact True.intro) (.inr ho) (fun b q hb z => (sb.2 b hb).trans z) hd ?_
  refine ⟨by rw [upd_ne O.ne]; exact ho, ?_, O.ne, O'.obj, _, O'.ns, fun g => ?_, fun g hg => ?_⟩
  · have := length_putF f y fs; omega
  · show RelO ((putF f y fs).lookup g) (if g = f then some u else mA g)
    rw [lookup_putF]
    by_cases q : g = f
    · rw [if_pos q, if_pos q]; exact ry
    · rw [if_neg q, if_neg q]; exact r g
  · by_cases q : g = f
    · rw [q]; exact (keys_putF f y fs).1
    · refine (keys_putF f y fs).2 g (wi g fun z => hg ?_)
      show (if g = f then some u else mA g) = none
      rw [if_neg q]; exact z

/-- a new instance, tracked, without attributes -/
theorem Inv.made (I : Inv X pins σ H s) : Inv X pins σ (upd (upd H s.heap.objs.size (.own (s.heap.objs.size + 1))) (s.heap.objs.size + 1) (.ins C s.heap.objs.size []))
    { s with heap := (s.heap.push PySem.W.emptyDict).push (PySem.W.instObj C s.heap.objs.size) } := by
  have e1 : (s.heap.push PySem.W.emptyDict).get? s.heap.objs.size = some PySem.W.emptyDict := Heap.get?_push_size s.heap rfl
  have e2 : ((s.heap.push PySem.W.emptyDict).push (PySem.W.instObj C s.heap.objs.size)).get? (s.heap.objs.size + 1) = some (PySem.W.instObj C s.heap.objs.size) := by
    have := Heap.get?_push_size (s.heap.push PySem.W.emptyDict) (o := PySem.W.instObj C s.heap.objs.size) rfl
    rwa [Heap.size_push] at this
  have e3 : (s.heap.push PySem.W.emptyDict).Ns s.heap.objs.size (fun _ => none) := ⟨PySem.W.emptyDict, #[], _, e1, rfl, (fun e he => absurd he (by simp)), fun _ => rfl⟩
  have I1 := I.laid (a := s.heap.objs.size) (o := .own (s.heap.objs.size + 1)) (h' := s.heap.push PySem.W.emptyDict) (t' := s.toks) (fun b u q => Heap.get?_push_of_some _ q) (Nat.le_refl _) ⟨_, e1⟩
  refine I1.laid (a := s.heap.objs.size + 1) (o := .ins C s.heap.objs.size []) (t' := s.toks) (fun b u q => Heap.get?_push_of_some _ q) (Nat.le_of_eq (Heap.size_push _ _)) ?_
  have ne : s.heap.objs.size ≠ s.heap.objs.size + 1 := Nat.ne_of_lt (Nat.lt_succ_self _)
  refine ⟨by rw [upd_ne ne, upd_same], Nat.zero_le _, ne, e2, fun _ => none, (Heap.Ns1.of_empty e3).at fun o q => Heap.get?_push_of_some _ q, fun _ => True.intro, fun y hy => absurd rfl hy⟩

/-- e.f where nothing but the object is asked: through attributeBase (super) and the last hold -/
theorem attr_of {prog : Program} {w : World} {env : Env} {e : Expr} {f : Str} {pos : Pos} {s : Shared} {Q : Value → Shared → Prop} (hb : attributeBase e f env (eval e env) = eval e env)
    (h : wpAny (model prog w) A (eval e env) (fun o s₁ => wpAny (model prog w) A (getAttr o f true) Q E s₁) E s) : wpAny (model prog w) A (eval (.Attribute e f pos) env) Q E s :=
  Attribute_any_ h (by rw [arm_eval_Attribute, hb])
end

/-! ### readings and rules -/
/-- e.f, an attribute of the instance -/
def tFld (K : PySem.W.Frag) (ta : TE) (f : Str) : TE := fun σ H Q => ta σ H fun x H1 => ∃ a C dx fs v, x = .ref a ∧ H1 a = some (.ins C dx fs) ∧ Cls K C ∧ NoAttr K C f ∧ fs.lookup f = some v ∧ Q v H1
/-- e.f = value -/
def sFld (K : PySem.W.Frag) (ta tv : TE) (f : Str) : TS := fun D σ H => tv σ H fun y H1 => ta σ H1 fun x H2 => ∃ a C dx fs, x = .ref a ∧ H2 a = some (.ins C dx fs) ∧ Cls K C ∧ NoAttr K C f ∧ fs.length < 1000 ∧
  D.nx σ (upd H2 a (.ins C dx (putF f y fs)))

section
variable {X : Cx} {o e value : Expr} {f : Str} {pos pos' tpos : Pos} {ta tv : TE}
theorem pe_fld (he : PE X e ta) (hb : attributeBase e f X.env (eval e X.env) = eval e X.env) : PE X (.Attribute e f pos) (tFld X.K ta f) := by
  intro pins s σ H Q I h
  refine attr_of hb (thn (he pins s σ H _ I h) fun u s1 ⟨x, H1, I1, rx, a, C, dx, fs, v, ex, ea, c, n, l, q⟩ => ?_)
  subst ex
  obtain rfl : u = Value.ref a := rx
  exact getattr_ok I1 ea c n l fun u' s2 I2 ru => ⟨v, H1, I2, ru, q⟩
theorem ps_fld (ha : PE X o ta) (hv : PE X value tv) (hs : swapsWith value (some (.Attribute o f pos')) pos.line X.env = pure false) : PS X (.Assign [.Attribute o f pos'] value pos) (sFld X.K ta tv f) := by
  intro pins s σ H D I h
  refine plainObj_wpAny_Assign_Attribute (thn (hv pins s σ H _ I h) fun u s1 ⟨y, H1, I1, ry, q⟩ => thn (ha pins s1 σ H1 _ I1 q) fun ov s2 ⟨x, H2, I2, rx, a, C, dx, fs, ex, ea, c, n, l, q2⟩ => ?_) hs
  subst ex
  obtain rfl : ov = Value.ref a := rx
  exact setattr_ok I2 ea c n l ry fun s3 I3 => ⟨σ, _, I3, q2⟩

end

/-! ### isinstance -/
section
variable {X : Cx} {pins : List (Addr × Obj)} {σ : St} {H : Hp} {s : Shared} {A : Around} {E : Value → Shared → Prop} {Q : Value → Shared → Prop} {c : Value} {b : Bool}
/-- the type of a value, as the fragment's deciders take it; for an instance its class -/
inductive TyOf (K : PySem.W.Frag) (H : Hp) : V → Value → Prop where
  | non : TyOf K H .non (.type "NoneType")
  | bl (x : Bool) : TyOf K H (.bl x) (.type "bool")
  | int (i : Int) : TyOf K H (.int i) (.type "int")
  | str (x : Str) : TyOf K H (.str x) (.type "str")
  | flt (x : UInt64) : TyOf K H (.flt x) (.type "float")
  | lst {a : Addr} {xs : List V} (e : H a = some (.lst xs)) : TyOf K H (.ref a) (.type "list")
  | frz {a : Addr} {o : Obj} {xs : List V} (e : H a = some (.frz o (.lst xs))) : TyOf K H (.ref a) (.type "list")
  | tup {a : Addr} {xs : List V} (e : H a = some (.tup xs)) : TyOf K H (.ref a) (.type "tuple")
  | dK {a : Addr} {kvs : List (Key × V)} (e : H a = some (.dK kvs)) : TyOf K H (.ref a) (.type "dict")
  | dT {a : Addr} {kvs : List (List Key × V)} (e : H a = some (.dT kvs)) : TyOf K H (.ref a) (.type "dict")
  | ins {a C dx : Addr} {fs : List (Str × V)} (e : H a = some (.ins C dx fs)) (cl : Cls K C) (ha : PySem.W.findIn K (.ref C) "__class__" = some (some (.builtin "object.__class__")))
      (hn : PySem.W.specialIn K (.builtin "object.__class__") "__get__" = some (some (.builtin "getset_descriptor.__get__"))) (htk : PySem.W.takesIn K (.builtin "object.__class__") = some true)
      (hm : PySem.W.mroIn K C (.type "object") = some true) : TyOf K H (.ref a) (.ref C)
/-- isinstance(x, c) for one class c, a built-in or an own one: kitOne's answer -/
theorem isinst_ok {x : V} {u t : Value} (I : Inv X pins σ H s) (rx : RelV x u) (ty : TyOf X.K H x t) (e : PySem.W.kitOne X.K t c = some b) (h : ∀ tk, Q (.bool b) { s with toks := tk }) :
    wpAny (model X.prog X.w) A (call (.builtin "isinstance") [u, c]) Q E s := by
  cases ty with
  | non => cases (show u = Value.none from rx); exact PySem.W.kia_one PySem.W.kitx_none I.kIn True.intro e (fun z => nomatch z) h
  | bl y => cases (show u = Value.bool y from rx); exact PySem.W.kia_one PySem.W.kitx_bool I.kIn True.intro e (fun z => nomatch z) h
  | int i => obtain ⟨t, q⟩ := (show ∃ t, u = Value.int i t from rx); cases q; exact PySem.W.kia_one PySem.W.kitx_int I.kIn True.intro e (fun z => nomatch z) h
  | str y => obtain ⟨t, q⟩ := (show ∃ t, u = Value.str y t from rx); cases q; exact PySem.W.kia_one PySem.W.kitx_str I.kIn True.intro e (fun z => nomatch z) h
  | flt y => obtain ⟨t, q⟩ := (show ∃ t, u = Value.float y t from rx); cases q; exact PySem.W.kia_one PySem.W.kitx_float I.kIn True.intro e (fun z => nomatch z) h
  | @lst a xs ea =>
    cases (show u = Value.ref a from rx)
    obtain ⟨_, _, n, _, h1⟩ := (show ObjOk X.prog X.w H s.heap a (.lst xs) from I.hok a _ ea)
    exact PySem.W.kia_one PySem.W.kitx_list I.kIn ⟨_, h1, rfl⟩ e (fun z => nomatch z) h
  | @frz a ob xs ea =>
    cases (show u = Value.ref a from rx)
    obtain ⟨_, _, _, n, _, h1⟩ := (show ObjOk X.prog X.w H s.heap a (.frz ob (.lst xs)) from I.hok a _ ea)
    exact PySem.W.kia_one PySem.W.kitx_list I.kIn ⟨_, h1, rfl⟩ e (fun z => nomatch z) h
  | @tup a xs ea =>
    cases (show u = Value.ref a from rx)
    obtain ⟨_, _, _, p⟩ := (show ObjOk X.prog X.w H s.heap a (.tup xs) from I.hok a _ ea)
    obtain ⟨o, h1, h2, _⟩ := p
    exact PySem.W.kia_one PySem.W.kitx_tuple I.kIn ⟨o, h1, h2⟩ e (fun z => nomatch z) h
  | @dK a kvs ea =>
    cases (show u = Value.ref a from rx)
    obtain ⟨_, _, vs, _, p⟩ := (show ObjOk X.prog X.w H s.heap a (.dK kvs) from I.hok a _ ea)
    obtain ⟨o, es, ep, h1, h2, _⟩ := p
    exact PySem.W.kia_one PySem.W.kitx_dict I.kIn ⟨o, h1, h2.1⟩ e (fun z => nomatch z) h
  | @dT a kvs ea =>
    cases (show u = Value.ref a from rx)
    obtain ⟨_, _, xs, _, o, es, ep, h1, h2, _⟩ := (show ObjOk X.prog X.w H s.heap a (.dT kvs) from I.hok a _ ea)
    exact PySem.W.kia_one PySem.W.kitx_dict I.kIn ⟨o, h1, h2.1⟩ e (fun z => nomatch z) h
  | @ins a C dx fs ea cl ha hn htk hm =>
    cases (show u = Value.ref a from rx)
    obtain ⟨mA, O, _⟩ := ins_get I.hok ea
    obtain ⟨od, J, _⟩ := O.look
    exact PySem.W.kia_one (PySem.W.kitx_own (cl.get _) cl.hd ha hn htk hm) I.kIn J e (fun z => nomatch z) h
end
end L2

namespace L2
open PySem PySem.Spec PyProof.Rows

/-! ### room -/
structure Room (k : Nat) (A : Around) : Prop where
  hd : A.handled = none
  dp : A.depth + 3 * k + 5 < recursionLimit
  un : A.units + 16 * k + 200 < cLine
theorem Room.mono {j k : Nat} {A : Around} (r : Room k A) (h : j ≤ k) : Room j A := ⟨r.hd, by have := r.dp; omega, by have := r.un; omega⟩
theorem Room.deeper {k : Nat} {A : Around} (r : Room (k + 1) A) (env : Env) : Room k (A.deeper env) :=
  ⟨r.hd, by have := r.dp; show A.depth + 1 + 3 * k + 5 < _; omega, by have := r.un; show A.units + 3 + 16 * k + 200 < _; omega⟩
theorem Room.in1 {k : Nat} {A : Around} (r : Room (k + 1) A) : Room k A.in1 :=
  ⟨r.hd, by have := r.dp; show A.depth + 3 * k + 5 < _; omega, by have := r.un; show A.units + 1 + 16 * k + 200 < _; omega⟩
theorem make_depth {A : Around} {C : Addr} {us : List Value} {kw : List (Str × Value)} : (A.under (.builtin "type.__call__" ⟨.ref C :: us, kw⟩)).depth = A.depth + 1 := by
  first | rfl | simp [Around.under, Code.weight, Code.isCreation, Code.isGuard, Code.isCaller, Code.frames, Code.isFrame, guardIds]
theorem make_units {A : Around} {C : Addr} {us : List Value} {kw : List (Str × Value)} : (A.under (.builtin "type.__call__" ⟨.ref C :: us, kw⟩)).units = A.units + 1 := by
  first | rfl | simp [Around.under, Code.cUnits, Code.frames, Code.isFrame]
theorem Room.make {k : Nat} {A : Around} (r : Room (k + 1) A) (C : Addr) (us : List Value) (kw : List (Str × Value)) : Room k (A.under (.builtin "type.__call__" ⟨.ref C :: us, kw⟩)) :=
  ⟨r.hd, by have := r.dp; rw [make_depth]; omega, by have := r.un; rw [make_units]; omega⟩
theorem Room.depth {k : Nat} {A : Around} (r : Room k A) : A.depth < recursionLimit := by have := r.dp; omega
theorem Room.units {k : Nat} {A : Around} (r : Room k A) : A.units + 64 < cLine := by have := r.un; omega

/-! ### argument lists and displays -/
def tNil : TA := fun _ H Q => Q [] H
def tCons (ta : TE) (tr : TA) : TA := fun σ H Q => ta σ H fun x H1 => tr σ H1 fun xs H2 => Q (x :: xs) H2
section
variable {X : Cx} {e : Expr} {es : List Expr} {te : TE} {t : TA} {pos : Pos}
theorem pa_nil : PA X [] tNil := fun _ _ _ _ H Q I h => Calls.spliced_nil ⟨[], H, I, .nil, h⟩
theorem pa_cons (ha : PE X e te) (hr : PA X es t) (hs : starEach (e :: es) X.env = (false, eval e X.env) :: starEach es X.env := by rfl) : PA X (e :: es) (tCons te t) := by
  intro pos pins s σ H Q I h
  rw [hs]
  show wpAny _ _ (spliced ((false, eval e X.env) :: backTo pos (starEach es X.env))) _ _ s
  refine Calls.spliced_cons (thn (ha pins s σ H _ I h) fun u s1 ⟨x, H1, I1, r1, q1⟩ => ?_)
  exact thn (hr pos pins s1 σ H1 _ I1 q1) fun us s2 ⟨xs, H2, I2, r2, q2⟩ => ⟨x :: xs, H2, I2, .cons r1 r2, q2⟩

/-- a tuple, a list of written items -/
def tTup (t : TA) : TE := fun σ H Q => t σ H fun xs H1 => xs.length ≤ sizeLine ∧ ∀ p, H1 p = none → Q (.ref p) (upd H1 p (.tup xs))
def tLst (t : TA) : TE := fun σ H Q => t σ H fun xs H1 => xs.length ≤ sizeLine ∧ ∀ p, H1 p = none → Q (.ref p) (upd H1 p (.lst xs))
theorem pe_tup {x1} (h : PA X es t) : PE X (.Tuple es x1 pos) (tTup t) := by
  intro pins s σ H Q I hq
  refine wpAny_Tuple_spliced (thn (h pos pins s σ H _ I hq) fun us s1 ⟨xs, H1, I1, r, z, q⟩ => ⟨by rw [← r.length]; exact z, ?_⟩)
  have hf : H1 s1.heap.objs.size = none := I1.hok.fresh (Nat.le_refl _)
  refine ⟨.ref s1.heap.objs.size, upd H1 s1.heap.objs.size (.tup xs), I1.laid (t' := s1.toks) (fun b u e => Heap.get?_push_of_some _ e) (Nat.le_refl _) ?_, rfl, q _ hf⟩
  exact ⟨z, us, r, ⟨_, Heap.get?_push_size _ rfl, rfl, _, rfl⟩⟩
theorem pe_lst (h : PA X es t) : PE X (.List es pos) (tLst t) := by
  intro pins s σ H Q I hq
  refine wpAny_List_spliced (thn (h pos pins s σ H _ I hq) fun us s1 ⟨xs, H1, I1, r, z, q⟩ => ⟨by rw [← r.length]; exact z, ?_⟩)
  have hf : H1 s1.heap.objs.size = none := I1.hok.fresh (Nat.le_refl _)
  refine ⟨.ref s1.heap.objs.size, upd H1 s1.heap.objs.size (.lst xs), I1.laid (t' := s1.toks) (fun b u e => Heap.get?_push_of_some _ e) (Nat.le_refl _) ?_, rfl, q _ hf⟩
  exact ⟨z, us, 0, r, Heap.get?_push_size _ rfl⟩
end

/-! ### what a def promises -/
/-- a def's promise: the bound arguments in the parameters' order, the heap, the wanted end, the wanted exception -/
abbrev Sp := List V → Hp → VK → XK → Prop
/-- how an exception lies behind a call (file 08 gives it): the callers' frames, abstract heap and state ahead of the call, the wish, the exception, the state -/
abbrev CXT := List Env → Hp → Shared → XK → Value → Shared → Prop

/-- the state at a call -/
structure Env0 (P : Program) (w : World) (K : PySem.W.Frag) (mg : Str → Option Value) (base : Heap) (A : Around) (outer : List Env) (s : Shared) (H : Hp) : Prop where
  frames : A.frames = some outer
  mod : Mod K mg base
  bs : ∀ b o, base.get? b = some o → s.heap.get? b = some o ∧ H b = none
  bsz : base.objs.size ≤ s.heap.objs.size
  funs : s.heap.FunFrames base outer
  frf : ∀ b ∈ frs outer, H b = none
  hok : HOk P w H s.heap
  bare : AllBare s.gens
/-- a call's end -/
def CE (outer : List Env) (P : Program) (w : World) (H : Hp) (s : Shared) (Q : VK) (u : Value) (s' : Shared) : Prop :=
  ∃ v H', s'.os = s.os ∧ AllBare s'.gens ∧ Un (frs outer) [] H H' s.heap s'.heap ∧ HOk P w H' s'.heap ∧ RelV v u ∧ Q v H'
def CR (CX : CXT) (outer : List Env) (P : Program) (w : World) (H : Hp) (s : Shared) (Q : VK) (E : XK) (r : Result) (s' : Shared) : Prop :=
  match r with
  | .ok (.ret u) => CE outer P w H s Q u s'
  | .ok _ => False
  | .error e => CX outer H s E e s'
structure FnOk (P : Program) (w : World) (K : PySem.W.Frag) (mg : Str → Option Value) (base : Heap) (CX : CXT) (k : Nat) (f : Addr) (fd : FuncData) (ps : List Str) (sp : Sp) : Prop where
  len : ∀ vs H Q E, sp vs H Q E → vs.length = ps.length
  run : ∀ (A : Around) (outer : List Env) (s : Shared) (H : Hp) (args : Args) (us : List Value) (vs : List V) (Q : VK) (E : XK), Room k A → Env0 P w K mg base A outer s H → BindsTo s fd args (ps.zip us) → Vals vs us → sp vs H Q E →
    codeAny (model P w) A (.call (.ref f) args) (CR CX outer P w H s Q E) s
theorem FnOk.mono {P : Program} {w : World} {K : PySem.W.Frag} {mg : Str → Option Value} {base : Heap} {CX : CXT} {j k : Nat} {f : Addr} {fd : FuncData} {ps : List Str} {sp : Sp} (F : FnOk P w K mg base CX j f fd ps sp) (h : j ≤ k) :
    FnOk P w K mg base CX k f fd ps sp := ⟨F.len, fun A outer s H args us vs Q E hr => F.run A outer s H args us vs Q E (hr.mono h)⟩
/-- a weaker promise -/
theorem FnOk.imp {P : Program} {w : World} {K : PySem.W.Frag} {mg : Str → Option Value} {base : Heap} {CX : CXT} {k : Nat} {f : Addr} {fd : FuncData} {ps : List Str} {sp sp' : Sp} (F : FnOk P w K mg base CX k f fd ps sp)
    (h : ∀ vs H Q E, sp' vs H Q E → sp vs H Q E) : FnOk P w K mg base CX k f fd ps sp' :=
  ⟨fun vs H Q E q => F.len vs H Q E (h _ _ _ _ q), fun A outer s H args us vs Q E hr he hb hv hs => F.run A outer s H args us vs Q E hr he hb hv (h _ _ _ _ hs)⟩

theorem Env0.make {P : Program} {w : World} {K : PySem.W.Frag} {mg : Str → Option Value} {base : Heap} {A : Around} {outer : List Env} {s : Shared} {H : Hp} (e : Env0 P w K mg base A outer s H) (C : Addr) (us : List Value) (kw : List (Str × Value)) :
    Env0 P w K mg base (A.under (.builtin "type.__call__" ⟨.ref C :: us, kw⟩)) outer s H := ⟨by first | exact e.frames | (simpa [Around.under, Code.envs, Code.isFrame, pushEnvs] using e.frames), e.mod, e.bs, e.bsz, e.funs, e.frf, e.hok, e.bare⟩
theorem Env0.in1 {P : Program} {w : World} {K : PySem.W.Frag} {mg : Str → Option Value} {base : Heap} {A : Around} {outer : List Env} {s : Shared} {H : Hp} (e : Env0 P w K mg base A outer s H) :
    Env0 P w K mg base A.in1 outer s H := ⟨e.frames, e.mod, e.bs, e.bsz, e.funs, e.frf, e.hok, e.bare⟩

section
variable {X : Cx} {pins : List (Addr × Obj)} {σ : St} {H : Hp} {s s' : Shared}
/-- from a body: what a callee wants -/
theorem Inv.env0 (I : Inv X pins σ H s) : Env0 X.prog X.w X.K X.mg X.base X.A X.stack s H :=
  ⟨I.ok.frames, I.ok.mod, I.bs, Nat.le_trans I.ok.bsz I.sz, I.stack, I.stkFree, I.hok, I.bare⟩
/-- behind a call -/
theorem Inv.after {Q : VK} {u : Value} (I : Inv X pins σ H s) (h : CE X.stack X.prog X.w H s Q u s') : EP X pins σ Q u s' := by
  obtain ⟨v, H', os, bare, un, hok, r, q⟩ := h
  obtain ⟨hh, g, d, t, os'⟩ := s'
  obtain rfl : os' = s.os := os
  exact ⟨v, H', I.call (h' := hh) (g' := g) (d' := d) (t' := t) (ch := []) un hok bare (fun b z => absurd z (by simp)), r, q⟩
end

/-! ### calls -/
/-- f(..): the written arguments, then the defaults dvs; E: what is wanted of an exception -/
def tCall (sp : Sp) (dvs : List V) (E : XK) (t : TA) : TE := fun σ H Q => t σ H fun vs H1 => sp (vs ++ dvs) H1 Q E
/-- o.m(..) of an instance of the class at C -/
def tMeth (C : Addr) (m : Str) (sp : Sp) (dvs : List V) (E : XK) (ta : TE) (t : TA) : TE := fun σ H Q => ta σ H fun x H1 => ∃ a dx fs, x = .ref a ∧ H1 a = some (.ins C dx fs) ∧ fs.lookup m = none ∧
  t σ H1 fun vs H2 => sp (x :: (vs ++ dvs)) H2 Q E
/-- C(..): a new instance and its dict, then __init__ -/
def tMake (C : Addr) (sp : Sp) (dvs : List V) (E : XK) (t : TA) : TE := fun σ H Q => t σ H fun vs H1 => ∀ x dx, H1 x = none → H1 dx = none → dx ≠ x →
  sp (.ref x :: (vs ++ dvs)) (upd (upd H1 dx (.own x)) x (.ins C dx [])) (fun v H2 => v = .non ∧ Q (.ref x) H2) E

/-- how the parameters are bound: us the positional arguments, kw the keywords' values by name, ds the defaults that fill up -/
def Binds (K : PySem.W.Frag) (fd : FuncData) (ps : List Str) (ds : List Value) : Prop :=
  ∀ (s : Shared) (us : List Value), K.In s.heap → (us ++ ds).length = ps.length → BindsTo s fd ⟨us, []⟩ (ps.zip (us ++ ds))
/-- every parameter is given -/
theorem Binds.all {K : PySem.W.Frag} {fd : FuncData} {ps : List Str} (h : ∀ us : List Value, us.length = ps.length → bindArgs fd ⟨us, []⟩ = pure (ps.zip us)) : Binds K fd ps [] := fun s us _ hl => by
  rw [List.append_nil] at hl ⊢
  exact .of_eq (h us hl)

/-- an exception of a callee reaches what this body wants of exceptions -/
def Passes (CX : CXT) (X : Cx) (E : XK) : Prop := ∀ (pins : List (Addr × Obj)) (σ : St) (H : Hp) (s : Shared) (e : Value) (s' : Shared), Inv X pins σ H s → CX X.stack H s E e s' → X.xe e s'

section
variable {X : Cx} {CX : CXT} {k : Nat} {f C : Addr} {fd : FuncData} {ps : List Str} {sp : Sp} {dvs : List V} {ds : List Value} {E : XK} {x m : Str} {p pos apos : Pos} {e o : Expr} {es : List Expr} {ta : TE} {t : TA}

/-- the callee runs -/
theorem run_fn {pins : List (Addr × Obj)} {σ : St} {H : Hp} {s : Shared} {Q : VK} {us : List Value} {vs : List V} (F : FnOk X.prog X.w X.K X.mg X.base CX k f fd ps sp) (hr : Room k X.A) (hb : Binds X.K fd ps ds) (hd : Vals dvs ds) (hx : Passes CX X E)
    (I : Inv X pins σ H s) (r : Vals vs us) (h : sp (vs ++ dvs) H Q E) : wpAny (model X.prog X.w) X.A (call (.ref f) us) (EP X pins σ Q) X.xe s := by
  have r2 : Vals (vs ++ dvs) (us ++ ds) := r.append hd
  have hl : (us ++ ds).length = ps.length := by rw [← r2.length]; exact F.len _ _ _ _ h
  refine wpAny_call (codeAny_mono (F.run X.A X.stack s H ⟨us, []⟩ (us ++ ds) (vs ++ dvs) Q E hr I.env0 (hb s us I.kIn hl) r2 h) fun r s' hq => ?_)
  cases r with
  | error e => exact hx pins σ H s e s' I hq
  | ok fl =>
    cases fl with
    | ret u => exact I.after hq
    | next => exact False.elim hq
    | brk => exact False.elim hq
    | cont => exact False.elim hq

theorem pe_call (F : FnOk X.prog X.w X.K X.mg X.base CX k f fd ps sp) (hr : Room k X.A) (hg : Gl X x) (hm : X.mg x = some (.ref f)) (hk : PySem.W.keepIn X.K (.ref f) = true) (hb : Binds X.K fd ps ds) (hd : Vals dvs ds) (hx : Passes CX X E)
    (ha : PA X (e :: es) t) (hdb : (x == ("__debug__" : Str)) = false := by decide) (he : starEach (e :: es) X.env = (false, eval e X.env) :: starEach es X.env := by rfl) (hpl : (backTo pos (starEach es X.env)).any (·.1) = false := by rfl) :
    PE X (.Call (.Name x p) (e :: es) [] pos) (tCall sp dvs E t) := by
  intro pins s σ H Q I h
  refine wpAny_Call_Name_kw (ld_glob I hg hm ?_ hdb)
  refine PySem.W.callWith_K (h₀ := X.base) I.ok.mod.kin hk (thn (ha pos pins s σ H _ I h) fun us s1 ⟨vs, H1, I1, r, q⟩ => ⟨I1.kIn, ?_⟩) he hpl
  exact run_fn F hr hb hd hx I1 r q

/-- o.m(e, ..) -/
theorem pe_meth {pl : Sem Bool} (he : PE X o ta) (c : Cls X.K C) (hm : Meth X.K C m f) (F : FnOk X.prog X.w X.K X.mg X.base CX k f fd ps sp) (hr : Room k X.A) (hb : Binds X.K fd ps ds) (hd : Vals dvs ds) (hx : Passes CX X E) (ha : PA X (e :: es) t)
    (hst : starEach (e :: es) X.env = (false, eval e X.env) :: starEach es X.env := by rfl) (hpl : (backTo pos (starEach es X.env)).any (·.1) = false := by rfl)
    (ht : eval (.Call (.Attribute o m apos) (e :: es) [] pos) X.env = (do
      let ov ← eval o X.env
      standAt apos.atName
      let (f, first) ← holding [ov] (getMethod ov m pl)
      callWith pos f first (backTo pos (starEach (e :: es) X.env)) (backToKw pos (keywordEach [] X.env))) := by rfl) :
    PE X (.Call (.Attribute o m apos) (e :: es) [] pos) (tMeth C m sp dvs E ta t) := by
  intro pins s σ H Q I h
  refine PySem.W.methodCall_KW (pl := pl) (thn (he pins s σ H _ I h) fun u s1 ⟨x, H1, I1, rx, a, dx, fs, ex, ea, l, q⟩ => ?_) ht
  subst ex
  obtain rfl : u = Value.ref a := rx
  refine getmeth_ok I1 ea c hm l ?_
  refine PySem.W.callWith_K (first := [.ref a]) (h₀ := X.base) I.ok.mod.kin hm.kp (thn (ha pos pins s1 σ H1 _ I1 q) fun us s2 ⟨vs, H2, I2, r, q2⟩ => ⟨I2.kIn, ?_⟩) hst hpl
  exact run_fn (us := .ref a :: us) (vs := .ref a :: vs) F hr hb hd hx I2 (.cons rfl r) q2
/-- o.m() -/
theorem pe_meth0 {pl : Sem Bool} (he : PE X o ta) (c : Cls X.K C) (hm : Meth X.K C m f) (F : FnOk X.prog X.w X.K X.mg X.base CX k f fd ps sp) (hr : Room k X.A) (hb : Binds X.K fd ps ds) (hd : Vals dvs ds) (hx : Passes CX X E)
    (ht : eval (.Call (.Attribute o m apos) [] [] pos) X.env = (do
      let ov ← eval o X.env
      standAt apos.atName
      let (f, first) ← holding [ov] (getMethod ov m pl)
      callWith pos f first (backTo pos (starEach [] X.env)) (backToKw pos (keywordEach [] X.env))) := by rfl) :
    PE X (.Call (.Attribute o m apos) [] [] pos) (tMeth C m sp dvs E ta tNil) := by
  intro pins s σ H Q I h
  refine PySem.W.methodCall_KW (pl := pl) (thn (he pins s σ H _ I h) fun u s1 ⟨x, H1, I1, rx, a, dx, fs, ex, ea, l, q⟩ => ?_) ht
  subst ex
  obtain rfl : u = Value.ref a := rx
  refine getmeth_ok I1 ea c hm l ?_
  exact PySem.W.callWith_K0 (first := [.ref a]) I1.kIn hm.kp (run_fn (us := [.ref a]) (vs := [.ref a]) F hr hb hd hx I1 (.cons rfl .nil) q)

/-- what a class must have to be made -/
structure Mk (K : PySem.W.Frag) (C f : Addr) : Prop where
  makes : PySem.W.makesIn K C = true
  init : PySem.W.findIn K (.ref C) "__init__" = some (some (.ref f))
  fn : PySem.W.isFn K (.ref f) = true
  kp : PySem.W.keepIn K (.ref C) = true

theorem run_make {pins : List (Addr × Obj)} {σ : St} {H : Hp} {s : Shared} {Q : VK} {us : List Value} {vs : List V} (M : Mk X.K C f) (F : FnOk X.prog X.w X.K X.mg X.base CX k f fd ps sp) (hr : Room (k + 1) X.A) (hb : Binds X.K fd ps ds) (hd : Vals dvs ds)
    (hx : Passes CX X E) (I : Inv X pins σ H s) (r : Vals vs us)
    (h : ∀ x dx, H x = none → H dx = none → dx ≠ x → sp (.ref x :: (vs ++ dvs)) (upd (upd H dx (.own x)) x (.ins C dx [])) (fun v H2 => v = .non ∧ Q (.ref x) H2) E) :
    wpAny (model X.prog X.w) X.A (call (.ref C) us) (EP X pins σ Q) X.xe s := by
  have hq := h (s.heap.objs.size + 1) s.heap.objs.size (I.hok.fresh (Nat.le_succ _)) (I.hok.fresh (Nat.le_refl _)) (Nat.ne_of_lt (Nat.lt_succ_self _))
  have I2 := Inv.made (C := C) I
  have r2 : Vals (V.ref (s.heap.objs.size + 1) :: (vs ++ dvs)) (Value.ref (s.heap.objs.size + 1) :: (us ++ ds)) := .cons rfl (r.append hd)
  have hl : (Value.ref (s.heap.objs.size + 1) :: us ++ ds).length = ps.length := by
    have e := r2.length
    rw [F.len _ _ _ _ hq] at e
    exact e.symm
  refine wpAny_call (make_map (f := f) I.kIn M.makes M.init (beq_iff_eq.mp M.fn) (codeAny_mono (F.run _ X.stack _ _ ⟨Value.ref (s.heap.objs.size + 1) :: us, []⟩ (Value.ref (s.heap.objs.size + 1) :: (us ++ ds)) _ _ E (hr.make C us [])
    (I2.env0.make C us []) (hb _ (Value.ref (s.heap.objs.size + 1) :: us) I2.kIn hl) r2 hq) fun r s' hq' => ?_))
  cases r with
  | error e => exact hx pins σ _ _ e s' I2 hq'
  | ok fl =>
    cases fl with
    | ret u =>
      obtain ⟨v, H', I3, rv, ev, q3⟩ := I2.after hq'
      subst ev
      exact ⟨rv, ⟨V.ref (s.heap.objs.size + 1), H', I3, rfl, q3⟩⟩
    | next => exact False.elim hq'
    | brk => exact False.elim hq'
    | cont => exact False.elim hq'
theorem pe_make (M : Mk X.K C f) (F : FnOk X.prog X.w X.K X.mg X.base CX k f fd ps sp) (hr : Room (k + 1) X.A) (hg : Gl X x) (hm : X.mg x = some (.ref C)) (hb : Binds X.K fd ps ds) (hd : Vals dvs ds) (hx : Passes CX X E)
    (ha : PA X (e :: es) t) (hdb : (x == ("__debug__" : Str)) = false := by decide) (he : starEach (e :: es) X.env = (false, eval e X.env) :: starEach es X.env := by rfl) (hpl : (backTo pos (starEach es X.env)).any (·.1) = false := by rfl) :
    PE X (.Call (.Name x p) (e :: es) [] pos) (tMake C sp dvs E t) := by
  intro pins s σ H Q I h
  refine wpAny_Call_Name_kw (ld_glob I hg hm ?_ hdb)
  refine PySem.W.callWith_K (h₀ := X.base) I.ok.mod.kin M.kp (thn (ha pos pins s σ H _ I h) fun us s1 ⟨vs, H1, I1, r, q⟩ => ⟨I1.kIn, ?_⟩) he hpl
  exact run_make M F hr hb hd hx I1 r q
end

/-! ### keywords -/
section
variable {X : Cx} {CX : CXT} {k : Nat} {f C : Addr} {fd : FuncData} {ps ks : List Str} {sp : Sp} {E : XK} {x m : Str} {p pos apos kpos : Pos} {e o : Expr} {es : List Expr} {kws : List Keyword} {te ta : TE} {t tk : TA} {nm : Option Str}

/-- how a call with keywords binds: g puts the positional values us and the keywords' values ws (names ks) in the parameters' order, defaults among them -/
structure KBinds (K : PySem.W.Frag) (fd : FuncData) (ps ks : List Str) (g : List Value → List Value → List Value) (gV : List V → List V → List V) : Prop where
  to : ∀ (s : Shared) (us ws : List Value), K.In s.heap → (g us ws).length = ps.length → BindsTo s fd ⟨us, ks.zip ws⟩ (ps.zip (g us ws))
  rel : ∀ {vs : List V} {us : List Value} {zs : List V} {ws : List Value}, Vals vs us → Vals zs ws → Vals (gV vs zs) (g us ws)
variable {g : List Value → List Value → List Value} {gV : List V → List V → List V}
end

/-! ### a def's body keeps its promise -/
/-- names: the parameters first -/
structure FnScope (N P : List Str) (sc : Scope) : Prop where
  kind : sc.kind = .function
  co : sc.isCoroutine = false
  gen : sc.isGenerator = false
  nd : N.Nodup
  pre : N.take P.length = P
  par : ∀ x ∈ P, sc.names.lookup x = some .local ∨ sc.names.lookup x = some .cell
  nofree : ∀ y ∈ sc.names, y.2 ≠ .free

theorem bindL_out {kindOf : Str → Option NameKind} {x : Str} : ∀ {binds : List (Str × Value)} {m : Str → Option Value}, (∀ v, (x, v) ∉ binds) → bindL kindOf binds m x = m x
  | [], _, _ => rfl
  | (n, v) :: r, m, h => by
    unfold bindL
    rw [bindL_out fun w hw => h w (List.mem_cons_of_mem _ hw)]
    split
    · have : x ≠ n := by rintro rfl; exact h v List.mem_cons_self
      simp [this]
    · rfl
theorem bindC_out {kindOf : Str → Option NameKind} {x : Str} : ∀ {binds : List (Str × Value)} {m : Str → Option Value}, (∀ v, (x, v) ∉ binds) → bindC kindOf binds m x = m x
  | [], _, _ => rfl
  | (n, v) :: r, m, h => by
    unfold bindC
    rw [bindC_out fun w hw => h w (List.mem_cons_of_mem _ hw)]
    split
    · rfl
    · have : x ≠ n := by rintro rfl; exact h v List.mem_cons_self
      simp [this]
theorem bindL_get {kindOf : Str → Option NameKind} {x : Str} {v : Value} : ∀ {P : List Str} {vs : List Value} {i : Nat} {m : Str → Option Value}, P.Nodup → P[i]? = some x → vs[i]? = some v → kindOf x = some .local →
    bindL kindOf (P.zip vs) m x = some v
  | [], _, _, _, _, h, _, _ => by simp at h
  | _ :: _, [], _, _, _, _, h, _ => by simp at h
  | p :: P, w :: vs, 0, m, nd, h1, h2, hk => by
    simp at h1 h2; subst h1; subst h2
    show bindL kindOf ((p, w) :: P.zip vs) m p = _
    unfold bindL
    rw [bindL_out fun v hv => (List.nodup_cons.mp nd).1 (List.of_mem_zip hv).1, if_pos hk]
    simp
  | p :: P, w :: vs, i + 1, m, nd, h1, h2, hk => by
    show bindL kindOf ((p, w) :: P.zip vs) m x = _
    unfold bindL
    exact bindL_get (i := i) (List.nodup_cons.mp nd).2 (by simpa using h1) (by simpa using h2) hk
theorem bindC_get {kindOf : Str → Option NameKind} {x : Str} {v : Value} : ∀ {P : List Str} {vs : List Value} {i : Nat} {m : Str → Option Value}, P.Nodup → P[i]? = some x → vs[i]? = some v → kindOf x ≠ some .local →
    bindC kindOf (P.zip vs) m x = some v
  | [], _, _, _, _, h, _, _ => by simp at h
  | _ :: _, [], _, _, _, _, h, _ => by simp at h
  | p :: P, w :: vs, 0, m, nd, h1, h2, hk => by
    simp at h1 h2; subst h1; subst h2
    show bindC kindOf ((p, w) :: P.zip vs) m p = _
    unfold bindC
    rw [bindC_out fun v hv => (List.nodup_cons.mp nd).1 (List.of_mem_zip hv).1, if_neg hk]
    simp
  | p :: P, w :: vs, i + 1, m, nd, h1, h2, hk => by
    show bindC kindOf ((p, w) :: P.zip vs) m x = _
    unfold bindC
    exact bindC_get (i := i) (List.nodup_cons.mp nd).2 (by simpa using h1) (by simpa using h2) hk

/-- the names' values at the entry -/
def start (N : List Str) (vs : List V) : St := vs.map some ++ List.replicate (N.length - vs.length) none

/-- the context of a def's body, at its entry; an exception leaves the frame, then lies as CX says -/
def cxOf (CX : CXT) (P : Program) (w : World) (K : PySem.W.Frag) (mg : Str → Option Value) (base : Heap) (N : List Str) (qual : Str) (scope : Scope) (f : Addr) (cd : Value) (A : Around) (outer : List Env) (s : Shared) (H : Hp) (E : XK) : Cx where
  prog := P
  w := w
  K := K
  mg := mg
  base := base
  A := A.deeper (envOfC qual scope s.heap.objs.size f cd)
  N := N
  s₀ := s
  H₀ := H
  env := envOfC qual scope s.heap.objs.size f cd
  outer := outer
  stack := envOfC qual scope s.heap.objs.size f cd :: outer
  ex := []
  calm := true
  fn := fun _ => true
  pn := []
  xe := fun e s' => wpAny (model P w) (A.deeper (envOfC qual scope s.heap.objs.size f cd)) (leaving (envOfC qual scope s.heap.objs.size f cd) e) (fun _ s'' => CX outer H s E e s'') (fun e' s'' => CX outer H s E e' s'') s'

theorem cell_has {sc : Scope} {n : Nat} {x : Str} (h : sc.names.lookup x = some .cell) : ∃ c, (cellsFrom n sc.names []).lookup x = some c := by
  have q := PySem.W.cellsFrom_some sc.names n [] (.inl h)
  exact Option.isSome_iff_exists.mp q

theorem inv_start {CX : CXT} {P : Program} {w : World} {K : PySem.W.Frag} {mg : Str → Option Value} {base : Heap} {N ps : List Str} {qual : Str} {scope : Scope} {f : Addr} {cd : Value} {A : Around} {outer : List Env} {s s1 : Shared} {H : Hp} {E : XK} {us : List Value} {vs : List V}
    (S : FnScope N ps scope) (hd : A.handled = none) (e0 : Env0 P w K mg base A outer s H) (hl : vs.length = ps.length) (r : Vals vs us)
    (x : InCallC s s.heap.objs.size (bindL (envOfC qual scope s.heap.objs.size f cd).kindOf (ps.zip us) fun _ => none) (cellsFrom (s.heap.objs.size + 1) scope.names []) (bindC (envOfC qual scope s.heap.objs.size f cd).kindOf (ps.zip us) fun _ => none) s1) :
    Inv (cxOf CX P w K mg base N qual scope f cd A outer s H E) [] (start N vs) H s1 := by
  have hpl : ps.length ≤ N.length := by have := congrArg List.length S.pre; rw [List.length_take] at this; omega
  obtain ⟨h1, tk, rfl, hk⟩ := x.done
  have noA : ∀ b : Addr, b ∉ (cxOf CX P w K mg base N qual scope f cd A outer s H E).ex := fun b z => absurd (show b ∈ ([] : List Addr) from z) (by simp)
  refine ⟨⟨e0.mod, S.kind, rfl, rfl, Nat.le_refl _, fun y z c h1 h2 => ?_, fun y hy => ?_, fun y c _ h => ?_, fun _ => hd, Around.frames_deeper e0.frames, .inr ⟨rfl, rfl⟩, fun b z => absurd z (noA b), e0.bs, e0.bsz, fun b _ _ => noA b, fun b z => absurd z (noA b), e0.funs, e0.frf⟩,
    rfl, e0.bare, Un.kept hk, ⟨_, x.toInCall.ns, fun i y v h1 h2 h3 => ?_⟩, fun y c h => ⟨_, x.cell y c h⟩, e0.hok.fresh (Nat.le_refl _), fun y c h => ?_, fun p hp => absurd (show p ∈ ([] : List (Addr × Obj)) from hp) (by simp), e0.hok.kept hk, ?_⟩
  · exact name_of_addr x.apart (PySem.mem_of_lookup h1) (PySem.mem_of_lookup h2)
  · have hy : scope.names.lookup y = some .cell ∨ scope.names.lookup y = some .free := hy
    rcases hy with hy | hy
    · exact cell_has hy
    · exact absurd rfl (S.nofree _ (PySem.mem_of_lookup hy))
  · exact Nat.le_of_lt (x.above y c (PySem.mem_of_lookup h))
  · have hi : i < vs.length := by
      unfold start at h2
      by_cases hi : i < vs.length
      · exact hi
      · rw [List.getElem?_append_right (by simpa using hi)] at h2
        rw [List.getElem?_replicate] at h2
        split at h2 <;> cases h2
    have ha : vs[i]? = some v := by
      unfold start at h2
      rw [List.getElem?_append_left (by simpa using hi), List.getElem?_map] at h2
      cases e : vs[i]? with
      | none => rw [e] at h2; cases h2
      | some a => rw [e] at h2; cases h2; rfl
    obtain ⟨u, hu, rv⟩ := r.get ha
    have hp : ps[i]? = some y := by
      rw [← S.pre, List.getElem?_take_of_lt (by omega)]; exact h1
    have ndP : ps.Nodup := by rw [← S.pre]; exact S.nd.sublist (List.take_sublist _ _)
    refine ⟨u, rv, ?_⟩
    rcases S.par y (List.mem_of_getElem? hp) with k | k
    · exact .inl ⟨k, bindL_get ndP hp hu k⟩
    · obtain ⟨c, e⟩ := cell_has (n := s.heap.objs.size + 1) k
      refine .inr ⟨.inl k, c, e, ?_⟩
      have q := x.cell y c e
      rw [bindC_get ndP hp hu (by show scope.names.lookup y ≠ _; rw [k]; decide)] at q
      exact q
  · exact e0.hok.fresh (Nat.le_of_lt (x.above y c (PySem.mem_of_lookup h)))
  · unfold start
    show _ = N.length
    rw [List.length_append, List.length_map, List.length_replicate]
    omega

/-- THE RULE: a def (or a method) of the text, by its body. The body's reading t is chosen for each entry; it is run at the parameters' values -/
theorem fn_of {CX : CXT} {P : Program} {w : World} {K : PySem.W.Frag} {mg : Str → Option Value} {base : Heap} {k : Nat} {f : Addr} {name qual : Str} {params : Arguments} {body : List Stmt} {scope : Scope} {dV kV doc pm cdv ct oc : Value} {an od : Option Addr}
    {osl : Array (Option Value)} {N ps : List Str} {sp : Sp} (lk : K.lookup f = some ⟨oc, od, .func (PySem.W.fnOf name qual params body scope dV kV doc pm an cdv ct), osl⟩) (hcd : PySem.W.codeIn K cdv qual = true) (S : FnScope N ps scope)
    (len : ∀ vs H Q E, sp vs H Q E → vs.length = ps.length)
    (hbody : ∀ (A : Around) (outer : List Env) (s : Shared) (H : Hp) (vs : List V) (Q : VK) (E : XK), Room k (A.deeper (envOfC qual scope s.heap.objs.size f cdv)) → sp vs H Q E →
      ∃ t, PSs (cxOf CX P w K mg base N qual scope f cdv A outer s H E) body t ∧ t { nx := fun _ H' => Q .non H', rt := Q } (start N vs) H) :
    FnOk P w K mg base CX (k + 1) f (PySem.W.fnOf name qual params body scope dV kV doc pm an cdv ct) ps sp := by
  refine ⟨len, fun A outer s H args us vs Q E hr e0 hb r hsp => ?_⟩
  have hl := len _ _ _ _ hsp
  have KX : K.In s.heap := e0.mod.kin.keeps fun b o e => (e0.bs b o e).1
  have lim : s.heap.NoLimit := e0.mod.nolimit.keeps fun b o e => (e0.bs b o e).1
  have hkind : ∀ y ∈ ps.zip us, scope.names.lookup y.1 = some .local ∨ (scope.names.lookup y.1 = some .cell ∧ ((cellsFrom (s.heap.objs.size + 1) scope.names []).lookup y.1).isSome = true) := fun ⟨n, v⟩ hy => by
    rcases S.par n (List.of_mem_zip hy).1 with q | q
    · exact .inl q
    · exact .inr ⟨q, PySem.W.cellsFrom_some _ _ _ (.inl q)⟩
  refine codeAny_call_function hr.depth (KX _ _ lk) rfl S.co S.gen rfl (PySem.W.codeRec_of KX hcd) (hb _ _ _ _ ?_)
  refine wpAny_newFunctionEnv_cells S.kind hkind fun env he s1 x => ?_
  subst he
  refine ⟨lim.keeps x.toInCall.keep, codeAny_func ?_⟩
  obtain ⟨t, ht, hq⟩ := hbody A outer s H vs Q E (hr.deeper _) hsp
  have I : Inv (cxOf CX P w K mg base N qual scope f cdv A outer s H E) [] (start N vs) H s1 := inv_start S hr.hd e0 hl r x
  refine wpAny_mono (ht [] s1 (start N vs) H _ I hq) (fun fl s' hs => ?_) fun e s' hs => hs
  have fin : ∀ {σ' : St} {H' : Hp} {v : V} {u : Value}, Inv (cxOf CX P w K mg base N qual scope f cdv A outer s H E) [] σ' H' s' → RelV v u → Q v H' → CE outer P w H s Q u s' :=
    fun {σ' H' v u} J rv q => ⟨v, H', J.os, J.bare, J.base, J.hok, rv, q⟩
  cases fl with
  | ret u =>
    obtain ⟨v, σ', H', J, rv, q⟩ := hs
    exact fin J rv q
  | next =>
    obtain ⟨σ', H', J, q⟩ := hs
    exact fin (v := V.non) (u := Value.none) J rfl q
  | brk =>
    obtain ⟨_, _, _, q⟩ := hs
    exact False.elim q
  | cont =>
    obtain ⟨_, _, _, q⟩ := hs
    exact False.elim q
end L2

namespace L2
open PySem PySem.Spec PyProof.Rows
section
variable {X : Cx} {x : Str} {p pos : Pos} {e : Expr} {es : List Expr} {t : TA} {id T : String} {r : List V → Hp → VK → Prop}

def tCB (r : List V → Hp → VK → Prop) (t : TA) : TE := fun σ H Q => t σ H fun vs H1 => r vs H1 Q
/-- f(e, ..), f a built-in function -/
theorem pe_callB (hc : CallR X (.builtin id) r) (hg : Gl X x) (hm : X.mg x = none) (hv : bootBuiltins x = some (.builtin id)) (ha : PA X (e :: es) t) (hn : x ≠ "__name__" := by decide) (hdb : (x == ("__debug__" : Str)) = false := by decide)
    (he : starEach (e :: es) X.env = (false, eval e X.env) :: starEach es X.env := by rfl) (hpl : (backTo pos (starEach es X.env)).any (·.1) = false := by rfl) : PE X (.Call (.Name x p) (e :: es) [] pos) (tCB r t) := by
  intro pins s σ H Q I h
  refine wpAny_Call_Name_kw (ld_blt I hg hm hv ?_ hn hdb)
  exact PyProof.Rows.callWith_builtin1 (thn (ha pos pins s σ H _ I h) fun us s1 ⟨vs, H1, I1, r1, q1⟩ => hc pins s1 σ H1 vs us Q I1 r1 q1) he hpl
end
end L2

namespace HT
open PySem PyProof.Rows



section
open PySem.SeqAt
open PySem.AutoSeq1 (wpAny_loadPart')
open PySem.MeetsSeq PySem.MeetsSeq2 PySem.MeetsSeq3

end

section
variable {prog : Program} {w : World} {A : Around} {E : Value → Shared → Prop} {s : Shared}



/-! ### t[a:b], not the whole -/
/-- a slice's bound as a place among n (d where it is left out) -/
def sIx (n d : Nat) : Option Int → Nat
  | none => d
  | some v => if v < 0 then (v + (n : Int)).toNat else min v.toNat n
theorem sIx_none (n d : Nat) : sIx n d none = d := rfl
theorem sIx_nat (n d k : Nat) : sIx n d (some (k : Int)) = min k n := by
  show (if (k : Int) < 0 then ((k : Int) + (n : Int)).toNat else min (k : Int).toNat n) = min k n
  rw [if_neg (by omega), Int.toNat_natCast]

end
end HT

namespace L2
open PySem PySem.Spec PyProof.Rows

/-! ### the parts of a slice -/
abbrev TO := St → Hp → (Option Int → Hp → Prop) → Prop
/-- a slice's part (left out, or an int) -/
def PO (X : Cx) (e : Option Expr) (t : TO) : Prop :=
  ∀ (pins : List (Addr × Obj)) (s : Shared) (σ : St) (H : Hp) (Q : Option Int → Hp → Prop), Inv X pins σ H s → t σ H Q →
    wpAny (model X.prog X.w) X.A (evalPart e X.env) (fun u s' => ∃ o H', Inv X pins σ H' s' ∧ IsPart u o ∧ Q o H') X.xe s
def tNoPart : TO := fun _ H Q => Q none H
def tPart (t : TE) : TO := fun σ H Q => t σ H fun x H1 => ∃ i, x = .int i ∧ Q (some i) H1


section
variable {X : Cx} {e : Expr} {te : TE} {lo hi : Option Expr} {tl th : TO} {pos p2 : Pos}

theorem po_none : PO X none tNoPart := by
  intro pins s σ H Q I h
  rw [evalPart_none]
  exact wpAny_pure ⟨none, H, I, .none, h⟩
theorem po_some (h : PE X e te) : PO X (some e) (tPart te) := by
  intro pins s σ H Q I hw
  rw [evalPart_some]
  refine thn (h pins s σ H _ I hw) fun u s1 ⟨x, H1, I1, r1, q1⟩ => ?_
  obtain ⟨i, rfl, q⟩ := q1
  obtain ⟨t, rfl⟩ := r1
  exact ⟨some i, H1, I1, .int i t, q⟩

/-- what a slice of a value is, by values: the slice object stands at sl -/
def SlR (X : Cx) (r : V → Option Int → Option Int → Hp → VK → Prop) : Prop :=
  ∀ (pins : List (Addr × Obj)) (s : Shared) (σ : St) (H : Hp) (x : V) (v vl vu : Value) (lo hi : Option Int) (sl : Addr) (Q : VK), Inv X pins σ H s → RelV x v → s.heap.IsSliceOf sl vl vu .none → IsPart vl lo → IsPart vu hi → r x lo hi H Q →
    ∃ T id, typeLookup (.type T) "__getitem__" = pure (some (.builtin id)) ∧ s.TypeIs v T ∧ wpAny (model X.prog X.w) X.A (getItem v (.ref sl)) (EP X pins σ Q) X.xe s
theorem SlR.or {r r' : V → Option Int → Option Int → Hp → VK → Prop} (h : SlR X r) (h' : SlR X r') : SlR X (fun x lo hi H Q => r x lo hi H Q ∨ r' x lo hi H Q) := by
  intro pins s σ H x v vl vu lo hi sl Q I rx hs pl pu q
  rcases q with q | q
  · exact h pins s σ H x v vl vu lo hi sl Q I rx hs pl pu q
  · exact h' pins s σ H x v vl vu lo hi sl Q I rx hs pl pu q
def tSl (r : V → Option Int → Option Int → Hp → VK → Prop) (te : TE) (tl th : TO) : TE := fun σ H Q => te σ H fun x H1 => tl σ H1 fun l H2 => th σ H2 fun u H3 => r x l u H3 Q
/-- a[lo:hi], any a -/
theorem pe_slice {r : V → Option Int → Option Int → Hp → VK → Prop} (hr : SlR X r) (he : PE X e te) (hl : PO X lo tl) (hu : PO X hi th) : PE X (.Subscript e (.Slice lo hi none p2) pos) (tSl r te tl th) := by
  intro pins s σ H Q I h
  refine Subscript_ (thn (he pins s σ H _ I h) fun v s1 ⟨x, H1, I1, r1, q1⟩ => ?_)
  refine wpAny_Slice (thn (hl pins s1 σ H1 _ I1 q1) fun vl s2 ⟨l, H2, I2, pl, q2⟩ => thn (hu pins s2 σ H2 _ I2 q2) fun vu s3 ⟨u, H3, I3, pu, q3⟩ => ?_)
  rw [evalPart_none]
  refine wpAny_pure ?_
  have I4 : Inv X pins σ H3 { s3 with heap := s3.heap.push { cls := .type "slice", data := .fields #[vl, vu, .none] } } := I3.kept (t' := s3.toks) fun b ob q => Heap.get?_push_of_some _ q
  obtain ⟨T, id, hT, ht, hg⟩ := hr pins { s3 with heap := s3.heap.push { cls := .type "slice", data := .fields #[vl, vu, .none] } } σ H3 x v vl vu l u s3.heap.objs.size Q I4 r1 (Heap.IsSliceOf.new ..) pl pu q3
  show wpAny (model X.prog X.w) X.A (subscriptTail e (.Slice lo hi none p2) v (.ref s3.heap.objs.size)) (EP X pins σ Q) X.xe { s3 with heap := s3.heap.push { cls := .type "slice", data := .fields #[vl, vu, .none] } }
  exact tail_any (ops := [.ref s3.heap.objs.size, v]) ht hT hg (by with_unfolding_all rfl)

/-- the items of xs[lo:hi] -/
def cutV (xs : List V) (lo hi : Option Int) : List V := (xs.drop (HT.sIx xs.length 0 lo)).take (HT.sIx xs.length xs.length hi - HT.sIx xs.length 0 lo)
theorem cutV_length (xs : List V) (lo hi : Option Int) : (cutV xs lo hi).length ≤ xs.length := by
  unfold cutV
  rw [List.length_take, List.length_drop]
  omega

/-! ### t < u, t + u -/
end
end L2

namespace L2
open PySem PySem.Spec PyProof.Rows

/-! ### places -/
/-- the place that an index of any sign means -/
def ixN (n : Nat) (i : Int) : Option Nat := if 0 ≤ i then (if i < n then some i.toNat else none) else if -(n : Int) ≤ i then some (i + n).toNat else none
def atI {α : Type} (xs : List α) (i : Int) : Option α := (ixN xs.length i).bind fun j => xs[j]?
theorem ixN_seq {n : Nat} {i : Int} {j : Nat} (h : ixN n i = some j) : seqIndex? i n = some j ∧ j < n ∧ -(n : Int) ≤ i ∧ i < n := by
  unfold ixN at h
  by_cases h0 : 0 ≤ i
  · rw [if_pos h0] at h
    by_cases h1 : i < n
    · rw [if_pos h1] at h
      have e : i.toNat = j := Option.some.inj h
      exact ⟨by rw [seqIndex_of h0 h1, e], by omega, by omega, h1⟩
    · rw [if_neg h1] at h; cases h
  · rw [if_neg h0] at h
    by_cases h1 : -(n : Int) ≤ i
    · rw [if_pos h1] at h
      have e : (i + n).toNat = j := Option.some.inj h
      exact ⟨by rw [seqIndex_neg (by omega) h1, e], by omega, h1, by omega⟩
    · rw [if_neg h1] at h; cases h
theorem atI_get {α : Type} {xs : List α} {i : Int} {v : α} (h : atI xs i = some v) : ∃ j, seqIndex? i xs.length = some j ∧ xs[j]? = some v ∧ j < xs.length ∧ -(xs.length : Int) ≤ i ∧ i < xs.length := by
  unfold atI at h
  cases e : ixN xs.length i with
  | none => rw [e] at h; cases h
  | some j =>
    rw [e] at h
    obtain ⟨h1, h2, h3, h4⟩ := ixN_seq e
    exact ⟨j, h1, h, h2, h3, h4⟩
theorem atI_nat {α : Type} {xs : List α} {j : Nat} {v : α} (h : xs[j]? = some v) : atI xs (j : Int) = some v := by
  have hj : j < xs.length := (List.getElem?_eq_some_iff.mp h).1
  have e : ixN xs.length (j : Int) = some j := by
    unfold ixN
    rw [if_pos (by omega), if_pos (by omega)]; simp
  unfold atI; rw [e]; exact h

/-! ### what may be subscripted -/
/-- what stands as an index of a plain subscript -/
def PlainIx (b : Expr) : Prop := ∀ o i, subscripted b false o i = operate [o, i] (getItem o i)
/-- a subscript by values -/
def IxR (X : Cx) (r : R2) : Prop :=
  ∀ (value slice : Expr) (pins : List (Addr × Obj)) (s : Shared) (σ : St) (H : Hp) (x y : V) (v u : Value) (Q : VK), Inv X pins σ H s → RelV x v → RelV y u → r x y H Q →
    subscripted slice false v u = operate [v, u] (getItem v u) → wpAny (model X.prog X.w) X.A (subscriptTail value slice v u) (EP X pins σ Q) X.xe s
/-- a call of a builtin's method by values: the receiver, the arguments -/
def MtR (X : Cx) (id : String) (r : V → List V → Hp → VK → Prop) : Prop :=
  ∀ (pins : List (Addr × Obj)) (s : Shared) (σ : St) (H : Hp) (x : V) (xs : List V) (v : Value) (us : List Value) (Q : VK), Inv X pins σ H s → RelV x v → Vals xs us → r x xs H Q →
    wpAny (model X.prog X.w) X.A (call (.builtin id) (v :: us)) (EP X pins σ Q) X.xe s
section
variable {X : Cx} {a b : Expr} {ta tb : TE} {pos : Pos}
theorem IxR.or {r r' : R2} (h : IxR X r) (h' : IxR X r') : IxR X (fun x y H Q => r x y H Q ∨ r' x y H Q) := by
  intro value slice pins s σ H x y v u Q I rx ry q hs
  rcases q with q | q
  · exact h value slice pins s σ H x y v u Q I rx ry q hs
  · exact h' value slice pins s σ H x y v u Q I rx ry q hs
theorem MtR.or {id : String} {r r' : V → List V → Hp → VK → Prop} (h : MtR X id r) (h' : MtR X id r') : MtR X id (fun x xs H Q => r x xs H Q ∨ r' x xs H Q) := by
  intro pins s σ H x xs v us Q I rx rs q
  rcases q with q | q
  · exact h pins s σ H x xs v us Q I rx rs q
  · exact h' pins s σ H x xs v us Q I rx rs q
/-- a[b] -/
theorem pe_ix {r : R2} (hr : IxR X r) (ha : PE X a ta) (hb : PE X b tb) (hs : PlainIx b) : PE X (.Subscript a b pos) (tOp r ta tb) := by
  intro pins s σ H Q I h
  exact Subscript_ (binT ha hb I h fun v u s2 x y H2 I2 rx ry q => hr a b pins s2 σ H2 x y v u Q I2 rx ry q (hs _ _))

def rIxL (K : PySem.W.Frag) : R2 := fun x y H Q => ∃ p xs i v, x = .ref p ∧ y = .int i ∧ SqL K H p xs ∧ atI xs i = some v ∧ Q v H
def rIxT (K : PySem.W.Frag) : R2 := fun x y H Q => ∃ p xs i v, x = .ref p ∧ y = .int i ∧ SqT K H p xs ∧ atI xs i = some v ∧ Q v H
theorem ix_list : IxR X (rIxL X.K) := by
  intro value slice pins s σ H x y v u Q I rx ry h hs
  obtain ⟨p, xs, i, z, rfl, rfl, hq, he, q⟩ := h
  cases rx
  obtain ⟨t, rfl⟩ := ry
  obtain ⟨its, r, pl, hz⟩ := I.list hq
  obtain ⟨j, h1, h2, h3, h4, h5⟩ := atI_get he
  obtain ⟨w, ew, rw'⟩ := r.get h2
  have hl := r.length
  have hn := line63
  have fin : EP X pins σ Q w s := ⟨z, H, I, rw', q⟩
  by_cases h0 : 0 ≤ i
  · have hj : i.toNat = j := by
      rw [seqIndex_of h0 h5] at h1
      exact Option.some.inj h1
    exact item_listR pl.isList h0 (by omega) (by rw [hj]; simpa using ew) fin hs
  · have hj : (i + (its.toArray.size : Int)).toNat = j := by
      rw [seqIndex_neg (by omega) h4] at h1
      rw [List.size_toArray, ← hl]
      exact Option.some.inj h1
    exact subscriptTail_builtinR (x := w) pl.isList.typeIs slot_list_getitem.lookup
      (wpAny_getItem_list_neg (Q := fun r s' => r = w ∧ EP X pins σ Q r s') pl.isList (by omega) (by rw [List.size_toArray] <;> omega) (by omega) (by rw [hj]; simpa using ew) ⟨rfl, fin⟩) hs
theorem ix_tup : IxR X (rIxT X.K) := by
  intro value slice pins s σ H x y v u Q I rx ry h hs
  obtain ⟨p, xs, i, z, rfl, rfl, hq, he, q⟩ := h
  cases rx
  obtain ⟨t, rfl⟩ := ry
  obtain ⟨its, r, pl, hz⟩ := I.tuple hq
  obtain ⟨j, h1, h2, h3, h4, h5⟩ := atI_get he
  obtain ⟨w, ew, rw'⟩ := r.get h2
  have hl := r.length
  have hn := line63
  have fin : EP X pins σ Q w s := ⟨z, H, I, rw', q⟩
  exact subscriptTail_builtinR (x := w) pl.typeIs slot_tuple_getitem.lookup
    (getItem_tuple (j := j) (Q := fun r s' => r = w ∧ EP X pins σ Q r s') pl (by omega) (by omega) (by rw [List.size_toArray, ← hl]; exact h1) (by simpa using ew) ⟨rfl, fin⟩) hs

/-! ### xs[i] = v, any sign -/
theorem Inv.lst {pins : List (Addr × Obj)} {σ : St} {H : Hp} {s : Shared} {p : Addr} {xs : List V} (I : Inv X pins σ H s) (h : H p = some (.lst xs)) :
    ∃ (its : List Value) (n : Nat), Vals xs its ∧ s.heap.get? p = some { cls := .type "list", data := .seq its.toArray n } ∧ xs.length ≤ sizeLine := by
  obtain ⟨z, its, n, r, e⟩ := I.hok p _ h
  exact ⟨its, n, r, e, z⟩

/-! ### slices -/
theorem slice_bounds (lo hi : Option Int) (n : Nat) : (sliceBounds lo hi none n).1 = ((HT.sIx n 0 lo : Nat) : Int) ∧ (sliceBounds lo hi none n).2.1 = ((HT.sIx n n hi : Nat) : Int) ∧ (sliceBounds lo hi none n).2.2 = 1 := by
  refine ⟨?_, ?_, rfl⟩
  · cases lo with
    | none => simp [sliceBounds, HT.sIx]
    | some i =>
      simp only [sliceBounds, HT.sIx, Option.getD_none, show (1 : Int) > 0 by decide, if_true]
      by_cases h : i < 0
      · simp only [h, if_true] <;> omega
      · simp only [h, if_false] <;> omega
  · cases hi with
    | none => simp [sliceBounds, HT.sIx]
    | some i =>
      simp only [sliceBounds, HT.sIx, Option.getD_none, show (1 : Int) > 0 by decide, if_true]
      by_cases h : i < 0
      · simp only [h, if_true] <;> omega
      · simp only [h, if_false] <;> omega
theorem slicePick_cut (its : List Value) (lo hi : Option Int) : slicePick its.toArray lo hi none = ((its.drop (HT.sIx its.length 0 lo)).take (HT.sIx its.length its.length hi - HT.sIx its.length 0 lo)).toArray := by
  obtain ⟨h1, h2, h3⟩ := slice_bounds lo hi its.toArray.size
  unfold slicePick
  rw [h1, h2, h3]
  simp only [sliceRange_one, pick_run, List.size_toArray] <;> rfl
/-- xs[lo:hi] of a list: a new list -/
def rSlL (K : PySem.W.Frag) : V → Option Int → Option Int → Hp → VK → Prop := fun x lo hi H Q => ∃ a xs, x = .ref a ∧ SqL K H a xs ∧ ∀ p, H p = none → Q (.ref p) (upd H p (.lst (cutV xs lo hi)))
theorem sl_list : SlR X (rSlL X.K) := by
  intro pins s σ H x v vl vu lo hi sl Q I rx hs pl pu h
  obtain ⟨a, xs, rfl, hx, q⟩ := h
  cases rx
  obtain ⟨its, r, ht, hz⟩ := I.list hx
  have hlen := r.length
  refine ⟨"list", _, slot_list_getitem.lookup, ht.isList.typeIs, ?_⟩
  refine wpAny_getItem_list_slice ht.isList hs pl pu .none (by simp) ?_ (by rw [List.size_toArray] <;> omega)
  rw [slicePick_cut, ← hlen]
  refine ⟨.ref s.heap.objs.size, _, I.laid (t' := s.toks) (o := .lst (cutV xs lo hi)) (fun b ob q => Heap.get?_push_of_some _ q) (Nat.le_refl _) ?_, rfl, q _ (I.hok.fresh (Nat.le_refl _))⟩
  exact ⟨Nat.le_trans (cutV_length xs lo hi) hz, _, 0, (r.drop (HT.sIx xs.length 0 lo)).take (HT.sIx xs.length xs.length hi - HT.sIx xs.length 0 lo), Heap.get?_push_size _ rfl⟩

/-! ### in, not in: flat items -/

/-! ### len, list(x), tuple(x) of any list or tuple that is read -/
theorem CallR.or {f : Value} {r r' : List V → Hp → VK → Prop} (h : CallR X f r) (h' : CallR X f r') : CallR X f (fun xs H Q => r xs H Q ∨ r' xs H Q) := by
  intro pins s σ H xs us Q I rs q
  rcases q with q | q
  · exact h pins s σ H xs us Q I rs q
  · exact h' pins s σ H xs us Q I rs q

/-! ### the call of a builtin's method: o.m(..) -/
variable {o e : Expr} {es : List Expr} {to : TE} {t : TA} {name : Str} {apos cpos : Pos} {T id : String} {r : V → List V → Hp → VK → Prop}
/- xs.append(e), list.index on a module's tuple .. are MtR facts of 06m -/
end
end L2

namespace L2
open PySem PySem.Spec PyProof.Rows


/-! ### lists of values -/
theorem Vals.one : ∀ {x : V} {us : List Value}, Vals [x] us → ∃ u, us = [u] ∧ RelV x u
  | _, _, .cons r .nil => ⟨_, rfl, r⟩
theorem Vals.two : ∀ {x y : V} {us : List Value}, Vals [x, y] us → ∃ u v, us = [u, v] ∧ RelV x u ∧ RelV y v
  | _, _, _, .cons r (.cons q .nil) => ⟨_, _, rfl, r, q⟩
theorem Vals.zero : ∀ {us : List Value}, Vals [] us → us = []
  | _, .nil => rfl
theorem Vals.reverse {xs : List V} {us : List Value} (h : Vals xs us) : Vals xs.reverse us.reverse := by
  induction h with
  | nil => exact .nil
  | cons r t ih => rw [List.reverse_cons, List.reverse_cons]; exact Vals.append ih (.cons r .nil)

section
variable {X : Cx} {pins : List (Addr × Obj)} {σ : St} {H : Hp} {s : Shared} {l b : Addr} {xs ys zs : List V}

/-! ### the two steps: a tracked list is rewritten, a new list is laid -/
theorem Inv.lnew {its : List Value} {t' : Nat} (I : Inv X pins σ H s) (hv : Vals ys its) (hz : ys.length ≤ sizeLine) :
    Inv X pins σ (upd H s.heap.objs.size (.lst ys)) { s with heap := s.heap.push { cls := .type "list", data := .seq its.toArray }, toks := t' } :=
  I.laid (fun _ _ q => Heap.get?_push_of_some _ q) (Nat.le_refl _) ⟨hz, its, 0, hv, Heap.get?_push_size _ rfl⟩
theorem Inv.fresh (I : Inv X pins σ H s) : H s.heap.objs.size = none := I.hok.fresh (Nat.le_refl _)
theorem Inv.lstM (I : Inv X pins σ H s) (hH : H l = some (.lst xs)) : xs.length ≤ sizeLine ∧ ∃ (its : List Value) (n : Nat), Vals xs its ∧ xs.length = its.length ∧ s.heap.get? l = some { cls := .type "list", data := .seq its.toArray n } := by
  obtain ⟨z, its, n, r, e⟩ := I.hok l _ hH
  exact ⟨z, its, n, r, r.length, e⟩

end

section
variable {X : Cx}

/-! ### methods -/






/-! ### list + list, list += list, list * int -/
def rCat : R2 := fun x y H Q => ∃ l b xs zs, x = .ref l ∧ y = .ref b ∧ H l = some (.lst xs) ∧ H b = some (.lst zs) ∧ xs.length + zs.length ≤ sizeLine ∧ ∀ p, H p = none → Q (.ref p) (upd H p (.lst (xs ++ zs)))
theorem op_cat : OpR X (binaryOp .Add) rCat := by
  intro pins s σ H x y v u Q I rx ry h
  obtain ⟨l, b, xs, zs, rfl, rfl, hH, hB, hz, q⟩ := h
  cases rx
  cases ry
  obtain ⟨z, its, n, r, hl, e⟩ := I.lstM hH
  obtain ⟨z2, its2, n2, r2, hl2, e2⟩ := I.lstM hB
  refine PySem.P.add_list e e2 ?_ (by rw [List.size_toArray, List.size_toArray]; omega)
  have ea : its.toArray ++ its2.toArray = (its ++ its2).toArray := by simp
  rw [ea]
  exact ⟨.ref _, _, I.lnew (t' := s.toks) (r.append r2) (by rw [List.length_append]; omega), rfl, q _ I.fresh⟩

/-! ### del xs[i] -/
end

/-! ### xs[a:b] = ys -/
section
variable {prog : Program} {w : World} {A : Around} {E : Value → Shared → Prop} {s : Shared}
set_option maxRecDepth 100000 in
end

section
variable {X : Cx}
end
end L2

namespace Att
open PySem PySem.W PySem.Calls PyProof.Rows

/-! ### the script -/
theorem ints_of_wellAll {P : Params} {h : Heap} : ∀ (ns : List Int) (vs : List Value), WellAll P h vs (ns.map WData.int) → IntsAre vs ns := by
  intro ns
  induction ns with
  | nil =>
    intro vs w
    rw [List.map_nil] at w
    cases w
    exact .nil
  | cons n ns ih =>
    intro vs w
    rw [List.map_cons] at w
    cases w with
    | cons a b =>
      cases a
      exact .cons _ _ (ih _ b)

theorem script_of {l : OpenLaw} {n : Nat} (hn : l.most = some n) {P : Params} {h : Heap} {args : List WData} {vals : List Value}
    (hpre : l.row.toRowW.claim.pre args = true) (hwl : WellAll P h vals args) :
    ∃ a vs ns, vals = [Value.ref a] ∧ args = [WData.list (ns.map WData.int)] ∧ h.get? a = some { cls := .type "list", data := .seq vs.toArray } ∧ IntsAre vs ns ∧ ns.length ≤ n := by
  have hsh : WShape.hasAll [] args [.list .int] = true := (pre_splitW hpre).1
  have hc : l.pre.holds [] { args := args } = true := (pre_splitW hpre).2
  obtain ⟨d, r, rfl, h1, h2⟩ := hasAllW_cons hsh
  obtain rfl := hasAllW_nil h2
  obtain ⟨xs, rfl, h3⟩ := hasW_list h1
  obtain ⟨ns, rfl⟩ := items_int h3
  have hlen : ns.length ≤ n := by
    unfold OpenLaw.pre at hc
    have h4 : (WTm.not (.lt (.lit (.int (n : Int))) (.len (.arg 0)))).holds [] { args := [.list (ns.map .int)] } = true := by
      have h4 := (holds_andW hc).1
      rw [hn] at h4
      exact h4
    have h5 := condW_of h4 (w_not (w_lt w_lit (w_len_list (w_arg rfl))))
    rw [List.length_map] at h5
    refine Nat.le_of_not_lt fun q => ?_
    have q' : (n : Int) < ((ns.length : Nat) : Int) := by omega
    first
      | (rw [decide_eq_true q'] at h5; exact absurd h5 (by decide))
      | (simp at h5; omega)
  cases hwl with
  | cons w1 w2 =>
    cases w2
    cases w1 with
    | list ho hall => exact ⟨_, _, ns, rfl, rfl, ho, ints_of_wellAll ns _ hall, hlen⟩

theorem post_true (l : OpenLaw) (args : List WData) : l.row.toRowW.claim.post args (.bool true) args = true :=
  postW_of (r := l.row.toRowW) (X := (true == true))
    (show WShape.has [] (.bool true) .bool = true by first | rfl | decide | simp [WShape.has, WShape.arms, WShape.armsAll])
    (show (WTm.eq .res (.lit (.bool true))).value [] { args := args, res := some (.bool true), after := args } = some (.bool (true == true)) from w_eq_bool (w_res rfl) w_lit) rfl

/-! ### the attachment: holds_open's last premise (the goal 'hc' behind k_head) from a wpAny of the law's body -/

/-- the same from a codeAny of the CALL (for a layer whose function contracts speak of calls) -/
theorem attach_call {l : OpenLaw} {n : Nat} {q : Program} {loose : List Str} {XP : (Str → Option Value) → Heap → Prop} {YP : World → Heap → Prop} {d : DefRec}
    (hn : l.most = some n) (hdf : d.params.defaults = [])
    (call : ∀ (w : World) (s₀ s₁ : Shared) (mg mb : Str → Option Value) (fa : Addr) (o : Obj) (pm cd doc : Value) (a : Addr) (vs : List Value) (ns : List Int),
      Ground q loose [] XP w s₀ mg mb s₁.heap → YP w s₁.heap →
      s₁.heap.get? fa = some o → o.data = .func (docDef d.name d.params d.body d.scope pm cd doc) → s₁.heap.CodeRec cd d.name → mg d.name = some (.ref fa) →
      s₁.heap.get? a = some { cls := .type "list", data := .seq vs.toArray } → IntsAre vs ns → ns.length ≤ n → s₁.gens = #[] →
      codeAny (model l.prog w) callerA (.call (.ref fa) ⟨[.ref a], []⟩) (fun r s' => r = .ok (.ret (.bool true)) ∧ OldK s₁.heap s'.heap ∧ s'.os = s₁.os ∧ AllBare s'.gens) s₁) :
    WalkO q loose XP YP l.row.toRowW d [] (fun f vs => PySem.call f vs) := by
  intro w s₀ s₁ mg mb G Y fa o pm cd doc dV kV ho hd hcd hD hmg hg args vals as hpre hlay hrd hwl hlo
  obtain rfl : dV = .none := Dflts.none hD hdf
  obtain rfl : kV = .none := Dflts.noKw hD
  obtain ⟨a, vs, ns, rfl, rfl, hobj, hints, hlen⟩ := script_of hn hpre hwl
  refine enter_call (codeAny_mono (call w s₀ s₁ mg mb fa o pm cd doc a vs ns G Y ho (fd_plain hd) hcd hmg hobj hints hlen hg) fun r s' hq => ?_)
  obtain ⟨rfl, h2, h3, h4⟩ := hq
  exact ⟨.inl ⟨.bool true, .bool true, [], rfl, fun _ => rfl, .bool true, post_true l _, fun _ => ⟨List.Pairwise.nil, fun _ hm => (nomatch hm)⟩⟩, h2, h3, h4⟩


/-! ### rules over ANY heap (no ledger) from facts about the written part K: the library's own take a ledger (News) for what they write -/
section
variable {prog : Program} {w : World} {A : Around} {E : Value → Shared → Prop} {s : Shared} {K : Frag}





/-! the whole heap as the ledger: makes every rule that writes through a ledger a rule over any heap -/
def ledger (h : Heap) (L d : Addr) : List (Addr × Obj) := (List.range h.objs.size).filterMap fun a => if a = L ∨ a = d then none else (h.get? a).map fun o => (a, o)

end
end Att

namespace L2
open PySem PySem.Spec PyProof.Rows

theorem vals_ints : ∀ {vs : List Value} {ns : List Int}, IntsAre vs ns → Vals (ns.map V.int) vs
  | _, _, .nil => .nil
  | _, _, .cons n t h => .cons ⟨t, rfl⟩ (vals_ints h)

/-- nothing is tracked but the script, known to the object (or it is an object of the module) -/
def Only (H : Hp) : Prop := ∀ b, H b = none ∨ ∃ o xs, H b = some (.frz o (.lst xs))

/-- THE HEAD: the law's promise, at the heap behind the top. F, the promise of the law's def, may use that base is part of the heap (so K.In base, base.Ns mainGlobals mg stand in Mod) -/
theorem law_call {P : Program} {w : World} {K : PySem.W.Frag} {mg mb : Str → Option Value} {CX : CXT} {k : Nat} {fa a : Addr} {fd : FuncData} {x : Str} {sp : Sp} {s₁ : Shared} {vs : List Value} {ns : List Int}
    (KX : K.In s₁.heap) (hns : s₁.heap.Ns mainGlobals mg) (hb : s₁.heap.Ns builtinsNs mb) (hbb : ∀ x : Str, x ≠ "__name__" → mb x = bootBuiltins x) (hlim : s₁.heap.NoLimit) (hg : s₁.gens = #[])
    (ha : s₁.heap.get? a = some { cls := .type "list", data := .seq vs.toArray }) (hi : IntsAre vs ns) (hl : ns.length ≤ sizeLine) (hr : Room k callerA)
    (F : ∀ base : Heap, K.In base → base.Ns mainGlobals mg → FnOk P w K mg base CX k fa fd [x] sp) (hbind : ∀ (s : Shared) (u : Value), BindsTo s fd ⟨[u], []⟩ [(x, u)])
    (hsp : ∀ H : Hp, Only H → SqL K H a (ns.map V.int) → sp [.ref a] H (fun v _ => v = .bl true) fun _ _ _ => False)
    (hCX : ∀ H e s', CX [] H s₁ (fun _ _ _ => False) e s' → False) :
    codeAny (model P w) callerA (.call (.ref fa) ⟨[.ref a], []⟩) (fun r s' => r = .ok (.ret (.bool true)) ∧ OldK s₁.heap s'.heap ∧ s'.os = s₁.os ∧ AllBare s'.gens) s₁ := by
  have rv := vals_ints hi
  have lenV := hi.length
  -- from an abstract heap in which nothing but the script may be tracked
  have core : ∀ H : Hp, Only H → SqL K H a (ns.map V.int) → HOk P w H s₁.heap → (∀ b, H b ≠ none → b = a) → (H a ≠ none → K.lookup a = none) →
      codeAny (model P w) callerA (.call (.ref fa) ⟨[.ref a], []⟩) (fun r s' => r = .ok (.ret (.bool true)) ∧ OldK s₁.heap s'.heap ∧ s'.os = s₁.os ∧ AllBare s'.gens) s₁ := by
    intro H hO hS hok hA hK
    have base_of : ∀ {b : Addr} {o : Obj}, s₁.heap.get? b = some o → H b = none → (hidT s₁.heap H).get? b = some o := fun e n => hidT_get e n
    have noA : ∀ {b : Addr} {o : Obj} {es : Array DictEntry} {ep : Nat}, s₁.heap.get? b = some o → o.data = .dict es ep → H b = none := fun {b o es ep} e d => by
      cases q : H b with
      | none => rfl
      | some u =>
        have e' : b = a := hA b (by rw [q]; simp)
        subst e'
        rw [ha] at e; cases e
        have d' : Data.seq vs.toArray _ = Data.dict es ep := d
        cases d'
    have nsK : ∀ {b : Addr} {m : Str → Option Value}, s₁.heap.Ns b m → (hidT s₁.heap H).Ns b m := fun {b m} ⟨o, es, ep, e, d, r⟩ => ⟨o, es, ep, base_of e (noA e d), d, r⟩
    have hKb : K.In (hidT s₁.heap H) := fun b o e => base_of (KX b o e) (by
      cases q : H b with
      | none => rfl
      | some u =>
        have e' : b = a := hA b (by rw [q]; simp)
        subst e'
        rw [hK (by rw [q]; simp)] at e; cases e)
    have hM : Mod K mg (hidT s₁.heap H) := ⟨hKb, nsK hns, ⟨mb, nsK hb, hbb⟩, let ⟨mc, h1, h2⟩ := hlim; ⟨mc, nsK h1, h2⟩⟩
    have e0 : Env0 P w K mg (hidT s₁.heap H) callerA [] s₁ H := ⟨rfl, hM, fun b o e => of_hidT e, Nat.le_of_eq (hidT_size _ _), trivial, fun b hb => absurd (show b ∈ ([] : List Addr) from hb) (by simp), hok, .of_eq hg⟩
    refine codeAny_mono ((F _ hKb (nsK hns)).run callerA [] s₁ H ⟨[.ref a], []⟩ [.ref a] [.ref a] _ _ hr e0 (hbind s₁ (.ref a)) (.cons rfl .nil) (hsp H hO hS)) fun r s' h => ?_
    cases r with
    | error e => exact (hCX H e s' h).elim
    | ok fl =>
      cases fl with
      | next => exact False.elim h
      | brk => exact False.elim h
      | cont => exact False.elim h
      | ret u =>
        obtain ⟨v, H', os, bare, un, hok', r', q⟩ := h
        have q' : v = .bl true := q
        subst q'
        obtain rfl : u = Value.bool true := r'
        refine ⟨rfl, OldK.of_keep fun b o e => ?_, os, bare⟩
        cases q : H b with
        | none => exact un.keep b o e q (by intro z; exact absurd (show b ∈ ([] : List Addr) from z) (by simp)) (by simp)
        | some u =>
          rcases hO b with z | ⟨ob, xs, z⟩
          · rw [q] at z; cases z
          · have z2 := un.frzs b ob _ z
            obtain ⟨e1, _⟩ := hok b _ z
            obtain ⟨e2, _⟩ := hok' b _ z2
            rw [e] at e1; cases e1
            exact e2
  cases hk : K.lookup a with
  | some o =>
    -- the script is one of the module's own objects
    have e := KX a o hk
    rw [ha] at e
    cases e
    refine core (fun _ => none) (fun _ => .inl rfl) (.inr ⟨_, vs.toArray, _, hk, rfl, rfl, rfl, by rw [List.size_toArray, lenV]; exact hl, by simpa using rv⟩) (fun b u z => by have z' : (none : Option HO) = some u := z; cases z') (fun b z => absurd rfl z) fun z => absurd rfl z
  | none =>
    refine core (fun b => if b = a then some (.frz { cls := .type "list", data := .seq vs.toArray } (.lst (ns.map V.int))) else none) (fun b => ?_) (.inl (.inr ⟨{ cls := .type "list", data := .seq vs.toArray }, if_pos rfl⟩)) (fun b u z => ?_) (fun b z => ?_) fun _ => hk
    · by_cases hb : b = a
      · exact .inr ⟨_, _, if_pos hb⟩
      · exact .inl (if_neg hb)
    · by_cases hb : b = a
      · have z' := (if_pos hb).symm.trans z
        cases z'
        subst hb
        exact ⟨ha, by rw [List.length_map]; exact hl, vs, _, rv, ha⟩
      · have z' := (if_neg hb).symm.trans z
        cases z'
    · by_cases hb : b = a
      · exact hb
      · exact absurd (if_neg hb) z
end L2

namespace L2
open PySem PySem.Spec PyProof.Rows

abbrev KOf {K : PySem.W.Frag} {h : Heap} (_ : K.In h) : PySem.W.Frag := K

/-- the goal that k_head leaves (case hc), from the law's promise. F gives the function object fd (K's own) once, then the promise over every base -/
theorem walk_of {l : PySem.W.OpenLaw} {n k : Nat} {q : Program} {loose : List Str} {XP : (Str → Option Value) → Heap → Prop} {YP : World → Heap → Prop} {d : DefRec} {K : Params → PySem.W.Frag} {CX : World → CXT} {sp : World → Sp} {x : Str}
    (hn : l.most = some n) (hn2 : n ≤ sizeLine) (hdf : d.params.defaults = []) (hr : Room k callerA)
    (hY : ∀ (w : World) (h : Heap), YP w h → (K w.params).In h)
    (F : ∀ (w : World) (mg : Str → Option Value) (fa : Addr) (h : Heap), (K w.params).In h → h.Ns mainGlobals mg → mg d.name = some (.ref fa) →
      ∃ fd : FuncData, (∀ (s : Shared) (u : Value), BindsTo s fd ⟨[u], []⟩ [(x, u)]) ∧
        ∀ base : Heap, (K w.params).In base → base.Ns mainGlobals mg → FnOk l.prog w (K w.params) mg base (CX w) k fa fd [x] (sp w))
    (hsp : ∀ (w : World) (H : Hp) (a : Addr) (ns : List Int), ns.length ≤ n → Only H → SqL (K w.params) H a (ns.map V.int) → sp w [.ref a] H (fun v _ => v = .bl true) fun _ _ _ => False)
    (hCX : ∀ (w : World) (H : Hp) (s : Shared) (e : Value) (s' : Shared), CX w [] H s (fun _ _ _ => False) e s' → False) :
    PySem.W.WalkO q loose XP YP l.row.toRowW d [] (fun f vs => PySem.call f vs) := by
  refine Att.attach_call hn hdf fun w s₀ s₁ mg mb fa o pm cd doc a vs ns G Y ho hd hcd hmg hobj hints hlen hg => ?_
  have KX := hY w _ Y
  obtain ⟨fd, hb, hF⟩ := F w mg fa _ KX G.T.g hmg
  exact law_call KX G.T.g G.T.b G.T.builtins G.T.nolimit hg hobj hints (Nat.le_trans hlen hn2) hr hF hb (fun H hO hS => hsp w H a ns hlen hO hS) fun H e s' => hCX w H s₁ e s'
/-- the same where the promise hangs on the written part alone: (sp := My.sp_law), no hole under a binder -/
theorem walk_ofK {l : PySem.W.OpenLaw} {n k : Nat} {q : Program} {loose : List Str} {XP : (Str → Option Value) → Heap → Prop} {YP : World → Heap → Prop} {d : DefRec} {K : Params → PySem.W.Frag} {CX : CXT} {sp : PySem.W.Frag → Sp} {x : Str}
    (hn : l.most = some n) (hn2 : n ≤ sizeLine) (hdf : d.params.defaults = []) (hr : Room k callerA)
    (hY : ∀ (w : World) (h : Heap), YP w h → (K w.params).In h)
    (F : ∀ (w : World) (mg : Str → Option Value) (fa : Addr) (h : Heap), (K w.params).In h → h.Ns mainGlobals mg → mg d.name = some (.ref fa) →
      ∃ fd : FuncData, (∀ (s : Shared) (u : Value), BindsTo s fd ⟨[u], []⟩ [(x, u)]) ∧
        ∀ base : Heap, (K w.params).In base → base.Ns mainGlobals mg → FnOk l.prog w (K w.params) mg base CX k fa fd [x] (sp (K w.params)))
    (hsp : ∀ (K : PySem.W.Frag) (H : Hp) (a : Addr) (ns : List Int), ns.length ≤ n → Only H → SqL K H a (ns.map V.int) → sp K [.ref a] H (fun v _ => v = .bl true) fun _ _ _ => False)
    (hCX : ∀ (H : Hp) (s : Shared) (e : Value) (s' : Shared), CX [] H s (fun _ _ _ => False) e s' → False) :
    PySem.W.WalkO q loose XP YP l.row.toRowW d [] (fun f vs => PySem.call f vs) :=
  walk_of (K := K) (CX := fun _ => CX) (sp := fun w => sp (K w.params)) hn hn2 hdf hr hY F (fun w H a ns h1 h2 h3 => hsp (K w.params) H a ns h1 h2 h3) fun _ H s e s' => hCX H s e s'
end L2

/- THE LAST THEOREM (shape; LID, My.* are yours):
   My.Adr: a structure of the addresses that your layer names (classes, functions); My.Txt K t: a structure (Prop) of the equations over K;
   My.txt_mk : {K} {implicit addresses ..} (e1 : nsIn K mainGlobals "law" = some (some (.ref f))) (e2 : K.lookup f = some ⟨oc, od, .func (fnOf "law" "law" params body scope dV kV doc pm an cdv ct), sl⟩) (e3 : codeIn K cdv "law" = true) .. : ∃ t, My.Txt K t

set_option maxRecDepth 100000 in
set_option maxHeartbeats 0 in
theorem PySem.Challenge.cw_LID_holds : PySem.Challenge.rw_LID.Holds := by
  w_on; o_law; k_head; (case hw => w_witness2)
  k_fill
  refine L2.walk_of (l := PySem.Challenge.rw_LID) (n := 63) (k := 40) (x := "script") (CX := fun w => ..) (sp := fun _ => My.sp_law) rfl (by decide) rfl ⟨rfl, by decide, by decide⟩ (fun w h Y => PySem.W.kIn_of Y) ?F ?S ?C
  case F =>
    intro w mg fa h KX G hmg
    have T : ∃ t, My.Txt (L2.KOf KX) t := by
      dsimp only [L2.KOf]                          -- K must stand as «<heap const> w.params» for k_is
      refine' My.txt_mk ?e1 ?e2 ?e3 ..
      (case e1 => PySem.W.k_is)                    -- in the order: a name -> its address -> its object -> its parts
      (case e2 => PySem.W.k_is)
      ..
    obtain ⟨t, T⟩ := T
    have e0 := hmg.symm.trans (PySem.W.mg_of KX G T.law)
    cases e0                                       -- fa is the law's own address
    exact ⟨_, fun s u => .of_eq rfl, fun base kb nb => My.law_fn T kb nb⟩     -- if «.of_eq rfl» comes too early: refine' ⟨_, ?b, fun base kb nb => My.law_fn T kb nb⟩; exact fun s u => .of_eq rfl
  case S => exact fun w H a ns hl hO hS => ..
  case C => exact ..
(the tactic k_is has no namespace: write k_is) -/

/-! SHORT WORDS over the layer: a def of the text, its body, what a loop and a test want. -/
namespace L2
open PySem PySem.Spec PyProof.Rows

/-! ### the text by places -/
/-- the j-th statement of a class's body -/
def inClass (s : Stmt) (j : Nat) : Stmt := match s with
  | .ClassDef _ _ _ body _ _ _ _ _ _ _ => body.getD j (.Pass ⟨0, 0, 0, 0⟩)
  | _ => .Pass ⟨0, 0, 0, 0⟩
def defArgs (s : Stmt) : Arguments := match s with
  | .FunctionDef _ a _ _ _ _ _ _ _ _ => a
  | _ => { posonlyargs := [], args := [], vararg := none, kwonlyargs := [], kw_defaults := [], kwarg := none, defaults := [] }
def defBody (s : Stmt) : List Stmt := match s with
  | .FunctionDef _ _ b _ _ _ _ _ _ _ => b
  | _ => []
def defScope (s : Stmt) : Scope := match s with
  | .FunctionDef _ _ _ _ _ _ sc _ _ _ => sc
  | _ => { kind := .function, names := [], isGenerator := false, isCoroutine := false }

/-! ### no exception leaves a def -/
abbrev CX0 : CXT := fun _ _ _ _ _ _ => False
abbrev E0 : XK := fun _ _ _ => False
theorem pass0 {X : Cx} : Passes CX0 X E0 := fun _ _ _ _ _ _ _ h => h.elim

/-! ### a def (or method) of the text as it stands behind the top -/
structure Fun (K : PySem.W.Frag) (x qual : Str) (st : Stmt) (f : Addr) (fd : FuncData) : Prop where
  ex : ∃ (oc : Value) (od : Option Addr) (kV doc pm : Value) (an : Option Addr) (cdv ct : Value) (osl : Array (Option Value)),
    fd = PySem.W.fnOf x qual (defArgs st) (defBody st) (defScope st) .none kV doc pm an cdv ct ∧ K.lookup f = some ⟨oc, od, .func fd, osl⟩ ∧ PySem.W.codeIn K cdv qual = true
  kp : PySem.W.keepIn K (.ref f) = true
section
variable {P : Program} {w : World} {K : PySem.W.Frag} {mg : Str → Option Value} {base : Heap}
/-- THE RULE for a def: its body as a term of rules, and the reading of that term -/
theorem Fun.ok {x qual : Str} {st : Stmt} {f : Addr} {fd : FuncData} {N ps : List Str} {k : Nat} {sp : Sp} (F : Fun K x qual st f fd) (S : FnScope N ps (defScope st)) (len : ∀ vs H Q E, sp vs H Q E → vs.length = ps.length)
    (hbody : ∀ (cdv : Value) (A : Around) (outer : List Env) (s : Shared) (H : Hp) (vs : List V) (Q : VK) (E : XK), Room k (A.deeper (envOfC qual (defScope st) s.heap.objs.size f cdv)) → sp vs H Q E →
      ∃ t, PSs (cxOf CX0 P w K mg base N qual (defScope st) f cdv A outer s H E).nox (defBody st) t ∧ t { nx := fun _ H' => Q .non H', rt := Q } (start N vs) H) : FnOk P w K mg base CX0 (k + 1) f fd ps sp := by
  obtain ⟨oc, od, kV, doc, pm, an, cdv, ct, osl, rfl, lk, hcd⟩ := F.ex
  refine fn_of lk hcd S len fun A outer s H vs Q E hr hsp => ?_
  obtain ⟨t, h, q⟩ := hbody cdv A outer s H vs Q E hr hsp
  exact ⟨t, h.nox, q⟩
/-- how its arguments bind (no defaults): h is «fun _ _ _ _ _ _ us hl => match us, hl with | [_, _], _ => rfl», one _ a parameter -/
theorem Fun.binds {x qual : Str} {st : Stmt} {f : Addr} {fd : FuncData} {ps : List Str} (F : Fun K x qual st f fd)
    (h : ∀ (kV doc pm : Value) (an : Option Addr) (cdv ct : Value) (us : List Value), us.length = ps.length → bindArgs (PySem.W.fnOf x qual (defArgs st) (defBody st) (defScope st) .none kV doc pm an cdv ct) ⟨us, []⟩ = pure (ps.zip us)) : Binds K fd ps [] := by
  obtain ⟨oc, od, kV, doc, pm, an, cdv, ct, osl, rfl, lk, hcd⟩ := F.ex
  exact .all (h kV doc pm an cdv ct)
theorem fun_mk {x qual : Str} {st : Stmt} {f : Addr} {oc : Value} {od an : Option Addr} {osl : Array (Option Value)} {kV doc pm cdv ct : Value} (l : K.lookup f = some ⟨oc, od, .func (PySem.W.fnOf x qual (defArgs st) (defBody st) (defScope st) .none kV doc pm an cdv ct), osl⟩)
    (c : PySem.W.codeIn K cdv qual = true) (k : PySem.W.keepIn K (.ref f) = true) : Fun K x qual st f (PySem.W.fnOf x qual (defArgs st) (defBody st) (defScope st) .none kV doc pm an cdv ct) := ⟨⟨oc, od, kV, doc, pm, an, cdv, ct, osl, rfl, l, c⟩, k⟩
end
theorem small1000 {n : Nat} (h : n ≤ 1000) : n < sizeLine := Nat.lt_of_le_of_lt h (by decide)

/-! ### expressions in short: the name that stands in the i-th slot -/
section
variable {X : Cx}
theorem pv (i : Nat) {x : Str} {pos : Pos} (hN : X.N[i]? = some x := by rfl) (hv : Vis X.env.scope x := by first | exact Or.inl rfl | exact Or.inr (Or.inl rfl) | exact Or.inr (Or.inr rfl)) (hd : (x == ("__debug__" : Str)) = false := by decide)
    (hcd : (x == ("__classdict__" : Str)) = false := by decide) : PE X (.Name x pos) (tVar i) := pe_var hN hv hd hcd
end

/-! ### tests -/
theorem iteF {A B : Prop} (h : B) : if false = true then A else B := by
  rw [if_neg Bool.false_ne_true]
  exact h
theorem iteT {A B : Prop} (h : A) : if true = true then A else B := by
  rw [if_pos rfl]
  exact h

/-! ### heaps -/
/-- all that was tracked is as it was -/
def Same (H H' : Hp) : Prop := ∀ b o, H b = some o → H' b = some o
theorem Same.refl (H : Hp) : Same H H := fun _ _ h => h
theorem Same.trans {H H1 H2 : Hp} (a : Same H H1) (b : Same H1 H2) : Same H H2 := fun c o h => b c o (a c o h)
theorem Same.free {H H' : Hp} (e : Same H H') {l : Addr} (h : H' l = Option.none) : H l = Option.none := by
  cases q : H l with
  | none => rfl
  | some o =>
    rw [e l o q] at h
    cases h
theorem Same.seq {K : PySem.W.Frag} {H H' : Hp} {a : Addr} {xs : List V} (e : Same H H') (h : SqL K H a xs) : SqL K H' a xs := by
  rcases h with (h | ⟨o, h⟩) | h
  · exact .inl (.inl (e _ _ h))
  · exact .inl (.inr ⟨o, e _ _ h⟩)
  · exact .inr h

end L2

set_option maxHeartbeats 0
lay_quick PySem.Challenge.pw_weighwalk_k06_minus_and_inverses
namespace H06
open PySem PySem.W
noncomputable abbrev kh := @PySem.PyData.keyHash
noncomputable def topT (i : Nat) : Stmt := PySem.W.Fast.tw1572466855055509570.main.body.getD i (.Pass ⟨0, 0, 0, 0⟩)
noncomputable def s0 : Str := ⟨⟨[60, 109, 111, 100, 117, 108, 101, 62]⟩⟩
noncomputable def s1 : Str := ⟨⟨[47, 99, 108, 97, 105, 109, 47, 99, 117, 116, 46, 112, 121]⟩⟩
noncomputable def s2 : Str := ⟨⟨[95, 95, 109, 97, 105, 110, 95, 95]⟩⟩
noncomputable def s3 : Str := ⟨⟨[95, 95, 110, 97, 109, 101, 95, 95]⟩⟩
noncomputable def s4 : Str := ⟨⟨[119, 101, 105, 103, 104, 119, 97, 108, 107, 46, 101, 114, 114, 111, 114, 115]⟩⟩
noncomputable def s5 : Str := ⟨⟨[95, 95, 100, 111, 99, 95, 95]⟩⟩
noncomputable def s6 : Str := ⟨⟨[95, 95, 112, 97, 99, 107, 97, 103, 101, 95, 95]⟩⟩
noncomputable def s7 : Str := ⟨⟨[95, 95, 108, 111, 97, 100, 101, 114, 95, 95]⟩⟩
noncomputable def s8 : Str := ⟨⟨[95, 95, 115, 112, 101, 99, 95, 95]⟩⟩
noncomputable def s9 : Str := ⟨⟨[95, 95, 97, 110, 110, 111, 116, 97, 116, 105, 111, 110, 115, 95, 95]⟩⟩
noncomputable def s10 : Str := ⟨⟨[95, 95, 98, 117, 105, 108, 116, 105, 110, 115, 95, 95]⟩⟩
noncomputable def s11 : Str := ⟨⟨[95, 95, 102, 105, 108, 101, 95, 95]⟩⟩
noncomputable def s12 : Str := ⟨⟨[95, 95, 99, 97, 99, 104, 101, 100, 95, 95]⟩⟩
noncomputable def s13 : Str := ⟨⟨[95, 119, 97, 108, 108]⟩⟩
noncomputable def s14 : Str := ⟨⟨[87, 101, 105, 103, 104, 69, 114, 114, 111, 114]⟩⟩
noncomputable def s15 : Str := ⟨⟨[78, 111, 75, 105, 110, 100]⟩⟩
noncomputable def s16 : Str := ⟨⟨[87, 114, 111, 110, 103, 75, 105, 110, 100]⟩⟩
noncomputable def s17 : Str := ⟨⟨[107]⟩⟩
noncomputable def s18 : Str := ⟨⟨[95, 95, 109, 111, 100, 117, 108, 101, 95, 95]⟩⟩
noncomputable def s19 : Str := ⟨⟨[95, 95, 113, 117, 97, 108, 110, 97, 109, 101, 95, 95]⟩⟩
noncomputable def s20 : Str := ⟨⟨[95, 95, 102, 105, 114, 115, 116, 108, 105, 110, 101, 110, 111, 95, 95]⟩⟩
noncomputable def s21 : Str := ⟨⟨[95, 95, 115, 116, 97, 116, 105, 99, 95, 97, 116, 116, 114, 105, 98, 117, 116, 101, 115, 95, 95]⟩⟩
noncomputable def s22 : Str := ⟨⟨[95, 95, 119, 101, 97, 107, 114, 101, 102, 95, 95]⟩⟩
noncomputable def s23 : Str := ⟨⟨[119, 101, 105, 103, 104, 119, 97, 108, 107, 46, 107, 105, 110, 100, 115]⟩⟩
noncomputable def s24 : Str := ⟨⟨[78, 111, 87, 101, 105, 103, 104, 116]⟩⟩
noncomputable def s25 : Str := ⟨⟨[78, 111, 84, 101, 120, 116]⟩⟩
noncomputable def s26 : Str := ⟨⟨[105, 115, 95, 119, 104, 111, 108, 101]⟩⟩
noncomputable def s27 : Str := ⟨⟨[100, 105, 118, 105, 115, 111, 114]⟩⟩
noncomputable def s28 : Str := ⟨⟨[102, 114, 97, 99, 116, 105, 111, 110]⟩⟩
noncomputable def s29 : Str := ⟨⟨[105, 115, 95, 112, 114, 105, 109, 101]⟩⟩
noncomputable def s30 : Str := ⟨⟨[70, 73, 71, 85, 82, 69, 83]⟩⟩
noncomputable def s31 : Str := ⟨⟨[48, 49, 50, 51, 52, 53, 54, 55, 56, 57]⟩⟩
noncomputable def s32 : Str := ⟨⟨[77, 79, 83, 84, 95, 70, 73, 71, 85, 82, 69, 83]⟩⟩
noncomputable def s33 : Str := ⟨⟨[71, 82, 69, 65, 84, 69, 83, 84, 95, 80, 82, 73, 77, 69]⟩⟩
noncomputable def s34 : Str := ⟨⟨[105, 115, 95, 119, 114, 105, 116, 116, 101, 110]⟩⟩
noncomputable def s35 : Str := ⟨⟨[114, 101, 97, 100, 95, 119, 104, 111, 108, 101]⟩⟩
noncomputable def s36 : Str := ⟨⟨[110, 101, 101, 100, 95, 116, 101, 120, 116]⟩⟩
noncomputable def s37 : Str := ⟨⟨[116, 104, 105, 110, 103]⟩⟩
noncomputable def s38 : Str := ⟨⟨[119, 101, 105, 103, 104, 119, 97, 108, 107, 46, 114, 97, 116, 105, 111, 115]⟩⟩
noncomputable def s39 : Str := ⟨⟨[111, 110, 101]⟩⟩
noncomputable def s40 : Str := ⟨⟨[111, 116, 104, 101, 114]⟩⟩
noncomputable def s41 : Str := ⟨⟨[103, 114, 101, 97, 116, 101, 115, 116]⟩⟩
noncomputable def s42 : Str := ⟨⟨[114, 101, 115, 116]⟩⟩
noncomputable def s43 : Str := ⟨⟨[108, 101, 102, 116]⟩⟩
noncomputable def s44 : Str := ⟨⟨[116, 111, 112]⟩⟩
noncomputable def s45 : Str := ⟨⟨[98, 111, 116, 116, 111, 109]⟩⟩
noncomputable def s46 : Str := ⟨⟨[115, 104, 97, 114, 101, 100]⟩⟩
noncomputable def s47 : Str := ⟨⟨[110, 117, 109, 98, 101, 114]⟩⟩
noncomputable def s48 : Str := ⟨⟨[102, 97, 99, 116, 111, 114]⟩⟩
noncomputable def s49 : Str := ⟨⟨[116, 101, 120, 116]⟩⟩
noncomputable def s50 : Str := ⟨⟨[75, 105, 110, 100]⟩⟩
noncomputable def s51 : Str := ⟨⟨[70, 105, 101, 108, 100]⟩⟩
noncomputable def s52 : Str := ⟨⟨[95, 95, 100, 105, 99, 116, 95, 95]⟩⟩
noncomputable def s53 : Str := ⟨⟨[105, 115, 95, 102, 105, 101, 108, 100]⟩⟩
noncomputable def s54 : Str := ⟨⟨[112, 105, 99, 107, 115]⟩⟩
noncomputable def s55 : Str := ⟨⟨[115, 101, 108, 102]⟩⟩
noncomputable def s56 : Str := ⟨⟨[70, 105, 101, 108, 100, 46, 105, 115, 95, 102, 105, 101, 108, 100]⟩⟩
noncomputable def s57 : Str := ⟨⟨[70, 105, 101, 108, 100, 46, 112, 105, 99, 107, 115]⟩⟩
noncomputable def s58 : Str := ⟨⟨[80, 105, 99, 107, 105, 110, 103]⟩⟩
noncomputable def s59 : Str := ⟨⟨[109, 105, 110, 117, 115]⟩⟩
noncomputable def s60 : Str := ⟨⟨[105, 110, 118, 101, 114, 115, 101]⟩⟩
noncomputable def s61 : Str := ⟨⟨[80, 105, 99, 107, 105, 110, 103, 46, 105, 115, 95, 102, 105, 101, 108, 100]⟩⟩
noncomputable def s62 : Str := ⟨⟨[80, 105, 99, 107, 105, 110, 103, 46, 112, 105, 99, 107, 115]⟩⟩
noncomputable def s63 : Str := ⟨⟨[120]⟩⟩
noncomputable def s64 : Str := ⟨⟨[80, 105, 99, 107, 105, 110, 103, 46, 109, 105, 110, 117, 115]⟩⟩
noncomputable def s65 : Str := ⟨⟨[80, 105, 99, 107, 105, 110, 103, 46, 105, 110, 118, 101, 114, 115, 101]⟩⟩
noncomputable def s66 : Str := ⟨⟨[70, 114, 97, 99, 116, 105, 111, 110, 115]⟩⟩
noncomputable def s67 : Str := ⟨⟨[116, 111, 108, 100]⟩⟩
noncomputable def s68 : Str := ⟨⟨[110, 111, 117, 103, 104, 116]⟩⟩
noncomputable def s69 : Str := ⟨⟨[112, 108, 117, 115]⟩⟩
noncomputable def s70 : Str := ⟨⟨[116, 105, 109, 101, 115]⟩⟩
noncomputable def s71 : Str := ⟨⟨[105, 115, 95, 119, 101, 105, 103, 104, 116]⟩⟩
noncomputable def s72 : Str := ⟨⟨[115, 104, 111, 119, 110]⟩⟩
noncomputable def s73 : Str := ⟨⟨[114, 101, 97, 100]⟩⟩
noncomputable def s74 : Str := ⟨⟨[70, 114, 97, 99, 116, 105, 111, 110, 115, 46, 116, 111, 108, 100]⟩⟩
noncomputable def s75 : Str := ⟨⟨[70, 114, 97, 99, 116, 105, 111, 110, 115, 46, 110, 111, 117, 103, 104, 116]⟩⟩
noncomputable def s76 : Str := ⟨⟨[70, 114, 97, 99, 116, 105, 111, 110, 115, 46, 111, 110, 101]⟩⟩
noncomputable def s77 : Str := ⟨⟨[121]⟩⟩
noncomputable def s78 : Str := ⟨⟨[70, 114, 97, 99, 116, 105, 111, 110, 115, 46, 112, 108, 117, 115]⟩⟩
noncomputable def s79 : Str := ⟨⟨[70, 114, 97, 99, 116, 105, 111, 110, 115, 46, 116, 105, 109, 101, 115]⟩⟩
noncomputable def s80 : Str := ⟨⟨[70, 114, 97, 99, 116, 105, 111, 110, 115, 46, 109, 105, 110, 117, 115]⟩⟩
noncomputable def s81 : Str := ⟨⟨[70, 114, 97, 99, 116, 105, 111, 110, 115, 46, 105, 110, 118, 101, 114, 115, 101]⟩⟩
noncomputable def s82 : Str := ⟨⟨[70, 114, 97, 99, 116, 105, 111, 110, 115, 46, 105, 115, 95, 119, 101, 105, 103, 104, 116]⟩⟩
noncomputable def s83 : Str := ⟨⟨[70, 114, 97, 99, 116, 105, 111, 110, 115, 46, 115, 104, 111, 119, 110]⟩⟩
noncomputable def s84 : Str := ⟨⟨[112, 105, 101, 99, 101, 115]⟩⟩
noncomputable def s85 : Str := ⟨⟨[70, 114, 97, 99, 116, 105, 111, 110, 115, 46, 114, 101, 97, 100]⟩⟩
noncomputable def s86 : Str := ⟨⟨[82, 101, 115, 105, 100, 117, 101, 115]⟩⟩
noncomputable def s87 : Str := ⟨⟨[95, 95, 105, 110, 105, 116, 95, 95]⟩⟩
noncomputable def s88 : Str := ⟨⟨[112, 114, 105, 109, 101]⟩⟩
noncomputable def s89 : Str := ⟨⟨[82, 101, 115, 105, 100, 117, 101, 115, 46, 95, 95, 105, 110, 105, 116, 95, 95]⟩⟩
noncomputable def s90 : Str := ⟨⟨[82, 101, 115, 105, 100, 117, 101, 115, 46, 116, 111, 108, 100]⟩⟩
noncomputable def s91 : Str := ⟨⟨[82, 101, 115, 105, 100, 117, 101, 115, 46, 110, 111, 117, 103, 104, 116]⟩⟩
noncomputable def s92 : Str := ⟨⟨[82, 101, 115, 105, 100, 117, 101, 115, 46, 111, 110, 101]⟩⟩
noncomputable def s93 : Str := ⟨⟨[82, 101, 115, 105, 100, 117, 101, 115, 46, 112, 108, 117, 115]⟩⟩
noncomputable def s94 : Str := ⟨⟨[82, 101, 115, 105, 100, 117, 101, 115, 46, 116, 105, 109, 101, 115]⟩⟩
noncomputable def s95 : Str := ⟨⟨[82, 101, 115, 105, 100, 117, 101, 115, 46, 109, 105, 110, 117, 115]⟩⟩
noncomputable def s96 : Str := ⟨⟨[112, 114, 111, 100, 117, 99, 116]⟩⟩
noncomputable def s97 : Str := ⟨⟨[115, 113, 117, 97, 114, 101]⟩⟩
noncomputable def s98 : Str := ⟨⟨[82, 101, 115, 105, 100, 117, 101, 115, 46, 105, 110, 118, 101, 114, 115, 101]⟩⟩
noncomputable def s99 : Str := ⟨⟨[82, 101, 115, 105, 100, 117, 101, 115, 46, 105, 115, 95, 119, 101, 105, 103, 104, 116]⟩⟩
noncomputable def s100 : Str := ⟨⟨[82, 101, 115, 105, 100, 117, 101, 115, 46, 115, 104, 111, 119, 110]⟩⟩
noncomputable def s101 : Str := ⟨⟨[82, 101, 115, 105, 100, 117, 101, 115, 46, 114, 101, 97, 100]⟩⟩
noncomputable def s102 : Str := ⟨⟨[67, 111, 115, 116, 115]⟩⟩
noncomputable def s103 : Str := ⟨⟨[67, 111, 115, 116, 115, 46, 116, 111, 108, 100]⟩⟩
noncomputable def s104 : Str := ⟨⟨[67, 111, 115, 116, 115, 46, 110, 111, 117, 103, 104, 116]⟩⟩
noncomputable def s105 : Str := ⟨⟨[67, 111, 115, 116, 115, 46, 111, 110, 101]⟩⟩
noncomputable def s106 : Str := ⟨⟨[67, 111, 115, 116, 115, 46, 112, 108, 117, 115]⟩⟩
noncomputable def s107 : Str := ⟨⟨[67, 111, 115, 116, 115, 46, 116, 105, 109, 101, 115]⟩⟩
noncomputable def s108 : Str := ⟨⟨[67, 111, 115, 116, 115, 46, 105, 115, 95, 119, 101, 105, 103, 104, 116]⟩⟩
noncomputable def s109 : Str := ⟨⟨[67, 111, 115, 116, 115, 46, 115, 104, 111, 119, 110]⟩⟩
noncomputable def s110 : Str := ⟨⟨[67, 111, 115, 116, 115, 46, 114, 101, 97, 100]⟩⟩
noncomputable def s111 : Str := ⟨⟨[108, 97, 119, 95, 119, 101, 105, 103, 104, 119, 97, 108, 107, 95, 107, 48, 54, 95, 109, 105, 110, 117, 115, 95, 97, 110, 100, 95, 105, 110, 118, 101, 114, 115, 101, 115]⟩⟩
noncomputable def s112 : Str := ⟨⟨[84, 114, 117, 116, 104, 115]⟩⟩
noncomputable def s113 : Str := ⟨⟨[95, 108, 97, 119, 95, 100, 105, 118, 105, 115, 111, 114]⟩⟩
noncomputable def s114 : Str := ⟨⟨[95, 108, 97, 119, 95, 108, 111, 119]⟩⟩
noncomputable def s115 : Str := ⟨⟨[95, 108, 97, 119, 95, 110, 117, 109, 98, 101, 114]⟩⟩
noncomputable def s116 : Str := ⟨⟨[95, 108, 97, 119, 95, 119, 101, 105, 103, 104, 116]⟩⟩
noncomputable def s117 : Str := ⟨⟨[95, 108, 97, 119, 95, 114, 101, 102, 117, 115, 101, 100]⟩⟩
noncomputable def s118 : Str := ⟨⟨[95, 108, 97, 119, 95, 102, 105, 101, 108, 100]⟩⟩
noncomputable def s119 : Str := ⟨⟨[95, 108, 97, 119, 95, 112, 105, 99, 107, 105, 110, 103]⟩⟩
noncomputable def s120 : Str := ⟨⟨[108, 97, 119]⟩⟩
noncomputable def s121 : Str := ⟨⟨[84, 114, 117, 116, 104, 115, 46, 116, 111, 108, 100]⟩⟩
noncomputable def s122 : Str := ⟨⟨[84, 114, 117, 116, 104, 115, 46, 110, 111, 117, 103, 104, 116]⟩⟩
noncomputable def s123 : Str := ⟨⟨[84, 114, 117, 116, 104, 115, 46, 111, 110, 101]⟩⟩
noncomputable def s124 : Str := ⟨⟨[84, 114, 117, 116, 104, 115, 46, 112, 108, 117, 115]⟩⟩
noncomputable def s125 : Str := ⟨⟨[84, 114, 117, 116, 104, 115, 46, 116, 105, 109, 101, 115]⟩⟩
noncomputable def s126 : Str := ⟨⟨[84, 114, 117, 116, 104, 115, 46, 105, 115, 95, 119, 101, 105, 103, 104, 116]⟩⟩
noncomputable def s127 : Str := ⟨⟨[84, 114, 117, 116, 104, 115, 46, 115, 104, 111, 119, 110]⟩⟩
noncomputable def s128 : Str := ⟨⟨[84, 114, 117, 116, 104, 115, 46, 114, 101, 97, 100]⟩⟩
noncomputable def s129 : Str := ⟨⟨[95, 108, 97, 119, 95, 111, 110, 101]⟩⟩
noncomputable def s130 : Str := ⟨⟨[95, 108, 97, 119, 95, 111, 116, 104, 101, 114]⟩⟩
noncomputable def s131 : Str := ⟨⟨[95, 108, 97, 119, 95, 116, 111, 112]⟩⟩
noncomputable def s132 : Str := ⟨⟨[95, 108, 97, 119, 95, 98, 111, 116, 116, 111, 109]⟩⟩
noncomputable def s133 : Str := ⟨⟨[95, 108, 97, 119, 95, 98, 121]⟩⟩
noncomputable def s134 : Str := ⟨⟨[95, 108, 97, 119, 95, 99, 101, 108, 108]⟩⟩
noncomputable def s135 : Str := ⟨⟨[95, 108, 97, 119, 95, 119, 97, 121]⟩⟩
noncomputable def s136 : Str := ⟨⟨[95, 108, 97, 119, 95, 112, 114, 105, 109, 101]⟩⟩
noncomputable def s137 : Str := ⟨⟨[95, 108, 97, 119, 95, 107, 105, 110, 100]⟩⟩
noncomputable def s138 : Str := ⟨⟨[95, 108, 97, 119, 95, 105, 115, 95, 109, 105, 110, 117, 115]⟩⟩
noncomputable def s139 : Str := ⟨⟨[95, 108, 97, 119, 95, 120]⟩⟩
noncomputable def s140 : Str := ⟨⟨[95, 108, 97, 119, 95, 116, 111, 108, 100]⟩⟩
noncomputable def s141 : Str := ⟨⟨[101]⟩⟩
noncomputable def s142 : Str := ⟨⟨[95, 108, 97, 119, 95, 110, 111, 117, 103, 104, 116]⟩⟩
noncomputable def s143 : Str := ⟨⟨[95, 108, 97, 119, 95, 98, 97, 99, 107]⟩⟩
noncomputable def s144 : Str := ⟨⟨[95, 108, 97, 119, 95, 115, 99, 114, 105, 112, 116]⟩⟩
noncomputable def s145 : Str := ⟨⟨[95, 108, 97, 119, 95, 99, 101, 108, 108, 115]⟩⟩
noncomputable def s146 : Str := ⟨⟨[95, 108, 97, 119, 95, 107, 105, 110, 100, 115]⟩⟩
noncomputable def o11a (P : Params) : Obj := ⟨(.type PySem.W.SL.s2766695959194262286x5), none, (.seq #[] 0), #[]⟩
noncomputable def o12a (P : Params) : Obj := ⟨.none, none, (.fields #[]), #[]⟩
noncomputable def o13a (P : Params) : Obj := ⟨(.type PySem.W.SL.s5856160107412720595x4), none, (.fields #[(.str s0 182), (.str s0 183), (.str s1 184), (.int 1 0), (.int 0 0), (.int 0 0), (.int 0 0), (.int 0 0), (.ref 11), (.bool false), (.int 181 0), (.ref 12), .none, .none, .none, .none, (.int 185 0), (.int 1 0), (.str s1 186)]), #[]⟩
noncomputable def o14a (P : Params) : Obj := ⟨(.type PySem.W.SL.s658472552662922059x5), none, .plain, #[(some (.ref 13)), (some (.ref 3)), (some (.ref 3)), none, (some (.str s2 164)), none, (some (.ref 0))]⟩
noncomputable def o3_0 (P : Params) : Obj := ⟨(.type PySem.W.SL.s14018661285674007319x4), none, (.dict #[⟨(kh P s3), (.str s3 165), (.str s4 194)⟩, ⟨(kh P s5), (.str s5 166), .none⟩, ⟨(kh P s6), (.str s6 167), .none⟩, ⟨(kh P s7), (.str s7 168), (.builtin PySem.W.SL.s7097527257260152453x26)⟩, ⟨(kh P s8), (.str s8 169), .none⟩, ⟨(kh P s9), (.str s9 170), (.ref 6)⟩, ⟨(kh P s10), (.str s10 171), (.ref 4)⟩, ⟨(kh P s11), (.str s11 173), (.str s1 172)⟩, ⟨(kh P s12), (.str s12 174), .none⟩, ⟨(kh P s13), (.str s13 193), (.ref 21)⟩, ⟨(kh P s14), (.str s14 213), (.ref 31)⟩, ⟨(kh P s15), (.str s15 229), (.ref 44)⟩, ⟨(kh P s16), (.str s16 245), (.ref 56)⟩] 13), #[]⟩
noncomputable def o12_0 (P : Params) : Obj := ⟨.none, none, (.fields #[(.int 1 0), (.int 0 0), (.ref 20), (.int 5 0), (.int 0 0), (.ref 27), (.int 7 0), (.int 0 0), (.ref 40), (.int 9 0), (.int 0 0), (.ref 52)]), #[]⟩
noncomputable def o15_0 (P : Params) : Obj := ⟨(.type PySem.W.SL.s2766695959194262286x5), none, (.seq #[] 0), #[]⟩
noncomputable def o16_0 (P : Params) : Obj := ⟨.none, none, (.fields #[]), #[]⟩
noncomputable def o17_0 (P : Params) : Obj := ⟨(.type PySem.W.SL.s2766695959194262286x5), none, (.seq #[(.str s17 190)] 0), #[]⟩
noncomputable def o18_0 (P : Params) : Obj := ⟨(.type PySem.W.SL.s2766695959194262286x5), none, (.seq #[] 0), #[]⟩
noncomputable def o19_0 (P : Params) : Obj := ⟨.none, none, (.func ⟨s13, s13, (L2.defArgs (topT 0)), (.stmts (L2.defBody (topT 0))), (L2.defScope (topT 0)), 0, [], .none, .none, .none, .none, none, .none, .none, 0⟩), #[]⟩
noncomputable def o20_0 (P : Params) : Obj := ⟨(.type PySem.W.SL.s5856160107412720595x4), none, (.fields #[(.str s13 187), (.str s13 188), (.str s1 189), (.int 1 0), (.int 1 0), (.int 0 0), (.int 0 0), (.int 3 0), (.ref 15), (.bool true), (.int 181 0), (.ref 16), .none, (.ref 17), (.ref 18), (.ref 19), (.int 191 0), (.int 1 0), (.str s1 192)]), #[]⟩
noncomputable def o21_0 (P : Params) : Obj := ⟨(.type PySem.W.SL.s7174869446012820540x8), none, (.func ⟨s13, s13, (L2.defArgs (topT 0)), (.stmts (L2.defBody (topT 0))), (L2.defScope (topT 0)), 3, [], .none, .none, .none, (.str s2 164), none, (.ref 20), .none, 0⟩), #[]⟩
noncomputable def o22_0 (P : Params) : Obj := ⟨(.type PySem.W.SL.s2766695959194262286x5), none, (.seq #[(.type PySem.W.SL.s6070975301684473832x10)] 0), #[]⟩
noncomputable def o23_0 (P : Params) : Obj := ⟨(.type PySem.W.SL.s11030030927630378310x26), none, (.fields #[(.builtin PySem.W.SL.s10062305145149207511x16), (.type PySem.W.SL.s17162191345867700912x4)]), #[]⟩
noncomputable def o24_0 (P : Params) : Obj := ⟨(.type PySem.W.SL.s14018661285674007319x4), none, (.dict #[⟨(kh P s18), (.str s18 203), (.str s4 194)⟩, ⟨(kh P s19), (.str s19 205), (.str s14 204)⟩, ⟨(kh P s20), (.str s20 207), (.int 5 206)⟩, ⟨(kh P s21), (.str s21 208), (.ref 29)⟩] 4), #[]⟩
noncomputable def o25_0 (P : Params) : Obj := ⟨(.type PySem.W.SL.s2766695959194262286x5), none, (.seq #[] 0), #[]⟩
noncomputable def o26_0 (P : Params) : Obj := ⟨.none, none, (.fields #[]), #[]⟩
noncomputable def o27_0 (P : Params) : Obj := ⟨(.type PySem.W.SL.s5856160107412720595x4), none, (.fields #[(.str s14 198), (.str s14 199), (.str s1 200), (.int 5 0), (.int 0 0), (.int 0 0), (.int 0 0), (.int 0 0), (.ref 25), (.bool false), (.int 181 0), (.ref 26), .none, .none, .none, .none, (.int 201 0), (.int 5 0), (.str s1 202)]), #[]⟩
noncomputable def o28_0 (P : Params) : Obj := ⟨(.type PySem.W.SL.s658472552662922059x5), none, .plain, #[(some (.ref 27)), (some (.ref 3)), (some (.ref 24)), none, (some (.str s4 194)), none, (some (.ref 0))]⟩
noncomputable def o29_0 (P : Params) : Obj := ⟨(.type PySem.W.SL.s2766695959194262286x5), none, (.seq #[] 0), #[]⟩
noncomputable def o30_0 (P : Params) : Obj := ⟨(.type PySem.W.SL.s14018661285674007319x4), none, (.dict #[⟨(kh P s18), (.str s18 203), (.str s4 194)⟩, ⟨(kh P s20), (.str s20 207), (.int 5 206)⟩, ⟨(kh P s21), (.str s21 208), (.ref 29)⟩, ⟨(kh P s22), (.str s22 210), (.ref 32)⟩, ⟨(kh P s5), (.str s5 211), .none⟩] 3), #[]⟩
noncomputable def o31_0 (P : Params) : Obj := ⟨(.type PySem.W.SL.s17162191345867700912x4), none, (.cls ⟨s14, [(.type PySem.W.SL.s6070975301684473832x10)], [(.ref 31), (.type PySem.W.SL.s6070975301684473832x10), (.type PySem.W.SL.s5946037652744460706x9), (.type PySem.W.SL.s4278001404047624695x13), (.type PySem.W.SL.s2742458400755230247x6)], 30, s14, true, [], [(.ref 44), (.ref 56)], false, none, false⟩), #[(some (.ref 22)), none, (some (.str s14 196)), (some (.str s14 204)), (some (.builtin PySem.W.SL.s4209523147560561109x18)), (some (.bool true))]⟩
noncomputable def o32_0 (P : Params) : Obj := ⟨(.type PySem.W.SL.s14755015743595814543x17), none, (.fields #[(.str s22 209), (.ref 31), (.builtin PySem.W.SL.s10220274742760427390x26), .none]), #[]⟩
noncomputable def o33_0 (P : Params) : Obj := ⟨(.type PySem.W.SL.s4290257624100764138x5), none, (.fields #[(.ref 31), (.ref 31), (.ref 31)]), #[]⟩
noncomputable def o34_0 (P : Params) : Obj := ⟨(.type PySem.W.SL.s11030030927630378310x26), none, (.fields #[(.builtin PySem.W.SL.s4860613602091757760x24), (.ref 31)]), #[]⟩
noncomputable def o35_0 (P : Params) : Obj := ⟨(.type PySem.W.SL.s2766695959194262286x5), none, (.seq #[(.ref 31)] 0), #[]⟩
noncomputable def o36_0 (P : Params) : Obj := ⟨(.type PySem.W.SL.s11030030927630378310x26), none, (.fields #[(.builtin PySem.W.SL.s10062305145149207511x16), (.type PySem.W.SL.s17162191345867700912x4)]), #[]⟩
noncomputable def o37_0 (P : Params) : Obj := ⟨(.type PySem.W.SL.s14018661285674007319x4), none, (.dict #[⟨(kh P s18), (.str s18 221), (.str s4 194)⟩, ⟨(kh P s19), (.str s19 223), (.str s15 222)⟩, ⟨(kh P s20), (.str s20 225), (.int 7 224)⟩, ⟨(kh P s21), (.str s21 226), (.ref 42)⟩] 4), #[]⟩
noncomputable def o38_0 (P : Params) : Obj := ⟨(.type PySem.W.SL.s2766695959194262286x5), none, (.seq #[] 0), #[]⟩
noncomputable def o39_0 (P : Params) : Obj := ⟨.none, none, (.fields #[]), #[]⟩
noncomputable def o40_0 (P : Params) : Obj := ⟨(.type PySem.W.SL.s5856160107412720595x4), none, (.fields #[(.str s15 216), (.str s15 217), (.str s1 218), (.int 7 0), (.int 0 0), (.int 0 0), (.int 0 0), (.int 0 0), (.ref 38), (.bool false), (.int 181 0), (.ref 39), .none, .none, .none, .none, (.int 219 0), (.int 7 0), (.str s1 220)]), #[]⟩
noncomputable def o41_0 (P : Params) : Obj := ⟨(.type PySem.W.SL.s658472552662922059x5), none, .plain, #[(some (.ref 40)), (some (.ref 3)), (some (.ref 37)), none, (some (.str s4 194)), none, (some (.ref 0))]⟩
noncomputable def o42_0 (P : Params) : Obj := ⟨(.type PySem.W.SL.s2766695959194262286x5), none, (.seq #[] 0), #[]⟩
noncomputable def o43_0 (P : Params) : Obj := ⟨(.type PySem.W.SL.s14018661285674007319x4), none, (.dict #[⟨(kh P s18), (.str s18 221), (.str s4 194)⟩, ⟨(kh P s20), (.str s20 225), (.int 7 224)⟩, ⟨(kh P s21), (.str s21 226), (.ref 42)⟩, ⟨(kh P s5), (.str s5 227), .none⟩] 2), #[]⟩
noncomputable def o44_0 (P : Params) : Obj := ⟨(.type PySem.W.SL.s17162191345867700912x4), none, (.cls ⟨s15, [(.ref 31)], [(.ref 44), (.ref 31), (.type PySem.W.SL.s6070975301684473832x10), (.type PySem.W.SL.s5946037652744460706x9), (.type PySem.W.SL.s4278001404047624695x13), (.type PySem.W.SL.s2742458400755230247x6)], 43, s15, true, [], [], false, none, false⟩), #[(some (.ref 35)), none, (some (.str s15 214)), (some (.str s15 222)), (some (.builtin PySem.W.SL.s4209523147560561109x18)), (some (.bool true))]⟩
noncomputable def o45_0 (P : Params) : Obj := ⟨(.type PySem.W.SL.s4290257624100764138x5), none, (.fields #[(.ref 44), (.ref 44), (.ref 44)]), #[]⟩
noncomputable def o46_0 (P : Params) : Obj := ⟨(.type PySem.W.SL.s11030030927630378310x26), none, (.fields #[(.builtin PySem.W.SL.s4860613602091757760x24), (.ref 44)]), #[]⟩
noncomputable def o47_0 (P : Params) : Obj := ⟨(.type PySem.W.SL.s2766695959194262286x5), none, (.seq #[(.ref 31)] 0), #[]⟩
noncomputable def o48_0 (P : Params) : Obj := ⟨(.type PySem.W.SL.s11030030927630378310x26), none, (.fields #[(.builtin PySem.W.SL.s10062305145149207511x16), (.type PySem.W.SL.s17162191345867700912x4)]), #[]⟩
noncomputable def o49_0 (P : Params) : Obj := ⟨(.type PySem.W.SL.s14018661285674007319x4), none, (.dict #[⟨(kh P s18), (.str s18 237), (.str s4 194)⟩, ⟨(kh P s19), (.str s19 239), (.str s16 238)⟩, ⟨(kh P s20), (.str s20 241), (.int 9 240)⟩, ⟨(kh P s21), (.str s21 242), (.ref 54)⟩] 4), #[]⟩
noncomputable def o50_0 (P : Params) : Obj := ⟨(.type PySem.W.SL.s2766695959194262286x5), none, (.seq #[] 0), #[]⟩
noncomputable def o51_0 (P : Params) : Obj := ⟨.none, none, (.fields #[]), #[]⟩
noncomputable def o52_0 (P : Params) : Obj := ⟨(.type PySem.W.SL.s5856160107412720595x4), none, (.fields #[(.str s16 232), (.str s16 233), (.str s1 234), (.int 9 0), (.int 0 0), (.int 0 0), (.int 0 0), (.int 0 0), (.ref 50), (.bool false), (.int 181 0), (.ref 51), .none, .none, .none, .none, (.int 235 0), (.int 9 0), (.str s1 236)]), #[]⟩
noncomputable def o53_0 (P : Params) : Obj := ⟨(.type PySem.W.SL.s658472552662922059x5), none, .plain, #[(some (.ref 52)), (some (.ref 3)), (some (.ref 49)), none, (some (.str s4 194)), none, (some (.ref 0))]⟩
noncomputable def o54_0 (P : Params) : Obj := ⟨(.type PySem.W.SL.s2766695959194262286x5), none, (.seq #[] 0), #[]⟩
noncomputable def o55_0 (P : Params) : Obj := ⟨(.type PySem.W.SL.s14018661285674007319x4), none, (.dict #[⟨(kh P s18), (.str s18 237), (.str s4 194)⟩, ⟨(kh P s20), (.str s20 241), (.int 9 240)⟩, ⟨(kh P s21), (.str s21 242), (.ref 54)⟩, ⟨(kh P s5), (.str s5 243), .none⟩] 2), #[]⟩
noncomputable def o56_0 (P : Params) : Obj := ⟨(.type PySem.W.SL.s17162191345867700912x4), none, (.cls ⟨s16, [(.ref 31)], [(.ref 56), (.ref 31), (.type PySem.W.SL.s6070975301684473832x10), (.type PySem.W.SL.s5946037652744460706x9), (.type PySem.W.SL.s4278001404047624695x13), (.type PySem.W.SL.s2742458400755230247x6)], 55, s16, true, [], [], false, none, false⟩), #[(some (.ref 47)), none, (some (.str s16 230)), (some (.str s16 238)), (some (.builtin PySem.W.SL.s4209523147560561109x18)), (some (.bool true))]⟩
noncomputable def o57_0 (P : Params) : Obj := ⟨(.type PySem.W.SL.s4290257624100764138x5), none, (.fields #[(.ref 56), (.ref 56), (.ref 56)]), #[]⟩
noncomputable def o58_0 (P : Params) : Obj := ⟨(.type PySem.W.SL.s11030030927630378310x26), none, (.fields #[(.builtin PySem.W.SL.s4860613602091757760x24), (.ref 56)]), #[]⟩
noncomputable def o3_1 (P : Params) : Obj := ⟨(.type PySem.W.SL.s14018661285674007319x4), none, (.dict #[⟨(kh P s3), (.str s3 165), (.str s23 315)⟩, ⟨(kh P s5), (.str s5 166), .none⟩, ⟨(kh P s6), (.str s6 167), .none⟩, ⟨(kh P s7), (.str s7 168), (.builtin PySem.W.SL.s7097527257260152453x26)⟩, ⟨(kh P s8), (.str s8 169), .none⟩, ⟨(kh P s9), (.str s9 170), (.ref 6)⟩, ⟨(kh P s10), (.str s10 171), (.ref 4)⟩, ⟨(kh P s11), (.str s11 173), (.str s1 172)⟩, ⟨(kh P s12), (.str s12 174), .none⟩, ⟨(kh P s13), (.str s13 193), (.ref 21)⟩, ⟨(kh P s14), (.str s14 213), (.ref 31)⟩, ⟨(kh P s15), (.str s15 229), (.ref 44)⟩, ⟨(kh P s16), (.str s16 245), (.ref 56)⟩, ⟨(kh P s24), (.str s24 261), (.ref 68)⟩, ⟨(kh P s25), (.str s25 277), (.ref 80)⟩, ⟨(kh P s26), (.str s26 286), (.ref 89)⟩, ⟨(kh P s27), (.str s27 297), (.ref 96)⟩, ⟨(kh P s28), (.str s28 306), (.ref 103)⟩, ⟨(kh P s29), (.str s29 314), (.ref 110)⟩, ⟨(kh P s30), (.str s30 318), (.str s31 317)⟩, ⟨(kh P s32), (.str s32 320), (.int 30 319)⟩, ⟨(kh P s33), (.str s33 322), (.int 1000000 321)⟩, ⟨(kh P s34), (.str s34 328), (.ref 115)⟩, ⟨(kh P s35), (.str s35 335), (.ref 122)⟩, ⟨(kh P s36), (.str s36 342), (.ref 129)⟩] 25), #[]⟩
noncomputable def o12_1 (P : Params) : Obj := ⟨.none, none, (.fields #[(.int 1 0), (.int 0 0), (.ref 20), (.int 5 0), (.int 0 0), (.ref 27), (.int 7 0), (.int 0 0), (.ref 40), (.int 9 0), (.int 0 0), (.ref 52), (.int 11 0), (.int 0 0), (.ref 64), (.int 13 0), (.int 0 0), (.ref 76), (.int 16 0), (.int 0 0), (.ref 88), (.int 18 0), (.int 0 0), (.ref 95), (.int 26 0), (.int 0 0), (.ref 102), (.int 35 0), (.int 0 0), (.ref 109), (.int 48 0), (.int 0 0), (.ref 114), (.int 57 0), (.int 0 0), (.ref 121), (.int 61 0), (.int 0 0), (.ref 128)]), #[]⟩
noncomputable def o31_1 (P : Params) : Obj := ⟨(.type PySem.W.SL.s17162191345867700912x4), none, (.cls ⟨s14, [(.type PySem.W.SL.s6070975301684473832x10)], [(.ref 31), (.type PySem.W.SL.s6070975301684473832x10), (.type PySem.W.SL.s5946037652744460706x9), (.type PySem.W.SL.s4278001404047624695x13), (.type PySem.W.SL.s2742458400755230247x6)], 30, s14, true, [], [(.ref 44), (.ref 56), (.ref 68), (.ref 80)], false, none, false⟩), #[(some (.ref 22)), none, (some (.str s14 196)), (some (.str s14 204)), (some (.builtin PySem.W.SL.s4209523147560561109x18)), (some (.bool true))]⟩
noncomputable def o59_1 (P : Params) : Obj := ⟨(.type PySem.W.SL.s2766695959194262286x5), none, (.seq #[(.ref 31)] 0), #[]⟩
noncomputable def o60_1 (P : Params) : Obj := ⟨(.type PySem.W.SL.s11030030927630378310x26), none, (.fields #[(.builtin PySem.W.SL.s10062305145149207511x16), (.type PySem.W.SL.s17162191345867700912x4)]), #[]⟩
noncomputable def o61_1 (P : Params) : Obj := ⟨(.type PySem.W.SL.s14018661285674007319x4), none, (.dict #[⟨(kh P s18), (.str s18 253), (.str s4 194)⟩, ⟨(kh P s19), (.str s19 255), (.str s24 254)⟩, ⟨(kh P s20), (.str s20 257), (.int 11 256)⟩, ⟨(kh P s21), (.str s21 258), (.ref 66)⟩] 4), #[]⟩
noncomputable def o62_1 (P : Params) : Obj := ⟨(.type PySem.W.SL.s2766695959194262286x5), none, (.seq #[] 0), #[]⟩
noncomputable def o63_1 (P : Params) : Obj := ⟨.none, none, (.fields #[]), #[]⟩
noncomputable def o64_1 (P : Params) : Obj := ⟨(.type PySem.W.SL.s5856160107412720595x4), none, (.fields #[(.str s24 248), (.str s24 249), (.str s1 250), (.int 11 0), (.int 0 0), (.int 0 0), (.int 0 0), (.int 0 0), (.ref 62), (.bool false), (.int 181 0), (.ref 63), .none, .none, .none, .none, (.int 251 0), (.int 11 0), (.str s1 252)]), #[]⟩
noncomputable def o65_1 (P : Params) : Obj := ⟨(.type PySem.W.SL.s658472552662922059x5), none, .plain, #[(some (.ref 64)), (some (.ref 3)), (some (.ref 61)), none, (some (.str s4 194)), none, (some (.ref 0))]⟩
noncomputable def o66_1 (P : Params) : Obj := ⟨(.type PySem.W.SL.s2766695959194262286x5), none, (.seq #[] 0), #[]⟩
noncomputable def o67_1 (P : Params) : Obj := ⟨(.type PySem.W.SL.s14018661285674007319x4), none, (.dict #[⟨(kh P s18), (.str s18 253), (.str s4 194)⟩, ⟨(kh P s20), (.str s20 257), (.int 11 256)⟩, ⟨(kh P s21), (.str s21 258), (.ref 66)⟩, ⟨(kh P s5), (.str s5 259), .none⟩] 2), #[]⟩
noncomputable def o68_1 (P : Params) : Obj := ⟨(.type PySem.W.SL.s17162191345867700912x4), none, (.cls ⟨s24, [(.ref 31)], [(.ref 68), (.ref 31), (.type PySem.W.SL.s6070975301684473832x10), (.type PySem.W.SL.s5946037652744460706x9), (.type PySem.W.SL.s4278001404047624695x13), (.type PySem.W.SL.s2742458400755230247x6)], 67, s24, true, [], [], false, none, false⟩), #[(some (.ref 59)), none, (some (.str s24 246)), (some (.str s24 254)), (some (.builtin PySem.W.SL.s4209523147560561109x18)), (some (.bool true))]⟩
noncomputable def o69_1 (P : Params) : Obj := ⟨(.type PySem.W.SL.s4290257624100764138x5), none, (.fields #[(.ref 68), (.ref 68), (.ref 68)]), #[]⟩
noncomputable def o70_1 (P : Params) : Obj := ⟨(.type PySem.W.SL.s11030030927630378310x26), none, (.fields #[(.builtin PySem.W.SL.s4860613602091757760x24), (.ref 68)]), #[]⟩
noncomputable def o71_1 (P : Params) : Obj := ⟨(.type PySem.W.SL.s2766695959194262286x5), none, (.seq #[(.ref 31)] 0), #[]⟩
noncomputable def o72_1 (P : Params) : Obj := ⟨(.type PySem.W.SL.s11030030927630378310x26), none, (.fields #[(.builtin PySem.W.SL.s10062305145149207511x16), (.type PySem.W.SL.s17162191345867700912x4)]), #[]⟩
noncomputable def o73_1 (P : Params) : Obj := ⟨(.type PySem.W.SL.s14018661285674007319x4), none, (.dict #[⟨(kh P s18), (.str s18 269), (.str s4 194)⟩, ⟨(kh P s19), (.str s19 271), (.str s25 270)⟩, ⟨(kh P s20), (.str s20 273), (.int 13 272)⟩, ⟨(kh P s21), (.str s21 274), (.ref 78)⟩] 4), #[]⟩
noncomputable def o74_1 (P : Params) : Obj := ⟨(.type PySem.W.SL.s2766695959194262286x5), none, (.seq #[] 0), #[]⟩
noncomputable def o75_1 (P : Params) : Obj := ⟨.none, none, (.fields #[]), #[]⟩
noncomputable def o76_1 (P : Params) : Obj := ⟨(.type PySem.W.SL.s5856160107412720595x4), none, (.fields #[(.str s25 264), (.str s25 265), (.str s1 266), (.int 13 0), (.int 0 0), (.int 0 0), (.int 0 0), (.int 0 0), (.ref 74), (.bool false), (.int 181 0), (.ref 75), .none, .none, .none, .none, (.int 267 0), (.int 13 0), (.str s1 268)]), #[]⟩
noncomputable def o77_1 (P : Params) : Obj := ⟨(.type PySem.W.SL.s658472552662922059x5), none, .plain, #[(some (.ref 76)), (some (.ref 3)), (some (.ref 73)), none, (some (.str s4 194)), none, (some (.ref 0))]⟩
noncomputable def o78_1 (P : Params) : Obj := ⟨(.type PySem.W.SL.s2766695959194262286x5), none, (.seq #[] 0), #[]⟩
noncomputable def o79_1 (P : Params) : Obj := ⟨(.type PySem.W.SL.s14018661285674007319x4), none, (.dict #[⟨(kh P s18), (.str s18 269), (.str s4 194)⟩, ⟨(kh P s20), (.str s20 273), (.int 13 272)⟩, ⟨(kh P s21), (.str s21 274), (.ref 78)⟩, ⟨(kh P s5), (.str s5 275), .none⟩] 2), #[]⟩
noncomputable def o80_1 (P : Params) : Obj := ⟨(.type PySem.W.SL.s17162191345867700912x4), none, (.cls ⟨s25, [(.ref 31)], [(.ref 80), (.ref 31), (.type PySem.W.SL.s6070975301684473832x10), (.type PySem.W.SL.s5946037652744460706x9), (.type PySem.W.SL.s4278001404047624695x13), (.type PySem.W.SL.s2742458400755230247x6)], 79, s25, true, [], [], false, none, false⟩), #[(some (.ref 71)), none, (some (.str s25 262)), (some (.str s25 270)), (some (.builtin PySem.W.SL.s4209523147560561109x18)), (some (.bool true))]⟩
noncomputable def o81_1 (P : Params) : Obj := ⟨(.type PySem.W.SL.s4290257624100764138x5), none, (.fields #[(.ref 80), (.ref 80), (.ref 80)]), #[]⟩
noncomputable def o82_1 (P : Params) : Obj := ⟨(.type PySem.W.SL.s11030030927630378310x26), none, (.fields #[(.builtin PySem.W.SL.s4860613602091757760x24), (.ref 80)]), #[]⟩
noncomputable def o83_1 (P : Params) : Obj := ⟨(.type PySem.W.SL.s2766695959194262286x5), none, (.seq #[] 0), #[]⟩
noncomputable def o84_1 (P : Params) : Obj := ⟨.none, none, (.fields #[]), #[]⟩
noncomputable def o85_1 (P : Params) : Obj := ⟨(.type PySem.W.SL.s2766695959194262286x5), none, (.seq #[(.str s37 283)] 0), #[]⟩
noncomputable def o86_1 (P : Params) : Obj := ⟨(.type PySem.W.SL.s2766695959194262286x5), none, (.seq #[] 0), #[]⟩
noncomputable def o87_1 (P : Params) : Obj := ⟨.none, none, (.func ⟨s26, s26, (L2.defArgs (topT 8)), (.stmts (L2.defBody (topT 8))), (L2.defScope (topT 8)), 0, [], .none, .none, .none, .none, none, .none, .none, 0⟩), #[]⟩
noncomputable def o88_1 (P : Params) : Obj := ⟨(.type PySem.W.SL.s5856160107412720595x4), none, (.fields #[(.str s26 280), (.str s26 281), (.str s1 282), (.int 16 0), (.int 1 0), (.int 0 0), (.int 0 0), (.int 3 0), (.ref 83), (.bool true), (.int 181 0), (.ref 84), .none, (.ref 85), (.ref 86), (.ref 87), (.int 284 0), (.int 16 0), (.str s1 285)]), #[]⟩
noncomputable def o89_1 (P : Params) : Obj := ⟨(.type PySem.W.SL.s7174869446012820540x8), none, (.func ⟨s26, s26, (L2.defArgs (topT 8)), (.stmts (L2.defBody (topT 8))), (L2.defScope (topT 8)), 3, [], .none, .none, .none, (.str s38 278), none, (.ref 88), .none, 0⟩), #[]⟩
noncomputable def o90_1 (P : Params) : Obj := ⟨(.type PySem.W.SL.s2766695959194262286x5), none, (.seq #[] 0), #[]⟩
noncomputable def o91_1 (P : Params) : Obj := ⟨.none, none, (.fields #[]), #[]⟩
noncomputable def o92_1 (P : Params) : Obj := ⟨(.type PySem.W.SL.s2766695959194262286x5), none, (.seq #[(.str s39 290), (.str s40 291), (.str s41 292), (.str s42 293), (.str s43 294)] 0), #[]⟩
noncomputable def o93_1 (P : Params) : Obj := ⟨(.type PySem.W.SL.s2766695959194262286x5), none, (.seq #[] 0), #[]⟩
noncomputable def o94_1 (P : Params) : Obj := ⟨.none, none, (.func ⟨s27, s27, (L2.defArgs (topT 9)), (.stmts (L2.defBody (topT 9))), (L2.defScope (topT 9)), 0, [], .none, .none, .none, .none, none, .none, .none, 0⟩), #[]⟩
noncomputable def o95_1 (P : Params) : Obj := ⟨(.type PySem.W.SL.s5856160107412720595x4), none, (.fields #[(.str s27 287), (.str s27 288), (.str s1 289), (.int 18 0), (.int 2 0), (.int 0 0), (.int 0 0), (.int 3 0), (.ref 90), (.bool true), (.int 181 0), (.ref 91), .none, (.ref 92), (.ref 93), (.ref 94), (.int 295 0), (.int 18 0), (.str s1 296)]), #[]⟩
noncomputable def o96_1 (P : Params) : Obj := ⟨(.type PySem.W.SL.s7174869446012820540x8), none, (.func ⟨s27, s27, (L2.defArgs (topT 9)), (.stmts (L2.defBody (topT 9))), (L2.defScope (topT 9)), 3, [], .none, .none, .none, (.str s38 278), none, (.ref 95), .none, 0⟩), #[]⟩
noncomputable def o97_1 (P : Params) : Obj := ⟨(.type PySem.W.SL.s2766695959194262286x5), none, (.seq #[] 0), #[]⟩
noncomputable def o98_1 (P : Params) : Obj := ⟨.none, none, (.fields #[]), #[]⟩
noncomputable def o99_1 (P : Params) : Obj := ⟨(.type PySem.W.SL.s2766695959194262286x5), none, (.seq #[(.str s44 301), (.str s45 302), (.str s46 303)] 0), #[]⟩
noncomputable def o100_1 (P : Params) : Obj := ⟨(.type PySem.W.SL.s2766695959194262286x5), none, (.seq #[] 0), #[]⟩
noncomputable def o101_1 (P : Params) : Obj := ⟨.none, none, (.func ⟨s28, s28, (L2.defArgs (topT 10)), (.stmts (L2.defBody (topT 10))), (L2.defScope (topT 10)), 0, [], .none, .none, .none, .none, none, .none, .none, 0⟩), #[]⟩
noncomputable def o102_1 (P : Params) : Obj := ⟨(.type PySem.W.SL.s5856160107412720595x4), none, (.fields #[(.str s28 298), (.str s28 299), (.str s1 300), (.int 26 0), (.int 2 0), (.int 0 0), (.int 0 0), (.int 3 0), (.ref 97), (.bool true), (.int 181 0), (.ref 98), .none, (.ref 99), (.ref 100), (.ref 101), (.int 304 0), (.int 26 0), (.str s1 305)]), #[]⟩
noncomputable def o103_1 (P : Params) : Obj := ⟨(.type PySem.W.SL.s7174869446012820540x8), none, (.func ⟨s28, s28, (L2.defArgs (topT 10)), (.stmts (L2.defBody (topT 10))), (L2.defScope (topT 10)), 3, [], .none, .none, .none, (.str s38 278), none, (.ref 102), .none, 0⟩), #[]⟩
noncomputable def o104_1 (P : Params) : Obj := ⟨(.type PySem.W.SL.s2766695959194262286x5), none, (.seq #[] 0), #[]⟩
noncomputable def o105_1 (P : Params) : Obj := ⟨.none, none, (.fields #[]), #[]⟩
noncomputable def o106_1 (P : Params) : Obj := ⟨(.type PySem.W.SL.s2766695959194262286x5), none, (.seq #[(.str s47 310), (.str s48 311)] 0), #[]⟩
noncomputable def o107_1 (P : Params) : Obj := ⟨(.type PySem.W.SL.s2766695959194262286x5), none, (.seq #[] 0), #[]⟩
noncomputable def o108_1 (P : Params) : Obj := ⟨.none, none, (.func ⟨s29, s29, (L2.defArgs (topT 11)), (.stmts (L2.defBody (topT 11))), (L2.defScope (topT 11)), 0, [], .none, .none, .none, .none, none, .none, .none, 0⟩), #[]⟩
noncomputable def o109_1 (P : Params) : Obj := ⟨(.type PySem.W.SL.s5856160107412720595x4), none, (.fields #[(.str s29 307), (.str s29 308), (.str s1 309), (.int 35 0), (.int 1 0), (.int 0 0), (.int 0 0), (.int 3 0), (.ref 104), (.bool true), (.int 181 0), (.ref 105), .none, (.ref 106), (.ref 107), (.ref 108), (.int 312 0), (.int 35 0), (.str s1 313)]), #[]⟩
noncomputable def o110_1 (P : Params) : Obj := ⟨(.type PySem.W.SL.s7174869446012820540x8), none, (.func ⟨s29, s29, (L2.defArgs (topT 11)), (.stmts (L2.defBody (topT 11))), (L2.defScope (topT 11)), 3, [], .none, .none, .none, (.str s38 278), none, (.ref 109), .none, 0⟩), #[]⟩
noncomputable def o111_1 (P : Params) : Obj := ⟨(.type PySem.W.SL.s2766695959194262286x5), none, (.seq #[] 0), #[]⟩
noncomputable def o112_1 (P : Params) : Obj := ⟨.none, none, (.fields #[]), #[]⟩
noncomputable def o113_1 (P : Params) : Obj := ⟨.none, none, (.func ⟨s34, s34, (L2.defArgs (topT 16)), (.stmts (L2.defBody (topT 16))), (L2.defScope (topT 16)), 0, [], .none, .none, .none, .none, none, .none, .none, 0⟩), #[]⟩
noncomputable def o114_1 (P : Params) : Obj := ⟨(.type PySem.W.SL.s5856160107412720595x4), none, (.fields #[(.str s34 323), (.str s34 324), (.str s1 325), (.int 48 0), (.int 1 0), (.int 0 0), (.int 0 0), (.int 3 0), (.ref 111), (.bool true), (.int 181 0), (.ref 112), .none, .none, .none, (.ref 113), (.int 326 0), (.int 48 0), (.str s1 327)]), #[]⟩
noncomputable def o115_1 (P : Params) : Obj := ⟨(.type PySem.W.SL.s7174869446012820540x8), none, (.func ⟨s34, s34, (L2.defArgs (topT 16)), (.stmts (L2.defBody (topT 16))), (L2.defScope (topT 16)), 3, [], .none, .none, .none, (.str s23 315), none, (.ref 114), .none, 0⟩), #[]⟩
noncomputable def o116_1 (P : Params) : Obj := ⟨(.type PySem.W.SL.s2766695959194262286x5), none, (.seq #[] 0), #[]⟩
noncomputable def o117_1 (P : Params) : Obj := ⟨.none, none, (.fields #[]), #[]⟩
noncomputable def o118_1 (P : Params) : Obj := ⟨(.type PySem.W.SL.s2766695959194262286x5), none, (.seq #[(.str s49 332)] 0), #[]⟩
noncomputable def o119_1 (P : Params) : Obj := ⟨(.type PySem.W.SL.s2766695959194262286x5), none, (.seq #[] 0), #[]⟩
noncomputable def o120_1 (P : Params) : Obj := ⟨.none, none, (.func ⟨s35, s35, (L2.defArgs (topT 17)), (.stmts (L2.defBody (topT 17))), (L2.defScope (topT 17)), 0, [], .none, .none, .none, .none, none, .none, .none, 0⟩), #[]⟩
noncomputable def o121_1 (P : Params) : Obj := ⟨(.type PySem.W.SL.s5856160107412720595x4), none, (.fields #[(.str s35 329), (.str s35 330), (.str s1 331), (.int 57 0), (.int 1 0), (.int 0 0), (.int 0 0), (.int 3 0), (.ref 116), (.bool true), (.int 181 0), (.ref 117), .none, (.ref 118), (.ref 119), (.ref 120), (.int 333 0), (.int 57 0), (.str s1 334)]), #[]⟩
noncomputable def o122_1 (P : Params) : Obj := ⟨(.type PySem.W.SL.s7174869446012820540x8), none, (.func ⟨s35, s35, (L2.defArgs (topT 17)), (.stmts (L2.defBody (topT 17))), (L2.defScope (topT 17)), 3, [], .none, .none, .none, (.str s23 315), none, (.ref 121), .none, 0⟩), #[]⟩
noncomputable def o123_1 (P : Params) : Obj := ⟨(.type PySem.W.SL.s2766695959194262286x5), none, (.seq #[] 0), #[]⟩
noncomputable def o124_1 (P : Params) : Obj := ⟨.none, none, (.fields #[]), #[]⟩
noncomputable def o125_1 (P : Params) : Obj := ⟨(.type PySem.W.SL.s2766695959194262286x5), none, (.seq #[(.str s49 339)] 0), #[]⟩
noncomputable def o126_1 (P : Params) : Obj := ⟨(.type PySem.W.SL.s2766695959194262286x5), none, (.seq #[] 0), #[]⟩
noncomputable def o127_1 (P : Params) : Obj := ⟨.none, none, (.func ⟨s36, s36, (L2.defArgs (topT 18)), (.stmts (L2.defBody (topT 18))), (L2.defScope (topT 18)), 0, [], .none, .none, .none, .none, none, .none, .none, 0⟩), #[]⟩
noncomputable def o128_1 (P : Params) : Obj := ⟨(.type PySem.W.SL.s5856160107412720595x4), none, (.fields #[(.str s36 336), (.str s36 337), (.str s1 338), (.int 61 0), (.int 1 0), (.int 0 0), (.int 0 0), (.int 3 0), (.ref 123), (.bool true), (.int 181 0), (.ref 124), .none, (.ref 125), (.ref 126), (.ref 127), (.int 340 0), (.int 61 0), (.str s1 341)]), #[]⟩
noncomputable def o129_1 (P : Params) : Obj := ⟨(.type PySem.W.SL.s7174869446012820540x8), none, (.func ⟨s36, s36, (L2.defArgs (topT 18)), (.stmts (L2.defBody (topT 18))), (L2.defScope (topT 18)), 3, [], .none, .none, .none, (.str s23 315), none, (.ref 128), .none, 0⟩), #[]⟩
noncomputable def o3_2 (P : Params) : Obj := ⟨(.type PySem.W.SL.s14018661285674007319x4), none, (.dict #[⟨(kh P s3), (.str s3 165), (.str s23 315)⟩, ⟨(kh P s5), (.str s5 166), .none⟩, ⟨(kh P s6), (.str s6 167), .none⟩, ⟨(kh P s7), (.str s7 168), (.builtin PySem.W.SL.s7097527257260152453x26)⟩, ⟨(kh P s8), (.str s8 169), .none⟩, ⟨(kh P s9), (.str s9 170), (.ref 6)⟩, ⟨(kh P s10), (.str s10 171), (.ref 4)⟩, ⟨(kh P s11), (.str s11 173), (.str s1 172)⟩, ⟨(kh P s12), (.str s12 174), .none⟩, ⟨(kh P s13), (.str s13 193), (.ref 21)⟩, ⟨(kh P s14), (.str s14 213), (.ref 31)⟩, ⟨(kh P s15), (.str s15 229), (.ref 44)⟩, ⟨(kh P s16), (.str s16 245), (.ref 56)⟩, ⟨(kh P s24), (.str s24 261), (.ref 68)⟩, ⟨(kh P s25), (.str s25 277), (.ref 80)⟩, ⟨(kh P s26), (.str s26 286), (.ref 89)⟩, ⟨(kh P s27), (.str s27 297), (.ref 96)⟩, ⟨(kh P s28), (.str s28 306), (.ref 103)⟩, ⟨(kh P s29), (.str s29 314), (.ref 110)⟩, ⟨(kh P s30), (.str s30 318), (.str s31 317)⟩, ⟨(kh P s32), (.str s32 320), (.int 30 319)⟩, ⟨(kh P s33), (.str s33 322), (.int 1000000 321)⟩, ⟨(kh P s34), (.str s34 328), (.ref 115)⟩, ⟨(kh P s35), (.str s35 335), (.ref 122)⟩, ⟨(kh P s36), (.str s36 342), (.ref 129)⟩, ⟨(kh P s50), (.str s50 362), (.ref 139)⟩, ⟨(kh P s51), (.str s51 392), (.ref 167)⟩] 27), #[]⟩
noncomputable def o12_2 (P : Params) : Obj := ⟨.none, none, (.fields #[(.int 1 0), (.int 0 0), (.ref 20), (.int 5 0), (.int 0 0), (.ref 27), (.int 7 0), (.int 0 0), (.ref 40), (.int 9 0), (.int 0 0), (.ref 52), (.int 11 0), (.int 0 0), (.ref 64), (.int 13 0), (.int 0 0), (.ref 76), (.int 16 0), (.int 0 0), (.ref 88), (.int 18 0), (.int 0 0), (.ref 95), (.int 26 0), (.int 0 0), (.ref 102), (.int 35 0), (.int 0 0), (.ref 109), (.int 48 0), (.int 0 0), (.ref 114), (.int 57 0), (.int 0 0), (.ref 121), (.int 61 0), (.int 0 0), (.ref 128), (.int 64 0), (.int 0 0), (.ref 135), (.int 66 0), (.int 0 0), (.ref 149)]), #[]⟩
noncomputable def o130_2 (P : Params) : Obj := ⟨(.type PySem.W.SL.s2766695959194262286x5), none, (.seq #[] 0), #[]⟩
noncomputable def o131_2 (P : Params) : Obj := ⟨(.type PySem.W.SL.s11030030927630378310x26), none, (.fields #[(.builtin PySem.W.SL.s10062305145149207511x16), (.type PySem.W.SL.s17162191345867700912x4)]), #[]⟩
noncomputable def o132_2 (P : Params) : Obj := ⟨(.type PySem.W.SL.s14018661285674007319x4), none, (.dict #[⟨(kh P s18), (.str s18 350), (.str s23 315)⟩, ⟨(kh P s19), (.str s19 352), (.str s50 351)⟩, ⟨(kh P s20), (.str s20 354), (.int 64 353)⟩, ⟨(kh P s21), (.str s21 355), (.ref 137)⟩] 4), #[]⟩
noncomputable def o133_2 (P : Params) : Obj := ⟨(.type PySem.W.SL.s2766695959194262286x5), none, (.seq #[] 0), #[]⟩
noncomputable def o134_2 (P : Params) : Obj := ⟨.none, none, (.fields #[]), #[]⟩
noncomputable def o135_2 (P : Params) : Obj := ⟨(.type PySem.W.SL.s5856160107412720595x4), none, (.fields #[(.str s50 345), (.str s50 346), (.str s1 347), (.int 64 0), (.int 0 0), (.int 0 0), (.int 0 0), (.int 0 0), (.ref 133), (.bool false), (.int 181 0), (.ref 134), .none, .none, .none, .none, (.int 348 0), (.int 64 0), (.str s1 349)]), #[]⟩
noncomputable def o136_2 (P : Params) : Obj := ⟨(.type PySem.W.SL.s658472552662922059x5), none, .plain, #[(some (.ref 135)), (some (.ref 3)), (some (.ref 132)), none, (some (.str s23 315)), none, (some (.ref 0))]⟩
noncomputable def o137_2 (P : Params) : Obj := ⟨(.type PySem.W.SL.s2766695959194262286x5), none, (.seq #[] 0), #[]⟩
noncomputable def o138_2 (P : Params) : Obj := ⟨(.type PySem.W.SL.s14018661285674007319x4), none, (.dict #[⟨(kh P s18), (.str s18 350), (.str s23 315)⟩, ⟨(kh P s20), (.str s20 354), (.int 64 353)⟩, ⟨(kh P s21), (.str s21 355), (.ref 137)⟩, ⟨(kh P s52), (.str s52 357), (.ref 140)⟩, ⟨(kh P s22), (.str s22 359), (.ref 141)⟩, ⟨(kh P s5), (.str s5 360), .none⟩] 4), #[]⟩
noncomputable def o139_2 (P : Params) : Obj := ⟨(.type PySem.W.SL.s17162191345867700912x4), none, (.cls ⟨s50, [(.type PySem.W.SL.s2742458400755230247x6)], [(.ref 139), (.type PySem.W.SL.s2742458400755230247x6)], 138, s50, true, [], [(.ref 167)], false, none, false⟩), #[none, none, (some (.str s50 343)), (some (.str s50 351)), (some (.builtin PySem.W.SL.s11443829558043349243x14)), (some (.bool true))]⟩
noncomputable def o140_2 (P : Params) : Obj := ⟨(.type PySem.W.SL.s14755015743595814543x17), none, (.fields #[(.str s52 356), (.ref 139), (.builtin PySem.W.SL.s6511155373996960695x17), (.builtin PySem.W.SL.s12411053484034534018x21)]), #[]⟩
noncomputable def o141_2 (P : Params) : Obj := ⟨(.type PySem.W.SL.s14755015743595814543x17), none, (.fields #[(.str s22 358), (.ref 139), (.builtin PySem.W.SL.s10220274742760427390x26), .none]), #[]⟩
noncomputable def o142_2 (P : Params) : Obj := ⟨(.type PySem.W.SL.s4290257624100764138x5), none, (.fields #[(.ref 139), (.ref 139), (.ref 139)]), #[]⟩
noncomputable def o143_2 (P : Params) : Obj := ⟨(.type PySem.W.SL.s11030030927630378310x26), none, (.fields #[(.builtin PySem.W.SL.s4860613602091757760x24), (.ref 139)]), #[]⟩
noncomputable def o144_2 (P : Params) : Obj := ⟨(.type PySem.W.SL.s2766695959194262286x5), none, (.seq #[(.ref 139)] 0), #[]⟩
noncomputable def o145_2 (P : Params) : Obj := ⟨(.type PySem.W.SL.s11030030927630378310x26), none, (.fields #[(.builtin PySem.W.SL.s10062305145149207511x16), (.type PySem.W.SL.s17162191345867700912x4)]), #[]⟩
noncomputable def o146_2 (P : Params) : Obj := ⟨(.type PySem.W.SL.s14018661285674007319x4), none, (.dict #[⟨(kh P s18), (.str s18 370), (.str s23 315)⟩, ⟨(kh P s19), (.str s19 372), (.str s51 371)⟩, ⟨(kh P s20), (.str s20 374), (.int 66 373)⟩, ⟨(kh P s53), (.str s53 381), (.ref 157)⟩, ⟨(kh P s54), (.str s54 388), (.ref 164)⟩, ⟨(kh P s21), (.str s21 389), (.ref 165)⟩] 6), #[]⟩
noncomputable def o147_2 (P : Params) : Obj := ⟨(.type PySem.W.SL.s2766695959194262286x5), none, (.seq #[] 0), #[]⟩
noncomputable def o148_2 (P : Params) : Obj := ⟨.none, none, (.fields #[(.int 68 0), (.int 4 0), (.ref 156), (.int 71 0), (.int 4 0), (.ref 163)]), #[]⟩
noncomputable def o149_2 (P : Params) : Obj := ⟨(.type PySem.W.SL.s5856160107412720595x4), none, (.fields #[(.str s51 365), (.str s51 366), (.str s1 367), (.int 66 0), (.int 0 0), (.int 0 0), (.int 0 0), (.int 0 0), (.ref 147), (.bool false), (.int 181 0), (.ref 148), .none, .none, .none, .none, (.int 368 0), (.int 66 0), (.str s1 369)]), #[]⟩
noncomputable def o150_2 (P : Params) : Obj := ⟨(.type PySem.W.SL.s658472552662922059x5), none, .plain, #[(some (.ref 149)), (some (.ref 3)), (some (.ref 146)), none, (some (.str s23 315)), none, (some (.ref 0))]⟩
noncomputable def o151_2 (P : Params) : Obj := ⟨(.type PySem.W.SL.s2766695959194262286x5), none, (.seq #[] 0), #[]⟩
noncomputable def o152_2 (P : Params) : Obj := ⟨.none, none, (.fields #[]), #[]⟩
noncomputable def o153_2 (P : Params) : Obj := ⟨(.type PySem.W.SL.s2766695959194262286x5), none, (.seq #[(.str s55 378)] 0), #[]⟩
noncomputable def o154_2 (P : Params) : Obj := ⟨(.type PySem.W.SL.s2766695959194262286x5), none, (.seq #[] 0), #[]⟩
noncomputable def o155_2 (P : Params) : Obj := ⟨.none, none, (.func ⟨s53, s56, (L2.defArgs (L2.inClass (topT 20) 0)), (.stmts (L2.defBody (L2.inClass (topT 20) 0))), (L2.defScope (L2.inClass (topT 20) 0)), 0, [], .none, .none, .none, .none, none, .none, .none, 0⟩), #[]⟩
noncomputable def o156_2 (P : Params) : Obj := ⟨(.type PySem.W.SL.s5856160107412720595x4), none, (.fields #[(.str s53 375), (.str s56 376), (.str s1 377), (.int 68 0), (.int 1 0), (.int 0 0), (.int 0 0), (.int 3 0), (.ref 151), (.bool true), (.int 181 0), (.ref 152), .none, (.ref 153), (.ref 154), (.ref 155), (.int 379 0), (.int 68 0), (.str s1 380)]), #[]⟩
noncomputable def o157_2 (P : Params) : Obj := ⟨(.type PySem.W.SL.s7174869446012820540x8), none, (.func ⟨s53, s56, (L2.defArgs (L2.inClass (topT 20) 0)), (.stmts (L2.defBody (L2.inClass (topT 20) 0))), (L2.defScope (L2.inClass (topT 20) 0)), 3, [], .none, .none, .none, (.str s23 315), none, (.ref 156), .none, 0⟩), #[]⟩
noncomputable def o158_2 (P : Params) : Obj := ⟨(.type PySem.W.SL.s2766695959194262286x5), none, (.seq #[] 0), #[]⟩
noncomputable def o159_2 (P : Params) : Obj := ⟨.none, none, (.fields #[]), #[]⟩
noncomputable def o160_2 (P : Params) : Obj := ⟨(.type PySem.W.SL.s2766695959194262286x5), none, (.seq #[(.str s55 385)] 0), #[]⟩
noncomputable def o161_2 (P : Params) : Obj := ⟨(.type PySem.W.SL.s2766695959194262286x5), none, (.seq #[] 0), #[]⟩
noncomputable def o162_2 (P : Params) : Obj := ⟨.none, none, (.func ⟨s54, s57, (L2.defArgs (L2.inClass (topT 20) 1)), (.stmts (L2.defBody (L2.inClass (topT 20) 1))), (L2.defScope (L2.inClass (topT 20) 1)), 0, [], .none, .none, .none, .none, none, .none, .none, 0⟩), #[]⟩
noncomputable def o163_2 (P : Params) : Obj := ⟨(.type PySem.W.SL.s5856160107412720595x4), none, (.fields #[(.str s54 382), (.str s57 383), (.str s1 384), (.int 71 0), (.int 1 0), (.int 0 0), (.int 0 0), (.int 3 0), (.ref 158), (.bool true), (.int 181 0), (.ref 159), .none, (.ref 160), (.ref 161), (.ref 162), (.int 386 0), (.int 71 0), (.str s1 387)]), #[]⟩
noncomputable def o164_2 (P : Params) : Obj := ⟨(.type PySem.W.SL.s7174869446012820540x8), none, (.func ⟨s54, s57, (L2.defArgs (L2.inClass (topT 20) 1)), (.stmts (L2.defBody (L2.inClass (topT 20) 1))), (L2.defScope (L2.inClass (topT 20) 1)), 3, [], .none, .none, .none, (.str s23 315), none, (.ref 163), .none, 0⟩), #[]⟩
noncomputable def o165_2 (P : Params) : Obj := ⟨(.type PySem.W.SL.s2766695959194262286x5), none, (.seq #[] 0), #[]⟩
noncomputable def o166_2 (P : Params) : Obj := ⟨(.type PySem.W.SL.s14018661285674007319x4), none, (.dict #[⟨(kh P s18), (.str s18 370), (.str s23 315)⟩, ⟨(kh P s20), (.str s20 374), (.int 66 373)⟩, ⟨(kh P s53), (.str s53 381), (.ref 157)⟩, ⟨(kh P s54), (.str s54 388), (.ref 164)⟩, ⟨(kh P s21), (.str s21 389), (.ref 165)⟩, ⟨(kh P s5), (.str s5 390), .none⟩] 2), #[]⟩
noncomputable def o167_2 (P : Params) : Obj := ⟨(.type PySem.W.SL.s17162191345867700912x4), none, (.cls ⟨s51, [(.ref 139)], [(.ref 167), (.ref 139), (.type PySem.W.SL.s2742458400755230247x6)], 166, s51, true, [], [], false, none, false⟩), #[(some (.ref 144)), none, (some (.str s51 363)), (some (.str s51 371)), (some (.builtin PySem.W.SL.s11443829558043349243x14)), (some (.bool true))]⟩
noncomputable def o168_2 (P : Params) : Obj := ⟨(.type PySem.W.SL.s4290257624100764138x5), none, (.fields #[(.ref 167), (.ref 167), (.ref 167)]), #[]⟩
noncomputable def o169_2 (P : Params) : Obj := ⟨(.type PySem.W.SL.s11030030927630378310x26), none, (.fields #[(.builtin PySem.W.SL.s4860613602091757760x24), (.ref 167)]), #[]⟩
noncomputable def o3_3 (P : Params) : Obj := ⟨(.type PySem.W.SL.s14018661285674007319x4), none, (.dict #[⟨(kh P s3), (.str s3 165), (.str s23 315)⟩, ⟨(kh P s5), (.str s5 166), .none⟩, ⟨(kh P s6), (.str s6 167), .none⟩, ⟨(kh P s7), (.str s7 168), (.builtin PySem.W.SL.s7097527257260152453x26)⟩, ⟨(kh P s8), (.str s8 169), .none⟩, ⟨(kh P s9), (.str s9 170), (.ref 6)⟩, ⟨(kh P s10), (.str s10 171), (.ref 4)⟩, ⟨(kh P s11), (.str s11 173), (.str s1 172)⟩, ⟨(kh P s12), (.str s12 174), .none⟩, ⟨(kh P s13), (.str s13 193), (.ref 21)⟩, ⟨(kh P s14), (.str s14 213), (.ref 31)⟩, ⟨(kh P s15), (.str s15 229), (.ref 44)⟩, ⟨(kh P s16), (.str s16 245), (.ref 56)⟩, ⟨(kh P s24), (.str s24 261), (.ref 68)⟩, ⟨(kh P s25), (.str s25 277), (.ref 80)⟩, ⟨(kh P s26), (.str s26 286), (.ref 89)⟩, ⟨(kh P s27), (.str s27 297), (.ref 96)⟩, ⟨(kh P s28), (.str s28 306), (.ref 103)⟩, ⟨(kh P s29), (.str s29 314), (.ref 110)⟩, ⟨(kh P s30), (.str s30 318), (.str s31 317)⟩, ⟨(kh P s32), (.str s32 320), (.int 30 319)⟩, ⟨(kh P s33), (.str s33 322), (.int 1000000 321)⟩, ⟨(kh P s34), (.str s34 328), (.ref 115)⟩, ⟨(kh P s35), (.str s35 335), (.ref 122)⟩, ⟨(kh P s36), (.str s36 342), (.ref 129)⟩, ⟨(kh P s50), (.str s50 362), (.ref 139)⟩, ⟨(kh P s51), (.str s51 392), (.ref 167)⟩, ⟨(kh P s58), (.str s58 438), (.ref 207)⟩] 28), #[]⟩
noncomputable def o12_3 (P : Params) : Obj := ⟨.none, none, (.fields #[(.int 1 0), (.int 0 0), (.ref 20), (.int 5 0), (.int 0 0), (.ref 27), (.int 7 0), (.int 0 0), (.ref 40), (.int 9 0), (.int 0 0), (.ref 52), (.int 11 0), (.int 0 0), (.ref 64), (.int 13 0), (.int 0 0), (.ref 76), (.int 16 0), (.int 0 0), (.ref 88), (.int 18 0), (.int 0 0), (.ref 95), (.int 26 0), (.int 0 0), (.ref 102), (.int 35 0), (.int 0 0), (.ref 109), (.int 48 0), (.int 0 0), (.ref 114), (.int 57 0), (.int 0 0), (.ref 121), (.int 61 0), (.int 0 0), (.ref 128), (.int 64 0), (.int 0 0), (.ref 135), (.int 66 0), (.int 0 0), (.ref 149), (.int 73 0), (.int 0 0), (.ref 175)]), #[]⟩
noncomputable def o139_3 (P : Params) : Obj := ⟨(.type PySem.W.SL.s17162191345867700912x4), none, (.cls ⟨s50, [(.type PySem.W.SL.s2742458400755230247x6)], [(.ref 139), (.type PySem.W.SL.s2742458400755230247x6)], 138, s50, true, [], [(.ref 167), (.ref 207)], false, none, false⟩), #[none, none, (some (.str s50 343)), (some (.str s50 351)), (some (.builtin PySem.W.SL.s11443829558043349243x14)), (some (.bool true))]⟩
noncomputable def o170_3 (P : Params) : Obj := ⟨(.type PySem.W.SL.s2766695959194262286x5), none, (.seq #[(.ref 139)] 0), #[]⟩
noncomputable def o171_3 (P : Params) : Obj := ⟨(.type PySem.W.SL.s11030030927630378310x26), none, (.fields #[(.builtin PySem.W.SL.s10062305145149207511x16), (.type PySem.W.SL.s17162191345867700912x4)]), #[]⟩
noncomputable def o172_3 (P : Params) : Obj := ⟨(.type PySem.W.SL.s14018661285674007319x4), none, (.dict #[⟨(kh P s18), (.str s18 400), (.str s23 315)⟩, ⟨(kh P s19), (.str s19 402), (.str s58 401)⟩, ⟨(kh P s20), (.str s20 404), (.int 73 403)⟩, ⟨(kh P s53), (.str s53 411), (.ref 183)⟩, ⟨(kh P s54), (.str s54 418), (.ref 190)⟩, ⟨(kh P s59), (.str s59 426), (.ref 197)⟩, ⟨(kh P s60), (.str s60 434), (.ref 204)⟩, ⟨(kh P s21), (.str s21 435), (.ref 205)⟩] 8), #[]⟩
noncomputable def o173_3 (P : Params) : Obj := ⟨(.type PySem.W.SL.s2766695959194262286x5), none, (.seq #[] 0), #[]⟩
noncomputable def o174_3 (P : Params) : Obj := ⟨.none, none, (.fields #[(.int 75 0), (.int 4 0), (.ref 182), (.int 78 0), (.int 4 0), (.ref 189), (.int 81 0), (.int 4 0), (.ref 196), (.int 84 0), (.int 4 0), (.ref 203)]), #[]⟩
noncomputable def o175_3 (P : Params) : Obj := ⟨(.type PySem.W.SL.s5856160107412720595x4), none, (.fields #[(.str s58 395), (.str s58 396), (.str s1 397), (.int 73 0), (.int 0 0), (.int 0 0), (.int 0 0), (.int 0 0), (.ref 173), (.bool false), (.int 181 0), (.ref 174), .none, .none, .none, .none, (.int 398 0), (.int 73 0), (.str s1 399)]), #[]⟩
noncomputable def o176_3 (P : Params) : Obj := ⟨(.type PySem.W.SL.s658472552662922059x5), none, .plain, #[(some (.ref 175)), (some (.ref 3)), (some (.ref 172)), none, (some (.str s23 315)), none, (some (.ref 0))]⟩
noncomputable def o177_3 (P : Params) : Obj := ⟨(.type PySem.W.SL.s2766695959194262286x5), none, (.seq #[] 0), #[]⟩
noncomputable def o178_3 (P : Params) : Obj := ⟨.none, none, (.fields #[]), #[]⟩
noncomputable def o179_3 (P : Params) : Obj := ⟨(.type PySem.W.SL.s2766695959194262286x5), none, (.seq #[(.str s55 408)] 0), #[]⟩
noncomputable def o180_3 (P : Params) : Obj := ⟨(.type PySem.W.SL.s2766695959194262286x5), none, (.seq #[] 0), #[]⟩
noncomputable def o181_3 (P : Params) : Obj := ⟨.none, none, (.func ⟨s53, s61, (L2.defArgs (L2.inClass (topT 21) 0)), (.stmts (L2.defBody (L2.inClass (topT 21) 0))), (L2.defScope (L2.inClass (topT 21) 0)), 0, [], .none, .none, .none, .none, none, .none, .none, 0⟩), #[]⟩
noncomputable def o182_3 (P : Params) : Obj := ⟨(.type PySem.W.SL.s5856160107412720595x4), none, (.fields #[(.str s53 405), (.str s61 406), (.str s1 407), (.int 75 0), (.int 1 0), (.int 0 0), (.int 0 0), (.int 3 0), (.ref 177), (.bool true), (.int 181 0), (.ref 178), .none, (.ref 179), (.ref 180), (.ref 181), (.int 409 0), (.int 75 0), (.str s1 410)]), #[]⟩
noncomputable def o183_3 (P : Params) : Obj := ⟨(.type PySem.W.SL.s7174869446012820540x8), none, (.func ⟨s53, s61, (L2.defArgs (L2.inClass (topT 21) 0)), (.stmts (L2.defBody (L2.inClass (topT 21) 0))), (L2.defScope (L2.inClass (topT 21) 0)), 3, [], .none, .none, .none, (.str s23 315), none, (.ref 182), .none, 0⟩), #[]⟩
noncomputable def o184_3 (P : Params) : Obj := ⟨(.type PySem.W.SL.s2766695959194262286x5), none, (.seq #[] 0), #[]⟩
noncomputable def o185_3 (P : Params) : Obj := ⟨.none, none, (.fields #[]), #[]⟩
noncomputable def o186_3 (P : Params) : Obj := ⟨(.type PySem.W.SL.s2766695959194262286x5), none, (.seq #[(.str s55 415)] 0), #[]⟩
noncomputable def o187_3 (P : Params) : Obj := ⟨(.type PySem.W.SL.s2766695959194262286x5), none, (.seq #[] 0), #[]⟩
noncomputable def o188_3 (P : Params) : Obj := ⟨.none, none, (.func ⟨s54, s62, (L2.defArgs (L2.inClass (topT 21) 1)), (.stmts (L2.defBody (L2.inClass (topT 21) 1))), (L2.defScope (L2.inClass (topT 21) 1)), 0, [], .none, .none, .none, .none, none, .none, .none, 0⟩), #[]⟩
noncomputable def o189_3 (P : Params) : Obj := ⟨(.type PySem.W.SL.s5856160107412720595x4), none, (.fields #[(.str s54 412), (.str s62 413), (.str s1 414), (.int 78 0), (.int 1 0), (.int 0 0), (.int 0 0), (.int 3 0), (.ref 184), (.bool true), (.int 181 0), (.ref 185), .none, (.ref 186), (.ref 187), (.ref 188), (.int 416 0), (.int 78 0), (.str s1 417)]), #[]⟩
noncomputable def o190_3 (P : Params) : Obj := ⟨(.type PySem.W.SL.s7174869446012820540x8), none, (.func ⟨s54, s62, (L2.defArgs (L2.inClass (topT 21) 1)), (.stmts (L2.defBody (L2.inClass (topT 21) 1))), (L2.defScope (L2.inClass (topT 21) 1)), 3, [], .none, .none, .none, (.str s23 315), none, (.ref 189), .none, 0⟩), #[]⟩
noncomputable def o191_3 (P : Params) : Obj := ⟨(.type PySem.W.SL.s2766695959194262286x5), none, (.seq #[] 0), #[]⟩
noncomputable def o192_3 (P : Params) : Obj := ⟨.none, none, (.fields #[]), #[]⟩
noncomputable def o193_3 (P : Params) : Obj := ⟨(.type PySem.W.SL.s2766695959194262286x5), none, (.seq #[(.str s55 422), (.str s63 423)] 0), #[]⟩
noncomputable def o194_3 (P : Params) : Obj := ⟨(.type PySem.W.SL.s2766695959194262286x5), none, (.seq #[] 0), #[]⟩
noncomputable def o195_3 (P : Params) : Obj := ⟨.none, none, (.func ⟨s59, s64, (L2.defArgs (L2.inClass (topT 21) 2)), (.stmts (L2.defBody (L2.inClass (topT 21) 2))), (L2.defScope (L2.inClass (topT 21) 2)), 0, [], .none, .none, .none, .none, none, .none, .none, 0⟩), #[]⟩
noncomputable def o196_3 (P : Params) : Obj := ⟨(.type PySem.W.SL.s5856160107412720595x4), none, (.fields #[(.str s59 419), (.str s64 420), (.str s1 421), (.int 81 0), (.int 2 0), (.int 0 0), (.int 0 0), (.int 3 0), (.ref 191), (.bool true), (.int 181 0), (.ref 192), .none, (.ref 193), (.ref 194), (.ref 195), (.int 424 0), (.int 81 0), (.str s1 425)]), #[]⟩
noncomputable def o197_3 (P : Params) : Obj := ⟨(.type PySem.W.SL.s7174869446012820540x8), none, (.func ⟨s59, s64, (L2.defArgs (L2.inClass (topT 21) 2)), (.stmts (L2.defBody (L2.inClass (topT 21) 2))), (L2.defScope (L2.inClass (topT 21) 2)), 3, [], .none, .none, .none, (.str s23 315), none, (.ref 196), .none, 0⟩), #[]⟩
noncomputable def o198_3 (P : Params) : Obj := ⟨(.type PySem.W.SL.s2766695959194262286x5), none, (.seq #[] 0), #[]⟩
noncomputable def o199_3 (P : Params) : Obj := ⟨.none, none, (.fields #[]), #[]⟩
noncomputable def o200_3 (P : Params) : Obj := ⟨(.type PySem.W.SL.s2766695959194262286x5), none, (.seq #[(.str s55 430), (.str s63 431)] 0), #[]⟩
noncomputable def o201_3 (P : Params) : Obj := ⟨(.type PySem.W.SL.s2766695959194262286x5), none, (.seq #[] 0), #[]⟩
noncomputable def o202_3 (P : Params) : Obj := ⟨.none, none, (.func ⟨s60, s65, (L2.defArgs (L2.inClass (topT 21) 3)), (.stmts (L2.defBody (L2.inClass (topT 21) 3))), (L2.defScope (L2.inClass (topT 21) 3)), 0, [], .none, .none, .none, .none, none, .none, .none, 0⟩), #[]⟩
noncomputable def o203_3 (P : Params) : Obj := ⟨(.type PySem.W.SL.s5856160107412720595x4), none, (.fields #[(.str s60 427), (.str s65 428), (.str s1 429), (.int 84 0), (.int 2 0), (.int 0 0), (.int 0 0), (.int 3 0), (.ref 198), (.bool true), (.int 181 0), (.ref 199), .none, (.ref 200), (.ref 201), (.ref 202), (.int 432 0), (.int 84 0), (.str s1 433)]), #[]⟩
noncomputable def o204_3 (P : Params) : Obj := ⟨(.type PySem.W.SL.s7174869446012820540x8), none, (.func ⟨s60, s65, (L2.defArgs (L2.inClass (topT 21) 3)), (.stmts (L2.defBody (L2.inClass (topT 21) 3))), (L2.defScope (L2.inClass (topT 21) 3)), 3, [], .none, .none, .none, (.str s23 315), none, (.ref 203), .none, 0⟩), #[]⟩
noncomputable def o205_3 (P : Params) : Obj := ⟨(.type PySem.W.SL.s2766695959194262286x5), none, (.seq #[] 0), #[]⟩
noncomputable def o206_3 (P : Params) : Obj := ⟨(.type PySem.W.SL.s14018661285674007319x4), none, (.dict #[⟨(kh P s18), (.str s18 400), (.str s23 315)⟩, ⟨(kh P s20), (.str s20 404), (.int 73 403)⟩, ⟨(kh P s53), (.str s53 411), (.ref 183)⟩, ⟨(kh P s54), (.str s54 418), (.ref 190)⟩, ⟨(kh P s59), (.str s59 426), (.ref 197)⟩, ⟨(kh P s60), (.str s60 434), (.ref 204)⟩, ⟨(kh P s21), (.str s21 435), (.ref 205)⟩, ⟨(kh P s5), (.str s5 436), .none⟩] 2), #[]⟩
noncomputable def o207_3 (P : Params) : Obj := ⟨(.type PySem.W.SL.s17162191345867700912x4), none, (.cls ⟨s58, [(.ref 139)], [(.ref 207), (.ref 139), (.type PySem.W.SL.s2742458400755230247x6)], 206, s58, true, [], [], false, none, false⟩), #[(some (.ref 170)), none, (some (.str s58 393)), (some (.str s58 401)), (some (.builtin PySem.W.SL.s11443829558043349243x14)), (some (.bool true))]⟩
noncomputable def o208_3 (P : Params) : Obj := ⟨(.type PySem.W.SL.s4290257624100764138x5), none, (.fields #[(.ref 207), (.ref 207), (.ref 207)]), #[]⟩
noncomputable def o209_3 (P : Params) : Obj := ⟨(.type PySem.W.SL.s11030030927630378310x26), none, (.fields #[(.builtin PySem.W.SL.s4860613602091757760x24), (.ref 207)]), #[]⟩
noncomputable def o3_4 (P : Params) : Obj := ⟨(.type PySem.W.SL.s14018661285674007319x4), none, (.dict #[⟨(kh P s3), (.str s3 165), (.str s23 315)⟩, ⟨(kh P s5), (.str s5 166), .none⟩, ⟨(kh P s6), (.str s6 167), .none⟩, ⟨(kh P s7), (.str s7 168), (.builtin PySem.W.SL.s7097527257260152453x26)⟩, ⟨(kh P s8), (.str s8 169), .none⟩, ⟨(kh P s9), (.str s9 170), (.ref 6)⟩, ⟨(kh P s10), (.str s10 171), (.ref 4)⟩, ⟨(kh P s11), (.str s11 173), (.str s1 172)⟩, ⟨(kh P s12), (.str s12 174), .none⟩, ⟨(kh P s13), (.str s13 193), (.ref 21)⟩, ⟨(kh P s14), (.str s14 213), (.ref 31)⟩, ⟨(kh P s15), (.str s15 229), (.ref 44)⟩, ⟨(kh P s16), (.str s16 245), (.ref 56)⟩, ⟨(kh P s24), (.str s24 261), (.ref 68)⟩, ⟨(kh P s25), (.str s25 277), (.ref 80)⟩, ⟨(kh P s26), (.str s26 286), (.ref 89)⟩, ⟨(kh P s27), (.str s27 297), (.ref 96)⟩, ⟨(kh P s28), (.str s28 306), (.ref 103)⟩, ⟨(kh P s29), (.str s29 314), (.ref 110)⟩, ⟨(kh P s30), (.str s30 318), (.str s31 317)⟩, ⟨(kh P s32), (.str s32 320), (.int 30 319)⟩, ⟨(kh P s33), (.str s33 322), (.int 1000000 321)⟩, ⟨(kh P s34), (.str s34 328), (.ref 115)⟩, ⟨(kh P s35), (.str s35 335), (.ref 122)⟩, ⟨(kh P s36), (.str s36 342), (.ref 129)⟩, ⟨(kh P s50), (.str s50 362), (.ref 139)⟩, ⟨(kh P s51), (.str s51 392), (.ref 167)⟩, ⟨(kh P s58), (.str s58 438), (.ref 207)⟩, ⟨(kh P s66), (.str s66 536), (.ref 289)⟩] 29), #[]⟩
noncomputable def o12_4 (P : Params) : Obj := ⟨.none, none, (.fields #[(.int 1 0), (.int 0 0), (.ref 20), (.int 5 0), (.int 0 0), (.ref 27), (.int 7 0), (.int 0 0), (.ref 40), (.int 9 0), (.int 0 0), (.ref 52), (.int 11 0), (.int 0 0), (.ref 64), (.int 13 0), (.int 0 0), (.ref 76), (.int 16 0), (.int 0 0), (.ref 88), (.int 18 0), (.int 0 0), (.ref 95), (.int 26 0), (.int 0 0), (.ref 102), (.int 35 0), (.int 0 0), (.ref 109), (.int 48 0), (.int 0 0), (.ref 114), (.int 57 0), (.int 0 0), (.ref 121), (.int 61 0), (.int 0 0), (.ref 128), (.int 64 0), (.int 0 0), (.ref 135), (.int 66 0), (.int 0 0), (.ref 149), (.int 73 0), (.int 0 0), (.ref 175), (.int 86 0), (.int 0 0), (.ref 215)]), #[]⟩
noncomputable def o167_4 (P : Params) : Obj := ⟨(.type PySem.W.SL.s17162191345867700912x4), none, (.cls ⟨s51, [(.ref 139)], [(.ref 167), (.ref 139), (.type PySem.W.SL.s2742458400755230247x6)], 166, s51, true, [], [(.ref 289)], false, none, false⟩), #[(some (.ref 144)), none, (some (.str s51 363)), (some (.str s51 371)), (some (.builtin PySem.W.SL.s11443829558043349243x14)), (some (.bool true))]⟩
noncomputable def o210_4 (P : Params) : Obj := ⟨(.type PySem.W.SL.s2766695959194262286x5), none, (.seq #[(.ref 167)] 0), #[]⟩
noncomputable def o211_4 (P : Params) : Obj := ⟨(.type PySem.W.SL.s11030030927630378310x26), none, (.fields #[(.builtin PySem.W.SL.s10062305145149207511x16), (.type PySem.W.SL.s17162191345867700912x4)]), #[]⟩
noncomputable def o212_4 (P : Params) : Obj := ⟨(.type PySem.W.SL.s14018661285674007319x4), none, (.dict #[⟨(kh P s18), (.str s18 446), (.str s23 315)⟩, ⟨(kh P s19), (.str s19 448), (.str s66 447)⟩, ⟨(kh P s20), (.str s20 450), (.int 86 449)⟩, ⟨(kh P s67), (.str s67 457), (.ref 223)⟩, ⟨(kh P s68), (.str s68 464), (.ref 230)⟩, ⟨(kh P s39), (.str s39 471), (.ref 237)⟩, ⟨(kh P s69), (.str s69 480), (.ref 244)⟩, ⟨(kh P s70), (.str s70 489), (.ref 251)⟩, ⟨(kh P s59), (.str s59 497), (.ref 258)⟩, ⟨(kh P s60), (.str s60 505), (.ref 265)⟩, ⟨(kh P s71), (.str s71 513), (.ref 272)⟩, ⟨(kh P s72), (.str s72 521), (.ref 279)⟩, ⟨(kh P s73), (.str s73 532), (.ref 286)⟩, ⟨(kh P s21), (.str s21 533), (.ref 287)⟩] 14), #[]⟩
noncomputable def o213_4 (P : Params) : Obj := ⟨(.type PySem.W.SL.s2766695959194262286x5), none, (.seq #[] 0), #[]⟩
noncomputable def o214_4 (P : Params) : Obj := ⟨.none, none, (.fields #[(.int 88 0), (.int 4 0), (.ref 222), (.int 91 0), (.int 4 0), (.ref 229), (.int 94 0), (.int 4 0), (.ref 236), (.int 97 0), (.int 4 0), (.ref 243), (.int 100 0), (.int 4 0), (.ref 250), (.int 103 0), (.int 4 0), (.ref 257), (.int 106 0), (.int 4 0), (.ref 264), (.int 109 0), (.int 4 0), (.ref 271), (.int 116 0), (.int 4 0), (.ref 278), (.int 119 0), (.int 4 0), (.ref 285)]), #[]⟩
noncomputable def o215_4 (P : Params) : Obj := ⟨(.type PySem.W.SL.s5856160107412720595x4), none, (.fields #[(.str s66 441), (.str s66 442), (.str s1 443), (.int 86 0), (.int 0 0), (.int 0 0), (.int 0 0), (.int 0 0), (.ref 213), (.bool false), (.int 181 0), (.ref 214), .none, .none, .none, .none, (.int 444 0), (.int 86 0), (.str s1 445)]), #[]⟩
noncomputable def o216_4 (P : Params) : Obj := ⟨(.type PySem.W.SL.s658472552662922059x5), none, .plain, #[(some (.ref 215)), (some (.ref 3)), (some (.ref 212)), none, (some (.str s23 315)), none, (some (.ref 0))]⟩
noncomputable def o217_4 (P : Params) : Obj := ⟨(.type PySem.W.SL.s2766695959194262286x5), none, (.seq #[] 0), #[]⟩
noncomputable def o218_4 (P : Params) : Obj := ⟨.none, none, (.fields #[]), #[]⟩
noncomputable def o219_4 (P : Params) : Obj := ⟨(.type PySem.W.SL.s2766695959194262286x5), none, (.seq #[(.str s55 454)] 0), #[]⟩
noncomputable def o220_4 (P : Params) : Obj := ⟨(.type PySem.W.SL.s2766695959194262286x5), none, (.seq #[] 0), #[]⟩
noncomputable def o221_4 (P : Params) : Obj := ⟨.none, none, (.func ⟨s67, s74, (L2.defArgs (L2.inClass (topT 22) 0)), (.stmts (L2.defBody (L2.inClass (topT 22) 0))), (L2.defScope (L2.inClass (topT 22) 0)), 0, [], .none, .none, .none, .none, none, .none, .none, 0⟩), #[]⟩
noncomputable def o222_4 (P : Params) : Obj := ⟨(.type PySem.W.SL.s5856160107412720595x4), none, (.fields #[(.str s67 451), (.str s74 452), (.str s1 453), (.int 88 0), (.int 1 0), (.int 0 0), (.int 0 0), (.int 3 0), (.ref 217), (.bool true), (.int 181 0), (.ref 218), .none, (.ref 219), (.ref 220), (.ref 221), (.int 455 0), (.int 88 0), (.str s1 456)]), #[]⟩
noncomputable def o223_4 (P : Params) : Obj := ⟨(.type PySem.W.SL.s7174869446012820540x8), none, (.func ⟨s67, s74, (L2.defArgs (L2.inClass (topT 22) 0)), (.stmts (L2.defBody (L2.inClass (topT 22) 0))), (L2.defScope (L2.inClass (topT 22) 0)), 3, [], .none, .none, .none, (.str s23 315), none, (.ref 222), .none, 0⟩), #[]⟩
noncomputable def o224_4 (P : Params) : Obj := ⟨(.type PySem.W.SL.s2766695959194262286x5), none, (.seq #[] 0), #[]⟩
noncomputable def o225_4 (P : Params) : Obj := ⟨.none, none, (.fields #[]), #[]⟩
noncomputable def o226_4 (P : Params) : Obj := ⟨(.type PySem.W.SL.s2766695959194262286x5), none, (.seq #[(.str s55 461)] 0), #[]⟩
noncomputable def o227_4 (P : Params) : Obj := ⟨(.type PySem.W.SL.s2766695959194262286x5), none, (.seq #[] 0), #[]⟩
noncomputable def o228_4 (P : Params) : Obj := ⟨.none, none, (.func ⟨s68, s75, (L2.defArgs (L2.inClass (topT 22) 1)), (.stmts (L2.defBody (L2.inClass (topT 22) 1))), (L2.defScope (L2.inClass (topT 22) 1)), 0, [], .none, .none, .none, .none, none, .none, .none, 0⟩), #[]⟩
noncomputable def o229_4 (P : Params) : Obj := ⟨(.type PySem.W.SL.s5856160107412720595x4), none, (.fields #[(.str s68 458), (.str s75 459), (.str s1 460), (.int 91 0), (.int 1 0), (.int 0 0), (.int 0 0), (.int 3 0), (.ref 224), (.bool true), (.int 181 0), (.ref 225), .none, (.ref 226), (.ref 227), (.ref 228), (.int 462 0), (.int 91 0), (.str s1 463)]), #[]⟩
noncomputable def o230_4 (P : Params) : Obj := ⟨(.type PySem.W.SL.s7174869446012820540x8), none, (.func ⟨s68, s75, (L2.defArgs (L2.inClass (topT 22) 1)), (.stmts (L2.defBody (L2.inClass (topT 22) 1))), (L2.defScope (L2.inClass (topT 22) 1)), 3, [], .none, .none, .none, (.str s23 315), none, (.ref 229), .none, 0⟩), #[]⟩
noncomputable def o231_4 (P : Params) : Obj := ⟨(.type PySem.W.SL.s2766695959194262286x5), none, (.seq #[] 0), #[]⟩
noncomputable def o232_4 (P : Params) : Obj := ⟨.none, none, (.fields #[]), #[]⟩
noncomputable def o233_4 (P : Params) : Obj := ⟨(.type PySem.W.SL.s2766695959194262286x5), none, (.seq #[(.str s55 468)] 0), #[]⟩
noncomputable def o234_4 (P : Params) : Obj := ⟨(.type PySem.W.SL.s2766695959194262286x5), none, (.seq #[] 0), #[]⟩
noncomputable def o235_4 (P : Params) : Obj := ⟨.none, none, (.func ⟨s39, s76, (L2.defArgs (L2.inClass (topT 22) 2)), (.stmts (L2.defBody (L2.inClass (topT 22) 2))), (L2.defScope (L2.inClass (topT 22) 2)), 0, [], .none, .none, .none, .none, none, .none, .none, 0⟩), #[]⟩
noncomputable def o236_4 (P : Params) : Obj := ⟨(.type PySem.W.SL.s5856160107412720595x4), none, (.fields #[(.str s39 465), (.str s76 466), (.str s1 467), (.int 94 0), (.int 1 0), (.int 0 0), (.int 0 0), (.int 3 0), (.ref 231), (.bool true), (.int 181 0), (.ref 232), .none, (.ref 233), (.ref 234), (.ref 235), (.int 469 0), (.int 94 0), (.str s1 470)]), #[]⟩
noncomputable def o237_4 (P : Params) : Obj := ⟨(.type PySem.W.SL.s7174869446012820540x8), none, (.func ⟨s39, s76, (L2.defArgs (L2.inClass (topT 22) 2)), (.stmts (L2.defBody (L2.inClass (topT 22) 2))), (L2.defScope (L2.inClass (topT 22) 2)), 3, [], .none, .none, .none, (.str s23 315), none, (.ref 236), .none, 0⟩), #[]⟩
noncomputable def o238_4 (P : Params) : Obj := ⟨(.type PySem.W.SL.s2766695959194262286x5), none, (.seq #[] 0), #[]⟩
noncomputable def o239_4 (P : Params) : Obj := ⟨.none, none, (.fields #[]), #[]⟩
noncomputable def o240_4 (P : Params) : Obj := ⟨(.type PySem.W.SL.s2766695959194262286x5), none, (.seq #[(.str s55 475), (.str s63 476), (.str s77 477)] 0), #[]⟩
noncomputable def o241_4 (P : Params) : Obj := ⟨(.type PySem.W.SL.s2766695959194262286x5), none, (.seq #[] 0), #[]⟩
noncomputable def o242_4 (P : Params) : Obj := ⟨.none, none, (.func ⟨s69, s78, (L2.defArgs (L2.inClass (topT 22) 3)), (.stmts (L2.defBody (L2.inClass (topT 22) 3))), (L2.defScope (L2.inClass (topT 22) 3)), 0, [], .none, .none, .none, .none, none, .none, .none, 0⟩), #[]⟩
noncomputable def o243_4 (P : Params) : Obj := ⟨(.type PySem.W.SL.s5856160107412720595x4), none, (.fields #[(.str s69 472), (.str s78 473), (.str s1 474), (.int 97 0), (.int 3 0), (.int 0 0), (.int 0 0), (.int 3 0), (.ref 238), (.bool true), (.int 181 0), (.ref 239), .none, (.ref 240), (.ref 241), (.ref 242), (.int 478 0), (.int 97 0), (.str s1 479)]), #[]⟩
noncomputable def o244_4 (P : Params) : Obj := ⟨(.type PySem.W.SL.s7174869446012820540x8), none, (.func ⟨s69, s78, (L2.defArgs (L2.inClass (topT 22) 3)), (.stmts (L2.defBody (L2.inClass (topT 22) 3))), (L2.defScope (L2.inClass (topT 22) 3)), 3, [], .none, .none, .none, (.str s23 315), none, (.ref 243), .none, 0⟩), #[]⟩
noncomputable def o245_4 (P : Params) : Obj := ⟨(.type PySem.W.SL.s2766695959194262286x5), none, (.seq #[] 0), #[]⟩
noncomputable def o246_4 (P : Params) : Obj := ⟨.none, none, (.fields #[]), #[]⟩
noncomputable def o247_4 (P : Params) : Obj := ⟨(.type PySem.W.SL.s2766695959194262286x5), none, (.seq #[(.str s55 484), (.str s63 485), (.str s77 486)] 0), #[]⟩
noncomputable def o248_4 (P : Params) : Obj := ⟨(.type PySem.W.SL.s2766695959194262286x5), none, (.seq #[] 0), #[]⟩
noncomputable def o249_4 (P : Params) : Obj := ⟨.none, none, (.func ⟨s70, s79, (L2.defArgs (L2.inClass (topT 22) 4)), (.stmts (L2.defBody (L2.inClass (topT 22) 4))), (L2.defScope (L2.inClass (topT 22) 4)), 0, [], .none, .none, .none, .none, none, .none, .none, 0⟩), #[]⟩
noncomputable def o250_4 (P : Params) : Obj := ⟨(.type PySem.W.SL.s5856160107412720595x4), none, (.fields #[(.str s70 481), (.str s79 482), (.str s1 483), (.int 100 0), (.int 3 0), (.int 0 0), (.int 0 0), (.int 3 0), (.ref 245), (.bool true), (.int 181 0), (.ref 246), .none, (.ref 247), (.ref 248), (.ref 249), (.int 487 0), (.int 100 0), (.str s1 488)]), #[]⟩
noncomputable def o251_4 (P : Params) : Obj := ⟨(.type PySem.W.SL.s7174869446012820540x8), none, (.func ⟨s70, s79, (L2.defArgs (L2.inClass (topT 22) 4)), (.stmts (L2.defBody (L2.inClass (topT 22) 4))), (L2.defScope (L2.inClass (topT 22) 4)), 3, [], .none, .none, .none, (.str s23 315), none, (.ref 250), .none, 0⟩), #[]⟩
noncomputable def o252_4 (P : Params) : Obj := ⟨(.type PySem.W.SL.s2766695959194262286x5), none, (.seq #[] 0), #[]⟩
noncomputable def o253_4 (P : Params) : Obj := ⟨.none, none, (.fields #[]), #[]⟩
noncomputable def o254_4 (P : Params) : Obj := ⟨(.type PySem.W.SL.s2766695959194262286x5), none, (.seq #[(.str s55 493), (.str s63 494)] 0), #[]⟩
noncomputable def o255_4 (P : Params) : Obj := ⟨(.type PySem.W.SL.s2766695959194262286x5), none, (.seq #[] 0), #[]⟩
noncomputable def o256_4 (P : Params) : Obj := ⟨.none, none, (.func ⟨s59, s80, (L2.defArgs (L2.inClass (topT 22) 5)), (.stmts (L2.defBody (L2.inClass (topT 22) 5))), (L2.defScope (L2.inClass (topT 22) 5)), 0, [], .none, .none, .none, .none, none, .none, .none, 0⟩), #[]⟩
noncomputable def o257_4 (P : Params) : Obj := ⟨(.type PySem.W.SL.s5856160107412720595x4), none, (.fields #[(.str s59 490), (.str s80 491), (.str s1 492), (.int 103 0), (.int 2 0), (.int 0 0), (.int 0 0), (.int 3 0), (.ref 252), (.bool true), (.int 181 0), (.ref 253), .none, (.ref 254), (.ref 255), (.ref 256), (.int 495 0), (.int 103 0), (.str s1 496)]), #[]⟩
noncomputable def o258_4 (P : Params) : Obj := ⟨(.type PySem.W.SL.s7174869446012820540x8), none, (.func ⟨s59, s80, (L2.defArgs (L2.inClass (topT 22) 5)), (.stmts (L2.defBody (L2.inClass (topT 22) 5))), (L2.defScope (L2.inClass (topT 22) 5)), 3, [], .none, .none, .none, (.str s23 315), none, (.ref 257), .none, 0⟩), #[]⟩
noncomputable def o259_4 (P : Params) : Obj := ⟨(.type PySem.W.SL.s2766695959194262286x5), none, (.seq #[] 0), #[]⟩
noncomputable def o260_4 (P : Params) : Obj := ⟨.none, none, (.fields #[]), #[]⟩
noncomputable def o261_4 (P : Params) : Obj := ⟨(.type PySem.W.SL.s2766695959194262286x5), none, (.seq #[(.str s55 501), (.str s63 502)] 0), #[]⟩
noncomputable def o262_4 (P : Params) : Obj := ⟨(.type PySem.W.SL.s2766695959194262286x5), none, (.seq #[] 0), #[]⟩
noncomputable def o263_4 (P : Params) : Obj := ⟨.none, none, (.func ⟨s60, s81, (L2.defArgs (L2.inClass (topT 22) 6)), (.stmts (L2.defBody (L2.inClass (topT 22) 6))), (L2.defScope (L2.inClass (topT 22) 6)), 0, [], .none, .none, .none, .none, none, .none, .none, 0⟩), #[]⟩
noncomputable def o264_4 (P : Params) : Obj := ⟨(.type PySem.W.SL.s5856160107412720595x4), none, (.fields #[(.str s60 498), (.str s81 499), (.str s1 500), (.int 106 0), (.int 2 0), (.int 0 0), (.int 0 0), (.int 3 0), (.ref 259), (.bool true), (.int 181 0), (.ref 260), .none, (.ref 261), (.ref 262), (.ref 263), (.int 503 0), (.int 106 0), (.str s1 504)]), #[]⟩
noncomputable def o265_4 (P : Params) : Obj := ⟨(.type PySem.W.SL.s7174869446012820540x8), none, (.func ⟨s60, s81, (L2.defArgs (L2.inClass (topT 22) 6)), (.stmts (L2.defBody (L2.inClass (topT 22) 6))), (L2.defScope (L2.inClass (topT 22) 6)), 3, [], .none, .none, .none, (.str s23 315), none, (.ref 264), .none, 0⟩), #[]⟩
noncomputable def o266_4 (P : Params) : Obj := ⟨(.type PySem.W.SL.s2766695959194262286x5), none, (.seq #[] 0), #[]⟩
noncomputable def o267_4 (P : Params) : Obj := ⟨.none, none, (.fields #[]), #[]⟩
noncomputable def o268_4 (P : Params) : Obj := ⟨(.type PySem.W.SL.s2766695959194262286x5), none, (.seq #[(.str s55 509), (.str s37 510)] 0), #[]⟩
noncomputable def o269_4 (P : Params) : Obj := ⟨(.type PySem.W.SL.s2766695959194262286x5), none, (.seq #[] 0), #[]⟩
noncomputable def o270_4 (P : Params) : Obj := ⟨.none, none, (.func ⟨s71, s82, (L2.defArgs (L2.inClass (topT 22) 7)), (.stmts (L2.defBody (L2.inClass (topT 22) 7))), (L2.defScope (L2.inClass (topT 22) 7)), 0, [], .none, .none, .none, .none, none, .none, .none, 0⟩), #[]⟩
noncomputable def o271_4 (P : Params) : Obj := ⟨(.type PySem.W.SL.s5856160107412720595x4), none, (.fields #[(.str s71 506), (.str s82 507), (.str s1 508), (.int 109 0), (.int 2 0), (.int 0 0), (.int 0 0), (.int 3 0), (.ref 266), (.bool true), (.int 181 0), (.ref 267), .none, (.ref 268), (.ref 269), (.ref 270), (.int 511 0), (.int 109 0), (.str s1 512)]), #[]⟩
noncomputable def o272_4 (P : Params) : Obj := ⟨(.type PySem.W.SL.s7174869446012820540x8), none, (.func ⟨s71, s82, (L2.defArgs (L2.inClass (topT 22) 7)), (.stmts (L2.defBody (L2.inClass (topT 22) 7))), (L2.defScope (L2.inClass (topT 22) 7)), 3, [], .none, .none, .none, (.str s23 315), none, (.ref 271), .none, 0⟩), #[]⟩
noncomputable def o273_4 (P : Params) : Obj := ⟨(.type PySem.W.SL.s2766695959194262286x5), none, (.seq #[] 0), #[]⟩
noncomputable def o274_4 (P : Params) : Obj := ⟨.none, none, (.fields #[]), #[]⟩
noncomputable def o275_4 (P : Params) : Obj := ⟨(.type PySem.W.SL.s2766695959194262286x5), none, (.seq #[(.str s55 517), (.str s63 518)] 0), #[]⟩
noncomputable def o276_4 (P : Params) : Obj := ⟨(.type PySem.W.SL.s2766695959194262286x5), none, (.seq #[] 0), #[]⟩
noncomputable def o277_4 (P : Params) : Obj := ⟨.none, none, (.func ⟨s72, s83, (L2.defArgs (L2.inClass (topT 22) 8)), (.stmts (L2.defBody (L2.inClass (topT 22) 8))), (L2.defScope (L2.inClass (topT 22) 8)), 0, [], .none, .none, .none, .none, none, .none, .none, 0⟩), #[]⟩
noncomputable def o278_4 (P : Params) : Obj := ⟨(.type PySem.W.SL.s5856160107412720595x4), none, (.fields #[(.str s72 514), (.str s83 515), (.str s1 516), (.int 116 0), (.int 2 0), (.int 0 0), (.int 0 0), (.int 3 0), (.ref 273), (.bool true), (.int 181 0), (.ref 274), .none, (.ref 275), (.ref 276), (.ref 277), (.int 519 0), (.int 116 0), (.str s1 520)]), #[]⟩
noncomputable def o279_4 (P : Params) : Obj := ⟨(.type PySem.W.SL.s7174869446012820540x8), none, (.func ⟨s72, s83, (L2.defArgs (L2.inClass (topT 22) 8)), (.stmts (L2.defBody (L2.inClass (topT 22) 8))), (L2.defScope (L2.inClass (topT 22) 8)), 3, [], .none, .none, .none, (.str s23 315), none, (.ref 278), .none, 0⟩), #[]⟩
noncomputable def o280_4 (P : Params) : Obj := ⟨(.type PySem.W.SL.s2766695959194262286x5), none, (.seq #[] 0), #[]⟩
noncomputable def o281_4 (P : Params) : Obj := ⟨.none, none, (.fields #[]), #[]⟩
noncomputable def o282_4 (P : Params) : Obj := ⟨(.type PySem.W.SL.s2766695959194262286x5), none, (.seq #[(.str s55 525), (.str s49 526), (.str s84 527), (.str s44 528), (.str s45 529)] 0), #[]⟩
noncomputable def o283_4 (P : Params) : Obj := ⟨(.type PySem.W.SL.s2766695959194262286x5), none, (.seq #[] 0), #[]⟩
noncomputable def o284_4 (P : Params) : Obj := ⟨.none, none, (.func ⟨s73, s85, (L2.defArgs (L2.inClass (topT 22) 9)), (.stmts (L2.defBody (L2.inClass (topT 22) 9))), (L2.defScope (L2.inClass (topT 22) 9)), 0, [], .none, .none, .none, .none, none, .none, .none, 0⟩), #[]⟩
noncomputable def o285_4 (P : Params) : Obj := ⟨(.type PySem.W.SL.s5856160107412720595x4), none, (.fields #[(.str s73 522), (.str s85 523), (.str s1 524), (.int 119 0), (.int 2 0), (.int 0 0), (.int 0 0), (.int 3 0), (.ref 280), (.bool true), (.int 181 0), (.ref 281), .none, (.ref 282), (.ref 283), (.ref 284), (.int 530 0), (.int 119 0), (.str s1 531)]), #[]⟩
noncomputable def o286_4 (P : Params) : Obj := ⟨(.type PySem.W.SL.s7174869446012820540x8), none, (.func ⟨s73, s85, (L2.defArgs (L2.inClass (topT 22) 9)), (.stmts (L2.defBody (L2.inClass (topT 22) 9))), (L2.defScope (L2.inClass (topT 22) 9)), 3, [], .none, .none, .none, (.str s23 315), none, (.ref 285), .none, 0⟩), #[]⟩
noncomputable def o287_4 (P : Params) : Obj := ⟨(.type PySem.W.SL.s2766695959194262286x5), none, (.seq #[] 0), #[]⟩
noncomputable def o288_4 (P : Params) : Obj := ⟨(.type PySem.W.SL.s14018661285674007319x4), none, (.dict #[⟨(kh P s18), (.str s18 446), (.str s23 315)⟩, ⟨(kh P s20), (.str s20 450), (.int 86 449)⟩, ⟨(kh P s67), (.str s67 457), (.ref 223)⟩, ⟨(kh P s68), (.str s68 464), (.ref 230)⟩, ⟨(kh P s39), (.str s39 471), (.ref 237)⟩, ⟨(kh P s69), (.str s69 480), (.ref 244)⟩, ⟨(kh P s70), (.str s70 489), (.ref 251)⟩, ⟨(kh P s59), (.str s59 497), (.ref 258)⟩, ⟨(kh P s60), (.str s60 505), (.ref 265)⟩, ⟨(kh P s71), (.str s71 513), (.ref 272)⟩, ⟨(kh P s72), (.str s72 521), (.ref 279)⟩, ⟨(kh P s73), (.str s73 532), (.ref 286)⟩, ⟨(kh P s21), (.str s21 533), (.ref 287)⟩, ⟨(kh P s5), (.str s5 534), .none⟩] 2), #[]⟩
noncomputable def o289_4 (P : Params) : Obj := ⟨(.type PySem.W.SL.s17162191345867700912x4), none, (.cls ⟨s66, [(.ref 167)], [(.ref 289), (.ref 167), (.ref 139), (.type PySem.W.SL.s2742458400755230247x6)], 288, s66, true, [], [], false, none, false⟩), #[(some (.ref 210)), none, (some (.str s66 439)), (some (.str s66 447)), (some (.builtin PySem.W.SL.s11443829558043349243x14)), (some (.bool true))]⟩
noncomputable def o290_4 (P : Params) : Obj := ⟨(.type PySem.W.SL.s4290257624100764138x5), none, (.fields #[(.ref 289), (.ref 289), (.ref 289)]), #[]⟩
noncomputable def o291_4 (P : Params) : Obj := ⟨(.type PySem.W.SL.s11030030927630378310x26), none, (.fields #[(.builtin PySem.W.SL.s4860613602091757760x24), (.ref 289)]), #[]⟩
noncomputable def o3_5 (P : Params) : Obj := ⟨(.type PySem.W.SL.s14018661285674007319x4), none, (.dict #[⟨(kh P s3), (.str s3 165), (.str s23 315)⟩, ⟨(kh P s5), (.str s5 166), .none⟩, ⟨(kh P s6), (.str s6 167), .none⟩, ⟨(kh P s7), (.str s7 168), (.builtin PySem.W.SL.s7097527257260152453x26)⟩, ⟨(kh P s8), (.str s8 169), .none⟩, ⟨(kh P s9), (.str s9 170), (.ref 6)⟩, ⟨(kh P s10), (.str s10 171), (.ref 4)⟩, ⟨(kh P s11), (.str s11 173), (.str s1 172)⟩, ⟨(kh P s12), (.str s12 174), .none⟩, ⟨(kh P s13), (.str s13 193), (.ref 21)⟩, ⟨(kh P s14), (.str s14 213), (.ref 31)⟩, ⟨(kh P s15), (.str s15 229), (.ref 44)⟩, ⟨(kh P s16), (.str s16 245), (.ref 56)⟩, ⟨(kh P s24), (.str s24 261), (.ref 68)⟩, ⟨(kh P s25), (.str s25 277), (.ref 80)⟩, ⟨(kh P s26), (.str s26 286), (.ref 89)⟩, ⟨(kh P s27), (.str s27 297), (.ref 96)⟩, ⟨(kh P s28), (.str s28 306), (.ref 103)⟩, ⟨(kh P s29), (.str s29 314), (.ref 110)⟩, ⟨(kh P s30), (.str s30 318), (.str s31 317)⟩, ⟨(kh P s32), (.str s32 320), (.int 30 319)⟩, ⟨(kh P s33), (.str s33 322), (.int 1000000 321)⟩, ⟨(kh P s34), (.str s34 328), (.ref 115)⟩, ⟨(kh P s35), (.str s35 335), (.ref 122)⟩, ⟨(kh P s36), (.str s36 342), (.ref 129)⟩, ⟨(kh P s50), (.str s50 362), (.ref 139)⟩, ⟨(kh P s51), (.str s51 392), (.ref 167)⟩, ⟨(kh P s58), (.str s58 438), (.ref 207)⟩, ⟨(kh P s66), (.str s66 536), (.ref 289)⟩, ⟨(kh P s86), (.str s86 644), (.ref 378)⟩] 30), #[]⟩
noncomputable def o12_5 (P : Params) : Obj := ⟨.none, none, (.fields #[(.int 1 0), (.int 0 0), (.ref 20), (.int 5 0), (.int 0 0), (.ref 27), (.int 7 0), (.int 0 0), (.ref 40), (.int 9 0), (.int 0 0), (.ref 52), (.int 11 0), (.int 0 0), (.ref 64), (.int 13 0), (.int 0 0), (.ref 76), (.int 16 0), (.int 0 0), (.ref 88), (.int 18 0), (.int 0 0), (.ref 95), (.int 26 0), (.int 0 0), (.ref 102), (.int 35 0), (.int 0 0), (.ref 109), (.int 48 0), (.int 0 0), (.ref 114), (.int 57 0), (.int 0 0), (.ref 121), (.int 61 0), (.int 0 0), (.ref 128), (.int 64 0), (.int 0 0), (.ref 135), (.int 66 0), (.int 0 0), (.ref 149), (.int 73 0), (.int 0 0), (.ref 175), (.int 86 0), (.int 0 0), (.ref 215), (.int 129 0), (.int 0 0), (.ref 297)]), #[]⟩
noncomputable def o167_5 (P : Params) : Obj := ⟨(.type PySem.W.SL.s17162191345867700912x4), none, (.cls ⟨s51, [(.ref 139)], [(.ref 167), (.ref 139), (.type PySem.W.SL.s2742458400755230247x6)], 166, s51, true, [], [(.ref 289), (.ref 378)], false, none, false⟩), #[(some (.ref 144)), none, (some (.str s51 363)), (some (.str s51 371)), (some (.builtin PySem.W.SL.s11443829558043349243x14)), (some (.bool true))]⟩
noncomputable def o292_5 (P : Params) : Obj := ⟨(.type PySem.W.SL.s2766695959194262286x5), none, (.seq #[(.ref 167)] 0), #[]⟩
noncomputable def o293_5 (P : Params) : Obj := ⟨(.type PySem.W.SL.s11030030927630378310x26), none, (.fields #[(.builtin PySem.W.SL.s10062305145149207511x16), (.type PySem.W.SL.s17162191345867700912x4)]), #[]⟩
noncomputable def o294_5 (P : Params) : Obj := ⟨(.type PySem.W.SL.s14018661285674007319x4), none, (.dict #[⟨(kh P s18), (.str s18 544), (.str s23 315)⟩, ⟨(kh P s19), (.str s19 546), (.str s86 545)⟩, ⟨(kh P s20), (.str s20 548), (.int 129 547)⟩, ⟨(kh P s87), (.str s87 556), (.ref 305)⟩, ⟨(kh P s67), (.str s67 563), (.ref 312)⟩, ⟨(kh P s68), (.str s68 570), (.ref 319)⟩, ⟨(kh P s39), (.str s39 577), (.ref 326)⟩, ⟨(kh P s69), (.str s69 586), (.ref 333)⟩, ⟨(kh P s70), (.str s70 595), (.ref 340)⟩, ⟨(kh P s59), (.str s59 603), (.ref 347)⟩, ⟨(kh P s60), (.str s60 614), (.ref 354)⟩, ⟨(kh P s71), (.str s71 622), (.ref 361)⟩, ⟨(kh P s72), (.str s72 630), (.ref 368)⟩, ⟨(kh P s73), (.str s73 639), (.ref 375)⟩, ⟨(kh P s21), (.str s21 641), (.ref 376)⟩] 15), #[]⟩
noncomputable def o295_5 (P : Params) : Obj := ⟨(.type PySem.W.SL.s2766695959194262286x5), none, (.seq #[] 0), #[]⟩
noncomputable def o296_5 (P : Params) : Obj := ⟨.none, none, (.fields #[(.int 131 0), (.int 4 0), (.ref 304), (.int 136 0), (.int 4 0), (.ref 311), (.int 139 0), (.int 4 0), (.ref 318), (.int 142 0), (.int 4 0), (.ref 325), (.int 145 0), (.int 4 0), (.ref 332), (.int 148 0), (.int 4 0), (.ref 339), (.int 151 0), (.int 4 0), (.ref 346), (.int 154 0), (.int 4 0), (.ref 353), (.int 167 0), (.int 4 0), (.ref 360), (.int 170 0), (.int 4 0), (.ref 367), (.int 173 0), (.int 4 0), (.ref 374)]), #[]⟩
noncomputable def o297_5 (P : Params) : Obj := ⟨(.type PySem.W.SL.s5856160107412720595x4), none, (.fields #[(.str s86 539), (.str s86 540), (.str s1 541), (.int 129 0), (.int 0 0), (.int 0 0), (.int 0 0), (.int 0 0), (.ref 295), (.bool false), (.int 181 0), (.ref 296), .none, .none, .none, .none, (.int 542 0), (.int 129 0), (.str s1 543)]), #[]⟩
noncomputable def o298_5 (P : Params) : Obj := ⟨(.type PySem.W.SL.s658472552662922059x5), none, .plain, #[(some (.ref 297)), (some (.ref 3)), (some (.ref 294)), none, (some (.str s23 315)), none, (some (.ref 0))]⟩
noncomputable def o299_5 (P : Params) : Obj := ⟨(.type PySem.W.SL.s2766695959194262286x5), none, (.seq #[] 0), #[]⟩
noncomputable def o300_5 (P : Params) : Obj := ⟨.none, none, (.fields #[]), #[]⟩
noncomputable def o301_5 (P : Params) : Obj := ⟨(.type PySem.W.SL.s2766695959194262286x5), none, (.seq #[(.str s55 552), (.str s88 553)] 0), #[]⟩
noncomputable def o302_5 (P : Params) : Obj := ⟨(.type PySem.W.SL.s2766695959194262286x5), none, (.seq #[] 0), #[]⟩
noncomputable def o303_5 (P : Params) : Obj := ⟨.none, none, (.func ⟨s87, s89, (L2.defArgs (L2.inClass (topT 23) 0)), (.stmts (L2.defBody (L2.inClass (topT 23) 0))), (L2.defScope (L2.inClass (topT 23) 0)), 0, [], .none, .none, .none, .none, none, .none, .none, 0⟩), #[]⟩
noncomputable def o304_5 (P : Params) : Obj := ⟨(.type PySem.W.SL.s5856160107412720595x4), none, (.fields #[(.str s87 549), (.str s89 550), (.str s1 551), (.int 131 0), (.int 2 0), (.int 0 0), (.int 0 0), (.int 3 0), (.ref 299), (.bool true), (.int 181 0), (.ref 300), .none, (.ref 301), (.ref 302), (.ref 303), (.int 554 0), (.int 131 0), (.str s1 555)]), #[]⟩
noncomputable def o305_5 (P : Params) : Obj := ⟨(.type PySem.W.SL.s7174869446012820540x8), none, (.func ⟨s87, s89, (L2.defArgs (L2.inClass (topT 23) 0)), (.stmts (L2.defBody (L2.inClass (topT 23) 0))), (L2.defScope (L2.inClass (topT 23) 0)), 3, [], .none, .none, .none, (.str s23 315), none, (.ref 304), .none, 0⟩), #[]⟩
noncomputable def o306_5 (P : Params) : Obj := ⟨(.type PySem.W.SL.s2766695959194262286x5), none, (.seq #[] 0), #[]⟩
noncomputable def o307_5 (P : Params) : Obj := ⟨.none, none, (.fields #[]), #[]⟩
noncomputable def o308_5 (P : Params) : Obj := ⟨(.type PySem.W.SL.s2766695959194262286x5), none, (.seq #[(.str s55 560)] 0), #[]⟩
noncomputable def o309_5 (P : Params) : Obj := ⟨(.type PySem.W.SL.s2766695959194262286x5), none, (.seq #[] 0), #[]⟩
noncomputable def o310_5 (P : Params) : Obj := ⟨.none, none, (.func ⟨s67, s90, (L2.defArgs (L2.inClass (topT 23) 1)), (.stmts (L2.defBody (L2.inClass (topT 23) 1))), (L2.defScope (L2.inClass (topT 23) 1)), 0, [], .none, .none, .none, .none, none, .none, .none, 0⟩), #[]⟩
noncomputable def o311_5 (P : Params) : Obj := ⟨(.type PySem.W.SL.s5856160107412720595x4), none, (.fields #[(.str s67 557), (.str s90 558), (.str s1 559), (.int 136 0), (.int 1 0), (.int 0 0), (.int 0 0), (.int 3 0), (.ref 306), (.bool true), (.int 181 0), (.ref 307), .none, (.ref 308), (.ref 309), (.ref 310), (.int 561 0), (.int 136 0), (.str s1 562)]), #[]⟩
noncomputable def o312_5 (P : Params) : Obj := ⟨(.type PySem.W.SL.s7174869446012820540x8), none, (.func ⟨s67, s90, (L2.defArgs (L2.inClass (topT 23) 1)), (.stmts (L2.defBody (L2.inClass (topT 23) 1))), (L2.defScope (L2.inClass (topT 23) 1)), 3, [], .none, .none, .none, (.str s23 315), none, (.ref 311), .none, 0⟩), #[]⟩
noncomputable def o313_5 (P : Params) : Obj := ⟨(.type PySem.W.SL.s2766695959194262286x5), none, (.seq #[] 0), #[]⟩
noncomputable def o314_5 (P : Params) : Obj := ⟨.none, none, (.fields #[]), #[]⟩
noncomputable def o315_5 (P : Params) : Obj := ⟨(.type PySem.W.SL.s2766695959194262286x5), none, (.seq #[(.str s55 567)] 0), #[]⟩
noncomputable def o316_5 (P : Params) : Obj := ⟨(.type PySem.W.SL.s2766695959194262286x5), none, (.seq #[] 0), #[]⟩
noncomputable def o317_5 (P : Params) : Obj := ⟨.none, none, (.func ⟨s68, s91, (L2.defArgs (L2.inClass (topT 23) 2)), (.stmts (L2.defBody (L2.inClass (topT 23) 2))), (L2.defScope (L2.inClass (topT 23) 2)), 0, [], .none, .none, .none, .none, none, .none, .none, 0⟩), #[]⟩
noncomputable def o318_5 (P : Params) : Obj := ⟨(.type PySem.W.SL.s5856160107412720595x4), none, (.fields #[(.str s68 564), (.str s91 565), (.str s1 566), (.int 139 0), (.int 1 0), (.int 0 0), (.int 0 0), (.int 3 0), (.ref 313), (.bool true), (.int 181 0), (.ref 314), .none, (.ref 315), (.ref 316), (.ref 317), (.int 568 0), (.int 139 0), (.str s1 569)]), #[]⟩
noncomputable def o319_5 (P : Params) : Obj := ⟨(.type PySem.W.SL.s7174869446012820540x8), none, (.func ⟨s68, s91, (L2.defArgs (L2.inClass (topT 23) 2)), (.stmts (L2.defBody (L2.inClass (topT 23) 2))), (L2.defScope (L2.inClass (topT 23) 2)), 3, [], .none, .none, .none, (.str s23 315), none, (.ref 318), .none, 0⟩), #[]⟩
noncomputable def o320_5 (P : Params) : Obj := ⟨(.type PySem.W.SL.s2766695959194262286x5), none, (.seq #[] 0), #[]⟩
noncomputable def o321_5 (P : Params) : Obj := ⟨.none, none, (.fields #[]), #[]⟩
noncomputable def o322_5 (P : Params) : Obj := ⟨(.type PySem.W.SL.s2766695959194262286x5), none, (.seq #[(.str s55 574)] 0), #[]⟩
noncomputable def o323_5 (P : Params) : Obj := ⟨(.type PySem.W.SL.s2766695959194262286x5), none, (.seq #[] 0), #[]⟩
noncomputable def o324_5 (P : Params) : Obj := ⟨.none, none, (.func ⟨s39, s92, (L2.defArgs (L2.inClass (topT 23) 3)), (.stmts (L2.defBody (L2.inClass (topT 23) 3))), (L2.defScope (L2.inClass (topT 23) 3)), 0, [], .none, .none, .none, .none, none, .none, .none, 0⟩), #[]⟩
noncomputable def o325_5 (P : Params) : Obj := ⟨(.type PySem.W.SL.s5856160107412720595x4), none, (.fields #[(.str s39 571), (.str s92 572), (.str s1 573), (.int 142 0), (.int 1 0), (.int 0 0), (.int 0 0), (.int 3 0), (.ref 320), (.bool true), (.int 181 0), (.ref 321), .none, (.ref 322), (.ref 323), (.ref 324), (.int 575 0), (.int 142 0), (.str s1 576)]), #[]⟩
noncomputable def o326_5 (P : Params) : Obj := ⟨(.type PySem.W.SL.s7174869446012820540x8), none, (.func ⟨s39, s92, (L2.defArgs (L2.inClass (topT 23) 3)), (.stmts (L2.defBody (L2.inClass (topT 23) 3))), (L2.defScope (L2.inClass (topT 23) 3)), 3, [], .none, .none, .none, (.str s23 315), none, (.ref 325), .none, 0⟩), #[]⟩
noncomputable def o327_5 (P : Params) : Obj := ⟨(.type PySem.W.SL.s2766695959194262286x5), none, (.seq #[] 0), #[]⟩
noncomputable def o328_5 (P : Params) : Obj := ⟨.none, none, (.fields #[]), #[]⟩
noncomputable def o329_5 (P : Params) : Obj := ⟨(.type PySem.W.SL.s2766695959194262286x5), none, (.seq #[(.str s55 581), (.str s63 582), (.str s77 583)] 0), #[]⟩
noncomputable def o330_5 (P : Params) : Obj := ⟨(.type PySem.W.SL.s2766695959194262286x5), none, (.seq #[] 0), #[]⟩
noncomputable def o331_5 (P : Params) : Obj := ⟨.none, none, (.func ⟨s69, s93, (L2.defArgs (L2.inClass (topT 23) 4)), (.stmts (L2.defBody (L2.inClass (topT 23) 4))), (L2.defScope (L2.inClass (topT 23) 4)), 0, [], .none, .none, .none, .none, none, .none, .none, 0⟩), #[]⟩
noncomputable def o332_5 (P : Params) : Obj := ⟨(.type PySem.W.SL.s5856160107412720595x4), none, (.fields #[(.str s69 578), (.str s93 579), (.str s1 580), (.int 145 0), (.int 3 0), (.int 0 0), (.int 0 0), (.int 3 0), (.ref 327), (.bool true), (.int 181 0), (.ref 328), .none, (.ref 329), (.ref 330), (.ref 331), (.int 584 0), (.int 145 0), (.str s1 585)]), #[]⟩
noncomputable def o333_5 (P : Params) : Obj := ⟨(.type PySem.W.SL.s7174869446012820540x8), none, (.func ⟨s69, s93, (L2.defArgs (L2.inClass (topT 23) 4)), (.stmts (L2.defBody (L2.inClass (topT 23) 4))), (L2.defScope (L2.inClass (topT 23) 4)), 3, [], .none, .none, .none, (.str s23 315), none, (.ref 332), .none, 0⟩), #[]⟩
noncomputable def o334_5 (P : Params) : Obj := ⟨(.type PySem.W.SL.s2766695959194262286x5), none, (.seq #[] 0), #[]⟩
noncomputable def o335_5 (P : Params) : Obj := ⟨.none, none, (.fields #[]), #[]⟩
noncomputable def o336_5 (P : Params) : Obj := ⟨(.type PySem.W.SL.s2766695959194262286x5), none, (.seq #[(.str s55 590), (.str s63 591), (.str s77 592)] 0), #[]⟩
noncomputable def o337_5 (P : Params) : Obj := ⟨(.type PySem.W.SL.s2766695959194262286x5), none, (.seq #[] 0), #[]⟩
noncomputable def o338_5 (P : Params) : Obj := ⟨.none, none, (.func ⟨s70, s94, (L2.defArgs (L2.inClass (topT 23) 5)), (.stmts (L2.defBody (L2.inClass (topT 23) 5))), (L2.defScope (L2.inClass (topT 23) 5)), 0, [], .none, .none, .none, .none, none, .none, .none, 0⟩), #[]⟩
noncomputable def o339_5 (P : Params) : Obj := ⟨(.type PySem.W.SL.s5856160107412720595x4), none, (.fields #[(.str s70 587), (.str s94 588), (.str s1 589), (.int 148 0), (.int 3 0), (.int 0 0), (.int 0 0), (.int 3 0), (.ref 334), (.bool true), (.int 181 0), (.ref 335), .none, (.ref 336), (.ref 337), (.ref 338), (.int 593 0), (.int 148 0), (.str s1 594)]), #[]⟩
noncomputable def o340_5 (P : Params) : Obj := ⟨(.type PySem.W.SL.s7174869446012820540x8), none, (.func ⟨s70, s94, (L2.defArgs (L2.inClass (topT 23) 5)), (.stmts (L2.defBody (L2.inClass (topT 23) 5))), (L2.defScope (L2.inClass (topT 23) 5)), 3, [], .none, .none, .none, (.str s23 315), none, (.ref 339), .none, 0⟩), #[]⟩
noncomputable def o341_5 (P : Params) : Obj := ⟨(.type PySem.W.SL.s2766695959194262286x5), none, (.seq #[] 0), #[]⟩
noncomputable def o342_5 (P : Params) : Obj := ⟨.none, none, (.fields #[]), #[]⟩
noncomputable def o343_5 (P : Params) : Obj := ⟨(.type PySem.W.SL.s2766695959194262286x5), none, (.seq #[(.str s55 599), (.str s63 600)] 0), #[]⟩
noncomputable def o344_5 (P : Params) : Obj := ⟨(.type PySem.W.SL.s2766695959194262286x5), none, (.seq #[] 0), #[]⟩
noncomputable def o345_5 (P : Params) : Obj := ⟨.none, none, (.func ⟨s59, s95, (L2.defArgs (L2.inClass (topT 23) 6)), (.stmts (L2.defBody (L2.inClass (topT 23) 6))), (L2.defScope (L2.inClass (topT 23) 6)), 0, [], .none, .none, .none, .none, none, .none, .none, 0⟩), #[]⟩
noncomputable def o346_5 (P : Params) : Obj := ⟨(.type PySem.W.SL.s5856160107412720595x4), none, (.fields #[(.str s59 596), (.str s95 597), (.str s1 598), (.int 151 0), (.int 2 0), (.int 0 0), (.int 0 0), (.int 3 0), (.ref 341), (.bool true), (.int 181 0), (.ref 342), .none, (.ref 343), (.ref 344), (.ref 345), (.int 601 0), (.int 151 0), (.str s1 602)]), #[]⟩
noncomputable def o347_5 (P : Params) : Obj := ⟨(.type PySem.W.SL.s7174869446012820540x8), none, (.func ⟨s59, s95, (L2.defArgs (L2.inClass (topT 23) 6)), (.stmts (L2.defBody (L2.inClass (topT 23) 6))), (L2.defScope (L2.inClass (topT 23) 6)), 3, [], .none, .none, .none, (.str s23 315), none, (.ref 346), .none, 0⟩), #[]⟩
noncomputable def o348_5 (P : Params) : Obj := ⟨(.type PySem.W.SL.s2766695959194262286x5), none, (.seq #[] 0), #[]⟩
noncomputable def o349_5 (P : Params) : Obj := ⟨.none, none, (.fields #[]), #[]⟩
noncomputable def o350_5 (P : Params) : Obj := ⟨(.type PySem.W.SL.s2766695959194262286x5), none, (.seq #[(.str s55 607), (.str s63 608), (.str s96 609), (.str s97 610), (.str s43 611)] 0), #[]⟩
noncomputable def o351_5 (P : Params) : Obj := ⟨(.type PySem.W.SL.s2766695959194262286x5), none, (.seq #[] 0), #[]⟩
noncomputable def o352_5 (P : Params) : Obj := ⟨.none, none, (.func ⟨s60, s98, (L2.defArgs (L2.inClass (topT 23) 7)), (.stmts (L2.defBody (L2.inClass (topT 23) 7))), (L2.defScope (L2.inClass (topT 23) 7)), 0, [], .none, .none, .none, .none, none, .none, .none, 0⟩), #[]⟩
noncomputable def o353_5 (P : Params) : Obj := ⟨(.type PySem.W.SL.s5856160107412720595x4), none, (.fields #[(.str s60 604), (.str s98 605), (.str s1 606), (.int 154 0), (.int 2 0), (.int 0 0), (.int 0 0), (.int 3 0), (.ref 348), (.bool true), (.int 181 0), (.ref 349), .none, (.ref 350), (.ref 351), (.ref 352), (.int 612 0), (.int 154 0), (.str s1 613)]), #[]⟩
noncomputable def o354_5 (P : Params) : Obj := ⟨(.type PySem.W.SL.s7174869446012820540x8), none, (.func ⟨s60, s98, (L2.defArgs (L2.inClass (topT 23) 7)), (.stmts (L2.defBody (L2.inClass (topT 23) 7))), (L2.defScope (L2.inClass (topT 23) 7)), 3, [], .none, .none, .none, (.str s23 315), none, (.ref 353), .none, 0⟩), #[]⟩
noncomputable def o355_5 (P : Params) : Obj := ⟨(.type PySem.W.SL.s2766695959194262286x5), none, (.seq #[] 0), #[]⟩
noncomputable def o356_5 (P : Params) : Obj := ⟨.none, none, (.fields #[]), #[]⟩
noncomputable def o357_5 (P : Params) : Obj := ⟨(.type PySem.W.SL.s2766695959194262286x5), none, (.seq #[(.str s55 618), (.str s37 619)] 0), #[]⟩
noncomputable def o358_5 (P : Params) : Obj := ⟨(.type PySem.W.SL.s2766695959194262286x5), none, (.seq #[] 0), #[]⟩
noncomputable def o359_5 (P : Params) : Obj := ⟨.none, none, (.func ⟨s71, s99, (L2.defArgs (L2.inClass (topT 23) 8)), (.stmts (L2.defBody (L2.inClass (topT 23) 8))), (L2.defScope (L2.inClass (topT 23) 8)), 0, [], .none, .none, .none, .none, none, .none, .none, 0⟩), #[]⟩
noncomputable def o360_5 (P : Params) : Obj := ⟨(.type PySem.W.SL.s5856160107412720595x4), none, (.fields #[(.str s71 615), (.str s99 616), (.str s1 617), (.int 167 0), (.int 2 0), (.int 0 0), (.int 0 0), (.int 3 0), (.ref 355), (.bool true), (.int 181 0), (.ref 356), .none, (.ref 357), (.ref 358), (.ref 359), (.int 620 0), (.int 167 0), (.str s1 621)]), #[]⟩
noncomputable def o361_5 (P : Params) : Obj := ⟨(.type PySem.W.SL.s7174869446012820540x8), none, (.func ⟨s71, s99, (L2.defArgs (L2.inClass (topT 23) 8)), (.stmts (L2.defBody (L2.inClass (topT 23) 8))), (L2.defScope (L2.inClass (topT 23) 8)), 3, [], .none, .none, .none, (.str s23 315), none, (.ref 360), .none, 0⟩), #[]⟩
noncomputable def o362_5 (P : Params) : Obj := ⟨(.type PySem.W.SL.s2766695959194262286x5), none, (.seq #[] 0), #[]⟩
noncomputable def o363_5 (P : Params) : Obj := ⟨.none, none, (.fields #[]), #[]⟩
noncomputable def o364_5 (P : Params) : Obj := ⟨(.type PySem.W.SL.s2766695959194262286x5), none, (.seq #[(.str s55 626), (.str s63 627)] 0), #[]⟩
noncomputable def o365_5 (P : Params) : Obj := ⟨(.type PySem.W.SL.s2766695959194262286x5), none, (.seq #[] 0), #[]⟩
noncomputable def o366_5 (P : Params) : Obj := ⟨.none, none, (.func ⟨s72, s100, (L2.defArgs (L2.inClass (topT 23) 9)), (.stmts (L2.defBody (L2.inClass (topT 23) 9))), (L2.defScope (L2.inClass (topT 23) 9)), 0, [], .none, .none, .none, .none, none, .none, .none, 0⟩), #[]⟩
noncomputable def o367_5 (P : Params) : Obj := ⟨(.type PySem.W.SL.s5856160107412720595x4), none, (.fields #[(.str s72 623), (.str s100 624), (.str s1 625), (.int 170 0), (.int 2 0), (.int 0 0), (.int 0 0), (.int 3 0), (.ref 362), (.bool true), (.int 181 0), (.ref 363), .none, (.ref 364), (.ref 365), (.ref 366), (.int 628 0), (.int 170 0), (.str s1 629)]), #[]⟩
noncomputable def o368_5 (P : Params) : Obj := ⟨(.type PySem.W.SL.s7174869446012820540x8), none, (.func ⟨s72, s100, (L2.defArgs (L2.inClass (topT 23) 9)), (.stmts (L2.defBody (L2.inClass (topT 23) 9))), (L2.defScope (L2.inClass (topT 23) 9)), 3, [], .none, .none, .none, (.str s23 315), none, (.ref 367), .none, 0⟩), #[]⟩
noncomputable def o369_5 (P : Params) : Obj := ⟨(.type PySem.W.SL.s2766695959194262286x5), none, (.seq #[] 0), #[]⟩
noncomputable def o370_5 (P : Params) : Obj := ⟨.none, none, (.fields #[]), #[]⟩
noncomputable def o371_5 (P : Params) : Obj := ⟨(.type PySem.W.SL.s2766695959194262286x5), none, (.seq #[(.str s55 634), (.str s49 635), (.str s47 636)] 0), #[]⟩
noncomputable def o372_5 (P : Params) : Obj := ⟨(.type PySem.W.SL.s2766695959194262286x5), none, (.seq #[] 0), #[]⟩
noncomputable def o373_5 (P : Params) : Obj := ⟨.none, none, (.func ⟨s73, s101, (L2.defArgs (L2.inClass (topT 23) 10)), (.stmts (L2.defBody (L2.inClass (topT 23) 10))), (L2.defScope (L2.inClass (topT 23) 10)), 0, [], .none, .none, .none, .none, none, .none, .none, 0⟩), #[]⟩
noncomputable def o374_5 (P : Params) : Obj := ⟨(.type PySem.W.SL.s5856160107412720595x4), none, (.fields #[(.str s73 631), (.str s101 632), (.str s1 633), (.int 173 0), (.int 2 0), (.int 0 0), (.int 0 0), (.int 3 0), (.ref 369), (.bool true), (.int 181 0), (.ref 370), .none, (.ref 371), (.ref 372), (.ref 373), (.int 637 0), (.int 173 0), (.str s1 638)]), #[]⟩
noncomputable def o375_5 (P : Params) : Obj := ⟨(.type PySem.W.SL.s7174869446012820540x8), none, (.func ⟨s73, s101, (L2.defArgs (L2.inClass (topT 23) 10)), (.stmts (L2.defBody (L2.inClass (topT 23) 10))), (L2.defScope (L2.inClass (topT 23) 10)), 3, [], .none, .none, .none, (.str s23 315), none, (.ref 374), .none, 0⟩), #[]⟩
noncomputable def o376_5 (P : Params) : Obj := ⟨(.type PySem.W.SL.s2766695959194262286x5), none, (.seq #[(.str s88 640)] 0), #[]⟩
noncomputable def o377_5 (P : Params) : Obj := ⟨(.type PySem.W.SL.s14018661285674007319x4), none, (.dict #[⟨(kh P s18), (.str s18 544), (.str s23 315)⟩, ⟨(kh P s20), (.str s20 548), (.int 129 547)⟩, ⟨(kh P s87), (.str s87 556), (.ref 305)⟩, ⟨(kh P s67), (.str s67 563), (.ref 312)⟩, ⟨(kh P s68), (.str s68 570), (.ref 319)⟩, ⟨(kh P s39), (.str s39 577), (.ref 326)⟩, ⟨(kh P s69), (.str s69 586), (.ref 333)⟩, ⟨(kh P s70), (.str s70 595), (.ref 340)⟩, ⟨(kh P s59), (.str s59 603), (.ref 347)⟩, ⟨(kh P s60), (.str s60 614), (.ref 354)⟩, ⟨(kh P s71), (.str s71 622), (.ref 361)⟩, ⟨(kh P s72), (.str s72 630), (.ref 368)⟩, ⟨(kh P s73), (.str s73 639), (.ref 375)⟩, ⟨(kh P s21), (.str s21 641), (.ref 376)⟩, ⟨(kh P s5), (.str s5 642), .none⟩] 2), #[]⟩
noncomputable def o378_5 (P : Params) : Obj := ⟨(.type PySem.W.SL.s17162191345867700912x4), none, (.cls ⟨s86, [(.ref 167)], [(.ref 378), (.ref 167), (.ref 139), (.type PySem.W.SL.s2742458400755230247x6)], 377, s86, true, [], [], false, none, false⟩), #[(some (.ref 292)), none, (some (.str s86 537)), (some (.str s86 545)), (some (.builtin PySem.W.SL.s11443829558043349243x14)), (some (.bool true))]⟩
noncomputable def o379_5 (P : Params) : Obj := ⟨(.type PySem.W.SL.s4290257624100764138x5), none, (.fields #[(.ref 378), (.ref 378), (.ref 378)]), #[]⟩
noncomputable def o380_5 (P : Params) : Obj := ⟨(.type PySem.W.SL.s11030030927630378310x26), none, (.fields #[(.builtin PySem.W.SL.s4860613602091757760x24), (.ref 378)]), #[]⟩
noncomputable def o3_6 (P : Params) : Obj := ⟨(.type PySem.W.SL.s14018661285674007319x4), none, (.dict #[⟨(kh P s3), (.str s3 165), (.str s23 315)⟩, ⟨(kh P s5), (.str s5 166), .none⟩, ⟨(kh P s6), (.str s6 167), .none⟩, ⟨(kh P s7), (.str s7 168), (.builtin PySem.W.SL.s7097527257260152453x26)⟩, ⟨(kh P s8), (.str s8 169), .none⟩, ⟨(kh P s9), (.str s9 170), (.ref 6)⟩, ⟨(kh P s10), (.str s10 171), (.ref 4)⟩, ⟨(kh P s11), (.str s11 173), (.str s1 172)⟩, ⟨(kh P s12), (.str s12 174), .none⟩, ⟨(kh P s13), (.str s13 193), (.ref 21)⟩, ⟨(kh P s14), (.str s14 213), (.ref 31)⟩, ⟨(kh P s15), (.str s15 229), (.ref 44)⟩, ⟨(kh P s16), (.str s16 245), (.ref 56)⟩, ⟨(kh P s24), (.str s24 261), (.ref 68)⟩, ⟨(kh P s25), (.str s25 277), (.ref 80)⟩, ⟨(kh P s26), (.str s26 286), (.ref 89)⟩, ⟨(kh P s27), (.str s27 297), (.ref 96)⟩, ⟨(kh P s28), (.str s28 306), (.ref 103)⟩, ⟨(kh P s29), (.str s29 314), (.ref 110)⟩, ⟨(kh P s30), (.str s30 318), (.str s31 317)⟩, ⟨(kh P s32), (.str s32 320), (.int 30 319)⟩, ⟨(kh P s33), (.str s33 322), (.int 1000000 321)⟩, ⟨(kh P s34), (.str s34 328), (.ref 115)⟩, ⟨(kh P s35), (.str s35 335), (.ref 122)⟩, ⟨(kh P s36), (.str s36 342), (.ref 129)⟩, ⟨(kh P s50), (.str s50 362), (.ref 139)⟩, ⟨(kh P s51), (.str s51 392), (.ref 167)⟩, ⟨(kh P s58), (.str s58 438), (.ref 207)⟩, ⟨(kh P s66), (.str s66 536), (.ref 289)⟩, ⟨(kh P s86), (.str s86 644), (.ref 378)⟩, ⟨(kh P s102), (.str s102 723), (.ref 446)⟩] 31), #[]⟩
noncomputable def o12_6 (P : Params) : Obj := ⟨.none, none, (.fields #[(.int 1 0), (.int 0 0), (.ref 20), (.int 5 0), (.int 0 0), (.ref 27), (.int 7 0), (.int 0 0), (.ref 40), (.int 9 0), (.int 0 0), (.ref 52), (.int 11 0), (.int 0 0), (.ref 64), (.int 13 0), (.int 0 0), (.ref 76), (.int 16 0), (.int 0 0), (.ref 88), (.int 18 0), (.int 0 0), (.ref 95), (.int 26 0), (.int 0 0), (.ref 102), (.int 35 0), (.int 0 0), (.ref 109), (.int 48 0), (.int 0 0), (.ref 114), (.int 57 0), (.int 0 0), (.ref 121), (.int 61 0), (.int 0 0), (.ref 128), (.int 64 0), (.int 0 0), (.ref 135), (.int 66 0), (.int 0 0), (.ref 149), (.int 73 0), (.int 0 0), (.ref 175), (.int 86 0), (.int 0 0), (.ref 215), (.int 129 0), (.int 0 0), (.ref 297), (.int 178 0), (.int 0 0), (.ref 386)]), #[]⟩
noncomputable def o207_6 (P : Params) : Obj := ⟨(.type PySem.W.SL.s17162191345867700912x4), none, (.cls ⟨s58, [(.ref 139)], [(.ref 207), (.ref 139), (.type PySem.W.SL.s2742458400755230247x6)], 206, s58, true, [], [(.ref 446)], false, none, false⟩), #[(some (.ref 170)), none, (some (.str s58 393)), (some (.str s58 401)), (some (.builtin PySem.W.SL.s11443829558043349243x14)), (some (.bool true))]⟩
noncomputable def o381_6 (P : Params) : Obj := ⟨(.type PySem.W.SL.s2766695959194262286x5), none, (.seq #[(.ref 207)] 0), #[]⟩
noncomputable def o382_6 (P : Params) : Obj := ⟨(.type PySem.W.SL.s11030030927630378310x26), none, (.fields #[(.builtin PySem.W.SL.s10062305145149207511x16), (.type PySem.W.SL.s17162191345867700912x4)]), #[]⟩
noncomputable def o383_6 (P : Params) : Obj := ⟨(.type PySem.W.SL.s14018661285674007319x4), none, (.dict #[⟨(kh P s18), (.str s18 652), (.str s23 315)⟩, ⟨(kh P s19), (.str s19 654), (.str s102 653)⟩, ⟨(kh P s20), (.str s20 656), (.int 178 655)⟩, ⟨(kh P s67), (.str s67 663), (.ref 394)⟩, ⟨(kh P s68), (.str s68 670), (.ref 401)⟩, ⟨(kh P s39), (.str s39 677), (.ref 408)⟩, ⟨(kh P s69), (.str s69 686), (.ref 415)⟩, ⟨(kh P s70), (.str s70 695), (.ref 422)⟩, ⟨(kh P s71), (.str s71 703), (.ref 429)⟩, ⟨(kh P s72), (.str s72 711), (.ref 436)⟩, ⟨(kh P s73), (.str s73 719), (.ref 443)⟩, ⟨(kh P s21), (.str s21 720), (.ref 444)⟩] 12), #[]⟩
noncomputable def o384_6 (P : Params) : Obj := ⟨(.type PySem.W.SL.s2766695959194262286x5), none, (.seq #[] 0), #[]⟩
noncomputable def o385_6 (P : Params) : Obj := ⟨.none, none, (.fields #[(.int 180 0), (.int 4 0), (.ref 393), (.int 183 0), (.int 4 0), (.ref 400), (.int 186 0), (.int 4 0), (.ref 407), (.int 189 0), (.int 4 0), (.ref 414), (.int 196 0), (.int 4 0), (.ref 421), (.int 201 0), (.int 4 0), (.ref 428), (.int 204 0), (.int 4 0), (.ref 435), (.int 207 0), (.int 4 0), (.ref 442)]), #[]⟩
noncomputable def o386_6 (P : Params) : Obj := ⟨(.type PySem.W.SL.s5856160107412720595x4), none, (.fields #[(.str s102 647), (.str s102 648), (.str s1 649), (.int 178 0), (.int 0 0), (.int 0 0), (.int 0 0), (.int 0 0), (.ref 384), (.bool false), (.int 181 0), (.ref 385), .none, .none, .none, .none, (.int 650 0), (.int 178 0), (.str s1 651)]), #[]⟩
noncomputable def o387_6 (P : Params) : Obj := ⟨(.type PySem.W.SL.s658472552662922059x5), none, .plain, #[(some (.ref 386)), (some (.ref 3)), (some (.ref 383)), none, (some (.str s23 315)), none, (some (.ref 0))]⟩
noncomputable def o388_6 (P : Params) : Obj := ⟨(.type PySem.W.SL.s2766695959194262286x5), none, (.seq #[] 0), #[]⟩
noncomputable def o389_6 (P : Params) : Obj := ⟨.none, none, (.fields #[]), #[]⟩
noncomputable def o390_6 (P : Params) : Obj := ⟨(.type PySem.W.SL.s2766695959194262286x5), none, (.seq #[(.str s55 660)] 0), #[]⟩
noncomputable def o391_6 (P : Params) : Obj := ⟨(.type PySem.W.SL.s2766695959194262286x5), none, (.seq #[] 0), #[]⟩
noncomputable def o392_6 (P : Params) : Obj := ⟨.none, none, (.func ⟨s67, s103, (L2.defArgs (L2.inClass (topT 24) 0)), (.stmts (L2.defBody (L2.inClass (topT 24) 0))), (L2.defScope (L2.inClass (topT 24) 0)), 0, [], .none, .none, .none, .none, none, .none, .none, 0⟩), #[]⟩
noncomputable def o393_6 (P : Params) : Obj := ⟨(.type PySem.W.SL.s5856160107412720595x4), none, (.fields #[(.str s67 657), (.str s103 658), (.str s1 659), (.int 180 0), (.int 1 0), (.int 0 0), (.int 0 0), (.int 3 0), (.ref 388), (.bool true), (.int 181 0), (.ref 389), .none, (.ref 390), (.ref 391), (.ref 392), (.int 661 0), (.int 180 0), (.str s1 662)]), #[]⟩
noncomputable def o394_6 (P : Params) : Obj := ⟨(.type PySem.W.SL.s7174869446012820540x8), none, (.func ⟨s67, s103, (L2.defArgs (L2.inClass (topT 24) 0)), (.stmts (L2.defBody (L2.inClass (topT 24) 0))), (L2.defScope (L2.inClass (topT 24) 0)), 3, [], .none, .none, .none, (.str s23 315), none, (.ref 393), .none, 0⟩), #[]⟩
noncomputable def o395_6 (P : Params) : Obj := ⟨(.type PySem.W.SL.s2766695959194262286x5), none, (.seq #[] 0), #[]⟩
noncomputable def o396_6 (P : Params) : Obj := ⟨.none, none, (.fields #[]), #[]⟩
noncomputable def o397_6 (P : Params) : Obj := ⟨(.type PySem.W.SL.s2766695959194262286x5), none, (.seq #[(.str s55 667)] 0), #[]⟩
noncomputable def o398_6 (P : Params) : Obj := ⟨(.type PySem.W.SL.s2766695959194262286x5), none, (.seq #[] 0), #[]⟩
noncomputable def o399_6 (P : Params) : Obj := ⟨.none, none, (.func ⟨s68, s104, (L2.defArgs (L2.inClass (topT 24) 1)), (.stmts (L2.defBody (L2.inClass (topT 24) 1))), (L2.defScope (L2.inClass (topT 24) 1)), 0, [], .none, .none, .none, .none, none, .none, .none, 0⟩), #[]⟩
noncomputable def o400_6 (P : Params) : Obj := ⟨(.type PySem.W.SL.s5856160107412720595x4), none, (.fields #[(.str s68 664), (.str s104 665), (.str s1 666), (.int 183 0), (.int 1 0), (.int 0 0), (.int 0 0), (.int 3 0), (.ref 395), (.bool true), (.int 181 0), (.ref 396), .none, (.ref 397), (.ref 398), (.ref 399), (.int 668 0), (.int 183 0), (.str s1 669)]), #[]⟩
noncomputable def o401_6 (P : Params) : Obj := ⟨(.type PySem.W.SL.s7174869446012820540x8), none, (.func ⟨s68, s104, (L2.defArgs (L2.inClass (topT 24) 1)), (.stmts (L2.defBody (L2.inClass (topT 24) 1))), (L2.defScope (L2.inClass (topT 24) 1)), 3, [], .none, .none, .none, (.str s23 315), none, (.ref 400), .none, 0⟩), #[]⟩
noncomputable def o402_6 (P : Params) : Obj := ⟨(.type PySem.W.SL.s2766695959194262286x5), none, (.seq #[] 0), #[]⟩
noncomputable def o403_6 (P : Params) : Obj := ⟨.none, none, (.fields #[]), #[]⟩
noncomputable def o404_6 (P : Params) : Obj := ⟨(.type PySem.W.SL.s2766695959194262286x5), none, (.seq #[(.str s55 674)] 0), #[]⟩
noncomputable def o405_6 (P : Params) : Obj := ⟨(.type PySem.W.SL.s2766695959194262286x5), none, (.seq #[] 0), #[]⟩
noncomputable def o406_6 (P : Params) : Obj := ⟨.none, none, (.func ⟨s39, s105, (L2.defArgs (L2.inClass (topT 24) 2)), (.stmts (L2.defBody (L2.inClass (topT 24) 2))), (L2.defScope (L2.inClass (topT 24) 2)), 0, [], .none, .none, .none, .none, none, .none, .none, 0⟩), #[]⟩
noncomputable def o407_6 (P : Params) : Obj := ⟨(.type PySem.W.SL.s5856160107412720595x4), none, (.fields #[(.str s39 671), (.str s105 672), (.str s1 673), (.int 186 0), (.int 1 0), (.int 0 0), (.int 0 0), (.int 3 0), (.ref 402), (.bool true), (.int 181 0), (.ref 403), .none, (.ref 404), (.ref 405), (.ref 406), (.int 675 0), (.int 186 0), (.str s1 676)]), #[]⟩
noncomputable def o408_6 (P : Params) : Obj := ⟨(.type PySem.W.SL.s7174869446012820540x8), none, (.func ⟨s39, s105, (L2.defArgs (L2.inClass (topT 24) 2)), (.stmts (L2.defBody (L2.inClass (topT 24) 2))), (L2.defScope (L2.inClass (topT 24) 2)), 3, [], .none, .none, .none, (.str s23 315), none, (.ref 407), .none, 0⟩), #[]⟩
noncomputable def o409_6 (P : Params) : Obj := ⟨(.type PySem.W.SL.s2766695959194262286x5), none, (.seq #[] 0), #[]⟩
noncomputable def o410_6 (P : Params) : Obj := ⟨.none, none, (.fields #[]), #[]⟩
noncomputable def o411_6 (P : Params) : Obj := ⟨(.type PySem.W.SL.s2766695959194262286x5), none, (.seq #[(.str s55 681), (.str s63 682), (.str s77 683)] 0), #[]⟩
noncomputable def o412_6 (P : Params) : Obj := ⟨(.type PySem.W.SL.s2766695959194262286x5), none, (.seq #[] 0), #[]⟩
noncomputable def o413_6 (P : Params) : Obj := ⟨.none, none, (.func ⟨s69, s106, (L2.defArgs (L2.inClass (topT 24) 3)), (.stmts (L2.defBody (L2.inClass (topT 24) 3))), (L2.defScope (L2.inClass (topT 24) 3)), 0, [], .none, .none, .none, .none, none, .none, .none, 0⟩), #[]⟩
noncomputable def o414_6 (P : Params) : Obj := ⟨(.type PySem.W.SL.s5856160107412720595x4), none, (.fields #[(.str s69 678), (.str s106 679), (.str s1 680), (.int 189 0), (.int 3 0), (.int 0 0), (.int 0 0), (.int 3 0), (.ref 409), (.bool true), (.int 181 0), (.ref 410), .none, (.ref 411), (.ref 412), (.ref 413), (.int 684 0), (.int 189 0), (.str s1 685)]), #[]⟩
noncomputable def o415_6 (P : Params) : Obj := ⟨(.type PySem.W.SL.s7174869446012820540x8), none, (.func ⟨s69, s106, (L2.defArgs (L2.inClass (topT 24) 3)), (.stmts (L2.defBody (L2.inClass (topT 24) 3))), (L2.defScope (L2.inClass (topT 24) 3)), 3, [], .none, .none, .none, (.str s23 315), none, (.ref 414), .none, 0⟩), #[]⟩
noncomputable def o416_6 (P : Params) : Obj := ⟨(.type PySem.W.SL.s2766695959194262286x5), none, (.seq #[] 0), #[]⟩
noncomputable def o417_6 (P : Params) : Obj := ⟨.none, none, (.fields #[]), #[]⟩
noncomputable def o418_6 (P : Params) : Obj := ⟨(.type PySem.W.SL.s2766695959194262286x5), none, (.seq #[(.str s55 690), (.str s63 691), (.str s77 692)] 0), #[]⟩
noncomputable def o419_6 (P : Params) : Obj := ⟨(.type PySem.W.SL.s2766695959194262286x5), none, (.seq #[] 0), #[]⟩
noncomputable def o420_6 (P : Params) : Obj := ⟨.none, none, (.func ⟨s70, s107, (L2.defArgs (L2.inClass (topT 24) 4)), (.stmts (L2.defBody (L2.inClass (topT 24) 4))), (L2.defScope (L2.inClass (topT 24) 4)), 0, [], .none, .none, .none, .none, none, .none, .none, 0⟩), #[]⟩
noncomputable def o421_6 (P : Params) : Obj := ⟨(.type PySem.W.SL.s5856160107412720595x4), none, (.fields #[(.str s70 687), (.str s107 688), (.str s1 689), (.int 196 0), (.int 3 0), (.int 0 0), (.int 0 0), (.int 3 0), (.ref 416), (.bool true), (.int 181 0), (.ref 417), .none, (.ref 418), (.ref 419), (.ref 420), (.int 693 0), (.int 196 0), (.str s1 694)]), #[]⟩
noncomputable def o422_6 (P : Params) : Obj := ⟨(.type PySem.W.SL.s7174869446012820540x8), none, (.func ⟨s70, s107, (L2.defArgs (L2.inClass (topT 24) 4)), (.stmts (L2.defBody (L2.inClass (topT 24) 4))), (L2.defScope (L2.inClass (topT 24) 4)), 3, [], .none, .none, .none, (.str s23 315), none, (.ref 421), .none, 0⟩), #[]⟩
noncomputable def o423_6 (P : Params) : Obj := ⟨(.type PySem.W.SL.s2766695959194262286x5), none, (.seq #[] 0), #[]⟩
noncomputable def o424_6 (P : Params) : Obj := ⟨.none, none, (.fields #[]), #[]⟩
noncomputable def o425_6 (P : Params) : Obj := ⟨(.type PySem.W.SL.s2766695959194262286x5), none, (.seq #[(.str s55 699), (.str s37 700)] 0), #[]⟩
noncomputable def o426_6 (P : Params) : Obj := ⟨(.type PySem.W.SL.s2766695959194262286x5), none, (.seq #[] 0), #[]⟩
noncomputable def o427_6 (P : Params) : Obj := ⟨.none, none, (.func ⟨s71, s108, (L2.defArgs (L2.inClass (topT 24) 5)), (.stmts (L2.defBody (L2.inClass (topT 24) 5))), (L2.defScope (L2.inClass (topT 24) 5)), 0, [], .none, .none, .none, .none, none, .none, .none, 0⟩), #[]⟩
noncomputable def o428_6 (P : Params) : Obj := ⟨(.type PySem.W.SL.s5856160107412720595x4), none, (.fields #[(.str s71 696), (.str s108 697), (.str s1 698), (.int 201 0), (.int 2 0), (.int 0 0), (.int 0 0), (.int 3 0), (.ref 423), (.bool true), (.int 181 0), (.ref 424), .none, (.ref 425), (.ref 426), (.ref 427), (.int 701 0), (.int 201 0), (.str s1 702)]), #[]⟩
noncomputable def o429_6 (P : Params) : Obj := ⟨(.type PySem.W.SL.s7174869446012820540x8), none, (.func ⟨s71, s108, (L2.defArgs (L2.inClass (topT 24) 5)), (.stmts (L2.defBody (L2.inClass (topT 24) 5))), (L2.defScope (L2.inClass (topT 24) 5)), 3, [], .none, .none, .none, (.str s23 315), none, (.ref 428), .none, 0⟩), #[]⟩
noncomputable def o430_6 (P : Params) : Obj := ⟨(.type PySem.W.SL.s2766695959194262286x5), none, (.seq #[] 0), #[]⟩
noncomputable def o431_6 (P : Params) : Obj := ⟨.none, none, (.fields #[]), #[]⟩
noncomputable def o432_6 (P : Params) : Obj := ⟨(.type PySem.W.SL.s2766695959194262286x5), none, (.seq #[(.str s55 707), (.str s63 708)] 0), #[]⟩
noncomputable def o433_6 (P : Params) : Obj := ⟨(.type PySem.W.SL.s2766695959194262286x5), none, (.seq #[] 0), #[]⟩
noncomputable def o434_6 (P : Params) : Obj := ⟨.none, none, (.func ⟨s72, s109, (L2.defArgs (L2.inClass (topT 24) 6)), (.stmts (L2.defBody (L2.inClass (topT 24) 6))), (L2.defScope (L2.inClass (topT 24) 6)), 0, [], .none, .none, .none, .none, none, .none, .none, 0⟩), #[]⟩
noncomputable def o435_6 (P : Params) : Obj := ⟨(.type PySem.W.SL.s5856160107412720595x4), none, (.fields #[(.str s72 704), (.str s109 705), (.str s1 706), (.int 204 0), (.int 2 0), (.int 0 0), (.int 0 0), (.int 3 0), (.ref 430), (.bool true), (.int 181 0), (.ref 431), .none, (.ref 432), (.ref 433), (.ref 434), (.int 709 0), (.int 204 0), (.str s1 710)]), #[]⟩
noncomputable def o436_6 (P : Params) : Obj := ⟨(.type PySem.W.SL.s7174869446012820540x8), none, (.func ⟨s72, s109, (L2.defArgs (L2.inClass (topT 24) 6)), (.stmts (L2.defBody (L2.inClass (topT 24) 6))), (L2.defScope (L2.inClass (topT 24) 6)), 3, [], .none, .none, .none, (.str s23 315), none, (.ref 435), .none, 0⟩), #[]⟩
noncomputable def o437_6 (P : Params) : Obj := ⟨(.type PySem.W.SL.s2766695959194262286x5), none, (.seq #[] 0), #[]⟩
noncomputable def o438_6 (P : Params) : Obj := ⟨.none, none, (.fields #[]), #[]⟩
noncomputable def o439_6 (P : Params) : Obj := ⟨(.type PySem.W.SL.s2766695959194262286x5), none, (.seq #[(.str s55 715), (.str s49 716)] 0), #[]⟩
noncomputable def o440_6 (P : Params) : Obj := ⟨(.type PySem.W.SL.s2766695959194262286x5), none, (.seq #[] 0), #[]⟩
noncomputable def o441_6 (P : Params) : Obj := ⟨.none, none, (.func ⟨s73, s110, (L2.defArgs (L2.inClass (topT 24) 7)), (.stmts (L2.defBody (L2.inClass (topT 24) 7))), (L2.defScope (L2.inClass (topT 24) 7)), 0, [], .none, .none, .none, .none, none, .none, .none, 0⟩), #[]⟩
noncomputable def o442_6 (P : Params) : Obj := ⟨(.type PySem.W.SL.s5856160107412720595x4), none, (.fields #[(.str s73 712), (.str s110 713), (.str s1 714), (.int 207 0), (.int 2 0), (.int 0 0), (.int 0 0), (.int 3 0), (.ref 437), (.bool true), (.int 181 0), (.ref 438), .none, (.ref 439), (.ref 440), (.ref 441), (.int 717 0), (.int 207 0), (.str s1 718)]), #[]⟩
noncomputable def o443_6 (P : Params) : Obj := ⟨(.type PySem.W.SL.s7174869446012820540x8), none, (.func ⟨s73, s110, (L2.defArgs (L2.inClass (topT 24) 7)), (.stmts (L2.defBody (L2.inClass (topT 24) 7))), (L2.defScope (L2.inClass (topT 24) 7)), 3, [], .none, .none, .none, (.str s23 315), none, (.ref 442), .none, 0⟩), #[]⟩
noncomputable def o444_6 (P : Params) : Obj := ⟨(.type PySem.W.SL.s2766695959194262286x5), none, (.seq #[] 0), #[]⟩
noncomputable def o445_6 (P : Params) : Obj := ⟨(.type PySem.W.SL.s14018661285674007319x4), none, (.dict #[⟨(kh P s18), (.str s18 652), (.str s23 315)⟩, ⟨(kh P s20), (.str s20 656), (.int 178 655)⟩, ⟨(kh P s67), (.str s67 663), (.ref 394)⟩, ⟨(kh P s68), (.str s68 670), (.ref 401)⟩, ⟨(kh P s39), (.str s39 677), (.ref 408)⟩, ⟨(kh P s69), (.str s69 686), (.ref 415)⟩, ⟨(kh P s70), (.str s70 695), (.ref 422)⟩, ⟨(kh P s71), (.str s71 703), (.ref 429)⟩, ⟨(kh P s72), (.str s72 711), (.ref 436)⟩, ⟨(kh P s73), (.str s73 719), (.ref 443)⟩, ⟨(kh P s21), (.str s21 720), (.ref 444)⟩, ⟨(kh P s5), (.str s5 721), .none⟩] 2), #[]⟩
noncomputable def o446_6 (P : Params) : Obj := ⟨(.type PySem.W.SL.s17162191345867700912x4), none, (.cls ⟨s102, [(.ref 207)], [(.ref 446), (.ref 207), (.ref 139), (.type PySem.W.SL.s2742458400755230247x6)], 445, s102, true, [], [], false, none, false⟩), #[(some (.ref 381)), none, (some (.str s102 645)), (some (.str s102 653)), (some (.builtin PySem.W.SL.s11443829558043349243x14)), (some (.bool true))]⟩
noncomputable def o447_6 (P : Params) : Obj := ⟨(.type PySem.W.SL.s4290257624100764138x5), none, (.fields #[(.ref 446), (.ref 446), (.ref 446)]), #[]⟩
noncomputable def o448_6 (P : Params) : Obj := ⟨(.type PySem.W.SL.s11030030927630378310x26), none, (.fields #[(.builtin PySem.W.SL.s4860613602091757760x24), (.ref 446)]), #[]⟩
noncomputable def o3_7 (P : Params) : Obj := ⟨(.type PySem.W.SL.s14018661285674007319x4), none, (.dict #[⟨(kh P s3), (.str s3 165), (.str s111 803)⟩, ⟨(kh P s5), (.str s5 166), .none⟩, ⟨(kh P s6), (.str s6 167), .none⟩, ⟨(kh P s7), (.str s7 168), (.builtin PySem.W.SL.s7097527257260152453x26)⟩, ⟨(kh P s8), (.str s8 169), .none⟩, ⟨(kh P s9), (.str s9 170), (.ref 6)⟩, ⟨(kh P s10), (.str s10 171), (.ref 4)⟩, ⟨(kh P s11), (.str s11 173), (.str s1 172)⟩, ⟨(kh P s12), (.str s12 174), .none⟩, ⟨(kh P s13), (.str s13 193), (.ref 21)⟩, ⟨(kh P s14), (.str s14 213), (.ref 31)⟩, ⟨(kh P s15), (.str s15 229), (.ref 44)⟩, ⟨(kh P s16), (.str s16 245), (.ref 56)⟩, ⟨(kh P s24), (.str s24 261), (.ref 68)⟩, ⟨(kh P s25), (.str s25 277), (.ref 80)⟩, ⟨(kh P s26), (.str s26 286), (.ref 89)⟩, ⟨(kh P s27), (.str s27 297), (.ref 96)⟩, ⟨(kh P s28), (.str s28 306), (.ref 103)⟩, ⟨(kh P s29), (.str s29 314), (.ref 110)⟩, ⟨(kh P s30), (.str s30 318), (.str s31 317)⟩, ⟨(kh P s32), (.str s32 320), (.int 30 319)⟩, ⟨(kh P s33), (.str s33 322), (.int 1000000 321)⟩, ⟨(kh P s34), (.str s34 328), (.ref 115)⟩, ⟨(kh P s35), (.str s35 335), (.ref 122)⟩, ⟨(kh P s36), (.str s36 342), (.ref 129)⟩, ⟨(kh P s50), (.str s50 362), (.ref 139)⟩, ⟨(kh P s51), (.str s51 392), (.ref 167)⟩, ⟨(kh P s58), (.str s58 438), (.ref 207)⟩, ⟨(kh P s66), (.str s66 536), (.ref 289)⟩, ⟨(kh P s86), (.str s86 644), (.ref 378)⟩, ⟨(kh P s102), (.str s102 723), (.ref 446)⟩, ⟨(kh P s112), (.str s112 802), (.ref 514)⟩, ⟨(kh P s113), (.str s113 812), (.ref 523)⟩, ⟨(kh P s114), (.str s114 821), (.ref 530)⟩, ⟨(kh P s115), (.str s115 828), (.ref 537)⟩, ⟨(kh P s116), (.str s116 837), (.ref 544)⟩, ⟨(kh P s117), (.str s117 848), (.ref 551)⟩, ⟨(kh P s118), (.str s118 858), (.ref 558)⟩, ⟨(kh P s119), (.str s119 866), (.ref 565)⟩, ⟨(kh P s120), (.str s120 879), (.ref 572)⟩] 40), #[]⟩
noncomputable def o12_7 (P : Params) : Obj := ⟨.none, none, (.fields #[(.int 1 0), (.int 0 0), (.ref 20), (.int 5 0), (.int 0 0), (.ref 27), (.int 7 0), (.int 0 0), (.ref 40), (.int 9 0), (.int 0 0), (.ref 52), (.int 11 0), (.int 0 0), (.ref 64), (.int 13 0), (.int 0 0), (.ref 76), (.int 16 0), (.int 0 0), (.ref 88), (.int 18 0), (.int 0 0), (.ref 95), (.int 26 0), (.int 0 0), (.ref 102), (.int 35 0), (.int 0 0), (.ref 109), (.int 48 0), (.int 0 0), (.ref 114), (.int 57 0), (.int 0 0), (.ref 121), (.int 61 0), (.int 0 0), (.ref 128), (.int 64 0), (.int 0 0), (.ref 135), (.int 66 0), (.int 0 0), (.ref 149), (.int 73 0), (.int 0 0), (.ref 175), (.int 86 0), (.int 0 0), (.ref 215), (.int 129 0), (.int 0 0), (.ref 297), (.int 178 0), (.int 0 0), (.ref 386), (.int 212 0), (.int 0 0), (.ref 454), (.int 243 0), (.int 0 0), (.ref 522), (.int 247 0), (.int 0 0), (.ref 529), (.int 250 0), (.int 0 0), (.ref 536), (.int 256 0), (.int 0 0), (.ref 543), (.int 266 0), (.int 0 0), (.ref 550), (.int 280 0), (.int 0 0), (.ref 557), (.int 291 0), (.int 0 0), (.ref 564), (.int 297 0), (.int 0 0), (.ref 571)]), #[]⟩
noncomputable def o207_7 (P : Params) : Obj := ⟨(.type PySem.W.SL.s17162191345867700912x4), none, (.cls ⟨s58, [(.ref 139)], [(.ref 207), (.ref 139), (.type PySem.W.SL.s2742458400755230247x6)], 206, s58, true, [], [(.ref 446), (.ref 514)], false, none, false⟩), #[(some (.ref 170)), none, (some (.str s58 393)), (some (.str s58 401)), (some (.builtin PySem.W.SL.s11443829558043349243x14)), (some (.bool true))]⟩
noncomputable def o449_7 (P : Params) : Obj := ⟨(.type PySem.W.SL.s2766695959194262286x5), none, (.seq #[(.ref 207)] 0), #[]⟩
noncomputable def o450_7 (P : Params) : Obj := ⟨(.type PySem.W.SL.s11030030927630378310x26), none, (.fields #[(.builtin PySem.W.SL.s10062305145149207511x16), (.type PySem.W.SL.s17162191345867700912x4)]), #[]⟩
noncomputable def o451_7 (P : Params) : Obj := ⟨(.type PySem.W.SL.s14018661285674007319x4), none, (.dict #[⟨(kh P s18), (.str s18 731), (.str s23 315)⟩, ⟨(kh P s19), (.str s19 733), (.str s112 732)⟩, ⟨(kh P s20), (.str s20 735), (.int 212 734)⟩, ⟨(kh P s67), (.str s67 742), (.ref 462)⟩, ⟨(kh P s68), (.str s68 749), (.ref 469)⟩, ⟨(kh P s39), (.str s39 756), (.ref 476)⟩, ⟨(kh P s69), (.str s69 765), (.ref 483)⟩, ⟨(kh P s70), (.str s70 774), (.ref 490)⟩, ⟨(kh P s71), (.str s71 782), (.ref 497)⟩, ⟨(kh P s72), (.str s72 790), (.ref 504)⟩, ⟨(kh P s73), (.str s73 798), (.ref 511)⟩, ⟨(kh P s21), (.str s21 799), (.ref 512)⟩] 12), #[]⟩
noncomputable def o452_7 (P : Params) : Obj := ⟨(.type PySem.W.SL.s2766695959194262286x5), none, (.seq #[] 0), #[]⟩
noncomputable def o453_7 (P : Params) : Obj := ⟨.none, none, (.fields #[(.int 214 0), (.int 4 0), (.ref 461), (.int 217 0), (.int 4 0), (.ref 468), (.int 220 0), (.int 4 0), (.ref 475), (.int 223 0), (.int 4 0), (.ref 482), (.int 226 0), (.int 4 0), (.ref 489), (.int 229 0), (.int 4 0), (.ref 496), (.int 232 0), (.int 4 0), (.ref 503), (.int 235 0), (.int 4 0), (.ref 510)]), #[]⟩
noncomputable def o454_7 (P : Params) : Obj := ⟨(.type PySem.W.SL.s5856160107412720595x4), none, (.fields #[(.str s112 726), (.str s112 727), (.str s1 728), (.int 212 0), (.int 0 0), (.int 0 0), (.int 0 0), (.int 0 0), (.ref 452), (.bool false), (.int 181 0), (.ref 453), .none, .none, .none, .none, (.int 729 0), (.int 212 0), (.str s1 730)]), #[]⟩
noncomputable def o455_7 (P : Params) : Obj := ⟨(.type PySem.W.SL.s658472552662922059x5), none, .plain, #[(some (.ref 454)), (some (.ref 3)), (some (.ref 451)), none, (some (.str s23 315)), none, (some (.ref 0))]⟩
noncomputable def o456_7 (P : Params) : Obj := ⟨(.type PySem.W.SL.s2766695959194262286x5), none, (.seq #[] 0), #[]⟩
noncomputable def o457_7 (P : Params) : Obj := ⟨.none, none, (.fields #[]), #[]⟩
noncomputable def o458_7 (P : Params) : Obj := ⟨(.type PySem.W.SL.s2766695959194262286x5), none, (.seq #[(.str s55 739)] 0), #[]⟩
noncomputable def o459_7 (P : Params) : Obj := ⟨(.type PySem.W.SL.s2766695959194262286x5), none, (.seq #[] 0), #[]⟩
noncomputable def o460_7 (P : Params) : Obj := ⟨.none, none, (.func ⟨s67, s121, (L2.defArgs (L2.inClass (topT 25) 0)), (.stmts (L2.defBody (L2.inClass (topT 25) 0))), (L2.defScope (L2.inClass (topT 25) 0)), 0, [], .none, .none, .none, .none, none, .none, .none, 0⟩), #[]⟩
noncomputable def o461_7 (P : Params) : Obj := ⟨(.type PySem.W.SL.s5856160107412720595x4), none, (.fields #[(.str s67 736), (.str s121 737), (.str s1 738), (.int 214 0), (.int 1 0), (.int 0 0), (.int 0 0), (.int 3 0), (.ref 456), (.bool true), (.int 181 0), (.ref 457), .none, (.ref 458), (.ref 459), (.ref 460), (.int 740 0), (.int 214 0), (.str s1 741)]), #[]⟩
noncomputable def o462_7 (P : Params) : Obj := ⟨(.type PySem.W.SL.s7174869446012820540x8), none, (.func ⟨s67, s121, (L2.defArgs (L2.inClass (topT 25) 0)), (.stmts (L2.defBody (L2.inClass (topT 25) 0))), (L2.defScope (L2.inClass (topT 25) 0)), 3, [], .none, .none, .none, (.str s23 315), none, (.ref 461), .none, 0⟩), #[]⟩
noncomputable def o463_7 (P : Params) : Obj := ⟨(.type PySem.W.SL.s2766695959194262286x5), none, (.seq #[] 0), #[]⟩
noncomputable def o464_7 (P : Params) : Obj := ⟨.none, none, (.fields #[]), #[]⟩
noncomputable def o465_7 (P : Params) : Obj := ⟨(.type PySem.W.SL.s2766695959194262286x5), none, (.seq #[(.str s55 746)] 0), #[]⟩
noncomputable def o466_7 (P : Params) : Obj := ⟨(.type PySem.W.SL.s2766695959194262286x5), none, (.seq #[] 0), #[]⟩
noncomputable def o467_7 (P : Params) : Obj := ⟨.none, none, (.func ⟨s68, s122, (L2.defArgs (L2.inClass (topT 25) 1)), (.stmts (L2.defBody (L2.inClass (topT 25) 1))), (L2.defScope (L2.inClass (topT 25) 1)), 0, [], .none, .none, .none, .none, none, .none, .none, 0⟩), #[]⟩
noncomputable def o468_7 (P : Params) : Obj := ⟨(.type PySem.W.SL.s5856160107412720595x4), none, (.fields #[(.str s68 743), (.str s122 744), (.str s1 745), (.int 217 0), (.int 1 0), (.int 0 0), (.int 0 0), (.int 3 0), (.ref 463), (.bool true), (.int 181 0), (.ref 464), .none, (.ref 465), (.ref 466), (.ref 467), (.int 747 0), (.int 217 0), (.str s1 748)]), #[]⟩
noncomputable def o469_7 (P : Params) : Obj := ⟨(.type PySem.W.SL.s7174869446012820540x8), none, (.func ⟨s68, s122, (L2.defArgs (L2.inClass (topT 25) 1)), (.stmts (L2.defBody (L2.inClass (topT 25) 1))), (L2.defScope (L2.inClass (topT 25) 1)), 3, [], .none, .none, .none, (.str s23 315), none, (.ref 468), .none, 0⟩), #[]⟩
noncomputable def o470_7 (P : Params) : Obj := ⟨(.type PySem.W.SL.s2766695959194262286x5), none, (.seq #[] 0), #[]⟩
noncomputable def o471_7 (P : Params) : Obj := ⟨.none, none, (.fields #[]), #[]⟩
noncomputable def o472_7 (P : Params) : Obj := ⟨(.type PySem.W.SL.s2766695959194262286x5), none, (.seq #[(.str s55 753)] 0), #[]⟩
noncomputable def o473_7 (P : Params) : Obj := ⟨(.type PySem.W.SL.s2766695959194262286x5), none, (.seq #[] 0), #[]⟩
noncomputable def o474_7 (P : Params) : Obj := ⟨.none, none, (.func ⟨s39, s123, (L2.defArgs (L2.inClass (topT 25) 2)), (.stmts (L2.defBody (L2.inClass (topT 25) 2))), (L2.defScope (L2.inClass (topT 25) 2)), 0, [], .none, .none, .none, .none, none, .none, .none, 0⟩), #[]⟩
noncomputable def o475_7 (P : Params) : Obj := ⟨(.type PySem.W.SL.s5856160107412720595x4), none, (.fields #[(.str s39 750), (.str s123 751), (.str s1 752), (.int 220 0), (.int 1 0), (.int 0 0), (.int 0 0), (.int 3 0), (.ref 470), (.bool true), (.int 181 0), (.ref 471), .none, (.ref 472), (.ref 473), (.ref 474), (.int 754 0), (.int 220 0), (.str s1 755)]), #[]⟩
noncomputable def o476_7 (P : Params) : Obj := ⟨(.type PySem.W.SL.s7174869446012820540x8), none, (.func ⟨s39, s123, (L2.defArgs (L2.inClass (topT 25) 2)), (.stmts (L2.defBody (L2.inClass (topT 25) 2))), (L2.defScope (L2.inClass (topT 25) 2)), 3, [], .none, .none, .none, (.str s23 315), none, (.ref 475), .none, 0⟩), #[]⟩
noncomputable def o477_7 (P : Params) : Obj := ⟨(.type PySem.W.SL.s2766695959194262286x5), none, (.seq #[] 0), #[]⟩
noncomputable def o478_7 (P : Params) : Obj := ⟨.none, none, (.fields #[]), #[]⟩
noncomputable def o479_7 (P : Params) : Obj := ⟨(.type PySem.W.SL.s2766695959194262286x5), none, (.seq #[(.str s55 760), (.str s63 761), (.str s77 762)] 0), #[]⟩
noncomputable def o480_7 (P : Params) : Obj := ⟨(.type PySem.W.SL.s2766695959194262286x5), none, (.seq #[] 0), #[]⟩
noncomputable def o481_7 (P : Params) : Obj := ⟨.none, none, (.func ⟨s69, s124, (L2.defArgs (L2.inClass (topT 25) 3)), (.stmts (L2.defBody (L2.inClass (topT 25) 3))), (L2.defScope (L2.inClass (topT 25) 3)), 0, [], .none, .none, .none, .none, none, .none, .none, 0⟩), #[]⟩
noncomputable def o482_7 (P : Params) : Obj := ⟨(.type PySem.W.SL.s5856160107412720595x4), none, (.fields #[(.str s69 757), (.str s124 758), (.str s1 759), (.int 223 0), (.int 3 0), (.int 0 0), (.int 0 0), (.int 3 0), (.ref 477), (.bool true), (.int 181 0), (.ref 478), .none, (.ref 479), (.ref 480), (.ref 481), (.int 763 0), (.int 223 0), (.str s1 764)]), #[]⟩
noncomputable def o483_7 (P : Params) : Obj := ⟨(.type PySem.W.SL.s7174869446012820540x8), none, (.func ⟨s69, s124, (L2.defArgs (L2.inClass (topT 25) 3)), (.stmts (L2.defBody (L2.inClass (topT 25) 3))), (L2.defScope (L2.inClass (topT 25) 3)), 3, [], .none, .none, .none, (.str s23 315), none, (.ref 482), .none, 0⟩), #[]⟩
noncomputable def o484_7 (P : Params) : Obj := ⟨(.type PySem.W.SL.s2766695959194262286x5), none, (.seq #[] 0), #[]⟩
noncomputable def o485_7 (P : Params) : Obj := ⟨.none, none, (.fields #[]), #[]⟩
noncomputable def o486_7 (P : Params) : Obj := ⟨(.type PySem.W.SL.s2766695959194262286x5), none, (.seq #[(.str s55 769), (.str s63 770), (.str s77 771)] 0), #[]⟩
noncomputable def o487_7 (P : Params) : Obj := ⟨(.type PySem.W.SL.s2766695959194262286x5), none, (.seq #[] 0), #[]⟩
noncomputable def o488_7 (P : Params) : Obj := ⟨.none, none, (.func ⟨s70, s125, (L2.defArgs (L2.inClass (topT 25) 4)), (.stmts (L2.defBody (L2.inClass (topT 25) 4))), (L2.defScope (L2.inClass (topT 25) 4)), 0, [], .none, .none, .none, .none, none, .none, .none, 0⟩), #[]⟩
noncomputable def o489_7 (P : Params) : Obj := ⟨(.type PySem.W.SL.s5856160107412720595x4), none, (.fields #[(.str s70 766), (.str s125 767), (.str s1 768), (.int 226 0), (.int 3 0), (.int 0 0), (.int 0 0), (.int 3 0), (.ref 484), (.bool true), (.int 181 0), (.ref 485), .none, (.ref 486), (.ref 487), (.ref 488), (.int 772 0), (.int 226 0), (.str s1 773)]), #[]⟩
noncomputable def o490_7 (P : Params) : Obj := ⟨(.type PySem.W.SL.s7174869446012820540x8), none, (.func ⟨s70, s125, (L2.defArgs (L2.inClass (topT 25) 4)), (.stmts (L2.defBody (L2.inClass (topT 25) 4))), (L2.defScope (L2.inClass (topT 25) 4)), 3, [], .none, .none, .none, (.str s23 315), none, (.ref 489), .none, 0⟩), #[]⟩
noncomputable def o491_7 (P : Params) : Obj := ⟨(.type PySem.W.SL.s2766695959194262286x5), none, (.seq #[] 0), #[]⟩
noncomputable def o492_7 (P : Params) : Obj := ⟨.none, none, (.fields #[]), #[]⟩
noncomputable def o493_7 (P : Params) : Obj := ⟨(.type PySem.W.SL.s2766695959194262286x5), none, (.seq #[(.str s55 778), (.str s37 779)] 0), #[]⟩
noncomputable def o494_7 (P : Params) : Obj := ⟨(.type PySem.W.SL.s2766695959194262286x5), none, (.seq #[] 0), #[]⟩
noncomputable def o495_7 (P : Params) : Obj := ⟨.none, none, (.func ⟨s71, s126, (L2.defArgs (L2.inClass (topT 25) 5)), (.stmts (L2.defBody (L2.inClass (topT 25) 5))), (L2.defScope (L2.inClass (topT 25) 5)), 0, [], .none, .none, .none, .none, none, .none, .none, 0⟩), #[]⟩
noncomputable def o496_7 (P : Params) : Obj := ⟨(.type PySem.W.SL.s5856160107412720595x4), none, (.fields #[(.str s71 775), (.str s126 776), (.str s1 777), (.int 229 0), (.int 2 0), (.int 0 0), (.int 0 0), (.int 3 0), (.ref 491), (.bool true), (.int 181 0), (.ref 492), .none, (.ref 493), (.ref 494), (.ref 495), (.int 780 0), (.int 229 0), (.str s1 781)]), #[]⟩
noncomputable def o497_7 (P : Params) : Obj := ⟨(.type PySem.W.SL.s7174869446012820540x8), none, (.func ⟨s71, s126, (L2.defArgs (L2.inClass (topT 25) 5)), (.stmts (L2.defBody (L2.inClass (topT 25) 5))), (L2.defScope (L2.inClass (topT 25) 5)), 3, [], .none, .none, .none, (.str s23 315), none, (.ref 496), .none, 0⟩), #[]⟩
noncomputable def o498_7 (P : Params) : Obj := ⟨(.type PySem.W.SL.s2766695959194262286x5), none, (.seq #[] 0), #[]⟩
noncomputable def o499_7 (P : Params) : Obj := ⟨.none, none, (.fields #[]), #[]⟩
noncomputable def o500_7 (P : Params) : Obj := ⟨(.type PySem.W.SL.s2766695959194262286x5), none, (.seq #[(.str s55 786), (.str s63 787)] 0), #[]⟩
noncomputable def o501_7 (P : Params) : Obj := ⟨(.type PySem.W.SL.s2766695959194262286x5), none, (.seq #[] 0), #[]⟩
noncomputable def o502_7 (P : Params) : Obj := ⟨.none, none, (.func ⟨s72, s127, (L2.defArgs (L2.inClass (topT 25) 6)), (.stmts (L2.defBody (L2.inClass (topT 25) 6))), (L2.defScope (L2.inClass (topT 25) 6)), 0, [], .none, .none, .none, .none, none, .none, .none, 0⟩), #[]⟩
noncomputable def o503_7 (P : Params) : Obj := ⟨(.type PySem.W.SL.s5856160107412720595x4), none, (.fields #[(.str s72 783), (.str s127 784), (.str s1 785), (.int 232 0), (.int 2 0), (.int 0 0), (.int 0 0), (.int 3 0), (.ref 498), (.bool true), (.int 181 0), (.ref 499), .none, (.ref 500), (.ref 501), (.ref 502), (.int 788 0), (.int 232 0), (.str s1 789)]), #[]⟩
noncomputable def o504_7 (P : Params) : Obj := ⟨(.type PySem.W.SL.s7174869446012820540x8), none, (.func ⟨s72, s127, (L2.defArgs (L2.inClass (topT 25) 6)), (.stmts (L2.defBody (L2.inClass (topT 25) 6))), (L2.defScope (L2.inClass (topT 25) 6)), 3, [], .none, .none, .none, (.str s23 315), none, (.ref 503), .none, 0⟩), #[]⟩
noncomputable def o505_7 (P : Params) : Obj := ⟨(.type PySem.W.SL.s2766695959194262286x5), none, (.seq #[] 0), #[]⟩
noncomputable def o506_7 (P : Params) : Obj := ⟨.none, none, (.fields #[]), #[]⟩
noncomputable def o507_7 (P : Params) : Obj := ⟨(.type PySem.W.SL.s2766695959194262286x5), none, (.seq #[(.str s55 794), (.str s49 795)] 0), #[]⟩
noncomputable def o508_7 (P : Params) : Obj := ⟨(.type PySem.W.SL.s2766695959194262286x5), none, (.seq #[] 0), #[]⟩
noncomputable def o509_7 (P : Params) : Obj := ⟨.none, none, (.func ⟨s73, s128, (L2.defArgs (L2.inClass (topT 25) 7)), (.stmts (L2.defBody (L2.inClass (topT 25) 7))), (L2.defScope (L2.inClass (topT 25) 7)), 0, [], .none, .none, .none, .none, none, .none, .none, 0⟩), #[]⟩
noncomputable def o510_7 (P : Params) : Obj := ⟨(.type PySem.W.SL.s5856160107412720595x4), none, (.fields #[(.str s73 791), (.str s128 792), (.str s1 793), (.int 235 0), (.int 2 0), (.int 0 0), (.int 0 0), (.int 3 0), (.ref 505), (.bool true), (.int 181 0), (.ref 506), .none, (.ref 507), (.ref 508), (.ref 509), (.int 796 0), (.int 235 0), (.str s1 797)]), #[]⟩
noncomputable def o511_7 (P : Params) : Obj := ⟨(.type PySem.W.SL.s7174869446012820540x8), none, (.func ⟨s73, s128, (L2.defArgs (L2.inClass (topT 25) 7)), (.stmts (L2.defBody (L2.inClass (topT 25) 7))), (L2.defScope (L2.inClass (topT 25) 7)), 3, [], .none, .none, .none, (.str s23 315), none, (.ref 510), .none, 0⟩), #[]⟩
noncomputable def o512_7 (P : Params) : Obj := ⟨(.type PySem.W.SL.s2766695959194262286x5), none, (.seq #[] 0), #[]⟩
noncomputable def o513_7 (P : Params) : Obj := ⟨(.type PySem.W.SL.s14018661285674007319x4), none, (.dict #[⟨(kh P s18), (.str s18 731), (.str s23 315)⟩, ⟨(kh P s20), (.str s20 735), (.int 212 734)⟩, ⟨(kh P s67), (.str s67 742), (.ref 462)⟩, ⟨(kh P s68), (.str s68 749), (.ref 469)⟩, ⟨(kh P s39), (.str s39 756), (.ref 476)⟩, ⟨(kh P s69), (.str s69 765), (.ref 483)⟩, ⟨(kh P s70), (.str s70 774), (.ref 490)⟩, ⟨(kh P s71), (.str s71 782), (.ref 497)⟩, ⟨(kh P s72), (.str s72 790), (.ref 504)⟩, ⟨(kh P s73), (.str s73 798), (.ref 511)⟩, ⟨(kh P s21), (.str s21 799), (.ref 512)⟩, ⟨(kh P s5), (.str s5 800), .none⟩] 2), #[]⟩
noncomputable def o514_7 (P : Params) : Obj := ⟨(.type PySem.W.SL.s17162191345867700912x4), none, (.cls ⟨s112, [(.ref 207)], [(.ref 514), (.ref 207), (.ref 139), (.type PySem.W.SL.s2742458400755230247x6)], 513, s112, true, [], [], false, none, false⟩), #[(some (.ref 449)), none, (some (.str s112 724)), (some (.str s112 732)), (some (.builtin PySem.W.SL.s11443829558043349243x14)), (some (.bool true))]⟩
noncomputable def o515_7 (P : Params) : Obj := ⟨(.type PySem.W.SL.s4290257624100764138x5), none, (.fields #[(.ref 514), (.ref 514), (.ref 514)]), #[]⟩
noncomputable def o516_7 (P : Params) : Obj := ⟨(.type PySem.W.SL.s11030030927630378310x26), none, (.fields #[(.builtin PySem.W.SL.s4860613602091757760x24), (.ref 514)]), #[]⟩
noncomputable def o517_7 (P : Params) : Obj := ⟨(.type PySem.W.SL.s2766695959194262286x5), none, (.seq #[] 0), #[]⟩
noncomputable def o518_7 (P : Params) : Obj := ⟨.none, none, (.fields #[]), #[]⟩
noncomputable def o519_7 (P : Params) : Obj := ⟨(.type PySem.W.SL.s2766695959194262286x5), none, (.seq #[(.str s129 808), (.str s130 809)] 0), #[]⟩
noncomputable def o520_7 (P : Params) : Obj := ⟨(.type PySem.W.SL.s2766695959194262286x5), none, (.seq #[] 0), #[]⟩
noncomputable def o521_7 (P : Params) : Obj := ⟨.none, none, (.func ⟨s113, s113, (L2.defArgs (topT 27)), (.stmts (L2.defBody (topT 27))), (L2.defScope (topT 27)), 0, [], .none, .none, .none, .none, none, .none, .none, 0⟩), #[]⟩
noncomputable def o522_7 (P : Params) : Obj := ⟨(.type PySem.W.SL.s5856160107412720595x4), none, (.fields #[(.str s113 805), (.str s113 806), (.str s1 807), (.int 243 0), (.int 2 0), (.int 0 0), (.int 0 0), (.int 3 0), (.ref 517), (.bool true), (.int 181 0), (.ref 518), .none, (.ref 519), (.ref 520), (.ref 521), (.int 810 0), (.int 243 0), (.str s1 811)]), #[]⟩
noncomputable def o523_7 (P : Params) : Obj := ⟨(.type PySem.W.SL.s7174869446012820540x8), none, (.func ⟨s113, s113, (L2.defArgs (topT 27)), (.stmts (L2.defBody (topT 27))), (L2.defScope (topT 27)), 3, [], .none, .none, .none, (.str s111 803), none, (.ref 522), .none, 0⟩), #[]⟩
noncomputable def o524_7 (P : Params) : Obj := ⟨(.type PySem.W.SL.s2766695959194262286x5), none, (.seq #[] 0), #[]⟩
noncomputable def o525_7 (P : Params) : Obj := ⟨.none, none, (.fields #[]), #[]⟩
noncomputable def o526_7 (P : Params) : Obj := ⟨(.type PySem.W.SL.s2766695959194262286x5), none, (.seq #[(.str s131 816), (.str s132 817), (.str s133 818)] 0), #[]⟩
noncomputable def o527_7 (P : Params) : Obj := ⟨(.type PySem.W.SL.s2766695959194262286x5), none, (.seq #[] 0), #[]⟩
noncomputable def o528_7 (P : Params) : Obj := ⟨.none, none, (.func ⟨s114, s114, (L2.defArgs (topT 28)), (.stmts (L2.defBody (topT 28))), (L2.defScope (topT 28)), 0, [], .none, .none, .none, .none, none, .none, .none, 0⟩), #[]⟩
noncomputable def o529_7 (P : Params) : Obj := ⟨(.type PySem.W.SL.s5856160107412720595x4), none, (.fields #[(.str s114 813), (.str s114 814), (.str s1 815), (.int 247 0), (.int 2 0), (.int 0 0), (.int 0 0), (.int 3 0), (.ref 524), (.bool true), (.int 181 0), (.ref 525), .none, (.ref 526), (.ref 527), (.ref 528), (.int 819 0), (.int 247 0), (.str s1 820)]), #[]⟩
noncomputable def o530_7 (P : Params) : Obj := ⟨(.type PySem.W.SL.s7174869446012820540x8), none, (.func ⟨s114, s114, (L2.defArgs (topT 28)), (.stmts (L2.defBody (topT 28))), (L2.defScope (topT 28)), 3, [], .none, .none, .none, (.str s111 803), none, (.ref 529), .none, 0⟩), #[]⟩
noncomputable def o531_7 (P : Params) : Obj := ⟨(.type PySem.W.SL.s2766695959194262286x5), none, (.seq #[] 0), #[]⟩
noncomputable def o532_7 (P : Params) : Obj := ⟨.none, none, (.fields #[]), #[]⟩
noncomputable def o533_7 (P : Params) : Obj := ⟨(.type PySem.W.SL.s2766695959194262286x5), none, (.seq #[(.str s134 825)] 0), #[]⟩
noncomputable def o534_7 (P : Params) : Obj := ⟨(.type PySem.W.SL.s2766695959194262286x5), none, (.seq #[] 0), #[]⟩
noncomputable def o535_7 (P : Params) : Obj := ⟨.none, none, (.func ⟨s115, s115, (L2.defArgs (topT 29)), (.stmts (L2.defBody (topT 29))), (L2.defScope (topT 29)), 0, [], .none, .none, .none, .none, none, .none, .none, 0⟩), #[]⟩
noncomputable def o536_7 (P : Params) : Obj := ⟨(.type PySem.W.SL.s5856160107412720595x4), none, (.fields #[(.str s115 822), (.str s115 823), (.str s1 824), (.int 250 0), (.int 1 0), (.int 0 0), (.int 0 0), (.int 3 0), (.ref 531), (.bool true), (.int 181 0), (.ref 532), .none, (.ref 533), (.ref 534), (.ref 535), (.int 826 0), (.int 250 0), (.str s1 827)]), #[]⟩
noncomputable def o537_7 (P : Params) : Obj := ⟨(.type PySem.W.SL.s7174869446012820540x8), none, (.func ⟨s115, s115, (L2.defArgs (topT 29)), (.stmts (L2.defBody (topT 29))), (L2.defScope (topT 29)), 3, [], .none, .none, .none, (.str s111 803), none, (.ref 536), .none, 0⟩), #[]⟩
noncomputable def o538_7 (P : Params) : Obj := ⟨(.type PySem.W.SL.s2766695959194262286x5), none, (.seq #[] 0), #[]⟩
noncomputable def o539_7 (P : Params) : Obj := ⟨.none, none, (.fields #[]), #[]⟩
noncomputable def o540_7 (P : Params) : Obj := ⟨(.type PySem.W.SL.s2766695959194262286x5), none, (.seq #[(.str s135 832), (.str s136 833), (.str s134 834)] 0), #[]⟩
noncomputable def o541_7 (P : Params) : Obj := ⟨(.type PySem.W.SL.s2766695959194262286x5), none, (.seq #[] 0), #[]⟩
noncomputable def o542_7 (P : Params) : Obj := ⟨.none, none, (.func ⟨s116, s116, (L2.defArgs (topT 30)), (.stmts (L2.defBody (topT 30))), (L2.defScope (topT 30)), 0, [], .none, .none, .none, .none, none, .none, .none, 0⟩), #[]⟩
noncomputable def o543_7 (P : Params) : Obj := ⟨(.type PySem.W.SL.s5856160107412720595x4), none, (.fields #[(.str s116 829), (.str s116 830), (.str s1 831), (.int 256 0), (.int 3 0), (.int 0 0), (.int 0 0), (.int 3 0), (.ref 538), (.bool true), (.int 181 0), (.ref 539), .none, (.ref 540), (.ref 541), (.ref 542), (.int 835 0), (.int 256 0), (.str s1 836)]), #[]⟩
noncomputable def o544_7 (P : Params) : Obj := ⟨(.type PySem.W.SL.s7174869446012820540x8), none, (.func ⟨s116, s116, (L2.defArgs (topT 30)), (.stmts (L2.defBody (topT 30))), (L2.defScope (topT 30)), 3, [], .none, .none, .none, (.str s111 803), none, (.ref 543), .none, 0⟩), #[]⟩
noncomputable def o545_7 (P : Params) : Obj := ⟨(.type PySem.W.SL.s2766695959194262286x5), none, (.seq #[] 0), #[]⟩
noncomputable def o546_7 (P : Params) : Obj := ⟨.none, none, (.fields #[]), #[]⟩
noncomputable def o547_7 (P : Params) : Obj := ⟨(.type PySem.W.SL.s2766695959194262286x5), none, (.seq #[(.str s137 841), (.str s138 842), (.str s139 843), (.str s140 844), (.str s141 845)] 0), #[]⟩
noncomputable def o548_7 (P : Params) : Obj := ⟨(.type PySem.W.SL.s2766695959194262286x5), none, (.seq #[] 0), #[]⟩
noncomputable def o549_7 (P : Params) : Obj := ⟨.none, none, (.func ⟨s117, s117, (L2.defArgs (topT 31)), (.stmts (L2.defBody (topT 31))), (L2.defScope (topT 31)), 0, [], .none, .none, .none, .none, none, .none, .none, 0⟩), #[]⟩
noncomputable def o550_7 (P : Params) : Obj := ⟨(.type PySem.W.SL.s5856160107412720595x4), none, (.fields #[(.str s117 838), (.str s117 839), (.str s1 840), (.int 266 0), (.int 3 0), (.int 0 0), (.int 0 0), (.int 3 0), (.ref 545), (.bool true), (.int 181 0), (.ref 546), .none, (.ref 547), (.ref 548), (.ref 549), (.int 846 0), (.int 266 0), (.str s1 847)]), #[]⟩
noncomputable def o551_7 (P : Params) : Obj := ⟨(.type PySem.W.SL.s7174869446012820540x8), none, (.func ⟨s117, s117, (L2.defArgs (topT 31)), (.stmts (L2.defBody (topT 31))), (L2.defScope (topT 31)), 3, [], .none, .none, .none, (.str s111 803), none, (.ref 550), .none, 0⟩), #[]⟩
noncomputable def o552_7 (P : Params) : Obj := ⟨(.type PySem.W.SL.s2766695959194262286x5), none, (.seq #[] 0), #[]⟩
noncomputable def o553_7 (P : Params) : Obj := ⟨.none, none, (.fields #[]), #[]⟩
noncomputable def o554_7 (P : Params) : Obj := ⟨(.type PySem.W.SL.s2766695959194262286x5), none, (.seq #[(.str s137 852), (.str s139 853), (.str s142 854), (.str s143 855)] 0), #[]⟩
noncomputable def o555_7 (P : Params) : Obj := ⟨(.type PySem.W.SL.s2766695959194262286x5), none, (.seq #[] 0), #[]⟩
noncomputable def o556_7 (P : Params) : Obj := ⟨.none, none, (.func ⟨s118, s118, (L2.defArgs (topT 32)), (.stmts (L2.defBody (topT 32))), (L2.defScope (topT 32)), 0, [], .none, .none, .none, .none, none, .none, .none, 0⟩), #[]⟩
noncomputable def o557_7 (P : Params) : Obj := ⟨(.type PySem.W.SL.s5856160107412720595x4), none, (.fields #[(.str s118 849), (.str s118 850), (.str s1 851), (.int 280 0), (.int 2 0), (.int 0 0), (.int 0 0), (.int 3 0), (.ref 552), (.bool true), (.int 181 0), (.ref 553), .none, (.ref 554), (.ref 555), (.ref 556), (.int 856 0), (.int 280 0), (.str s1 857)]), #[]⟩
noncomputable def o558_7 (P : Params) : Obj := ⟨(.type PySem.W.SL.s7174869446012820540x8), none, (.func ⟨s118, s118, (L2.defArgs (topT 32)), (.stmts (L2.defBody (topT 32))), (L2.defScope (topT 32)), 3, [], .none, .none, .none, (.str s111 803), none, (.ref 557), .none, 0⟩), #[]⟩
noncomputable def o559_7 (P : Params) : Obj := ⟨(.type PySem.W.SL.s2766695959194262286x5), none, (.seq #[] 0), #[]⟩
noncomputable def o560_7 (P : Params) : Obj := ⟨.none, none, (.fields #[]), #[]⟩
noncomputable def o561_7 (P : Params) : Obj := ⟨(.type PySem.W.SL.s2766695959194262286x5), none, (.seq #[(.str s137 862), (.str s139 863)] 0), #[]⟩
noncomputable def o562_7 (P : Params) : Obj := ⟨(.type PySem.W.SL.s2766695959194262286x5), none, (.seq #[] 0), #[]⟩
noncomputable def o563_7 (P : Params) : Obj := ⟨.none, none, (.func ⟨s119, s119, (L2.defArgs (topT 33)), (.stmts (L2.defBody (topT 33))), (L2.defScope (topT 33)), 0, [], .none, .none, .none, .none, none, .none, .none, 0⟩), #[]⟩
noncomputable def o564_7 (P : Params) : Obj := ⟨(.type PySem.W.SL.s5856160107412720595x4), none, (.fields #[(.str s119 859), (.str s119 860), (.str s1 861), (.int 291 0), (.int 2 0), (.int 0 0), (.int 0 0), (.int 3 0), (.ref 559), (.bool true), (.int 181 0), (.ref 560), .none, (.ref 561), (.ref 562), (.ref 563), (.int 864 0), (.int 291 0), (.str s1 865)]), #[]⟩
noncomputable def o565_7 (P : Params) : Obj := ⟨(.type PySem.W.SL.s7174869446012820540x8), none, (.func ⟨s119, s119, (L2.defArgs (topT 33)), (.stmts (L2.defBody (topT 33))), (L2.defScope (topT 33)), 3, [], .none, .none, .none, (.str s111 803), none, (.ref 564), .none, 0⟩), #[]⟩
noncomputable def o566_7 (P : Params) : Obj := ⟨(.type PySem.W.SL.s2766695959194262286x5), none, (.seq #[] 0), #[]⟩
noncomputable def o567_7 (P : Params) : Obj := ⟨.none, none, (.fields #[]), #[]⟩
noncomputable def o568_7 (P : Params) : Obj := ⟨(.type PySem.W.SL.s2766695959194262286x5), none, (.seq #[(.str s144 870), (.str s145 871), (.str s136 872), (.str s146 873), (.str s134 874), (.str s135 875), (.str s139 876)] 0), #[]⟩
noncomputable def o569_7 (P : Params) : Obj := ⟨(.type PySem.W.SL.s2766695959194262286x5), none, (.seq #[] 0), #[]⟩
noncomputable def o570_7 (P : Params) : Obj := ⟨.none, none, (.func ⟨s120, s120, (L2.defArgs (topT 34)), (.stmts (L2.defBody (topT 34))), (L2.defScope (topT 34)), 0, [], .none, .none, .none, .none, none, .none, .none, 0⟩), #[]⟩
noncomputable def o571_7 (P : Params) : Obj := ⟨(.type PySem.W.SL.s5856160107412720595x4), none, (.fields #[(.str s120 867), (.str s120 868), (.str s1 869), (.int 297 0), (.int 1 0), (.int 0 0), (.int 0 0), (.int 3 0), (.ref 566), (.bool true), (.int 181 0), (.ref 567), .none, (.ref 568), (.ref 569), (.ref 570), (.int 877 0), (.int 297 0), (.str s1 878)]), #[]⟩
noncomputable def o572_7 (P : Params) : Obj := ⟨(.type PySem.W.SL.s7174869446012820540x8), none, (.func ⟨s120, s120, (L2.defArgs (topT 34)), (.stmts (L2.defBody (topT 34))), (L2.defScope (topT 34)), 3, [], .none, .none, .none, (.str s111 803), none, (.ref 571), .none, 0⟩), #[]⟩
noncomputable def envT : Env := { scope := PySem.W.Fast.tw1572466855055509570.main.scope, locals := mainNs, globals := mainNs, cells := [], code := (.ref 13), frame := some 14 }
noncomputable def cT : Code := .body (behindTheImports PySem.W.Fast.tw1572466855055509570) envT
noncomputable def qP : Pos := ⟨0, 0, 0, 0⟩
noncomputable def Ha (P : Params) : Heap := ⟨⟨[boot_o_0 P, boot_o_1 P, boot_o_2 P, boot_o_3 P, boot_o_4 P, boot_o_5 P, boot_o_6 P, boot_o_7 P, boot_o_8 P, boot_o_9 P, boot_o_10 P, o11a P, o12a P, o13a P, o14a P]⟩, (PySem.Life.mk [] [] [] 0 [] [] false #[] [] 0 false false false 0 [2000, 10, 10] false 0 true [] [] 0 false)⟩
noncomputable def Sa (w : World) (os : OsState) : Shared := ⟨Ha w.params, ⟨[]⟩, (PySem.Drawn.mk 0 0 0 0), 187, os⟩
noncomputable def Tb (P : Params) : BT := (.node (boot_o_0 P) (.node (boot_o_1 P) (.node (boot_o_3 P) (.node (boot_o_7 P) .nil .nil) (.node (o11a P) .nil .nil)) (.node (boot_o_5 P) (.node (boot_o_9 P) .nil .nil) (.node (o13a P) .nil .nil))) (.node (boot_o_2 P) (.node (boot_o_4 P) (.node (boot_o_8 P) .nil .nil) (.node (o12a P) .nil .nil)) (.node (boot_o_6 P) (.node (boot_o_10 P) .nil .nil) (.node (o14a P) .nil .nil))))
noncomputable def Sb (w : World) (os : OsState) : SharedT := ⟨Tb w.params, 15, (PySem.Life.mk [] [] [] 0 [] [] false #[] [] 0 false false false 0 [2000, 10, 10] false 0 true [] [] 0 false), ⟨[]⟩, (PySem.Drawn.mk 0 0 0 0), 187, os⟩
noncomputable def T0 (P : Params) : BT := (.node (boot_o_0 P) (.node (boot_o_1 P) (.node (o3_0 P) (.node (boot_o_7 P) (.node (o15_0 P) (.node (o31_0 P) .nil .nil) (.node (o47_0 P) .nil .nil)) (.node (o23_0 P) (.node (o39_0 P) .nil .nil) (.node (o55_0 P) .nil .nil))) (.node (o11a P) (.node (o19_0 P) (.node (o35_0 P) .nil .nil) (.node (o51_0 P) .nil .nil)) (.node (o27_0 P) (.node (o43_0 P) .nil .nil) .nil))) (.node (boot_o_5 P) (.node (boot_o_9 P) (.node (o17_0 P) (.node (o33_0 P) .nil .nil) (.node (o49_0 P) .nil .nil)) (.node (o25_0 P) (.node (o41_0 P) .nil .nil) (.node (o57_0 P) .nil .nil))) (.node (o13a P) (.node (o21_0 P) (.node (o37_0 P) .nil .nil) (.node (o53_0 P) .nil .nil)) (.node (o29_0 P) (.node (o45_0 P) .nil .nil) .nil)))) (.node (boot_o_2 P) (.node (boot_o_4 P) (.node (boot_o_8 P) (.node (o16_0 P) (.node (o32_0 P) .nil .nil) (.node (o48_0 P) .nil .nil)) (.node (o24_0 P) (.node (o40_0 P) .nil .nil) (.node (o56_0 P) .nil .nil))) (.node (o12_0 P) (.node (o20_0 P) (.node (o36_0 P) .nil .nil) (.node (o52_0 P) .nil .nil)) (.node (o28_0 P) (.node (o44_0 P) .nil .nil) .nil))) (.node (boot_o_6 P) (.node (boot_o_10 P) (.node (o18_0 P) (.node (o34_0 P) .nil .nil) (.node (o50_0 P) .nil .nil)) (.node (o26_0 P) (.node (o42_0 P) .nil .nil) (.node (o58_0 P) .nil .nil))) (.node (o14a P) (.node (o22_0 P) (.node (o38_0 P) .nil .nil) (.node (o54_0 P) .nil .nil)) (.node (o30_0 P) (.node (o46_0 P) .nil .nil) .nil)))))
noncomputable def S0 (w : World) (os : OsState) : SharedT := ⟨T0 w.params, 59, (PySem.Life.mk [] [] [] 0 [] [] false #[] [] 0 false false false 0 [2000, 10, 10] false 0 true [] [] 0 false), ⟨[]⟩, (PySem.Drawn.mk 0 0 0 0), 246, os⟩
noncomputable def T1 (P : Params) : BT := (.node (boot_o_0 P) (.node (boot_o_1 P) (.node (o3_1 P) (.node (boot_o_7 P) (.node (o15_0 P) (.node (o31_1 P) (.node (o63_1 P) (.node (o127_1 P) .nil .nil) .nil) (.node (o95_1 P) .nil .nil)) (.node (o47_0 P) (.node (o79_1 P) .nil .nil) (.node (o111_1 P) .nil .nil))) (.node (o23_0 P) (.node (o39_0 P) (.node (o71_1 P) .nil .nil) (.node (o103_1 P) .nil .nil)) (.node (o55_0 P) (.node (o87_1 P) .nil .nil) (.node (o119_1 P) .nil .nil)))) (.node (o11a P) (.node (o19_0 P) (.node (o35_0 P) (.node (o67_1 P) .nil .nil) (.node (o99_1 P) .nil .nil)) (.node (o51_0 P) (.node (o83_1 P) .nil .nil) (.node (o115_1 P) .nil .nil))) (.node (o27_0 P) (.node (o43_0 P) (.node (o75_1 P) .nil .nil) (.node (o107_1 P) .nil .nil)) (.node (o59_1 P) (.node (o91_1 P) .nil .nil) (.node (o123_1 P) .nil .nil))))) (.node (boot_o_5 P) (.node (boot_o_9 P) (.node (o17_0 P) (.node (o33_0 P) (.node (o65_1 P) (.node (o129_1 P) .nil .nil) .nil) (.node (o97_1 P) .nil .nil)) (.node (o49_0 P) (.node (o81_1 P) .nil .nil) (.node (o113_1 P) .nil .nil))) (.node (o25_0 P) (.node (o41_0 P) (.node (o73_1 P) .nil .nil) (.node (o105_1 P) .nil .nil)) (.node (o57_0 P) (.node (o89_1 P) .nil .nil) (.node (o121_1 P) .nil .nil)))) (.node (o13a P) (.node (o21_0 P) (.node (o37_0 P) (.node (o69_1 P) .nil .nil) (.node (o101_1 P) .nil .nil)) (.node (o53_0 P) (.node (o85_1 P) .nil .nil) (.node (o117_1 P) .nil .nil))) (.node (o29_0 P) (.node (o45_0 P) (.node (o77_1 P) .nil .nil) (.node (o109_1 P) .nil .nil)) (.node (o61_1 P) (.node (o93_1 P) .nil .nil) (.node (o125_1 P) .nil .nil)))))) (.node (boot_o_2 P) (.node (boot_o_4 P) (.node (boot_o_8 P) (.node (o16_0 P) (.node (o32_0 P) (.node (o64_1 P) (.node (o128_1 P) .nil .nil) .nil) (.node (o96_1 P) .nil .nil)) (.node (o48_0 P) (.node (o80_1 P) .nil .nil) (.node (o112_1 P) .nil .nil))) (.node (o24_0 P) (.node (o40_0 P) (.node (o72_1 P) .nil .nil) (.node (o104_1 P) .nil .nil)) (.node (o56_0 P) (.node (o88_1 P) .nil .nil) (.node (o120_1 P) .nil .nil)))) (.node (o12_1 P) (.node (o20_0 P) (.node (o36_0 P) (.node (o68_1 P) .nil .nil) (.node (o100_1 P) .nil .nil)) (.node (o52_0 P) (.node (o84_1 P) .nil .nil) (.node (o116_1 P) .nil .nil))) (.node (o28_0 P) (.node (o44_0 P) (.node (o76_1 P) .nil .nil) (.node (o108_1 P) .nil .nil)) (.node (o60_1 P) (.node (o92_1 P) .nil .nil) (.node (o124_1 P) .nil .nil))))) (.node (boot_o_6 P) (.node (boot_o_10 P) (.node (o18_0 P) (.node (o34_0 P) (.node (o66_1 P) .nil .nil) (.node (o98_1 P) .nil .nil)) (.node (o50_0 P) (.node (o82_1 P) .nil .nil) (.node (o114_1 P) .nil .nil))) (.node (o26_0 P) (.node (o42_0 P) (.node (o74_1 P) .nil .nil) (.node (o106_1 P) .nil .nil)) (.node (o58_0 P) (.node (o90_1 P) .nil .nil) (.node (o122_1 P) .nil .nil)))) (.node (o14a P) (.node (o22_0 P) (.node (o38_0 P) (.node (o70_1 P) .nil .nil) (.node (o102_1 P) .nil .nil)) (.node (o54_0 P) (.node (o86_1 P) .nil .nil) (.node (o118_1 P) .nil .nil))) (.node (o30_0 P) (.node (o46_0 P) (.node (o78_1 P) .nil .nil) (.node (o110_1 P) .nil .nil)) (.node (o62_1 P) (.node (o94_1 P) .nil .nil) (.node (o126_1 P) .nil .nil)))))))
noncomputable def S1 (w : World) (os : OsState) : SharedT := ⟨T1 w.params, 130, (PySem.Life.mk [] [] [] 0 [] [] false #[] [] 0 false false false 0 [2000, 10, 10] false 0 true [] [] 0 false), ⟨[]⟩, (PySem.Drawn.mk 0 0 0 0), 343, os⟩
noncomputable def T2 (P : Params) : BT := (.node (boot_o_0 P) (.node (boot_o_1 P) (.node (o3_2 P) (.node (boot_o_7 P) (.node (o15_0 P) (.node (o31_1 P) (.node (o63_1 P) (.node (o127_1 P) .nil .nil) .nil) (.node (o95_1 P) (.node (o159_2 P) .nil .nil) .nil)) (.node (o47_0 P) (.node (o79_1 P) (.node (o143_2 P) .nil .nil) .nil) (.node (o111_1 P) .nil .nil))) (.node (o23_0 P) (.node (o39_0 P) (.node (o71_1 P) (.node (o135_2 P) .nil .nil) .nil) (.node (o103_1 P) (.node (o167_2 P) .nil .nil) .nil)) (.node (o55_0 P) (.node (o87_1 P) (.node (o151_2 P) .nil .nil) .nil) (.node (o119_1 P) .nil .nil)))) (.node (o11a P) (.node (o19_0 P) (.node (o35_0 P) (.node (o67_1 P) (.node (o131_2 P) .nil .nil) .nil) (.node (o99_1 P) (.node (o163_2 P) .nil .nil) .nil)) (.node (o51_0 P) (.node (o83_1 P) (.node (o147_2 P) .nil .nil) .nil) (.node (o115_1 P) .nil .nil))) (.node (o27_0 P) (.node (o43_0 P) (.node (o75_1 P) (.node (o139_2 P) .nil .nil) .nil) (.node (o107_1 P) .nil .nil)) (.node (o59_1 P) (.node (o91_1 P) (.node (o155_2 P) .nil .nil) .nil) (.node (o123_1 P) .nil .nil))))) (.node (boot_o_5 P) (.node (boot_o_9 P) (.node (o17_0 P) (.node (o33_0 P) (.node (o65_1 P) (.node (o129_1 P) .nil .nil) .nil) (.node (o97_1 P) (.node (o161_2 P) .nil .nil) .nil)) (.node (o49_0 P) (.node (o81_1 P) (.node (o145_2 P) .nil .nil) .nil) (.node (o113_1 P) .nil .nil))) (.node (o25_0 P) (.node (o41_0 P) (.node (o73_1 P) (.node (o137_2 P) .nil .nil) .nil) (.node (o105_1 P) (.node (o169_2 P) .nil .nil) .nil)) (.node (o57_0 P) (.node (o89_1 P) (.node (o153_2 P) .nil .nil) .nil) (.node (o121_1 P) .nil .nil)))) (.node (o13a P) (.node (o21_0 P) (.node (o37_0 P) (.node (o69_1 P) (.node (o133_2 P) .nil .nil) .nil) (.node (o101_1 P) (.node (o165_2 P) .nil .nil) .nil)) (.node (o53_0 P) (.node (o85_1 P) (.node (o149_2 P) .nil .nil) .nil) (.node (o117_1 P) .nil .nil))) (.node (o29_0 P) (.node (o45_0 P) (.node (o77_1 P) (.node (o141_2 P) .nil .nil) .nil) (.node (o109_1 P) .nil .nil)) (.node (o61_1 P) (.node (o93_1 P) (.node (o157_2 P) .nil .nil) .nil) (.node (o125_1 P) .nil .nil)))))) (.node (boot_o_2 P) (.node (boot_o_4 P) (.node (boot_o_8 P) (.node (o16_0 P) (.node (o32_0 P) (.node (o64_1 P) (.node (o128_1 P) .nil .nil) .nil) (.node (o96_1 P) (.node (o160_2 P) .nil .nil) .nil)) (.node (o48_0 P) (.node (o80_1 P) (.node (o144_2 P) .nil .nil) .nil) (.node (o112_1 P) .nil .nil))) (.node (o24_0 P) (.node (o40_0 P) (.node (o72_1 P) (.node (o136_2 P) .nil .nil) .nil) (.node (o104_1 P) (.node (o168_2 P) .nil .nil) .nil)) (.node (o56_0 P) (.node (o88_1 P) (.node (o152_2 P) .nil .nil) .nil) (.node (o120_1 P) .nil .nil)))) (.node (o12_2 P) (.node (o20_0 P) (.node (o36_0 P) (.node (o68_1 P) (.node (o132_2 P) .nil .nil) .nil) (.node (o100_1 P) (.node (o164_2 P) .nil .nil) .nil)) (.node (o52_0 P) (.node (o84_1 P) (.node (o148_2 P) .nil .nil) .nil) (.node (o116_1 P) .nil .nil))) (.node (o28_0 P) (.node (o44_0 P) (.node (o76_1 P) (.node (o140_2 P) .nil .nil) .nil) (.node (o108_1 P) .nil .nil)) (.node (o60_1 P) (.node (o92_1 P) (.node (o156_2 P) .nil .nil) .nil) (.node (o124_1 P) .nil .nil))))) (.node (boot_o_6 P) (.node (boot_o_10 P) (.node (o18_0 P) (.node (o34_0 P) (.node (o66_1 P) (.node (o130_2 P) .nil .nil) .nil) (.node (o98_1 P) (.node (o162_2 P) .nil .nil) .nil)) (.node (o50_0 P) (.node (o82_1 P) (.node (o146_2 P) .nil .nil) .nil) (.node (o114_1 P) .nil .nil))) (.node (o26_0 P) (.node (o42_0 P) (.node (o74_1 P) (.node (o138_2 P) .nil .nil) .nil) (.node (o106_1 P) .nil .nil)) (.node (o58_0 P) (.node (o90_1 P) (.node (o154_2 P) .nil .nil) .nil) (.node (o122_1 P) .nil .nil)))) (.node (o14a P) (.node (o22_0 P) (.node (o38_0 P) (.node (o70_1 P) (.node (o134_2 P) .nil .nil) .nil) (.node (o102_1 P) (.node (o166_2 P) .nil .nil) .nil)) (.node (o54_0 P) (.node (o86_1 P) (.node (o150_2 P) .nil .nil) .nil) (.node (o118_1 P) .nil .nil))) (.node (o30_0 P) (.node (o46_0 P) (.node (o78_1 P) (.node (o142_2 P) .nil .nil) .nil) (.node (o110_1 P) .nil .nil)) (.node (o62_1 P) (.node (o94_1 P) (.node (o158_2 P) .nil .nil) .nil) (.node (o126_1 P) .nil .nil)))))))
noncomputable def S2 (w : World) (os : OsState) : SharedT := ⟨T2 w.params, 170, (PySem.Life.mk [] [] [] 0 [] [] false #[] [] 0 false false false 0 [2000, 10, 10] false 0 true [] [] 0 false), ⟨[]⟩, (PySem.Drawn.mk 0 0 0 0), 393, os⟩
noncomputable def T3 (P : Params) : BT := (.node (boot_o_0 P) (.node (boot_o_1 P) (.node (o3_3 P) (.node (boot_o_7 P) (.node (o15_0 P) (.node (o31_1 P) (.node (o63_1 P) (.node (o127_1 P) .nil .nil) (.node (o191_3 P) .nil .nil)) (.node (o95_1 P) (.node (o159_2 P) .nil .nil) .nil)) (.node (o47_0 P) (.node (o79_1 P) (.node (o143_2 P) .nil .nil) (.node (o207_3 P) .nil .nil)) (.node (o111_1 P) (.node (o175_3 P) .nil .nil) .nil))) (.node (o23_0 P) (.node (o39_0 P) (.node (o71_1 P) (.node (o135_2 P) .nil .nil) (.node (o199_3 P) .nil .nil)) (.node (o103_1 P) (.node (o167_2 P) .nil .nil) .nil)) (.node (o55_0 P) (.node (o87_1 P) (.node (o151_2 P) .nil .nil) .nil) (.node (o119_1 P) (.node (o183_3 P) .nil .nil) .nil)))) (.node (o11a P) (.node (o19_0 P) (.node (o35_0 P) (.node (o67_1 P) (.node (o131_2 P) .nil .nil) (.node (o195_3 P) .nil .nil)) (.node (o99_1 P) (.node (o163_2 P) .nil .nil) .nil)) (.node (o51_0 P) (.node (o83_1 P) (.node (o147_2 P) .nil .nil) .nil) (.node (o115_1 P) (.node (o179_3 P) .nil .nil) .nil))) (.node (o27_0 P) (.node (o43_0 P) (.node (o75_1 P) (.node (o139_3 P) .nil .nil) (.node (o203_3 P) .nil .nil)) (.node (o107_1 P) (.node (o171_3 P) .nil .nil) .nil)) (.node (o59_1 P) (.node (o91_1 P) (.node (o155_2 P) .nil .nil) .nil) (.node (o123_1 P) (.node (o187_3 P) .nil .nil) .nil))))) (.node (boot_o_5 P) (.node (boot_o_9 P) (.node (o17_0 P) (.node (o33_0 P) (.node (o65_1 P) (.node (o129_1 P) .nil .nil) (.node (o193_3 P) .nil .nil)) (.node (o97_1 P) (.node (o161_2 P) .nil .nil) .nil)) (.node (o49_0 P) (.node (o81_1 P) (.node (o145_2 P) .nil .nil) (.node (o209_3 P) .nil .nil)) (.node (o113_1 P) (.node (o177_3 P) .nil .nil) .nil))) (.node (o25_0 P) (.node (o41_0 P) (.node (o73_1 P) (.node (o137_2 P) .nil .nil) (.node (o201_3 P) .nil .nil)) (.node (o105_1 P) (.node (o169_2 P) .nil .nil) .nil)) (.node (o57_0 P) (.node (o89_1 P) (.node (o153_2 P) .nil .nil) .nil) (.node (o121_1 P) (.node (o185_3 P) .nil .nil) .nil)))) (.node (o13a P) (.node (o21_0 P) (.node (o37_0 P) (.node (o69_1 P) (.node (o133_2 P) .nil .nil) (.node (o197_3 P) .nil .nil)) (.node (o101_1 P) (.node (o165_2 P) .nil .nil) .nil)) (.node (o53_0 P) (.node (o85_1 P) (.node (o149_2 P) .nil .nil) .nil) (.node (o117_1 P) (.node (o181_3 P) .nil .nil) .nil))) (.node (o29_0 P) (.node (o45_0 P) (.node (o77_1 P) (.node (o141_2 P) .nil .nil) (.node (o205_3 P) .nil .nil)) (.node (o109_1 P) (.node (o173_3 P) .nil .nil) .nil)) (.node (o61_1 P) (.node (o93_1 P) (.node (o157_2 P) .nil .nil) .nil) (.node (o125_1 P) (.node (o189_3 P) .nil .nil) .nil)))))) (.node (boot_o_2 P) (.node (boot_o_4 P) (.node (boot_o_8 P) (.node (o16_0 P) (.node (o32_0 P) (.node (o64_1 P) (.node (o128_1 P) .nil .nil) (.node (o192_3 P) .nil .nil)) (.node (o96_1 P) (.node (o160_2 P) .nil .nil) .nil)) (.node (o48_0 P) (.node (o80_1 P) (.node (o144_2 P) .nil .nil) (.node (o208_3 P) .nil .nil)) (.node (o112_1 P) (.node (o176_3 P) .nil .nil) .nil))) (.node (o24_0 P) (.node (o40_0 P) (.node (o72_1 P) (.node (o136_2 P) .nil .nil) (.node (o200_3 P) .nil .nil)) (.node (o104_1 P) (.node (o168_2 P) .nil .nil) .nil)) (.node (o56_0 P) (.node (o88_1 P) (.node (o152_2 P) .nil .nil) .nil) (.node (o120_1 P) (.node (o184_3 P) .nil .nil) .nil)))) (.node (o12_3 P) (.node (o20_0 P) (.node (o36_0 P) (.node (o68_1 P) (.node (o132_2 P) .nil .nil) (.node (o196_3 P) .nil .nil)) (.node (o100_1 P) (.node (o164_2 P) .nil .nil) .nil)) (.node (o52_0 P) (.node (o84_1 P) (.node (o148_2 P) .nil .nil) .nil) (.node (o116_1 P) (.node (o180_3 P) .nil .nil) .nil))) (.node (o28_0 P) (.node (o44_0 P) (.node (o76_1 P) (.node (o140_2 P) .nil .nil) (.node (o204_3 P) .nil .nil)) (.node (o108_1 P) (.node (o172_3 P) .nil .nil) .nil)) (.node (o60_1 P) (.node (o92_1 P) (.node (o156_2 P) .nil .nil) .nil) (.node (o124_1 P) (.node (o188_3 P) .nil .nil) .nil))))) (.node (boot_o_6 P) (.node (boot_o_10 P) (.node (o18_0 P) (.node (o34_0 P) (.node (o66_1 P) (.node (o130_2 P) .nil .nil) (.node (o194_3 P) .nil .nil)) (.node (o98_1 P) (.node (o162_2 P) .nil .nil) .nil)) (.node (o50_0 P) (.node (o82_1 P) (.node (o146_2 P) .nil .nil) .nil) (.node (o114_1 P) (.node (o178_3 P) .nil .nil) .nil))) (.node (o26_0 P) (.node (o42_0 P) (.node (o74_1 P) (.node (o138_2 P) .nil .nil) (.node (o202_3 P) .nil .nil)) (.node (o106_1 P) (.node (o170_3 P) .nil .nil) .nil)) (.node (o58_0 P) (.node (o90_1 P) (.node (o154_2 P) .nil .nil) .nil) (.node (o122_1 P) (.node (o186_3 P) .nil .nil) .nil)))) (.node (o14a P) (.node (o22_0 P) (.node (o38_0 P) (.node (o70_1 P) (.node (o134_2 P) .nil .nil) (.node (o198_3 P) .nil .nil)) (.node (o102_1 P) (.node (o166_2 P) .nil .nil) .nil)) (.node (o54_0 P) (.node (o86_1 P) (.node (o150_2 P) .nil .nil) .nil) (.node (o118_1 P) (.node (o182_3 P) .nil .nil) .nil))) (.node (o30_0 P) (.node (o46_0 P) (.node (o78_1 P) (.node (o142_2 P) .nil .nil) (.node (o206_3 P) .nil .nil)) (.node (o110_1 P) (.node (o174_3 P) .nil .nil) .nil)) (.node (o62_1 P) (.node (o94_1 P) (.node (o158_2 P) .nil .nil) .nil) (.node (o126_1 P) (.node (o190_3 P) .nil .nil) .nil)))))))
noncomputable def S3 (w : World) (os : OsState) : SharedT := ⟨T3 w.params, 210, (PySem.Life.mk [] [] [] 0 [] [] false #[] [] 0 false false false 0 [2000, 10, 10] false 0 true [] [] 0 false), ⟨[]⟩, (PySem.Drawn.mk 0 0 0 0), 439, os⟩
noncomputable def T4 (P : Params) : BT := (.node (boot_o_0 P) (.node (boot_o_1 P) (.node (o3_4 P) (.node (boot_o_7 P) (.node (o15_0 P) (.node (o31_1 P) (.node (o63_1 P) (.node (o127_1 P) (.node (o255_4 P) .nil .nil) .nil) (.node (o191_3 P) .nil .nil)) (.node (o95_1 P) (.node (o159_2 P) (.node (o287_4 P) .nil .nil) .nil) (.node (o223_4 P) .nil .nil))) (.node (o47_0 P) (.node (o79_1 P) (.node (o143_2 P) (.node (o271_4 P) .nil .nil) .nil) (.node (o207_3 P) .nil .nil)) (.node (o111_1 P) (.node (o175_3 P) .nil .nil) (.node (o239_4 P) .nil .nil)))) (.node (o23_0 P) (.node (o39_0 P) (.node (o71_1 P) (.node (o135_2 P) (.node (o263_4 P) .nil .nil) .nil) (.node (o199_3 P) .nil .nil)) (.node (o103_1 P) (.node (o167_4 P) .nil .nil) (.node (o231_4 P) .nil .nil))) (.node (o55_0 P) (.node (o87_1 P) (.node (o151_2 P) (.node (o279_4 P) .nil .nil) .nil) (.node (o215_4 P) .nil .nil)) (.node (o119_1 P) (.node (o183_3 P) .nil .nil) (.node (o247_4 P) .nil .nil))))) (.node (o11a P) (.node (o19_0 P) (.node (o35_0 P) (.node (o67_1 P) (.node (o131_2 P) (.node (o259_4 P) .nil .nil) .nil) (.node (o195_3 P) .nil .nil)) (.node (o99_1 P) (.node (o163_2 P) (.node (o291_4 P) .nil .nil) .nil) (.node (o227_4 P) .nil .nil))) (.node (o51_0 P) (.node (o83_1 P) (.node (o147_2 P) (.node (o275_4 P) .nil .nil) .nil) (.node (o211_4 P) .nil .nil)) (.node (o115_1 P) (.node (o179_3 P) .nil .nil) (.node (o243_4 P) .nil .nil)))) (.node (o27_0 P) (.node (o43_0 P) (.node (o75_1 P) (.node (o139_3 P) (.node (o267_4 P) .nil .nil) .nil) (.node (o203_3 P) .nil .nil)) (.node (o107_1 P) (.node (o171_3 P) .nil .nil) (.node (o235_4 P) .nil .nil))) (.node (o59_1 P) (.node (o91_1 P) (.node (o155_2 P) (.node (o283_4 P) .nil .nil) .nil) (.node (o219_4 P) .nil .nil)) (.node (o123_1 P) (.node (o187_3 P) .nil .nil) (.node (o251_4 P) .nil .nil)))))) (.node (boot_o_5 P) (.node (boot_o_9 P) (.node (o17_0 P) (.node (o33_0 P) (.node (o65_1 P) (.node (o129_1 P) (.node (o257_4 P) .nil .nil) .nil) (.node (o193_3 P) .nil .nil)) (.node (o97_1 P) (.node (o161_2 P) (.node (o289_4 P) .nil .nil) .nil) (.node (o225_4 P) .nil .nil))) (.node (o49_0 P) (.node (o81_1 P) (.node (o145_2 P) (.node (o273_4 P) .nil .nil) .nil) (.node (o209_3 P) .nil .nil)) (.node (o113_1 P) (.node (o177_3 P) .nil .nil) (.node (o241_4 P) .nil .nil)))) (.node (o25_0 P) (.node (o41_0 P) (.node (o73_1 P) (.node (o137_2 P) (.node (o265_4 P) .nil .nil) .nil) (.node (o201_3 P) .nil .nil)) (.node (o105_1 P) (.node (o169_2 P) .nil .nil) (.node (o233_4 P) .nil .nil))) (.node (o57_0 P) (.node (o89_1 P) (.node (o153_2 P) (.node (o281_4 P) .nil .nil) .nil) (.node (o217_4 P) .nil .nil)) (.node (o121_1 P) (.node (o185_3 P) .nil .nil) (.node (o249_4 P) .nil .nil))))) (.node (o13a P) (.node (o21_0 P) (.node (o37_0 P) (.node (o69_1 P) (.node (o133_2 P) (.node (o261_4 P) .nil .nil) .nil) (.node (o197_3 P) .nil .nil)) (.node (o101_1 P) (.node (o165_2 P) .nil .nil) (.node (o229_4 P) .nil .nil))) (.node (o53_0 P) (.node (o85_1 P) (.node (o149_2 P) (.node (o277_4 P) .nil .nil) .nil) (.node (o213_4 P) .nil .nil)) (.node (o117_1 P) (.node (o181_3 P) .nil .nil) (.node (o245_4 P) .nil .nil)))) (.node (o29_0 P) (.node (o45_0 P) (.node (o77_1 P) (.node (o141_2 P) (.node (o269_4 P) .nil .nil) .nil) (.node (o205_3 P) .nil .nil)) (.node (o109_1 P) (.node (o173_3 P) .nil .nil) (.node (o237_4 P) .nil .nil))) (.node (o61_1 P) (.node (o93_1 P) (.node (o157_2 P) (.node (o285_4 P) .nil .nil) .nil) (.node (o221_4 P) .nil .nil)) (.node (o125_1 P) (.node (o189_3 P) .nil .nil) (.node (o253_4 P) .nil .nil))))))) (.node (boot_o_2 P) (.node (boot_o_4 P) (.node (boot_o_8 P) (.node (o16_0 P) (.node (o32_0 P) (.node (o64_1 P) (.node (o128_1 P) (.node (o256_4 P) .nil .nil) .nil) (.node (o192_3 P) .nil .nil)) (.node (o96_1 P) (.node (o160_2 P) (.node (o288_4 P) .nil .nil) .nil) (.node (o224_4 P) .nil .nil))) (.node (o48_0 P) (.node (o80_1 P) (.node (o144_2 P) (.node (o272_4 P) .nil .nil) .nil) (.node (o208_3 P) .nil .nil)) (.node (o112_1 P) (.node (o176_3 P) .nil .nil) (.node (o240_4 P) .nil .nil)))) (.node (o24_0 P) (.node (o40_0 P) (.node (o72_1 P) (.node (o136_2 P) (.node (o264_4 P) .nil .nil) .nil) (.node (o200_3 P) .nil .nil)) (.node (o104_1 P) (.node (o168_2 P) .nil .nil) (.node (o232_4 P) .nil .nil))) (.node (o56_0 P) (.node (o88_1 P) (.node (o152_2 P) (.node (o280_4 P) .nil .nil) .nil) (.node (o216_4 P) .nil .nil)) (.node (o120_1 P) (.node (o184_3 P) .nil .nil) (.node (o248_4 P) .nil .nil))))) (.node (o12_4 P) (.node (o20_0 P) (.node (o36_0 P) (.node (o68_1 P) (.node (o132_2 P) (.node (o260_4 P) .nil .nil) .nil) (.node (o196_3 P) .nil .nil)) (.node (o100_1 P) (.node (o164_2 P) .nil .nil) (.node (o228_4 P) .nil .nil))) (.node (o52_0 P) (.node (o84_1 P) (.node (o148_2 P) (.node (o276_4 P) .nil .nil) .nil) (.node (o212_4 P) .nil .nil)) (.node (o116_1 P) (.node (o180_3 P) .nil .nil) (.node (o244_4 P) .nil .nil)))) (.node (o28_0 P) (.node (o44_0 P) (.node (o76_1 P) (.node (o140_2 P) (.node (o268_4 P) .nil .nil) .nil) (.node (o204_3 P) .nil .nil)) (.node (o108_1 P) (.node (o172_3 P) .nil .nil) (.node (o236_4 P) .nil .nil))) (.node (o60_1 P) (.node (o92_1 P) (.node (o156_2 P) (.node (o284_4 P) .nil .nil) .nil) (.node (o220_4 P) .nil .nil)) (.node (o124_1 P) (.node (o188_3 P) .nil .nil) (.node (o252_4 P) .nil .nil)))))) (.node (boot_o_6 P) (.node (boot_o_10 P) (.node (o18_0 P) (.node (o34_0 P) (.node (o66_1 P) (.node (o130_2 P) (.node (o258_4 P) .nil .nil) .nil) (.node (o194_3 P) .nil .nil)) (.node (o98_1 P) (.node (o162_2 P) (.node (o290_4 P) .nil .nil) .nil) (.node (o226_4 P) .nil .nil))) (.node (o50_0 P) (.node (o82_1 P) (.node (o146_2 P) (.node (o274_4 P) .nil .nil) .nil) (.node (o210_4 P) .nil .nil)) (.node (o114_1 P) (.node (o178_3 P) .nil .nil) (.node (o242_4 P) .nil .nil)))) (.node (o26_0 P) (.node (o42_0 P) (.node (o74_1 P) (.node (o138_2 P) (.node (o266_4 P) .nil .nil) .nil) (.node (o202_3 P) .nil .nil)) (.node (o106_1 P) (.node (o170_3 P) .nil .nil) (.node (o234_4 P) .nil .nil))) (.node (o58_0 P) (.node (o90_1 P) (.node (o154_2 P) (.node (o282_4 P) .nil .nil) .nil) (.node (o218_4 P) .nil .nil)) (.node (o122_1 P) (.node (o186_3 P) .nil .nil) (.node (o250_4 P) .nil .nil))))) (.node (o14a P) (.node (o22_0 P) (.node (o38_0 P) (.node (o70_1 P) (.node (o134_2 P) (.node (o262_4 P) .nil .nil) .nil) (.node (o198_3 P) .nil .nil)) (.node (o102_1 P) (.node (o166_2 P) .nil .nil) (.node (o230_4 P) .nil .nil))) (.node (o54_0 P) (.node (o86_1 P) (.node (o150_2 P) (.node (o278_4 P) .nil .nil) .nil) (.node (o214_4 P) .nil .nil)) (.node (o118_1 P) (.node (o182_3 P) .nil .nil) (.node (o246_4 P) .nil .nil)))) (.node (o30_0 P) (.node (o46_0 P) (.node (o78_1 P) (.node (o142_2 P) (.node (o270_4 P) .nil .nil) .nil) (.node (o206_3 P) .nil .nil)) (.node (o110_1 P) (.node (o174_3 P) .nil .nil) (.node (o238_4 P) .nil .nil))) (.node (o62_1 P) (.node (o94_1 P) (.node (o158_2 P) (.node (o286_4 P) .nil .nil) .nil) (.node (o222_4 P) .nil .nil)) (.node (o126_1 P) (.node (o190_3 P) .nil .nil) (.node (o254_4 P) .nil .nil))))))))
noncomputable def S4 (w : World) (os : OsState) : SharedT := ⟨T4 w.params, 292, (PySem.Life.mk [] [] [] 0 [] [] false #[] [] 0 false false false 0 [2000, 10, 10] false 0 true [] [] 0 false), ⟨[]⟩, (PySem.Drawn.mk 0 0 0 0), 537, os⟩
noncomputable def T5 (P : Params) : BT := (.node (boot_o_0 P) (.node (boot_o_1 P) (.node (o3_5 P) (.node (boot_o_7 P) (.node (o15_0 P) (.node (o31_1 P) (.node (o63_1 P) (.node (o127_1 P) (.node (o255_4 P) .nil .nil) .nil) (.node (o191_3 P) (.node (o319_5 P) .nil .nil) .nil)) (.node (o95_1 P) (.node (o159_2 P) (.node (o287_4 P) .nil .nil) .nil) (.node (o223_4 P) (.node (o351_5 P) .nil .nil) .nil))) (.node (o47_0 P) (.node (o79_1 P) (.node (o143_2 P) (.node (o271_4 P) .nil .nil) .nil) (.node (o207_3 P) (.node (o335_5 P) .nil .nil) .nil)) (.node (o111_1 P) (.node (o175_3 P) (.node (o303_5 P) .nil .nil) .nil) (.node (o239_4 P) (.node (o367_5 P) .nil .nil) .nil)))) (.node (o23_0 P) (.node (o39_0 P) (.node (o71_1 P) (.node (o135_2 P) (.node (o263_4 P) .nil .nil) .nil) (.node (o199_3 P) (.node (o327_5 P) .nil .nil) .nil)) (.node (o103_1 P) (.node (o167_5 P) (.node (o295_5 P) .nil .nil) .nil) (.node (o231_4 P) (.node (o359_5 P) .nil .nil) .nil))) (.node (o55_0 P) (.node (o87_1 P) (.node (o151_2 P) (.node (o279_4 P) .nil .nil) .nil) (.node (o215_4 P) (.node (o343_5 P) .nil .nil) .nil)) (.node (o119_1 P) (.node (o183_3 P) (.node (o311_5 P) .nil .nil) .nil) (.node (o247_4 P) (.node (o375_5 P) .nil .nil) .nil))))) (.node (o11a P) (.node (o19_0 P) (.node (o35_0 P) (.node (o67_1 P) (.node (o131_2 P) (.node (o259_4 P) .nil .nil) .nil) (.node (o195_3 P) (.node (o323_5 P) .nil .nil) .nil)) (.node (o99_1 P) (.node (o163_2 P) (.node (o291_4 P) .nil .nil) .nil) (.node (o227_4 P) (.node (o355_5 P) .nil .nil) .nil))) (.node (o51_0 P) (.node (o83_1 P) (.node (o147_2 P) (.node (o275_4 P) .nil .nil) .nil) (.node (o211_4 P) (.node (o339_5 P) .nil .nil) .nil)) (.node (o115_1 P) (.node (o179_3 P) (.node (o307_5 P) .nil .nil) .nil) (.node (o243_4 P) (.node (o371_5 P) .nil .nil) .nil)))) (.node (o27_0 P) (.node (o43_0 P) (.node (o75_1 P) (.node (o139_3 P) (.node (o267_4 P) .nil .nil) .nil) (.node (o203_3 P) (.node (o331_5 P) .nil .nil) .nil)) (.node (o107_1 P) (.node (o171_3 P) (.node (o299_5 P) .nil .nil) .nil) (.node (o235_4 P) (.node (o363_5 P) .nil .nil) .nil))) (.node (o59_1 P) (.node (o91_1 P) (.node (o155_2 P) (.node (o283_4 P) .nil .nil) .nil) (.node (o219_4 P) (.node (o347_5 P) .nil .nil) .nil)) (.node (o123_1 P) (.node (o187_3 P) (.node (o315_5 P) .nil .nil) .nil) (.node (o251_4 P) (.node (o379_5 P) .nil .nil) .nil)))))) (.node (boot_o_5 P) (.node (boot_o_9 P) (.node (o17_0 P) (.node (o33_0 P) (.node (o65_1 P) (.node (o129_1 P) (.node (o257_4 P) .nil .nil) .nil) (.node (o193_3 P) (.node (o321_5 P) .nil .nil) .nil)) (.node (o97_1 P) (.node (o161_2 P) (.node (o289_4 P) .nil .nil) .nil) (.node (o225_4 P) (.node (o353_5 P) .nil .nil) .nil))) (.node (o49_0 P) (.node (o81_1 P) (.node (o145_2 P) (.node (o273_4 P) .nil .nil) .nil) (.node (o209_3 P) (.node (o337_5 P) .nil .nil) .nil)) (.node (o113_1 P) (.node (o177_3 P) (.node (o305_5 P) .nil .nil) .nil) (.node (o241_4 P) (.node (o369_5 P) .nil .nil) .nil)))) (.node (o25_0 P) (.node (o41_0 P) (.node (o73_1 P) (.node (o137_2 P) (.node (o265_4 P) .nil .nil) .nil) (.node (o201_3 P) (.node (o329_5 P) .nil .nil) .nil)) (.node (o105_1 P) (.node (o169_2 P) (.node (o297_5 P) .nil .nil) .nil) (.node (o233_4 P) (.node (o361_5 P) .nil .nil) .nil))) (.node (o57_0 P) (.node (o89_1 P) (.node (o153_2 P) (.node (o281_4 P) .nil .nil) .nil) (.node (o217_4 P) (.node (o345_5 P) .nil .nil) .nil)) (.node (o121_1 P) (.node (o185_3 P) (.node (o313_5 P) .nil .nil) .nil) (.node (o249_4 P) (.node (o377_5 P) .nil .nil) .nil))))) (.node (o13a P) (.node (o21_0 P) (.node (o37_0 P) (.node (o69_1 P) (.node (o133_2 P) (.node (o261_4 P) .nil .nil) .nil) (.node (o197_3 P) (.node (o325_5 P) .nil .nil) .nil)) (.node (o101_1 P) (.node (o165_2 P) (.node (o293_5 P) .nil .nil) .nil) (.node (o229_4 P) (.node (o357_5 P) .nil .nil) .nil))) (.node (o53_0 P) (.node (o85_1 P) (.node (o149_2 P) (.node (o277_4 P) .nil .nil) .nil) (.node (o213_4 P) (.node (o341_5 P) .nil .nil) .nil)) (.node (o117_1 P) (.node (o181_3 P) (.node (o309_5 P) .nil .nil) .nil) (.node (o245_4 P) (.node (o373_5 P) .nil .nil) .nil)))) (.node (o29_0 P) (.node (o45_0 P) (.node (o77_1 P) (.node (o141_2 P) (.node (o269_4 P) .nil .nil) .nil) (.node (o205_3 P) (.node (o333_5 P) .nil .nil) .nil)) (.node (o109_1 P) (.node (o173_3 P) (.node (o301_5 P) .nil .nil) .nil) (.node (o237_4 P) (.node (o365_5 P) .nil .nil) .nil))) (.node (o61_1 P) (.node (o93_1 P) (.node (o157_2 P) (.node (o285_4 P) .nil .nil) .nil) (.node (o221_4 P) (.node (o349_5 P) .nil .nil) .nil)) (.node (o125_1 P) (.node (o189_3 P) (.node (o317_5 P) .nil .nil) .nil) (.node (o253_4 P) .nil .nil))))))) (.node (boot_o_2 P) (.node (boot_o_4 P) (.node (boot_o_8 P) (.node (o16_0 P) (.node (o32_0 P) (.node (o64_1 P) (.node (o128_1 P) (.node (o256_4 P) .nil .nil) .nil) (.node (o192_3 P) (.node (o320_5 P) .nil .nil) .nil)) (.node (o96_1 P) (.node (o160_2 P) (.node (o288_4 P) .nil .nil) .nil) (.node (o224_4 P) (.node (o352_5 P) .nil .nil) .nil))) (.node (o48_0 P) (.node (o80_1 P) (.node (o144_2 P) (.node (o272_4 P) .nil .nil) .nil) (.node (o208_3 P) (.node (o336_5 P) .nil .nil) .nil)) (.node (o112_1 P) (.node (o176_3 P) (.node (o304_5 P) .nil .nil) .nil) (.node (o240_4 P) (.node (o368_5 P) .nil .nil) .nil)))) (.node (o24_0 P) (.node (o40_0 P) (.node (o72_1 P) (.node (o136_2 P) (.node (o264_4 P) .nil .nil) .nil) (.node (o200_3 P) (.node (o328_5 P) .nil .nil) .nil)) (.node (o104_1 P) (.node (o168_2 P) (.node (o296_5 P) .nil .nil) .nil) (.node (o232_4 P) (.node (o360_5 P) .nil .nil) .nil))) (.node (o56_0 P) (.node (o88_1 P) (.node (o152_2 P) (.node (o280_4 P) .nil .nil) .nil) (.node (o216_4 P) (.node (o344_5 P) .nil .nil) .nil)) (.node (o120_1 P) (.node (o184_3 P) (.node (o312_5 P) .nil .nil) .nil) (.node (o248_4 P) (.node (o376_5 P) .nil .nil) .nil))))) (.node (o12_5 P) (.node (o20_0 P) (.node (o36_0 P) (.node (o68_1 P) (.node (o132_2 P) (.node (o260_4 P) .nil .nil) .nil) (.node (o196_3 P) (.node (o324_5 P) .nil .nil) .nil)) (.node (o100_1 P) (.node (o164_2 P) (.node (o292_5 P) .nil .nil) .nil) (.node (o228_4 P) (.node (o356_5 P) .nil .nil) .nil))) (.node (o52_0 P) (.node (o84_1 P) (.node (o148_2 P) (.node (o276_4 P) .nil .nil) .nil) (.node (o212_4 P) (.node (o340_5 P) .nil .nil) .nil)) (.node (o116_1 P) (.node (o180_3 P) (.node (o308_5 P) .nil .nil) .nil) (.node (o244_4 P) (.node (o372_5 P) .nil .nil) .nil)))) (.node (o28_0 P) (.node (o44_0 P) (.node (o76_1 P) (.node (o140_2 P) (.node (o268_4 P) .nil .nil) .nil) (.node (o204_3 P) (.node (o332_5 P) .nil .nil) .nil)) (.node (o108_1 P) (.node (o172_3 P) (.node (o300_5 P) .nil .nil) .nil) (.node (o236_4 P) (.node (o364_5 P) .nil .nil) .nil))) (.node (o60_1 P) (.node (o92_1 P) (.node (o156_2 P) (.node (o284_4 P) .nil .nil) .nil) (.node (o220_4 P) (.node (o348_5 P) .nil .nil) .nil)) (.node (o124_1 P) (.node (o188_3 P) (.node (o316_5 P) .nil .nil) .nil) (.node (o252_4 P) (.node (o380_5 P) .nil .nil) .nil)))))) (.node (boot_o_6 P) (.node (boot_o_10 P) (.node (o18_0 P) (.node (o34_0 P) (.node (o66_1 P) (.node (o130_2 P) (.node (o258_4 P) .nil .nil) .nil) (.node (o194_3 P) (.node (o322_5 P) .nil .nil) .nil)) (.node (o98_1 P) (.node (o162_2 P) (.node (o290_4 P) .nil .nil) .nil) (.node (o226_4 P) (.node (o354_5 P) .nil .nil) .nil))) (.node (o50_0 P) (.node (o82_1 P) (.node (o146_2 P) (.node (o274_4 P) .nil .nil) .nil) (.node (o210_4 P) (.node (o338_5 P) .nil .nil) .nil)) (.node (o114_1 P) (.node (o178_3 P) (.node (o306_5 P) .nil .nil) .nil) (.node (o242_4 P) (.node (o370_5 P) .nil .nil) .nil)))) (.node (o26_0 P) (.node (o42_0 P) (.node (o74_1 P) (.node (o138_2 P) (.node (o266_4 P) .nil .nil) .nil) (.node (o202_3 P) (.node (o330_5 P) .nil .nil) .nil)) (.node (o106_1 P) (.node (o170_3 P) (.node (o298_5 P) .nil .nil) .nil) (.node (o234_4 P) (.node (o362_5 P) .nil .nil) .nil))) (.node (o58_0 P) (.node (o90_1 P) (.node (o154_2 P) (.node (o282_4 P) .nil .nil) .nil) (.node (o218_4 P) (.node (o346_5 P) .nil .nil) .nil)) (.node (o122_1 P) (.node (o186_3 P) (.node (o314_5 P) .nil .nil) .nil) (.node (o250_4 P) (.node (o378_5 P) .nil .nil) .nil))))) (.node (o14a P) (.node (o22_0 P) (.node (o38_0 P) (.node (o70_1 P) (.node (o134_2 P) (.node (o262_4 P) .nil .nil) .nil) (.node (o198_3 P) (.node (o326_5 P) .nil .nil) .nil)) (.node (o102_1 P) (.node (o166_2 P) (.node (o294_5 P) .nil .nil) .nil) (.node (o230_4 P) (.node (o358_5 P) .nil .nil) .nil))) (.node (o54_0 P) (.node (o86_1 P) (.node (o150_2 P) (.node (o278_4 P) .nil .nil) .nil) (.node (o214_4 P) (.node (o342_5 P) .nil .nil) .nil)) (.node (o118_1 P) (.node (o182_3 P) (.node (o310_5 P) .nil .nil) .nil) (.node (o246_4 P) (.node (o374_5 P) .nil .nil) .nil)))) (.node (o30_0 P) (.node (o46_0 P) (.node (o78_1 P) (.node (o142_2 P) (.node (o270_4 P) .nil .nil) .nil) (.node (o206_3 P) (.node (o334_5 P) .nil .nil) .nil)) (.node (o110_1 P) (.node (o174_3 P) (.node (o302_5 P) .nil .nil) .nil) (.node (o238_4 P) (.node (o366_5 P) .nil .nil) .nil))) (.node (o62_1 P) (.node (o94_1 P) (.node (o158_2 P) (.node (o286_4 P) .nil .nil) .nil) (.node (o222_4 P) (.node (o350_5 P) .nil .nil) .nil)) (.node (o126_1 P) (.node (o190_3 P) (.node (o318_5 P) .nil .nil) .nil) (.node (o254_4 P) .nil .nil))))))))
noncomputable def S5 (w : World) (os : OsState) : SharedT := ⟨T5 w.params, 381, (PySem.Life.mk [] [] [] 0 [] [] false #[] [] 0 false false false 0 [2000, 10, 10] false 0 true [] [] 0 false), ⟨[]⟩, (PySem.Drawn.mk 0 0 0 0), 645, os⟩
noncomputable def T6 (P : Params) : BT := (.node (boot_o_0 P) (.node (boot_o_1 P) (.node (o3_6 P) (.node (boot_o_7 P) (.node (o15_0 P) (.node (o31_1 P) (.node (o63_1 P) (.node (o127_1 P) (.node (o255_4 P) .nil .nil) (.node (o383_6 P) .nil .nil)) (.node (o191_3 P) (.node (o319_5 P) .nil .nil) (.node (o447_6 P) .nil .nil))) (.node (o95_1 P) (.node (o159_2 P) (.node (o287_4 P) .nil .nil) (.node (o415_6 P) .nil .nil)) (.node (o223_4 P) (.node (o351_5 P) .nil .nil) .nil))) (.node (o47_0 P) (.node (o79_1 P) (.node (o143_2 P) (.node (o271_4 P) .nil .nil) (.node (o399_6 P) .nil .nil)) (.node (o207_6 P) (.node (o335_5 P) .nil .nil) .nil)) (.node (o111_1 P) (.node (o175_3 P) (.node (o303_5 P) .nil .nil) (.node (o431_6 P) .nil .nil)) (.node (o239_4 P) (.node (o367_5 P) .nil .nil) .nil)))) (.node (o23_0 P) (.node (o39_0 P) (.node (o71_1 P) (.node (o135_2 P) (.node (o263_4 P) .nil .nil) (.node (o391_6 P) .nil .nil)) (.node (o199_3 P) (.node (o327_5 P) .nil .nil) .nil)) (.node (o103_1 P) (.node (o167_5 P) (.node (o295_5 P) .nil .nil) (.node (o423_6 P) .nil .nil)) (.node (o231_4 P) (.node (o359_5 P) .nil .nil) .nil))) (.node (o55_0 P) (.node (o87_1 P) (.node (o151_2 P) (.node (o279_4 P) .nil .nil) (.node (o407_6 P) .nil .nil)) (.node (o215_4 P) (.node (o343_5 P) .nil .nil) .nil)) (.node (o119_1 P) (.node (o183_3 P) (.node (o311_5 P) .nil .nil) (.node (o439_6 P) .nil .nil)) (.node (o247_4 P) (.node (o375_5 P) .nil .nil) .nil))))) (.node (o11a P) (.node (o19_0 P) (.node (o35_0 P) (.node (o67_1 P) (.node (o131_2 P) (.node (o259_4 P) .nil .nil) (.node (o387_6 P) .nil .nil)) (.node (o195_3 P) (.node (o323_5 P) .nil .nil) .nil)) (.node (o99_1 P) (.node (o163_2 P) (.node (o291_4 P) .nil .nil) (.node (o419_6 P) .nil .nil)) (.node (o227_4 P) (.node (o355_5 P) .nil .nil) .nil))) (.node (o51_0 P) (.node (o83_1 P) (.node (o147_2 P) (.node (o275_4 P) .nil .nil) (.node (o403_6 P) .nil .nil)) (.node (o211_4 P) (.node (o339_5 P) .nil .nil) .nil)) (.node (o115_1 P) (.node (o179_3 P) (.node (o307_5 P) .nil .nil) (.node (o435_6 P) .nil .nil)) (.node (o243_4 P) (.node (o371_5 P) .nil .nil) .nil)))) (.node (o27_0 P) (.node (o43_0 P) (.node (o75_1 P) (.node (o139_3 P) (.node (o267_4 P) .nil .nil) (.node (o395_6 P) .nil .nil)) (.node (o203_3 P) (.node (o331_5 P) .nil .nil) .nil)) (.node (o107_1 P) (.node (o171_3 P) (.node (o299_5 P) .nil .nil) (.node (o427_6 P) .nil .nil)) (.node (o235_4 P) (.node (o363_5 P) .nil .nil) .nil))) (.node (o59_1 P) (.node (o91_1 P) (.node (o155_2 P) (.node (o283_4 P) .nil .nil) (.node (o411_6 P) .nil .nil)) (.node (o219_4 P) (.node (o347_5 P) .nil .nil) .nil)) (.node (o123_1 P) (.node (o187_3 P) (.node (o315_5 P) .nil .nil) (.node (o443_6 P) .nil .nil)) (.node (o251_4 P) (.node (o379_5 P) .nil .nil) .nil)))))) (.node (boot_o_5 P) (.node (boot_o_9 P) (.node (o17_0 P) (.node (o33_0 P) (.node (o65_1 P) (.node (o129_1 P) (.node (o257_4 P) .nil .nil) (.node (o385_6 P) .nil .nil)) (.node (o193_3 P) (.node (o321_5 P) .nil .nil) .nil)) (.node (o97_1 P) (.node (o161_2 P) (.node (o289_4 P) .nil .nil) (.node (o417_6 P) .nil .nil)) (.node (o225_4 P) (.node (o353_5 P) .nil .nil) .nil))) (.node (o49_0 P) (.node (o81_1 P) (.node (o145_2 P) (.node (o273_4 P) .nil .nil) (.node (o401_6 P) .nil .nil)) (.node (o209_3 P) (.node (o337_5 P) .nil .nil) .nil)) (.node (o113_1 P) (.node (o177_3 P) (.node (o305_5 P) .nil .nil) (.node (o433_6 P) .nil .nil)) (.node (o241_4 P) (.node (o369_5 P) .nil .nil) .nil)))) (.node (o25_0 P) (.node (o41_0 P) (.node (o73_1 P) (.node (o137_2 P) (.node (o265_4 P) .nil .nil) (.node (o393_6 P) .nil .nil)) (.node (o201_3 P) (.node (o329_5 P) .nil .nil) .nil)) (.node (o105_1 P) (.node (o169_2 P) (.node (o297_5 P) .nil .nil) (.node (o425_6 P) .nil .nil)) (.node (o233_4 P) (.node (o361_5 P) .nil .nil) .nil))) (.node (o57_0 P) (.node (o89_1 P) (.node (o153_2 P) (.node (o281_4 P) .nil .nil) (.node (o409_6 P) .nil .nil)) (.node (o217_4 P) (.node (o345_5 P) .nil .nil) .nil)) (.node (o121_1 P) (.node (o185_3 P) (.node (o313_5 P) .nil .nil) (.node (o441_6 P) .nil .nil)) (.node (o249_4 P) (.node (o377_5 P) .nil .nil) .nil))))) (.node (o13a P) (.node (o21_0 P) (.node (o37_0 P) (.node (o69_1 P) (.node (o133_2 P) (.node (o261_4 P) .nil .nil) (.node (o389_6 P) .nil .nil)) (.node (o197_3 P) (.node (o325_5 P) .nil .nil) .nil)) (.node (o101_1 P) (.node (o165_2 P) (.node (o293_5 P) .nil .nil) (.node (o421_6 P) .nil .nil)) (.node (o229_4 P) (.node (o357_5 P) .nil .nil) .nil))) (.node (o53_0 P) (.node (o85_1 P) (.node (o149_2 P) (.node (o277_4 P) .nil .nil) (.node (o405_6 P) .nil .nil)) (.node (o213_4 P) (.node (o341_5 P) .nil .nil) .nil)) (.node (o117_1 P) (.node (o181_3 P) (.node (o309_5 P) .nil .nil) (.node (o437_6 P) .nil .nil)) (.node (o245_4 P) (.node (o373_5 P) .nil .nil) .nil)))) (.node (o29_0 P) (.node (o45_0 P) (.node (o77_1 P) (.node (o141_2 P) (.node (o269_4 P) .nil .nil) (.node (o397_6 P) .nil .nil)) (.node (o205_3 P) (.node (o333_5 P) .nil .nil) .nil)) (.node (o109_1 P) (.node (o173_3 P) (.node (o301_5 P) .nil .nil) (.node (o429_6 P) .nil .nil)) (.node (o237_4 P) (.node (o365_5 P) .nil .nil) .nil))) (.node (o61_1 P) (.node (o93_1 P) (.node (o157_2 P) (.node (o285_4 P) .nil .nil) (.node (o413_6 P) .nil .nil)) (.node (o221_4 P) (.node (o349_5 P) .nil .nil) .nil)) (.node (o125_1 P) (.node (o189_3 P) (.node (o317_5 P) .nil .nil) (.node (o445_6 P) .nil .nil)) (.node (o253_4 P) (.node (o381_6 P) .nil .nil) .nil))))))) (.node (boot_o_2 P) (.node (boot_o_4 P) (.node (boot_o_8 P) (.node (o16_0 P) (.node (o32_0 P) (.node (o64_1 P) (.node (o128_1 P) (.node (o256_4 P) .nil .nil) (.node (o384_6 P) .nil .nil)) (.node (o192_3 P) (.node (o320_5 P) .nil .nil) (.node (o448_6 P) .nil .nil))) (.node (o96_1 P) (.node (o160_2 P) (.node (o288_4 P) .nil .nil) (.node (o416_6 P) .nil .nil)) (.node (o224_4 P) (.node (o352_5 P) .nil .nil) .nil))) (.node (o48_0 P) (.node (o80_1 P) (.node (o144_2 P) (.node (o272_4 P) .nil .nil) (.node (o400_6 P) .nil .nil)) (.node (o208_3 P) (.node (o336_5 P) .nil .nil) .nil)) (.node (o112_1 P) (.node (o176_3 P) (.node (o304_5 P) .nil .nil) (.node (o432_6 P) .nil .nil)) (.node (o240_4 P) (.node (o368_5 P) .nil .nil) .nil)))) (.node (o24_0 P) (.node (o40_0 P) (.node (o72_1 P) (.node (o136_2 P) (.node (o264_4 P) .nil .nil) (.node (o392_6 P) .nil .nil)) (.node (o200_3 P) (.node (o328_5 P) .nil .nil) .nil)) (.node (o104_1 P) (.node (o168_2 P) (.node (o296_5 P) .nil .nil) (.node (o424_6 P) .nil .nil)) (.node (o232_4 P) (.node (o360_5 P) .nil .nil) .nil))) (.node (o56_0 P) (.node (o88_1 P) (.node (o152_2 P) (.node (o280_4 P) .nil .nil) (.node (o408_6 P) .nil .nil)) (.node (o216_4 P) (.node (o344_5 P) .nil .nil) .nil)) (.node (o120_1 P) (.node (o184_3 P) (.node (o312_5 P) .nil .nil) (.node (o440_6 P) .nil .nil)) (.node (o248_4 P) (.node (o376_5 P) .nil .nil) .nil))))) (.node (o12_6 P) (.node (o20_0 P) (.node (o36_0 P) (.node (o68_1 P) (.node (o132_2 P) (.node (o260_4 P) .nil .nil) (.node (o388_6 P) .nil .nil)) (.node (o196_3 P) (.node (o324_5 P) .nil .nil) .nil)) (.node (o100_1 P) (.node (o164_2 P) (.node (o292_5 P) .nil .nil) (.node (o420_6 P) .nil .nil)) (.node (o228_4 P) (.node (o356_5 P) .nil .nil) .nil))) (.node (o52_0 P) (.node (o84_1 P) (.node (o148_2 P) (.node (o276_4 P) .nil .nil) (.node (o404_6 P) .nil .nil)) (.node (o212_4 P) (.node (o340_5 P) .nil .nil) .nil)) (.node (o116_1 P) (.node (o180_3 P) (.node (o308_5 P) .nil .nil) (.node (o436_6 P) .nil .nil)) (.node (o244_4 P) (.node (o372_5 P) .nil .nil) .nil)))) (.node (o28_0 P) (.node (o44_0 P) (.node (o76_1 P) (.node (o140_2 P) (.node (o268_4 P) .nil .nil) (.node (o396_6 P) .nil .nil)) (.node (o204_3 P) (.node (o332_5 P) .nil .nil) .nil)) (.node (o108_1 P) (.node (o172_3 P) (.node (o300_5 P) .nil .nil) (.node (o428_6 P) .nil .nil)) (.node (o236_4 P) (.node (o364_5 P) .nil .nil) .nil))) (.node (o60_1 P) (.node (o92_1 P) (.node (o156_2 P) (.node (o284_4 P) .nil .nil) (.node (o412_6 P) .nil .nil)) (.node (o220_4 P) (.node (o348_5 P) .nil .nil) .nil)) (.node (o124_1 P) (.node (o188_3 P) (.node (o316_5 P) .nil .nil) (.node (o444_6 P) .nil .nil)) (.node (o252_4 P) (.node (o380_5 P) .nil .nil) .nil)))))) (.node (boot_o_6 P) (.node (boot_o_10 P) (.node (o18_0 P) (.node (o34_0 P) (.node (o66_1 P) (.node (o130_2 P) (.node (o258_4 P) .nil .nil) (.node (o386_6 P) .nil .nil)) (.node (o194_3 P) (.node (o322_5 P) .nil .nil) .nil)) (.node (o98_1 P) (.node (o162_2 P) (.node (o290_4 P) .nil .nil) (.node (o418_6 P) .nil .nil)) (.node (o226_4 P) (.node (o354_5 P) .nil .nil) .nil))) (.node (o50_0 P) (.node (o82_1 P) (.node (o146_2 P) (.node (o274_4 P) .nil .nil) (.node (o402_6 P) .nil .nil)) (.node (o210_4 P) (.node (o338_5 P) .nil .nil) .nil)) (.node (o114_1 P) (.node (o178_3 P) (.node (o306_5 P) .nil .nil) (.node (o434_6 P) .nil .nil)) (.node (o242_4 P) (.node (o370_5 P) .nil .nil) .nil)))) (.node (o26_0 P) (.node (o42_0 P) (.node (o74_1 P) (.node (o138_2 P) (.node (o266_4 P) .nil .nil) (.node (o394_6 P) .nil .nil)) (.node (o202_3 P) (.node (o330_5 P) .nil .nil) .nil)) (.node (o106_1 P) (.node (o170_3 P) (.node (o298_5 P) .nil .nil) (.node (o426_6 P) .nil .nil)) (.node (o234_4 P) (.node (o362_5 P) .nil .nil) .nil))) (.node (o58_0 P) (.node (o90_1 P) (.node (o154_2 P) (.node (o282_4 P) .nil .nil) (.node (o410_6 P) .nil .nil)) (.node (o218_4 P) (.node (o346_5 P) .nil .nil) .nil)) (.node (o122_1 P) (.node (o186_3 P) (.node (o314_5 P) .nil .nil) (.node (o442_6 P) .nil .nil)) (.node (o250_4 P) (.node (o378_5 P) .nil .nil) .nil))))) (.node (o14a P) (.node (o22_0 P) (.node (o38_0 P) (.node (o70_1 P) (.node (o134_2 P) (.node (o262_4 P) .nil .nil) (.node (o390_6 P) .nil .nil)) (.node (o198_3 P) (.node (o326_5 P) .nil .nil) .nil)) (.node (o102_1 P) (.node (o166_2 P) (.node (o294_5 P) .nil .nil) (.node (o422_6 P) .nil .nil)) (.node (o230_4 P) (.node (o358_5 P) .nil .nil) .nil))) (.node (o54_0 P) (.node (o86_1 P) (.node (o150_2 P) (.node (o278_4 P) .nil .nil) (.node (o406_6 P) .nil .nil)) (.node (o214_4 P) (.node (o342_5 P) .nil .nil) .nil)) (.node (o118_1 P) (.node (o182_3 P) (.node (o310_5 P) .nil .nil) (.node (o438_6 P) .nil .nil)) (.node (o246_4 P) (.node (o374_5 P) .nil .nil) .nil)))) (.node (o30_0 P) (.node (o46_0 P) (.node (o78_1 P) (.node (o142_2 P) (.node (o270_4 P) .nil .nil) (.node (o398_6 P) .nil .nil)) (.node (o206_3 P) (.node (o334_5 P) .nil .nil) .nil)) (.node (o110_1 P) (.node (o174_3 P) (.node (o302_5 P) .nil .nil) (.node (o430_6 P) .nil .nil)) (.node (o238_4 P) (.node (o366_5 P) .nil .nil) .nil))) (.node (o62_1 P) (.node (o94_1 P) (.node (o158_2 P) (.node (o286_4 P) .nil .nil) (.node (o414_6 P) .nil .nil)) (.node (o222_4 P) (.node (o350_5 P) .nil .nil) .nil)) (.node (o126_1 P) (.node (o190_3 P) (.node (o318_5 P) .nil .nil) (.node (o446_6 P) .nil .nil)) (.node (o254_4 P) (.node (o382_6 P) .nil .nil) .nil))))))))
noncomputable def S6 (w : World) (os : OsState) : SharedT := ⟨T6 w.params, 449, (PySem.Life.mk [] [] [] 0 [] [] false #[] [] 0 false false false 0 [2000, 10, 10] false 0 true [] [] 0 false), ⟨[]⟩, (PySem.Drawn.mk 0 0 0 0), 724, os⟩
noncomputable def T7 (P : Params) : BT := (.node (boot_o_0 P) (.node (boot_o_1 P) (.node (o3_7 P) (.node (boot_o_7 P) (.node (o15_0 P) (.node (o31_1 P) (.node (o63_1 P) (.node (o127_1 P) (.node (o255_4 P) (.node (o511_7 P) .nil .nil) .nil) (.node (o383_6 P) .nil .nil)) (.node (o191_3 P) (.node (o319_5 P) .nil .nil) (.node (o447_6 P) .nil .nil))) (.node (o95_1 P) (.node (o159_2 P) (.node (o287_4 P) (.node (o543_7 P) .nil .nil) .nil) (.node (o415_6 P) .nil .nil)) (.node (o223_4 P) (.node (o351_5 P) .nil .nil) (.node (o479_7 P) .nil .nil)))) (.node (o47_0 P) (.node (o79_1 P) (.node (o143_2 P) (.node (o271_4 P) (.node (o527_7 P) .nil .nil) .nil) (.node (o399_6 P) .nil .nil)) (.node (o207_7 P) (.node (o335_5 P) .nil .nil) (.node (o463_7 P) .nil .nil))) (.node (o111_1 P) (.node (o175_3 P) (.node (o303_5 P) (.node (o559_7 P) .nil .nil) .nil) (.node (o431_6 P) .nil .nil)) (.node (o239_4 P) (.node (o367_5 P) .nil .nil) (.node (o495_7 P) .nil .nil))))) (.node (o23_0 P) (.node (o39_0 P) (.node (o71_1 P) (.node (o135_2 P) (.node (o263_4 P) (.node (o519_7 P) .nil .nil) .nil) (.node (o391_6 P) .nil .nil)) (.node (o199_3 P) (.node (o327_5 P) .nil .nil) (.node (o455_7 P) .nil .nil))) (.node (o103_1 P) (.node (o167_5 P) (.node (o295_5 P) (.node (o551_7 P) .nil .nil) .nil) (.node (o423_6 P) .nil .nil)) (.node (o231_4 P) (.node (o359_5 P) .nil .nil) (.node (o487_7 P) .nil .nil)))) (.node (o55_0 P) (.node (o87_1 P) (.node (o151_2 P) (.node (o279_4 P) (.node (o535_7 P) .nil .nil) .nil) (.node (o407_6 P) .nil .nil)) (.node (o215_4 P) (.node (o343_5 P) .nil .nil) (.node (o471_7 P) .nil .nil))) (.node (o119_1 P) (.node (o183_3 P) (.node (o311_5 P) (.node (o567_7 P) .nil .nil) .nil) (.node (o439_6 P) .nil .nil)) (.node (o247_4 P) (.node (o375_5 P) .nil .nil) (.node (o503_7 P) .nil .nil)))))) (.node (o11a P) (.node (o19_0 P) (.node (o35_0 P) (.node (o67_1 P) (.node (o131_2 P) (.node (o259_4 P) (.node (o515_7 P) .nil .nil) .nil) (.node (o387_6 P) .nil .nil)) (.node (o195_3 P) (.node (o323_5 P) .nil .nil) (.node (o451_7 P) .nil .nil))) (.node (o99_1 P) (.node (o163_2 P) (.node (o291_4 P) (.node (o547_7 P) .nil .nil) .nil) (.node (o419_6 P) .nil .nil)) (.node (o227_4 P) (.node (o355_5 P) .nil .nil) (.node (o483_7 P) .nil .nil)))) (.node (o51_0 P) (.node (o83_1 P) (.node (o147_2 P) (.node (o275_4 P) (.node (o531_7 P) .nil .nil) .nil) (.node (o403_6 P) .nil .nil)) (.node (o211_4 P) (.node (o339_5 P) .nil .nil) (.node (o467_7 P) .nil .nil))) (.node (o115_1 P) (.node (o179_3 P) (.node (o307_5 P) (.node (o563_7 P) .nil .nil) .nil) (.node (o435_6 P) .nil .nil)) (.node (o243_4 P) (.node (o371_5 P) .nil .nil) (.node (o499_7 P) .nil .nil))))) (.node (o27_0 P) (.node (o43_0 P) (.node (o75_1 P) (.node (o139_3 P) (.node (o267_4 P) (.node (o523_7 P) .nil .nil) .nil) (.node (o395_6 P) .nil .nil)) (.node (o203_3 P) (.node (o331_5 P) .nil .nil) (.node (o459_7 P) .nil .nil))) (.node (o107_1 P) (.node (o171_3 P) (.node (o299_5 P) (.node (o555_7 P) .nil .nil) .nil) (.node (o427_6 P) .nil .nil)) (.node (o235_4 P) (.node (o363_5 P) .nil .nil) (.node (o491_7 P) .nil .nil)))) (.node (o59_1 P) (.node (o91_1 P) (.node (o155_2 P) (.node (o283_4 P) (.node (o539_7 P) .nil .nil) .nil) (.node (o411_6 P) .nil .nil)) (.node (o219_4 P) (.node (o347_5 P) .nil .nil) (.node (o475_7 P) .nil .nil))) (.node (o123_1 P) (.node (o187_3 P) (.node (o315_5 P) (.node (o571_7 P) .nil .nil) .nil) (.node (o443_6 P) .nil .nil)) (.node (o251_4 P) (.node (o379_5 P) .nil .nil) (.node (o507_7 P) .nil .nil))))))) (.node (boot_o_5 P) (.node (boot_o_9 P) (.node (o17_0 P) (.node (o33_0 P) (.node (o65_1 P) (.node (o129_1 P) (.node (o257_4 P) (.node (o513_7 P) .nil .nil) .nil) (.node (o385_6 P) .nil .nil)) (.node (o193_3 P) (.node (o321_5 P) .nil .nil) (.node (o449_7 P) .nil .nil))) (.node (o97_1 P) (.node (o161_2 P) (.node (o289_4 P) (.node (o545_7 P) .nil .nil) .nil) (.node (o417_6 P) .nil .nil)) (.node (o225_4 P) (.node (o353_5 P) .nil .nil) (.node (o481_7 P) .nil .nil)))) (.node (o49_0 P) (.node (o81_1 P) (.node (o145_2 P) (.node (o273_4 P) (.node (o529_7 P) .nil .nil) .nil) (.node (o401_6 P) .nil .nil)) (.node (o209_3 P) (.node (o337_5 P) .nil .nil) (.node (o465_7 P) .nil .nil))) (.node (o113_1 P) (.node (o177_3 P) (.node (o305_5 P) (.node (o561_7 P) .nil .nil) .nil) (.node (o433_6 P) .nil .nil)) (.node (o241_4 P) (.node (o369_5 P) .nil .nil) (.node (o497_7 P) .nil .nil))))) (.node (o25_0 P) (.node (o41_0 P) (.node (o73_1 P) (.node (o137_2 P) (.node (o265_4 P) (.node (o521_7 P) .nil .nil) .nil) (.node (o393_6 P) .nil .nil)) (.node (o201_3 P) (.node (o329_5 P) .nil .nil) (.node (o457_7 P) .nil .nil))) (.node (o105_1 P) (.node (o169_2 P) (.node (o297_5 P) (.node (o553_7 P) .nil .nil) .nil) (.node (o425_6 P) .nil .nil)) (.node (o233_4 P) (.node (o361_5 P) .nil .nil) (.node (o489_7 P) .nil .nil)))) (.node (o57_0 P) (.node (o89_1 P) (.node (o153_2 P) (.node (o281_4 P) (.node (o537_7 P) .nil .nil) .nil) (.node (o409_6 P) .nil .nil)) (.node (o217_4 P) (.node (o345_5 P) .nil .nil) (.node (o473_7 P) .nil .nil))) (.node (o121_1 P) (.node (o185_3 P) (.node (o313_5 P) (.node (o569_7 P) .nil .nil) .nil) (.node (o441_6 P) .nil .nil)) (.node (o249_4 P) (.node (o377_5 P) .nil .nil) (.node (o505_7 P) .nil .nil)))))) (.node (o13a P) (.node (o21_0 P) (.node (o37_0 P) (.node (o69_1 P) (.node (o133_2 P) (.node (o261_4 P) (.node (o517_7 P) .nil .nil) .nil) (.node (o389_6 P) .nil .nil)) (.node (o197_3 P) (.node (o325_5 P) .nil .nil) (.node (o453_7 P) .nil .nil))) (.node (o101_1 P) (.node (o165_2 P) (.node (o293_5 P) (.node (o549_7 P) .nil .nil) .nil) (.node (o421_6 P) .nil .nil)) (.node (o229_4 P) (.node (o357_5 P) .nil .nil) (.node (o485_7 P) .nil .nil)))) (.node (o53_0 P) (.node (o85_1 P) (.node (o149_2 P) (.node (o277_4 P) (.node (o533_7 P) .nil .nil) .nil) (.node (o405_6 P) .nil .nil)) (.node (o213_4 P) (.node (o341_5 P) .nil .nil) (.node (o469_7 P) .nil .nil))) (.node (o117_1 P) (.node (o181_3 P) (.node (o309_5 P) (.node (o565_7 P) .nil .nil) .nil) (.node (o437_6 P) .nil .nil)) (.node (o245_4 P) (.node (o373_5 P) .nil .nil) (.node (o501_7 P) .nil .nil))))) (.node (o29_0 P) (.node (o45_0 P) (.node (o77_1 P) (.node (o141_2 P) (.node (o269_4 P) (.node (o525_7 P) .nil .nil) .nil) (.node (o397_6 P) .nil .nil)) (.node (o205_3 P) (.node (o333_5 P) .nil .nil) (.node (o461_7 P) .nil .nil))) (.node (o109_1 P) (.node (o173_3 P) (.node (o301_5 P) (.node (o557_7 P) .nil .nil) .nil) (.node (o429_6 P) .nil .nil)) (.node (o237_4 P) (.node (o365_5 P) .nil .nil) (.node (o493_7 P) .nil .nil)))) (.node (o61_1 P) (.node (o93_1 P) (.node (o157_2 P) (.node (o285_4 P) (.node (o541_7 P) .nil .nil) .nil) (.node (o413_6 P) .nil .nil)) (.node (o221_4 P) (.node (o349_5 P) .nil .nil) (.node (o477_7 P) .nil .nil))) (.node (o125_1 P) (.node (o189_3 P) (.node (o317_5 P) .nil .nil) (.node (o445_6 P) .nil .nil)) (.node (o253_4 P) (.node (o381_6 P) .nil .nil) (.node (o509_7 P) .nil .nil)))))))) (.node (boot_o_2 P) (.node (boot_o_4 P) (.node (boot_o_8 P) (.node (o16_0 P) (.node (o32_0 P) (.node (o64_1 P) (.node (o128_1 P) (.node (o256_4 P) (.node (o512_7 P) .nil .nil) .nil) (.node (o384_6 P) .nil .nil)) (.node (o192_3 P) (.node (o320_5 P) .nil .nil) (.node (o448_6 P) .nil .nil))) (.node (o96_1 P) (.node (o160_2 P) (.node (o288_4 P) (.node (o544_7 P) .nil .nil) .nil) (.node (o416_6 P) .nil .nil)) (.node (o224_4 P) (.node (o352_5 P) .nil .nil) (.node (o480_7 P) .nil .nil)))) (.node (o48_0 P) (.node (o80_1 P) (.node (o144_2 P) (.node (o272_4 P) (.node (o528_7 P) .nil .nil) .nil) (.node (o400_6 P) .nil .nil)) (.node (o208_3 P) (.node (o336_5 P) .nil .nil) (.node (o464_7 P) .nil .nil))) (.node (o112_1 P) (.node (o176_3 P) (.node (o304_5 P) (.node (o560_7 P) .nil .nil) .nil) (.node (o432_6 P) .nil .nil)) (.node (o240_4 P) (.node (o368_5 P) .nil .nil) (.node (o496_7 P) .nil .nil))))) (.node (o24_0 P) (.node (o40_0 P) (.node (o72_1 P) (.node (o136_2 P) (.node (o264_4 P) (.node (o520_7 P) .nil .nil) .nil) (.node (o392_6 P) .nil .nil)) (.node (o200_3 P) (.node (o328_5 P) .nil .nil) (.node (o456_7 P) .nil .nil))) (.node (o104_1 P) (.node (o168_2 P) (.node (o296_5 P) (.node (o552_7 P) .nil .nil) .nil) (.node (o424_6 P) .nil .nil)) (.node (o232_4 P) (.node (o360_5 P) .nil .nil) (.node (o488_7 P) .nil .nil)))) (.node (o56_0 P) (.node (o88_1 P) (.node (o152_2 P) (.node (o280_4 P) (.node (o536_7 P) .nil .nil) .nil) (.node (o408_6 P) .nil .nil)) (.node (o216_4 P) (.node (o344_5 P) .nil .nil) (.node (o472_7 P) .nil .nil))) (.node (o120_1 P) (.node (o184_3 P) (.node (o312_5 P) (.node (o568_7 P) .nil .nil) .nil) (.node (o440_6 P) .nil .nil)) (.node (o248_4 P) (.node (o376_5 P) .nil .nil) (.node (o504_7 P) .nil .nil)))))) (.node (o12_7 P) (.node (o20_0 P) (.node (o36_0 P) (.node (o68_1 P) (.node (o132_2 P) (.node (o260_4 P) (.node (o516_7 P) .nil .nil) .nil) (.node (o388_6 P) .nil .nil)) (.node (o196_3 P) (.node (o324_5 P) .nil .nil) (.node (o452_7 P) .nil .nil))) (.node (o100_1 P) (.node (o164_2 P) (.node (o292_5 P) (.node (o548_7 P) .nil .nil) .nil) (.node (o420_6 P) .nil .nil)) (.node (o228_4 P) (.node (o356_5 P) .nil .nil) (.node (o484_7 P) .nil .nil)))) (.node (o52_0 P) (.node (o84_1 P) (.node (o148_2 P) (.node (o276_4 P) (.node (o532_7 P) .nil .nil) .nil) (.node (o404_6 P) .nil .nil)) (.node (o212_4 P) (.node (o340_5 P) .nil .nil) (.node (o468_7 P) .nil .nil))) (.node (o116_1 P) (.node (o180_3 P) (.node (o308_5 P) (.node (o564_7 P) .nil .nil) .nil) (.node (o436_6 P) .nil .nil)) (.node (o244_4 P) (.node (o372_5 P) .nil .nil) (.node (o500_7 P) .nil .nil))))) (.node (o28_0 P) (.node (o44_0 P) (.node (o76_1 P) (.node (o140_2 P) (.node (o268_4 P) (.node (o524_7 P) .nil .nil) .nil) (.node (o396_6 P) .nil .nil)) (.node (o204_3 P) (.node (o332_5 P) .nil .nil) (.node (o460_7 P) .nil .nil))) (.node (o108_1 P) (.node (o172_3 P) (.node (o300_5 P) (.node (o556_7 P) .nil .nil) .nil) (.node (o428_6 P) .nil .nil)) (.node (o236_4 P) (.node (o364_5 P) .nil .nil) (.node (o492_7 P) .nil .nil)))) (.node (o60_1 P) (.node (o92_1 P) (.node (o156_2 P) (.node (o284_4 P) (.node (o540_7 P) .nil .nil) .nil) (.node (o412_6 P) .nil .nil)) (.node (o220_4 P) (.node (o348_5 P) .nil .nil) (.node (o476_7 P) .nil .nil))) (.node (o124_1 P) (.node (o188_3 P) (.node (o316_5 P) (.node (o572_7 P) .nil .nil) .nil) (.node (o444_6 P) .nil .nil)) (.node (o252_4 P) (.node (o380_5 P) .nil .nil) (.node (o508_7 P) .nil .nil))))))) (.node (boot_o_6 P) (.node (boot_o_10 P) (.node (o18_0 P) (.node (o34_0 P) (.node (o66_1 P) (.node (o130_2 P) (.node (o258_4 P) (.node (o514_7 P) .nil .nil) .nil) (.node (o386_6 P) .nil .nil)) (.node (o194_3 P) (.node (o322_5 P) .nil .nil) (.node (o450_7 P) .nil .nil))) (.node (o98_1 P) (.node (o162_2 P) (.node (o290_4 P) (.node (o546_7 P) .nil .nil) .nil) (.node (o418_6 P) .nil .nil)) (.node (o226_4 P) (.node (o354_5 P) .nil .nil) (.node (o482_7 P) .nil .nil)))) (.node (o50_0 P) (.node (o82_1 P) (.node (o146_2 P) (.node (o274_4 P) (.node (o530_7 P) .nil .nil) .nil) (.node (o402_6 P) .nil .nil)) (.node (o210_4 P) (.node (o338_5 P) .nil .nil) (.node (o466_7 P) .nil .nil))) (.node (o114_1 P) (.node (o178_3 P) (.node (o306_5 P) (.node (o562_7 P) .nil .nil) .nil) (.node (o434_6 P) .nil .nil)) (.node (o242_4 P) (.node (o370_5 P) .nil .nil) (.node (o498_7 P) .nil .nil))))) (.node (o26_0 P) (.node (o42_0 P) (.node (o74_1 P) (.node (o138_2 P) (.node (o266_4 P) (.node (o522_7 P) .nil .nil) .nil) (.node (o394_6 P) .nil .nil)) (.node (o202_3 P) (.node (o330_5 P) .nil .nil) (.node (o458_7 P) .nil .nil))) (.node (o106_1 P) (.node (o170_3 P) (.node (o298_5 P) (.node (o554_7 P) .nil .nil) .nil) (.node (o426_6 P) .nil .nil)) (.node (o234_4 P) (.node (o362_5 P) .nil .nil) (.node (o490_7 P) .nil .nil)))) (.node (o58_0 P) (.node (o90_1 P) (.node (o154_2 P) (.node (o282_4 P) (.node (o538_7 P) .nil .nil) .nil) (.node (o410_6 P) .nil .nil)) (.node (o218_4 P) (.node (o346_5 P) .nil .nil) (.node (o474_7 P) .nil .nil))) (.node (o122_1 P) (.node (o186_3 P) (.node (o314_5 P) (.node (o570_7 P) .nil .nil) .nil) (.node (o442_6 P) .nil .nil)) (.node (o250_4 P) (.node (o378_5 P) .nil .nil) (.node (o506_7 P) .nil .nil)))))) (.node (o14a P) (.node (o22_0 P) (.node (o38_0 P) (.node (o70_1 P) (.node (o134_2 P) (.node (o262_4 P) (.node (o518_7 P) .nil .nil) .nil) (.node (o390_6 P) .nil .nil)) (.node (o198_3 P) (.node (o326_5 P) .nil .nil) (.node (o454_7 P) .nil .nil))) (.node (o102_1 P) (.node (o166_2 P) (.node (o294_5 P) (.node (o550_7 P) .nil .nil) .nil) (.node (o422_6 P) .nil .nil)) (.node (o230_4 P) (.node (o358_5 P) .nil .nil) (.node (o486_7 P) .nil .nil)))) (.node (o54_0 P) (.node (o86_1 P) (.node (o150_2 P) (.node (o278_4 P) (.node (o534_7 P) .nil .nil) .nil) (.node (o406_6 P) .nil .nil)) (.node (o214_4 P) (.node (o342_5 P) .nil .nil) (.node (o470_7 P) .nil .nil))) (.node (o118_1 P) (.node (o182_3 P) (.node (o310_5 P) (.node (o566_7 P) .nil .nil) .nil) (.node (o438_6 P) .nil .nil)) (.node (o246_4 P) (.node (o374_5 P) .nil .nil) (.node (o502_7 P) .nil .nil))))) (.node (o30_0 P) (.node (o46_0 P) (.node (o78_1 P) (.node (o142_2 P) (.node (o270_4 P) (.node (o526_7 P) .nil .nil) .nil) (.node (o398_6 P) .nil .nil)) (.node (o206_3 P) (.node (o334_5 P) .nil .nil) (.node (o462_7 P) .nil .nil))) (.node (o110_1 P) (.node (o174_3 P) (.node (o302_5 P) (.node (o558_7 P) .nil .nil) .nil) (.node (o430_6 P) .nil .nil)) (.node (o238_4 P) (.node (o366_5 P) .nil .nil) (.node (o494_7 P) .nil .nil)))) (.node (o62_1 P) (.node (o94_1 P) (.node (o158_2 P) (.node (o286_4 P) (.node (o542_7 P) .nil .nil) .nil) (.node (o414_6 P) .nil .nil)) (.node (o222_4 P) (.node (o350_5 P) .nil .nil) (.node (o478_7 P) .nil .nil))) (.node (o126_1 P) (.node (o190_3 P) (.node (o318_5 P) .nil .nil) (.node (o446_6 P) .nil .nil)) (.node (o254_4 P) (.node (o382_6 P) .nil .nil) (.node (o510_7 P) .nil .nil)))))))))
noncomputable def S7 (w : World) (os : OsState) : SharedT := ⟨T7 w.params, 573, (PySem.Life.mk [] [] [] 0 [] [] false #[] [] 0 false false false 0 [2000, 10, 10] false 0 true [] [] 0 false), ⟨[]⟩, (PySem.Drawn.mk 0 0 0 0), 880, os⟩
noncomputable def Hf (P : Params) : Heap := ⟨⟨[boot_o_0 P, boot_o_1 P, boot_o_2 P, o3_7 P, boot_o_4 P, boot_o_5 P, boot_o_6 P, boot_o_7 P, boot_o_8 P, boot_o_9 P, boot_o_10 P, o11a P, o12_7 P, o13a P, o14a P, o15_0 P, o16_0 P, o17_0 P, o18_0 P, o19_0 P, o20_0 P, o21_0 P, o22_0 P, o23_0 P, o24_0 P, o25_0 P, o26_0 P, o27_0 P, o28_0 P, o29_0 P, o30_0 P, o31_1 P, o32_0 P, o33_0 P, o34_0 P, o35_0 P, o36_0 P, o37_0 P, o38_0 P, o39_0 P, o40_0 P, o41_0 P, o42_0 P, o43_0 P, o44_0 P, o45_0 P, o46_0 P, o47_0 P, o48_0 P, o49_0 P, o50_0 P, o51_0 P, o52_0 P, o53_0 P, o54_0 P, o55_0 P, o56_0 P, o57_0 P, o58_0 P, o59_1 P, o60_1 P, o61_1 P, o62_1 P, o63_1 P, o64_1 P, o65_1 P, o66_1 P, o67_1 P, o68_1 P, o69_1 P, o70_1 P, o71_1 P, o72_1 P, o73_1 P, o74_1 P, o75_1 P, o76_1 P, o77_1 P, o78_1 P, o79_1 P, o80_1 P, o81_1 P, o82_1 P, o83_1 P, o84_1 P, o85_1 P, o86_1 P, o87_1 P, o88_1 P, o89_1 P, o90_1 P, o91_1 P, o92_1 P, o93_1 P, o94_1 P, o95_1 P, o96_1 P, o97_1 P, o98_1 P, o99_1 P, o100_1 P, o101_1 P, o102_1 P, o103_1 P, o104_1 P, o105_1 P, o106_1 P, o107_1 P, o108_1 P, o109_1 P, o110_1 P, o111_1 P, o112_1 P, o113_1 P, o114_1 P, o115_1 P, o116_1 P, o117_1 P, o118_1 P, o119_1 P, o120_1 P, o121_1 P, o122_1 P, o123_1 P, o124_1 P, o125_1 P, o126_1 P, o127_1 P, o128_1 P, o129_1 P, o130_2 P, o131_2 P, o132_2 P, o133_2 P, o134_2 P, o135_2 P, o136_2 P, o137_2 P, o138_2 P, o139_3 P, o140_2 P, o141_2 P, o142_2 P, o143_2 P, o144_2 P, o145_2 P, o146_2 P, o147_2 P, o148_2 P, o149_2 P, o150_2 P, o151_2 P, o152_2 P, o153_2 P, o154_2 P, o155_2 P, o156_2 P, o157_2 P, o158_2 P, o159_2 P, o160_2 P, o161_2 P, o162_2 P, o163_2 P, o164_2 P, o165_2 P, o166_2 P, o167_5 P, o168_2 P, o169_2 P, o170_3 P, o171_3 P, o172_3 P, o173_3 P, o174_3 P, o175_3 P, o176_3 P, o177_3 P, o178_3 P, o179_3 P, o180_3 P, o181_3 P, o182_3 P, o183_3 P, o184_3 P, o185_3 P, o186_3 P, o187_3 P, o188_3 P, o189_3 P, o190_3 P, o191_3 P, o192_3 P, o193_3 P, o194_3 P, o195_3 P, o196_3 P, o197_3 P, o198_3 P, o199_3 P, o200_3 P, o201_3 P, o202_3 P, o203_3 P, o204_3 P, o205_3 P, o206_3 P, o207_7 P, o208_3 P, o209_3 P, o210_4 P, o211_4 P, o212_4 P, o213_4 P, o214_4 P, o215_4 P, o216_4 P, o217_4 P, o218_4 P, o219_4 P, o220_4 P, o221_4 P, o222_4 P, o223_4 P, o224_4 P, o225_4 P, o226_4 P, o227_4 P, o228_4 P, o229_4 P, o230_4 P, o231_4 P, o232_4 P, o233_4 P, o234_4 P, o235_4 P, o236_4 P, o237_4 P, o238_4 P, o239_4 P, o240_4 P, o241_4 P, o242_4 P, o243_4 P, o244_4 P, o245_4 P, o246_4 P, o247_4 P, o248_4 P, o249_4 P, o250_4 P, o251_4 P, o252_4 P, o253_4 P, o254_4 P, o255_4 P, o256_4 P, o257_4 P, o258_4 P, o259_4 P, o260_4 P, o261_4 P, o262_4 P, o263_4 P, o264_4 P, o265_4 P, o266_4 P, o267_4 P, o268_4 P, o269_4 P, o270_4 P, o271_4 P, o272_4 P, o273_4 P, o274_4 P, o275_4 P, o276_4 P, o277_4 P, o278_4 P, o279_4 P, o280_4 P, o281_4 P, o282_4 P, o283_4 P, o284_4 P, o285_4 P, o286_4 P, o287_4 P, o288_4 P, o289_4 P, o290_4 P, o291_4 P, o292_5 P, o293_5 P, o294_5 P, o295_5 P, o296_5 P, o297_5 P, o298_5 P, o299_5 P, o300_5 P, o301_5 P, o302_5 P, o303_5 P, o304_5 P, o305_5 P, o306_5 P, o307_5 P, o308_5 P, o309_5 P, o310_5 P, o311_5 P, o312_5 P, o313_5 P, o314_5 P, o315_5 P, o316_5 P, o317_5 P, o318_5 P, o319_5 P, o320_5 P, o321_5 P, o322_5 P, o323_5 P, o324_5 P, o325_5 P, o326_5 P, o327_5 P, o328_5 P, o329_5 P, o330_5 P, o331_5 P, o332_5 P, o333_5 P, o334_5 P, o335_5 P, o336_5 P, o337_5 P, o338_5 P, o339_5 P, o340_5 P, o341_5 P, o342_5 P, o343_5 P, o344_5 P, o345_5 P, o346_5 P, o347_5 P, o348_5 P, o349_5 P, o350_5 P, o351_5 P, o352_5 P, o353_5 P, o354_5 P, o355_5 P, o356_5 P, o357_5 P, o358_5 P, o359_5 P, o360_5 P, o361_5 P, o362_5 P, o363_5 P, o364_5 P, o365_5 P, o366_5 P, o367_5 P, o368_5 P, o369_5 P, o370_5 P, o371_5 P, o372_5 P, o373_5 P, o374_5 P, o375_5 P, o376_5 P, o377_5 P, o378_5 P, o379_5 P, o380_5 P, o381_6 P, o382_6 P, o383_6 P, o384_6 P, o385_6 P, o386_6 P, o387_6 P, o388_6 P, o389_6 P, o390_6 P, o391_6 P, o392_6 P, o393_6 P, o394_6 P, o395_6 P, o396_6 P, o397_6 P, o398_6 P, o399_6 P, o400_6 P, o401_6 P, o402_6 P, o403_6 P, o404_6 P, o405_6 P, o406_6 P, o407_6 P, o408_6 P, o409_6 P, o410_6 P, o411_6 P, o412_6 P, o413_6 P, o414_6 P, o415_6 P, o416_6 P, o417_6 P, o418_6 P, o419_6 P, o420_6 P, o421_6 P, o422_6 P, o423_6 P, o424_6 P, o425_6 P, o426_6 P, o427_6 P, o428_6 P, o429_6 P, o430_6 P, o431_6 P, o432_6 P, o433_6 P, o434_6 P, o435_6 P, o436_6 P, o437_6 P, o438_6 P, o439_6 P, o440_6 P, o441_6 P, o442_6 P, o443_6 P, o444_6 P, o445_6 P, o446_6 P, o447_6 P, o448_6 P, o449_7 P, o450_7 P, o451_7 P, o452_7 P, o453_7 P, o454_7 P, o455_7 P, o456_7 P, o457_7 P, o458_7 P, o459_7 P, o460_7 P, o461_7 P, o462_7 P, o463_7 P, o464_7 P, o465_7 P, o466_7 P, o467_7 P, o468_7 P, o469_7 P, o470_7 P, o471_7 P, o472_7 P, o473_7 P, o474_7 P, o475_7 P, o476_7 P, o477_7 P, o478_7 P, o479_7 P, o480_7 P, o481_7 P, o482_7 P, o483_7 P, o484_7 P, o485_7 P, o486_7 P, o487_7 P, o488_7 P, o489_7 P, o490_7 P, o491_7 P, o492_7 P, o493_7 P, o494_7 P, o495_7 P, o496_7 P, o497_7 P, o498_7 P, o499_7 P, o500_7 P, o501_7 P, o502_7 P, o503_7 P, o504_7 P, o505_7 P, o506_7 P, o507_7 P, o508_7 P, o509_7 P, o510_7 P, o511_7 P, o512_7 P, o513_7 P, o514_7 P, o515_7 P, o516_7 P, o517_7 P, o518_7 P, o519_7 P, o520_7 P, o521_7 P, o522_7 P, o523_7 P, o524_7 P, o525_7 P, o526_7 P, o527_7 P, o528_7 P, o529_7 P, o530_7 P, o531_7 P, o532_7 P, o533_7 P, o534_7 P, o535_7 P, o536_7 P, o537_7 P, o538_7 P, o539_7 P, o540_7 P, o541_7 P, o542_7 P, o543_7 P, o544_7 P, o545_7 P, o546_7 P, o547_7 P, o548_7 P, o549_7 P, o550_7 P, o551_7 P, o552_7 P, o553_7 P, o554_7 P, o555_7 P, o556_7 P, o557_7 P, o558_7 P, o559_7 P, o560_7 P, o561_7 P, o562_7 P, o563_7 P, o564_7 P, o565_7 P, o566_7 P, o567_7 P, o568_7 P, o569_7 P, o570_7 P, o571_7 P, o572_7 P]⟩, (PySem.Life.mk [] [] [] 0 [] [] false #[] [] 0 false false false 0 [2000, 10, 10] false 0 true [] [] 0 false)⟩
noncomputable def Sf (w : World) (os : OsState) : Shared := ⟨Hf w.params, ⟨[]⟩, (PySem.Drawn.mk 0 0 0 0), 880, os⟩
theorem pre_ (w : World) (os : OsState) : topGo treeTable PySem.W.Fast.tw1572466855055509570 w 11 ((some (.ref 6))) 12 ⟨boot_heap w.params, ⟨[]⟩, boot_drawn, boot_toks, os⟩ (topStub PySem.W.Fast.tw1572466855055509570) = some (Sa w os, ⟨denote treeTable cT, cT, ⟨0, 0, 0, 0⟩, [topFrame qP]⟩) := by (try rw [PySem.W.Fast.te15667345088766844465]); (try rw [PySem.W.Fast.te14082659384304107361]); (try rw [PySem.W.Fast.te14374325043358763698]); (try rw [PySem.W.Fast.te10110043849684766642]); (try rw [PySem.W.Fast.te14364793385576792824]); (try rw [PySem.W.Fast.te11892475500146522536]); (try rw [PySem.W.Fast.te4187177175401517315]); (try rw [PySem.W.Fast.te5923862056798008813]); (try rw [PySem.W.Fast.te8920871248978507458]); kernel_rfl
theorem block_ (w : World) (os : OsState) : segRun treeTable PySem.W.Fast.tw1572466855055509570 w 11 ((some (.ref 6))) 1 1 (Sa w os) (blockOf (behindTheImports PySem.W.Fast.tw1572466855055509570) envT cT ⟨0, 0, 0, 0⟩ [topFrame qP]) = some (.next, (Sb w os).abs, cT, ⟨0, 0, 0, 0⟩) := by (try rw [PySem.W.Fast.te15667345088766844465]); (try rw [PySem.W.Fast.te14082659384304107361]); (try rw [PySem.W.Fast.te14374325043358763698]); (try rw [PySem.W.Fast.te10110043849684766642]); (try rw [PySem.W.Fast.te14364793385576792824]); (try rw [PySem.W.Fast.te11892475500146522536]); (try rw [PySem.W.Fast.te4187177175401517315]); (try rw [PySem.W.Fast.te5923862056798008813]); (try rw [PySem.W.Fast.te8920871248978507458]); kernel_rfl
noncomputable def sts0 : List Stmt := [topT 0, topT 1, topT 2, topT 3, topT 4]
theorem pc0 (w : World) (os : OsState) : segRunT treeTable PySem.W.Fast.tw1572466855055509570 w 11 ((some (.ref 6))) 1 651 (Sb w os) (piecesOf sts0 envT cT ⟨0, 0, 0, 0⟩ [topFrame qP]) = some (.next, S0 w os, cT, ⟨9, 0, 10, 8⟩) := by (try rw [PySem.W.Fast.te15667345088766844465]); (try rw [PySem.W.Fast.te14082659384304107361]); (try rw [PySem.W.Fast.te14374325043358763698]); (try rw [PySem.W.Fast.te10110043849684766642]); (try rw [PySem.W.Fast.te14364793385576792824]); (try rw [PySem.W.Fast.te11892475500146522536]); (try rw [PySem.W.Fast.te4187177175401517315]); (try rw [PySem.W.Fast.te5923862056798008813]); (try rw [PySem.W.Fast.te8920871248978507458]); kernel_rfl
noncomputable def sts1 : List Stmt := [topT 5, topT 6, topT 7, topT 8, topT 9, topT 10, topT 11, topT 12, topT 13, topT 14, topT 15, topT 16, topT 17, topT 18]
theorem pc1 (w : World) (os : OsState) : segRunT treeTable PySem.W.Fast.tw1572466855055509570 w 11 ((some (.ref 6))) 1 679 (S0 w os) (piecesOf sts1 envT cT ⟨9, 0, 10, 8⟩ [topFrame qP]) = some (.next, S1 w os, cT, ⟨61, 0, 63, 43⟩) := by (try rw [PySem.W.Fast.te15667345088766844465]); (try rw [PySem.W.Fast.te14082659384304107361]); (try rw [PySem.W.Fast.te14374325043358763698]); (try rw [PySem.W.Fast.te10110043849684766642]); (try rw [PySem.W.Fast.te14364793385576792824]); (try rw [PySem.W.Fast.te11892475500146522536]); (try rw [PySem.W.Fast.te4187177175401517315]); (try rw [PySem.W.Fast.te5923862056798008813]); (try rw [PySem.W.Fast.te8920871248978507458]); kernel_rfl
noncomputable def sts2 : List Stmt := [topT 19, topT 20]
theorem pc2 (w : World) (os : OsState) : segRunT treeTable PySem.W.Fast.tw1572466855055509570 w 11 ((some (.ref 6))) 1 465 (S1 w os) (piecesOf sts2 envT cT ⟨61, 0, 63, 43⟩ [topFrame qP]) = some (.next, S2 w os, cT, ⟨66, 0, 72, 20⟩) := by (try rw [PySem.W.Fast.te15667345088766844465]); (try rw [PySem.W.Fast.te14082659384304107361]); (try rw [PySem.W.Fast.te14374325043358763698]); (try rw [PySem.W.Fast.te10110043849684766642]); (try rw [PySem.W.Fast.te14364793385576792824]); (try rw [PySem.W.Fast.te11892475500146522536]); (try rw [PySem.W.Fast.te4187177175401517315]); (try rw [PySem.W.Fast.te5923862056798008813]); (try rw [PySem.W.Fast.te8920871248978507458]); kernel_rfl
noncomputable def sts3 : List Stmt := [topT 21]
theorem pc3 (w : World) (os : OsState) : segRunT treeTable PySem.W.Fast.tw1572466855055509570 w 11 ((some (.ref 6))) 1 339 (S2 w os) (piecesOf sts3 envT cT ⟨66, 0, 72, 20⟩ [topFrame qP]) = some (.next, S3 w os, cT, ⟨73, 0, 85, 59⟩) := by (try rw [PySem.W.Fast.te15667345088766844465]); (try rw [PySem.W.Fast.te14082659384304107361]); (try rw [PySem.W.Fast.te14374325043358763698]); (try rw [PySem.W.Fast.te10110043849684766642]); (try rw [PySem.W.Fast.te14364793385576792824]); (try rw [PySem.W.Fast.te11892475500146522536]); (try rw [PySem.W.Fast.te4187177175401517315]); (try rw [PySem.W.Fast.te5923862056798008813]); (try rw [PySem.W.Fast.te8920871248978507458]); kernel_rfl
noncomputable def sts4 : List Stmt := [topT 22]
theorem pc4 (w : World) (os : OsState) : segRunT treeTable PySem.W.Fast.tw1572466855055509570 w 11 ((some (.ref 6))) 1 549 (S3 w os) (piecesOf sts4 envT cT ⟨73, 0, 85, 59⟩ [topFrame qP]) = some (.next, S4 w os, cT, ⟨86, 0, 128, 28⟩) := by (try rw [PySem.W.Fast.te15667345088766844465]); (try rw [PySem.W.Fast.te14082659384304107361]); (try rw [PySem.W.Fast.te14374325043358763698]); (try rw [PySem.W.Fast.te10110043849684766642]); (try rw [PySem.W.Fast.te14364793385576792824]); (try rw [PySem.W.Fast.te11892475500146522536]); (try rw [PySem.W.Fast.te4187177175401517315]); (try rw [PySem.W.Fast.te5923862056798008813]); (try rw [PySem.W.Fast.te8920871248978507458]); kernel_rfl
noncomputable def sts5 : List Stmt := [topT 23]
theorem pc5 (w : World) (os : OsState) : segRunT treeTable PySem.W.Fast.tw1572466855055509570 w 11 ((some (.ref 6))) 1 583 (S4 w os) (piecesOf sts5 envT cT ⟨86, 0, 128, 28⟩ [topFrame qP]) = some (.next, S5 w os, cT, ⟨129, 0, 177, 21⟩) := by (try rw [PySem.W.Fast.te15667345088766844465]); (try rw [PySem.W.Fast.te14082659384304107361]); (try rw [PySem.W.Fast.te14374325043358763698]); (try rw [PySem.W.Fast.te10110043849684766642]); (try rw [PySem.W.Fast.te14364793385576792824]); (try rw [PySem.W.Fast.te11892475500146522536]); (try rw [PySem.W.Fast.te4187177175401517315]); (try rw [PySem.W.Fast.te5923862056798008813]); (try rw [PySem.W.Fast.te8920871248978507458]); kernel_rfl
noncomputable def sts6 : List Stmt := [topT 24]
theorem pc6 (w : World) (os : OsState) : segRunT treeTable PySem.W.Fast.tw1572466855055509570 w 11 ((some (.ref 6))) 1 482 (S5 w os) (piecesOf sts6 envT cT ⟨129, 0, 177, 21⟩ [topFrame qP]) = some (.next, S6 w os, cT, ⟨178, 0, 211, 31⟩) := by (try rw [PySem.W.Fast.te15667345088766844465]); (try rw [PySem.W.Fast.te14082659384304107361]); (try rw [PySem.W.Fast.te14374325043358763698]); (try rw [PySem.W.Fast.te10110043849684766642]); (try rw [PySem.W.Fast.te14364793385576792824]); (try rw [PySem.W.Fast.te11892475500146522536]); (try rw [PySem.W.Fast.te4187177175401517315]); (try rw [PySem.W.Fast.te5923862056798008813]); (try rw [PySem.W.Fast.te8920871248978507458]); kernel_rfl
noncomputable def sts7 : List Stmt := [topT 25, topT 26, topT 27, topT 28, topT 29, topT 30, topT 31, topT 32, topT 33, topT 34]
theorem pc7 (w : World) (os : OsState) : segRunT treeTable PySem.W.Fast.tw1572466855055509570 w 11 ((some (.ref 6))) 1 742 (S6 w os) (piecesOf sts7 envT cT ⟨178, 0, 211, 31⟩ [topFrame qP]) = some (.next, S7 w os, cT, ⟨297, 0, 308, 119⟩) := by (try rw [PySem.W.Fast.te15667345088766844465]); (try rw [PySem.W.Fast.te14082659384304107361]); (try rw [PySem.W.Fast.te14374325043358763698]); (try rw [PySem.W.Fast.te10110043849684766642]); (try rw [PySem.W.Fast.te14364793385576792824]); (try rw [PySem.W.Fast.te11892475500146522536]); (try rw [PySem.W.Fast.te4187177175401517315]); (try rw [PySem.W.Fast.te5923862056798008813]); (try rw [PySem.W.Fast.te8920871248978507458]); kernel_rfl
theorem fin_ (w : World) (os : OsState) : topRun treeTable PySem.W.Fast.tw1572466855055509570 w 11 ((some (.ref 6))) 2 (S7 w os).abs ⟨doneF .next, cT, ⟨297, 0, 308, 119⟩, [topFrame qP]⟩ = some (Sf w os) := by (try rw [PySem.W.Fast.te15667345088766844465]); (try rw [PySem.W.Fast.te14082659384304107361]); (try rw [PySem.W.Fast.te14374325043358763698]); (try rw [PySem.W.Fast.te10110043849684766642]); (try rw [PySem.W.Fast.te14364793385576792824]); (try rw [PySem.W.Fast.te11892475500146522536]); (try rw [PySem.W.Fast.te4187177175401517315]); (try rw [PySem.W.Fast.te5923862056798008813]); (try rw [PySem.W.Fast.te8920871248978507458]); kernel_rfl
theorem body_eq : behindTheImports PySem.W.Fast.tw1572466855055509570 = (sts0 ++ (sts1 ++ (sts2 ++ (sts3 ++ (sts4 ++ (sts5 ++ (sts6 ++ (sts7 ++ [])))))))) := by kernel_rfl
theorem run_ (w : World) (os : OsState) : topRun treeTable PySem.W.Fast.tw1572466855055509570 w 11 ((some (.ref 6))) (12 + (1 + (651 + (679 + (465 + (339 + (549 + (583 + (482 + (742 + 2)))))))))) ⟨boot_heap w.params, ⟨[]⟩, boot_drawn, boot_toks, os⟩ (topStub PySem.W.Fast.tw1572466855055509570) = some (Sf w os) := by
  have h := (piece_app (segRun_of (pc0 w os)) (piece_app (segRun_of (pc1 w os)) (piece_app (segRun_of (pc2 w os)) (piece_app (segRun_of (pc3 w os)) (piece_app (segRun_of (pc4 w os)) (piece_app (segRun_of (pc5 w os)) (piece_app (segRun_of (pc6 w os)) (piece_app (segRun_of (pc7 w os)) (piece_nil (fin_ w os))))))))))
  rw [← body_eq] at h
  exact go_top (pre_ w os) (piece_block (block_ w os) h)
noncomputable def K (P : Params) : Frag := (nat_lit 2, boot_o_2 P) :: (nat_lit 3, o3_7 P) :: (nat_lit 15, o15_0 P) :: (nat_lit 17, o17_0 P) :: (nat_lit 18, o18_0 P) :: (nat_lit 20, o20_0 P) :: (nat_lit 21, o21_0 P) :: (nat_lit 22, o22_0 P) :: (nat_lit 29, o29_0 P) :: (nat_lit 30, o30_0 P) :: (nat_lit 31, o31_1 P) :: (nat_lit 32, o32_0 P) :: (nat_lit 35, o35_0 P) :: (nat_lit 42, o42_0 P) :: (nat_lit 43, o43_0 P) :: (nat_lit 44, o44_0 P) :: (nat_lit 47, o47_0 P) :: (nat_lit 54, o54_0 P) :: (nat_lit 55, o55_0 P) :: (nat_lit 56, o56_0 P) :: (nat_lit 59, o59_1 P) :: (nat_lit 66, o66_1 P) :: (nat_lit 67, o67_1 P) :: (nat_lit 68, o68_1 P) :: (nat_lit 71, o71_1 P) :: (nat_lit 78, o78_1 P) :: (nat_lit 79, o79_1 P) :: (nat_lit 80, o80_1 P) :: (nat_lit 83, o83_1 P) :: (nat_lit 85, o85_1 P) :: (nat_lit 86, o86_1 P) :: (nat_lit 88, o88_1 P) :: (nat_lit 89, o89_1 P) :: (nat_lit 90, o90_1 P) :: (nat_lit 92, o92_1 P) :: (nat_lit 93, o93_1 P) :: (nat_lit 95, o95_1 P) :: (nat_lit 96, o96_1 P) :: (nat_lit 97, o97_1 P) :: (nat_lit 99, o99_1 P) :: (nat_lit 100, o100_1 P) :: (nat_lit 102, o102_1 P) :: (nat_lit 103, o103_1 P) :: (nat_lit 104, o104_1 P) :: (nat_lit 106, o106_1 P) :: (nat_lit 107, o107_1 P) :: (nat_lit 109, o109_1 P) :: (nat_lit 110, o110_1 P) :: (nat_lit 111, o111_1 P) :: (nat_lit 114, o114_1 P) :: (nat_lit 115, o115_1 P) :: (nat_lit 116, o116_1 P) :: (nat_lit 118, o118_1 P) :: (nat_lit 119, o119_1 P) :: (nat_lit 121, o121_1 P) :: (nat_lit 122, o122_1 P) :: (nat_lit 123, o123_1 P) :: (nat_lit 125, o125_1 P) :: (nat_lit 126, o126_1 P) :: (nat_lit 128, o128_1 P) :: (nat_lit 129, o129_1 P) :: (nat_lit 137, o137_2 P) :: (nat_lit 138, o138_2 P) :: (nat_lit 139, o139_3 P) :: (nat_lit 140, o140_2 P) :: (nat_lit 141, o141_2 P) :: (nat_lit 144, o144_2 P) :: (nat_lit 151, o151_2 P) :: (nat_lit 153, o153_2 P) :: (nat_lit 154, o154_2 P) :: (nat_lit 156, o156_2 P) :: (nat_lit 157, o157_2 P) :: (nat_lit 158, o158_2 P) :: (nat_lit 160, o160_2 P) :: (nat_lit 161, o161_2 P) :: (nat_lit 163, o163_2 P) :: (nat_lit 164, o164_2 P) :: (nat_lit 165, o165_2 P) :: (nat_lit 166, o166_2 P) :: (nat_lit 167, o167_5 P) :: (nat_lit 170, o170_3 P) :: (nat_lit 177, o177_3 P) :: (nat_lit 179, o179_3 P) :: (nat_lit 180, o180_3 P) :: (nat_lit 182, o182_3 P) :: (nat_lit 183, o183_3 P) :: (nat_lit 184, o184_3 P) :: (nat_lit 186, o186_3 P) :: (nat_lit 187, o187_3 P) :: (nat_lit 189, o189_3 P) :: (nat_lit 190, o190_3 P) :: (nat_lit 191, o191_3 P) :: (nat_lit 193, o193_3 P) :: (nat_lit 194, o194_3 P) :: (nat_lit 196, o196_3 P) :: (nat_lit 197, o197_3 P) :: (nat_lit 198, o198_3 P) :: (nat_lit 200, o200_3 P) :: (nat_lit 201, o201_3 P) :: (nat_lit 203, o203_3 P) :: (nat_lit 204, o204_3 P) :: (nat_lit 205, o205_3 P) :: (nat_lit 206, o206_3 P) :: (nat_lit 207, o207_7 P) :: (nat_lit 210, o210_4 P) :: (nat_lit 217, o217_4 P) :: (nat_lit 219, o219_4 P) :: (nat_lit 220, o220_4 P) :: (nat_lit 222, o222_4 P) :: (nat_lit 223, o223_4 P) :: (nat_lit 224, o224_4 P) :: (nat_lit 226, o226_4 P) :: (nat_lit 227, o227_4 P) :: (nat_lit 229, o229_4 P) :: (nat_lit 230, o230_4 P) :: (nat_lit 231, o231_4 P) :: (nat_lit 233, o233_4 P) :: (nat_lit 234, o234_4 P) :: (nat_lit 236, o236_4 P) :: (nat_lit 237, o237_4 P) :: (nat_lit 238, o238_4 P) :: (nat_lit 240, o240_4 P) :: (nat_lit 241, o241_4 P) :: (nat_lit 243, o243_4 P) :: (nat_lit 244, o244_4 P) :: (nat_lit 245, o245_4 P) :: (nat_lit 247, o247_4 P) :: (nat_lit 248, o248_4 P) :: (nat_lit 250, o250_4 P) :: (nat_lit 251, o251_4 P) :: (nat_lit 252, o252_4 P) :: (nat_lit 254, o254_4 P) :: (nat_lit 255, o255_4 P) :: (nat_lit 257, o257_4 P) :: (nat_lit 258, o258_4 P) :: (nat_lit 259, o259_4 P) :: (nat_lit 261, o261_4 P) :: (nat_lit 262, o262_4 P) :: (nat_lit 264, o264_4 P) :: (nat_lit 265, o265_4 P) :: (nat_lit 266, o266_4 P) :: (nat_lit 268, o268_4 P) :: (nat_lit 269, o269_4 P) :: (nat_lit 271, o271_4 P) :: (nat_lit 272, o272_4 P) :: (nat_lit 273, o273_4 P) :: (nat_lit 275, o275_4 P) :: (nat_lit 276, o276_4 P) :: (nat_lit 278, o278_4 P) :: (nat_lit 279, o279_4 P) :: (nat_lit 280, o280_4 P) :: (nat_lit 282, o282_4 P) :: (nat_lit 283, o283_4 P) :: (nat_lit 285, o285_4 P) :: (nat_lit 286, o286_4 P) :: (nat_lit 287, o287_4 P) :: (nat_lit 288, o288_4 P) :: (nat_lit 289, o289_4 P) :: (nat_lit 292, o292_5 P) :: (nat_lit 299, o299_5 P) :: (nat_lit 301, o301_5 P) :: (nat_lit 302, o302_5 P) :: (nat_lit 304, o304_5 P) :: (nat_lit 305, o305_5 P) :: (nat_lit 306, o306_5 P) :: (nat_lit 308, o308_5 P) :: (nat_lit 309, o309_5 P) :: (nat_lit 311, o311_5 P) :: (nat_lit 312, o312_5 P) :: (nat_lit 313, o313_5 P) :: (nat_lit 315, o315_5 P) :: (nat_lit 316, o316_5 P) :: (nat_lit 318, o318_5 P) :: (nat_lit 319, o319_5 P) :: (nat_lit 320, o320_5 P) :: (nat_lit 322, o322_5 P) :: (nat_lit 323, o323_5 P) :: (nat_lit 325, o325_5 P) :: (nat_lit 326, o326_5 P) :: (nat_lit 327, o327_5 P) :: (nat_lit 329, o329_5 P) :: (nat_lit 330, o330_5 P) :: (nat_lit 332, o332_5 P) :: (nat_lit 333, o333_5 P) :: (nat_lit 334, o334_5 P) :: (nat_lit 336, o336_5 P) :: (nat_lit 337, o337_5 P) :: (nat_lit 339, o339_5 P) :: (nat_lit 340, o340_5 P) :: (nat_lit 341, o341_5 P) :: (nat_lit 343, o343_5 P) :: (nat_lit 344, o344_5 P) :: (nat_lit 346, o346_5 P) :: (nat_lit 347, o347_5 P) :: (nat_lit 348, o348_5 P) :: (nat_lit 350, o350_5 P) :: (nat_lit 351, o351_5 P) :: (nat_lit 353, o353_5 P) :: (nat_lit 354, o354_5 P) :: (nat_lit 355, o355_5 P) :: (nat_lit 357, o357_5 P) :: (nat_lit 358, o358_5 P) :: (nat_lit 360, o360_5 P) :: (nat_lit 361, o361_5 P) :: (nat_lit 362, o362_5 P) :: (nat_lit 364, o364_5 P) :: (nat_lit 365, o365_5 P) :: (nat_lit 367, o367_5 P) :: (nat_lit 368, o368_5 P) :: (nat_lit 369, o369_5 P) :: (nat_lit 371, o371_5 P) :: (nat_lit 372, o372_5 P) :: (nat_lit 374, o374_5 P) :: (nat_lit 375, o375_5 P) :: (nat_lit 376, o376_5 P) :: (nat_lit 377, o377_5 P) :: (nat_lit 378, o378_5 P) :: (nat_lit 381, o381_6 P) :: (nat_lit 388, o388_6 P) :: (nat_lit 390, o390_6 P) :: (nat_lit 391, o391_6 P) :: (nat_lit 393, o393_6 P) :: (nat_lit 394, o394_6 P) :: (nat_lit 395, o395_6 P) :: (nat_lit 397, o397_6 P) :: (nat_lit 398, o398_6 P) :: (nat_lit 400, o400_6 P) :: (nat_lit 401, o401_6 P) :: (nat_lit 402, o402_6 P) :: (nat_lit 404, o404_6 P) :: (nat_lit 405, o405_6 P) :: (nat_lit 407, o407_6 P) :: (nat_lit 408, o408_6 P) :: (nat_lit 409, o409_6 P) :: (nat_lit 411, o411_6 P) :: (nat_lit 412, o412_6 P) :: (nat_lit 414, o414_6 P) :: (nat_lit 415, o415_6 P) :: (nat_lit 416, o416_6 P) :: (nat_lit 418, o418_6 P) :: (nat_lit 419, o419_6 P) :: (nat_lit 421, o421_6 P) :: (nat_lit 422, o422_6 P) :: (nat_lit 423, o423_6 P) :: (nat_lit 425, o425_6 P) :: (nat_lit 426, o426_6 P) :: (nat_lit 428, o428_6 P) :: (nat_lit 429, o429_6 P) :: (nat_lit 430, o430_6 P) :: (nat_lit 432, o432_6 P) :: (nat_lit 433, o433_6 P) :: (nat_lit 435, o435_6 P) :: (nat_lit 436, o436_6 P) :: (nat_lit 437, o437_6 P) :: (nat_lit 439, o439_6 P) :: (nat_lit 440, o440_6 P) :: (nat_lit 442, o442_6 P) :: (nat_lit 443, o443_6 P) :: (nat_lit 444, o444_6 P) :: (nat_lit 445, o445_6 P) :: (nat_lit 446, o446_6 P) :: (nat_lit 449, o449_7 P) :: (nat_lit 456, o456_7 P) :: (nat_lit 458, o458_7 P) :: (nat_lit 459, o459_7 P) :: (nat_lit 461, o461_7 P) :: (nat_lit 462, o462_7 P) :: (nat_lit 463, o463_7 P) :: (nat_lit 465, o465_7 P) :: (nat_lit 466, o466_7 P) :: (nat_lit 468, o468_7 P) :: (nat_lit 469, o469_7 P) :: (nat_lit 470, o470_7 P) :: (nat_lit 472, o472_7 P) :: (nat_lit 473, o473_7 P) :: (nat_lit 475, o475_7 P) :: (nat_lit 476, o476_7 P) :: (nat_lit 477, o477_7 P) :: (nat_lit 479, o479_7 P) :: (nat_lit 480, o480_7 P) :: (nat_lit 482, o482_7 P) :: (nat_lit 483, o483_7 P) :: (nat_lit 484, o484_7 P) :: (nat_lit 486, o486_7 P) :: (nat_lit 487, o487_7 P) :: (nat_lit 489, o489_7 P) :: (nat_lit 490, o490_7 P) :: (nat_lit 491, o491_7 P) :: (nat_lit 493, o493_7 P) :: (nat_lit 494, o494_7 P) :: (nat_lit 496, o496_7 P) :: (nat_lit 497, o497_7 P) :: (nat_lit 498, o498_7 P) :: (nat_lit 500, o500_7 P) :: (nat_lit 501, o501_7 P) :: (nat_lit 503, o503_7 P) :: (nat_lit 504, o504_7 P) :: (nat_lit 505, o505_7 P) :: (nat_lit 507, o507_7 P) :: (nat_lit 508, o508_7 P) :: (nat_lit 510, o510_7 P) :: (nat_lit 511, o511_7 P) :: (nat_lit 512, o512_7 P) :: (nat_lit 513, o513_7 P) :: (nat_lit 514, o514_7 P) :: (nat_lit 517, o517_7 P) :: (nat_lit 519, o519_7 P) :: (nat_lit 520, o520_7 P) :: (nat_lit 522, o522_7 P) :: (nat_lit 523, o523_7 P) :: (nat_lit 524, o524_7 P) :: (nat_lit 526, o526_7 P) :: (nat_lit 527, o527_7 P) :: (nat_lit 529, o529_7 P) :: (nat_lit 530, o530_7 P) :: (nat_lit 531, o531_7 P) :: (nat_lit 533, o533_7 P) :: (nat_lit 534, o534_7 P) :: (nat_lit 536, o536_7 P) :: (nat_lit 537, o537_7 P) :: (nat_lit 538, o538_7 P) :: (nat_lit 540, o540_7 P) :: (nat_lit 541, o541_7 P) :: (nat_lit 543, o543_7 P) :: (nat_lit 544, o544_7 P) :: (nat_lit 545, o545_7 P) :: (nat_lit 547, o547_7 P) :: (nat_lit 548, o548_7 P) :: (nat_lit 550, o550_7 P) :: (nat_lit 551, o551_7 P) :: (nat_lit 552, o552_7 P) :: (nat_lit 554, o554_7 P) :: (nat_lit 555, o555_7 P) :: (nat_lit 557, o557_7 P) :: (nat_lit 558, o558_7 P) :: (nat_lit 559, o559_7 P) :: (nat_lit 561, o561_7 P) :: (nat_lit 562, o562_7 P) :: (nat_lit 564, o564_7 P) :: (nat_lit 565, o565_7 P) :: (nat_lit 566, o566_7 P) :: (nat_lit 568, o568_7 P) :: (nat_lit 569, o569_7 P) :: (nat_lit 571, o571_7 P) :: (nat_lit 572, o572_7 P) :: []
noncomputable def KA : List Addr := [2, 3, 15, 17, 18, 20, 21, 22, 29, 30, 31, 32, 35, 42, 43, 44, 47, 54, 55, 56, 59, 66, 67, 68, 71, 78, 79, 80, 83, 85, 86, 88, 89, 90, 92, 93, 95, 96, 97, 99, 100, 102, 103, 104, 106, 107, 109, 110, 111, 114, 115, 116, 118, 119, 121, 122, 123, 125, 126, 128, 129, 137, 138, 139, 140, 141, 144, 151, 153, 154, 156, 157, 158, 160, 161, 163, 164, 165, 166, 167, 170, 177, 179, 180, 182, 183, 184, 186, 187, 189, 190, 191, 193, 194, 196, 197, 198, 200, 201, 203, 204, 205, 206, 207, 210, 217, 219, 220, 222, 223, 224, 226, 227, 229, 230, 231, 233, 234, 236, 237, 238, 240, 241, 243, 244, 245, 247, 248, 250, 251, 252, 254, 255, 257, 258, 259, 261, 262, 264, 265, 266, 268, 269, 271, 272, 273, 275, 276, 278, 279, 280, 282, 283, 285, 286, 287, 288, 289, 292, 299, 301, 302, 304, 305, 306, 308, 309, 311, 312, 313, 315, 316, 318, 319, 320, 322, 323, 325, 326, 327, 329, 330, 332, 333, 334, 336, 337, 339, 340, 341, 343, 344, 346, 347, 348, 350, 351, 353, 354, 355, 357, 358, 360, 361, 362, 364, 365, 367, 368, 369, 371, 372, 374, 375, 376, 377, 378, 381, 388, 390, 391, 393, 394, 395, 397, 398, 400, 401, 402, 404, 405, 407, 408, 409, 411, 412, 414, 415, 416, 418, 419, 421, 422, 423, 425, 426, 428, 429, 430, 432, 433, 435, 436, 437, 439, 440, 442, 443, 444, 445, 446, 449, 456, 458, 459, 461, 462, 463, 465, 466, 468, 469, 470, 472, 473, 475, 476, 477, 479, 480, 482, 483, 484, 486, 487, 489, 490, 491, 493, 494, 496, 497, 498, 500, 501, 503, 504, 505, 507, 508, 510, 511, 512, 513, 514, 517, 519, 520, 522, 523, 524, 526, 527, 529, 530, 531, 533, 534, 536, 537, 538, 540, 541, 543, 544, 545, 547, 548, 550, 551, 552, 554, 555, 557, 558, 559, 561, 562, 564, 565, 566, 568, 569, 571, 572]
theorem KA_eq (P : Params) : KA = (K P).map (·.1) := by kernel_rfl
noncomputable def topO (i : Nat) : Stmt := PySem.Challenge.pw_weighwalk_k06_minus_and_inverses.main.body.getD i (.Pass ⟨0, 0, 0, 0⟩)
theorem top_eq : topT = topO := by unfold topT topO; rw [PySem.W.Fast.te1572466855055509570]
noncomputable def qT : Program := { PySem.W.Fast.tw1572466855055509570 with main := { PySem.W.Fast.tw1572466855055509570.main with body := [topT 0, topT 2, topT 3, topT 4, topT 5, topT 6, topT 8, topT 9, topT 10, topT 11, topT 13, topT 14, topT 15, topT 16, topT 17, topT 18, topT 19, topT 20, topT 21, topT 22, topT 23, topT 24, topT 25, topT 27, topT 28, topT 29, topT 30, topT 31, topT 32, topT 33, topT 34] } }
noncomputable def qO : Program := { PySem.Challenge.pw_weighwalk_k06_minus_and_inverses with main := { PySem.Challenge.pw_weighwalk_k06_minus_and_inverses.main with body := [topO 0, topO 2, topO 3, topO 4, topO 5, topO 6, topO 8, topO 9, topO 10, topO 11, topO 13, topO 14, topO 15, topO 16, topO 17, topO 18, topO 19, topO 20, topO 21, topO 22, topO 23, topO 24, topO 25, topO 27, topO 28, topO 29, topO 30, topO 31, topO 32, topO 33, topO 34] } }
theorem q_eq : qO = qT := by unfold qO qT; rw [top_eq, PySem.W.Fast.te1572466855055509570]
noncomputable def recs := RowW.records (OpenRow.toRowW (OpenLaw.row PySem.Challenge.rw_weighwalk_k06_minus_and_inverses))
noncomputable abbrev Xt (q : Program) (s : Shared) : Bool := xlAt q [] s && recOk recs s
noncomputable abbrev hook : Hook := kHook K KA KA_eq
theorem size_ (w : World) : ((boot_heap w.params).isNs mainGlobals && (⟨[]⟩ : Array GenState).size == 0, (boot_heap w.params).objs.size, (boot_heap w.params).nsMap mainGlobals "__annotations__") = (true, 11, (some (.ref 6))) := by (try rw [PySem.W.Fast.te15667345088766844465]); (try rw [PySem.W.Fast.te14082659384304107361]); (try rw [PySem.W.Fast.te14374325043358763698]); (try rw [PySem.W.Fast.te10110043849684766642]); (try rw [PySem.W.Fast.te14364793385576792824]); (try rw [PySem.W.Fast.te11892475500146522536]); (try rw [PySem.W.Fast.te4187177175401517315]); (try rw [PySem.W.Fast.te5923862056798008813]); (try rw [PySem.W.Fast.te8920871248978507458]); kernel_rfl
theorem open_ : ∀ w : World, (fencedOpening treeTable PySem.W.Fast.tw1572466855055509570 w 9090).map (fun s => (s.heap, s.gens, s.drawn, s.toks)) = some (boot_heap w.params, ⟨[]⟩, boot_drawn, boot_toks) := boot_open (by kernel_rfl) (by decide) (fun s => by (try rw [PySem.W.Fast.te15667345088766844465]); (try rw [PySem.W.Fast.te14082659384304107361]); (try rw [PySem.W.Fast.te14374325043358763698]); (try rw [PySem.W.Fast.te10110043849684766642]); (try rw [PySem.W.Fast.te14364793385576792824]); (try rw [PySem.W.Fast.te11892475500146522536]); (try rw [PySem.W.Fast.te4187177175401517315]); (try rw [PySem.W.Fast.te5923862056798008813]); (try rw [PySem.W.Fast.te8920871248978507458]); kernel_rfl)
theorem look1 (w : World) (os : OsState) : (staticsOk (importedModules PySem.W.Fast.tw1572466855055509570.main.body) (boot_heap w.params) (Hf w.params) && namesBound PySem.W.Fast.tw1572466855055509570 (Hf w.params) && gensDone (Sf w os) && laidKept (boot_heap w.params) (Hf w.params)) = true := by (try rw [PySem.W.Fast.te15667345088766844465]); (try rw [PySem.W.Fast.te14082659384304107361]); (try rw [PySem.W.Fast.te14374325043358763698]); (try rw [PySem.W.Fast.te10110043849684766642]); (try rw [PySem.W.Fast.te14364793385576792824]); (try rw [PySem.W.Fast.te11892475500146522536]); (try rw [PySem.W.Fast.te4187177175401517315]); (try rw [PySem.W.Fast.te5923862056798008813]); (try rw [PySem.W.Fast.te8920871248978507458]); kernel_rfl
theorem look2 (w : World) (os : OsState) : openSeen qT [] (importedModules PySem.W.Fast.tw1572466855055509570.main.body) (Xt qT) true (Sf w os) = openGood qT [] := by (try rw [PySem.W.Fast.te15667345088766844465]); (try rw [PySem.W.Fast.te14082659384304107361]); (try rw [PySem.W.Fast.te14374325043358763698]); (try rw [PySem.W.Fast.te10110043849684766642]); (try rw [PySem.W.Fast.te14364793385576792824]); (try rw [PySem.W.Fast.te11892475500146522536]); (try rw [PySem.W.Fast.te4187177175401517315]); (try rw [PySem.W.Fast.te5923862056798008813]); (try rw [PySem.W.Fast.te8920871248978507458]); kernel_rfl
theorem look3 (w : World) (os : OsState) : hook.obs (Sf w os) = hook.val w := by kernel_rfl
theorem leftT : LeftO PySem.W.Fast.tw1572466855055509570 qT [] (Xt qT) hook.obs hook.val 9090 := LeftO.of_pieces (H₁ := Hf) open_ size_ run_ (by decide) (fun w => funext fun os => looks_pair (look1 w os) (looks_pair (look2 w os) (look3 w os)))
theorem left : LeftO PySem.Challenge.pw_weighwalk_k06_minus_and_inverses qO [] (Xt qO) hook.obs hook.val 9090 := by have h := leftT; rw [← q_eq, ← PySem.W.Fast.te1572466855055509570] at h; exact h
noncomputable def dO : DefRec := ⟨PySem.Str.ofString "law", L2.defArgs (topO 34), L2.defBody (topO 34), L2.defScope (topO 34), ⟨297, 0, 308, 119⟩⟩
theorem holds_ (said : (OpenLaw.row PySem.Challenge.rw_weighwalk_k06_minus_and_inverses).wellSaid = true) (hw : (OpenLaw.row PySem.Challenge.rw_weighwalk_k06_minus_and_inverses).toRowW.promised) (hc : WalkO qO [] (XL qO []) (Hook.says hook) (OpenLaw.row PySem.Challenge.rw_weighwalk_k06_minus_and_inverses).toRowW dO [] (fun f vs => PySem.call f vs)) : (OpenLaw.row PySem.Challenge.rw_weighwalk_k06_minus_and_inverses).Holds :=
  holds_open (r := (OpenLaw.row PySem.Challenge.rw_weighwalk_k06_minus_and_inverses)) (q := qO) (loose := []) (Xt := Xt qO) (XP := XL qO []) (Yf := hook.obs) (Ya := hook.val) (YP := hook.says) (d := dO) (kwd := []) (N := 9090) left hook.of hook.keeps (fun s e => xl_of s (Bool.and_eq_true_iff.mp e).1) XL.keeps (by kernel_rfl) (by kernel_rfl) (by kernel_rfl) (fun s e => recFacts_of (Bool.and_eq_true_iff.mp e).2) (by kernel_rfl) said (by decide +kernel) ⟨rfl, rfl, rfl, rfl, rfl, by decide +kernel⟩ hw hc
theorem lk__wall (P : Params) : (K P).lookup 21 = some ⟨(.type PySem.W.SL.s7174869446012820540x8), none, .func (fnOf (PySem.Str.ofString "_wall") (PySem.Str.ofString "_wall") (L2.defArgs (topO 0)) (L2.defBody (topO 0)) (L2.defScope (topO 0)) .none .none .none (.str s2 164) none (.ref 20) .none), #[]⟩ := by rw [← top_eq]; kernel_rfl
theorem lk_is_whole (P : Params) : (K P).lookup 89 = some ⟨(.type PySem.W.SL.s7174869446012820540x8), none, .func (fnOf (PySem.Str.ofString "is_whole") (PySem.Str.ofString "is_whole") (L2.defArgs (topO 8)) (L2.defBody (topO 8)) (L2.defScope (topO 8)) .none .none .none (.str s38 278) none (.ref 88) .none), #[]⟩ := by rw [← top_eq]; kernel_rfl
theorem lk_divisor (P : Params) : (K P).lookup 96 = some ⟨(.type PySem.W.SL.s7174869446012820540x8), none, .func (fnOf (PySem.Str.ofString "divisor") (PySem.Str.ofString "divisor") (L2.defArgs (topO 9)) (L2.defBody (topO 9)) (L2.defScope (topO 9)) .none .none .none (.str s38 278) none (.ref 95) .none), #[]⟩ := by rw [← top_eq]; kernel_rfl
theorem lk_fraction (P : Params) : (K P).lookup 103 = some ⟨(.type PySem.W.SL.s7174869446012820540x8), none, .func (fnOf (PySem.Str.ofString "fraction") (PySem.Str.ofString "fraction") (L2.defArgs (topO 10)) (L2.defBody (topO 10)) (L2.defScope (topO 10)) .none .none .none (.str s38 278) none (.ref 102) .none), #[]⟩ := by rw [← top_eq]; kernel_rfl
theorem lk_is_prime (P : Params) : (K P).lookup 110 = some ⟨(.type PySem.W.SL.s7174869446012820540x8), none, .func (fnOf (PySem.Str.ofString "is_prime") (PySem.Str.ofString "is_prime") (L2.defArgs (topO 11)) (L2.defBody (topO 11)) (L2.defScope (topO 11)) .none .none .none (.str s38 278) none (.ref 109) .none), #[]⟩ := by rw [← top_eq]; kernel_rfl
theorem lk_is_written (P : Params) : (K P).lookup 115 = some ⟨(.type PySem.W.SL.s7174869446012820540x8), none, .func (fnOf (PySem.Str.ofString "is_written") (PySem.Str.ofString "is_written") (L2.defArgs (topO 16)) (L2.defBody (topO 16)) (L2.defScope (topO 16)) .none .none .none (.str s23 315) none (.ref 114) .none), #[]⟩ := by rw [← top_eq]; kernel_rfl
theorem lk_read_whole (P : Params) : (K P).lookup 122 = some ⟨(.type PySem.W.SL.s7174869446012820540x8), none, .func (fnOf (PySem.Str.ofString "read_whole") (PySem.Str.ofString "read_whole") (L2.defArgs (topO 17)) (L2.defBody (topO 17)) (L2.defScope (topO 17)) .none .none .none (.str s23 315) none (.ref 121) .none), #[]⟩ := by rw [← top_eq]; kernel_rfl
theorem lk_need_text (P : Params) : (K P).lookup 129 = some ⟨(.type PySem.W.SL.s7174869446012820540x8), none, .func (fnOf (PySem.Str.ofString "need_text") (PySem.Str.ofString "need_text") (L2.defArgs (topO 18)) (L2.defBody (topO 18)) (L2.defScope (topO 18)) .none .none .none (.str s23 315) none (.ref 128) .none), #[]⟩ := by rw [← top_eq]; kernel_rfl
theorem lk_Field_is_field (P : Params) : (K P).lookup 157 = some ⟨(.type PySem.W.SL.s7174869446012820540x8), none, .func (fnOf (PySem.Str.ofString "is_field") (PySem.Str.ofString "Field.is_field") (L2.defArgs (L2.inClass (topO 20) 0)) (L2.defBody (L2.inClass (topO 20) 0)) (L2.defScope (L2.inClass (topO 20) 0)) .none .none .none (.str s23 315) none (.ref 156) .none), #[]⟩ := by rw [← top_eq]; kernel_rfl
theorem lk_Field_picks (P : Params) : (K P).lookup 164 = some ⟨(.type PySem.W.SL.s7174869446012820540x8), none, .func (fnOf (PySem.Str.ofString "picks") (PySem.Str.ofString "Field.picks") (L2.defArgs (L2.inClass (topO 20) 1)) (L2.defBody (L2.inClass (topO 20) 1)) (L2.defScope (L2.inClass (topO 20) 1)) .none .none .none (.str s23 315) none (.ref 163) .none), #[]⟩ := by rw [← top_eq]; kernel_rfl
theorem lk_Picking_is_field (P : Params) : (K P).lookup 183 = some ⟨(.type PySem.W.SL.s7174869446012820540x8), none, .func (fnOf (PySem.Str.ofString "is_field") (PySem.Str.ofString "Picking.is_field") (L2.defArgs (L2.inClass (topO 21) 0)) (L2.defBody (L2.inClass (topO 21) 0)) (L2.defScope (L2.inClass (topO 21) 0)) .none .none .none (.str s23 315) none (.ref 182) .none), #[]⟩ := by rw [← top_eq]; kernel_rfl
theorem lk_Picking_picks (P : Params) : (K P).lookup 190 = some ⟨(.type PySem.W.SL.s7174869446012820540x8), none, .func (fnOf (PySem.Str.ofString "picks") (PySem.Str.ofString "Picking.picks") (L2.defArgs (L2.inClass (topO 21) 1)) (L2.defBody (L2.inClass (topO 21) 1)) (L2.defScope (L2.inClass (topO 21) 1)) .none .none .none (.str s23 315) none (.ref 189) .none), #[]⟩ := by rw [← top_eq]; kernel_rfl
theorem lk_Picking_minus (P : Params) : (K P).lookup 197 = some ⟨(.type PySem.W.SL.s7174869446012820540x8), none, .func (fnOf (PySem.Str.ofString "minus") (PySem.Str.ofString "Picking.minus") (L2.defArgs (L2.inClass (topO 21) 2)) (L2.defBody (L2.inClass (topO 21) 2)) (L2.defScope (L2.inClass (topO 21) 2)) .none .none .none (.str s23 315) none (.ref 196) .none), #[]⟩ := by rw [← top_eq]; kernel_rfl
theorem lk_Picking_inverse (P : Params) : (K P).lookup 204 = some ⟨(.type PySem.W.SL.s7174869446012820540x8), none, .func (fnOf (PySem.Str.ofString "inverse") (PySem.Str.ofString "Picking.inverse") (L2.defArgs (L2.inClass (topO 21) 3)) (L2.defBody (L2.inClass (topO 21) 3)) (L2.defScope (L2.inClass (topO 21) 3)) .none .none .none (.str s23 315) none (.ref 203) .none), #[]⟩ := by rw [← top_eq]; kernel_rfl
theorem lk_Fractions_told (P : Params) : (K P).lookup 223 = some ⟨(.type PySem.W.SL.s7174869446012820540x8), none, .func (fnOf (PySem.Str.ofString "told") (PySem.Str.ofString "Fractions.told") (L2.defArgs (L2.inClass (topO 22) 0)) (L2.defBody (L2.inClass (topO 22) 0)) (L2.defScope (L2.inClass (topO 22) 0)) .none .none .none (.str s23 315) none (.ref 222) .none), #[]⟩ := by rw [← top_eq]; kernel_rfl
theorem lk_Fractions_nought (P : Params) : (K P).lookup 230 = some ⟨(.type PySem.W.SL.s7174869446012820540x8), none, .func (fnOf (PySem.Str.ofString "nought") (PySem.Str.ofString "Fractions.nought") (L2.defArgs (L2.inClass (topO 22) 1)) (L2.defBody (L2.inClass (topO 22) 1)) (L2.defScope (L2.inClass (topO 22) 1)) .none .none .none (.str s23 315) none (.ref 229) .none), #[]⟩ := by rw [← top_eq]; kernel_rfl
theorem lk_Fractions_one (P : Params) : (K P).lookup 237 = some ⟨(.type PySem.W.SL.s7174869446012820540x8), none, .func (fnOf (PySem.Str.ofString "one") (PySem.Str.ofString "Fractions.one") (L2.defArgs (L2.inClass (topO 22) 2)) (L2.defBody (L2.inClass (topO 22) 2)) (L2.defScope (L2.inClass (topO 22) 2)) .none .none .none (.str s23 315) none (.ref 236) .none), #[]⟩ := by rw [← top_eq]; kernel_rfl
theorem lk_Fractions_plus (P : Params) : (K P).lookup 244 = some ⟨(.type PySem.W.SL.s7174869446012820540x8), none, .func (fnOf (PySem.Str.ofString "plus") (PySem.Str.ofString "Fractions.plus") (L2.defArgs (L2.inClass (topO 22) 3)) (L2.defBody (L2.inClass (topO 22) 3)) (L2.defScope (L2.inClass (topO 22) 3)) .none .none .none (.str s23 315) none (.ref 243) .none), #[]⟩ := by rw [← top_eq]; kernel_rfl
theorem lk_Fractions_times (P : Params) : (K P).lookup 251 = some ⟨(.type PySem.W.SL.s7174869446012820540x8), none, .func (fnOf (PySem.Str.ofString "times") (PySem.Str.ofString "Fractions.times") (L2.defArgs (L2.inClass (topO 22) 4)) (L2.defBody (L2.inClass (topO 22) 4)) (L2.defScope (L2.inClass (topO 22) 4)) .none .none .none (.str s23 315) none (.ref 250) .none), #[]⟩ := by rw [← top_eq]; kernel_rfl
theorem lk_Fractions_minus (P : Params) : (K P).lookup 258 = some ⟨(.type PySem.W.SL.s7174869446012820540x8), none, .func (fnOf (PySem.Str.ofString "minus") (PySem.Str.ofString "Fractions.minus") (L2.defArgs (L2.inClass (topO 22) 5)) (L2.defBody (L2.inClass (topO 22) 5)) (L2.defScope (L2.inClass (topO 22) 5)) .none .none .none (.str s23 315) none (.ref 257) .none), #[]⟩ := by rw [← top_eq]; kernel_rfl
theorem lk_Fractions_inverse (P : Params) : (K P).lookup 265 = some ⟨(.type PySem.W.SL.s7174869446012820540x8), none, .func (fnOf (PySem.Str.ofString "inverse") (PySem.Str.ofString "Fractions.inverse") (L2.defArgs (L2.inClass (topO 22) 6)) (L2.defBody (L2.inClass (topO 22) 6)) (L2.defScope (L2.inClass (topO 22) 6)) .none .none .none (.str s23 315) none (.ref 264) .none), #[]⟩ := by rw [← top_eq]; kernel_rfl
theorem lk_Fractions_is_weight (P : Params) : (K P).lookup 272 = some ⟨(.type PySem.W.SL.s7174869446012820540x8), none, .func (fnOf (PySem.Str.ofString "is_weight") (PySem.Str.ofString "Fractions.is_weight") (L2.defArgs (L2.inClass (topO 22) 7)) (L2.defBody (L2.inClass (topO 22) 7)) (L2.defScope (L2.inClass (topO 22) 7)) .none .none .none (.str s23 315) none (.ref 271) .none), #[]⟩ := by rw [← top_eq]; kernel_rfl
theorem lk_Fractions_shown (P : Params) : (K P).lookup 279 = some ⟨(.type PySem.W.SL.s7174869446012820540x8), none, .func (fnOf (PySem.Str.ofString "shown") (PySem.Str.ofString "Fractions.shown") (L2.defArgs (L2.inClass (topO 22) 8)) (L2.defBody (L2.inClass (topO 22) 8)) (L2.defScope (L2.inClass (topO 22) 8)) .none .none .none (.str s23 315) none (.ref 278) .none), #[]⟩ := by rw [← top_eq]; kernel_rfl
theorem lk_Fractions_read (P : Params) : (K P).lookup 286 = some ⟨(.type PySem.W.SL.s7174869446012820540x8), none, .func (fnOf (PySem.Str.ofString "read") (PySem.Str.ofString "Fractions.read") (L2.defArgs (L2.inClass (topO 22) 9)) (L2.defBody (L2.inClass (topO 22) 9)) (L2.defScope (L2.inClass (topO 22) 9)) .none .none .none (.str s23 315) none (.ref 285) .none), #[]⟩ := by rw [← top_eq]; kernel_rfl
theorem lk_Residues___init__ (P : Params) : (K P).lookup 305 = some ⟨(.type PySem.W.SL.s7174869446012820540x8), none, .func (fnOf (PySem.Str.ofString "__init__") (PySem.Str.ofString "Residues.__init__") (L2.defArgs (L2.inClass (topO 23) 0)) (L2.defBody (L2.inClass (topO 23) 0)) (L2.defScope (L2.inClass (topO 23) 0)) .none .none .none (.str s23 315) none (.ref 304) .none), #[]⟩ := by rw [← top_eq]; kernel_rfl
theorem lk_Residues_told (P : Params) : (K P).lookup 312 = some ⟨(.type PySem.W.SL.s7174869446012820540x8), none, .func (fnOf (PySem.Str.ofString "told") (PySem.Str.ofString "Residues.told") (L2.defArgs (L2.inClass (topO 23) 1)) (L2.defBody (L2.inClass (topO 23) 1)) (L2.defScope (L2.inClass (topO 23) 1)) .none .none .none (.str s23 315) none (.ref 311) .none), #[]⟩ := by rw [← top_eq]; kernel_rfl
theorem lk_Residues_nought (P : Params) : (K P).lookup 319 = some ⟨(.type PySem.W.SL.s7174869446012820540x8), none, .func (fnOf (PySem.Str.ofString "nought") (PySem.Str.ofString "Residues.nought") (L2.defArgs (L2.inClass (topO 23) 2)) (L2.defBody (L2.inClass (topO 23) 2)) (L2.defScope (L2.inClass (topO 23) 2)) .none .none .none (.str s23 315) none (.ref 318) .none), #[]⟩ := by rw [← top_eq]; kernel_rfl
theorem lk_Residues_one (P : Params) : (K P).lookup 326 = some ⟨(.type PySem.W.SL.s7174869446012820540x8), none, .func (fnOf (PySem.Str.ofString "one") (PySem.Str.ofString "Residues.one") (L2.defArgs (L2.inClass (topO 23) 3)) (L2.defBody (L2.inClass (topO 23) 3)) (L2.defScope (L2.inClass (topO 23) 3)) .none .none .none (.str s23 315) none (.ref 325) .none), #[]⟩ := by rw [← top_eq]; kernel_rfl
theorem lk_Residues_plus (P : Params) : (K P).lookup 333 = some ⟨(.type PySem.W.SL.s7174869446012820540x8), none, .func (fnOf (PySem.Str.ofString "plus") (PySem.Str.ofString "Residues.plus") (L2.defArgs (L2.inClass (topO 23) 4)) (L2.defBody (L2.inClass (topO 23) 4)) (L2.defScope (L2.inClass (topO 23) 4)) .none .none .none (.str s23 315) none (.ref 332) .none), #[]⟩ := by rw [← top_eq]; kernel_rfl
theorem lk_Residues_times (P : Params) : (K P).lookup 340 = some ⟨(.type PySem.W.SL.s7174869446012820540x8), none, .func (fnOf (PySem.Str.ofString "times") (PySem.Str.ofString "Residues.times") (L2.defArgs (L2.inClass (topO 23) 5)) (L2.defBody (L2.inClass (topO 23) 5)) (L2.defScope (L2.inClass (topO 23) 5)) .none .none .none (.str s23 315) none (.ref 339) .none), #[]⟩ := by rw [← top_eq]; kernel_rfl
theorem lk_Residues_minus (P : Params) : (K P).lookup 347 = some ⟨(.type PySem.W.SL.s7174869446012820540x8), none, .func (fnOf (PySem.Str.ofString "minus") (PySem.Str.ofString "Residues.minus") (L2.defArgs (L2.inClass (topO 23) 6)) (L2.defBody (L2.inClass (topO 23) 6)) (L2.defScope (L2.inClass (topO 23) 6)) .none .none .none (.str s23 315) none (.ref 346) .none), #[]⟩ := by rw [← top_eq]; kernel_rfl
theorem lk_Residues_inverse (P : Params) : (K P).lookup 354 = some ⟨(.type PySem.W.SL.s7174869446012820540x8), none, .func (fnOf (PySem.Str.ofString "inverse") (PySem.Str.ofString "Residues.inverse") (L2.defArgs (L2.inClass (topO 23) 7)) (L2.defBody (L2.inClass (topO 23) 7)) (L2.defScope (L2.inClass (topO 23) 7)) .none .none .none (.str s23 315) none (.ref 353) .none), #[]⟩ := by rw [← top_eq]; kernel_rfl
theorem lk_Residues_is_weight (P : Params) : (K P).lookup 361 = some ⟨(.type PySem.W.SL.s7174869446012820540x8), none, .func (fnOf (PySem.Str.ofString "is_weight") (PySem.Str.ofString "Residues.is_weight") (L2.defArgs (L2.inClass (topO 23) 8)) (L2.defBody (L2.inClass (topO 23) 8)) (L2.defScope (L2.inClass (topO 23) 8)) .none .none .none (.str s23 315) none (.ref 360) .none), #[]⟩ := by rw [← top_eq]; kernel_rfl
theorem lk_Residues_shown (P : Params) : (K P).lookup 368 = some ⟨(.type PySem.W.SL.s7174869446012820540x8), none, .func (fnOf (PySem.Str.ofString "shown") (PySem.Str.ofString "Residues.shown") (L2.defArgs (L2.inClass (topO 23) 9)) (L2.defBody (L2.inClass (topO 23) 9)) (L2.defScope (L2.inClass (topO 23) 9)) .none .none .none (.str s23 315) none (.ref 367) .none), #[]⟩ := by rw [← top_eq]; kernel_rfl
theorem lk_Residues_read (P : Params) : (K P).lookup 375 = some ⟨(.type PySem.W.SL.s7174869446012820540x8), none, .func (fnOf (PySem.Str.ofString "read") (PySem.Str.ofString "Residues.read") (L2.defArgs (L2.inClass (topO 23) 10)) (L2.defBody (L2.inClass (topO 23) 10)) (L2.defScope (L2.inClass (topO 23) 10)) .none .none .none (.str s23 315) none (.ref 374) .none), #[]⟩ := by rw [← top_eq]; kernel_rfl
theorem lk_Costs_told (P : Params) : (K P).lookup 394 = some ⟨(.type PySem.W.SL.s7174869446012820540x8), none, .func (fnOf (PySem.Str.ofString "told") (PySem.Str.ofString "Costs.told") (L2.defArgs (L2.inClass (topO 24) 0)) (L2.defBody (L2.inClass (topO 24) 0)) (L2.defScope (L2.inClass (topO 24) 0)) .none .none .none (.str s23 315) none (.ref 393) .none), #[]⟩ := by rw [← top_eq]; kernel_rfl
theorem lk_Costs_nought (P : Params) : (K P).lookup 401 = some ⟨(.type PySem.W.SL.s7174869446012820540x8), none, .func (fnOf (PySem.Str.ofString "nought") (PySem.Str.ofString "Costs.nought") (L2.defArgs (L2.inClass (topO 24) 1)) (L2.defBody (L2.inClass (topO 24) 1)) (L2.defScope (L2.inClass (topO 24) 1)) .none .none .none (.str s23 315) none (.ref 400) .none), #[]⟩ := by rw [← top_eq]; kernel_rfl
theorem lk_Costs_one (P : Params) : (K P).lookup 408 = some ⟨(.type PySem.W.SL.s7174869446012820540x8), none, .func (fnOf (PySem.Str.ofString "one") (PySem.Str.ofString "Costs.one") (L2.defArgs (L2.inClass (topO 24) 2)) (L2.defBody (L2.inClass (topO 24) 2)) (L2.defScope (L2.inClass (topO 24) 2)) .none .none .none (.str s23 315) none (.ref 407) .none), #[]⟩ := by rw [← top_eq]; kernel_rfl
theorem lk_Costs_plus (P : Params) : (K P).lookup 415 = some ⟨(.type PySem.W.SL.s7174869446012820540x8), none, .func (fnOf (PySem.Str.ofString "plus") (PySem.Str.ofString "Costs.plus") (L2.defArgs (L2.inClass (topO 24) 3)) (L2.defBody (L2.inClass (topO 24) 3)) (L2.defScope (L2.inClass (topO 24) 3)) .none .none .none (.str s23 315) none (.ref 414) .none), #[]⟩ := by rw [← top_eq]; kernel_rfl
theorem lk_Costs_times (P : Params) : (K P).lookup 422 = some ⟨(.type PySem.W.SL.s7174869446012820540x8), none, .func (fnOf (PySem.Str.ofString "times") (PySem.Str.ofString "Costs.times") (L2.defArgs (L2.inClass (topO 24) 4)) (L2.defBody (L2.inClass (topO 24) 4)) (L2.defScope (L2.inClass (topO 24) 4)) .none .none .none (.str s23 315) none (.ref 421) .none), #[]⟩ := by rw [← top_eq]; kernel_rfl
theorem lk_Costs_is_weight (P : Params) : (K P).lookup 429 = some ⟨(.type PySem.W.SL.s7174869446012820540x8), none, .func (fnOf (PySem.Str.ofString "is_weight") (PySem.Str.ofString "Costs.is_weight") (L2.defArgs (L2.inClass (topO 24) 5)) (L2.defBody (L2.inClass (topO 24) 5)) (L2.defScope (L2.inClass (topO 24) 5)) .none .none .none (.str s23 315) none (.ref 428) .none), #[]⟩ := by rw [← top_eq]; kernel_rfl
theorem lk_Costs_shown (P : Params) : (K P).lookup 436 = some ⟨(.type PySem.W.SL.s7174869446012820540x8), none, .func (fnOf (PySem.Str.ofString "shown") (PySem.Str.ofString "Costs.shown") (L2.defArgs (L2.inClass (topO 24) 6)) (L2.defBody (L2.inClass (topO 24) 6)) (L2.defScope (L2.inClass (topO 24) 6)) .none .none .none (.str s23 315) none (.ref 435) .none), #[]⟩ := by rw [← top_eq]; kernel_rfl
theorem lk_Costs_read (P : Params) : (K P).lookup 443 = some ⟨(.type PySem.W.SL.s7174869446012820540x8), none, .func (fnOf (PySem.Str.ofString "read") (PySem.Str.ofString "Costs.read") (L2.defArgs (L2.inClass (topO 24) 7)) (L2.defBody (L2.inClass (topO 24) 7)) (L2.defScope (L2.inClass (topO 24) 7)) .none .none .none (.str s23 315) none (.ref 442) .none), #[]⟩ := by rw [← top_eq]; kernel_rfl
theorem lk_Truths_told (P : Params) : (K P).lookup 462 = some ⟨(.type PySem.W.SL.s7174869446012820540x8), none, .func (fnOf (PySem.Str.ofString "told") (PySem.Str.ofString "Truths.told") (L2.defArgs (L2.inClass (topO 25) 0)) (L2.defBody (L2.inClass (topO 25) 0)) (L2.defScope (L2.inClass (topO 25) 0)) .none .none .none (.str s23 315) none (.ref 461) .none), #[]⟩ := by rw [← top_eq]; kernel_rfl
theorem lk_Truths_nought (P : Params) : (K P).lookup 469 = some ⟨(.type PySem.W.SL.s7174869446012820540x8), none, .func (fnOf (PySem.Str.ofString "nought") (PySem.Str.ofString "Truths.nought") (L2.defArgs (L2.inClass (topO 25) 1)) (L2.defBody (L2.inClass (topO 25) 1)) (L2.defScope (L2.inClass (topO 25) 1)) .none .none .none (.str s23 315) none (.ref 468) .none), #[]⟩ := by rw [← top_eq]; kernel_rfl
theorem lk_Truths_one (P : Params) : (K P).lookup 476 = some ⟨(.type PySem.W.SL.s7174869446012820540x8), none, .func (fnOf (PySem.Str.ofString "one") (PySem.Str.ofString "Truths.one") (L2.defArgs (L2.inClass (topO 25) 2)) (L2.defBody (L2.inClass (topO 25) 2)) (L2.defScope (L2.inClass (topO 25) 2)) .none .none .none (.str s23 315) none (.ref 475) .none), #[]⟩ := by rw [← top_eq]; kernel_rfl
theorem lk_Truths_plus (P : Params) : (K P).lookup 483 = some ⟨(.type PySem.W.SL.s7174869446012820540x8), none, .func (fnOf (PySem.Str.ofString "plus") (PySem.Str.ofString "Truths.plus") (L2.defArgs (L2.inClass (topO 25) 3)) (L2.defBody (L2.inClass (topO 25) 3)) (L2.defScope (L2.inClass (topO 25) 3)) .none .none .none (.str s23 315) none (.ref 482) .none), #[]⟩ := by rw [← top_eq]; kernel_rfl
theorem lk_Truths_times (P : Params) : (K P).lookup 490 = some ⟨(.type PySem.W.SL.s7174869446012820540x8), none, .func (fnOf (PySem.Str.ofString "times") (PySem.Str.ofString "Truths.times") (L2.defArgs (L2.inClass (topO 25) 4)) (L2.defBody (L2.inClass (topO 25) 4)) (L2.defScope (L2.inClass (topO 25) 4)) .none .none .none (.str s23 315) none (.ref 489) .none), #[]⟩ := by rw [← top_eq]; kernel_rfl
theorem lk_Truths_is_weight (P : Params) : (K P).lookup 497 = some ⟨(.type PySem.W.SL.s7174869446012820540x8), none, .func (fnOf (PySem.Str.ofString "is_weight") (PySem.Str.ofString "Truths.is_weight") (L2.defArgs (L2.inClass (topO 25) 5)) (L2.defBody (L2.inClass (topO 25) 5)) (L2.defScope (L2.inClass (topO 25) 5)) .none .none .none (.str s23 315) none (.ref 496) .none), #[]⟩ := by rw [← top_eq]; kernel_rfl
theorem lk_Truths_shown (P : Params) : (K P).lookup 504 = some ⟨(.type PySem.W.SL.s7174869446012820540x8), none, .func (fnOf (PySem.Str.ofString "shown") (PySem.Str.ofString "Truths.shown") (L2.defArgs (L2.inClass (topO 25) 6)) (L2.defBody (L2.inClass (topO 25) 6)) (L2.defScope (L2.inClass (topO 25) 6)) .none .none .none (.str s23 315) none (.ref 503) .none), #[]⟩ := by rw [← top_eq]; kernel_rfl
theorem lk_Truths_read (P : Params) : (K P).lookup 511 = some ⟨(.type PySem.W.SL.s7174869446012820540x8), none, .func (fnOf (PySem.Str.ofString "read") (PySem.Str.ofString "Truths.read") (L2.defArgs (L2.inClass (topO 25) 7)) (L2.defBody (L2.inClass (topO 25) 7)) (L2.defScope (L2.inClass (topO 25) 7)) .none .none .none (.str s23 315) none (.ref 510) .none), #[]⟩ := by rw [← top_eq]; kernel_rfl
theorem lk__law_divisor (P : Params) : (K P).lookup 523 = some ⟨(.type PySem.W.SL.s7174869446012820540x8), none, .func (fnOf (PySem.Str.ofString "_law_divisor") (PySem.Str.ofString "_law_divisor") (L2.defArgs (topO 27)) (L2.defBody (topO 27)) (L2.defScope (topO 27)) .none .none .none (.str s111 803) none (.ref 522) .none), #[]⟩ := by rw [← top_eq]; kernel_rfl
theorem lk__law_low (P : Params) : (K P).lookup 530 = some ⟨(.type PySem.W.SL.s7174869446012820540x8), none, .func (fnOf (PySem.Str.ofString "_law_low") (PySem.Str.ofString "_law_low") (L2.defArgs (topO 28)) (L2.defBody (topO 28)) (L2.defScope (topO 28)) .none .none .none (.str s111 803) none (.ref 529) .none), #[]⟩ := by rw [← top_eq]; kernel_rfl
theorem lk__law_number (P : Params) : (K P).lookup 537 = some ⟨(.type PySem.W.SL.s7174869446012820540x8), none, .func (fnOf (PySem.Str.ofString "_law_number") (PySem.Str.ofString "_law_number") (L2.defArgs (topO 29)) (L2.defBody (topO 29)) (L2.defScope (topO 29)) .none .none .none (.str s111 803) none (.ref 536) .none), #[]⟩ := by rw [← top_eq]; kernel_rfl
theorem lk__law_weight (P : Params) : (K P).lookup 544 = some ⟨(.type PySem.W.SL.s7174869446012820540x8), none, .func (fnOf (PySem.Str.ofString "_law_weight") (PySem.Str.ofString "_law_weight") (L2.defArgs (topO 30)) (L2.defBody (topO 30)) (L2.defScope (topO 30)) .none .none .none (.str s111 803) none (.ref 543) .none), #[]⟩ := by rw [← top_eq]; kernel_rfl
theorem lk__law_refused (P : Params) : (K P).lookup 551 = some ⟨(.type PySem.W.SL.s7174869446012820540x8), none, .func (fnOf (PySem.Str.ofString "_law_refused") (PySem.Str.ofString "_law_refused") (L2.defArgs (topO 31)) (L2.defBody (topO 31)) (L2.defScope (topO 31)) .none .none .none (.str s111 803) none (.ref 550) .none), #[]⟩ := by rw [← top_eq]; kernel_rfl
theorem lk__law_field (P : Params) : (K P).lookup 558 = some ⟨(.type PySem.W.SL.s7174869446012820540x8), none, .func (fnOf (PySem.Str.ofString "_law_field") (PySem.Str.ofString "_law_field") (L2.defArgs (topO 32)) (L2.defBody (topO 32)) (L2.defScope (topO 32)) .none .none .none (.str s111 803) none (.ref 557) .none), #[]⟩ := by rw [← top_eq]; kernel_rfl
theorem lk__law_picking (P : Params) : (K P).lookup 565 = some ⟨(.type PySem.W.SL.s7174869446012820540x8), none, .func (fnOf (PySem.Str.ofString "_law_picking") (PySem.Str.ofString "_law_picking") (L2.defArgs (topO 33)) (L2.defBody (topO 33)) (L2.defScope (topO 33)) .none .none .none (.str s111 803) none (.ref 564) .none), #[]⟩ := by rw [← top_eq]; kernel_rfl
theorem lk_law (P : Params) : (K P).lookup 572 = some ⟨(.type PySem.W.SL.s7174869446012820540x8), none, .func (fnOf (PySem.Str.ofString "law") (PySem.Str.ofString "law") (L2.defArgs (topO 34)) (L2.defBody (topO 34)) (L2.defScope (topO 34)) .none .none .none (.str s111 803) none (.ref 571) .none), #[]⟩ := by rw [← top_eq]; kernel_rfl
end H06

set_option maxHeartbeats 4000000
/-! Own rules beside the layer: great ints, isinstance, a class without its own __init__, data compared. -/
namespace L2
open PySem PySem.Spec PyProof.Rows PySem.SeqAt
section
variable {X : Cx}
def CMulB (i j : Int) : Prop := Builtin.Int.intBits i ≤ 2 ^ 20 ∧ Builtin.Int.intBits j ≤ 2 ^ 20
theorem op_mulB : OpR X (binaryOp .Mult) (rI CMulB fun i j => .int (i * j)) := opI fun _ _ _ _ _ _ _ hc q => mul_int q (PySem.IntMulOk.of_bits hc.1 hc.2)
def CDivB (_ j : Int) : Prop := j ≠ 0 ∧ j.natAbs.log2 < 9000
theorem op_fdivB : OpR X (binaryOp .FloorDiv) (rI CDivB fun i j => .int (i.fdiv j)) := opI fun _ _ _ _ _ _ _ hc q => floordiv_int hc.1 q (Or.inl (PyProof.noPylong_of_log2 hc.2))
/-- isinstance(x, n), n the name of a built-in type -/
def rIsi (K : PySem.W.Frag) : List V → Hp → VK → Prop := fun xs H Q => ∃ x n t b, xs = [x, .ty n] ∧ TyOf K H x t ∧ PySem.W.kitOne K t (.type n) = some b ∧ Q (.bl b) H
theorem call_isi : CallR X (.builtin "isinstance") (rIsi X.K) := by
  intro pins s σ H xs us Q I r h
  obtain ⟨x, n, t, b, rfl, ty, e, q⟩ := h
  cases r with
  | cons rx r1 =>
    cases r1 with
    | cons ry r2 =>
      cases r2
      cases ry
      exact isinst_ok I rx ty e fun tk => ⟨.bl b, H, I.tok _, rfl, q⟩
/-- a class that has no __init__ of its own -/
structure MkO (K : PySem.W.Frag) (C : Addr) : Prop where
  makes : PySem.W.makesIn K C = true
  init : PySem.W.findIn K (.ref C) "__init__" = some (some (.builtin "object.__init__"))
  kp : PySem.W.keepIn K (.ref C) = true
def tMakeO (C : Addr) : TE := fun _ H Q => ∀ x dx, H x = none → H dx = none → dx ≠ x → Q (.ref x) (upd (upd H dx (.own x)) x (.ins C dx []))
theorem pe_makeO {C : Addr} {x : Str} {p pos : Pos} (M : MkO X.K C) (hg : Gl X x) (hm : X.mg x = some (.ref C)) (hdb : (x == ("__debug__" : Str)) = false := by decide) : PE X (.Call (.Name x p) [] [] pos) (tMakeO C) := by
  intro pins s σ H Q I h
  refine wpAny_Call_Name_kw (ld_glob I hg hm ?_ hdb)
  refine PySem.W.callWith_K0 I.kIn M.kp ?_
  have hq := h (s.heap.objs.size + 1) s.heap.objs.size (I.hok.fresh (Nat.le_succ _)) (I.hok.fresh (Nat.le_refl _)) (Nat.ne_of_lt (Nat.lt_succ_self _))
  have I2 := Inv.made (C := C) I
  have Y := PySem.W.makes_of (M := model X.prog X.w) I.kIn M.makes
  refine wpAny_call (make_map0 I.kIn M.makes M.init (fun self => PySem.W.Looks.of_pure (PySem.W.oi_bind self)) ?_)
  have t1 : PySem.W.Looks (model X.prog X.w) ((s.heap.push PySem.W.emptyDict).push (PySem.W.instObj C s.heap.objs.size)) (typeOf (.ref (s.heap.objs.size + 1))) (.ref C) :=
    (PySem.W.Looks.ld (o := PySem.W.instObj C s.heap.objs.size) (by have e : ((s.heap.push PySem.W.emptyDict).push (PySem.W.instObj C s.heap.objs.size)).get? (s.heap.push PySem.W.emptyDict).objs.size = some (PySem.W.instObj C s.heap.objs.size) := Heap.get?_push_size _ rfl; rw [Heap.size_push] at e; exact e)).andThen .now
  have t2 : PySem.W.Looks (model X.prog X.w) ((s.heap.push PySem.W.emptyDict).push (PySem.W.instObj C s.heap.objs.size)) (isInstance (.ref (s.heap.objs.size + 1)) (.type "object")) true :=
    t1.andThen (Y.top.keeps fun b o e => Heap.get?_push_of_some _ (Heap.get?_push_of_some _ e))
  refine PySem.codeAny_call_builtin PySem.W.oi_plain PySem.W.entry_oi (@PySem.W.check_slot (model X.prog X.w) _ _ _ "object.__init__" "object" "__init__" (.ref (s.heap.objs.size + 1)) [] [] _ PySem.W.oi_kind PySem.W.oi_split t2 (PySem.W.oi_args (.ref (s.heap.objs.size + 1))) ?_)
  rw [PySem.W.oi_run]
  exact wpAny_pure (And.intro rfl ⟨V.ref (s.heap.objs.size + 1), _, I2, rfl, hq⟩)
end
/-! data -/
mutual
inductive Is (K : PySem.W.Frag) (H : Hp) : V → PyData → Prop
  | non : Is K H .non .none
  | bl (b : Bool) : Is K H (.bl b) (.bool b)
  | int (i : Int) : Is K H (.int i) (.int i)
  | str (x : Str) : Is K H (.str x) (.str x)
  | tup {a : Addr} {xs : List V} {ds : List PyData} : SqT K H a xs → IsAll K H xs ds → Is K H (.ref a) (.tuple ds)
  | lst {a : Addr} {xs : List V} {ds : List PyData} : SqL K H a xs → IsAll K H xs ds → Is K H (.ref a) (.list ds)
inductive IsAll (K : PySem.W.Frag) (H : Hp) : List V → List PyData → Prop
  | nil : IsAll K H [] []
  | cons {v : V} {vs : List V} {d : PyData} {ds : List PyData} : Is K H v d → IsAll K H vs ds → IsAll K H (v :: vs) (d :: ds)
end
theorem Same.tup {K : PySem.W.Frag} {H H' : Hp} {a : Addr} {xs : List V} (e : Same H H') (h : SqT K H a xs) : SqT K H' a xs := by
  rcases h with (h | ⟨o, h⟩) | h
  · exact .inl (.inl (e _ _ h))
  · exact .inl (.inr ⟨o, e _ _ h⟩)
  · exact .inr h
mutual
theorem Is.same {K : PySem.W.Frag} {H H' : Hp} (e : Same H H') : ∀ {v : V} {d : PyData}, Is K H v d → Is K H' v d
  | _, _, .non => .non
  | _, _, .bl b => .bl b
  | _, _, .int i => .int i
  | _, _, .str x => .str x
  | _, _, .tup h r => .tup (e.tup h) (IsAll.same e r)
  | _, _, .lst h r => .lst (e.seq h) (IsAll.same e r)
theorem IsAll.same {K : PySem.W.Frag} {H H' : Hp} (e : Same H H') : ∀ {v : List V} {d : List PyData}, IsAll K H v d → IsAll K H' v d
  | _, _, .nil => .nil
  | _, _, .cons a r => .cons (Is.same e a) (IsAll.same e r)
end
section
variable {X : Cx} {pins : List (Addr × Obj)} {σ : St} {H : Hp} {s : Shared}
mutual
theorem Is.reads (I : Inv X pins σ H s) : ∀ {v : V} {d : PyData} {u : Value}, Is X.K H v d → RelV v u → ∃ as, Reads s.heap u d as
  | _, _, _, .non, r => by cases r; exact ⟨_, .none⟩
  | _, _, _, .bl b, r => by cases r; exact ⟨_, .bool b⟩
  | _, _, _, .int i, r => by obtain ⟨t, rfl⟩ := r; exact ⟨_, .int i t⟩
  | _, _, _, .str x, r => by obtain ⟨t, rfl⟩ := r; exact ⟨_, .str x t⟩
  | _, _, _, .tup h a, r => by
    cases r
    obtain ⟨its, rv, ⟨o, ho, hc, n, hd⟩, _⟩ := I.tuple h
    obtain ⟨as, hr⟩ := IsAll.reads I a rv
    exact ⟨as, .tuple ho hc hd (by simpa using hr)⟩
  | _, _, _, .lst h a, r => by
    cases r
    obtain ⟨its, rv, ⟨o, n, ho, hc, _, hd⟩, _⟩ := I.list h
    obtain ⟨as, hr⟩ := IsAll.reads I a rv
    exact ⟨_, .list ho hc hd (by simpa using hr)⟩
theorem IsAll.reads (I : Inv X pins σ H s) : ∀ {vs : List V} {ds : List PyData} {us : List Value}, IsAll X.K H vs ds → Vals vs us → ∃ as, ReadsAll s.heap us ds as
  | _, _, _, .nil, .nil => ⟨_, .nil⟩
  | _, _, _, .cons a r, .cons q t => by
    obtain ⟨as, h1⟩ := Is.reads I a q
    obtain ⟨bs, h2⟩ := IsAll.reads I r t
    exact ⟨_, .cons h1 h2⟩
end
def rEqD (K : PySem.W.Frag) : R2 := fun x y H Q => ∃ d d', Is K H x d ∧ Is K H y d' ∧ shaped d = true ∧ shaped d' = true ∧ noMix d d' = true ∧ Q (.bl (PySem.Spec.same d d')) H
def rNeD (K : PySem.W.Frag) : R2 := fun x y H Q => ∃ d d', Is K H x d ∧ Is K H y d' ∧ shaped d = true ∧ shaped d' = true ∧ noMix d d' = true ∧ Q (.bl (!PySem.Spec.same d d')) H
theorem op_eqD (hu : X.A.units + 64 < cLine) : OpR X (compareOp .Eq) (rEqD X.K) := by
  intro pins s σ H x y v u Q I rx ry h
  obtain ⟨d, d', hx, hy, sx, sy, nm, q⟩ := h
  obtain ⟨as, ra⟩ := hx.reads I rx
  obtain ⟨bs, rb⟩ := hy.reads I ry
  exact eq_dataH_same ra rb sx sy hu nm ⟨.bl _, H, I, rfl, q⟩
theorem op_neD (hu : X.A.units + 64 < cLine) : OpR X (compareOp .NotEq) (rNeD X.K) := by
  intro pins s σ H x y v u Q I rx ry h
  obtain ⟨d, d', hx, hy, sx, sy, nm, q⟩ := h
  obtain ⟨as, ra⟩ := hx.reads I rx
  obtain ⟨bs, rb⟩ := hy.reads I ry
  exact ne_dataH_same ra rb sx sy hu nm ⟨.bl _, H, I, rfl, q⟩
end
/-! tests -/
theorem iteI {i j : Int} {A B : Prop} (h1 : i = j → A) (h2 : ¬ i = j → B) : if decide (V.int i = V.int j) = true then A else B := by
  by_cases h : i = j
  · rw [if_pos (decide_eq_true (congrArg V.int h))]; exact h1 h
  · rw [if_neg (by simpa using h)]; exact h2 h
theorem iteNI {i j : Int} {A B : Prop} (h1 : ¬ i = j → A) (h2 : i = j → B) : if (!decide (V.int i = V.int j)) = true then A else B := by
  by_cases h : i = j
  · rw [if_neg (by simpa using h)]; exact h2 h
  · rw [if_pos (by simpa using h)]; exact h1 h
theorem iteP {p A B : Prop} [Decidable p] (h1 : p → A) (h2 : ¬ p → B) : if decide p = true then A else B := by
  by_cases h : p
  · rw [if_pos (decide_eq_true h)]; exact h1 h
  · rw [if_neg (by simpa using h)]; exact h2 h
theorem iteYes {c : Bool} {A B : Prop} (e : c = true) (h : A) : if c = true then A else B := by rw [if_pos e]; exact h
theorem iteNo {c : Bool} {A B : Prop} (e : c = false) (h : B) : if c = true then A else B := by rw [if_neg (by rw [e]; decide)]; exact h
theorem same_upd {H : Hp} {p : Addr} {o : HO} (h : H p = none) : Same H (upd H p o) := fun b u e => by
  rw [upd_ne (ne_of_none e h)]; exact e
end L2
/-! Exceptions over the layer: raise C('..'), calls that may raise, try .. except C as e. -/
namespace L2
open PySem PySem.Spec PyProof.Rows
section
variable {P : Program} {w : World} {H H' : Hp} {h h' : Heap}
theorem HOk.there (x : HOk P w H h) {a : Addr} {o : HO} (e : H a = some o) : ∃ ob, h.get? a = some ob := by
  have y := x a o e
  clear e x
  induction o with
  | lst xs => obtain ⟨_, its, n, r, e⟩ := y; exact ⟨_, e⟩
  | tup xs => obtain ⟨_, its, r, ob, e, c⟩ := y; exact ⟨_, e⟩
  | dK kvs => obtain ⟨_, _, vs, r, ob, es, ep, e, c⟩ := y; exact ⟨_, e⟩
  | dT kvs => obtain ⟨_, _, xs, r, ob, es, ep, e, c⟩ := y; exact ⟨_, e⟩
  | set S n => obtain ⟨ob, es, ep, t, e, c⟩ := y; exact ⟨_, e⟩
  | ins C dx fs => obtain ⟨d, z, ne, e, _⟩ := y; exact ⟨_, e⟩
  | own y' => exact y
  | xd fs => obtain ⟨mA, ⟨od, es, ep, e, c⟩, r⟩ := y; exact ⟨_, e⟩
  | rng lo hi => obtain ⟨t, u, v, e⟩ := y; exact ⟨_, e⟩
  | frz ob u ih => exact ⟨_, y.1⟩
  | tbl ps => exact ⟨_, y⟩
  | met f y' => exact ⟨_, y⟩
  | ext φ => exact y.2.1
theorem HOk.nothing (x : HOk P w H h) {a : Addr} (n : h.get? a = none) : H a = none := by
  cases q : H a with
  | none => rfl
  | some o => obtain ⟨ob, e⟩ := x.there q; rw [n] at e; cases e
/-- what is not tracked may change -/
theorem HOk.loose (x : HOk P w H h) (k : ∀ b u, H b ≠ none → h.get? b = some u → h'.get? b = some u) : HOk P w H h' := fun a o e =>
  (x a o e).stay (fun b u hb q => k b u (by
    rcases hb with z | z
    · rw [z, e]; exact nofun
    · rw [z]; exact nofun) q) (fun _ q => q) fun _ _ q => q
/-- an exception of the own class at C, with its traceback's head, in flight -/
def XT (h : Heap) (a T C : Addr) : Prop := ∃ oe vs a0 oT ts, h.get? a = some oe ∧ (oe.cls = .ref C ∧ vs[0]? = some a0) ∧ oe.data = .fields vs ∧ vs[1]? = some (.ref T) ∧ T ≠ a ∧ h.get? T = some oT ∧ oT.data = .fields ts ∧ ts[3]? = some .none
structure Fly (P : Program) (w : World) (fs : List Addr) (H H' : Hp) (s s' : Shared) (a T C : Addr) : Prop where
  os : s'.os = s.os
  bare : AllBare s'.gens
  un : Un fs [] H H' s.heap s'.heap
  hok : HOk P w H' s'.heap
  xt : XT s'.heap a T C
  na : s.heap.get? a = none
  nT : s.heap.get? T = none
  ha : H' a = none
  hT : H' T = none
/-- how an exception lies behind a call -/
def CX1 (P : Program) (w : World) : CXT := fun outer H s E e s' => ∃ a T C H', e = .ref a ∧ Fly P w (frs outer) H H' s s' a T C ∧ E (.ref C) none H'
theorem funs_rebase {h base base' : Heap} : ∀ {l : List Env}, h.FunFrames base l → (∀ b ∈ frs l, base'.get? b = none) → h.FunFrames base' l
  | [], _, _ => trivial
  | env :: r, ⟨k, ⟨L, o, hf, _, ho, hd⟩, t⟩, hb => ⟨k, ⟨L, o, hf, hb L (by unfold frs; rw [List.filterMap_cons, hf]; exact List.mem_cons_self), ho, hd⟩,
      funs_rebase t fun b hm => hb b (by unfold frs; rw [List.filterMap_cons, hf]; exact List.mem_cons_of_mem _ hm)⟩
abbrev hid (h : Heap) (a T : Addr) (fs : List Addr) : Heap := PySem.W.hideAll h (a :: T :: fs)
end
section
variable {P : Program} {w : World} {H H' : Hp} {s s' : Shared} {a T C : Addr} {l : List Env} {base0 : Heap}
theorem Fly.base (F : Fly P w (frs l) H H' s s' a T C) (ff : s'.heap.FunFrames base0 l) : ∃ a0, Heap.FlyingW (hid s'.heap a T (frs l)) l a (.ref C) a0 s'.heap := by
  obtain ⟨oe, vs, a0, oT, ts, e1, e2, e3, e4, e5, e6, e7, e8⟩ := F.xt
  exact ⟨a0, fun b o e => PySem.W.of_hideAll _ e, PySem.W.hideAll_none _ (by simp), funs_rebase ff fun b hb => PySem.W.hideAll_none _ (by simp [hb]),
    oe, vs, T, oT, ts, e1, e2, e3, e4, PySem.W.hideAll_none _ (by simp), e5, e6, e7, e8⟩
theorem Fly.back {l' : List Env} {h' : Heap} {a0 : Value} {tk : Nat} (F : Fly P w (frs l) H H' s s' a T C) (ff : s'.heap.FunFrames base0 l) (fH : ∀ b ∈ frs l, H' b = none)
    (fl : Heap.FlyingW (hid s'.heap a T (frs l)) l' a (.ref C) a0 h') (up : s'.heap.UpToSlots h') : ∃ T', Fly P w (frs l) H H' s { s' with heap := h', toks := tk } a T' C := by
  obtain ⟨k1, _, _, oe, vs, T', oT, ts, e1, e2, e3, e4, e0, e5, e6, e7, e8⟩ := fl
  have keep : ∀ b o, s'.heap.get? b = some o → b ≠ a → b ≠ T → b ∉ frs l → h'.get? b = some o := fun b o e n1 n2 n3 => k1 b o (PySem.W.hideAll_get _ e (by simp [n1, n2, n3]))
  have slot : ∀ b o, s'.heap.get? b = some o → b ∈ frs l → (∃ sl, h'.get? b = some { o with slots := sl }) ∧ ∀ vs, o.data ≠ .fields vs := fun b o e hb => by
    obtain ⟨_, o1, q1, q2⟩ := ff.mem hb
    rw [e] at q1; cases q1
    exact ⟨up b o e q2, q2⟩
  have nf : T' ∉ frs l := fun hb => by
    obtain ⟨_, o1, q1, q2⟩ := ff.mem hb
    obtain ⟨sl, q3⟩ := up _ o1 q1 q2
    rw [e6] at q3; cases q3
    exact q2 _ e7
  have tt : T' = T ∨ s'.heap.get? T' = none := by
    by_cases z : T' = T
    · exact .inl z
    · right
      cases q : s'.heap.get? T' with
      | none => rfl
      | some o =>
        have := PySem.W.hideAll_get (a :: T :: frs l) q (by simp [e5, z, nf])
        rw [e0] at this; cases this
  have hT' : H' T' = none := by
    rcases tt with z | z
    · rw [z]; exact F.hT
    · exact F.hok.nothing z
  have nT' : s.heap.get? T' = none := by
    rcases tt with z | z
    · rw [z]; exact F.nT
    · cases q : s.heap.get? T' with
      | none => rfl
      | some o =>
        obtain ⟨o', q'⟩ := F.un.there _ o q (by simp)
        rw [z] at q'; cases q'
  have ne : ∀ b o, s.heap.get? b = some o → b ≠ a ∧ b ≠ T := fun b o e => ⟨(fun z => by rw [z, F.na] at e; cases e), (fun z => by rw [z, F.nT] at e; cases e)⟩
  refine ⟨T', F.os, F.bare, ⟨fun b o e n hb hx => ?_, fun b o e n hb hx => ?_, F.un.free, fun b o e hx => ?_, F.un.tups, F.un.frzs, F.un.tbls⟩, F.hok.loose fun b u hb e => ?_, ⟨oe, vs, a0, oT, ts, e1, e2, e3, e4, e5, e6, e7, e8⟩, F.na, nT', F.ha, hT'⟩
  · exact keep b o (F.un.keep b o e n hb hx) (ne b o e).1 (ne b o e).2 hb
  · obtain ⟨sl, q⟩ := F.un.slot b o e n hb hx
    obtain ⟨⟨sl', q'⟩, _⟩ := slot b _ q hb
    exact ⟨sl', q'⟩
  · obtain ⟨o', q⟩ := F.un.there b o e hx
    by_cases hb : b ∈ frs l
    · obtain ⟨⟨sl, q'⟩, _⟩ := slot b o' q hb
      exact ⟨_, q'⟩
    · exact ⟨o', keep b o' q (ne b o e).1 (ne b o e).2 hb⟩
  · exact keep b u e (fun z => hb (z ▸ F.ha)) (fun z => hb (z ▸ F.hT)) fun z => hb (fH b z)
/-- the exception itself is tracked -/
def ExcO (a C : Addr) : HO := .ext fun h => ∃ o, h.get? a = some o ∧ o.cls = .ref C
theorem Fly.un' (F : Fly P w (frs l) H H' s s' a T C) : Un (frs l) [] H (upd H' a (ExcO a C)) s.heap s'.heap where
  keep := F.un.keep
  slot := F.un.slot
  free := fun b o e n hx => by rw [upd_ne (fun z => by rw [z, F.na] at e; cases e)]; exact F.un.free b o e n hx
  there := F.un.there
  tups := fun b xs e => by have := F.un.tups b xs e; rw [upd_ne (ne_of_none this F.ha)]; exact this
  frzs := fun b o u e => by have := F.un.frzs b o u e; rw [upd_ne (ne_of_none this F.ha)]; exact this
  tbls := fun b ps e => by obtain ⟨m, q⟩ := F.un.tbls b ps e; exact ⟨m, by rw [upd_ne (ne_of_none q F.ha)]; exact q⟩
theorem Fly.hok' (F : Fly P w (frs l) H H' s s' a T C) : HOk P w (upd H' a (ExcO a C)) s'.heap := fun b o e => by
  by_cases z : b = a
  · subst z
    rw [upd_same] at e; cases e
    obtain ⟨oe, vs, a0, oT, ts, e1, e2, _⟩ := F.xt
    exact ⟨⟨oe, e1, e2.1⟩, ⟨oe, e1⟩, fun h1 h2 ⟨o, q1, q2⟩ k => ⟨o, k o q1, q2⟩⟩
  · rw [upd_ne z] at e
    exact (F.hok b o e).stay (fun _ _ _ q => q) (fun c q => by rw [upd_ne (ne_of_none q F.ha)]; exact q) fun c xs q => by rw [upd_ne (ne_of_none q F.ha)]; exact q
end

/-! ### in a body -/
/-- an exception at an expression: names and pins are as they were -/
def XP (X : Cx) (pins : List (Addr × Obj)) (σ : St) (E : XK) (e : Value) (s' : Shared) : Prop := ∃ s H, Inv X pins σ H s ∧ CX1 X.prog X.w X.stack H s E e s'
/-- X is the context of a def's body, whose exceptions are wanted as E -/
structure Thru (X : Cx) (E : XK) : Prop where
  stk : X.stack = X.env :: X.outer
  fr : X.env.frame = some X.env.locals
  ex : X.ex = []
  xe : X.xe = fun e s' => wpAny (model X.prog X.w) X.A (leaving X.env e) (fun _ s'' => CX1 X.prog X.w X.outer X.H₀ X.s₀ E e s'') (fun e' s'' => CX1 X.prog X.w X.outer X.H₀ X.s₀ E e' s'') s'
section
variable {X : Cx} {pins : List (Addr × Obj)} {σ : St} {H : Hp} {s s' : Shared} {E : XK} {e : Value}
theorem Fly.inv {H' : Hp} {a T C : Addr} (I : Inv X pins σ H s) (F : Fly X.prog X.w (frs X.stack) H H' s s' a T C) : Inv X pins σ H' s' := I.call' F.os F.un F.hok F.bare (ch := []) (fun _ z => absurd z (by simp))
theorem Fly.inv' {H' : Hp} {a T C : Addr} (I : Inv X pins σ H s) (F : Fly X.prog X.w (frs X.stack) H H' s s' a T C) : Inv X pins σ (upd H' a (ExcO a C)) s' := I.call' F.os F.un' F.hok' F.bare (ch := []) (fun _ z => absurd z (by simp))
/-- from one frame to the frame that called it -/
theorem Fly.out {H' : Hp} {a T C : Addr} (R : Thru X E) (I : Inv X pins σ H s) (F : Fly X.prog X.w (frs X.stack) H H' s s' a T C) (q : E (.ref C) none H') : CX1 X.prog X.w X.outer X.H₀ X.s₀ E (.ref a) s' := by
  have fsub : ∀ b ∈ frs X.outer, b ∈ frs X.stack := fun b hb => by rw [R.stk]; unfold frs; rw [List.filterMap_cons, R.fr]; exact List.mem_cons_of_mem _ hb
  have u0 : Un (frs X.stack) [] X.H₀ H X.s₀.heap s.heap := I.base.mono fsub (by rw [R.ex]; simp)
  have u1 := u0.trans F.un
  have neL : ∀ b o, X.s₀.heap.get? b = some o → b ≠ X.env.locals := fun b o e => Nat.ne_of_lt (Nat.lt_of_lt_of_le (Heap.lt_size e) I.ok.above)
  have nin : ∀ b o, X.s₀.heap.get? b = some o → b ∉ frs X.outer → b ∉ frs X.stack := fun b o e hb hm => by
    rw [R.stk] at hm
    unfold frs at hm
    rw [List.filterMap_cons, R.fr] at hm
    rcases List.mem_cons.mp hm with z | z
    · exact neL b o e z
    · exact hb z
  have none0 : ∀ b, s.heap.get? b = none → X.s₀.heap.get? b = none := fun b n => by
    cases q : X.s₀.heap.get? b with
    | none => rfl
    | some o =>
      obtain ⟨o', q'⟩ := I.base.there b o q (by rw [R.ex]; simp)
      rw [n] at q'; cases q'
  exact ⟨a, T, C, H', rfl, ⟨F.os.trans I.os, F.bare, ⟨fun b o e n hb hx => u1.keep b o e n (nin b o e hb) hx, fun b o e n hb hx => u1.slot b o e n (fsub b hb) hx, u1.free, u1.there, u1.tups, u1.frzs, u1.tbls⟩, F.hok, F.xt, none0 a F.na, none0 T F.nT, F.ha, F.hT⟩, q⟩
/-- an exception that came from a callee leaves this def -/
theorem XP.leave (R : Thru X E) (x : XP X pins σ E e s') : X.xe e s' := by
  obtain ⟨s, H, I, a, T, C, H', rfl, F, q⟩ := x
  have J := F.inv I
  obtain ⟨a0, fl⟩ := F.base J.stack
  rw [R.xe]
  rw [R.stk] at fl
  refine wpAny_leaves_onW (J.ok.frames.trans (by rw [R.stk])) R.fr fl fun h' fl' up => ?_
  rw [← R.stk] at fl'
  obtain ⟨T', F'⟩ := F.back (tk := s'.toks) J.stack J.stkFree fl' up
  exact F'.out R I q
/-- an exception that was made in this def leaves it -/
theorem made_leave {h' : Heap} {a C : Addr} {vs : List Value} (R : Thru X E) (I : Inv X pins σ H s) (m : Heap.MadeExcOf s.heap h' a (.ref C) vs) (q : E (.ref C) none H) : X.xe (.ref a) { s with heap := h' } := by
  have J : Inv X pins σ H { s with heap := h' } := I.kept (t' := s.toks) m.keeps
  obtain ⟨t, he, htn, ht⟩ := m.there
  have ha : H a = none := I.hok.nothing m.new
  rw [R.xe]
  have ff : h'.FunFrames (hid h' a a (frs X.stack)) X.stack := funs_rebase J.stack fun b hb => PySem.W.hideAll_none _ (by simp [hb])
  have ff' : h'.FunFrames (hid h' a a (frs X.stack)) (X.env :: X.outer) := by
    have z := J.stack
    rw [R.stk] at z
    exact funs_rebase z fun b hb => PySem.W.hideAll_none _ (by rw [R.stk]; simp [hb])
  refine wpAny_leaving_firstW (a0 := .ref t) (base := hid h' a a (frs X.stack)) (J.ok.frames.trans (by rw [R.stk])) ff' R.fr he (fun b o e => PySem.W.of_hideAll _ e) (PySem.W.hideAll_none _ (by simp)) rfl rfl rfl fun h2 hL => ?_
  obtain ⟨k1, _, ⟨oe, ws, T', oT, ts, e1, e2, e3, e4, e0, e5, e6, e7, e8⟩, k4⟩ := hL
  have ffm : ∀ b ∈ frs X.stack, ∃ o, h'.get? b = some o ∧ ∀ vs, o.data ≠ .fields vs := fun b hb => (ff.mem hb).2
  have keep : ∀ b o, h'.get? b = some o → b ≠ a → b ∉ frs X.stack → h2.get? b = some o := fun b o e n1 n3 => k1 b o (PySem.W.hideAll_get _ e (by simp [n1, n3]))
  have nf : T' ∉ frs X.stack := fun hb => by
    obtain ⟨o1, q1, q2⟩ := ffm _ hb
    obtain ⟨sl, q3⟩ := k4 _ o1 q1 q2
    rw [e6] at q3; cases q3
    exact q2 _ e7
  have nT : h'.get? T' = none := by
    cases q : h'.get? T' with
    | none => rfl
    | some o =>
      have := PySem.W.hideAll_get (a :: a :: frs X.stack) q (by simp [e5, nf])
      rw [e0] at this; cases this
  have ne : ∀ b o, s.heap.get? b = some o → b ≠ a := fun b o e z => by rw [z, m.new] at e; cases e
  have F' : Fly X.prog X.w (frs X.stack) H H s { s with heap := h2 } a T' C := by
    refine ⟨rfl, I.bare, ⟨fun b o e n hb hx => keep b o (m.keeps b o e) (ne b o e) hb, fun b o e n hb hx => ?_, fun _ _ _ n _ => n, fun b o e hx => ?_, fun _ _ e => e, fun _ _ _ e => e, fun b ps e => ⟨#[], by rw [e]; simp⟩⟩, J.hok.loose fun b u hb e => keep b u e (fun z => hb (z ▸ ha)) fun z => hb (J.stkFree b z),
      ⟨oe, ws, _, oT, ts, e1, e2, e3, e4, e5, e6, e7, e8⟩, m.new, ?_, ha, J.hok.nothing nT⟩
    · obtain ⟨o1, q1, q2⟩ := ffm b hb
      have q3 := m.keeps b o e
      rw [q1] at q3; cases q3
      exact k4 b _ q1 q2
    · by_cases hb : b ∈ frs X.stack
      · obtain ⟨o1, q1, q2⟩ := ffm b hb
        obtain ⟨sl, q3⟩ := k4 b o1 q1 q2
        exact ⟨_, q3⟩
      · exact ⟨o, keep b o (m.keeps b o e) (ne b o e) hb⟩
    · cases q : s.heap.get? T' with
      | none => rfl
      | some o => rw [m.keeps _ o q] at nT; cases nT
  exact F'.out R I q
end
end L2
/-! ### rules -/
namespace L2
open PySem PySem.Spec PyProof.Rows
/-- a class of errors of the text under ValueError -/
abbrev bmV : List Value := [.type "ValueError", .type "Exception", .type "BaseException", .type "object"]
theorem excIn_obj {K : PySem.W.Frag} {h : Heap} {C : Addr} {bmB : List Value} {newId : String} (X : K.In h) (q : PySem.W.excIn K C bmB newId = true) :
    ∃ bm N nm q bs hdct sn sub ab col dd k0 k1 k2 k3 k5 mN, h.get? C = some (excClassObj nm q C N bs bm hdct sn sub ab col dd k0 k1 k2 k3 k5 newId) ∧ h.Ns N mN ∧ mN "__init__" = none ∧ OwnTail h bmB bm := by
  unfold PySem.W.excIn at q
  split at q
  · rename_i dd cd sl ho
    split at q
    · rename_i C' bm k0 k1 k2 k3 n k5 hm hs
      simp only [Bool.and_eq_true, beq_iff_eq, Bool.not_eq_true'] at q
      obtain ⟨⟨⟨⟨⟨rfl, rfl⟩, hdel⟩, ht⟩, hok⟩, hni⟩ := q
      obtain ⟨nm, bs, mro, ns, qn, hd, sn, sub, ab, col, del⟩ := cd
      dsimp only at hm hdel hok hni
      subst hm hdel
      have hsl : sl = #[k0, k1, k2, k3, some (.builtin n), k5] := by
        obtain ⟨l⟩ := sl
        simp only at hs
        rw [hs]
      subst hsl
      exact ⟨bm, ns, nm, qn, bs, hd, sn, sub, ab, col, dd, k0, k1, k2, k3, k5, _, X _ _ ho, .of_isNs (PySem.W.isNs_of_in X hok), PySem.W.nsMap_none_of_in X hok hni, PySem.W.tail_of_in X ht⟩
    · cases q
  · cases q
theorem FnOk.quiet {P : Program} {w : World} {K : PySem.W.Frag} {mg : Str → Option Value} {base : Heap} {k : Nat} {f : Addr} {fd : FuncData} {ps : List Str} {sp : Sp} (F : FnOk P w K mg base (CX1 P w) k f fd ps sp) :
    FnOk P w K mg base CX0 k f fd ps (fun vs H Q _ => sp vs H Q E0) :=
  ⟨fun vs H Q _ h => F.len vs H Q E0 h, fun A outer s H args us vs Q E hr e0 hb r h => codeAny_mono (F.run A outer s H args us vs Q E0 hr e0 hb r h) fun r s' hq => by
    cases r with
    | error e => obtain ⟨_, _, _, _, _, _, z⟩ := hq; exact z.elim
    | ok fl => cases fl <;> exact hq⟩
theorem FnOk.loud {P : Program} {w : World} {K : PySem.W.Frag} {mg : Str → Option Value} {base : Heap} {k : Nat} {f : Addr} {fd : FuncData} {ps : List Str} {sp : Sp} (F : FnOk P w K mg base CX0 k f fd ps sp) : FnOk P w K mg base (CX1 P w) k f fd ps sp :=
  ⟨F.len, fun A outer s H args us vs Q E hr e0 hb r h => codeAny_mono (F.run A outer s H args us vs Q E hr e0 hb r h) fun r s' hq => by
    cases r with
    | error e => exact hq.elim
    | ok fl => cases fl <;> exact hq⟩
section
variable {P : Program} {w : World} {K : PySem.W.Frag} {mg : Str → Option Value} {base : Heap}
theorem Fun.okx {x qual : Str} {st : Stmt} {f : Addr} {fd : FuncData} {N ps : List Str} {k : Nat} {sp : Sp} (F : Fun K x qual st f fd) (S : FnScope N ps (defScope st)) (len : ∀ vs H Q E, sp vs H Q E → vs.length = ps.length)
    (hbody : ∀ (cdv : Value) (A : Around) (outer : List Env) (s : Shared) (H : Hp) (vs : List V) (Q : VK) (E : XK), Room k (A.deeper (envOfC qual (defScope st) s.heap.objs.size f cdv)) → sp vs H Q E →
      ∃ t, PSs (cxOf (CX1 P w) P w K mg base N qual (defScope st) f cdv A outer s H E) (defBody st) t ∧ t { nx := fun _ H' => Q .non H', rt := Q } (start N vs) H) : FnOk P w K mg base (CX1 P w) (k + 1) f fd ps sp := by
  obtain ⟨oc, od, kV, doc, pm, an, cdv, ct, osl, rfl, lk, hcd⟩ := F.ex
  exact fn_of lk hcd S len fun A outer s H vs Q E hr hsp => hbody cdv A outer s H vs Q E hr hsp
theorem thru_cx {N : List Str} {qual : Str} {scope : Scope} {f : Addr} {cd : Value} {A : Around} {outer : List Env} {s : Shared} {H : Hp} {E : XK} : Thru (cxOf (CX1 P w) P w K mg base N qual scope f cd A outer s H E) E := ⟨rfl, rfl, rfl, rfl⟩
end
abbrev TX := St → Hp → VK → XK → Prop
abbrev TSX := Ends → XK → St → Hp → Prop
/-- an expression that may raise -/
def PEX (X : Cx) (e : Expr) (t : TX) : Prop :=
  ∀ (pins : List (Addr × Obj)) (s : Shared) (σ : St) (H : Hp) (Q : VK) (E : XK), Inv X pins σ H s → t σ H Q E → wpAny (model X.prog X.w) X.A (eval e X.env) (EP X pins σ Q) (XP X pins σ E) s
def PSX (X : Cx) (st : Stmt) (t : TSX) : Prop :=
  ∀ (pins : List (Addr × Obj)) (s : Shared) (σ : St) (H : Hp) (D : Ends) (E : XK), Inv X pins σ H s → t D E σ H → wpAny (model X.prog X.w) X.A (exec st X.env) (SP X pins D) (XP X pins σ E) s
def PSXs (X : Cx) (st : List Stmt) (t : TSX) : Prop :=
  ∀ (pins : List (Addr × Obj)) (s : Shared) (σ : St) (H : Hp) (D : Ends) (E : XK), Inv X pins σ H s → t D E σ H → wpAny (model X.prog X.w) X.A (execs st X.env) (SP X pins D) (XP X pins σ E) s
section
variable {X : Cx} {k : Nat} {f C : Addr} {fd : FuncData} {ps : List Str} {sp : Sp} {dvs : List V} {ds : List Value} {E : XK} {x m : Str} {p np cpos pos apos : Pos} {e o : Expr} {es : List Expr} {ta : TE} {t : TA} {tx : TX}
/-- in a def's body: it leaves the def -/
theorem PEX.thru (R : Thru X E) (h : PEX X e tx) : PE X e (fun σ H Q => tx σ H Q E) := fun pins s σ H Q I q => wpAny_mono (h pins s σ H Q E I q) (fun _ _ z => z) fun _ _ z => z.leave R
theorem run_fnX {pins : List (Addr × Obj)} {σ : St} {H : Hp} {s : Shared} {Q : VK} {us : List Value} {vs : List V} (F : FnOk X.prog X.w X.K X.mg X.base (CX1 X.prog X.w) k f fd ps sp) (hr : Room k X.A) (hb : Binds X.K fd ps ds) (hd : Vals dvs ds)
    (I : Inv X pins σ H s) (r : Vals vs us) (h : sp (vs ++ dvs) H Q E) : wpAny (model X.prog X.w) X.A (call (.ref f) us) (EP X pins σ Q) (XP X pins σ E) s := by
  have r2 : Vals (vs ++ dvs) (us ++ ds) := r.append hd
  have hl : (us ++ ds).length = ps.length := by rw [← r2.length]; exact F.len _ _ _ _ h
  refine wpAny_call (codeAny_mono (F.run X.A X.stack s H ⟨us, []⟩ (us ++ ds) (vs ++ dvs) Q E hr I.env0 (hb s us I.kIn hl) r2 h) fun r s' hq => ?_)
  cases r with
  | error e => exact ⟨s, H, I, hq⟩
  | ok fl =>
    cases fl with
    | ret u => exact I.after hq
    | next => exact False.elim hq
    | brk => exact False.elim hq
    | cont => exact False.elim hq
theorem px_call (F : FnOk X.prog X.w X.K X.mg X.base (CX1 X.prog X.w) k f fd ps sp) (hr : Room k X.A) (hg : Gl X x) (hm : X.mg x = some (.ref f)) (hk : PySem.W.keepIn X.K (.ref f) = true) (hb : Binds X.K fd ps ds) (hd : Vals dvs ds)
    (ha : PA X.nox (e :: es) t) (hdb : (x == ("__debug__" : Str)) = false := by decide) (he : starEach (e :: es) X.env = (false, eval e X.env) :: starEach es X.env := by rfl) (hpl : (backTo pos (starEach es X.env)).any (·.1) = false := by rfl) :
    PEX X (.Call (.Name x p) (e :: es) [] pos) (fun σ H Q E => tCall sp dvs E t σ H Q) := by
  intro pins s σ H Q E I h
  refine wpAny_Call_Name_kw (ld_glob I hg hm ?_ hdb)
  exact PySem.W.callWith_K (h₀ := X.base) I.ok.mod.kin hk (wpAny_mono (ha pos pins s σ H _ (I.wish _) h) (fun us s1 ⟨vs, H1, I1, r, q⟩ => ⟨I1.unwish.kIn, run_fnX F hr hb hd I1.unwish r q⟩) fun _ _ z => z.elim) he hpl
theorem px_meth {pl : Sem Bool} (he : PE X.nox o ta) (c : Cls X.K C) (hm : Meth X.K C m f) (F : FnOk X.prog X.w X.K X.mg X.base (CX1 X.prog X.w) k f fd ps sp) (hr : Room k X.A) (hb : Binds X.K fd ps ds) (hd : Vals dvs ds) (ha : PA X.nox (e :: es) t)
    (hst : starEach (e :: es) X.env = (false, eval e X.env) :: starEach es X.env := by rfl) (hpl : (backTo pos (starEach es X.env)).any (·.1) = false := by rfl)
    (ht : eval (.Call (.Attribute o m apos) (e :: es) [] pos) X.env = (do
      let ov ← eval o X.env
      standAt apos.atName
      let (f, first) ← holding [ov] (getMethod ov m pl)
      callWith pos f first (backTo pos (starEach (e :: es) X.env)) (backToKw pos (keywordEach [] X.env))) := by rfl) :
    PEX X (.Call (.Attribute o m apos) (e :: es) [] pos) (fun σ H Q E => tMeth C m sp dvs E ta t σ H Q) := by
  intro pins s σ H Q E I h
  refine PySem.W.methodCall_KW (pl := pl) (wpAny_mono (he pins s σ H _ (I.wish _) h) (fun u s1 ⟨x, H1, I1, rx, a, dx, fs, ex, ea, l, q⟩ => ?_) fun _ _ z => z.elim) ht
  subst ex
  obtain rfl : u = Value.ref a := rx
  refine getmeth_ok I1.unwish ea c hm l ?_
  exact PySem.W.callWith_K (first := [.ref a]) (h₀ := X.base) I.ok.mod.kin hm.kp (wpAny_mono (ha pos pins s1 σ H1 _ I1 q) (fun us s2 ⟨vs, H2, I2, r, q2⟩ => ⟨I2.unwish.kIn, run_fnX (us := .ref a :: us) (vs := .ref a :: vs) F hr hb hd I2.unwish (.cons rfl r) q2⟩) fun _ _ z => z.elim) hst hpl
theorem px_make (M : Mk X.K C f) (F : FnOk X.prog X.w X.K X.mg X.base (CX1 X.prog X.w) k f fd ps sp) (hr : Room (k + 1) X.A) (hg : Gl X x) (hm : X.mg x = some (.ref C)) (hb : Binds X.K fd ps ds) (hd : Vals dvs ds)
    (ha : PA X.nox (e :: es) t) (hdb : (x == ("__debug__" : Str)) = false := by decide) (he : starEach (e :: es) X.env = (false, eval e X.env) :: starEach es X.env := by rfl) (hpl : (backTo pos (starEach es X.env)).any (·.1) = false := by rfl) :
    PEX X (.Call (.Name x p) (e :: es) [] pos) (fun σ H Q E => tMake C sp dvs E t σ H Q) := by
  intro pins s σ H Q E I h
  refine wpAny_Call_Name_kw (ld_glob I hg hm ?_ hdb)
  refine PySem.W.callWith_K (h₀ := X.base) I.ok.mod.kin M.kp (wpAny_mono (ha pos pins s σ H _ (I.wish _) h) (fun us s1 ⟨vs, H1, I1', r, h1⟩ => ⟨I1'.unwish.kIn, ?_⟩) fun _ _ z => z.elim) he hpl
  have I1 : Inv X pins σ H1 s1 := I1'.unwish
  have hq := h1 (s1.heap.objs.size + 1) s1.heap.objs.size (I1.hok.fresh (Nat.le_succ _)) (I1.hok.fresh (Nat.le_refl _)) (Nat.ne_of_lt (Nat.lt_succ_self _))
  have I2 := Inv.made (C := C) I1
  have r2 : Vals (V.ref (s1.heap.objs.size + 1) :: (vs ++ dvs)) (Value.ref (s1.heap.objs.size + 1) :: (us ++ ds)) := .cons rfl (r.append hd)
  have hl : (Value.ref (s1.heap.objs.size + 1) :: us ++ ds).length = ps.length := by
    have e := r2.length
    rw [F.len _ _ _ _ hq] at e
    exact e.symm
  refine wpAny_call (make_map (f := f) I1.kIn M.makes M.init (beq_iff_eq.mp M.fn) (codeAny_mono (F.run _ X.stack _ _ ⟨Value.ref (s1.heap.objs.size + 1) :: us, []⟩ (Value.ref (s1.heap.objs.size + 1) :: (us ++ ds)) _ _ E (hr.make C us [])
    (I2.env0.make C us []) (hb _ (Value.ref (s1.heap.objs.size + 1) :: us) I2.kIn hl) r2 hq) fun r s' hq' => ?_))
  cases r with
  | error e => exact ⟨_, _, I2, hq'⟩
  | ok fl =>
    cases fl with
    | ret u =>
      obtain ⟨v, H', I3, rv, ev, q3⟩ := I2.after hq'
      subst ev
      exact ⟨rv, ⟨V.ref (s1.heap.objs.size + 1), H', I3, rfl, q3⟩⟩
    | next => exact False.elim hq'
    | brk => exact False.elim hq'
    | cont => exact False.elim hq'
/-- raise C(e, ..) -/
def tRaise (E : XK) (C : Addr) (t : TA) : TS := fun _ σ H => t σ H fun vs H1 => vs.length ≤ sizeLine ∧ E (.ref C) none H1
theorem ps_raise (R : Thru X E) (hc : X.calm = true) (q : PySem.W.excIn X.K C bmV "ValueError.__new__" = true) (hg : Gl X x) (hm : X.mg x = some (.ref C)) (ha : PA X.nox (e :: es) t)
    (hdb : (x == ("__debug__" : Str)) = false := by decide) (he : starEach (e :: es) X.env = (false, eval e X.env) :: starEach es X.env := by rfl) (hpl : (backTo cpos (starEach es X.env)).any (·.1) = false := by rfl) :
    PS X (.Raise (some (.Call (.Name x np) (e :: es) [] cpos)) none pos) (tRaise E C t) := by
  intro pins s σ H D I h
  obtain ⟨bm, N, nm, qn, bs, hdct, sn, sub, ab, col, dd, k0, k1, k2, k3, k5, mN, hC, hN, hni, T⟩ := excIn_obj I.mod.kin q
  have hh : X.A.handled = none := I.ok.hd hc
  have ev := ha cpos pins s σ H _ (I.wish _) h
  refine wpAny_Raise_call_subU (C := C) (nm := nm) (q := qn) (N := N) (bs := bs) (bm := bm) (hdct := hdct) (sn := sn) (sub := sub) (ab := ab) (col := col) (dd := dd) (k0 := k0) (k1 := k1) (k2 := k2) (k3 := k3) (k5 := k5)
    PySem.F.excBase_ValueError (by decide) PySem.F.excBase_ValueError (mN := mN) (T.hasType PySem.F.excBase_ValueError.hasBase) hh (by rw [he]; show (false || (backTo cpos (starEach es X.env)).any (·.1)) = false; rw [hpl]; rfl) hni (ld_glob I hg hm ⟨rfl, ?_⟩ hdb)
  rw [he]
  change wpAny _ _ (spliced (backTo cpos (starEach (e :: es) X.env))) _ _ _ at ev
  rw [he] at ev
  refine Calls.evalArgs_plain (wpAny_mono ev (fun us s2 ⟨vs, H1, I1, r, hl, q2⟩ => ?_) fun _ _ z => z.elim)
  have J : Inv X pins σ H1 s2 := I1.unwish
  exact ⟨rfl, by rw [← r.length]; exact hl, J.bk _ _ hC, hN.keeps J.bk, T.keeps J.bk, fun h' a m => made_leave R J m q2⟩
end
end L2

/-! ### try .. except C as e -/
namespace L2
open PySem PySem.Spec PyProof.Rows
/-- the suite of an except clause: the exception at a is handled; none leaves -/
abbrev Cx.caught (X : Cx) (a : Addr) : Cx := { X with A := X.A.mark (some (.ref a)), calm := false, xe := fun _ _ => False }
section
variable {X : Cx} {pins : List (Addr × Obj)} {σ : St} {H : Hp} {s : Shared} {a : Addr}
theorem Inv.catch (I : Inv X pins σ H s) (a : Addr) : Inv (X.caught a) pins σ H s :=
  ⟨⟨I.ok.mod, I.ok.kind, I.ok.glob, I.ok.blt, I.ok.above, I.ok.inj, I.ok.has, I.ok.cab, (fun z => by cases z), I.ok.frames, I.ok.stk, I.ok.exf, I.ok.bs, I.ok.bsz, I.ok.noex, I.ok.exfs, I.ok.funs, I.ok.frf⟩, I.os, I.bare, I.base, I.loc, I.cell, I.free, I.freeC, I.pin, I.hok, I.len⟩
theorem Inv.uncatch (ok : X.Ok) (I : Inv (X.caught a) pins σ H s) : Inv X pins σ H s := ⟨ok, I.os, I.bare, I.base, I.loc, I.cell, I.free, I.freeC, I.pin, I.hok, I.len⟩
/-- a name is unbound -/
theorem Inv.unset {i : Nat} {n : Str} {m : Str → Option Value} {v : Option Value} {h' : Heap} {tk : Nat} (I : Inv X pins σ H s) (hN : X.N.Nodup) (hi : X.N[i]? = some n) (hk : X.env.kindOf n = some .local)
    (hl : ∀ (j : Nat) (x : Str) (v : V), X.N[j]? = some x → σ[j]? = some (some v) → Vis X.env.scope x → ∃ u, RelV v u ∧ Look X.env s.heap m x u)
    (hn' : h'.Ns X.env.locals (fun x => if x = n then v else m x)) (hs : Heap.SameBut X.env.locals s.heap h') : Inv X pins (σ.set i none) H { s with heap := h', toks := tk } := by
  have cne := I.cne
  have hiσ : i < σ.length := by rw [I.len]; exact (List.getElem?_eq_some_iff.mp hi).1
  have nb : ∀ b o, X.s₀.heap.get? b = some o → b ≠ X.env.locals := fun b o e => Nat.ne_of_lt (Nat.lt_of_lt_of_le (Heap.lt_size e) I.ok.above)
  refine ⟨I.ok, I.os, I.bare, ⟨fun b o e n hb hx => ?_, fun b o e n hb hx => ?_, I.base.free, fun b o e hx => ?_, I.base.tups, I.base.frzs, I.base.tbls⟩, ⟨_, hn', fun j y v' e1 e2 e3 => ?_⟩, fun y c e => ?_, I.free, I.freeC, fun p hp => ?_, I.hok.loose fun b u hb e => ?_, by simpa using I.len⟩
  · exact (hs.2 b (nb b o e)).trans (I.base.keep b o e n hb hx)
  · obtain ⟨sl, e1⟩ := I.base.slot b o e n hb hx
    exact ⟨sl, (hs.2 b (nb b o e)).trans e1⟩
  · obtain ⟨o', e1⟩ := I.base.there b o e hx
    exact ⟨o', (hs.2 b (nb b o e)).trans e1⟩
  · by_cases hj : j = i
    · subst hj
      rw [List.getElem?_set_self hiσ] at e2
      cases e2
    · rw [List.getElem?_set_ne (Ne.symm hj)] at e2
      obtain ⟨u', r', q⟩ := hl j y v' e1 e2 e3
      refine ⟨u', r', ?_⟩
      rcases q with ⟨k, e⟩ | ⟨k, c, e, z⟩
      · refine .inl ⟨k, ?_⟩
        have : y ≠ n := fun e => hj (nodup_ix hN e1 (e ▸ hi))
        simp [this, e]
      · exact .inr ⟨k, c, e, z.sameBut hs (cne y c e)⟩
  · obtain ⟨w', z⟩ := I.cell y c e
    exact ⟨w', z.sameBut hs (cne y c e)⟩
  · obtain ⟨e, n, ne, nf, d⟩ := I.pin p hp
    exact ⟨(hs.2 p.1 ne).trans e, n, ne, nf, d⟩
  · exact (hs.2 b fun z => hb (z ▸ I.free)).trans e
end
/-- behind the suite the name is gone -/
abbrev Ends.gone (D : Ends) (i : Nat) : Ends := { nx := fun σ H => D.nx (σ.set i none) H, rt := D.rt, bk := fun σ H => D.bk (σ.set i none) H, ct := fun σ H => D.ct (σ.set i none) H }
def tTry (K : PySem.W.Frag) (Cc : Addr) (i : Nat) (tb : TSX) (ts : TS) : TS := fun D σ H => tb D (fun cls _ H' => ∃ C, cls = .ref C ∧ PySem.W.exmOne K (.ref C) (.ref Cc) = some true ∧
  ∀ a, H' a = none → ts (D.gone i) (σ.set i (some (.ref a))) (upd H' a (ExcO a C))) σ H
section
variable {X : Cx} {e : Expr} {te : TE} {tx : TX} {pos : Pos} {st : Stmt} {t u : TSX}
theorem psx_one (h : PSX X st t) : PSXs X [st] t := by
  intro pins s σ H D E I q
  refine wpAny_execs_cons (thn (h pins s σ H D E I q) fun f s1 q => ?_)
  cases f with
  | next => exact wpAny_execs_nil q
  | ret v => exact q
  | brk => exact q
  | cont => exact q
theorem psx_expr (he : PEX X e tx) (hs : swapsWith e none pos.line X.env = pure false := by rfl) : PSX X (.Expr e pos) (fun D E σ H => tx σ H (fun _ H1 => D.nx σ H1) E) := by
  intro pins s σ H D E I h
  exact wpAny_Expr_any (thn (he pins s σ H _ E I h) fun v s1 ⟨x, H1, I1, r1, q1⟩ => ⟨σ, H1, I1, q1⟩) I.quiet hs
theorem psx_ret (he : PEX X e tx) : PSX X (.Return (some e) pos) (fun D E σ H => tx σ H D.rt E) := by
  intro pins s σ H D E I h
  exact wpAny_Return_some (thn (he pins s σ H _ E I h) fun v s1 ⟨x, H1, I1, r1, q1⟩ => ⟨x, σ, H1, I1, r1, q1⟩)
theorem psx_set {i : Nat} {x : Str} {pos' : Pos} (hN : X.N.Nodup) (hi : X.N[i]? = some x) (hx : Loc X.env.scope x) (he : PEX X e tx) (hs : swapsWith e (some (.Name x pos')) pos.line X.env = pure false := by rfl)
    (hf : X.fn x = true ∨ X.env.scope.names.lookup x = some .local := by first | exact .inl rfl | exact .inr rfl | assumption) : PSX X (.Assign [.Name x pos'] e pos) (fun D E σ H => tx σ H (fun v H1 => D.nx (σ.set i (some v)) H1) E) := by
  intro pins s σ H D E I h
  refine wpAny_Assign_Name (thn (he pins s σ H _ E I h) fun v s1 ⟨y, H1, I1, r1, q1⟩ => ?_) hs
  exact store_ok I1 hN hi hx r1 (fun s2 I2 => ⟨_, H1, I2, q1⟩) hf
theorem psx_if {c : Expr} {a b : List Stmt} {tc : TT} (hc : PT X.nox c tc) (ha : PSXs X a t) (hb : PSXs X b u) : PSX X (.If c a b pos) (fun D E σ H => tc σ H fun k H1 => if k = true then t D E σ H1 else u D E σ H1) := by
  intro pins s σ H D E I h
  refine wpAny_If (wpAny_mono (hc pins s σ H _ (I.wish _) h) (fun d s1 ⟨H1, I1, q1⟩ => ?_) fun _ _ z => z.elim)
  cases d with
  | true => exact ha pins s1 σ H1 D E I1.unwish q1
  | false => exact hb pins s1 σ H1 D E I1.unwish q1
theorem ps_try {body : List Stmt} {c n : Str} {np hpos : Pos} {b₀ : Stmt} {suite : List Stmt} {Cc : Addr} {i : Nat} {ts : TS} (hb : PSXs X body t) (stk : X.stack = X.env :: X.outer) (fr : X.env.frame = some X.env.locals)
    (hN : X.N.Nodup) (hi : X.N[i]? = some n) (hk : X.env.kindOf n = some .local) (hg : Gl X c) (hm : X.mg c = some (.ref Cc)) (hs : ∀ a, PSs (X.caught a) (b₀ :: suite) ts)
    (hdb : (c == ("__debug__" : Str)) = false := by decide) : PS X (.Try body [.ExceptHandler (some (.Name c np)) (some n) (b₀ :: suite) hpos] [] [] pos) (tTry X.K Cc i t ts) := by
  intro pins s σ H D I h
  refine wpAny_Try_except (wpAny_mono (hb pins s σ H D _ I h) (fun f s1 q => ?_) fun e s1 q => ?_)
  · cases f with
    | next => exact wpAny_execs_nil q
    | ret v => exact q
    | brk => exact q
    | cont => exact q
  · obtain ⟨s0, H0, I0, a, T, C, H', rfl, F, C', eC, hx, hq⟩ := q
    cases eC
    have J := F.inv I0
    obtain ⟨a0, fl⟩ := F.base J.stack
    have hfr : X.A.frames = some (X.env :: X.outer) := J.ok.frames.trans (by rw [stk])
    have fl1 := fl
    rw [stk] at fl1
    refine wpAny_looks_onW hfr fr fl1 fun h1 held up1 => ?_
    refine wpAny_landsW held fun h2 fl2 up2 => ?_
    have fl2' := fl2
    rw [← stk] at fl2'
    obtain ⟨T2, F2⟩ := F.back (tk := s1.toks) J.stack J.stkFree fl2' (up1.trans up2)
    have J2 : Inv X pins σ H' { s1 with heap := h2, toks := s1.toks } := F2.inv I0
    obtain ⟨oe, vs, b0, oT, tsx, e1, e2, _⟩ := F2.xt
    have LT : PySem.W.Looks (model X.prog X.w) h2 (typeOf (.ref a)) (.ref C) := e2.1 ▸ (PySem.W.Looks.ld e1).andThen .now
    refine wpAny_handleBy_cons (codeAny_handlers_test (ld_glob (X := X.caught a) (s := { s1 with heap := h2, toks := s1.toks }) (J2.catch a) hg hm ?_ hdb)) (by intro q; cases q)
    refine (PySem.W.exm_one (M := model X.prog X.w) J2.kIn LT hx).here ?_
    refine codeAny_handlers_suite_as ?_
    refine lands_againW fl2 fun h3 fl3 up3 => ?_
    have fl3' := fl3
    rw [← stk] at fl3'
    obtain ⟨T3, F3⟩ := F.back (tk := s1.toks) J.stack J.stkFree fl3' ((up1.trans up2).trans up3)
    have J3 : Inv X pins σ (upd H' a (ExcO a C)) { s1 with heap := h3, toks := s1.toks } := F3.inv' I0
    refine store_ok (X := X) (v := .ref a) J3 hN hi (.inl hk) rfl (fun s4 J4 => ?_) (.inr hk)
    refine wpAny_mono (hs a pins s4 _ _ (D.gone i) (J4.catch a) (hq a F.ha)) (fun fl s5 q => ?_) fun _ _ z => z.elim
    have cl : (X.env.scope.kind == .class || (X.env.scope.kind == .module && X.env.locals != X.env.globals)) = false := by rw [I.ok.kind]; rfl
    cases fl with
    | next =>
      obtain ⟨σ', H5, I5, q5⟩ := q
      have K5 := I5.uncatch I.ok
      obtain ⟨m, hn, hl⟩ := id K5.loc
      exact wpAny_nameGoes_keeps hk hn cl fun h' v hn' hs' => ⟨_, H5, K5.unset hN hi hk hl hn' hs', q5⟩
    | brk =>
      obtain ⟨σ', H5, I5, q5⟩ := q
      have K5 := I5.uncatch I.ok
      obtain ⟨m, hn, hl⟩ := id K5.loc
      exact wpAny_nameGoes_keeps hk hn cl fun h' v hn' hs' => ⟨_, H5, K5.unset hN hi hk hl hn' hs', q5⟩
    | cont =>
      obtain ⟨σ', H5, I5, q5⟩ := q
      have K5 := I5.uncatch I.ok
      obtain ⟨m, hn, hl⟩ := id K5.loc
      exact wpAny_nameGoes_keeps hk hn cl fun h' v hn' hs' => ⟨_, H5, K5.unset hN hi hk hl hn' hs', q5⟩
    | ret u =>
      obtain ⟨vr, σ', H5, I5, rv, q5⟩ := q
      have K5 := I5.uncatch I.ok
      obtain ⟨m, hn, hl⟩ := id K5.loc
      exact wpAny_nameGoes_keeps hk hn cl fun h' v hn' hs' => ⟨vr, _, H5, K5.unset hN hi hk hl hn' hs', rv, q5⟩
end
end L2

/-! ### isinstance of a caught exception -/
namespace Mine
open PySem PySem.W PySem.Spec PySem.Calls PyProof.Rows
section
variable {prog : Program} {w : World} {A : Around} {E : Value → Shared → Prop} {s : Shared} {K : Frag} {x D : Addr} {o : Obj} {c : Value}
theorem check_ga {M : Model} {nameV : Value} {Q : Unit → Shared → Prop} (X : K.In s.heap) (L0 : Looks M s.heap (typeOf (.ref x)) (.ref D)) (hb : mroIn K D (.type "BaseException") = some true) (hq : Q () s) :
    wpAny M A (checkBuiltinCall "BaseException.__getattribute__" ⟨[.ref x, nameV], []⟩) Q E s := by
  obtain ⟨hh, g, d, t, os⟩ := s
  have hk : builtinKind "BaseException.__getattribute__" = some .slot := by decide +kernel
  have hsplit : splitId "BaseException.__getattribute__" = some ("BaseException", "__getattribute__") := by decide +kernel
  have LB := looks_mroIn (M := M) X hb
  have ha := PySem.F.args_bexc_ga (.ref x) nameV
  have LI : Looks M hh (isInstance (.ref x) (.type "BaseException")) true := L0.andThen LB
  simp only [checkBuiltinCall, hk, hsplit]
  refine wpAny_bind (LI.at ?_)
  repeat (any_goals (first | assumption | wp_step))
open Builtin Builtin.Getset_descriptor in
/-- the getter of `__class__`, for any object whose class is known by a look -/
theorem class_get1 {R : Result → Shared → Prop} {tp : Value} (X : K.In s.heap) (L0 : ∀ M : Model, Looks M s.heap (typeOf (.ref x)) (.ref D)) (hm : mroIn K D (.type "object") = some true)
    (hR : R (.ok (.ret (.ref D))) s) : codeAny (model prog w) A (.call (.builtin "getset_descriptor.__get__") ⟨[.builtin "object.__class__", .ref x, tp], []⟩) R s := by
  rcases s with ⟨hp, gn, dn, tk, os⟩
  have look := L0 (model prog w)
  have above := looks_mroIn (M := model prog w) X hm
  have known := KF.slot_gs.check (model prog w) A.in1
  have kind : (⟨hp, gn, dn, tk, os⟩ : Shared).TypeIs (.builtin "object.__class__") "getset_descriptor" := KF.type_class
  apply codeAny_call_builtin KF.slot_gs.plain KF.entry_gs
  apply known _ _ _ _ _ _ kind (KF.args_gs _ _ _)
  delta Builtin.«getset_descriptor.__get__» descrGet
  rw [dga_obj]
  apply wpAny_bind
  apply wpAny_pure
  delta descrGetter descrCheckInstance descrNameAndClass isInstance
  simp only [KF.owner_class]
  repeat lk
  constructor
  · exact Code.quiet_builtin _ (by decide +kernel)
  · apply codeAny_builtin KF.entry_class
    delta Builtin.«object.__class__» shownTypeOf
    repeat lk
    exact hR
theorem class_entry {nm : Tok} {Q : Fin → Shared → Prop} (X : K.In s.heap) (L0 : ∀ M : Model, Looks M s.heap (typeOf (.ref x)) (.ref D)) (ha : findIn K (.ref D) "__class__" = some (some (.builtin "object.__class__")))
    (hm : mroIn K D (.type "object") = some true) (hq : Q (.done (.ret (.ref D))) s) :
    wpAny (model prog w) A (Builtin.«object.__getattribute__» ⟨[.ref x, .str "__class__" nm], []⟩) Q E s := by
  obtain ⟨hh, g, d, t, os⟩ := s
  have L1 := L0 (model prog w)
  have L3 := looks_findIn (M := model prog w) X ha
  have f5 := KF.type_class
  have f6 := PySem.F.slot_gs_get.lookup
  have f7 := PySem.F.slot_gs_set.lookup
  repeat (any_goals (first | assumption | with_reducible refine wpAny_bind (L1.at ?_) | with_reducible refine L1.at ?_ | with_reducible refine wpAny_bind (L3.at ?_) | with_reducible refine L3.at ?_ | wp_step))
  refine class_get1 (D := D) X L0 hm ?_
  repeat (any_goals (first | assumption | wp_step))
theorem class_call {nm : Tok} {R : Result → Shared → Prop} (X : K.In s.heap) (L0 : ∀ M : Model, Looks M s.heap (typeOf (.ref x)) (.ref D)) (ha : findIn K (.ref D) "__class__" = some (some (.builtin "object.__class__")))
    (hm : mroIn K D (.type "object") = some true) (hb : mroIn K D (.type "BaseException") = some true) (hq : R (.ok (.ret (.ref D))) s) :
    codeAny (model prog w) A (.call (.builtin "BaseException.__getattribute__") ⟨[.ref x, .str "__class__" nm], []⟩) R s :=
  codeAny_call_builtin PySem.F.attr_ValueError.ga.plain PySem.F.entry_bexc_ga (check_ga X (L0 _) hb (class_entry X L0 ha hm hq))
theorem exc_class {Q : Option Value → Shared → Prop} (X : K.In s.heap) (L0 : ∀ M : Model, Looks M s.heap (typeOf (.ref x)) (.ref D))
    (hga : findIn K (.ref D) "__getattribute__" = some (some (.builtin "BaseException.__getattribute__"))) (hgt : findIn K (.ref D) "__getattr__" = some none) (ha : findIn K (.ref D) "__class__" = some (some (.builtin "object.__class__")))
    (hm : mroIn K D (.type "object") = some true) (hb : mroIn K D (.type "BaseException") = some true) (h : Q (some (.ref D)) { s with toks := s.toks + 1 }) :
    wpAny (model prog w) A (getAttr? (.ref x) "__class__") Q E s := by
  obtain ⟨hh, g, d, t, os⟩ := s
  have L1 := L0 (model prog w)
  have L2 := looks_findIn (M := model prog w) X hga
  have L3 := looks_findIn (M := model prog w) X hgt
  have f3 := PySem.F.attr_ValueError.ga.bind (.ref x)
  have hx2 : (Value.builtin "BaseException.__getattribute__" == Value.builtin "object.__getattribute__") = false := by decide +kernel
  have hx1 : (onTheHeap (Value.ref D) && Value.builtin "BaseException.__getattribute__" == Value.builtin "object.__getattribute__") = false := by rw [hx2]; rfl
  have hx0 : (false && onTheHeap (Value.builtin "BaseException.__getattribute__")) = false := rfl
  unfold getAttr? getAttrBy? getAttrBy
  refine wpAny_bind (wpAny_mkText (wpAny_bind (wpAny_attempt (wpAny_holding (wpAny_bind (L1.at (wpAny_bind (L2.at ?_))))))))
  simp only [hx1]
  repeat (any_goals (first | assumption | with_reducible refine wpAny_bind (L1.at ?_) | with_reducible refine L1.at ?_ | with_reducible refine wpAny_bind (L3.at ?_) | with_reducible refine L3.at ?_ | wp_step))
  refine class_call (D := D) (s := ⟨hh, g, d, t + 1, os⟩) X (fun M => L0 M) ha hm hb ?_
  show wpAny (model prog w) A (handedOut (Value.ref D)) _ _ _
  exact handed_on rfl (wpAny_pure h)
def ExcAt (x D : Addr) (h : Heap) : Prop := ∃ o, h.get? x = some o ∧ o.cls = .ref D
theorem excAt_ty {M : Model} {h : Heap} (p : ExcAt x D h) : Looks M h (typeOf (.ref x)) (.ref D) := by
  obtain ⟨o, h1, h2⟩ := p
  exact h2 ▸ (Looks.ld h1).andThen .now
theorem kitx_exc
    (hga : findIn K (.ref D) "__getattribute__" = some (some (.builtin "BaseException.__getattribute__"))) (hgt : findIn K (.ref D) "__getattr__" = some none) (ha : findIn K (.ref D) "__class__" = some (some (.builtin "object.__class__")))
    (hm : mroIn K D (.type "object") = some true) (hb : mroIn K D (.type "BaseException") = some true) : KitX K (.ref x) (.ref D) (ExcAt x D) where
  ty := fun _ _ _ p => excAt_ty p
  it := fun _ _ X _ => by
    obtain ⟨cdD, hcD, _⟩ := Option.bind_eq_some_iff.mp (show (clsIn K D).bind _ = some true from hm)
    unfold clsIn at hcD
    split at hcD
    · rename_i c' d' cd' sl' ho
      intro A' Q' E' s' k q
      unfold isType loadHead
      exact wpAny_bind (wpAny_loadPart (k _ _ (X _ _ ho)) (wpAny_pure q))
    · cases hcD
  ne := fun h tp dd its n sl X htp => by
    refine Bool.eq_false_iff.mpr fun q => ?_
    have e : D = tp := Value.ref.inj (beq_iff_eq.mp q)
    subst e
    obtain ⟨cdD, hcD, _⟩ := Option.bind_eq_some_iff.mp (show (clsIn K D).bind _ = some true from hm)
    unfold clsIn at hcD
    split at hcD
    · rename_i c' d' cd' sl' ho
      have z := (X _ _ ho).symm.trans htp
      cases z
    · cases hcD
  ca := fun X p k => exc_class X (fun _ => excAt_ty p) hga hgt ha hm hb k
end
end Mine

namespace L2
open PySem PySem.Spec PyProof.Rows
/-- what isinstance asks of an exception's class -/
structure ExcK (K : PySem.W.Frag) (C : Addr) : Prop where
  ga : PySem.W.findIn K (.ref C) "__getattribute__" = some (some (.builtin "BaseException.__getattribute__"))
  gt : PySem.W.findIn K (.ref C) "__getattr__" = some none
  cl : PySem.W.findIn K (.ref C) "__class__" = some (some (.builtin "object.__class__"))
  ob : PySem.W.mroIn K C (.type "object") = some true
  be : PySem.W.mroIn K C (.type "BaseException") = some true
  ex : PySem.W.excIn K C bmV "ValueError.__new__" = true
def clsV : V → Option Value
  | .ty n => some (.type n)
  | .ref D => some (.ref D)
  | _ => none
section
variable {X : Cx}
/-- isinstance(e, D) of a caught exception -/
def rIsx (K : PySem.W.Frag) : List V → Hp → VK → Prop := fun xs H Q => ∃ a C c cv b, xs = [.ref a, c] ∧ H a = some (ExcO a C) ∧ ExcK K C ∧ clsV c = some cv ∧ PySem.W.kitOne K (.ref C) cv = some b ∧ Q (.bl b) H
theorem call_isx : CallR X (.builtin "isinstance") (rIsx X.K) := by
  intro pins s σ H xs us Q I r h
  obtain ⟨a, C, c, cv, b, rfl, ea, ek, ec, e, q⟩ := h
  cases r with
  | cons rx r1 =>
    cases r1 with
    | cons ry r2 =>
      cases r2
      cases (show _ = Value.ref a from rx)
      have hv : ∀ u, RelV c u → u = cv := fun u ru => by
        cases c with
        | ty n => cases ec; exact ru
        | ref D => cases ec; exact ru
        | _ => cases ec
      cases hv _ ry
      obtain ⟨p, _, _⟩ := (show ObjOk X.prog X.w H s.heap a (ExcO a C) from I.hok a _ ea)
      exact PySem.W.kia_one (Mine.kitx_exc ek.ga ek.gt ek.cl ek.ob ek.be) I.kIn p e (fun z => nomatch z) fun tk => ⟨.bl b, H, I.tok _, rfl, q⟩
theorem call_isxK (K : PySem.W.Frag) (h : X.K = K) : CallR X (.builtin "isinstance") (rIsx K) := h ▸ call_isx
/-- what does not raise, in a body that may -/
theorem PS.nox {st : Stmt} {t : TS} (h : PS X.nox st t) : PS X st t := fun pins s σ H D I hw =>
  wpAny_mono (h pins s σ H D (I.wish _) hw) (fun _ _ q => q.unwish) fun _ _ z => False.elim z
end
end L2

namespace L2
open PySem PySem.Spec PyProof.Rows
theorem boot_VE : bootBuiltins "ValueError" = some (.type "ValueError") := by decide +kernel
section
variable {X : Cx}
theorem op_isnotB : OpR X (compareOp .IsNot) (fun x y H Q => ∃ a b, x = .bl a ∧ y = .bl b ∧ Q (.bl (!decide (a = b))) H) := by
  intro pins s σ H x y v u Q I rx ry h
  obtain ⟨a, b, rfl, rfl, q⟩ := h
  cases rx
  cases ry
  show wpAny _ _ (do return Value.bool (!(← isSame (.bool a) (.bool b)))) _ _ _
  refine wpAny_bind (wpAny_pure (wpAny_pure (fin_bl I q ?_)))
  cases a <;> cases b <;> rfl
end
end L2
namespace Mine
@[irreducible] def dv (a b : Int) : Int := (Int.gcd a b : Int)
theorem dv_nonneg (a b : Int) : 0 ≤ dv a b := by unfold dv; exact Int.natCast_nonneg _
theorem fm (x y : Int) : x.fmod y = x - y * x.fdiv y := Int.fmod_def x y
theorem dv_fmod (a b : Int) : dv b (a.fmod b) = dv a b := by
  unfold dv
  have e : a.fmod b = a - a.fdiv b * b := by rw [Int.fmod_def, Int.mul_comm]
  rw [e, Int.gcd_sub_mul_right_right, Int.gcd_comm]
theorem dv_zero (a : Int) : dv a 0 = (a.natAbs : Int) := by
  unfold dv; rw [Int.gcd_zero_right]
theorem dv_abs (a b : Int) : dv (a.natAbs : Int) (b.natAbs : Int) = dv a b := by
  unfold dv Int.gcd; simp
theorem fmod_abs_lt (a b : Int) (h : b ≠ 0) : (a.fmod b).natAbs < b.natAbs := by
  rcases Int.lt_trichotomy b 0 with hb | hb | hb
  · have e : a.fmod b = -((-a).fmod (-b)) := by
      simp [Int.neg_fmod_neg] 
    have h1 := Int.fmod_nonneg_of_pos (-a) (show 0 < -b by omega)
    have h2 := Int.fmod_lt_of_pos (-a) (show 0 < -b by omega)
    omega
  · exact absurd hb h
  · have h1 := Int.fmod_nonneg_of_pos a hb
    have h2 := Int.fmod_lt_of_pos a hb
    omega
/-- divisor's loop -/
theorem d_turn {a b g r : Int} (h : dv g r = dv a b) (hr : 0 < r) : 0 ≤ r ∧ 0 ≤ g.fmod r ∧ dv r (g.fmod r) = dv a b :=
  ⟨by omega, Int.fmod_nonneg_of_pos g hr, by rw [dv_fmod, h]⟩
theorem d_less {g r : Int} (hr : 0 < r) : (g.fmod r).toNat < r.toNat := by
  have h1 := Int.fmod_nonneg_of_pos g hr
  have h2 := Int.fmod_lt_of_pos g hr
  omega
theorem d_out {a b g r : Int} (h : dv g r = dv a b) (g0 : 0 ≤ g) (r0 : 0 ≤ r) (hr : ¬ 0 < r) : g = dv a b := by
  have e : r = 0 := by omega
  rw [← h, e, dv_zero]; omega
/-- the law's loop -/
theorem l_turn {a b x y : Int} (h : dv x y = dv a b) : dv y (x.fmod y) = dv a b := by rw [dv_fmod, h]
theorem l_out {a b x y : Int} (h : dv x y = dv a b) (hy : y = 0) : (x.natAbs : Int) = dv a b := by
  rw [← h, hy, dv_zero]
/-- what divides -/
theorem dv_left (a b : Int) : ∃ q, a = dv a b * q := by
  obtain ⟨q, hq⟩ := Int.gcd_dvd_left a b
  exact ⟨q, by unfold dv; exact hq⟩
theorem dv_right (a b : Int) : ∃ q, b = dv a b * q := by
  obtain ⟨q, hq⟩ := Int.gcd_dvd_right a b
  exact ⟨q, by unfold dv; exact hq⟩
theorem dv_eq_zero {a b : Int} (h : dv a b = 0) : a = 0 ∧ b = 0 := by
  obtain ⟨q, hq⟩ := dv_left a b
  obtain ⟨r, hr⟩ := dv_right a b
  rw [h] at hq hr
  exact ⟨by omega, by omega⟩
theorem dv_pos {a b : Int} (h : b ≠ 0) : 0 < dv a b := by
  have := dv_nonneg a b
  rcases (by omega : dv a b = 0 ∨ 0 < dv a b) with e | e
  · exact absurd (dv_eq_zero e).2 h
  · exact e
theorem fmod_left (a b : Int) : a.fmod (dv a b) = 0 := by
  obtain ⟨q, hq⟩ := dv_left a b
  have : dv a b ∣ a := ⟨q, hq⟩
  rw [Int.fmod_eq_emod_of_nonneg a (dv_nonneg a b)]
  exact Int.emod_eq_zero_of_dvd this
theorem fmod_right (a b : Int) : b.fmod (dv a b) = 0 := by
  obtain ⟨q, hq⟩ := dv_right a b
  have : dv a b ∣ b := ⟨q, hq⟩
  rw [Int.fmod_eq_emod_of_nonneg b (dv_nonneg a b)]
  exact Int.emod_eq_zero_of_dvd this
theorem dv_le (a b : Int) (h : b ≠ 0) : dv a b ≤ (b.natAbs : Int) := by
  have : Int.gcd a b ≤ b.natAbs := by
    unfold Int.gcd
    exact Nat.gcd_le_right _ (by omega)
  unfold dv; omega
theorem fdiv_mul {g q : Int} (hg : g ≠ 0) : (g * q).fdiv g = q := Int.mul_fdiv_cancel_left q hg
/-- a fraction's top and bottom; the divisor, or its minus where the bottom is below nought -/
@[irreducible] def sg (a b : Int) : Int := if b < 0 then -(dv a b) else dv a b
@[irreducible] def tp (a b : Int) : Int := a.fdiv (sg a b)
@[irreducible] def bt (a b : Int) : Int := b.fdiv (sg a b)
theorem sg_pos {a b : Int} (h : ¬ b < 0) : sg a b = dv a b := by unfold sg; rw [if_neg h]
theorem sg_neg {a b : Int} (h : b < 0) : sg a b = -(dv a b) := by unfold sg; rw [if_pos h]
theorem sg_ne {a b : Int} (h : b ≠ 0) : sg a b ≠ 0 := by
  have := dv_pos (a := a) h
  unfold sg; split <;> omega
theorem tp_mul {a b : Int} (h : b ≠ 0) : sg a b * tp a b = a := by
  obtain ⟨q, hq⟩ := dv_left a b
  have hs := sg_ne (a := a) h
  have : ∃ k, a = sg a b * k := by
    unfold sg; split
    · exact ⟨-q, by rw [Int.neg_mul_neg]; exact hq⟩
    · exact ⟨q, hq⟩
  obtain ⟨k, hk⟩ := this
  have e : tp a b = k := by
    unfold tp
    conv => lhs; lhs; rw [hk]
    exact fdiv_mul hs
  rw [e]; exact hk.symm
theorem bt_mul {a b : Int} (h : b ≠ 0) : sg a b * bt a b = b := by
  obtain ⟨q, hq⟩ := dv_right a b
  have hs := sg_ne (a := a) h
  have : ∃ k, b = sg a b * k := by
    unfold sg; split
    · exact ⟨-q, by rw [Int.neg_mul_neg]; exact hq⟩
    · exact ⟨q, hq⟩
  obtain ⟨k, hk⟩ := this
  have e : bt a b = k := by
    unfold bt
    conv => lhs; lhs; rw [hk]
    exact fdiv_mul hs
  rw [e]; exact hk.symm
theorem bt_pos {a b : Int} (h : b ≠ 0) : 0 < bt a b := by
  have e := bt_mul (a := a) h
  have g := dv_pos (a := a) h
  rcases (by omega : 0 < bt a b ∨ bt a b ≤ 0) with p | p
  · exact p
  · exfalso
    by_cases hb : b < 0
    · rw [sg_neg hb, Int.neg_mul] at e
      have := Int.mul_nonpos_of_nonneg_of_nonpos (Int.le_of_lt g) p
      omega
    · rw [sg_pos hb] at e
      have := Int.mul_nonpos_of_nonneg_of_nonpos (Int.le_of_lt g) p
      omega
theorem cross {a b : Int} (h : b ≠ 0) : tp a b * b = a * bt a b := by
  have e1 := tp_mul (a := a) h
  have e2 := bt_mul (a := a) h
  calc tp a b * b = tp a b * (sg a b * bt a b) := by rw [e2]
    _ = (sg a b * tp a b) * bt a b := by rw [Int.mul_comm (sg a b) (tp a b), Int.mul_assoc]
    _ = a * bt a b := by rw [e1]
theorem natAbs_sg (a b : Int) : (sg a b).natAbs = Int.gcd a b := by
  unfold sg dv; split <;> omega
theorem gcd_scale {a b s t u : Int} (e1 : s * t = a) (e2 : s * u = b) : Int.gcd a b = s.natAbs * Int.gcd t u := by
  rw [← e1, ← e2, Int.gcd_mul_left]
theorem low {a b : Int} (h : b ≠ 0) : dv (tp a b) (bt a b) = 1 := by
  have e := gcd_scale (tp_mul (a := a) h) (bt_mul (a := a) h)
  rw [natAbs_sg] at e
  have p := dv_pos (a := a) h
  have q : 0 < Int.gcd a b := by unfold dv at p; omega
  have : Int.gcd a b * Int.gcd (tp a b) (bt a b) = Int.gcd a b * 1 := by rw [← e, Nat.mul_one]
  have := Nat.eq_of_mul_eq_mul_left q this
  unfold dv; rw [this]; rfl
/-- one tuple alone for each fraction -/
theorem coprime_eq {a b c d : Int} (hb : 0 < b) (hd : 0 < d) (h1 : dv a b = 1) (h2 : dv c d = 1) (e : a * d = c * b) : a = c ∧ b = d := by
  have g1 : Nat.Coprime b.natAbs a.natAbs := by
    have : Int.gcd a b = 1 := by unfold dv at h1; omega
    unfold Int.gcd at this
    exact Nat.Coprime.symm this
  have g2 : Nat.Coprime d.natAbs c.natAbs := by
    have : Int.gcd c d = 1 := by unfold dv at h2; omega
    unfold Int.gcd at this
    exact Nat.Coprime.symm this
  have en : a.natAbs * d.natAbs = c.natAbs * b.natAbs := by rw [← Int.natAbs_mul, ← Int.natAbs_mul, e]
  have d1 : b.natAbs ∣ d.natAbs := g1.dvd_of_dvd_mul_left ⟨c.natAbs, by rw [en, Nat.mul_comm]⟩
  have d2 : d.natAbs ∣ b.natAbs := g2.dvd_of_dvd_mul_left ⟨a.natAbs, by rw [← en, Nat.mul_comm]⟩
  have eb : b.natAbs = d.natAbs := Nat.dvd_antisymm d1 d2
  have ebd : b = d := by omega
  refine ⟨?_, ebd⟩
  rw [ebd] at e
  exact Int.eq_of_mul_eq_mul_right (by omega) e
theorem tp_uniq {a b x y : Int} (h : b ≠ 0) (hy : 0 < y) (hl : dv x y = 1) (e : a * y = x * b) : tp a b = x ∧ bt a b = y := by
  refine coprime_eq (bt_pos h) hy (low h) hl ?_
  have c := cross (a := a) h
  -- tp*y = x*bt : multiply by b
  have : (tp a b * y) * b = (x * bt a b) * b := by
    calc (tp a b * y) * b = (tp a b * b) * y := by rw [Int.mul_assoc, Int.mul_comm y b, ← Int.mul_assoc]
      _ = (a * bt a b) * y := by rw [c]
      _ = (a * y) * bt a b := by rw [Int.mul_assoc, Int.mul_comm (bt a b) y, ← Int.mul_assoc]
      _ = (x * b) * bt a b := by rw [e]
      _ = (x * bt a b) * b := by rw [Int.mul_assoc, Int.mul_comm b, ← Int.mul_assoc]
  exact Int.eq_of_mul_eq_mul_right h this
/-- sizes -/
theorem natAbs_fdiv_le (a s : Int) (k : Int) (e : s * k = a) (hs : s ≠ 0) : k.natAbs ≤ a.natAbs := by
  have : a.natAbs = s.natAbs * k.natAbs := by rw [← e, Int.natAbs_mul]
  rw [this]
  exact Nat.le_mul_of_pos_left _ (by omega)
theorem tp_le {a b : Int} (h : b ≠ 0) : (tp a b).natAbs ≤ a.natAbs := natAbs_fdiv_le a _ _ (tp_mul h) (sg_ne h)
theorem bt_le {a b : Int} (h : b ≠ 0) : (bt a b).natAbs ≤ b.natAbs := natAbs_fdiv_le b _ _ (bt_mul h) (sg_ne h)

/-- fractions added and multiplied -/
theorem same_cross {a b c d : Int} (hb : b ≠ 0) (hd : d ≠ 0) (e : a * d = c * b) : tp a b = tp c d ∧ bt a b = bt c d := by
  refine tp_uniq hb (bt_pos hd) (low hd) ?_
  have h := cross (a := c) hd
  have : (a * bt c d) * d = (tp c d * b) * d := by
    calc (a * bt c d) * d = (a * d) * bt c d := by rw [Int.mul_assoc, Int.mul_comm (bt c d) d, ← Int.mul_assoc]
      _ = (c * b) * bt c d := by rw [e]
      _ = (c * bt c d) * b := by rw [Int.mul_assoc, Int.mul_comm b, ← Int.mul_assoc]
      _ = (tp c d * d) * b := by rw [h]
      _ = (tp c d * b) * d := by rw [Int.mul_assoc, Int.mul_comm d b, ← Int.mul_assoc]
  exact Int.eq_of_mul_eq_mul_right hd this
theorem lo_self {x y : Int} (hy : 0 < y) (hl : dv x y = 1) : tp x y = x ∧ bt x y = y := tp_uniq (by omega) hy hl rfl
theorem ne_mul {a b : Int} (ha : a ≠ 0) (hb : b ≠ 0) : a * b ≠ 0 := Int.mul_ne_zero ha hb
/- over letters: x = (a, b), y = (c, d), z = (e, f); T/B the sum's or product's top and bottom -/
theorem plus_assoc {a b c d e f T B T' B' : Int} (hb : b ≠ 0) (hd : d ≠ 0) (hf : f ≠ 0) (hB : B ≠ 0) (hB' : B' ≠ 0)
    (h1 : T * (b * d) = (a * d + c * b) * B) (h2 : T' * (d * f) = (c * f + e * d) * B') :
    tp (T * f + e * B) (B * f) = tp (a * B' + T' * b) (b * B') ∧ bt (T * f + e * B) (B * f) = bt (a * B' + T' * b) (b * B') := by
  refine same_cross (ne_mul hB hf) (ne_mul hb hB') ?_
  have k : ((T * f + e * B) * (b * B')) * ((b * d) * (d * f)) = ((a * B' + T' * b) * (B * f)) * ((b * d) * (d * f)) := by
    grind
  exact Int.eq_of_mul_eq_mul_right (ne_mul (ne_mul hb hd) (ne_mul hd hf)) k
theorem times_assoc {a b c d e f T B T' B' : Int} (hb : b ≠ 0) (hd : d ≠ 0) (hf : f ≠ 0) (hB : B ≠ 0) (hB' : B' ≠ 0)
    (h1 : T * (b * d) = (a * c) * B) (h2 : T' * (d * f) = (c * e) * B') :
    tp (T * e) (B * f) = tp (a * T') (b * B') ∧ bt (T * e) (B * f) = bt (a * T') (b * B') := by
  refine same_cross (ne_mul hB hf) (ne_mul hb hB') ?_
  have k : ((T * e) * (b * B')) * ((b * d) * (d * f)) = ((a * T') * (B * f)) * ((b * d) * (d * f)) := by
    grind
  exact Int.eq_of_mul_eq_mul_right (ne_mul (ne_mul hb hd) (ne_mul hd hf)) k
theorem distrib {a b c d e f T B P U R V : Int} (hb : b ≠ 0) (hd : d ≠ 0) (hf : f ≠ 0) (hB : B ≠ 0) (hU : U ≠ 0) (hV : V ≠ 0)
    (h1 : T * (d * f) = (c * f + e * d) * B) (h2 : P * (b * d) = (a * c) * U) (h3 : R * (b * f) = (a * e) * V) :
    tp (a * T) (b * B) = tp (P * V + R * U) (U * V) ∧ bt (a * T) (b * B) = bt (P * V + R * U) (U * V) := by
  refine same_cross (ne_mul hb hB) (ne_mul hU hV) ?_
  have k : ((a * T) * (U * V)) * ((d * f) * ((b * d) * (b * f))) = ((P * V + R * U) * (b * B)) * ((d * f) * ((b * d) * (b * f))) := by
    grind
  exact Int.eq_of_mul_eq_mul_right (ne_mul (ne_mul hd hf) (ne_mul (ne_mul hb hd) (ne_mul hb hf))) k
theorem plus_comm {a b c d : Int} : tp (a * d + c * b) (b * d) = tp (c * b + a * d) (d * b) ∧ bt (a * d + c * b) (b * d) = bt (c * b + a * d) (d * b) := by
  rw [Int.add_comm, Int.mul_comm b d]; exact ⟨rfl, rfl⟩
theorem times_comm {a b c d : Int} : tp (a * c) (b * d) = tp (c * a) (d * b) ∧ bt (a * c) (b * d) = bt (c * a) (d * b) := by
  rw [Int.mul_comm a c, Int.mul_comm b d]; exact ⟨rfl, rfl⟩
theorem plus_zero {a b : Int} (hb : 0 < b) (hl : dv a b = 1) : tp (a * 1 + 0 * b) (b * 1) = a ∧ bt (a * 1 + 0 * b) (b * 1) = b := by
  have e1 : a * 1 + 0 * b = a := by omega
  have e2 : b * 1 = b := by omega
  rw [e1, e2]; exact lo_self hb hl
theorem zero_plus {a b : Int} (hb : 0 < b) (hl : dv a b = 1) : tp (0 * b + a * 1) (1 * b) = a ∧ bt (0 * b + a * 1) (1 * b) = b := by
  have e1 : 0 * b + a * 1 = a := by omega
  have e2 : 1 * b = b := by omega
  rw [e1, e2]; exact lo_self hb hl
theorem times_one {a b : Int} (hb : 0 < b) (hl : dv a b = 1) : tp (a * 1) (b * 1) = a ∧ bt (a * 1) (b * 1) = b := by
  rw [Int.mul_one, Int.mul_one]; exact lo_self hb hl
theorem one_times {a b : Int} (hb : 0 < b) (hl : dv a b = 1) : tp (1 * a) (1 * b) = a ∧ bt (1 * a) (1 * b) = b := by
  rw [Int.one_mul, Int.one_mul]; exact lo_self hb hl
theorem dv01 : dv 0 1 = 1 := by unfold dv; decide
theorem dv11 : dv 1 1 = 1 := by unfold dv; decide
theorem times_zero {a b : Int} (hb : 0 < b) : tp (a * 0) (b * 1) = 0 ∧ bt (a * 0) (b * 1) = 1 :=
  tp_uniq (by omega) (by omega) dv01 (by omega)
theorem zero_times {a b : Int} (hb : 0 < b) : tp (0 * a) (1 * b) = 0 ∧ bt (0 * a) (1 * b) = 1 :=
  tp_uniq (by omega) (by omega) dv01 (by omega)
theorem plus_minus {a b : Int} (hb : 0 < b) : tp (a * b + -a * b) (b * b) = 0 ∧ bt (a * b + -a * b) (b * b) = 1 := by
  refine tp_uniq (ne_mul (by omega) (by omega)) (by omega) dv01 ?_
  rw [Int.neg_mul]; omega
theorem dv_neg (a b : Int) : dv (-a) b = dv a b := by unfold dv; rw [Int.neg_gcd]
theorem dv_comm (a b : Int) : dv a b = dv b a := by unfold dv; rw [Int.gcd_comm]
/-- the inverse: fraction (b, a) -/
theorem times_inv {a b : Int} (ha : a ≠ 0) (hb : b ≠ 0) : tp (a * tp b a) (b * bt b a) = 1 ∧ bt (a * tp b a) (b * bt b a) = 1 := by
  refine tp_uniq (ne_mul hb (Int.ne_of_gt (bt_pos ha))) (by omega) (by unfold dv; decide) ?_
  have := cross (a := b) ha
  grind
theorem inv_inv {a b : Int} (ha : a ≠ 0) (hb : 0 < b) (hl : dv a b = 1) : tp (bt b a) (tp b a) = a ∧ bt (bt b a) (tp b a) = b := by
  have c := cross (a := b) ha
  have p := bt_pos (a := b) ha
  have t0 : tp b a ≠ 0 := by
    intro e
    rw [e] at c
    have := Int.mul_pos hb p
    omega
  refine tp_uniq t0 hb hl ?_
  grind

open PySem
@[irreducible] def num (c : Int) : Int := if c.fmod 3 = 0 then (c.fdiv 3).fmod 19 - 9 else if c.fmod 3 = 1 then (c.fdiv 3).fmod 2000003 - 1000001 else (c.fdiv 3).fmod 1999999999999999999999999999999 - 999999999999999999999999999999
theorem num_a {c : Int} (h : c.fmod 3 = 0) : (c.fdiv 3).fmod 19 - 9 = num c := by unfold num; rw [if_pos h]
theorem num_b {c : Int} (h : ¬ c.fmod 3 = 0) (h1 : c.fmod 3 = 1) : (c.fdiv 3).fmod 2000003 - 1000001 = num c := by unfold num; rw [if_neg h, if_pos h1]
theorem num_c {c m k : Int} (h : ¬ c.fmod 3 = 0) (h1 : ¬ c.fmod 3 = 1) (hm : m = 1999999999999999999999999999999) (hk : k = 999999999999999999999999999999) : (c.fdiv 3).fmod m - k = num c := by unfold num; rw [if_neg h, if_neg h1, hm, hk]
theorem num_in (c : Int) : -1000000000000000000000000000000 < num c ∧ num c < 1000000000000000000000000000000 := by
  have h (a m : Int) (hm : 0 < m) : 0 ≤ a.fmod m ∧ a.fmod m < m := ⟨Int.fmod_nonneg_of_pos a hm, Int.fmod_lt_of_pos a hm⟩
  have h1 := h (c.fdiv 3) 19 (by decide)
  have h2 := h (c.fdiv 3) 2000003 (by decide)
  have h3 := h (c.fdiv 3) 1999999999999999999999999999999 (by decide)
  unfold num; split
  · omega
  · split <;> omega
theorem abs_start (a b : Int) : dv (if a < 0 then -a else a) (if b < 0 then -b else b) = dv a b := by
  have e : ∀ x : Int, (if x < 0 then -x else x) = (x.natAbs : Int) := fun x => by split <;> omega
  rw [e, e, dv_abs]
theorem start1 (a b : Int) : 0 ≤ (if a < 0 then -a else a) ∧ 0 ≤ (if b < 0 then -b else b) ∧ dv (if a < 0 then -a else a) (if b < 0 then -b else b) = dv a b :=
  ⟨by split <;> omega, by split <;> omega, abs_start a b⟩
theorem out2 {a b x y : Int} (h : dv x y = dv a b) (hy : y = 0) : (if x < 0 then -x else x) = dv a b := by
  rw [← l_out h hy]; split <;> omega

structure S1 (x : Int) : Prop where
  lo : -10000000000000000000000000000000 ≤ x
  hi : x ≤ 10000000000000000000000000000000
structure S2 (x : Int) : Prop where
  lo : -1000000000000000000000000000000000000000000000000000000000000000 ≤ x
  hi : x ≤ 1000000000000000000000000000000000000000000000000000000000000000
structure Po (x : Int) : Prop where
  lo : 0 < x
theorem num_sm (c : Int) : S1 (num c) := ⟨by have := num_in c; omega, by have := num_in c; omega⟩
theorem S1.two {x : Int} (h : S1 x) : S2 x := ⟨by have := h.lo; omega, by have := h.hi; omega⟩
theorem S1.max_abs {n : Int} (h : S1 n) : S1 (if (if n < 0 then -n else n) > 1 then (if n < 0 then -n else n) else 1) := ⟨by have := h.lo; have := h.hi; omega, by have := h.lo; have := h.hi; omega⟩
theorem Po.max_abs {n : Int} : Po (if (if n < 0 then -n else n) > 1 then (if n < 0 then -n else n) else 1) := ⟨by omega⟩
theorem S1.zero : S1 0 := ⟨by decide, by decide⟩
theorem S1.one : S1 1 := ⟨by decide, by decide⟩
theorem Po.one : Po 1 := ⟨by decide⟩
theorem S2.lt {y : Int} (h : S2 y) : y.natAbs < 2 ^ 210 := by
  have : (2 : Nat) ^ 210 > 1000000000000000000000000000000000000000000000000000000000000000 := by decide
  have := h.lo
  have := h.hi
  omega
theorem S2.log {y : Int} (h : S2 y) : y.natAbs.log2 < 9000 := by
  by_cases e : y.natAbs = 0
  · rw [e]; decide
  · rw [Nat.log2_lt e]
    exact Nat.lt_of_lt_of_le h.lt (Nat.pow_le_pow_right (by decide) (by decide))
theorem S2.bits {y : Int} (h : S2 y) : Builtin.Int.intBits y ≤ 2 ^ 20 :=
  intBits_le_iff.mpr (Nat.lt_of_lt_of_le h.lt (Nat.pow_le_pow_right (by decide) (by decide)))
theorem mul_in {x y : Int} (hx : S1 x) (hy : S1 y) : -100000000000000000000000000000000000000000000000000000000000000 ≤ x * y ∧ x * y ≤ 100000000000000000000000000000000000000000000000000000000000000 := by
  have x0 := hx.lo
  have x1 := hx.hi
  have y0 := hy.lo
  have y1 := hy.hi
  have h : (x * y).natAbs = x.natAbs * y.natAbs := Int.natAbs_mul x y
  have k : x.natAbs * y.natAbs ≤ 10000000000000000000000000000000 * 10000000000000000000000000000000 := Nat.mul_le_mul (by omega) (by omega)
  omega
theorem S2.mul {x y : Int} (hx : S1 x) (hy : S1 y) : S2 (x * y) := ⟨by have := mul_in hx hy; omega, by have := mul_in hx hy; omega⟩
theorem S2.sum {x y c d : Int} (hx : S1 x) (hy : S1 y) (hc : S1 c) (hd : S1 d) : S2 (x * y + c * d) := ⟨by have := mul_in hx hy; have := mul_in hc hd; omega, by have := mul_in hx hy; have := mul_in hc hd; omega⟩
theorem Po.mul {x y : Int} (hx : Po x) (hy : Po y) : Po (x * y) := ⟨Int.mul_pos hx.lo hy.lo⟩
theorem Po.ne {x : Int} (h : Po x) : x ≠ 0 := by have := h.lo; omega
theorem Po.sg {a b : Int} (h : Po b) : dv a b = sg a b := (sg_pos (by have := h.lo; omega)).symm
theorem S1.tp {a b : Int} (h : S1 a) (p : Po b) : S1 (tp a b) := by
  have l := tp_le (a := a) p.ne
  have := h.lo
  have := h.hi
  exact ⟨by omega, by omega⟩
theorem S2.tp {a b : Int} (h : S2 a) (p : Po b) : S2 (tp a b) := by
  have l := tp_le (a := a) p.ne
  have := h.lo
  have := h.hi
  exact ⟨by omega, by omega⟩
theorem S1.bt {a b : Int} (h : S1 b) (p : Po b) : S1 (bt a b) := by
  have l := bt_le (a := a) p.ne
  have := h.lo
  have := h.hi
  exact ⟨by omega, by omega⟩
theorem S2.bt {a b : Int} (h : S2 b) (p : Po b) : S2 (bt a b) := by
  have l := bt_le (a := a) p.ne
  have := h.lo
  have := h.hi
  exact ⟨by omega, by omega⟩
theorem Po.bt {a b : Int} (p : Po b) : Po (bt a b) := ⟨bt_pos p.ne⟩
theorem S2.dv {a b : Int} (h : S2 b) (p : Po b) : S2 (dv a b) := by
  have := dv_le a b p.ne
  have := dv_nonneg a b
  have := h.lo
  have := h.hi
  exact ⟨by omega, by omega⟩
/-- a weight: small enough, in lowest terms -/
structure Low (a b : Int) : Prop where
  one : dv a b = 1
theorem lz {a b : Int} (p : Po b) (l : Low a b) : tp (a * 1 + 0 * b) (b * 1) = a ∧ bt (a * 1 + 0 * b) (b * 1) = b := plus_zero p.lo l.one
theorem zl {a b : Int} (p : Po b) (l : Low a b) : tp (0 * b + a * 1) (1 * b) = a ∧ bt (0 * b + a * 1) (1 * b) = b := zero_plus p.lo l.one
theorem lo1 {a b : Int} (p : Po b) (l : Low a b) : tp (a * 1) (b * 1) = a ∧ bt (a * 1) (b * 1) = b := times_one p.lo l.one
theorem ol {a b : Int} (p : Po b) (l : Low a b) : tp (1 * a) (1 * b) = a ∧ bt (1 * a) (1 * b) = b := one_times p.lo l.one
theorem lt0 {a b : Int} (p : Po b) : tp (a * 0) (b * 1) = 0 ∧ bt (a * 0) (b * 1) = 1 := times_zero p.lo
theorem cp {a b c d : Int} (_ : Low (tp (c * b + a * d) (d * b)) (bt (c * b + a * d) (d * b))) : tp (a * d + c * b) (b * d) = tp (c * b + a * d) (d * b) ∧ bt (a * d + c * b) (b * d) = bt (c * b + a * d) (d * b) := plus_comm
theorem ct {a b c d : Int} (_ : Low (tp (c * a) (d * b)) (bt (c * a) (d * b))) : tp (a * c) (b * d) = tp (c * a) (d * b) ∧ bt (a * c) (b * d) = bt (c * a) (d * b) := times_comm
end Mine
namespace Mine
/-- a prime, as trial tells it -/
def Pr (p : Nat) : Prop := 2 ≤ p ∧ ∀ d, 2 ≤ d → d * d ≤ p → ¬ p % d = 0
theorem Pr.div {p d : Nat} (h : Pr p) (hd : d ∣ p) : d = 1 ∨ d = p := by
  obtain ⟨k, hk⟩ := hd
  have p2 := h.1
  rcases (by omega : d = 0 ∨ d = 1 ∨ 2 ≤ d) with e | e | e
  · rw [e, Nat.zero_mul] at hk; omega
  · exact .inl e
  · rcases (by omega : k = 0 ∨ k = 1 ∨ 2 ≤ k) with f | f | f
    · rw [f, Nat.mul_zero] at hk; omega
    · rw [f, Nat.mul_one] at hk; exact .inr hk.symm
    · exfalso
      rcases Nat.le_total d k with g | g
      · have : d * d ≤ p := by rw [hk]; exact Nat.mul_le_mul_left d g
        exact h.2 d e this (by rw [hk]; exact Nat.mul_mod_right d k)
      · have : k * k ≤ p := by rw [hk]; exact Nat.mul_le_mul_right k g
        exact h.2 k f this (by rw [hk]; exact Nat.mul_mod_left d k)
theorem Pr.cop {p a : Nat} (h : Pr p) (ha : ¬ p ∣ a) : Nat.Coprime p a := by
  have d1 := Nat.gcd_dvd_left p a
  have d2 := Nat.gcd_dvd_right p a
  rcases h.div d1 with e | e
  · exact e
  · rw [e] at d2; exact absurd d2 ha
theorem Pr.mul {p a b : Nat} (h : Pr p) (hd : p ∣ a * b) : p ∣ a ∨ p ∣ b := by
  by_cases c : p ∣ a
  · exact .inl c
  · exact .inr ((h.cop c).dvd_of_dvd_mul_left hd)
theorem small {p a : Nat} (h0 : 0 < a) (h1 : a < p) : ¬ p ∣ a := fun h => by
  have := Nat.le_of_dvd h0 h
  omega
/-- lists that are the numbers below n -/
theorem hole : ∀ (n : Nat) (l : List Nat), l.Nodup → (∀ a ∈ l, a < n) → l.length ≤ n
  | 0, l, _, h => by
    cases l with
    | nil => exact Nat.le_refl 0
    | cons a r => exact absurd (h a (List.mem_cons_self ..)) (by omega)
  | n + 1, l, nd, h => by
    by_cases c : n ∈ l
    · have e := List.length_erase_of_mem c
      have := hole n (l.erase n) (nd.erase n) (fun a ha => by
        have m := (List.Nodup.mem_erase_iff nd).mp ha
        have := h a m.2
        have := m.1
        omega)
      omega
    · have := hole n l nd (fun a ha => by
        have := h a ha
        have : a ≠ n := fun e => c (e ▸ ha)
        omega)
      omega
theorem perm : ∀ (n : Nat) (l : List Nat), l.Nodup → (∀ a ∈ l, a < n) → l.length = n → l.Perm (List.range n)
  | 0, l, _, _, e => by
    have : l = [] := List.length_eq_zero_iff.mp e
    rw [this]; exact List.Perm.refl _
  | n + 1, l, nd, h, e => by
    by_cases c : n ∈ l
    · have e' := List.length_erase_of_mem c
      have i := perm n (l.erase n) (nd.erase n) (fun a ha => by
        have m := (List.Nodup.mem_erase_iff nd).mp ha
        have := h a m.2
        have := m.1
        omega) (by omega)
      have q := List.perm_cons_erase c
      refine q.trans ?_
      rw [List.range_succ]
      exact (i.cons n).trans (List.perm_append_singleton n (List.range n)).symm
    · have := hole n l nd (fun a ha => by
        have := h a ha
        have : a ≠ n := fun e => c (e ▸ ha)
        omega)
      omega
def pd : List Nat → Nat
  | [] => 1
  | a :: r => a * pd r
theorem pd_perm {l m : List Nat} (h : l.Perm m) : pd l = pd m := by
  induction h with
  | nil => rfl
  | cons a _ ih => show a * _ = a * _; rw [ih]
  | swap a b l => show b * (a * _) = a * (b * _); rw [← Nat.mul_assoc, ← Nat.mul_assoc, Nat.mul_comm b a]
  | trans _ _ i j => exact i.trans j
theorem pd_cop {p : Nat} (h : Pr p) : ∀ (l : List Nat), (∀ a ∈ l, ¬ p ∣ a) → ¬ p ∣ pd l
  | [], _ => fun d => by
    have := Nat.le_of_dvd (by decide) d
    have := h.1
    have e : pd [] = 1 := rfl
    omega
  | a :: r, g => fun d => by
    rcases h.mul d with e | e
    · exact g a (List.mem_cons_self ..) e
    · exact pd_cop h r (fun b hb => g b (List.mem_cons_of_mem _ hb)) e
theorem pd_mod (p x : Nat) : ∀ (l : List Nat), pd (l.map fun i => x * i % p) % p = x ^ l.length * pd l % p
  | [] => by simp [pd]
  | a :: r => by
    have ih := pd_mod p x r
    show (x * a % p) * pd (r.map fun i => x * i % p) % p = x ^ (r.length + 1) * (a * pd r) % p
    rw [Nat.mul_mod, Nat.mod_mod, ih, ← Nat.mul_mod, Nat.pow_succ]
    congr 1
    grind
theorem fermat {p x : Nat} (h : Pr p) (hx : ¬ p ∣ x) : x ^ (p - 1) % p = 1 := by
  have p2 := h.1
  let f : Nat → Nat := fun i => x * (i + 1) % p - 1
  have pos : ∀ i, i < p - 1 → 0 < x * (i + 1) % p := fun i hi => by
    rcases Nat.eq_zero_or_pos (x * (i + 1) % p) with e | e
    · rcases h.mul (Nat.dvd_of_mod_eq_zero e) with d | d
      · exact absurd d hx
      · exact absurd d (small (by omega) (by omega))
    · exact e
  have lt : ∀ i, x * (i + 1) % p < p := fun i => Nat.mod_lt _ (by omega)
  have inj : ∀ i j, i < p - 1 → j < p - 1 → i < j → x * (i + 1) % p ≠ x * (j + 1) % p := fun i j hi hj ij e => by
    have d : p ∣ x * (j + 1) - x * (i + 1) := by
      apply Nat.dvd_of_mod_eq_zero
      exact Nat.sub_mod_eq_zero_of_mod_eq e.symm
    rw [← Nat.mul_sub] at d
    rcases h.mul d with d | d
    · exact hx d
    · exact small (by omega) (by omega) d
  have nd : ((List.range (p - 1)).map f).Nodup := by
    rw [List.nodup_iff_pairwise_ne, List.pairwise_map]
    refine List.Pairwise.imp_of_mem ?_ (List.pairwise_lt_range (n := p - 1))
    intro a b ha hb ab e
    have ha := List.mem_range.mp ha
    have hb := List.mem_range.mp hb
    have e : x * (a + 1) % p - 1 = x * (b + 1) % p - 1 := e
    have := pos a ha
    have := pos b hb
    exact inj a b ha hb ab (by omega)
  have pm := perm (p - 1) ((List.range (p - 1)).map f) nd (fun a ha => by
    obtain ⟨i, hi, e⟩ := List.mem_map.mp ha
    have := pos i (List.mem_range.mp hi)
    have := lt i
    have e : x * (i + 1) % p - 1 = a := e
    omega) (by simp)
  have pm2 := pd_perm (pm.map (· + 1))
  have same : ((List.range (p - 1)).map f).map (· + 1) = ((List.range (p - 1)).map (· + 1)).map (fun i => x * i % p) := by
    rw [List.map_map, List.map_map]
    refine List.map_congr_left fun i hi => ?_
    have := pos i (List.mem_range.mp hi)
    show x * (i + 1) % p - 1 + 1 = x * (i + 1) % p
    omega
  rw [same] at pm2
  have q := pd_mod p x ((List.range (p - 1)).map (· + 1))
  rw [pm2, List.length_map, List.length_range] at q
  generalize hF : pd ((List.range (p - 1)).map (· + 1)) = F at q
  have cF : ¬ p ∣ F := by
    rw [← hF]
    refine pd_cop h _ fun a ha => ?_
    obtain ⟨i, hi, e⟩ := List.mem_map.mp ha
    have := List.mem_range.mp hi
    exact small (by omega) (by omega)
  -- q : F % p = x^(p-1) * F % p
  have d : p ∣ (x ^ (p - 1) - 1) * F := by
    apply Nat.dvd_of_mod_eq_zero
    rw [Nat.sub_mul, Nat.one_mul]
    exact Nat.sub_mod_eq_zero_of_mod_eq q.symm
  have xp : 0 < x ^ (p - 1) := Nat.pow_pos (by
    rcases Nat.eq_zero_or_pos x with e | e
    · exact absurd (e ▸ Nat.dvd_zero p) hx
    · exact e)
  rcases h.mul d with d | d
  · obtain ⟨k, hk⟩ := d
    have e : x ^ (p - 1) = 1 + p * k := by omega
    rw [e, Nat.add_mul_mod_self_left]
    exact Nat.mod_eq_of_lt (by omega)
  · exact absurd d cF
/-! residues, over Int, as the model writes them -/
theorem fe {a p : Int} (hp : 0 < p) : a.fmod p = a % p := Int.fmod_eq_emod_of_nonneg a (Int.le_of_lt hp)
theorem em1 (a b p : Int) : (a % p * b) % p = (a * b) % p := by rw [Int.mul_emod, Int.emod_emod_of_dvd a (Int.dvd_refl p), ← Int.mul_emod]
theorem em2 (a b p : Int) : (a * (b % p)) % p = (a * b) % p := by rw [Int.mul_comm, em1, Int.mul_comm]
theorem en1 (a p : Int) : (-(a % p)) % p = (-a) % p := by
  have := em2 (-1) a p
  rw [Int.neg_one_mul, Int.neg_one_mul] at this
  exact this
theorem r_in {a p : Int} (hp : 0 < p) : 0 ≤ a.fmod p ∧ a.fmod p < p := ⟨Int.fmod_nonneg_of_pos a hp, Int.fmod_lt_of_pos a hp⟩
theorem r_pa {x y z p : Int} (hp : 0 < p) : ((x + y).fmod p + z).fmod p = (x + (y + z).fmod p).fmod p := by
  simp only [fe hp, Int.emod_add_emod, Int.add_emod_emod, Int.add_assoc]
theorem r_ta {x y z p : Int} (hp : 0 < p) : ((x * y).fmod p * z).fmod p = (x * (y * z).fmod p).fmod p := by
  simp only [fe hp, em1, em2, Int.mul_assoc]
theorem r_d {x y z p : Int} (hp : 0 < p) : (x * (y + z).fmod p).fmod p = ((x * y).fmod p + (x * z).fmod p).fmod p := by
  simp only [fe hp, em2, Int.emod_add_emod, Int.add_emod_emod, Int.mul_add]
theorem r_self {x p : Int} (h0 : 0 ≤ x) (h1 : x < p) : x.fmod p = x := by
  rw [fe (by omega)]; exact Int.emod_eq_of_lt h0 h1
theorem r_pm {x p : Int} (hp : 0 < p) : (x + (-x).fmod p).fmod p = 0 := by
  simp only [fe hp, Int.add_emod_emod]; rw [Int.add_right_neg]; exact Int.zero_emod p
theorem r_mm {x p : Int} (h0 : 0 ≤ x) (h1 : x < p) : (-((-x).fmod p)).fmod p = x := by
  have hp : 0 < p := by omega
  simp only [fe hp]
  rw [en1, Int.neg_neg]; exact Int.emod_eq_of_lt h0 h1
/-- the law's look at a residue: it differs by a multiple -/
theorem r_less {x p : Int} (hp : 0 < p) : (x - x.fmod p).fmod p = 0 := by
  simp only [fe hp]
  rw [Int.sub_emod, Int.emod_emod_of_dvd x (Int.dvd_refl p), Int.sub_self]; exact Int.zero_emod p
/-- the inverse -/
def ri (p x : Int) : Int := (x ^ (p.toNat - 2)) % p
theorem pw_nat (x : Int) (h : 0 ≤ x) (k : Nat) : x ^ k = ((x.toNat ^ k : Nat) : Int) := by
  have : (x.toNat : Int) = x := Int.toNat_of_nonneg h
  rw [Int.natCast_pow, this]
theorem ri_in {p x : Int} (hp : 0 < p) : 0 ≤ ri p x ∧ ri p x < p := ⟨Int.emod_nonneg _ (by omega), Int.emod_lt_of_pos _ hp⟩
theorem ri_one {p x : Int} (h : Pr p.toNat) (h0 : 0 < x) (h1 : x < p) : (x * ri p x).fmod p = 1 := by
  have p2 := h.1
  have hp : 0 < p := by omega
  rw [fe hp]
  unfold ri
  rw [em2]
  have e : x * x ^ (p.toNat - 2) = x ^ (p.toNat - 1) := by
    have : p.toNat - 1 = (p.toNat - 2) + 1 := by omega
    rw [this, Int.pow_succ, Int.mul_comm]
  rw [e, pw_nat x (by omega)]
  have f := fermat h (small (p := p.toNat) (a := x.toNat) (by omega) (by omega))
  have : ((x.toNat ^ (p.toNat - 1) % p.toNat : Nat) : Int) = ((1 : Nat) : Int) := by rw [f]
  rw [Int.natCast_emod, Int.toNat_of_nonneg (by omega)] at this
  exact this
theorem ri_pos {p x : Int} (h : Pr p.toNat) (h0 : 0 < x) (h1 : x < p) : 0 < ri p x := by
  have hp : 0 < p := by omega
  have b := ri_in (x := x) hp
  rcases (by omega : ri p x = 0 ∨ 0 < ri p x) with e | e
  · have o := ri_one h h0 h1
    rw [e, Int.mul_zero, r_self (by omega) hp] at o
    omega
  · exact e
theorem ri_ri {p x : Int} (h : Pr p.toNat) (h0 : 0 < x) (h1 : x < p) : ri p (ri p x) = x := by
  have hp : 0 < p := by omega
  have a := ri_one h h0 h1
  have b := ri_in (x := x) hp
  have c := ri_pos h h0 h1
  have d := ri_one h c b.2
  have e := ri_in (x := ri p x) hp
  -- ri (ri x) = (x * ri x) * ri (ri x) = x
  have k1 : (x * (ri p x * ri p (ri p x)).fmod p).fmod p = x := by rw [d, Int.mul_one]; exact r_self (by omega) h1
  have k2 : ((x * ri p x).fmod p * ri p (ri p x)).fmod p = ri p (ri p x) := by rw [a, Int.one_mul]; exact r_self e.1 e.2
  rw [← k2, r_ta hp, k1]
/-- the loop -/
def RInv (p x : Int) (left product square : Int) : Prop := (product * square ^ left.toNat) % p = (x ^ (p.toNat - 2)) % p ∧ (0 ≤ product ∧ product < p)
theorem ri_start {p x : Int} (h : 2 ≤ p) : RInv p x (p - 2) 1 x := by
  refine ⟨?_, by omega, by omega⟩
  have : (p - 2).toNat = p.toNat - 2 := by omega
  rw [this, Int.one_mul]
theorem pw_em (a p : Int) (k : Nat) : ((a % p) ^ k) % p = (a ^ k) % p := by
  induction k with
  | zero => rw [Int.pow_zero, Int.pow_zero]
  | succ k ih => rw [Int.pow_succ, Int.pow_succ, em2, Int.mul_comm, ← em2, ih, em2, Int.mul_comm]
theorem ri_odd {p x l a s : Int} (hp : 0 < p) (h : RInv p x l a s) (h0 : 0 < l) (o : l % 2 = 1) : RInv p x (l.fdiv 2) ((a * s).fmod p) ((s * s).fmod p) := by
  have hl : l.toNat = 2 * (l.fdiv 2).toNat + 1 := by
    rw [Int.fdiv_eq_ediv_of_nonneg l (by decide)]; omega
  refine ⟨?_, r_in hp⟩
  rw [← h.1, hl, fe hp, fe hp, em1]
  generalize (l.fdiv 2).toNat = k
  have e : (a * s) * ((s * s) % p) ^ k % p = (a * s) * (s * s) ^ k % p := by
    rw [← em2, pw_em, em2]
  rw [e, Int.pow_succ, Int.pow_mul]
  have : s ^ 2 = s * s := by rw [Int.pow_succ, Int.pow_succ, Int.pow_zero, Int.one_mul]
  rw [this]
  congr 1
  grind
theorem ri_even {p x l a s : Int} (hp : 0 < p) (h : RInv p x l a s) (h0 : 0 < l) (o : l % 2 ≠ 1) : RInv p x (l.fdiv 2) a ((s * s).fmod p) := by
  have hl : l.toNat = 2 * (l.fdiv 2).toNat := by
    rw [Int.fdiv_eq_ediv_of_nonneg l (by decide)]; omega
  refine ⟨?_, h.2⟩
  rw [← h.1, hl, fe hp]
  generalize (l.fdiv 2).toNat = k
  rw [← em2, pw_em, em2, Int.pow_mul]
  have : s ^ 2 = s * s := by rw [Int.pow_succ, Int.pow_succ, Int.pow_zero, Int.one_mul]
  rw [this]
theorem ri_out {p x l a s : Int} (h : RInv p x l a s) (h0 : ¬ 0 < l) : a = ri p x := by
  have : l.toNat = 0 := by omega
  have e := h.1
  rw [this, Int.pow_zero, Int.mul_one, Int.emod_eq_of_lt h.2.1 h.2.2] at e
  exact e
/-- primes by trial -/
def PI (n : Int) : Prop := 2 ≤ n ∧ ∀ d : Int, 2 ≤ d → d * d ≤ n → ¬ n.fmod d = 0
theorem PI.nat {n : Int} (h : PI n) : Pr n.toNat := by
  refine ⟨by have := h.1; omega, fun d hd hdd e => ?_⟩
  have n2 := h.1
  have hn : (n.toNat : Int) = n := Int.toNat_of_nonneg (by omega)
  refine h.2 (d : Int) (by omega) ?_ ?_
  · have : ((d * d : Nat) : Int) ≤ (n.toNat : Int) := by omega
    rw [hn] at this
    rw [← Int.natCast_mul]; exact this
  · rw [fe (by omega), ← hn, ← Int.natCast_emod, e]; rfl
noncomputable def isP (n : Int) : Bool := @decide (PI n) (Classical.propDecidable _)
theorem isP_true {n : Int} (h : isP n = true) : PI n := @of_decide_eq_true _ (Classical.propDecidable _) h
theorem isP_of {n : Int} (h : PI n) : isP n = true := @decide_eq_true _ (Classical.propDecidable _) h
theorem isP_false {n : Int} (h : ¬ PI n) : isP n = false := @decide_eq_false _ (Classical.propDecidable _) h
theorem sq_lt {d f n : Int} (hd : 2 ≤ d) (hf : 2 ≤ f) (h : d * d ≤ n) (g : ¬ f * f ≤ n) : d < f := by
  rcases Int.lt_or_le d f with e | e
  · exact e
  · have : f * f ≤ d * d := Int.mul_le_mul e e (by omega) (by omega)
    omega
theorem sq_le {f n : Int} (hf : 2 ≤ f) (h : f * f ≤ n) : f + 1 ≤ n := by
  have : 2 * f ≤ f * f := Int.mul_le_mul_of_nonneg_right hf (by omega)
  omega
theorem p_small {n : Int} (h : n < 2) : false = isP n := by rw [isP_false]; intro c; have := c.1; omega
theorem p_hit {n f : Int} (hf : 2 ≤ f) (h : f * f ≤ n) (e : n.fmod f = 0) : false = isP n := by
  rw [isP_false]; exact fun c => c.2 f hf h e
theorem p_out {n f : Int} (n2 : 2 ≤ n) (hf : 2 ≤ f) (g : ¬ f * f ≤ n) (h : ∀ d : Int, 2 ≤ d → d < f → ¬ n.fmod d = 0) : true = isP n := by
  rw [isP_of]; exact ⟨n2, fun d hd hdd => h d hd (sq_lt hd hf hdd g)⟩
theorem p_turn {n f : Int} (h : ∀ d : Int, 2 ≤ d → d < f → ¬ n.fmod d = 0) (e : ¬ n.fmod f = 0) : ∀ d : Int, 2 ≤ d → d < f + 1 → ¬ n.fmod d = 0 := by
  intro d hd h1
  rcases (by omega : d < f ∨ d = f) with c | c
  · exact h d hd c
  · rw [c]; exact e
theorem p_check (n k : Nat) (h2 : 2 ≤ n) (hk : n < k * k) (h : (List.range k).all (fun d => d < 2 || n % d != 0) = true) : isP (n : Int) = true := by
  refine isP_of ⟨by omega, fun d hd hdd e => ?_⟩
  have hk2 : ¬ (k : Int) * (k : Int) ≤ (n : Int) := by
    have : ((n : Nat) : Int) < ((k * k : Nat) : Int) := by omega
    rw [Int.natCast_mul] at this; omega
  have kk : 2 ≤ (k : Int) := by
    rcases (by omega : k = 0 ∨ k = 1 ∨ 2 ≤ k) with c | c | c
    · subst c; omega
    · subst c; omega
    · omega
  have lt := sq_lt hd kk hdd hk2
  have dn : (d.toNat : Int) = d := Int.toNat_of_nonneg (by omega)
  have := List.all_eq_true.mp h d.toNat (List.mem_range.mpr (by omega))
  rw [← dn, fe (by omega), ← Int.natCast_emod] at e
  have e' : n % d.toNat = 0 := by omega
  simp [e'] at this
  omega
theorem p907 : isP 907 = true := p_check 907 31 (by decide) (by decide) (by decide +kernel)
theorem p999983 : isP 999983 = true := p_check 999983 1000 (by decide) (by decide) (by decide +kernel)
theorem p65537 : isP 65537 = true := p_check 65537 257 (by decide) (by decide) (by decide +kernel)
theorem p2 : isP 2 = true := p_check 2 2 (by decide) (by decide) (by decide +kernel)
theorem p3 : isP 3 = true := p_check 3 2 (by decide) (by decide) (by decide +kernel)
theorem p5 : isP 5 = true := p_check 5 3 (by decide) (by decide) (by decide +kernel)
theorem p7 : isP 7 = true := p_check 7 3 (by decide) (by decide) (by decide +kernel)
theorem p11 : isP 11 = true := p_check 11 4 (by decide) (by decide) (by decide +kernel)
theorem p13 : isP 13 = true := p_check 13 4 (by decide) (by decide) (by decide +kernel)
theorem p101 : isP 101 = true := p_check 101 11 (by decide) (by decide) (by decide +kernel)
end Mine
/-! The four kinds of weights as semirings. -/
namespace Mine
open PySem PySem.SeqAt
structure SR where
  W : Type
  add : W → W → W
  mul : W → W → W
  zero : W
  one : W
  add_comm : ∀ x y, add x y = add y x
  add_assoc : ∀ x y z, add (add x y) z = add x (add y z)
  mul_comm : ∀ x y, mul x y = mul y x
  mul_assoc : ∀ x y z, mul (mul x y) z = mul x (mul y z)
  distrib : ∀ x y z, mul x (add y z) = add (mul x y) (mul x z)
  add_zero : ∀ x, add x zero = x
  mul_one : ∀ x, mul x one = x
  mul_zero : ∀ x, mul x zero = zero
  zo : zero ≠ one
  sz : Nat → W → Prop
  sz_mono : ∀ m n x, m ≤ n → sz m x → sz n x
  sz_add : ∀ m n x y, sz m x → sz n y → sz (m + n + 1) (add x y)
  sz_mul : ∀ m n x y, sz m x → sz n y → sz (m + n) (mul x y)
  sz_zero : sz 0 zero
  sz_one : sz 0 one
  data : W → PyData
  sh : ∀ x, shaped (data x) = true
  nm : ∀ x y, noMix (data x) (data y) = true
  eq : ∀ x, PySem.Spec.same (data x) (data x) = true
  ne : ∀ x y, x ≠ y → PySem.Spec.same (data x) (data y) = false
structure Fr where
  t : Int
  b : Int
  p : 0 < b
  l : dv t b = 1
theorem Fr.eq_of {x y : Fr} (h1 : x.t = y.t) (h2 : x.b = y.b) : x = y := by
  cases x; cases y; cases h1; cases h2; rfl
theorem Fr.nb (x : Fr) : x.b ≠ 0 := by have := x.p; omega
def Fr.of (a b : Int) (h : 0 < b) : Fr := ⟨tp a b, bt a b, bt_pos (by omega), low (by omega)⟩
theorem Fr.of_cross (a b : Int) (h : 0 < b) : (Fr.of a b h).t * b = a * (Fr.of a b h).b := cross (by omega)
def Fr.add (x y : Fr) : Fr := Fr.of (x.t * y.b + y.t * x.b) (x.b * y.b) (Int.mul_pos x.p y.p)
def Fr.mul (x y : Fr) : Fr := Fr.of (x.t * y.t) (x.b * y.b) (Int.mul_pos x.p y.p)
def Fr.zero : Fr := ⟨0, 1, by decide, dv01⟩
def Fr.one : Fr := ⟨1, 1, by decide, dv11⟩
def Fr.sz (n : Nat) (x : Fr) : Prop := x.t.natAbs ≤ 2 ^ n ∧ x.b.natAbs ≤ 2 ^ n
theorem pw_add (m n : Nat) : (2 : Nat) ^ (m + n) = 2 ^ m * 2 ^ n := Nat.pow_add 2 m n
theorem mul_sz {a b : Int} {m n : Nat} (h1 : a.natAbs ≤ 2 ^ m) (h2 : b.natAbs ≤ 2 ^ n) : (a * b).natAbs ≤ 2 ^ (m + n) := by
  rw [Int.natAbs_mul, pw_add]; exact Nat.mul_le_mul h1 h2
theorem sum_sz {a b c d : Int} {m n : Nat} (h1 : a.natAbs ≤ 2 ^ m) (h2 : b.natAbs ≤ 2 ^ n) (h3 : c.natAbs ≤ 2 ^ n) (h4 : d.natAbs ≤ 2 ^ m) : (a * b + c * d).natAbs ≤ 2 ^ (m + n + 1) := by
  have k1 := mul_sz h1 h2
  have k2 := mul_sz h3 h4
  rw [Nat.add_comm n m] at k2
  have k3 : (a * b + c * d).natAbs ≤ (a * b).natAbs + (c * d).natAbs := Int.natAbs_add_le _ _
  have k4 : (2 : Nat) ^ (m + n + 1) = 2 ^ (m + n) * 2 := Nat.pow_succ ..
  omega
theorem of_sz {a b : Int} {h : 0 < b} {m : Nat} (h1 : a.natAbs ≤ 2 ^ m) (h2 : b.natAbs ≤ 2 ^ m) : (Fr.of a b h).sz m :=
  ⟨Nat.le_trans (tp_le (by omega)) h1, Nat.le_trans (bt_le (by omega)) h2⟩
theorem pw_le {m n : Nat} (h : m ≤ n) : (2 : Nat) ^ m ≤ 2 ^ n := Nat.pow_le_pow_right (by decide) h
def frSR : SR where
  W := Fr
  add := Fr.add
  mul := Fr.mul
  zero := Fr.zero
  one := Fr.one
  add_comm x y := Fr.eq_of plus_comm.1 plus_comm.2
  add_assoc x y z :=
    have h := plus_assoc (f := z.b) (e := z.t) x.nb y.nb z.nb (Fr.add x y).nb (Fr.add y z).nb (Fr.of_cross _ _ (Int.mul_pos x.p y.p)) (Fr.of_cross _ _ (Int.mul_pos y.p z.p))
    Fr.eq_of h.1 h.2
  mul_comm x y := Fr.eq_of times_comm.1 times_comm.2
  mul_assoc x y z :=
    have h := times_assoc (f := z.b) (e := z.t) x.nb y.nb z.nb (Fr.mul x y).nb (Fr.mul y z).nb (Fr.of_cross _ _ (Int.mul_pos x.p y.p)) (Fr.of_cross _ _ (Int.mul_pos y.p z.p))
    Fr.eq_of h.1 h.2
  distrib x y z :=
    have h := distrib (a := x.t) (f := z.b) (e := z.t) x.nb y.nb z.nb (Fr.add y z).nb (Fr.mul x y).nb (Fr.mul x z).nb (Fr.of_cross _ _ (Int.mul_pos y.p z.p)) (Fr.of_cross _ _ (Int.mul_pos x.p y.p)) (Fr.of_cross _ _ (Int.mul_pos x.p z.p))
    Fr.eq_of h.1 h.2
  add_zero x := Fr.eq_of (plus_zero x.p x.l).1 (plus_zero x.p x.l).2
  mul_one x := Fr.eq_of (times_one x.p x.l).1 (times_one x.p x.l).2
  mul_zero x := Fr.eq_of (times_zero x.p).1 (times_zero x.p).2
  zo h := by have : (0 : Int) = 1 := congrArg Fr.t h; omega
  sz := Fr.sz
  sz_mono m n x h s := ⟨Nat.le_trans s.1 (pw_le h), Nat.le_trans s.2 (pw_le h)⟩
  sz_add m n x y h1 h2 := of_sz (sum_sz h1.1 h2.2 h2.1 h1.2) (Nat.le_trans (mul_sz h1.2 h2.2) (pw_le (Nat.le_succ _)))
  sz_mul m n x y h1 h2 := of_sz (mul_sz h1.1 h2.1) (mul_sz h1.2 h2.2)
  sz_zero := ⟨by decide, by decide⟩
  sz_one := ⟨by decide, by decide⟩
  data x := .tuple [.int x.t, .int x.b]
  sh x := rfl
  nm x y := by simp [noMix, noMixAll]
  eq x := by simp [PySem.Spec.same, PySem.Spec.sameAll]
  ne x y h := by
    simp [PySem.Spec.same, PySem.Spec.sameAll]
    intro h1 h2
    exact h (Fr.eq_of h1 h2)
structure Re (p : Int) where
  x : Int
  h0 : 0 ≤ x
  h1 : x < p
theorem Re.eq_of {p : Int} {a b : Re p} (h : a.x = b.x) : a = b := by cases a; cases b; cases h; rfl
def Re.of (p : Int) (hp : 0 < p) (x : Int) : Re p := ⟨x.fmod p, (r_in hp).1, (r_in hp).2⟩
def resSR (p : Int) (hp : 2 ≤ p) : SR where
  W := Re p
  add a b := Re.of p (by omega) (a.x + b.x)
  mul a b := Re.of p (by omega) (a.x * b.x)
  zero := ⟨0, by omega, by omega⟩
  one := ⟨1, by omega, by omega⟩
  add_comm a b := Re.eq_of (by show (a.x + b.x).fmod p = (b.x + a.x).fmod p; rw [Int.add_comm])
  add_assoc a b c := Re.eq_of (r_pa (by omega))
  mul_comm a b := Re.eq_of (by show (a.x * b.x).fmod p = (b.x * a.x).fmod p; rw [Int.mul_comm])
  mul_assoc a b c := Re.eq_of (r_ta (by omega))
  distrib a b c := Re.eq_of (r_d (by omega))
  add_zero a := Re.eq_of (by show (a.x + 0).fmod p = a.x; rw [Int.add_zero]; exact r_self a.h0 a.h1)
  mul_one a := Re.eq_of (by show (a.x * 1).fmod p = a.x; rw [Int.mul_one]; exact r_self a.h0 a.h1)
  mul_zero a := Re.eq_of (by show (a.x * 0).fmod p = 0; rw [Int.mul_zero]; exact r_self (by omega) (by omega))
  zo h := by have : (0 : Int) = 1 := congrArg Re.x h; omega
  sz _ _ := True
  sz_mono _ _ _ _ _ := trivial
  sz_add _ _ _ _ _ _ := trivial
  sz_mul _ _ _ _ _ _ := trivial
  sz_zero := trivial
  sz_one := trivial
  data a := .int a.x
  sh _ := rfl
  nm _ _ := by simp [noMix]
  eq _ := by simp [PySem.Spec.same]
  ne a b h := by
    simp [PySem.Spec.same]
    intro e
    exact h (Re.eq_of e)
def cAdd : Option Int → Option Int → Option Int
  | none, y => y
  | x, none => x
  | some a, some b => some (if b < a then b else a)
def cMul : Option Int → Option Int → Option Int
  | some a, some b => some (a + b)
  | _, _ => none
def cData : Option Int → PyData
  | none => .none
  | some i => .int i
def costSR : SR where
  W := Option Int
  add := cAdd
  mul := cMul
  zero := none
  one := some 0
  add_comm x y := by
    cases x <;> cases y <;> simp only [cAdd]
    congr 1; split <;> split <;> omega
  add_assoc x y z := by
    cases x <;> cases y <;> cases z <;> simp only [cAdd]
    congr 1; repeat (split <;> try omega)
  mul_comm x y := by
    cases x <;> cases y <;> simp only [cMul]
    congr 1; omega
  mul_assoc x y z := by
    cases x <;> cases y <;> cases z <;> simp only [cMul]
    congr 1; omega
  distrib x y z := by
    cases x <;> cases y <;> cases z <;> simp only [cMul, cAdd]
    congr 1; repeat (split <;> try omega)
  add_zero x := by cases x <;> rfl
  mul_one x := by
    cases x with
    | none => rfl
    | some a => simp only [cMul]; congr 1; omega
  mul_zero x := by cases x <;> rfl
  zo h := by cases h
  sz _ _ := True
  sz_mono _ _ _ _ _ := trivial
  sz_add _ _ _ _ _ _ := trivial
  sz_mul _ _ _ _ _ _ := trivial
  sz_zero := trivial
  sz_one := trivial
  data := cData
  sh x := by cases x <;> rfl
  nm x y := by cases x <;> cases y <;> simp [cData, noMix]
  eq x := by cases x <;> simp [cData, PySem.Spec.same]
  ne x y h := by cases x <;> cases y <;> simp_all [cData, PySem.Spec.same]
def truthSR : SR where
  W := Bool
  add := fun a b => a || b
  mul := fun a b => a && b
  zero := false
  one := true
  add_comm x y := by cases x <;> cases y <;> rfl
  add_assoc x y z := by cases x <;> cases y <;> cases z <;> rfl
  mul_comm x y := by cases x <;> cases y <;> rfl
  mul_assoc x y z := by cases x <;> cases y <;> cases z <;> rfl
  distrib x y z := by cases x <;> cases y <;> cases z <;> rfl
  add_zero x := by cases x <;> rfl
  mul_one x := by cases x <;> rfl
  mul_zero x := by cases x <;> rfl
  zo h := by cases h
  sz _ _ := True
  sz_mono _ _ _ _ _ := trivial
  sz_add _ _ _ _ _ _ := trivial
  sz_mul _ _ _ _ _ _ := trivial
  sz_zero := trivial
  sz_one := trivial
  data := .bool
  sh _ := rfl
  nm _ _ := by simp [noMix]
  eq _ := by simp [PySem.Spec.same]
  ne a b h := by simp_all [PySem.Spec.same]
theorem sz_log {x : Int} {n : Nat} (h : x.natAbs ≤ 2 ^ n) (hn : n ≤ 8900) : x.natAbs.log2 < 9000 := by
  by_cases e : x.natAbs = 0
  · rw [e]; decide
  · rw [Nat.log2_lt e]
    exact Nat.lt_of_le_of_lt h (Nat.pow_lt_pow_right (by decide) (by omega))
theorem sz_bits {x : Int} {n : Nat} (h : x.natAbs ≤ 2 ^ n) (hn : n ≤ 8900) : Builtin.Int.intBits x ≤ 2 ^ 20 :=
  intBits_le_iff.mpr (Nat.lt_of_le_of_lt h (Nat.pow_lt_pow_right (by decide) (Nat.lt_of_le_of_lt hn (by decide))))
end Mine
/-! A kind of weights as an object of the program: its class, what stands for a weight, its methods' promises. -/
namespace L2
open PySem Mine
def KAt (C : Addr) (fs : List (Str × V)) (H : Hp) (k : V) : Prop := ∃ p dx, k = .ref p ∧ H p = some (.ins C dx fs)
theorem KAt.same {C : Addr} {fs : List (Str × V)} {H H' : Hp} {k : V} (e : Same H H') (h : KAt C fs H k) : KAt C fs H' k := by
  obtain ⟨p, dx, rfl, h⟩ := h
  exact ⟨p, dx, rfl, e _ _ h⟩
def spBin (C : Addr) (fs : List (Str × V)) (S : SR) (is : Hp → V → S.W → Prop) (f : S.W → S.W → S.W) : Sp := fun vs H Q _ => ∃ k x y a b m n, vs = [k, x, y] ∧
  (KAt C fs H k ∧ is H x a ∧ is H y b ∧ S.sz m a ∧ S.sz n b ∧ m + n ≤ 8000) ∧ ∀ v H', Same H H' → is H' v (f a b) → Q v H'
def spNul (C : Addr) (fs : List (Str × V)) (S : SR) (is : Hp → V → S.W → Prop) (z : S.W) : Sp := fun vs H Q _ => ∃ k, vs = [k] ∧ KAt C fs H k ∧ ∀ v H', Same H H' → is H' v z → Q v H'
def spIsW (C : Addr) (fs : List (Str × V)) (S : SR) (is : Hp → V → S.W → Prop) : Sp := fun vs H Q _ => ∃ k x a, vs = [k, x] ∧ (KAt C fs H k ∧ is H x a) ∧ Q (.bl true) H
structure KindR (P : Program) (w : World) (K : PySem.W.Frag) (mg : Str → Option Value) (base : Heap) where
  S : SR
  C : Addr
  fs : List (Str × V)
  cl : Cls K C
  is : Hp → V → S.W → Prop
  same : ∀ {H H' : Hp} {v : V} {x : S.W}, Same H H' → is H v x → is H' v x
  isd : ∀ {H : Hp} {v : V} {x : S.W}, is H v x → Is K H v (S.data x)
  f_plus : Addr
  d_plus : FuncData
  t_plus : Meth K C "plus" f_plus
  b_plus : Binds K d_plus ["self", "x", "y"] []
  l_plus : fs.lookup ("plus" : Str) = none
  G_plus : FnOk P w K mg base CX0 4 f_plus d_plus ["self", "x", "y"] (spBin C fs S is S.add)
  f_times : Addr
  d_times : FuncData
  t_times : Meth K C "times" f_times
  b_times : Binds K d_times ["self", "x", "y"] []
  l_times : fs.lookup ("times" : Str) = none
  G_times : FnOk P w K mg base CX0 4 f_times d_times ["self", "x", "y"] (spBin C fs S is S.mul)
  f_nought : Addr
  d_nought : FuncData
  t_nought : Meth K C "nought" f_nought
  b_nought : Binds K d_nought ["self"] []
  l_nought : fs.lookup ("nought" : Str) = none
  G_nought : FnOk P w K mg base CX0 4 f_nought d_nought ["self"] (spNul C fs S is S.zero)
  f_one : Addr
  d_one : FuncData
  t_one : Meth K C "one" f_one
  b_one : Binds K d_one ["self"] []
  l_one : fs.lookup ("one" : Str) = none
  G_one : FnOk P w K mg base CX0 4 f_one d_one ["self"] (spNul C fs S is S.one)
  f_is_weight : Addr
  d_is_weight : FuncData
  t_is_weight : Meth K C "is_weight" f_is_weight
  b_is_weight : Binds K d_is_weight ["self", "thing"] []
  l_is_weight : fs.lookup ("is_weight" : Str) = none
  G_is_weight : FnOk P w K mg base CX0 4 f_is_weight d_is_weight ["self", "thing"] (spIsW C fs S is)
section
variable {P : Program} {w : World} {K : PySem.W.Frag} {mg : Str → Option Value} {base : Heap}
theorem KindR.neD (R : KindR P w K mg base) {H : Hp} {x y : V} {a b : R.S.W} {Q : VK} (hx : R.is H x a) (hy : R.is H y b) (e : a = b) (q : Q (.bl false) H) : rNeD K x y H Q :=
  ⟨_, _, R.isd hx, R.isd hy, R.S.sh _, R.S.sh _, R.S.nm _ _, by subst e; rw [R.S.eq]; exact q⟩
theorem KindR.neT (R : KindR P w K mg base) {H : Hp} {x y : V} {a b : R.S.W} {Q : VK} (hx : R.is H x a) (hy : R.is H y b) (e : a ≠ b) (q : Q (.bl true) H) : rNeD K x y H Q :=
  ⟨_, _, R.isd hx, R.isd hy, R.S.sh _, R.S.sh _, R.S.nm _ _, by rw [R.S.ne _ _ e]; exact q⟩
theorem KindR.eqD (R : KindR P w K mg base) {H : Hp} {x y : V} {a b : R.S.W} {Q : VK} (hx : R.is H x a) (hy : R.is H y b) (e : a = b) (q : Q (.bl true) H) : rEqD K x y H Q :=
  ⟨_, _, R.isd hx, R.isd hy, R.S.sh _, R.S.sh _, R.S.nm _ _, by subst e; rw [R.S.eq]; exact q⟩
end
/-- a fraction: a tuple of two ints -/
def IsF (H : Hp) (v : V) (a b : Int) : Prop := ∃ p, v = .ref p ∧ H p = some (.tup [.int a, .int b])
theorem IsF.same {H H' : Hp} {v : V} {a b : Int} (e : Same H H') (h : IsF H v a b) : IsF H' v a b := by
  obtain ⟨p, rfl, h⟩ := h
  exact ⟨p, rfl, e _ _ h⟩
theorem IsF.is {K : PySem.W.Frag} {H : Hp} {v : V} {a b : Int} (h : IsF H v a b) : Is K H v (.tuple [.int a, .int b]) := by
  obtain ⟨p, rfl, h⟩ := h
  exact .tup (SqT.of h) (.cons (.int _) (.cons (.int _) .nil))
theorem IsF.new {H : Hp} {p : Addr} {a b : Int} : IsF (upd H p (.tup [.int a, .int b])) (.ref p) a b := ⟨p, rfl, upd_same⟩
def isFr (H : Hp) (v : V) (x : Fr) : Prop := IsF H v x.t x.b
def isRe (p : Int) (_ : Hp) (v : V) (x : Re p) : Prop := v = .int x.x
def cV : Option Int → V
  | none => .non
  | some i => .int i
def isCo (_ : Hp) (v : V) (x : Option Int) : Prop := v = cV x
def isTr (_ : Hp) (v : V) (x : Bool) : Prop := v = .bl x
def pfs (p : Int) : List (Str × V) := putF "prime" (.int p) []
theorem pfs_prime (p : Int) : (pfs p).lookup ("prime" : Str) = some (.int p) := by
  unfold pfs
  rw [lookup_putF, if_pos rfl]
theorem pfs_no (p : Int) {m : Str} (h : ¬ m = "prime") : (pfs p).lookup m = none := by
  unfold pfs
  rw [lookup_putF, if_neg h]; rfl
theorem same_made {H : Hp} {C x dx : Addr} {fs : List (Str × V)} (n : H x = none) (m : H dx = none) : Same H (upd (upd H dx (.own x)) x (.ins C dx fs)) := fun b o e => by
  rw [upd_ne (ne_of_none e n), upd_ne (ne_of_none e m)]; exact e
theorem cut_take (xs : List V) (k : Nat) : cutV xs none (some (k : Int)) = xs.take k := by
  unfold cutV
  rw [HT.sIx_none, HT.sIx_nat, List.drop_zero, Nat.sub_zero]
  by_cases h : k ≤ xs.length
  · rw [Nat.min_eq_left h]
  · rw [Nat.min_eq_right (by omega), List.take_length, List.take_of_length_le (by omega)]
theorem int_at {ns : List Int} {i : Nat} {j n : Int} (e : j = i) (h : ns[i]? = some n) : atI (ns.map V.int) j = some (V.int n) := by
  subst e
  exact atI_nat (by rw [List.getElem?_map, h]; rfl)
theorem cells_at {ns : List Int} {i : Nat} (h : i < ns.length) : ∃ n, ns[i]? = some n := ⟨ns[i], by simp [h]⟩
theorem decI {i j : Int} (e : i = j) : decide (V.int i = V.int j) = true := decide_eq_true (congrArg V.int e)
end L2
namespace K06
open PySem L2 Mine PyProof.Rows PySem.SeqAt
def top (i : Nat) : Stmt := PySem.Challenge.pw_weighwalk_k06_minus_and_inverses.main.body.getD i (.Pass ⟨0, 0, 0, 0⟩)
abbrev s_is_whole : Stmt := top 8
abbrev s_divisor : Stmt := top 9
abbrev s_fraction : Stmt := top 10
abbrev s_is_prime : Stmt := top 11
abbrev s_Field_is_field : Stmt := inClass (top 20) 0
abbrev s_Field_picks : Stmt := inClass (top 20) 1
abbrev s_Picking_is_field : Stmt := inClass (top 21) 0
abbrev s_Picking_picks : Stmt := inClass (top 21) 1
abbrev s_Picking_minus : Stmt := inClass (top 21) 2
abbrev s_Picking_inverse : Stmt := inClass (top 21) 3
abbrev s_Fractions_nought : Stmt := inClass (top 22) 1
abbrev s_Fractions_one : Stmt := inClass (top 22) 2
abbrev s_Fractions_plus : Stmt := inClass (top 22) 3
abbrev s_Fractions_times : Stmt := inClass (top 22) 4
abbrev s_Fractions_minus : Stmt := inClass (top 22) 5
abbrev s_Fractions_inverse : Stmt := inClass (top 22) 6
abbrev s_Fractions_is_weight : Stmt := inClass (top 22) 7
abbrev s_Residues___init__ : Stmt := inClass (top 23) 0
abbrev s_Residues_nought : Stmt := inClass (top 23) 2
abbrev s_Residues_one : Stmt := inClass (top 23) 3
abbrev s_Residues_plus : Stmt := inClass (top 23) 4
abbrev s_Residues_times : Stmt := inClass (top 23) 5
abbrev s_Residues_minus : Stmt := inClass (top 23) 6
abbrev s_Residues_inverse : Stmt := inClass (top 23) 7
abbrev s_Residues_is_weight : Stmt := inClass (top 23) 8
abbrev s_Costs_nought : Stmt := inClass (top 24) 1
abbrev s_Truths_nought : Stmt := inClass (top 25) 1
abbrev s_law_divisor : Stmt := top 27
abbrev s_law_low : Stmt := top 28
abbrev s_law_number : Stmt := top 29
abbrev s_law_weight : Stmt := top 30
abbrev s_law_refused : Stmt := top 31
abbrev s_law_field : Stmt := top 32
abbrev s_law_picking : Stmt := top 33
abbrev s_law : Stmt := top 34
theorem sc_is_whole : FnScope ["thing"] ["thing"] (defScope s_is_whole) := ⟨rfl, rfl, rfl, by decide +kernel, rfl, by decide +kernel, by decide +kernel⟩
theorem sc_divisor : FnScope ["one", "other", "greatest", "rest", "left"] ["one", "other"] (defScope s_divisor) := ⟨rfl, rfl, rfl, by decide +kernel, rfl, by decide +kernel, by decide +kernel⟩
theorem sc_fraction : FnScope ["top", "bottom", "shared"] ["top", "bottom"] (defScope s_fraction) := ⟨rfl, rfl, rfl, by decide +kernel, rfl, by decide +kernel, by decide +kernel⟩
theorem sc_is_prime : FnScope ["number", "factor"] ["number"] (defScope s_is_prime) := ⟨rfl, rfl, rfl, by decide +kernel, rfl, by decide +kernel, by decide +kernel⟩
theorem sc_Field_is_field : FnScope ["self"] ["self"] (defScope s_Field_is_field) := ⟨rfl, rfl, rfl, by decide +kernel, rfl, by decide +kernel, by decide +kernel⟩
theorem sc_Field_picks : FnScope ["self"] ["self"] (defScope s_Field_picks) := ⟨rfl, rfl, rfl, by decide +kernel, rfl, by decide +kernel, by decide +kernel⟩
theorem sc_Picking_is_field : FnScope ["self"] ["self"] (defScope s_Picking_is_field) := ⟨rfl, rfl, rfl, by decide +kernel, rfl, by decide +kernel, by decide +kernel⟩
theorem sc_Picking_picks : FnScope ["self"] ["self"] (defScope s_Picking_picks) := ⟨rfl, rfl, rfl, by decide +kernel, rfl, by decide +kernel, by decide +kernel⟩
theorem sc_Picking_minus : FnScope ["self", "x"] ["self", "x"] (defScope s_Picking_minus) := ⟨rfl, rfl, rfl, by decide +kernel, rfl, by decide +kernel, by decide +kernel⟩
theorem sc_Picking_inverse : FnScope ["self", "x"] ["self", "x"] (defScope s_Picking_inverse) := ⟨rfl, rfl, rfl, by decide +kernel, rfl, by decide +kernel, by decide +kernel⟩
theorem sc_Fractions_nought : FnScope ["self"] ["self"] (defScope s_Fractions_nought) := ⟨rfl, rfl, rfl, by decide +kernel, rfl, by decide +kernel, by decide +kernel⟩
theorem sc_Fractions_one : FnScope ["self"] ["self"] (defScope s_Fractions_one) := ⟨rfl, rfl, rfl, by decide +kernel, rfl, by decide +kernel, by decide +kernel⟩
theorem sc_Fractions_plus : FnScope ["self", "x", "y"] ["self", "x", "y"] (defScope s_Fractions_plus) := ⟨rfl, rfl, rfl, by decide +kernel, rfl, by decide +kernel, by decide +kernel⟩
theorem sc_Fractions_times : FnScope ["self", "x", "y"] ["self", "x", "y"] (defScope s_Fractions_times) := ⟨rfl, rfl, rfl, by decide +kernel, rfl, by decide +kernel, by decide +kernel⟩
theorem sc_Fractions_minus : FnScope ["self", "x"] ["self", "x"] (defScope s_Fractions_minus) := ⟨rfl, rfl, rfl, by decide +kernel, rfl, by decide +kernel, by decide +kernel⟩
theorem sc_Fractions_inverse : FnScope ["self", "x"] ["self", "x"] (defScope s_Fractions_inverse) := ⟨rfl, rfl, rfl, by decide +kernel, rfl, by decide +kernel, by decide +kernel⟩
theorem sc_Fractions_is_weight : FnScope ["self", "thing"] ["self", "thing"] (defScope s_Fractions_is_weight) := ⟨rfl, rfl, rfl, by decide +kernel, rfl, by decide +kernel, by decide +kernel⟩
theorem sc_Residues___init__ : FnScope ["self", "prime"] ["self", "prime"] (defScope s_Residues___init__) := ⟨rfl, rfl, rfl, by decide +kernel, rfl, by decide +kernel, by decide +kernel⟩
theorem sc_Residues_nought : FnScope ["self"] ["self"] (defScope s_Residues_nought) := ⟨rfl, rfl, rfl, by decide +kernel, rfl, by decide +kernel, by decide +kernel⟩
theorem sc_Residues_one : FnScope ["self"] ["self"] (defScope s_Residues_one) := ⟨rfl, rfl, rfl, by decide +kernel, rfl, by decide +kernel, by decide +kernel⟩
theorem sc_Residues_plus : FnScope ["self", "x", "y"] ["self", "x", "y"] (defScope s_Residues_plus) := ⟨rfl, rfl, rfl, by decide +kernel, rfl, by decide +kernel, by decide +kernel⟩
theorem sc_Residues_times : FnScope ["self", "x", "y"] ["self", "x", "y"] (defScope s_Residues_times) := ⟨rfl, rfl, rfl, by decide +kernel, rfl, by decide +kernel, by decide +kernel⟩
theorem sc_Residues_minus : FnScope ["self", "x"] ["self", "x"] (defScope s_Residues_minus) := ⟨rfl, rfl, rfl, by decide +kernel, rfl, by decide +kernel, by decide +kernel⟩
theorem sc_Residues_inverse : FnScope ["self", "x", "product", "square", "left"] ["self", "x"] (defScope s_Residues_inverse) := ⟨rfl, rfl, rfl, by decide +kernel, rfl, by decide +kernel, by decide +kernel⟩
theorem sc_Residues_is_weight : FnScope ["self", "thing"] ["self", "thing"] (defScope s_Residues_is_weight) := ⟨rfl, rfl, rfl, by decide +kernel, rfl, by decide +kernel, by decide +kernel⟩
theorem sc_Costs_nought : FnScope ["self"] ["self"] (defScope s_Costs_nought) := ⟨rfl, rfl, rfl, by decide +kernel, rfl, by decide +kernel, by decide +kernel⟩
theorem sc_Truths_nought : FnScope ["self"] ["self"] (defScope s_Truths_nought) := ⟨rfl, rfl, rfl, by decide +kernel, rfl, by decide +kernel, by decide +kernel⟩
theorem sc_law_divisor : FnScope ["_law_one", "_law_other"] ["_law_one", "_law_other"] (defScope s_law_divisor) := ⟨rfl, rfl, rfl, by decide +kernel, rfl, by decide +kernel, by decide +kernel⟩
theorem sc_law_low : FnScope ["_law_top", "_law_bottom", "_law_by"] ["_law_top", "_law_bottom"] (defScope s_law_low) := ⟨rfl, rfl, rfl, by decide +kernel, rfl, by decide +kernel, by decide +kernel⟩
theorem sc_law_number : FnScope ["_law_cell"] ["_law_cell"] (defScope s_law_number) := ⟨rfl, rfl, rfl, by decide +kernel, rfl, by decide +kernel, by decide +kernel⟩
theorem sc_law_weight : FnScope ["_law_way", "_law_prime", "_law_cell"] ["_law_way", "_law_prime", "_law_cell"] (defScope s_law_weight) := ⟨rfl, rfl, rfl, by decide +kernel, rfl, by decide +kernel, by decide +kernel⟩
theorem sc_law_refused : FnScope ["_law_kind", "_law_is_minus", "_law_x", "_law_told", "e"] ["_law_kind", "_law_is_minus", "_law_x"] (defScope s_law_refused) := ⟨rfl, rfl, rfl, by decide +kernel, rfl, by decide +kernel, by decide +kernel⟩
theorem sc_law_field : FnScope ["_law_kind", "_law_x", "_law_nought", "_law_back"] ["_law_kind", "_law_x"] (defScope s_law_field) := ⟨rfl, rfl, rfl, by decide +kernel, rfl, by decide +kernel, by decide +kernel⟩
theorem sc_law_picking : FnScope ["_law_kind", "_law_x"] ["_law_kind", "_law_x"] (defScope s_law_picking) := ⟨rfl, rfl, rfl, by decide +kernel, rfl, by decide +kernel, by decide +kernel⟩
theorem sc_law : FnScope ["_law_script", "_law_cells", "_law_prime", "_law_kinds", "_law_cell", "_law_way", "_law_x"] ["_law_script"] (defScope s_law) := ⟨rfl, rfl, rfl, by decide +kernel, rfl, by decide +kernel, by decide +kernel⟩
def sp_whole : Sp := fun vs H Q _ => ∃ i, vs = [.int i] ∧ Q (.bl true) H
def sp_divisor : Sp := fun vs H Q _ => ∃ a b, vs = [.int a, .int b] ∧ Q (.int (dv a b)) H
def sp_fraction : Sp := fun vs H Q _ => ∃ a b n, vs = [.int a, .int b] ∧ (b.natAbs ≤ 2 ^ n ∧ n ≤ 8900 ∧ 0 < b) ∧ ∀ v H', Same H H' → IsF H' v (tp a b) (bt a b) → Q v H'
def sp_prime : Sp := fun vs H Q _ => ∃ n, vs = [.int n] ∧ (2 ≤ n ∧ n ≤ 1000000 ∧ isP n = true) ∧ Q (.bl true) H
def sp_init (C : Addr) : Sp := fun vs H Q _ => ∃ x dx n, vs = [.ref x, .int n] ∧ (2 ≤ n ∧ n ≤ 1000000 ∧ isP n = true) ∧ H x = some (.ins C dx []) ∧ Q .non (upd H x (.ins C dx (pfs n)))
structure Adr where
  is_whole : Addr
  d_is_whole : FuncData
  divisor : Addr
  d_divisor : FuncData
  fraction : Addr
  d_fraction : FuncData
  is_prime : Addr
  d_is_prime : FuncData
  Field_is_field : Addr
  d_Field_is_field : FuncData
  Field_picks : Addr
  d_Field_picks : FuncData
  Picking_is_field : Addr
  d_Picking_is_field : FuncData
  Picking_picks : Addr
  d_Picking_picks : FuncData
  Picking_minus : Addr
  d_Picking_minus : FuncData
  Picking_inverse : Addr
  d_Picking_inverse : FuncData
  Fractions_nought : Addr
  d_Fractions_nought : FuncData
  Fractions_one : Addr
  d_Fractions_one : FuncData
  Fractions_plus : Addr
  d_Fractions_plus : FuncData
  Fractions_times : Addr
  d_Fractions_times : FuncData
  Fractions_minus : Addr
  d_Fractions_minus : FuncData
  Fractions_inverse : Addr
  d_Fractions_inverse : FuncData
  Fractions_is_weight : Addr
  d_Fractions_is_weight : FuncData
  Residues___init__ : Addr
  d_Residues___init__ : FuncData
  Residues_nought : Addr
  d_Residues_nought : FuncData
  Residues_one : Addr
  d_Residues_one : FuncData
  Residues_plus : Addr
  d_Residues_plus : FuncData
  Residues_times : Addr
  d_Residues_times : FuncData
  Residues_minus : Addr
  d_Residues_minus : FuncData
  Residues_inverse : Addr
  d_Residues_inverse : FuncData
  Residues_is_weight : Addr
  d_Residues_is_weight : FuncData
  Costs_nought : Addr
  d_Costs_nought : FuncData
  Truths_nought : Addr
  d_Truths_nought : FuncData
  law_divisor : Addr
  d_law_divisor : FuncData
  law_low : Addr
  d_law_low : FuncData
  law_number : Addr
  d_law_number : FuncData
  law_weight : Addr
  d_law_weight : FuncData
  law_refused : Addr
  d_law_refused : FuncData
  law_field : Addr
  d_law_field : FuncData
  law_picking : Addr
  d_law_picking : FuncData
  law : Addr
  d_law : FuncData
  Field : Addr
  Picking : Addr
  Fractions : Addr
  Residues : Addr
  Costs : Addr
  Truths : Addr
  WeighError : Addr
  WrongKind : Addr
  NoWeight : Addr
structure Txt (K : PySem.W.Frag) (mg : Str → Option Value) (t : Adr) : Prop where
  F_is_whole : Fun K "is_whole" "is_whole" s_is_whole t.is_whole t.d_is_whole
  b_is_whole : Binds K t.d_is_whole ["thing"] []
  m_is_whole : mg "is_whole" = some (.ref t.is_whole)
  F_divisor : Fun K "divisor" "divisor" s_divisor t.divisor t.d_divisor
  b_divisor : Binds K t.d_divisor ["one", "other"] []
  m_divisor : mg "divisor" = some (.ref t.divisor)
  F_fraction : Fun K "fraction" "fraction" s_fraction t.fraction t.d_fraction
  b_fraction : Binds K t.d_fraction ["top", "bottom"] []
  m_fraction : mg "fraction" = some (.ref t.fraction)
  F_is_prime : Fun K "is_prime" "is_prime" s_is_prime t.is_prime t.d_is_prime
  b_is_prime : Binds K t.d_is_prime ["number"] []
  m_is_prime : mg "is_prime" = some (.ref t.is_prime)
  F_Field_is_field : Fun K "is_field" "Field.is_field" s_Field_is_field t.Field_is_field t.d_Field_is_field
  b_Field_is_field : Binds K t.d_Field_is_field ["self"] []
  t_Field_is_field : Meth K t.Field "is_field" t.Field_is_field
  F_Field_picks : Fun K "picks" "Field.picks" s_Field_picks t.Field_picks t.d_Field_picks
  b_Field_picks : Binds K t.d_Field_picks ["self"] []
  t_Field_picks : Meth K t.Field "picks" t.Field_picks
  F_Picking_is_field : Fun K "is_field" "Picking.is_field" s_Picking_is_field t.Picking_is_field t.d_Picking_is_field
  b_Picking_is_field : Binds K t.d_Picking_is_field ["self"] []
  t_Picking_is_field : Meth K t.Picking "is_field" t.Picking_is_field
  F_Picking_picks : Fun K "picks" "Picking.picks" s_Picking_picks t.Picking_picks t.d_Picking_picks
  b_Picking_picks : Binds K t.d_Picking_picks ["self"] []
  t_Picking_picks : Meth K t.Picking "picks" t.Picking_picks
  F_Picking_minus : Fun K "minus" "Picking.minus" s_Picking_minus t.Picking_minus t.d_Picking_minus
  b_Picking_minus : Binds K t.d_Picking_minus ["self", "x"] []
  t_Picking_minus : Meth K t.Picking "minus" t.Picking_minus
  F_Picking_inverse : Fun K "inverse" "Picking.inverse" s_Picking_inverse t.Picking_inverse t.d_Picking_inverse
  b_Picking_inverse : Binds K t.d_Picking_inverse ["self", "x"] []
  t_Picking_inverse : Meth K t.Picking "inverse" t.Picking_inverse
  F_Fractions_nought : Fun K "nought" "Fractions.nought" s_Fractions_nought t.Fractions_nought t.d_Fractions_nought
  b_Fractions_nought : Binds K t.d_Fractions_nought ["self"] []
  t_Fractions_nought : Meth K t.Fractions "nought" t.Fractions_nought
  F_Fractions_one : Fun K "one" "Fractions.one" s_Fractions_one t.Fractions_one t.d_Fractions_one
  b_Fractions_one : Binds K t.d_Fractions_one ["self"] []
  t_Fractions_one : Meth K t.Fractions "one" t.Fractions_one
  F_Fractions_plus : Fun K "plus" "Fractions.plus" s_Fractions_plus t.Fractions_plus t.d_Fractions_plus
  b_Fractions_plus : Binds K t.d_Fractions_plus ["self", "x", "y"] []
  t_Fractions_plus : Meth K t.Fractions "plus" t.Fractions_plus
  F_Fractions_times : Fun K "times" "Fractions.times" s_Fractions_times t.Fractions_times t.d_Fractions_times
  b_Fractions_times : Binds K t.d_Fractions_times ["self", "x", "y"] []
  t_Fractions_times : Meth K t.Fractions "times" t.Fractions_times
  F_Fractions_minus : Fun K "minus" "Fractions.minus" s_Fractions_minus t.Fractions_minus t.d_Fractions_minus
  b_Fractions_minus : Binds K t.d_Fractions_minus ["self", "x"] []
  t_Fractions_minus : Meth K t.Fractions "minus" t.Fractions_minus
  F_Fractions_inverse : Fun K "inverse" "Fractions.inverse" s_Fractions_inverse t.Fractions_inverse t.d_Fractions_inverse
  b_Fractions_inverse : Binds K t.d_Fractions_inverse ["self", "x"] []
  t_Fractions_inverse : Meth K t.Fractions "inverse" t.Fractions_inverse
  F_Fractions_is_weight : Fun K "is_weight" "Fractions.is_weight" s_Fractions_is_weight t.Fractions_is_weight t.d_Fractions_is_weight
  b_Fractions_is_weight : Binds K t.d_Fractions_is_weight ["self", "thing"] []
  t_Fractions_is_weight : Meth K t.Fractions "is_weight" t.Fractions_is_weight
  F_Residues___init__ : Fun K "__init__" "Residues.__init__" s_Residues___init__ t.Residues___init__ t.d_Residues___init__
  b_Residues___init__ : Binds K t.d_Residues___init__ ["self", "prime"] []
  t_Residues___init__ : Meth K t.Residues "__init__" t.Residues___init__
  F_Residues_nought : Fun K "nought" "Residues.nought" s_Residues_nought t.Residues_nought t.d_Residues_nought
  b_Residues_nought : Binds K t.d_Residues_nought ["self"] []
  t_Residues_nought : Meth K t.Residues "nought" t.Residues_nought
  F_Residues_one : Fun K "one" "Residues.one" s_Residues_one t.Residues_one t.d_Residues_one
  b_Residues_one : Binds K t.d_Residues_one ["self"] []
  t_Residues_one : Meth K t.Residues "one" t.Residues_one
  F_Residues_plus : Fun K "plus" "Residues.plus" s_Residues_plus t.Residues_plus t.d_Residues_plus
  b_Residues_plus : Binds K t.d_Residues_plus ["self", "x", "y"] []
  t_Residues_plus : Meth K t.Residues "plus" t.Residues_plus
  F_Residues_times : Fun K "times" "Residues.times" s_Residues_times t.Residues_times t.d_Residues_times
  b_Residues_times : Binds K t.d_Residues_times ["self", "x", "y"] []
  t_Residues_times : Meth K t.Residues "times" t.Residues_times
  F_Residues_minus : Fun K "minus" "Residues.minus" s_Residues_minus t.Residues_minus t.d_Residues_minus
  b_Residues_minus : Binds K t.d_Residues_minus ["self", "x"] []
  t_Residues_minus : Meth K t.Residues "minus" t.Residues_minus
  F_Residues_inverse : Fun K "inverse" "Residues.inverse" s_Residues_inverse t.Residues_inverse t.d_Residues_inverse
  b_Residues_inverse : Binds K t.d_Residues_inverse ["self", "x"] []
  t_Residues_inverse : Meth K t.Residues "inverse" t.Residues_inverse
  F_Residues_is_weight : Fun K "is_weight" "Residues.is_weight" s_Residues_is_weight t.Residues_is_weight t.d_Residues_is_weight
  b_Residues_is_weight : Binds K t.d_Residues_is_weight ["self", "thing"] []
  t_Residues_is_weight : Meth K t.Residues "is_weight" t.Residues_is_weight
  F_Costs_nought : Fun K "nought" "Costs.nought" s_Costs_nought t.Costs_nought t.d_Costs_nought
  b_Costs_nought : Binds K t.d_Costs_nought ["self"] []
  t_Costs_nought : Meth K t.Costs "nought" t.Costs_nought
  F_Truths_nought : Fun K "nought" "Truths.nought" s_Truths_nought t.Truths_nought t.d_Truths_nought
  b_Truths_nought : Binds K t.d_Truths_nought ["self"] []
  t_Truths_nought : Meth K t.Truths "nought" t.Truths_nought
  F_law_divisor : Fun K "_law_divisor" "_law_divisor" s_law_divisor t.law_divisor t.d_law_divisor
  b_law_divisor : Binds K t.d_law_divisor ["_law_one", "_law_other"] []
  m_law_divisor : mg "_law_divisor" = some (.ref t.law_divisor)
  F_law_low : Fun K "_law_low" "_law_low" s_law_low t.law_low t.d_law_low
  b_law_low : Binds K t.d_law_low ["_law_top", "_law_bottom"] []
  m_law_low : mg "_law_low" = some (.ref t.law_low)
  F_law_number : Fun K "_law_number" "_law_number" s_law_number t.law_number t.d_law_number
  b_law_number : Binds K t.d_law_number ["_law_cell"] []
  m_law_number : mg "_law_number" = some (.ref t.law_number)
  F_law_weight : Fun K "_law_weight" "_law_weight" s_law_weight t.law_weight t.d_law_weight
  b_law_weight : Binds K t.d_law_weight ["_law_way", "_law_prime", "_law_cell"] []
  m_law_weight : mg "_law_weight" = some (.ref t.law_weight)
  F_law_refused : Fun K "_law_refused" "_law_refused" s_law_refused t.law_refused t.d_law_refused
  b_law_refused : Binds K t.d_law_refused ["_law_kind", "_law_is_minus", "_law_x"] []
  m_law_refused : mg "_law_refused" = some (.ref t.law_refused)
  F_law_field : Fun K "_law_field" "_law_field" s_law_field t.law_field t.d_law_field
  b_law_field : Binds K t.d_law_field ["_law_kind", "_law_x"] []
  m_law_field : mg "_law_field" = some (.ref t.law_field)
  F_law_picking : Fun K "_law_picking" "_law_picking" s_law_picking t.law_picking t.d_law_picking
  b_law_picking : Binds K t.d_law_picking ["_law_kind", "_law_x"] []
  m_law_picking : mg "_law_picking" = some (.ref t.law_picking)
  F_law : Fun K "law" "law" s_law t.law t.d_law
  b_law : Binds K t.d_law ["_law_script"] []
  m_law : mg "law" = some (.ref t.law)
  C_Field : Cls K t.Field
  m_Field : mg "Field" = some (.ref t.Field)
  M_Field : MkO K t.Field
  C_Picking : Cls K t.Picking
  m_Picking : mg "Picking" = some (.ref t.Picking)
  M_Picking : MkO K t.Picking
  C_Fractions : Cls K t.Fractions
  m_Fractions : mg "Fractions" = some (.ref t.Fractions)
  M_Fractions : MkO K t.Fractions
  C_Residues : Cls K t.Residues
  m_Residues : mg "Residues" = some (.ref t.Residues)
  M_Residues : Mk K t.Residues t.Residues___init__
  C_Costs : Cls K t.Costs
  m_Costs : mg "Costs" = some (.ref t.Costs)
  M_Costs : MkO K t.Costs
  C_Truths : Cls K t.Truths
  m_Truths : mg "Truths" = some (.ref t.Truths)
  M_Truths : MkO K t.Truths
  m_WeighError : mg "WeighError" = some (.ref t.WeighError)
  x_WeighError : ExcK K t.WeighError
  m_WrongKind : mg "WrongKind" = some (.ref t.WrongKind)
  x_WrongKind : ExcK K t.WrongKind
  m_NoWeight : mg "NoWeight" = some (.ref t.NoWeight)
  x_NoWeight : ExcK K t.NoWeight
  z_isinstance : mg "isinstance" = none
  z_int : mg "int" = none
  z_bool : mg "bool" = none
  z_abs : mg "abs" = none
  z_tuple : mg "tuple" = none
  z_len : mg "len" = none
  c_GREATEST_PRIME : ∃ tk, mg "GREATEST_PRIME" = some (Value.int 1000000 tk)
  z_max : mg "max" = none
  z_ValueError : mg "ValueError" = none
  z_range : mg "range" = none
  k_ii : PySem.W.kitOne K (.type "int") (.type "int") = some true
  k_ib : PySem.W.kitOne K (.type "int") (.type "bool") = some false
  k_tt : PySem.W.kitOne K (.type "tuple") (.type "tuple") = some true
  k_bb : PySem.W.kitOne K (.type "bool") (.type "bool") = some true
  nP : NoAttr K t.Residues "prime"
  iF_is_field : PySem.W.findIn K (.ref t.Fractions) "is_field" = some (some (.ref t.Field_is_field))
  iF_picks : PySem.W.findIn K (.ref t.Fractions) "picks" = some (some (.ref t.Field_picks))
  iR_is_field : PySem.W.findIn K (.ref t.Residues) "is_field" = some (some (.ref t.Field_is_field))
  iR_picks : PySem.W.findIn K (.ref t.Residues) "picks" = some (some (.ref t.Field_picks))
  iC_is_field : PySem.W.findIn K (.ref t.Costs) "is_field" = some (some (.ref t.Picking_is_field))
  iC_picks : PySem.W.findIn K (.ref t.Costs) "picks" = some (some (.ref t.Picking_picks))
  iC_minus : PySem.W.findIn K (.ref t.Costs) "minus" = some (some (.ref t.Picking_minus))
  iC_inverse : PySem.W.findIn K (.ref t.Costs) "inverse" = some (some (.ref t.Picking_inverse))
  iT_is_field : PySem.W.findIn K (.ref t.Truths) "is_field" = some (some (.ref t.Picking_is_field))
  iT_picks : PySem.W.findIn K (.ref t.Truths) "picks" = some (some (.ref t.Picking_picks))
  iT_minus : PySem.W.findIn K (.ref t.Truths) "minus" = some (some (.ref t.Picking_minus))
  iT_inverse : PySem.W.findIn K (.ref t.Truths) "inverse" = some (some (.ref t.Picking_inverse))
  e_W : PySem.W.exmOne K (.ref t.WrongKind) (.ref t.WeighError) = some true
  e_N : PySem.W.exmOne K (.ref t.NoWeight) (.ref t.WeighError) = some true
  k_WW : PySem.W.kitOne K (.ref t.WrongKind) (.ref t.WrongKind) = some true
  k_WN : PySem.W.kitOne K (.ref t.WrongKind) (.ref t.NoWeight) = some false
  k_WV : PySem.W.kitOne K (.ref t.WrongKind) (.type "ValueError") = some true
  k_NW : PySem.W.kitOne K (.ref t.NoWeight) (.ref t.WrongKind) = some false
  k_NN : PySem.W.kitOne K (.ref t.NoWeight) (.ref t.NoWeight) = some true
  k_NV : PySem.W.kitOne K (.ref t.NoWeight) (.type "ValueError") = some true
section
variable {P : Program} {w : World} {K : PySem.W.Frag} {mg : Str → Option Value} {base : Heap} {t : Adr}
theorem ok_is_whole (T : Txt K mg t) : FnOk P w K mg base CX0 1 t.is_whole t.d_is_whole ["thing"] sp_whole := by
  refine T.F_is_whole.ok sc_is_whole (fun vs H Q E h => ?_) (fun cdv A outer s H vs Q E hr h => ?_)
  · obtain ⟨i, rfl, _⟩ := h
    rfl
  · obtain ⟨i, rfl, k⟩ := h
    refine ⟨_, (pss_one (ps_ret (pe_and (pe_callB call_isi (by rfl) T.z_isinstance boot_isinstance (pa_cons (pv 0) (pa_cons (pe_bltn (v := .ty "int") rfl T.z_int boot_int rfl) pa_nil))) (pe_one (pe_not (pe_callB call_isi (by rfl) T.z_isinstance boot_isinstance (pa_cons (pv 0) (pa_cons (pe_bltn (v := .ty "bool") rfl T.z_bool boot_bool rfl) pa_nil)))))))), ?_⟩
    (repeat (first | apply Exists.intro | refine And.intro rfl ?_ | refine And.intro (by with_reducible assumption) ?_ | refine And.intro (SqT.of (by assumption)) ?_ | refine And.intro (SqL.of (by assumption)) ?_ | refine And.intro (TyOf.int _) ?_ | refine And.intro (TyOf.tup (by assumption)) ?_ | refine And.intro T.k_ii ?_ | refine And.intro T.k_ib ?_ | refine And.intro T.k_tt ?_ | refine And.intro T.k_bb ?_ | refine And.intro T.nP ?_ | refine And.intro T.iF_is_field ?_ | refine And.intro T.iF_picks ?_ | refine And.intro T.iR_is_field ?_ | refine And.intro T.iR_picks ?_ | refine And.intro T.iC_is_field ?_ | refine And.intro T.iC_picks ?_ | refine And.intro T.iC_minus ?_ | refine And.intro T.iC_inverse ?_ | refine And.intro T.iT_is_field ?_ | refine And.intro T.iT_picks ?_ | refine And.intro T.iT_minus ?_ | refine And.intro T.iT_inverse ?_ | refine And.intro T.e_W ?_ | refine And.intro T.e_N ?_ | refine And.intro T.k_WW ?_ | refine And.intro T.k_WN ?_ | refine And.intro T.k_WV ?_ | refine And.intro T.k_NW ?_ | refine And.intro T.k_NN ?_ | refine And.intro T.k_NV ?_))
    (try refine iteT ?_)
    (repeat (first | apply Exists.intro | refine And.intro rfl ?_ | refine And.intro (by with_reducible assumption) ?_ | refine And.intro (SqT.of (by assumption)) ?_ | refine And.intro (SqL.of (by assumption)) ?_ | refine And.intro (TyOf.int _) ?_ | refine And.intro (TyOf.tup (by assumption)) ?_ | refine And.intro T.k_ii ?_ | refine And.intro T.k_ib ?_ | refine And.intro T.k_tt ?_ | refine And.intro T.k_bb ?_ | refine And.intro T.nP ?_ | refine And.intro T.iF_is_field ?_ | refine And.intro T.iF_picks ?_ | refine And.intro T.iR_is_field ?_ | refine And.intro T.iR_picks ?_ | refine And.intro T.iC_is_field ?_ | refine And.intro T.iC_picks ?_ | refine And.intro T.iC_minus ?_ | refine And.intro T.iC_inverse ?_ | refine And.intro T.iT_is_field ?_ | refine And.intro T.iT_picks ?_ | refine And.intro T.iT_minus ?_ | refine And.intro T.iT_inverse ?_ | refine And.intro T.e_W ?_ | refine And.intro T.e_N ?_ | refine And.intro T.k_WW ?_ | refine And.intro T.k_WN ?_ | refine And.intro T.k_WV ?_ | refine And.intro T.k_NW ?_ | refine And.intro T.k_NN ?_ | refine And.intro T.k_NV ?_))
    exact k
theorem ok_divisor (T : Txt K mg t) : FnOk P w K mg base CX0 1 t.divisor t.d_divisor ["one", "other"] sp_divisor := by
  refine T.F_divisor.ok sc_divisor (fun vs H Q E h => ?_) (fun cdv A outer s H vs Q E hr h => ?_)
  · obtain ⟨a, b, rfl, _⟩ := h
    rfl
  · obtain ⟨a, b, rfl, k⟩ := h
    refine ⟨_, (pss_cons (ps_set (i := 2) sc_divisor.nd rfl (Or.inl rfl) (pe_callB call_abs (by rfl) T.z_abs boot_abs (pa_cons (pv 0) pa_nil))) (pss_cons (ps_set (i := 3) sc_divisor.nd rfl (Or.inl rfl) (pe_callB call_abs (by rfl) T.z_abs boot_abs (pa_cons (pv 1) pa_nil))) (pss_cons (ps_while PassesOwn.never (pt_cmpR op_gt (pv 3) pe_int (nomark _)) (pss_cons (ps_set (i := 4) sc_divisor.nd rfl (Or.inl rfl) (pe_op op_modN (pv 2) (pv 3))) (pss_cons (ps_set (i := 2) sc_divisor.nd rfl (Or.inl rfl) (pv 3)) (pss_one (ps_set (i := 3) sc_divisor.nd rfl (Or.inl rfl) (pv 4)))))) (pss_one (ps_ret (pv 2)))))), ?_⟩
    refine ⟨_, rfl, _, rfl, _, rfl, _, rfl, ?_⟩
    refine ⟨fun m σ H' => ∃ g r l, σ = [some (.int a), some (.int b), some (.int g), some (.int r), l] ∧ m = r.toNat ∧ (0 ≤ g ∧ 0 ≤ r ∧ dv g r = dv a b) ∧ H' = H, ⟨_, _, _, _, rfl, rfl, start1 a b, rfl⟩, ?_⟩
    rintro m σ H' ⟨g, r, l, rfl, rfl, ⟨g0, r0, e⟩, rfl⟩
    (repeat (first | apply Exists.intro | refine And.intro rfl ?_ | refine And.intro (by with_reducible assumption) ?_ | refine And.intro (SqT.of (by assumption)) ?_ | refine And.intro (SqL.of (by assumption)) ?_ | refine And.intro (TyOf.int _) ?_ | refine And.intro (TyOf.tup (by assumption)) ?_ | refine And.intro T.k_ii ?_ | refine And.intro T.k_ib ?_ | refine And.intro T.k_tt ?_ | refine And.intro T.k_bb ?_ | refine And.intro T.nP ?_ | refine And.intro T.iF_is_field ?_ | refine And.intro T.iF_picks ?_ | refine And.intro T.iR_is_field ?_ | refine And.intro T.iR_picks ?_ | refine And.intro T.iC_is_field ?_ | refine And.intro T.iC_picks ?_ | refine And.intro T.iC_minus ?_ | refine And.intro T.iC_inverse ?_ | refine And.intro T.iT_is_field ?_ | refine And.intro T.iT_picks ?_ | refine And.intro T.iT_minus ?_ | refine And.intro T.iT_inverse ?_ | refine And.intro T.e_W ?_ | refine And.intro T.e_N ?_ | refine And.intro T.k_WW ?_ | refine And.intro T.k_WN ?_ | refine And.intro T.k_WV ?_ | refine And.intro T.k_NW ?_ | refine And.intro T.k_NN ?_ | refine And.intro T.k_NV ?_))
    refine iteP (fun hr0 => ?_) (fun hr0 => ?_)
    · refine ⟨fun σ' H'' => ∃ g' r' l', σ' = [some (.int a), some (.int b), some (.int g'), some (.int r'), l'] ∧ r'.toNat < r.toNat ∧ (0 ≤ g' ∧ 0 ≤ r' ∧ dv g' r' = dv a b) ∧ H'' = H', fun σ' H'' ⟨g', r', l', e1, e2, e3, e4⟩ => ⟨_, e2, g', r', l', e1, rfl, e3, e4⟩, ?_⟩
      refine ⟨_, rfl, _, rfl, _, _, rfl, rfl, (show r ≠ 0 by omega), _, rfl, _, rfl, ?_⟩
      exact ⟨_, _, _, rfl, d_less hr0, d_turn e hr0, rfl⟩
    · refine ⟨_, rfl, ?_⟩
      (try dsimp only)
      rw [d_out e g0 r0 hr0]
      exact k
theorem ok_law_divisor (T : Txt K mg t) : FnOk P w K mg base CX0 1 t.law_divisor t.d_law_divisor ["_law_one", "_law_other"] sp_divisor := by
  refine T.F_law_divisor.ok sc_law_divisor (fun vs H Q E h => ?_) (fun cdv A outer s H vs Q E hr h => ?_)
  · obtain ⟨a, b, rfl, _⟩ := h
    rfl
  · obtain ⟨a, b, rfl, k⟩ := h
    refine ⟨_, (pss_cons (ps_while PassesOwn.never (pt_cmpR op_ne (pv 1) pe_int (nomark _)) (pss_one (ps_par (i := 0) (j := 1) rfl sc_law_divisor.nd rfl rfl (by decide) rfl rfl (pa_cons (pv 1) (pa_cons (pe_op op_modN (pv 0) (pv 1)) pa_nil)) rfl))) (pss_one (ps_ret (pe_callB call_abs (by rfl) T.z_abs boot_abs (pa_cons (pv 0) pa_nil))))), ?_⟩
    refine ⟨fun m σ H' => ∃ x y, σ = [some (.int x), some (.int y)] ∧ m = y.natAbs ∧ dv x y = dv a b ∧ H' = H, ⟨_, _, _, rfl, rfl, rfl, rfl⟩, ?_⟩
    rintro m σ H' ⟨x, y, rfl, rfl, e, rfl⟩
    (repeat (first | apply Exists.intro | refine And.intro rfl ?_ | refine And.intro (by with_reducible assumption) ?_ | refine And.intro (SqT.of (by assumption)) ?_ | refine And.intro (SqL.of (by assumption)) ?_ | refine And.intro (TyOf.int _) ?_ | refine And.intro (TyOf.tup (by assumption)) ?_ | refine And.intro T.k_ii ?_ | refine And.intro T.k_ib ?_ | refine And.intro T.k_tt ?_ | refine And.intro T.k_bb ?_ | refine And.intro T.nP ?_ | refine And.intro T.iF_is_field ?_ | refine And.intro T.iF_picks ?_ | refine And.intro T.iR_is_field ?_ | refine And.intro T.iR_picks ?_ | refine And.intro T.iC_is_field ?_ | refine And.intro T.iC_picks ?_ | refine And.intro T.iC_minus ?_ | refine And.intro T.iC_inverse ?_ | refine And.intro T.iT_is_field ?_ | refine And.intro T.iT_picks ?_ | refine And.intro T.iT_minus ?_ | refine And.intro T.iT_inverse ?_ | refine And.intro T.e_W ?_ | refine And.intro T.e_N ?_ | refine And.intro T.k_WW ?_ | refine And.intro T.k_WN ?_ | refine And.intro T.k_WV ?_ | refine And.intro T.k_NW ?_ | refine And.intro T.k_NN ?_ | refine And.intro T.k_NV ?_))
    refine iteNI (fun h0 => ?_) (fun h0 => ?_)
    · refine ⟨fun σ' H'' => ∃ x' y', σ' = [some (.int x'), some (.int y')] ∧ y'.natAbs < y.natAbs ∧ dv x' y' = dv a b ∧ H'' = H', fun σ' H'' ⟨x', y', e1, e2, e3, e4⟩ => ⟨_, e2, x', y', e1, rfl, e3, e4⟩, ?_⟩
      refine ⟨_, rfl, _, rfl, _, rfl, _, _, rfl, rfl, h0, _, _, rfl, ?_⟩
      exact ⟨_, _, rfl, fmod_abs_lt _ _ h0, l_turn e, rfl⟩
    · refine ⟨_, rfl, _, rfl, ?_⟩
      (try dsimp only)
      rw [out2 e h0]
      exact k
theorem fr_is {a b : Int} (pb : 0 < b) : a.fdiv (dv a b) = tp a b ∧ b.fdiv (dv a b) = bt a b := by
  unfold tp bt
  rw [sg_pos (by omega)]
  exact ⟨rfl, rfl⟩
theorem dv_sz {a b : Int} {n : Nat} (h : b.natAbs ≤ 2 ^ n) (pb : 0 < b) : (dv a b).natAbs ≤ 2 ^ n := by
  have h1 := dv_le a b (by omega)
  have h2 := dv_nonneg a b
  omega
theorem fr_isN {a b : Int} (nb : b < 0) : a.fdiv (-(dv a b)) = tp a b ∧ b.fdiv (-(dv a b)) = bt a b := by
  unfold tp bt
  rw [sg_neg nb]
  exact ⟨rfl, rfl⟩
theorem dv_szN {a b : Int} {n : Nat} (h : b.natAbs ≤ 2 ^ n) (nb : b ≠ 0) : (dv a b).natAbs ≤ 2 ^ n := by
  have h1 := dv_le a b nb
  have h2 := dv_nonneg a b
  omega
def sp_fractionX (t : Adr) : Sp := fun vs H Q E => ∃ a b n, vs = [.int a, .int b] ∧ (b.natAbs ≤ 2 ^ n ∧ n ≤ 8900) ∧ (b ≠ 0 → ∀ v H', Same H H' → IsF H' v (tp a b) (bt a b) → Q v H') ∧ (b = 0 → E (.ref t.NoWeight) none H)
theorem okx_fraction (T : Txt K mg t) : FnOk P w K mg base (CX1 P w) 2 t.fraction t.d_fraction ["top", "bottom"] (sp_fractionX t) := by
  refine T.F_fraction.okx sc_fraction (fun vs H Q E h => ?_) (fun cdv A outer s H vs Q E hr h => ?_)
  · obtain ⟨a, b, n, rfl, _⟩ := h
    rfl
  · obtain ⟨a, b, n, rfl, ⟨hb, hn⟩, k, kE⟩ := h
    refine ⟨_, (pss_cons (ps_if (PW.pt (pw_or (pt_not (pt_val (pe_call (ok_is_whole T) (hr.mono (by decide)) rfl T.m_is_whole T.F_is_whole.kp T.b_is_whole .nil pass0 (pa_cons (pv 0) pa_nil)))) (pw_or1 (pt_not (pt_val (pe_call (ok_is_whole T) (hr.mono (by decide)) rfl T.m_is_whole T.F_is_whole.kp T.b_is_whole .nil pass0 (pa_cons (pv 1) pa_nil))))))) (pss_one (ps_raise thru_cx rfl T.x_NoWeight.ex rfl T.m_NoWeight (pa_cons pe_str pa_nil))) pss_nil) (pss_cons (ps_if (pt_cmpR op_eq (pv 1) pe_int (nomark _)) (pss_one (ps_raise thru_cx rfl T.x_NoWeight.ex rfl T.m_NoWeight (pa_cons pe_str pa_nil))) pss_nil) (pss_cons (ps_set (i := 2) sc_fraction.nd rfl (Or.inl rfl) (pe_call (ok_divisor T) (hr.mono (by decide)) rfl T.m_divisor T.F_divisor.kp T.b_divisor .nil pass0 (pa_cons (pv 0) (pa_cons (pv 1) pa_nil)))) (pss_cons (ps_if (pt_cmpR op_lt (pv 1) pe_int (nomark _)) (pss_one (ps_set (i := 2) sc_fraction.nd rfl (Or.inl rfl) (pe_un un_neg (pv 2)))) pss_nil) (pss_one (ps_ret (pe_tup (pa_cons (pe_op op_fdivB (pv 0) (pv 2)) (pa_cons (pe_op op_fdivB (pv 1) (pv 2)) pa_nil))))))))), ?_⟩
    (repeat (first | apply Exists.intro | refine And.intro rfl ?_ | refine And.intro (by with_reducible assumption) ?_ | refine And.intro (SqT.of (by assumption)) ?_ | refine And.intro (SqL.of (by assumption)) ?_ | refine And.intro (TyOf.int _) ?_ | refine And.intro (TyOf.tup (by assumption)) ?_ | refine And.intro T.k_ii ?_ | refine And.intro T.k_ib ?_ | refine And.intro T.k_tt ?_ | refine And.intro T.k_bb ?_ | refine And.intro T.nP ?_ | refine And.intro T.iF_is_field ?_ | refine And.intro T.iF_picks ?_ | refine And.intro T.iR_is_field ?_ | refine And.intro T.iR_picks ?_ | refine And.intro T.iC_is_field ?_ | refine And.intro T.iC_picks ?_ | refine And.intro T.iC_minus ?_ | refine And.intro T.iC_inverse ?_ | refine And.intro T.iT_is_field ?_ | refine And.intro T.iT_picks ?_ | refine And.intro T.iT_minus ?_ | refine And.intro T.iT_inverse ?_ | refine And.intro T.e_W ?_ | refine And.intro T.e_N ?_ | refine And.intro T.k_WW ?_ | refine And.intro T.k_WN ?_ | refine And.intro T.k_WV ?_ | refine And.intro T.k_NW ?_ | refine And.intro T.k_NN ?_ | refine And.intro T.k_NV ?_))
    (try refine iteF ?_)
    (repeat (first | apply Exists.intro | refine And.intro rfl ?_ | refine And.intro (by with_reducible assumption) ?_ | refine And.intro (SqT.of (by assumption)) ?_ | refine And.intro (SqL.of (by assumption)) ?_ | refine And.intro (TyOf.int _) ?_ | refine And.intro (TyOf.tup (by assumption)) ?_ | refine And.intro T.k_ii ?_ | refine And.intro T.k_ib ?_ | refine And.intro T.k_tt ?_ | refine And.intro T.k_bb ?_ | refine And.intro T.nP ?_ | refine And.intro T.iF_is_field ?_ | refine And.intro T.iF_picks ?_ | refine And.intro T.iR_is_field ?_ | refine And.intro T.iR_picks ?_ | refine And.intro T.iC_is_field ?_ | refine And.intro T.iC_picks ?_ | refine And.intro T.iC_minus ?_ | refine And.intro T.iC_inverse ?_ | refine And.intro T.iT_is_field ?_ | refine And.intro T.iT_picks ?_ | refine And.intro T.iT_minus ?_ | refine And.intro T.iT_inverse ?_ | refine And.intro T.e_W ?_ | refine And.intro T.e_N ?_ | refine And.intro T.k_WW ?_ | refine And.intro T.k_WN ?_ | refine And.intro T.k_WV ?_ | refine And.intro T.k_NW ?_ | refine And.intro T.k_NN ?_ | refine And.intro T.k_NV ?_))
    (try refine iteF ?_)
    (repeat (first | apply Exists.intro | refine And.intro rfl ?_ | refine And.intro (by with_reducible assumption) ?_ | refine And.intro (SqT.of (by assumption)) ?_ | refine And.intro (SqL.of (by assumption)) ?_ | refine And.intro (TyOf.int _) ?_ | refine And.intro (TyOf.tup (by assumption)) ?_ | refine And.intro T.k_ii ?_ | refine And.intro T.k_ib ?_ | refine And.intro T.k_tt ?_ | refine And.intro T.k_bb ?_ | refine And.intro T.nP ?_ | refine And.intro T.iF_is_field ?_ | refine And.intro T.iF_picks ?_ | refine And.intro T.iR_is_field ?_ | refine And.intro T.iR_picks ?_ | refine And.intro T.iC_is_field ?_ | refine And.intro T.iC_picks ?_ | refine And.intro T.iC_minus ?_ | refine And.intro T.iC_inverse ?_ | refine And.intro T.iT_is_field ?_ | refine And.intro T.iT_picks ?_ | refine And.intro T.iT_minus ?_ | refine And.intro T.iT_inverse ?_ | refine And.intro T.e_W ?_ | refine And.intro T.e_N ?_ | refine And.intro T.k_WW ?_ | refine And.intro T.k_WN ?_ | refine And.intro T.k_WV ?_ | refine And.intro T.k_NW ?_ | refine And.intro T.k_NN ?_ | refine And.intro T.k_NV ?_))
    refine iteI (fun h0 => ?_) (fun nb => ?_)
    · exact ⟨(by show 1 ≤ sizeLine; decide), kE h0⟩
    have hd0 : (dv a b) ≠ 0 := Int.ne_of_gt (dv_pos nb)
    have hl : (dv a b).natAbs.log2 < 9000 := sz_log (dv_szN (a := a) hb nb) hn
    (repeat (first | apply Exists.intro | refine And.intro rfl ?_ | refine And.intro (by with_reducible assumption) ?_ | refine And.intro (SqT.of (by assumption)) ?_ | refine And.intro (SqL.of (by assumption)) ?_ | refine And.intro (TyOf.int _) ?_ | refine And.intro (TyOf.tup (by assumption)) ?_ | refine And.intro T.k_ii ?_ | refine And.intro T.k_ib ?_ | refine And.intro T.k_tt ?_ | refine And.intro T.k_bb ?_ | refine And.intro T.nP ?_ | refine And.intro T.iF_is_field ?_ | refine And.intro T.iF_picks ?_ | refine And.intro T.iR_is_field ?_ | refine And.intro T.iR_picks ?_ | refine And.intro T.iC_is_field ?_ | refine And.intro T.iC_picks ?_ | refine And.intro T.iC_minus ?_ | refine And.intro T.iC_inverse ?_ | refine And.intro T.iT_is_field ?_ | refine And.intro T.iT_picks ?_ | refine And.intro T.iT_minus ?_ | refine And.intro T.iT_inverse ?_ | refine And.intro T.e_W ?_ | refine And.intro T.e_N ?_ | refine And.intro T.k_WW ?_ | refine And.intro T.k_WN ?_ | refine And.intro T.k_WV ?_ | refine And.intro T.k_NW ?_ | refine And.intro T.k_NN ?_ | refine And.intro T.k_NV ?_))
    refine iteP (fun h0 => ?_) (fun h0 => ?_)
    · have hd : CDivB a (-(dv a b)) := ⟨by omega, by rw [Int.natAbs_neg]; exact hl⟩
      have hd' : CDivB b (-(dv a b)) := hd
      (repeat (first | apply Exists.intro | refine And.intro rfl ?_ | refine And.intro (by with_reducible assumption) ?_ | refine And.intro (SqT.of (by assumption)) ?_ | refine And.intro (SqL.of (by assumption)) ?_ | refine And.intro (TyOf.int _) ?_ | refine And.intro (TyOf.tup (by assumption)) ?_ | refine And.intro T.k_ii ?_ | refine And.intro T.k_ib ?_ | refine And.intro T.k_tt ?_ | refine And.intro T.k_bb ?_ | refine And.intro T.nP ?_ | refine And.intro T.iF_is_field ?_ | refine And.intro T.iF_picks ?_ | refine And.intro T.iR_is_field ?_ | refine And.intro T.iR_picks ?_ | refine And.intro T.iC_is_field ?_ | refine And.intro T.iC_picks ?_ | refine And.intro T.iC_minus ?_ | refine And.intro T.iC_inverse ?_ | refine And.intro T.iT_is_field ?_ | refine And.intro T.iT_picks ?_ | refine And.intro T.iT_minus ?_ | refine And.intro T.iT_inverse ?_ | refine And.intro T.e_W ?_ | refine And.intro T.e_N ?_ | refine And.intro T.k_WW ?_ | refine And.intro T.k_WN ?_ | refine And.intro T.k_WV ?_ | refine And.intro T.k_NW ?_ | refine And.intro T.k_NN ?_ | refine And.intro T.k_NV ?_))
      refine ⟨(by show 2 ≤ sizeLine; decide), fun p hp => ?_⟩
      refine k nb _ _ (same_upd hp) ?_
      (try dsimp only)
      rw [(fr_isN h0).1, (fr_isN h0).2]
      exact IsF.new
    · have hd : CDivB a (dv a b) := ⟨hd0, hl⟩
      have hd' : CDivB b (dv a b) := hd
      (repeat (first | apply Exists.intro | refine And.intro rfl ?_ | refine And.intro (by with_reducible assumption) ?_ | refine And.intro (SqT.of (by assumption)) ?_ | refine And.intro (SqL.of (by assumption)) ?_ | refine And.intro (TyOf.int _) ?_ | refine And.intro (TyOf.tup (by assumption)) ?_ | refine And.intro T.k_ii ?_ | refine And.intro T.k_ib ?_ | refine And.intro T.k_tt ?_ | refine And.intro T.k_bb ?_ | refine And.intro T.nP ?_ | refine And.intro T.iF_is_field ?_ | refine And.intro T.iF_picks ?_ | refine And.intro T.iR_is_field ?_ | refine And.intro T.iR_picks ?_ | refine And.intro T.iC_is_field ?_ | refine And.intro T.iC_picks ?_ | refine And.intro T.iC_minus ?_ | refine And.intro T.iC_inverse ?_ | refine And.intro T.iT_is_field ?_ | refine And.intro T.iT_picks ?_ | refine And.intro T.iT_minus ?_ | refine And.intro T.iT_inverse ?_ | refine And.intro T.e_W ?_ | refine And.intro T.e_N ?_ | refine And.intro T.k_WW ?_ | refine And.intro T.k_WN ?_ | refine And.intro T.k_WV ?_ | refine And.intro T.k_NW ?_ | refine And.intro T.k_NN ?_ | refine And.intro T.k_NV ?_))
      refine ⟨(by show 2 ≤ sizeLine; decide), fun p hp => ?_⟩
      refine k nb _ _ (same_upd hp) ?_
      (try dsimp only)
      rw [(fr_is (by omega)).1, (fr_is (by omega)).2]
      exact IsF.new
theorem ok_fraction (T : Txt K mg t) : FnOk P w K mg base CX0 2 t.fraction t.d_fraction ["top", "bottom"] sp_fraction :=
  (okx_fraction T).quiet.imp fun vs H Q E h => by
    obtain ⟨a, b, n, rfl, ⟨hb, hn, pb⟩, k⟩ := h
    exact ⟨a, b, n, rfl, ⟨hb, hn⟩, fun _ => k, fun h0 => absurd h0 (by omega)⟩
theorem ok_is_prime (T : Txt K mg t) : FnOk P w K mg base CX0 1 t.is_prime t.d_is_prime ["number"] sp_prime := by
  refine T.F_is_prime.ok sc_is_prime (fun vs H Q E h => ?_) (fun cdv A outer s H vs Q E hr h => ?_)
  · obtain ⟨n, rfl, _⟩ := h
    rfl
  · obtain ⟨n, rfl, ⟨n2, n6, hp⟩, k⟩ := h
    have PP := isP_true hp
    refine ⟨_, (pss_cons (ps_if (pt_cmpR op_lt (pv 0) pe_int (nomark _)) (pss_one (ps_ret pe_bl)) pss_nil) (pss_cons (ps_set (i := 1) sc_is_prime.nd rfl (Or.inl rfl) pe_int) (pss_cons (ps_while PassesOwn.never (pt_cmpR op_le (pe_op op_mul (pv 1) (pv 1)) (pv 0) (nomark _)) (pss_cons (ps_if (pt_cmpR op_eq (pe_op op_modN (pv 0) (pv 1)) pe_int (nomark _)) (pss_one (ps_ret pe_bl)) pss_nil) (pss_one (ps_set (i := 1) sc_is_prime.nd rfl (Or.inl rfl) (pe_op op_add (pv 1) pe_int))))) (pss_one (ps_ret pe_bl))))), ?_⟩
    refine ⟨_, rfl, _, _, rfl, rfl, _, rfl, ?_⟩
    refine iteP (fun h0 => absurd h0 (by omega)) (fun _ => ?_)
    refine ⟨fun m σ H' => ∃ f : Int, σ = [some (.int n), some (.int f)] ∧ m = (n + 2 - f).toNat ∧ (2 ≤ f ∧ f ≤ n + 1) ∧ H' = H, ⟨_, _, rfl, rfl, ⟨by omega, by omega⟩, rfl⟩, ?_⟩
    rintro m σ H' ⟨f, rfl, rfl, ⟨f2, fn⟩, rfl⟩
    have cm : CMul f f := .inl ⟨by omega, by omega⟩
    refine ⟨_, rfl, _, rfl, _, _, rfl, rfl, cm, _, rfl, _, _, rfl, rfl, _, rfl, ?_⟩
    refine iteP (fun h0 => ?_) (fun h0 => ?_)
    · refine ⟨fun σ' H'' => ∃ f' : Int, σ' = [some (.int n), some (.int f')] ∧ (n + 2 - f').toNat < (n + 2 - f).toNat ∧ (2 ≤ f' ∧ f' ≤ n + 1) ∧ H'' = H', fun σ' H'' ⟨f', e1, e2, e3, e4⟩ => ⟨_, e2, f', e1, rfl, e3, e4⟩, ?_⟩
      refine ⟨_, rfl, _, rfl, _, _, rfl, rfl, (show f ≠ 0 by omega), rfl, _, rfl, ?_⟩
      have hs := sq_le f2 h0
      refine iteI (fun h1 => absurd h1 (PP.2 f f2 h0)) (fun _ => ?_)
      refine ⟨_, rfl, _, _, rfl, rfl, ?_⟩
      exact ⟨_, rfl, by omega, ⟨by omega, by omega⟩, rfl⟩
    · exact k
theorem ok_Residues___init__ (T : Txt K mg t) : FnOk P w K mg base CX0 2 t.Residues___init__ t.d_Residues___init__ ["self", "prime"] (sp_init t.Residues) := by
  refine T.F_Residues___init__.ok sc_Residues___init__ (fun vs H Q E h => ?_) (fun cdv A outer s H vs Q E hr h => ?_)
  · obtain ⟨x, dx, n, rfl, _⟩ := h
    rfl
  · obtain ⟨x, dx, n, rfl, hn, hx, k⟩ := h
    refine ⟨_, (pss_cons (ps_if (PW.pt (pw_or (pt_not (pt_val (pe_call (ok_is_whole T) (hr.mono (by decide)) rfl T.m_is_whole T.F_is_whole.kp T.b_is_whole .nil pass0 (pa_cons (pv 1) pa_nil)))) (pw_or (pt_cmpR op_gt (pv 1) (pe_glob (v := .int 1000000) rfl T.c_GREATEST_PRIME.choose_spec ⟨_, rfl⟩) (nomark _)) (pw_or1 (pt_not (pt_val (pe_call (ok_is_prime T) (hr.mono (by decide)) rfl T.m_is_prime T.F_is_prime.kp T.b_is_prime .nil pass0 (pa_cons (pv 1) pa_nil)))))))) (pss_one ps_never) pss_nil) (pss_one (ps_fld (pv 0) (pv 1) rfl))), ?_⟩
    refine ⟨_, rfl, _, rfl, _, rfl, ?_⟩
    (try refine iteF ?_)
    refine ⟨_, rfl, _, _, rfl, rfl, _, rfl, ?_⟩
    refine iteP (fun h0 => absurd h0 (by have := hn.2.1; omega)) (fun _ => ?_)
    refine ⟨_, rfl, _, rfl, hn, _, rfl, ?_⟩
    (try refine iteF ?_)
    refine ⟨_, rfl, _, rfl, x, _, dx, _, rfl, hx, T.C_Residues, T.nP, (by show 0 < 1000; decide), ?_⟩
    exact k
/-! the methods -/
theorem ok_Fractions_nought (T : Txt K mg t) : FnOk P w K mg base CX0 1 t.Fractions_nought t.d_Fractions_nought ["self"] (spNul t.Fractions [] frSR isFr Fr.zero) := by
  refine T.F_Fractions_nought.ok sc_Fractions_nought (fun vs H Q E h => ?_) (fun cdv A outer s H vs Q E hr h => ?_)
  · obtain ⟨x, rfl, _⟩ := h
    rfl
  · obtain ⟨x, rfl, _, k⟩ := h
    refine ⟨_, (pss_one (ps_ret (pe_tup (pa_cons pe_int (pa_cons pe_int pa_nil))))), ?_⟩
    exact ⟨(by show 2 ≤ sizeLine; decide), fun p hp => k _ _ (same_upd hp) IsF.new⟩
theorem ok_Fractions_one (T : Txt K mg t) : FnOk P w K mg base CX0 1 t.Fractions_one t.d_Fractions_one ["self"] (spNul t.Fractions [] frSR isFr Fr.one) := by
  refine T.F_Fractions_one.ok sc_Fractions_one (fun vs H Q E h => ?_) (fun cdv A outer s H vs Q E hr h => ?_)
  · obtain ⟨x, rfl, _⟩ := h
    rfl
  · obtain ⟨x, rfl, _, k⟩ := h
    refine ⟨_, (pss_one (ps_ret (pe_tup (pa_cons pe_int (pa_cons pe_int pa_nil))))), ?_⟩
    exact ⟨(by show 2 ≤ sizeLine; decide), fun p hp => k _ _ (same_upd hp) IsF.new⟩
theorem ok_Fractions_plus (T : Txt K mg t) : FnOk P w K mg base CX0 3 t.Fractions_plus t.d_Fractions_plus ["self", "x", "y"] (spBin t.Fractions [] frSR isFr Fr.add) := by
  refine T.F_Fractions_plus.ok sc_Fractions_plus (fun vs H Q E h => ?_) (fun cdv A outer s H vs Q E hr h => ?_)
  · obtain ⟨k, x, y, a, b, m, n, rfl, _⟩ := h
    rfl
  · obtain ⟨k0, x, y, a, b, m, n, rfl, ⟨_, ⟨px, rfl, hx⟩, ⟨py, rfl, hy⟩, sa, sb, hmn⟩, k⟩ := h
    have sa : a.sz m := sa
    have sb : b.sz n := sb
    have m1 : CMulB a.t b.b := ⟨sz_bits sa.1 (by omega), sz_bits sb.2 (by omega)⟩
    have m2 : CMulB b.t a.b := ⟨sz_bits sb.1 (by omega), sz_bits sa.2 (by omega)⟩
    have m3 : CMulB a.b b.b := ⟨sz_bits sa.2 (by omega), sz_bits sb.2 (by omega)⟩
    refine ⟨_, (pss_one (ps_ret (pe_call (ok_fraction T) (hr.mono (by decide)) rfl T.m_fraction T.F_fraction.kp T.b_fraction .nil pass0 (pa_cons (pe_op op_add (pe_op op_mulB (pe_ix ix_tup (pv 1) pe_int (fun _ _ => rfl)) (pe_ix ix_tup (pv 2) pe_int (fun _ _ => rfl))) (pe_op op_mulB (pe_ix ix_tup (pv 2) pe_int (fun _ _ => rfl)) (pe_ix ix_tup (pv 1) pe_int (fun _ _ => rfl)))) (pa_cons (pe_op op_mulB (pe_ix ix_tup (pv 1) pe_int (fun _ _ => rfl)) (pe_ix ix_tup (pv 2) pe_int (fun _ _ => rfl))) pa_nil))))), ?_⟩
    (repeat (first | apply Exists.intro | refine And.intro rfl ?_ | refine And.intro (by with_reducible assumption) ?_ | refine And.intro (SqT.of (by assumption)) ?_ | refine And.intro (SqL.of (by assumption)) ?_ | refine And.intro (TyOf.int _) ?_ | refine And.intro (TyOf.tup (by assumption)) ?_ | refine And.intro T.k_ii ?_ | refine And.intro T.k_ib ?_ | refine And.intro T.k_tt ?_ | refine And.intro T.k_bb ?_ | refine And.intro T.nP ?_ | refine And.intro T.iF_is_field ?_ | refine And.intro T.iF_picks ?_ | refine And.intro T.iR_is_field ?_ | refine And.intro T.iR_picks ?_ | refine And.intro T.iC_is_field ?_ | refine And.intro T.iC_picks ?_ | refine And.intro T.iC_minus ?_ | refine And.intro T.iC_inverse ?_ | refine And.intro T.iT_is_field ?_ | refine And.intro T.iT_picks ?_ | refine And.intro T.iT_minus ?_ | refine And.intro T.iT_inverse ?_ | refine And.intro T.e_W ?_ | refine And.intro T.e_N ?_ | refine And.intro T.k_WW ?_ | refine And.intro T.k_WN ?_ | refine And.intro T.k_WV ?_ | refine And.intro T.k_NW ?_ | refine And.intro T.k_NN ?_ | refine And.intro T.k_NV ?_))
    exact ⟨⟨mul_sz sa.2 sb.2, by omega, Int.mul_pos a.p b.p⟩, k⟩
theorem ok_Fractions_times (T : Txt K mg t) : FnOk P w K mg base CX0 3 t.Fractions_times t.d_Fractions_times ["self", "x", "y"] (spBin t.Fractions [] frSR isFr Fr.mul) := by
  refine T.F_Fractions_times.ok sc_Fractions_times (fun vs H Q E h => ?_) (fun cdv A outer s H vs Q E hr h => ?_)
  · obtain ⟨k, x, y, a, b, m, n, rfl, _⟩ := h
    rfl
  · obtain ⟨k0, x, y, a, b, m, n, rfl, ⟨_, ⟨px, rfl, hx⟩, ⟨py, rfl, hy⟩, sa, sb, hmn⟩, k⟩ := h
    have sa : a.sz m := sa
    have sb : b.sz n := sb
    have m1 : CMulB a.t b.t := ⟨sz_bits sa.1 (by omega), sz_bits sb.1 (by omega)⟩
    have m3 : CMulB a.b b.b := ⟨sz_bits sa.2 (by omega), sz_bits sb.2 (by omega)⟩
    refine ⟨_, (pss_one (ps_ret (pe_call (ok_fraction T) (hr.mono (by decide)) rfl T.m_fraction T.F_fraction.kp T.b_fraction .nil pass0 (pa_cons (pe_op op_mulB (pe_ix ix_tup (pv 1) pe_int (fun _ _ => rfl)) (pe_ix ix_tup (pv 2) pe_int (fun _ _ => rfl))) (pa_cons (pe_op op_mulB (pe_ix ix_tup (pv 1) pe_int (fun _ _ => rfl)) (pe_ix ix_tup (pv 2) pe_int (fun _ _ => rfl))) pa_nil))))), ?_⟩
    (repeat (first | apply Exists.intro | refine And.intro rfl ?_ | refine And.intro (by with_reducible assumption) ?_ | refine And.intro (SqT.of (by assumption)) ?_ | refine And.intro (SqL.of (by assumption)) ?_ | refine And.intro (TyOf.int _) ?_ | refine And.intro (TyOf.tup (by assumption)) ?_ | refine And.intro T.k_ii ?_ | refine And.intro T.k_ib ?_ | refine And.intro T.k_tt ?_ | refine And.intro T.k_bb ?_ | refine And.intro T.nP ?_ | refine And.intro T.iF_is_field ?_ | refine And.intro T.iF_picks ?_ | refine And.intro T.iR_is_field ?_ | refine And.intro T.iR_picks ?_ | refine And.intro T.iC_is_field ?_ | refine And.intro T.iC_picks ?_ | refine And.intro T.iC_minus ?_ | refine And.intro T.iC_inverse ?_ | refine And.intro T.iT_is_field ?_ | refine And.intro T.iT_picks ?_ | refine And.intro T.iT_minus ?_ | refine And.intro T.iT_inverse ?_ | refine And.intro T.e_W ?_ | refine And.intro T.e_N ?_ | refine And.intro T.k_WW ?_ | refine And.intro T.k_WN ?_ | refine And.intro T.k_WV ?_ | refine And.intro T.k_NW ?_ | refine And.intro T.k_NN ?_ | refine And.intro T.k_NV ?_))
    exact ⟨⟨mul_sz sa.2 sb.2, by omega, Int.mul_pos a.p b.p⟩, k⟩
theorem ok_Fractions_is_weight (T : Txt K mg t) : FnOk P w K mg base CX0 2 t.Fractions_is_weight t.d_Fractions_is_weight ["self", "thing"] (spIsW t.Fractions [] frSR isFr) := by
  refine T.F_Fractions_is_weight.ok sc_Fractions_is_weight (fun vs H Q E h => ?_) (fun cdv A outer s H vs Q E hr h => ?_)
  · obtain ⟨k, x, a, rfl, _⟩ := h
    rfl
  · obtain ⟨k0, x, a, rfl, ⟨_, ⟨px, rfl, hx⟩⟩, k⟩ := h
    have hl : LenV K (.ref px) H 2 := .inr ⟨_, SqT.of hx, rfl⟩
    refine ⟨_, (pss_cons (ps_if (PW.pt (pw_or (pt_not (pt_val (pe_callB call_isi (by rfl) T.z_isinstance boot_isinstance (pa_cons (pv 1) (pa_cons (pe_bltn (v := .ty "tuple") rfl T.z_tuple boot_tuple rfl) pa_nil))))) (pw_or1 (pt_cmpR op_ne (pe_callB call_len (by rfl) T.z_len PySem.boot_len (pa_cons (pv 1) pa_nil)) pe_int (nomark _))))) (pss_one (ps_ret pe_bl)) pss_nil) (pss_cons (ps_if (PW.pt (pw_or (pt_not (pt_val (pe_call (ok_is_whole T) (hr.mono (by decide)) rfl T.m_is_whole T.F_is_whole.kp T.b_is_whole .nil pass0 (pa_cons (pe_ix ix_tup (pv 1) pe_int (fun _ _ => rfl)) pa_nil)))) (pw_or1 (pt_not (pt_val (pe_call (ok_is_whole T) (hr.mono (by decide)) rfl T.m_is_whole T.F_is_whole.kp T.b_is_whole .nil pass0 (pa_cons (pe_ix ix_tup (pv 1) pe_int (fun _ _ => rfl)) pa_nil))))))) (pss_one (ps_ret pe_bl)) pss_nil) (pss_one (ps_ret (pe_and (pe_cmpR op_ge (pe_ix ix_tup (pv 1) pe_int (fun _ _ => rfl)) pe_int (nomark _)) (pe_one (pe_cmpR op_eq (pe_call (ok_divisor T) (hr.mono (by decide)) rfl T.m_divisor T.F_divisor.kp T.b_divisor .nil pass0 (pa_cons (pe_ix ix_tup (pv 1) pe_int (fun _ _ => rfl)) (pa_cons (pe_ix ix_tup (pv 1) pe_int (fun _ _ => rfl)) pa_nil))) pe_int (nomark _)))))))), ?_⟩
    (repeat (first | apply Exists.intro | refine And.intro rfl ?_ | refine And.intro (by with_reducible assumption) ?_ | refine And.intro (SqT.of (by assumption)) ?_ | refine And.intro (SqL.of (by assumption)) ?_ | refine And.intro (TyOf.int _) ?_ | refine And.intro (TyOf.tup (by assumption)) ?_ | refine And.intro T.k_ii ?_ | refine And.intro T.k_ib ?_ | refine And.intro T.k_tt ?_ | refine And.intro T.k_bb ?_ | refine And.intro T.nP ?_ | refine And.intro T.iF_is_field ?_ | refine And.intro T.iF_picks ?_ | refine And.intro T.iR_is_field ?_ | refine And.intro T.iR_picks ?_ | refine And.intro T.iC_is_field ?_ | refine And.intro T.iC_picks ?_ | refine And.intro T.iC_minus ?_ | refine And.intro T.iC_inverse ?_ | refine And.intro T.iT_is_field ?_ | refine And.intro T.iT_picks ?_ | refine And.intro T.iT_minus ?_ | refine And.intro T.iT_inverse ?_ | refine And.intro T.e_W ?_ | refine And.intro T.e_N ?_ | refine And.intro T.k_WW ?_ | refine And.intro T.k_WN ?_ | refine And.intro T.k_WV ?_ | refine And.intro T.k_NW ?_ | refine And.intro T.k_NN ?_ | refine And.intro T.k_NV ?_))
    refine ⟨hl, ?_⟩
    (repeat (first | apply Exists.intro | refine And.intro rfl ?_ | refine And.intro (by with_reducible assumption) ?_ | refine And.intro (SqT.of (by assumption)) ?_ | refine And.intro (SqL.of (by assumption)) ?_ | refine And.intro (TyOf.int _) ?_ | refine And.intro (TyOf.tup (by assumption)) ?_ | refine And.intro T.k_ii ?_ | refine And.intro T.k_ib ?_ | refine And.intro T.k_tt ?_ | refine And.intro T.k_bb ?_ | refine And.intro T.nP ?_ | refine And.intro T.iF_is_field ?_ | refine And.intro T.iF_picks ?_ | refine And.intro T.iR_is_field ?_ | refine And.intro T.iR_picks ?_ | refine And.intro T.iC_is_field ?_ | refine And.intro T.iC_picks ?_ | refine And.intro T.iC_minus ?_ | refine And.intro T.iC_inverse ?_ | refine And.intro T.iT_is_field ?_ | refine And.intro T.iT_picks ?_ | refine And.intro T.iT_minus ?_ | refine And.intro T.iT_inverse ?_ | refine And.intro T.e_W ?_ | refine And.intro T.e_N ?_ | refine And.intro T.k_WW ?_ | refine And.intro T.k_WN ?_ | refine And.intro T.k_WV ?_ | refine And.intro T.k_NW ?_ | refine And.intro T.k_NN ?_ | refine And.intro T.k_NV ?_))
    refine iteP (fun _ => ?_) (fun h => absurd a.p (by omega))
    (repeat (first | apply Exists.intro | refine And.intro rfl ?_ | refine And.intro (by with_reducible assumption) ?_ | refine And.intro (SqT.of (by assumption)) ?_ | refine And.intro (SqL.of (by assumption)) ?_ | refine And.intro (TyOf.int _) ?_ | refine And.intro (TyOf.tup (by assumption)) ?_ | refine And.intro T.k_ii ?_ | refine And.intro T.k_ib ?_ | refine And.intro T.k_tt ?_ | refine And.intro T.k_bb ?_ | refine And.intro T.nP ?_ | refine And.intro T.iF_is_field ?_ | refine And.intro T.iF_picks ?_ | refine And.intro T.iR_is_field ?_ | refine And.intro T.iR_picks ?_ | refine And.intro T.iC_is_field ?_ | refine And.intro T.iC_picks ?_ | refine And.intro T.iC_minus ?_ | refine And.intro T.iC_inverse ?_ | refine And.intro T.iT_is_field ?_ | refine And.intro T.iT_picks ?_ | refine And.intro T.iT_minus ?_ | refine And.intro T.iT_inverse ?_ | refine And.intro T.e_W ?_ | refine And.intro T.e_N ?_ | refine And.intro T.k_WW ?_ | refine And.intro T.k_WN ?_ | refine And.intro T.k_WV ?_ | refine And.intro T.k_NW ?_ | refine And.intro T.k_NN ?_ | refine And.intro T.k_NV ?_))
    (try dsimp only)
    rw [decI a.l]
    exact k
theorem ok_Residues_nought (T : Txt K mg t) (p : Int) (hp : 2 ≤ p) : FnOk P w K mg base CX0 1 t.Residues_nought t.d_Residues_nought ["self"] (spNul t.Residues (pfs p) (resSR p hp) (isRe p) (resSR p hp).zero) := by
  refine T.F_Residues_nought.ok sc_Residues_nought (fun vs H Q E h => ?_) (fun cdv A outer s H vs Q E hr h => ?_)
  · obtain ⟨x, rfl, _⟩ := h
    rfl
  · obtain ⟨x, rfl, _, k⟩ := h
    refine ⟨_, (pss_one (ps_ret pe_int)), ?_⟩
    exact k _ _ (Same.refl _) rfl
theorem ok_Residues_one (T : Txt K mg t) (p : Int) (hp : 2 ≤ p) : FnOk P w K mg base CX0 1 t.Residues_one t.d_Residues_one ["self"] (spNul t.Residues (pfs p) (resSR p hp) (isRe p) (resSR p hp).one) := by
  refine T.F_Residues_one.ok sc_Residues_one (fun vs H Q E h => ?_) (fun cdv A outer s H vs Q E hr h => ?_)
  · obtain ⟨x, rfl, _⟩ := h
    rfl
  · obtain ⟨x, rfl, _, k⟩ := h
    refine ⟨_, (pss_one (ps_ret pe_int)), ?_⟩
    exact k _ _ (Same.refl _) rfl
theorem ok_Residues_plus (T : Txt K mg t) (p : Int) (hp : 2 ≤ p) : FnOk P w K mg base CX0 1 t.Residues_plus t.d_Residues_plus ["self", "x", "y"] (spBin t.Residues (pfs p) (resSR p hp) (isRe p) (resSR p hp).add) := by
  refine T.F_Residues_plus.ok sc_Residues_plus (fun vs H Q E h => ?_) (fun cdv A outer s H vs Q E hr h => ?_)
  · obtain ⟨k, x, y, a, b, m, n, rfl, _⟩ := h
    rfl
  · obtain ⟨k0, x, y, a, b, m, n, rfl, ⟨⟨q, dx, rfl, hq⟩, rfl, rfl, sa, sb, hmn⟩, k⟩ := h
    refine ⟨_, (pss_one (ps_ret (pe_op op_modN (pe_op op_add (pv 1) (pv 2)) (pe_fld (pv 0) rfl)))), ?_⟩
    refine ⟨_, rfl, _, rfl, _, _, rfl, rfl, _, rfl, q, _, dx, _, _, rfl, hq, T.C_Residues, T.nP, pfs_prime p, _, _, rfl, rfl, (show p ≠ 0 by omega), ?_⟩
    exact k _ _ (Same.refl _) rfl
theorem ok_Residues_times (T : Txt K mg t) (p : Int) (hp : 2 ≤ p) (hq : p ≤ 1000000) : FnOk P w K mg base CX0 1 t.Residues_times t.d_Residues_times ["self", "x", "y"] (spBin t.Residues (pfs p) (resSR p hp) (isRe p) (resSR p hp).mul) := by
  refine T.F_Residues_times.ok sc_Residues_times (fun vs H Q E h => ?_) (fun cdv A outer s H vs Q E hr h => ?_)
  · obtain ⟨k, x, y, a, b, m, n, rfl, _⟩ := h
    rfl
  · obtain ⟨k0, x, y, a, b, m, n, rfl, ⟨⟨q, dx, rfl, hk⟩, rfl, rfl, sa, sb, hmn⟩, k⟩ := h
    have cm : CMul a.x b.x := .inl ⟨by have := a.h0; omega, by have := a.h1; omega⟩
    refine ⟨_, (pss_one (ps_ret (pe_op op_modN (pe_op op_mul (pv 1) (pv 2)) (pe_fld (pv 0) rfl)))), ?_⟩
    refine ⟨_, rfl, _, rfl, _, _, rfl, rfl, cm, _, rfl, q, _, dx, _, _, rfl, hk, T.C_Residues, T.nP, pfs_prime p, _, _, rfl, rfl, (show p ≠ 0 by omega), ?_⟩
    exact k _ _ (Same.refl _) rfl
theorem ok_Residues_is_weight (T : Txt K mg t) (p : Int) (hp : 2 ≤ p) : FnOk P w K mg base CX0 2 t.Residues_is_weight t.d_Residues_is_weight ["self", "thing"] (spIsW t.Residues (pfs p) (resSR p hp) (isRe p)) := by
  refine T.F_Residues_is_weight.ok sc_Residues_is_weight (fun vs H Q E h => ?_) (fun cdv A outer s H vs Q E hr h => ?_)
  · obtain ⟨k, x, a, rfl, _⟩ := h
    rfl
  · obtain ⟨k0, x, a, rfl, ⟨⟨q, dx, rfl, hq⟩, rfl⟩, k⟩ := h
    refine ⟨_, (pss_one (ps_ret (pe_and (pe_call (ok_is_whole T) (hr.mono (by decide)) rfl T.m_is_whole T.F_is_whole.kp T.b_is_whole .nil pass0 (pa_cons (pv 1) pa_nil)) (pe_one (pe_chain op_le op_lt pe_int (pv 1) (pe_fld (pv 0) rfl)))))), ?_⟩
    refine ⟨_, rfl, _, rfl, _, rfl, ?_⟩
    (try refine iteT ?_)
    refine ⟨_, rfl, _, _, rfl, rfl, _, rfl, ?_⟩
    refine iteP (fun _ => ?_) (fun h => absurd a.h0 h)
    refine ⟨_, rfl, q, _, dx, _, _, rfl, hq, T.C_Residues, T.nP, pfs_prime p, _, _, rfl, rfl, ?_⟩
    (try dsimp only)
    rw [decide_eq_true a.h1]
    exact k
theorem ok_Costs_nought (T : Txt K mg t) : FnOk P w K mg base CX0 1 t.Costs_nought t.d_Costs_nought ["self"] (spNul t.Costs [] costSR isCo costSR.zero) := by
  refine T.F_Costs_nought.ok sc_Costs_nought (fun vs H Q E h => ?_) (fun cdv A outer s H vs Q E hr h => ?_)
  · obtain ⟨x, rfl, _⟩ := h
    rfl
  · obtain ⟨x, rfl, _, k⟩ := h
    refine ⟨_, (pss_one (ps_ret pe_non)), ?_⟩
    exact k _ _ (Same.refl _) rfl
theorem ok_Truths_nought (T : Txt K mg t) : FnOk P w K mg base CX0 1 t.Truths_nought t.d_Truths_nought ["self"] (spNul t.Truths [] truthSR isTr truthSR.zero) := by
  refine T.F_Truths_nought.ok sc_Truths_nought (fun vs H Q E h => ?_) (fun cdv A outer s H vs Q E hr h => ?_)
  · obtain ⟨x, rfl, _⟩ := h
    rfl
  · obtain ⟨x, rfl, _, k⟩ := h
    refine ⟨_, (pss_one (ps_ret pe_bl)), ?_⟩
    exact k _ _ (Same.refl _) rfl
/-! the kinds -/
def R_fr (T : Txt K mg t) : KindR P w K mg base where
  S := frSR
  C := t.Fractions
  fs := []
  cl := T.C_Fractions
  is := isFr
  same e h := IsF.same e h
  isd h := IsF.is h
  f_plus := _
  d_plus := _
  t_plus := T.t_Fractions_plus
  b_plus := T.b_Fractions_plus
  l_plus := rfl
  G_plus := (ok_Fractions_plus T).mono (by decide)
  f_times := _
  d_times := _
  t_times := T.t_Fractions_times
  b_times := T.b_Fractions_times
  l_times := rfl
  G_times := (ok_Fractions_times T).mono (by decide)
  f_nought := _
  d_nought := _
  t_nought := T.t_Fractions_nought
  b_nought := T.b_Fractions_nought
  l_nought := rfl
  G_nought := (ok_Fractions_nought T).mono (by decide)
  f_one := _
  d_one := _
  t_one := T.t_Fractions_one
  b_one := T.b_Fractions_one
  l_one := rfl
  G_one := (ok_Fractions_one T).mono (by decide)
  f_is_weight := _
  d_is_weight := _
  t_is_weight := T.t_Fractions_is_weight
  b_is_weight := T.b_Fractions_is_weight
  l_is_weight := rfl
  G_is_weight := (ok_Fractions_is_weight T).mono (by decide)
def R_re (T : Txt K mg t) (p : Int) (hp : 2 ≤ p) (hq : p ≤ 1000000) : KindR P w K mg base where
  S := resSR p hp
  C := t.Residues
  fs := pfs p
  cl := T.C_Residues
  is := isRe p
  same _ h := h
  isd {H v x} h := by cases (show v = .int x.x from h); exact .int _
  f_plus := _
  d_plus := _
  t_plus := T.t_Residues_plus
  b_plus := T.b_Residues_plus
  l_plus := pfs_no p (by decide +kernel)
  G_plus := (ok_Residues_plus T p hp).mono (by decide)
  f_times := _
  d_times := _
  t_times := T.t_Residues_times
  b_times := T.b_Residues_times
  l_times := pfs_no p (by decide +kernel)
  G_times := (ok_Residues_times T p hp hq).mono (by decide)
  f_nought := _
  d_nought := _
  t_nought := T.t_Residues_nought
  b_nought := T.b_Residues_nought
  l_nought := pfs_no p (by decide +kernel)
  G_nought := (ok_Residues_nought T p hp).mono (by decide)
  f_one := _
  d_one := _
  t_one := T.t_Residues_one
  b_one := T.b_Residues_one
  l_one := pfs_no p (by decide +kernel)
  G_one := (ok_Residues_one T p hp).mono (by decide)
  f_is_weight := _
  d_is_weight := _
  t_is_weight := T.t_Residues_is_weight
  b_is_weight := T.b_Residues_is_weight
  l_is_weight := pfs_no p (by decide +kernel)
  G_is_weight := (ok_Residues_is_weight T p hp).mono (by decide)

/-! minus, inverse, is_field, picks -/
def spBl (C : Addr) (fs : List (Str × V)) (b : Bool) : Sp := fun vs H Q _ => ∃ k, vs = [k] ∧ KAt C fs H k ∧ Q (.bl b) H
def spAny (b : Bool) : Sp := fun vs H Q _ => ∃ k, vs = [k] ∧ Q (.bl b) H
theorem ok_Field_is_field (T : Txt K mg t) : FnOk P w K mg base CX0 1 t.Field_is_field t.d_Field_is_field ["self"] (spAny true) := by
  refine T.F_Field_is_field.ok sc_Field_is_field (fun vs H Q E h => ?_) (fun cdv A outer s H vs Q E hr h => ?_)
  · obtain ⟨x, rfl, _⟩ := h
    rfl
  · obtain ⟨x, rfl, k⟩ := h
    exact ⟨_, (pss_one (ps_ret pe_bl)), k⟩
theorem ok_Field_picks (T : Txt K mg t) : FnOk P w K mg base CX0 1 t.Field_picks t.d_Field_picks ["self"] (spAny false) := by
  refine T.F_Field_picks.ok sc_Field_picks (fun vs H Q E h => ?_) (fun cdv A outer s H vs Q E hr h => ?_)
  · obtain ⟨x, rfl, _⟩ := h
    rfl
  · obtain ⟨x, rfl, k⟩ := h
    exact ⟨_, (pss_one (ps_ret pe_bl)), k⟩
theorem ok_Picking_is_field (T : Txt K mg t) : FnOk P w K mg base CX0 1 t.Picking_is_field t.d_Picking_is_field ["self"] (spAny false) := by
  refine T.F_Picking_is_field.ok sc_Picking_is_field (fun vs H Q E h => ?_) (fun cdv A outer s H vs Q E hr h => ?_)
  · obtain ⟨x, rfl, _⟩ := h
    rfl
  · obtain ⟨x, rfl, k⟩ := h
    exact ⟨_, (pss_one (ps_ret pe_bl)), k⟩
theorem ok_Picking_picks (T : Txt K mg t) : FnOk P w K mg base CX0 1 t.Picking_picks t.d_Picking_picks ["self"] (spAny true) := by
  refine T.F_Picking_picks.ok sc_Picking_picks (fun vs H Q E h => ?_) (fun cdv A outer s H vs Q E hr h => ?_)
  · obtain ⟨x, rfl, _⟩ := h
    rfl
  · obtain ⟨x, rfl, k⟩ := h
    exact ⟨_, (pss_one (ps_ret pe_bl)), k⟩
def spWrong (t : Adr) : Sp := fun vs H _ E => ∃ k x, vs = [k, x] ∧ E (.ref t.WrongKind) none H
theorem okx_Picking_minus (T : Txt K mg t) : FnOk P w K mg base (CX1 P w) 1 t.Picking_minus t.d_Picking_minus ["self", "x"] (spWrong t) := by
  refine T.F_Picking_minus.okx sc_Picking_minus (fun vs H Q E h => ?_) (fun cdv A outer s H vs Q E hr h => ?_)
  · obtain ⟨k, x, rfl, _⟩ := h
    rfl
  · obtain ⟨k0, x, rfl, k⟩ := h
    exact ⟨_, (pss_one (ps_raise thru_cx rfl T.x_WrongKind.ex rfl T.m_WrongKind (pa_cons pe_str pa_nil))), (by show 1 ≤ sizeLine; decide), k⟩
theorem okx_Picking_inverse (T : Txt K mg t) : FnOk P w K mg base (CX1 P w) 1 t.Picking_inverse t.d_Picking_inverse ["self", "x"] (spWrong t) := by
  refine T.F_Picking_inverse.okx sc_Picking_inverse (fun vs H Q E h => ?_) (fun cdv A outer s H vs Q E hr h => ?_)
  · obtain ⟨k, x, rfl, _⟩ := h
    rfl
  · obtain ⟨k0, x, rfl, k⟩ := h
    exact ⟨_, (pss_one (ps_raise thru_cx rfl T.x_WrongKind.ex rfl T.m_WrongKind (pa_cons pe_str pa_nil))), (by show 1 ≤ sizeLine; decide), k⟩
def spNeg (C : Addr) (fs : List (Str × V)) (S : SR) (is : Hp → V → S.W → Prop) (f : S.W → S.W) : Sp := fun vs H Q _ => ∃ k x a, vs = [k, x] ∧ (KAt C fs H k ∧ is H x a) ∧ ∀ v H', Same H H' → is H' v (f a) → Q v H'
def spInv (NW C : Addr) (fs : List (Str × V)) (S : SR) (is : Hp → V → S.W → Prop) (f : S.W → S.W) : Sp := fun vs H Q E => ∃ k x a m, vs = [k, x] ∧ (KAt C fs H k ∧ is H x a ∧ S.sz m a ∧ m ≤ 8000) ∧
  (a ≠ S.zero → ∀ v H', Same H H' → is H' v (f a) → Q v H') ∧ (a = S.zero → E (.ref NW) none H)
def Frneg (x : Fr) : Fr := ⟨-x.t, x.b, x.p, by rw [dv_neg]; exact x.l⟩
def Frinv (x : Fr) : Fr := if h : x.t ≠ 0 then ⟨tp x.b x.t, bt x.b x.t, bt_pos h, low h⟩ else x
theorem Fr_nz {x : Fr} (h : x ≠ Fr.zero) : x.t ≠ 0 := fun e => by
  refine h (Fr.eq_of e ?_)
  have h1 := x.l
  rw [e] at h1
  have h2 : dv 0 x.b = x.b := by rw [dv_comm, dv_zero]; have := x.p; omega
  rw [h2] at h1
  exact h1
theorem Fr_z {x : Fr} (h : x = Fr.zero) : x.t = 0 := by rw [h]; rfl
theorem Frinv_of {x : Fr} (h : x.t ≠ 0) : Frinv x = ⟨tp x.b x.t, bt x.b x.t, bt_pos h, low h⟩ := by unfold Frinv; rw [dif_pos h]
theorem Frinv_t {x : Fr} (h : x.t ≠ 0) : (Frinv x).t = tp x.b x.t := by rw [Frinv_of h]
theorem Frinv_b {x : Fr} (h : x.t ≠ 0) : (Frinv x).b = bt x.b x.t := by rw [Frinv_of h]
theorem Frinv_ne {x : Fr} (h : x.t ≠ 0) : (Frinv x).t ≠ 0 := by
  rw [Frinv_t h]
  intro e
  have h1 := tp_mul (a := x.b) h
  rw [e, Int.mul_zero] at h1
  have := x.p
  omega
theorem ok_Fractions_minus (T : Txt K mg t) : FnOk P w K mg base CX0 1 t.Fractions_minus t.d_Fractions_minus ["self", "x"] (spNeg t.Fractions [] frSR isFr Frneg) := by
  refine T.F_Fractions_minus.ok sc_Fractions_minus (fun vs H Q E h => ?_) (fun cdv A outer s H vs Q E hr h => ?_)
  · obtain ⟨k, x, a, rfl, _⟩ := h
    rfl
  · obtain ⟨k0, x, a, rfl, ⟨_, ⟨px, rfl, hx⟩⟩, k⟩ := h
    refine ⟨_, (pss_one (ps_ret (pe_tup (pa_cons (pe_un un_neg (pe_ix ix_tup (pv 1) pe_int (fun _ _ => rfl))) (pa_cons (pe_ix ix_tup (pv 1) pe_int (fun _ _ => rfl)) pa_nil))))), ?_⟩
    (repeat (first | apply Exists.intro | refine And.intro rfl ?_ | refine And.intro (by with_reducible assumption) ?_ | refine And.intro (SqT.of (by assumption)) ?_ | refine And.intro (SqL.of (by assumption)) ?_ | refine And.intro (TyOf.int _) ?_ | refine And.intro (TyOf.tup (by assumption)) ?_ | refine And.intro T.k_ii ?_ | refine And.intro T.k_ib ?_ | refine And.intro T.k_tt ?_ | refine And.intro T.k_bb ?_ | refine And.intro T.nP ?_ | refine And.intro T.iF_is_field ?_ | refine And.intro T.iF_picks ?_ | refine And.intro T.iR_is_field ?_ | refine And.intro T.iR_picks ?_ | refine And.intro T.iC_is_field ?_ | refine And.intro T.iC_picks ?_ | refine And.intro T.iC_minus ?_ | refine And.intro T.iC_inverse ?_ | refine And.intro T.iT_is_field ?_ | refine And.intro T.iT_picks ?_ | refine And.intro T.iT_minus ?_ | refine And.intro T.iT_inverse ?_ | refine And.intro T.e_W ?_ | refine And.intro T.e_N ?_ | refine And.intro T.k_WW ?_ | refine And.intro T.k_WN ?_ | refine And.intro T.k_WV ?_ | refine And.intro T.k_NW ?_ | refine And.intro T.k_NN ?_ | refine And.intro T.k_NV ?_))
    exact ⟨(by show 2 ≤ sizeLine; decide), fun p hp => k _ _ (same_upd hp) IsF.new⟩
theorem okx_Fractions_inverse (T : Txt K mg t) : FnOk P w K mg base (CX1 P w) 3 t.Fractions_inverse t.d_Fractions_inverse ["self", "x"] (spInv t.NoWeight t.Fractions [] frSR isFr Frinv) := by
  refine T.F_Fractions_inverse.okx sc_Fractions_inverse (fun vs H Q E h => ?_) (fun cdv A outer s H vs Q E hr h => ?_)
  · obtain ⟨k, x, a, m, rfl, _⟩ := h
    rfl
  · obtain ⟨k0, x, a, m, rfl, ⟨_, ⟨px, rfl, hx⟩, sa, hm⟩, k, kE⟩ := h
    have sa : a.sz m := sa
    refine ⟨_, (pss_one (ps_ret (PEX.thru thru_cx (px_call (okx_fraction T) (hr.mono (by decide)) rfl T.m_fraction T.F_fraction.kp T.b_fraction .nil (pa_cons (pe_ix ix_tup (pv 1) pe_int (fun _ _ => rfl)) (pa_cons (pe_ix ix_tup (pv 1) pe_int (fun _ _ => rfl)) pa_nil)))))), ?_⟩
    (repeat (first | apply Exists.intro | refine And.intro rfl ?_ | refine And.intro (by with_reducible assumption) ?_ | refine And.intro (SqT.of (by assumption)) ?_ | refine And.intro (SqL.of (by assumption)) ?_ | refine And.intro (TyOf.int _) ?_ | refine And.intro (TyOf.tup (by assumption)) ?_ | refine And.intro T.k_ii ?_ | refine And.intro T.k_ib ?_ | refine And.intro T.k_tt ?_ | refine And.intro T.k_bb ?_ | refine And.intro T.nP ?_ | refine And.intro T.iF_is_field ?_ | refine And.intro T.iF_picks ?_ | refine And.intro T.iR_is_field ?_ | refine And.intro T.iR_picks ?_ | refine And.intro T.iC_is_field ?_ | refine And.intro T.iC_picks ?_ | refine And.intro T.iC_minus ?_ | refine And.intro T.iC_inverse ?_ | refine And.intro T.iT_is_field ?_ | refine And.intro T.iT_picks ?_ | refine And.intro T.iT_minus ?_ | refine And.intro T.iT_inverse ?_ | refine And.intro T.e_W ?_ | refine And.intro T.e_N ?_ | refine And.intro T.k_WW ?_ | refine And.intro T.k_WN ?_ | refine And.intro T.k_WV ?_ | refine And.intro T.k_NW ?_ | refine And.intro T.k_NN ?_ | refine And.intro T.k_NV ?_))
    refine ⟨⟨sa.1, by omega⟩, fun h0 v H' q f => ?_, fun h0 => ?_⟩
    · refine k (fun e => h0 (Fr_z e)) v H' q ?_
      show IsF H' v (Frinv a).t (Frinv a).b
      rw [Frinv_t h0, Frinv_b h0]
      exact f
    · refine kE (Classical.byContradiction fun e => Fr_nz e h0)
def Reneg (p : Int) (hp : 2 ≤ p) (a : Re p) : Re p := Re.of p (by omega) (-a.x)
def Reinv (p : Int) (hp : 2 ≤ p) (a : Re p) : Re p := ⟨ri p a.x, (ri_in (by omega)).1, (ri_in (by omega)).2⟩
theorem ok_Residues_minus (T : Txt K mg t) (p : Int) (hp : 2 ≤ p) : FnOk P w K mg base CX0 1 t.Residues_minus t.d_Residues_minus ["self", "x"] (spNeg t.Residues (pfs p) (resSR p hp) (isRe p) (Reneg p hp)) := by
  refine T.F_Residues_minus.ok sc_Residues_minus (fun vs H Q E h => ?_) (fun cdv A outer s H vs Q E hr h => ?_)
  · obtain ⟨k, x, a, rfl, _⟩ := h
    rfl
  · obtain ⟨k0, x, a, rfl, ⟨⟨q, dx, rfl, hq⟩, rfl⟩, k⟩ := h
    refine ⟨_, (pss_one (ps_ret (pe_op op_modN (pe_un un_neg (pv 1)) (pe_fld (pv 0) rfl)))), ?_⟩
    refine ⟨_, rfl, _, rfl, _, rfl, q, _, dx, _, _, rfl, hq, T.C_Residues, T.nP, pfs_prime p, _, _, rfl, rfl, (show p ≠ 0 by omega), ?_⟩
    exact k _ _ (Same.refl _) rfl
theorem half {l : Int} (h : 0 < l) : 0 ≤ l.fdiv 2 ∧ (l.fdiv 2).toNat < l.toNat := by
  rw [Int.fdiv_eq_ediv_of_nonneg l (by decide)]
  omega
theorem okx_Residues_inverse (T : Txt K mg t) (p : Int) (hp : 2 ≤ p) (hq : p ≤ 1000000) : FnOk P w K mg base (CX1 P w) 3 t.Residues_inverse t.d_Residues_inverse ["self", "x"] (spInv t.NoWeight t.Residues (pfs p) (resSR p hp) (isRe p) (Reinv p hp)) := by
  refine T.F_Residues_inverse.okx sc_Residues_inverse (fun vs H Q E h => ?_) (fun cdv A outer s H vs Q E hr h => ?_)
  · obtain ⟨k, x, a, m, rfl, _⟩ := h
    rfl
  · obtain ⟨k0, x, a, m, rfl, ⟨⟨q, dx, rfl, hk0⟩, rfl, sa, hm⟩, k, kE⟩ := h
    have hk : ∀ {H' : Hp}, Same H H' → H' q = some (.ins t.Residues dx (pfs p)) := fun e => e _ _ hk0
    have nt : (pfs p).lookup ("times" : Str) = none := pfs_no p (by decide +kernel)
    refine ⟨_, (pss_cons (ps_if (pt_cmpR op_eq (pv 1) pe_int (nomark _)) (pss_one (ps_raise thru_cx rfl T.x_NoWeight.ex rfl T.m_NoWeight (pa_cons pe_str pa_nil))) pss_nil) (pss_cons (ps_set (i := 2) sc_Residues_inverse.nd rfl (Or.inl rfl) pe_int) (pss_cons (ps_set (i := 3) sc_Residues_inverse.nd rfl (Or.inl rfl) (pv 1)) (pss_cons (ps_set (i := 4) sc_Residues_inverse.nd rfl (Or.inl rfl) (pe_op op_sub (pe_fld (pv 0) rfl) pe_int)) (pss_cons (PS.nox (ps_while PassesOwn.never (pt_cmpR op_gt (pv 4) pe_int (nomark _)) (pss_cons (ps_if (pt_cmpR op_eq (pe_op op_modN (pv 4) pe_int) pe_int (nomark _)) (pss_one (ps_set (i := 2) sc_Residues_inverse.nd rfl (Or.inl rfl) (pe_meth (pv 0) T.C_Residues T.t_Residues_times (ok_Residues_times T p hp hq) (hr.mono (by decide)) T.b_Residues_times .nil pass0 (pa_cons (pv 2) (pa_cons (pv 3) pa_nil))))) pss_nil) (pss_cons (ps_set (i := 3) sc_Residues_inverse.nd rfl (Or.inl rfl) (pe_meth (pv 0) T.C_Residues T.t_Residues_times (ok_Residues_times T p hp hq) (hr.mono (by decide)) T.b_Residues_times .nil pass0 (pa_cons (pv 3) (pa_cons (pv 3) pa_nil)))) (pss_one (ps_set (i := 4) sc_Residues_inverse.nd rfl (Or.inl rfl) (pe_op op_fdivB (pv 4) pe_int))))))) (pss_one (ps_ret (pv 2)))))))), ?_⟩
    refine ⟨_, rfl, rfl, _, rfl, ?_⟩
    refine iteI (fun h0 => ⟨(by show 1 ≤ sizeLine; decide), kE (Re.eq_of h0)⟩) (fun h0 => ?_)
    refine ⟨_, rfl, _, rfl, q, _, dx, _, _, rfl, hk0, T.C_Residues, T.nP, pfs_prime p, _, _, rfl, rfl, ?_⟩
    refine ⟨fun m σ H' => ∃ l pr sq : Int, σ = [some (.ref q), some (.int a.x), some (.int pr), some (.int sq), some (.int l)] ∧ m = l.toNat ∧ (0 ≤ l ∧ 0 ≤ sq ∧ sq < p ∧ RInv p a.x l pr sq) ∧ Same H H', ⟨_, _, _, _, rfl, rfl, ⟨by omega, a.h0, a.h1, ri_start hp⟩, Same.refl _⟩, ?_⟩
    rintro m σ H' ⟨l, pr, sq, rfl, rfl, ⟨l0, s0, s1, ri⟩, qq⟩
    refine ⟨_, rfl, _, _, rfl, rfl, _, rfl, ?_⟩
    refine iteP (fun hl => ?_) (fun hl => ?_)
    · refine ⟨fun σ' H'' => ∃ l' pr' sq' : Int, σ' = [some (.ref q), some (.int a.x), some (.int pr'), some (.int sq'), some (.int l')] ∧ l'.toNat < l.toNat ∧ (0 ≤ l' ∧ 0 ≤ sq' ∧ sq' < p ∧ RInv p a.x l' pr' sq') ∧ Same H H'', fun σ' H'' ⟨l', pr', sq', e1, e2, e3, e4⟩ => ⟨_, e2, l', pr', sq', e1, rfl, e3, e4⟩, ?_⟩
      have fd := half hl
      have m0 : (0 : Nat) + 0 ≤ 8000 := by decide
      refine ⟨_, rfl, _, _, rfl, rfl, (show (2 : Int) ≠ 0 by decide), rfl, _, rfl, ?_⟩
      refine iteI (fun ho => ?_) (fun ho => ?_)
      · refine ⟨_, rfl, _, _, _, rfl, hk qq, nt, _, rfl, _, rfl, _, _, _, (⟨pr, ri.2.1, ri.2.2⟩ : Re p), (⟨sq, s0, s1⟩ : Re p), 0, 0, rfl, ⟨⟨_, _, rfl, hk qq⟩, rfl, rfl, trivial, trivial, m0⟩, fun v1 H1 q1 f1 => ?_⟩
        obtain rfl : v1 = .int ((pr * sq).fmod p) := f1
        have s2 := qq.trans q1
        refine ⟨_, rfl, _, _, _, rfl, hk s2, nt, _, rfl, _, rfl, _, _, _, (⟨sq, s0, s1⟩ : Re p), (⟨sq, s0, s1⟩ : Re p), 0, 0, rfl, ⟨⟨_, _, rfl, hk s2⟩, rfl, rfl, trivial, trivial, m0⟩, fun v2 H2 q2 f2 => ?_⟩
        obtain rfl : v2 = .int ((sq * sq).fmod p) := f2
        refine ⟨_, rfl, _, _, rfl, rfl, ⟨by decide, by decide⟩, ?_⟩
        exact ⟨_, _, _, rfl, fd.2, ⟨fd.1, (r_in (by omega)).1, (r_in (by omega)).2, ri_odd (by omega) ri hl (by rw [← fe (by decide)]; exact ho)⟩, s2.trans q2⟩
      · refine ⟨_, rfl, _, _, _, rfl, hk qq, nt, _, rfl, _, rfl, _, _, _, (⟨sq, s0, s1⟩ : Re p), (⟨sq, s0, s1⟩ : Re p), 0, 0, rfl, ⟨⟨_, _, rfl, hk qq⟩, rfl, rfl, trivial, trivial, m0⟩, fun v2 H2 q2 f2 => ?_⟩
        obtain rfl : v2 = .int ((sq * sq).fmod p) := f2
        refine ⟨_, rfl, _, _, rfl, rfl, ⟨by decide, by decide⟩, ?_⟩
        exact ⟨_, _, _, rfl, fd.2, ⟨fd.1, (r_in (by omega)).1, (r_in (by omega)).2, ri_even (by omega) ri hl (by rw [← fe (by decide)]; exact ho)⟩, qq.trans q2⟩
    · refine ⟨_, rfl, ?_⟩
      have e := ri_out ri hl
      refine k (fun z => h0 (congrArg Re.x z)) _ _ qq ?_
      show V.int pr = .int (Mine.ri p a.x)
      rw [e]
/-! the records of the kinds -/
structure FldR (P : Program) (w : World) (K : PySem.W.Frag) (mg : Str → Option Value) (base : Heap) (NW : Addr) extends KindR P w K mg base where
  neg : S.W → S.W
  inv : S.W → S.W
  add_neg : ∀ x, S.add x (neg x) = S.zero
  neg_neg : ∀ x, neg (neg x) = x
  mul_inv : ∀ x, x ≠ S.zero → S.mul x (inv x) = S.one
  inv_inv : ∀ x, x ≠ S.zero → inv (inv x) = x
  inv_ne : ∀ x, x ≠ S.zero → inv x ≠ S.zero
  sz_neg : ∀ m x, S.sz m x → S.sz m (neg x)
  sz_inv : ∀ m x, x ≠ S.zero → S.sz m x → S.sz m (inv x)
  f_is_field : Addr
  d_is_field : FuncData
  t_is_field : Meth K C "is_field" f_is_field
  b_is_field : Binds K d_is_field ["self"] []
  l_is_field : fs.lookup ("is_field" : Str) = none
  G_is_field : FnOk P w K mg base CX0 4 f_is_field d_is_field ["self"] (spAny true)
  f_picks : Addr
  d_picks : FuncData
  t_picks : Meth K C "picks" f_picks
  b_picks : Binds K d_picks ["self"] []
  l_picks : fs.lookup ("picks" : Str) = none
  G_picks : FnOk P w K mg base CX0 4 f_picks d_picks ["self"] (spAny false)
  f_minus : Addr
  d_minus : FuncData
  t_minus : Meth K C "minus" f_minus
  b_minus : Binds K d_minus ["self", "x"] []
  l_minus : fs.lookup ("minus" : Str) = none
  G_minus : FnOk P w K mg base CX0 4 f_minus d_minus ["self", "x"] (spNeg C fs S is neg)
  f_inverse : Addr
  d_inverse : FuncData
  t_inverse : Meth K C "inverse" f_inverse
  b_inverse : Binds K d_inverse ["self", "x"] []
  l_inverse : fs.lookup ("inverse" : Str) = none
  X_inverse : FnOk P w K mg base (CX1 P w) 4 f_inverse d_inverse ["self", "x"] (spInv NW C fs S is inv)
theorem FldR.G_inverse {NW : Addr} (R : FldR P w K mg base NW) : FnOk P w K mg base CX0 4 R.f_inverse R.d_inverse ["self", "x"] (fun vs H Q _ => spInv NW R.C R.fs R.S R.is R.inv vs H Q E0) := R.X_inverse.quiet
theorem eqF (R : KindR P w K mg base) {H : Hp} {x y : V} {a b : R.S.W} {Q : VK} (hx : R.is H x a) (hy : R.is H y b) (e : a ≠ b) (q : Q (.bl false) H) : rEqD K x y H Q :=
  ⟨_, _, R.isd hx, R.isd hy, R.S.sh _, R.S.sh _, R.S.nm _ _, by rw [R.S.ne _ _ e]; exact q⟩
def R_frX (T : Txt K mg t) : FldR P w K mg base t.NoWeight where
  toKindR := R_fr T
  neg := Frneg
  inv := Frinv
  add_neg x := Fr.eq_of (plus_minus x.p).1 (plus_minus x.p).2
  neg_neg x := Fr.eq_of (Int.neg_neg _) rfl
  mul_inv x h := Fr.eq_of (by show tp (x.t * (Frinv x).t) (x.b * (Frinv x).b) = 1; rw [Frinv_t (Fr_nz h), Frinv_b (Fr_nz h)]; exact (times_inv (Fr_nz h) x.nb).1) (by show bt (x.t * (Frinv x).t) (x.b * (Frinv x).b) = 1; rw [Frinv_t (Fr_nz h), Frinv_b (Fr_nz h)]; exact (times_inv (Fr_nz h) x.nb).2)
  inv_inv x h := Fr.eq_of (by rw [Frinv_t (Frinv_ne (Fr_nz h)), Frinv_t (Fr_nz h), Frinv_b (Fr_nz h)]; exact (Mine.inv_inv (Fr_nz h) x.p x.l).1) (by rw [Frinv_b (Frinv_ne (Fr_nz h)), Frinv_t (Fr_nz h), Frinv_b (Fr_nz h)]; exact (Mine.inv_inv (Fr_nz h) x.p x.l).2)
  inv_ne x h e := Frinv_ne (Fr_nz h) (Fr_z e)
  sz_neg m x h := ⟨by show (-x.t).natAbs ≤ _; rw [Int.natAbs_neg]; exact h.1, h.2⟩
  sz_inv m x h s := ⟨by rw [Frinv_t (Fr_nz h)]; exact Nat.le_trans (tp_le (Fr_nz h)) s.2, by rw [Frinv_b (Fr_nz h)]; exact Nat.le_trans (bt_le (Fr_nz h)) s.1⟩
  f_is_field := _
  d_is_field := _
  t_is_field := ⟨T.iF_is_field, T.t_Field_is_field.2, T.t_Field_is_field.3⟩
  b_is_field := T.b_Field_is_field
  l_is_field := rfl
  G_is_field := (ok_Field_is_field T).mono (by decide)
  f_picks := _
  d_picks := _
  t_picks := ⟨T.iF_picks, T.t_Field_picks.2, T.t_Field_picks.3⟩
  b_picks := T.b_Field_picks
  l_picks := rfl
  G_picks := (ok_Field_picks T).mono (by decide)
  f_minus := _
  d_minus := _
  t_minus := T.t_Fractions_minus
  b_minus := T.b_Fractions_minus
  l_minus := rfl
  G_minus := (ok_Fractions_minus T).mono (by decide)
  f_inverse := _
  d_inverse := _
  t_inverse := T.t_Fractions_inverse
  b_inverse := T.b_Fractions_inverse
  l_inverse := rfl
  X_inverse := (okx_Fractions_inverse T).mono (by decide)
theorem Re_pos {p : Int} {hp : 2 ≤ p} {x : Re p} (h : x ≠ (resSR p hp).zero) : 0 < x.x := by
  have h0 := x.h0
  by_cases e : x.x = 0
  · exact absurd (Re.eq_of e) h
  · omega
def R_reX (T : Txt K mg t) (p : Int) (hp : 2 ≤ p) (hq : p ≤ 1000000) (hP : isP p = true) : FldR P w K mg base t.NoWeight where
  toKindR := R_re T p hp hq
  neg := Reneg p hp
  inv := Reinv p hp
  add_neg x := Re.eq_of (r_pm (by omega))
  neg_neg x := Re.eq_of (r_mm x.h0 x.h1)
  mul_inv x h := Re.eq_of (ri_one (isP_true hP).nat (Re_pos (hp := hp) h) x.h1)
  inv_inv x h := Re.eq_of (ri_ri (isP_true hP).nat (Re_pos (hp := hp) h) x.h1)
  inv_ne x h e := by
    have h1 := ri_pos (isP_true hP).nat (Re_pos (hp := hp) h) x.h1
    have h2 : Mine.ri p x.x = 0 := congrArg Re.x e
    omega
  sz_neg _ _ _ := trivial
  sz_inv _ _ _ _ := trivial
  f_is_field := _
  d_is_field := _
  t_is_field := ⟨T.iR_is_field, T.t_Field_is_field.2, T.t_Field_is_field.3⟩
  b_is_field := T.b_Field_is_field
  l_is_field := pfs_no p (by decide +kernel)
  G_is_field := (ok_Field_is_field T).mono (by decide)
  f_picks := _
  d_picks := _
  t_picks := ⟨T.iR_picks, T.t_Field_picks.2, T.t_Field_picks.3⟩
  b_picks := T.b_Field_picks
  l_picks := pfs_no p (by decide +kernel)
  G_picks := (ok_Field_picks T).mono (by decide)
  f_minus := _
  d_minus := _
  t_minus := T.t_Residues_minus
  b_minus := T.b_Residues_minus
  l_minus := pfs_no p (by decide +kernel)
  G_minus := (ok_Residues_minus T p hp).mono (by decide)
  f_inverse := _
  d_inverse := _
  t_inverse := T.t_Residues_inverse
  b_inverse := T.b_Residues_inverse
  l_inverse := pfs_no p (by decide +kernel)
  X_inverse := (okx_Residues_inverse T p hp hq).mono (by decide)
/-- what _law_refused asks -/
structure RefR (P : Program) (w : World) (K : PySem.W.Frag) (mg : Str → Option Value) (base : Heap) where
  C : Addr
  fs : List (Str × V)
  cl : Cls K C
  f_minus : Addr
  d_minus : FuncData
  t_minus : Meth K C "minus" f_minus
  b_minus : Binds K d_minus ["self", "x"] []
  l_minus : fs.lookup ("minus" : Str) = none
  s_minus : Sp
  G_minus : FnOk P w K mg base (CX1 P w) 4 f_minus d_minus ["self", "x"] s_minus
  f_inverse : Addr
  d_inverse : FuncData
  t_inverse : Meth K C "inverse" f_inverse
  b_inverse : Binds K d_inverse ["self", "x"] []
  l_inverse : fs.lookup ("inverse" : Str) = none
  s_inverse : Sp
  G_inverse : FnOk P w K mg base (CX1 P w) 4 f_inverse d_inverse ["self", "x"] s_inverse
def FldR.ref {NW : Addr} (R : FldR P w K mg base NW) : RefR P w K mg base where
  C := R.C
  fs := R.fs
  cl := R.cl
  f_minus := R.f_minus
  d_minus := R.d_minus
  t_minus := R.t_minus
  b_minus := R.b_minus
  l_minus := R.l_minus
  s_minus := _
  G_minus := R.G_minus.loud
  f_inverse := R.f_inverse
  d_inverse := R.d_inverse
  t_inverse := R.t_inverse
  b_inverse := R.b_inverse
  l_inverse := R.l_inverse
  s_inverse := spInv NW R.C R.fs R.S R.is R.inv
  G_inverse := R.X_inverse
def spNo (C : Addr) (fs : List (Str × V)) : Sp := fun vs H Q _ => ∃ k, vs = [k] ∧ KAt C fs H k ∧ ∀ v H', Same H H' → Q v H'
structure PickR (P : Program) (w : World) (K : PySem.W.Frag) (mg : Str → Option Value) (base : Heap) (t : Adr) where
  C : Addr
  fs : List (Str × V)
  cl : Cls K C
  f_is_field : Addr
  d_is_field : FuncData
  t_is_field : Meth K C "is_field" f_is_field
  b_is_field : Binds K d_is_field ["self"] []
  l_is_field : fs.lookup ("is_field" : Str) = none
  G_is_field : FnOk P w K mg base CX0 4 f_is_field d_is_field ["self"] (spAny false)
  f_picks : Addr
  d_picks : FuncData
  t_picks : Meth K C "picks" f_picks
  b_picks : Binds K d_picks ["self"] []
  l_picks : fs.lookup ("picks" : Str) = none
  G_picks : FnOk P w K mg base CX0 4 f_picks d_picks ["self"] (spAny true)
  f_nought : Addr
  d_nought : FuncData
  t_nought : Meth K C "nought" f_nought
  b_nought : Binds K d_nought ["self"] []
  l_nought : fs.lookup ("nought" : Str) = none
  G_nought : FnOk P w K mg base CX0 4 f_nought d_nought ["self"] (spNo C fs)
  t_minus : Meth K C "minus" t.Picking_minus
  l_minus : fs.lookup ("minus" : Str) = none
  t_inverse : Meth K C "inverse" t.Picking_inverse
  l_inverse : fs.lookup ("inverse" : Str) = none
def PickR.ref (T : Txt K mg t) (R : PickR P w K mg base t) : RefR P w K mg base where
  C := R.C
  fs := R.fs
  cl := R.cl
  f_minus := _
  d_minus := _
  t_minus := R.t_minus
  b_minus := T.b_Picking_minus
  l_minus := R.l_minus
  s_minus := spWrong t
  G_minus := (okx_Picking_minus T).mono (by decide)
  f_inverse := _
  d_inverse := _
  t_inverse := R.t_inverse
  b_inverse := T.b_Picking_inverse
  l_inverse := R.l_inverse
  s_inverse := spWrong t
  G_inverse := (okx_Picking_inverse T).mono (by decide)
def R_coX (T : Txt K mg t) : PickR P w K mg base t where
  C := t.Costs
  fs := []
  cl := T.C_Costs
  f_is_field := _
  d_is_field := _
  t_is_field := ⟨T.iC_is_field, T.t_Picking_is_field.2, T.t_Picking_is_field.3⟩
  b_is_field := T.b_Picking_is_field
  l_is_field := rfl
  G_is_field := (ok_Picking_is_field T).mono (by decide)
  f_picks := _
  d_picks := _
  t_picks := ⟨T.iC_picks, T.t_Picking_picks.2, T.t_Picking_picks.3⟩
  b_picks := T.b_Picking_picks
  l_picks := rfl
  G_picks := (ok_Picking_picks T).mono (by decide)
  f_nought := _
  d_nought := _
  t_nought := T.t_Costs_nought
  b_nought := T.b_Costs_nought
  l_nought := rfl
  G_nought := ((ok_Costs_nought T).mono (by decide)).imp fun vs H Q E ⟨k, e, h, q⟩ => ⟨k, e, h, fun v H' s _ => q v H' s⟩
  t_minus := ⟨T.iC_minus, T.t_Picking_minus.2, T.t_Picking_minus.3⟩
  l_minus := rfl
  t_inverse := ⟨T.iC_inverse, T.t_Picking_inverse.2, T.t_Picking_inverse.3⟩
  l_inverse := rfl
def R_trX (T : Txt K mg t) : PickR P w K mg base t where
  C := t.Truths
  fs := []
  cl := T.C_Truths
  f_is_field := _
  d_is_field := _
  t_is_field := ⟨T.iT_is_field, T.t_Picking_is_field.2, T.t_Picking_is_field.3⟩
  b_is_field := T.b_Picking_is_field
  l_is_field := rfl
  G_is_field := (ok_Picking_is_field T).mono (by decide)
  f_picks := _
  d_picks := _
  t_picks := ⟨T.iT_picks, T.t_Picking_picks.2, T.t_Picking_picks.3⟩
  b_picks := T.b_Picking_picks
  l_picks := rfl
  G_picks := (ok_Picking_picks T).mono (by decide)
  f_nought := _
  d_nought := _
  t_nought := T.t_Truths_nought
  b_nought := T.b_Truths_nought
  l_nought := rfl
  G_nought := ((ok_Truths_nought T).mono (by decide)).imp fun vs H Q E ⟨k, e, h, q⟩ => ⟨k, e, h, fun v H' s _ => q v H' s⟩
  t_minus := ⟨T.iT_minus, T.t_Picking_minus.2, T.t_Picking_minus.3⟩
  l_minus := rfl
  t_inverse := ⟨T.iT_inverse, T.t_Picking_inverse.2, T.t_Picking_inverse.3⟩
  l_inverse := rfl
def sp_refused (P : Program) (w : World) (K : PySem.W.Frag) (mg : Str → Option Value) (base : Heap) (t : Adr) : Sp := fun vs H Q _ => ∃ (R : RefR P w K mg base) (k x : V) (b : Bool) (C : Addr) (ans : Str), vs = [k, .bl b, x] ∧ KAt R.C R.fs H k ∧
  ((C = t.WrongKind ∧ ans = "kind") ∨ (C = t.NoWeight ∧ ans = "weight")) ∧ (∀ (Q' : VK) (E' : XK), (∀ H', Same H H' → E' (.ref C) none H') → (b = true → R.s_minus [k, x] H Q' E') ∧ (b = false → R.s_inverse [k, x] H Q' E')) ∧ ∀ H', Same H H' → Q (.str ans) H'
theorem ok_law_refused (T : Txt K mg t) : FnOk P w K mg base CX0 5 t.law_refused t.d_law_refused ["_law_kind", "_law_is_minus", "_law_x"] (sp_refused P w K mg base t) := by
  refine T.F_law_refused.ok sc_law_refused (fun vs H Q E h => ?_) (fun cdv A outer s H vs Q E hr h => ?_)
  · obtain ⟨R, k, x, b, C, ans, rfl, _⟩ := h
    rfl
  · obtain ⟨R, k0, x, b, C, ans, rfl, ⟨p, dx, rfl, hk⟩, hC, hc, k⟩ := h
    refine ⟨_, (pss_cons (ps_set (i := 3) sc_law_refused.nd rfl (Or.inl rfl) pe_str) (pss_cons (ps_try (i := 4) (psx_one (psx_if (pt_val (pv 1)) (psx_one (psx_expr (px_meth (pv 0) R.cl R.t_minus R.G_minus (hr.mono (by decide)) R.b_minus .nil (pa_cons (pv 2) pa_nil)))) (psx_one (psx_expr (px_meth (pv 0) R.cl R.t_inverse R.G_inverse (hr.mono (by decide)) R.b_inverse .nil (pa_cons (pv 2) pa_nil)))))) rfl rfl sc_law_refused.nd rfl rfl rfl T.m_WeighError (fun _ => (pss_cons (ps_set (i := 3) sc_law_refused.nd rfl (Or.inl rfl) pe_str) (pss_cons (ps_if (PW.pt (pw_and (pt_val (pe_callB (call_isxK K rfl) (by rfl) T.z_isinstance boot_isinstance (pa_cons (pv 4) (pa_cons (pe_glob (v := .ref t.WrongKind) rfl T.m_WrongKind rfl) pa_nil)))) (pw_and (pt_not (pt_val (pe_callB (call_isxK K rfl) (by rfl) T.z_isinstance boot_isinstance (pa_cons (pv 4) (pa_cons (pe_glob (v := .ref t.NoWeight) rfl T.m_NoWeight rfl) pa_nil))))) (pw_and1 (pt_val (pe_callB (call_isxK K rfl) (by rfl) T.z_isinstance boot_isinstance (pa_cons (pv 4) (pa_cons (pe_bltn (v := .ty "ValueError") rfl T.z_ValueError boot_VE rfl) pa_nil)))))))) (pss_one (ps_set (i := 3) sc_law_refused.nd rfl (Or.inl rfl) pe_str)) pss_nil) (pss_one (ps_if (PW.pt (pw_and (pt_val (pe_callB (call_isxK K rfl) (by rfl) T.z_isinstance boot_isinstance (pa_cons (pv 4) (pa_cons (pe_glob (v := .ref t.NoWeight) rfl T.m_NoWeight rfl) pa_nil)))) (pw_and (pt_not (pt_val (pe_callB (call_isxK K rfl) (by rfl) T.z_isinstance boot_isinstance (pa_cons (pv 4) (pa_cons (pe_glob (v := .ref t.WrongKind) rfl T.m_WrongKind rfl) pa_nil))))) (pw_and1 (pt_val (pe_callB (call_isxK K rfl) (by rfl) T.z_isinstance boot_isinstance (pa_cons (pv 4) (pa_cons (pe_bltn (v := .ty "ValueError") rfl T.z_ValueError boot_VE rfl) pa_nil)))))))) (pss_one (ps_set (i := 3) sc_law_refused.nd rfl (Or.inl rfl) pe_str)) pss_nil)))))) (pss_one (ps_ret (pv 3))))), ?_⟩
    refine ⟨_, rfl, _, rfl, ?_⟩
    have fin : ∀ {H' : Hp}, Same H H' → ∀ a, H' a = none → Same H (upd H' a (ExcO a C)) := fun q a n => q.trans (same_upd n)
    rcases hC with ⟨rfl, rfl⟩ | ⟨rfl, rfl⟩
    · cases b with
      | true =>
        (try refine iteT ?_)
        refine ⟨_, rfl, _, _, _, rfl, hk, R.l_minus, _, rfl, (hc _ _ fun H' q => ⟨_, rfl, T.e_W, fun a ha => ?_⟩).1 rfl⟩
        refine ⟨_, rfl, _, _, _, _, _, rfl, upd_same, T.x_WrongKind, rfl, T.k_WW, _, rfl, ?_⟩
        (try refine iteT ?_)
        refine ⟨_, rfl, _, _, _, _, _, rfl, upd_same, T.x_WrongKind, rfl, T.k_WN, _, rfl, ?_⟩
        (try refine iteT ?_)
        refine ⟨_, rfl, _, _, _, _, _, rfl, upd_same, T.x_WrongKind, rfl, T.k_WV, _, rfl, ?_⟩
        (try refine iteT ?_)
        refine ⟨_, rfl, _, _, _, _, _, rfl, upd_same, T.x_WrongKind, rfl, T.k_WN, _, rfl, ?_⟩
        (try refine iteF ?_)
        exact ⟨_, rfl, k _ (fin q a ha)⟩
      | false =>
        (try refine iteF ?_)
        refine ⟨_, rfl, _, _, _, rfl, hk, R.l_inverse, _, rfl, (hc _ _ fun H' q => ⟨_, rfl, T.e_W, fun a ha => ?_⟩).2 rfl⟩
        refine ⟨_, rfl, _, _, _, _, _, rfl, upd_same, T.x_WrongKind, rfl, T.k_WW, _, rfl, ?_⟩
        (try refine iteT ?_)
        refine ⟨_, rfl, _, _, _, _, _, rfl, upd_same, T.x_WrongKind, rfl, T.k_WN, _, rfl, ?_⟩
        (try refine iteT ?_)
        refine ⟨_, rfl, _, _, _, _, _, rfl, upd_same, T.x_WrongKind, rfl, T.k_WV, _, rfl, ?_⟩
        (try refine iteT ?_)
        refine ⟨_, rfl, _, _, _, _, _, rfl, upd_same, T.x_WrongKind, rfl, T.k_WN, _, rfl, ?_⟩
        (try refine iteF ?_)
        exact ⟨_, rfl, k _ (fin q a ha)⟩
    · cases b with
      | true =>
        (try refine iteT ?_)
        refine ⟨_, rfl, _, _, _, rfl, hk, R.l_minus, _, rfl, (hc _ _ fun H' q => ⟨_, rfl, T.e_N, fun a ha => ?_⟩).1 rfl⟩
        refine ⟨_, rfl, _, _, _, _, _, rfl, upd_same, T.x_NoWeight, rfl, T.k_NW, _, rfl, ?_⟩
        (try refine iteF ?_)
        refine ⟨_, rfl, _, _, _, _, _, rfl, upd_same, T.x_NoWeight, rfl, T.k_NN, _, rfl, ?_⟩
        (try refine iteT ?_)
        refine ⟨_, rfl, _, _, _, _, _, rfl, upd_same, T.x_NoWeight, rfl, T.k_NW, _, rfl, ?_⟩
        (try refine iteT ?_)
        refine ⟨_, rfl, _, _, _, _, _, rfl, upd_same, T.x_NoWeight, rfl, T.k_NV, _, rfl, ?_⟩
        (try refine iteT ?_)
        exact ⟨_, rfl, k _ (fin q a ha)⟩
      | false =>
        (try refine iteF ?_)
        refine ⟨_, rfl, _, _, _, rfl, hk, R.l_inverse, _, rfl, (hc _ _ fun H' q => ⟨_, rfl, T.e_N, fun a ha => ?_⟩).2 rfl⟩
        refine ⟨_, rfl, _, _, _, _, _, rfl, upd_same, T.x_NoWeight, rfl, T.k_NW, _, rfl, ?_⟩
        (try refine iteF ?_)
        refine ⟨_, rfl, _, _, _, _, _, rfl, upd_same, T.x_NoWeight, rfl, T.k_NN, _, rfl, ?_⟩
        (try refine iteT ?_)
        refine ⟨_, rfl, _, _, _, _, _, rfl, upd_same, T.x_NoWeight, rfl, T.k_NW, _, rfl, ?_⟩
        (try refine iteT ?_)
        refine ⟨_, rfl, _, _, _, _, _, rfl, upd_same, T.x_NoWeight, rfl, T.k_NV, _, rfl, ?_⟩
        (try refine iteT ?_)
        exact ⟨_, rfl, k _ (fin q a ha)⟩
def sp_number : Sp := fun vs H Q _ => ∃ c, vs = [.int c] ∧ Q (.int (num c)) H
theorem ok_law_number (T : Txt K mg t) : FnOk P w K mg base CX0 1 t.law_number t.d_law_number ["_law_cell"] sp_number := by
  refine T.F_law_number.ok sc_law_number (fun vs H Q E h => ?_) (fun cdv A outer s H vs Q E hr h => ?_)
  · obtain ⟨a, rfl, _⟩ := h
    rfl
  · obtain ⟨c, rfl, k⟩ := h
    have d3 : CDivB c 3 := ⟨by decide, by decide⟩
    refine ⟨_, (pss_cons (ps_if (pt_cmpR op_eq (pe_op op_modN (pv 0) pe_int) pe_int (nomark _)) (pss_one (ps_ret (pe_op op_sub (pe_op op_modN (pe_op op_fdivB (pv 0) pe_int) pe_int) pe_int))) pss_nil) (pss_cons (ps_if (pt_cmpR op_eq (pe_op op_modN (pv 0) pe_int) pe_int (nomark _)) (pss_one (ps_ret (pe_op op_sub (pe_op op_modN (pe_op op_fdivB (pv 0) pe_int) pe_int) pe_int))) pss_nil) (pss_one (ps_ret (pe_op op_sub (pe_op op_modN (pe_op op_fdivB (pv 0) pe_int) (pe_op op_sub (pe_op op_mul pe_int (pe_op op_pow pe_int pe_int)) pe_int)) (pe_op op_sub (pe_op op_pow pe_int pe_int) pe_int)))))), ?_⟩
    refine ⟨_, rfl, _, _, rfl, rfl, (show (3 : Int) ≠ 0 by decide), rfl, _, rfl, ?_⟩
    refine iteI (fun h0 => ?_) (fun h0 => ?_)
    · refine ⟨_, rfl, _, _, rfl, rfl, d3, _, _, rfl, rfl, (show (19 : Int) ≠ 0 by decide), _, _, rfl, rfl, ?_⟩
      (try dsimp only)
      rw [num_a h0]
      exact k
    · refine ⟨_, rfl, _, _, rfl, rfl, (show (3 : Int) ≠ 0 by decide), rfl, _, rfl, ?_⟩
      refine iteI (fun h1 => ?_) (fun h1 => ?_)
      · refine ⟨_, rfl, _, _, rfl, rfl, d3, _, _, rfl, rfl, (show (2000003 : Int) ≠ 0 by decide), _, _, rfl, rfl, ?_⟩
        (try dsimp only)
        rw [num_b h0 h1]
        exact k
      · refine ⟨_, rfl, _, _, rfl, rfl, d3, _, _, rfl, rfl, ⟨by decide, by decide, by decide⟩, _, _, rfl, rfl, .inl ⟨by decide, by decide⟩, _, _, rfl, rfl, _, _, rfl, rfl, ?_, _, _, rfl, rfl, ⟨by decide, by decide, by decide⟩, _, _, rfl, rfl, _, _, rfl, rfl, ?_⟩
        · exact (show (2 * 10 ^ Int.toNat 30 - 1 : Int) ≠ 0 by decide)
        · (try dsimp only)
          rw [num_c h0 h1 (by decide) (by decide)]
          exact k
def sp_low : Sp := fun vs H Q _ => ∃ a b, vs = [.int a, .int b] ∧ (a.natAbs ≤ 2 ^ 100 ∧ b.natAbs ≤ 2 ^ 100 ∧ 0 < b) ∧ ∀ v H', Same H H' → ∀ x : Fr, isFr H' v x → x.sz 100 → Q v H'
theorem ok_law_low (T : Txt K mg t) : FnOk P w K mg base CX0 2 t.law_low t.d_law_low ["_law_top", "_law_bottom"] sp_low := by
  refine T.F_law_low.ok sc_law_low (fun vs H Q E h => ?_) (fun cdv A outer s H vs Q E hr h => ?_)
  · obtain ⟨a, b, rfl, _⟩ := h
    rfl
  · obtain ⟨a, b, rfl, ⟨ha, hb, pb⟩, k⟩ := h
    have hd : CDivB a (dv a b) := ⟨Int.ne_of_gt (dv_pos (by omega)), sz_log (dv_sz hb pb) (by decide)⟩
    have hd' : CDivB b (dv a b) := hd
    refine ⟨_, (pss_cons (ps_set (i := 2) sc_law_low.nd rfl (Or.inl rfl) (pe_call (ok_law_divisor T) (hr.mono (by decide)) rfl T.m_law_divisor T.F_law_divisor.kp T.b_law_divisor .nil pass0 (pa_cons (pv 0) (pa_cons (pv 1) pa_nil)))) (pss_one (ps_ret (pe_tup (pa_cons (pe_op op_fdivB (pv 0) (pv 2)) (pa_cons (pe_op op_fdivB (pv 1) (pv 2)) pa_nil)))))), ?_⟩
    (repeat (first | apply Exists.intro | refine And.intro rfl ?_ | refine And.intro (by with_reducible assumption) ?_ | refine And.intro (SqT.of (by assumption)) ?_ | refine And.intro (SqL.of (by assumption)) ?_ | refine And.intro (TyOf.int _) ?_ | refine And.intro (TyOf.tup (by assumption)) ?_ | refine And.intro T.k_ii ?_ | refine And.intro T.k_ib ?_ | refine And.intro T.k_tt ?_ | refine And.intro T.k_bb ?_ | refine And.intro T.nP ?_ | refine And.intro T.iF_is_field ?_ | refine And.intro T.iF_picks ?_ | refine And.intro T.iR_is_field ?_ | refine And.intro T.iR_picks ?_ | refine And.intro T.iC_is_field ?_ | refine And.intro T.iC_picks ?_ | refine And.intro T.iC_minus ?_ | refine And.intro T.iC_inverse ?_ | refine And.intro T.iT_is_field ?_ | refine And.intro T.iT_picks ?_ | refine And.intro T.iT_minus ?_ | refine And.intro T.iT_inverse ?_ | refine And.intro T.e_W ?_ | refine And.intro T.e_N ?_ | refine And.intro T.k_WW ?_ | refine And.intro T.k_WN ?_ | refine And.intro T.k_WV ?_ | refine And.intro T.k_NW ?_ | refine And.intro T.k_NN ?_ | refine And.intro T.k_NV ?_))
    refine ⟨(by show 2 ≤ sizeLine; decide), fun p hp => ?_⟩
    (try dsimp only)
    rw [(fr_is pb).1, (fr_is pb).2]
    exact k _ _ (same_upd hp) (Fr.of a b pb) IsF.new (of_sz ha hb)
theorem fm_in (a m : Int) (hm : 0 < m) : 0 ≤ a.fmod m ∧ a.fmod m < m := ⟨Int.fmod_nonneg_of_pos a hm, Int.fmod_lt_of_pos a hm⟩
theorem p100 : (2 : Nat) ^ 100 = 1267650600228229401496703205376 := by decide
theorem num_100 (c : Int) : (num c).natAbs ≤ 2 ^ 100 := by
  rw [p100]
  have := num_in c
  omega
theorem max_100 {n : Int} (h : n.natAbs ≤ 2 ^ 100) : (if (if n < 0 then -n else n) > 1 then (if n < 0 then -n else n) else 1).natAbs ≤ 2 ^ 100 := by
  rw [p100] at h ⊢
  split <;> (try split) <;> omega
theorem max_pos {n : Int} : 0 < (if (if n < 0 then -n else n) > 1 then (if n < 0 then -n else n) else 1) := by split <;> (try split) <;> omega
def sp_weight : Sp := fun vs H Q _ => ∃ way p c, vs = [.int way, .int p, .int c] ∧
  ((way = 0 ∧ ∀ v H', Same H H' → ∀ x : Fr, isFr H' v x → x.sz 100 → Q v H') ∨ (way = 1 ∧ 0 < p ∧ ∀ x : Re p, Q (.int x.x) H) ∨ (way = 2 ∧ ∀ x : Option Int, Q (cV x) H) ∨ (way = 3 ∧ ∀ x : Bool, Q (.bl x) H))
theorem ok_law_weight (T : Txt K mg t) : FnOk P w K mg base CX0 3 t.law_weight t.d_law_weight ["_law_way", "_law_prime", "_law_cell"] sp_weight := by
  refine T.F_law_weight.ok sc_law_weight (fun vs H Q E h => ?_) (fun cdv A outer s H vs Q E hr h => ?_)
  · obtain ⟨a, b, c, rfl, _⟩ := h
    rfl
  · obtain ⟨way, p, c, rfl, k⟩ := h
    have d11 : CDivB c 11 := ⟨by decide, by decide⟩
    have d4 : CDivB c 4 := ⟨by decide, by decide⟩
    refine ⟨_, (pss_cons (ps_if (pt_cmpR op_eq (pv 0) pe_int (nomark _)) (pss_one (ps_ret (pe_call (ok_law_low T) (hr.mono (by decide)) rfl T.m_law_low T.F_law_low.kp T.b_law_low .nil pass0 (pa_cons (pe_call (ok_law_number T) (hr.mono (by decide)) rfl T.m_law_number T.F_law_number.kp T.b_law_number .nil pass0 (pa_cons (pv 2) pa_nil)) (pa_cons (pe_callB (call_max2 rfl) (by rfl) T.z_max boot_max (pa_cons pe_int (pa_cons (pe_callB call_abs (by rfl) T.z_abs boot_abs (pa_cons (pe_call (ok_law_number T) (hr.mono (by decide)) rfl T.m_law_number T.F_law_number.kp T.b_law_number .nil pass0 (pa_cons (pe_op op_fdivB (pv 2) pe_int) pa_nil)) pa_nil)) pa_nil))) pa_nil))))) pss_nil) (pss_cons (ps_if (pt_cmpR op_eq (pv 0) pe_int (nomark _)) (pss_one (ps_ret (pe_op op_modN (pv 2) (pv 1)))) pss_nil) (pss_cons (ps_if (pt_cmpR op_eq (pv 0) pe_int (nomark _)) (pss_cons (ps_if (pt_cmpR op_eq (pe_op op_modN (pv 2) pe_int) pe_int (nomark _)) (pss_one (ps_ret pe_non)) pss_nil) (pss_one (ps_ret (pe_call (ok_law_number T) (hr.mono (by decide)) rfl T.m_law_number T.F_law_number.kp T.b_law_number .nil pass0 (pa_cons (pe_op op_fdivB (pv 2) pe_int) pa_nil))))) pss_nil) (pss_one (ps_ret (pe_cmpR op_eq (pe_op op_modN (pv 2) pe_int) pe_int (nomark _))))))), ?_⟩
    refine ⟨_, rfl, rfl, _, rfl, ?_⟩
    rcases k with ⟨rfl, k⟩ | ⟨rfl, hp, k⟩ | ⟨rfl, k⟩ | ⟨rfl, k⟩
    · refine iteT ?_
      (repeat (first | apply Exists.intro | refine And.intro rfl ?_ | refine And.intro (by with_reducible assumption) ?_ | refine And.intro (SqT.of (by assumption)) ?_ | refine And.intro (SqL.of (by assumption)) ?_ | refine And.intro (TyOf.int _) ?_ | refine And.intro (TyOf.tup (by assumption)) ?_ | refine And.intro T.k_ii ?_ | refine And.intro T.k_ib ?_ | refine And.intro T.k_tt ?_ | refine And.intro T.k_bb ?_ | refine And.intro T.nP ?_ | refine And.intro T.iF_is_field ?_ | refine And.intro T.iF_picks ?_ | refine And.intro T.iR_is_field ?_ | refine And.intro T.iR_picks ?_ | refine And.intro T.iC_is_field ?_ | refine And.intro T.iC_picks ?_ | refine And.intro T.iC_minus ?_ | refine And.intro T.iC_inverse ?_ | refine And.intro T.iT_is_field ?_ | refine And.intro T.iT_picks ?_ | refine And.intro T.iT_minus ?_ | refine And.intro T.iT_inverse ?_ | refine And.intro T.e_W ?_ | refine And.intro T.e_N ?_ | refine And.intro T.k_WW ?_ | refine And.intro T.k_WN ?_ | refine And.intro T.k_WV ?_ | refine And.intro T.k_NW ?_ | refine And.intro T.k_NN ?_ | refine And.intro T.k_NV ?_))
      exact ⟨⟨num_100 _, max_100 (num_100 _), max_pos⟩, k⟩
    · refine iteF ?_
      refine ⟨_, rfl, rfl, _, rfl, ?_⟩
      refine iteT ?_
      refine ⟨_, rfl, _, rfl, _, _, rfl, rfl, (show p ≠ 0 by omega), ?_⟩
      exact k (Re.of p hp c)
    · refine iteF ?_
      refine ⟨_, rfl, rfl, _, rfl, ?_⟩
      refine iteF ?_
      refine ⟨_, rfl, rfl, _, rfl, ?_⟩
      refine iteT ?_
      refine ⟨_, rfl, _, _, rfl, rfl, (show (4 : Int) ≠ 0 by decide), rfl, _, rfl, ?_⟩
      refine iteI (fun h0 => ?_) (fun h0 => ?_)
      · exact k none
      · (repeat (first | apply Exists.intro | refine And.intro rfl ?_ | refine And.intro (by with_reducible assumption) ?_ | refine And.intro (SqT.of (by assumption)) ?_ | refine And.intro (SqL.of (by assumption)) ?_ | refine And.intro (TyOf.int _) ?_ | refine And.intro (TyOf.tup (by assumption)) ?_ | refine And.intro T.k_ii ?_ | refine And.intro T.k_ib ?_ | refine And.intro T.k_tt ?_ | refine And.intro T.k_bb ?_ | refine And.intro T.nP ?_ | refine And.intro T.iF_is_field ?_ | refine And.intro T.iF_picks ?_ | refine And.intro T.iR_is_field ?_ | refine And.intro T.iR_picks ?_ | refine And.intro T.iC_is_field ?_ | refine And.intro T.iC_picks ?_ | refine And.intro T.iC_minus ?_ | refine And.intro T.iC_inverse ?_ | refine And.intro T.iT_is_field ?_ | refine And.intro T.iT_picks ?_ | refine And.intro T.iT_minus ?_ | refine And.intro T.iT_inverse ?_ | refine And.intro T.e_W ?_ | refine And.intro T.e_N ?_ | refine And.intro T.k_WW ?_ | refine And.intro T.k_WN ?_ | refine And.intro T.k_WV ?_ | refine And.intro T.k_NW ?_ | refine And.intro T.k_NN ?_ | refine And.intro T.k_NV ?_))
        exact k (some _)
    · refine iteF ?_
      refine ⟨_, rfl, rfl, _, rfl, ?_⟩
      refine iteF ?_
      refine ⟨_, rfl, rfl, _, rfl, ?_⟩
      refine iteF ?_
      refine ⟨_, rfl, _, _, rfl, rfl, (show (2 : Int) ≠ 0 by decide), rfl, ?_⟩
      exact k _
def sp_field (P : Program) (w : World) (K : PySem.W.Frag) (mg : Str → Option Value) (base : Heap) (t : Adr) : Sp := fun vs H Q _ => ∃ R : FldR P w K mg base t.NoWeight, ∃ k x a, vs = [k, x] ∧ (KAt R.C R.fs H k ∧ R.is H x a ∧ R.S.sz 100 a) ∧ ∀ H', Same H H' → Q (.bl true) H'
theorem ok_law_field (T : Txt K mg t) : FnOk P w K mg base CX0 6 t.law_field t.d_law_field ["_law_kind", "_law_x"] (sp_field P w K mg base t) := by
  refine T.F_law_field.ok sc_law_field (fun vs H Q E h => ?_) (fun cdv A outer s H vs Q E hr h => ?_)
  · obtain ⟨R, k, x, a, rfl, _⟩ := h
    rfl
  · obtain ⟨R, k0, x, a, rfl, ⟨⟨p, dx, rfl, hk0⟩, hx0, sa⟩, k⟩ := h
    have hk : ∀ {H' : Hp}, Same H H' → H' p = some (.ins R.C dx R.fs) := fun q => q _ _ hk0
    have hx : ∀ {H' : Hp}, Same H H' → R.is H' x a := fun q => R.same q hx0
    have s0 := Same.refl H
    have sn := R.sz_neg _ _ sa
    clear hk0 hx0
    refine ⟨_, (pss_cons (ps_set (i := 2) sc_law_field.nd rfl (Or.inl rfl) (pe_meth0 (pv 0) R.cl R.t_nought R.G_nought (hr.mono (by decide)) R.b_nought .nil pass0)) (pss_cons (ps_if (PW.pt (pw_or (pt_cmpR op_isnotB (pe_meth0 (pv 0) R.cl R.t_is_field R.G_is_field (hr.mono (by decide)) R.b_is_field .nil pass0) pe_bl (nomark _)) (pw_or1 (pt_cmpR op_isnotB (pe_meth0 (pv 0) R.cl R.t_picks R.G_picks (hr.mono (by decide)) R.b_picks .nil pass0) pe_bl (nomark _))))) (pss_one (ps_ret pe_bl)) pss_nil) (pss_cons (ps_set (i := 3) sc_law_field.nd rfl (Or.inl rfl) (pe_meth (pv 0) R.cl R.t_minus R.G_minus (hr.mono (by decide)) R.b_minus .nil pass0 (pa_cons (pv 1) pa_nil))) (pss_cons (ps_if (PW.pt (pw_or (pt_not (pt_val (pe_meth (pv 0) R.cl R.t_is_weight R.G_is_weight (hr.mono (by decide)) R.b_is_weight .nil pass0 (pa_cons (pv 3) pa_nil)))) (pw_or (pt_cmpR (op_neD hr.units) (pe_meth (pv 0) R.cl R.t_plus R.G_plus (hr.mono (by decide)) R.b_plus .nil pass0 (pa_cons (pv 1) (pa_cons (pv 3) pa_nil))) (pv 2) (nomark _)) (pw_or1 (pt_cmpR (op_neD hr.units) (pe_meth (pv 0) R.cl R.t_minus R.G_minus (hr.mono (by decide)) R.b_minus .nil pass0 (pa_cons (pv 3) pa_nil)) (pv 1) (nomark _)))))) (pss_one (ps_ret pe_bl)) pss_nil) (pss_cons (ps_if (pt_cmpR (op_eqD hr.units) (pv 1) (pv 2) (nomark _)) (pss_one (ps_ret (pe_cmpR op_eq (pe_call (ok_law_refused T) (hr.mono (by decide)) rfl T.m_law_refused T.F_law_refused.kp T.b_law_refused .nil pass0 (pa_cons (pv 0) (pa_cons pe_bl (pa_cons (pv 1) pa_nil)))) pe_str (nomark _)))) pss_nil) (pss_cons (ps_set (i := 3) sc_law_field.nd rfl (Or.inl rfl) (pe_meth (pv 0) R.cl R.t_inverse R.G_inverse (hr.mono (by decide)) R.b_inverse .nil pass0 (pa_cons (pv 1) pa_nil))) (pss_one (ps_ret (pe_and (pe_meth (pv 0) R.cl R.t_is_weight R.G_is_weight (hr.mono (by decide)) R.b_is_weight .nil pass0 (pa_cons (pv 3) pa_nil)) (pe_and (pe_cmpR (op_eqD hr.units) (pe_meth (pv 0) R.cl R.t_times R.G_times (hr.mono (by decide)) R.b_times .nil pass0 (pa_cons (pv 1) (pa_cons (pv 3) pa_nil))) (pe_meth0 (pv 0) R.cl R.t_one R.G_one (hr.mono (by decide)) R.b_one .nil pass0) (nomark _)) (pe_one (pe_cmpR (op_eqD hr.units) (pe_meth (pv 0) R.cl R.t_inverse R.G_inverse (hr.mono (by decide)) R.b_inverse .nil pass0 (pa_cons (pv 3) pa_nil)) (pv 1) (nomark _))))))))))))), ?_⟩
    refine ⟨_, rfl, _, _, _, rfl, hk s0, R.l_nought, _, rfl, ⟨_, _, rfl, hk s0⟩, fun vn H1 q1 fn => ?_⟩
    have hn : ∀ {H' : Hp}, Same H1 H' → R.is H' vn R.S.zero := fun q => R.same q fn
    -- is_field, picks
    refine ⟨_, rfl, _, _, _, rfl, hk q1, R.l_is_field, _, rfl, _, _, rfl, rfl, _, rfl, ?_⟩
    (try refine iteF ?_)
    refine ⟨_, rfl, _, _, _, rfl, hk q1, R.l_picks, _, rfl, _, _, rfl, rfl, _, rfl, ?_⟩
    (try refine iteF ?_)
    -- minus
    refine ⟨_, rfl, _, _, _, rfl, hk q1, R.l_minus, _, rfl, _, _, _, rfl, ⟨⟨_, _, rfl, hk q1⟩, hx q1⟩, fun vb H2 q2 fb => ?_⟩
    have s2 := q1.trans q2
    have hb : ∀ {H' : Hp}, Same H2 H' → R.is H' vb (R.neg a) := fun q => R.same q fb
    refine ⟨_, rfl, _, _, _, rfl, hk s2, R.l_is_weight, _, rfl, _, _, _, rfl, ⟨⟨_, _, rfl, hk s2⟩, hb (Same.refl _)⟩, _, rfl, ?_⟩
    (try refine iteF ?_)
    refine ⟨_, rfl, _, _, _, rfl, hk s2, R.l_plus, _, rfl, _, rfl, _, _, _, _, _, _, _, rfl, ⟨⟨_, _, rfl, hk s2⟩, hx s2, hb (Same.refl _), sa, sn, by omega⟩, fun v3 H3 q3 f3 => ?_⟩
    have s3 := s2.trans q3
    refine ⟨_, rfl, R.neD f3 (hn (q2.trans q3)) (R.add_neg _) ⟨_, rfl, ?_⟩⟩
    (try refine iteF ?_)
    refine ⟨_, rfl, _, _, _, rfl, hk s3, R.l_minus, _, rfl, _, _, _, rfl, ⟨⟨_, _, rfl, hk s3⟩, hb q3⟩, fun v4 H4 q4 f4 => ?_⟩
    have s4 := s3.trans q4
    refine ⟨_, rfl, R.neD f4 (hx s4) (R.neg_neg _) ⟨_, rfl, ?_⟩⟩
    (try refine iteF ?_)
    have n4 := hn ((q2.trans q3).trans q4)
    clear f3 f4 fb hb fn
    refine ⟨_, rfl, _, rfl, ?_⟩
    by_cases hz : a = R.S.zero
    · refine R.eqD (hx s4) n4 hz ⟨_, rfl, ?_⟩
      (try refine iteT ?_)
      refine ⟨_, rfl, _, rfl, R.ref, _, _, _, t.NoWeight, "weight", rfl, ⟨_, _, rfl, hk s4⟩, .inr ⟨rfl, rfl⟩, fun Q' E' hE => ⟨fun z => (by cases z), fun _ => ⟨_, _, a, 100, rfl, ⟨⟨_, _, rfl, hk s4⟩, hx s4, sa, by decide⟩, fun z => absurd hz z, fun _ => hE _ (Same.refl _)⟩⟩, fun H5 q5 => ?_⟩
      refine ⟨rfl, ?_⟩
      (try dsimp only)
      exact k _ (s4.trans q5)
    · refine eqF R.toKindR (hx s4) n4 hz ⟨_, rfl, ?_⟩
      (try refine iteF ?_)
      have si := R.sz_inv _ _ hz sa
      refine ⟨_, rfl, _, _, _, rfl, hk s4, R.l_inverse, _, rfl, _, _, _, 100, rfl, ⟨⟨_, _, rfl, hk s4⟩, hx s4, sa, by decide⟩, fun _ vi H5 q5 fi => ?_, fun z => absurd z hz⟩
      have s5 := s4.trans q5
      refine ⟨_, rfl, _, _, _, rfl, hk s5, R.l_is_weight, _, rfl, _, _, _, rfl, ⟨⟨_, _, rfl, hk s5⟩, fi⟩, _, rfl, ?_⟩
      (try refine iteT ?_)
      refine ⟨_, rfl, _, _, _, rfl, hk s5, R.l_times, _, rfl, _, rfl, _, _, _, _, _, _, _, rfl, ⟨⟨_, _, rfl, hk s5⟩, hx s5, fi, sa, si, by omega⟩, fun v6 H6 q6 f6 => ?_⟩
      have s6 := s5.trans q6
      refine ⟨_, rfl, _, _, _, rfl, hk s6, R.l_one, _, rfl, ⟨_, _, rfl, hk s6⟩, fun vo H7 q7 fo => ?_⟩
      have s7 := s6.trans q7
      refine R.eqD (R.same q7 f6) fo (R.mul_inv _ hz) ⟨_, rfl, ?_⟩
      (try refine iteT ?_)
      refine ⟨_, rfl, _, _, _, rfl, hk s7, R.l_inverse, _, rfl, _, _, _, 100, rfl, ⟨⟨_, _, rfl, hk s7⟩, R.same (q6.trans q7) fi, si, by decide⟩, fun _ vj H8 q8 fj => ?_, fun z => absurd z (R.inv_ne _ hz)⟩
      refine ⟨_, rfl, ?_⟩
      exact R.eqD fj (hx (s7.trans q8)) (R.inv_inv _ hz) (k _ (s7.trans q8))
def sp_picking (P : Program) (w : World) (K : PySem.W.Frag) (mg : Str → Option Value) (base : Heap) (t : Adr) : Sp := fun vs H Q _ => ∃ R : PickR P w K mg base t, ∃ k x, vs = [k, x] ∧ KAt R.C R.fs H k ∧ ∀ H', Same H H' → Q (.bl true) H'
theorem ok_law_picking (T : Txt K mg t) : FnOk P w K mg base CX0 6 t.law_picking t.d_law_picking ["_law_kind", "_law_x"] (sp_picking P w K mg base t) := by
  refine T.F_law_picking.ok sc_law_picking (fun vs H Q E h => ?_) (fun cdv A outer s H vs Q E hr h => ?_)
  · obtain ⟨R, k, x, rfl, _⟩ := h
    rfl
  · obtain ⟨R, k0, x, rfl, ⟨p, dx, rfl, hk0⟩, k⟩ := h
    have hk : ∀ {H' : Hp}, Same H H' → H' p = some (.ins R.C dx R.fs) := fun q => q _ _ hk0
    have s0 := Same.refl H
    refine ⟨_, (pss_cons (ps_if (PW.pt (pw_or (pt_cmpR op_isnotB (pe_meth0 (pv 0) R.cl R.t_is_field R.G_is_field (hr.mono (by decide)) R.b_is_field .nil pass0) pe_bl (nomark _)) (pw_or1 (pt_cmpR op_isnotB (pe_meth0 (pv 0) R.cl R.t_picks R.G_picks (hr.mono (by decide)) R.b_picks .nil pass0) pe_bl (nomark _))))) (pss_one (ps_ret pe_bl)) pss_nil) (pss_cons (ps_if (PW.pt (pw_or (pt_cmpR op_ne (pe_call (ok_law_refused T) (hr.mono (by decide)) rfl T.m_law_refused T.F_law_refused.kp T.b_law_refused .nil pass0 (pa_cons (pv 0) (pa_cons pe_bl (pa_cons (pv 1) pa_nil)))) pe_str (nomark _)) (pw_or1 (pt_cmpR op_ne (pe_call (ok_law_refused T) (hr.mono (by decide)) rfl T.m_law_refused T.F_law_refused.kp T.b_law_refused .nil pass0 (pa_cons (pv 0) (pa_cons pe_bl (pa_cons (pv 1) pa_nil)))) pe_str (nomark _))))) (pss_one (ps_ret pe_bl)) pss_nil) (pss_one (ps_ret (pe_cmpR op_eq (pe_call (ok_law_refused T) (hr.mono (by decide)) rfl T.m_law_refused T.F_law_refused.kp T.b_law_refused .nil pass0 (pa_cons (pv 0) (pa_cons pe_bl (pa_cons (pe_meth0 (pv 0) R.cl R.t_nought R.G_nought (hr.mono (by decide)) R.b_nought .nil pass0) pa_nil)))) pe_str (nomark _)))))), ?_⟩
    refine ⟨_, rfl, _, _, _, rfl, hk s0, R.l_is_field, _, rfl, _, _, rfl, rfl, _, rfl, ?_⟩
    (try refine iteF ?_)
    refine ⟨_, rfl, _, _, _, rfl, hk s0, R.l_picks, _, rfl, _, _, rfl, rfl, _, rfl, ?_⟩
    (try refine iteF ?_)
    refine ⟨_, rfl, _, rfl, R.ref T, _, _, _, t.WrongKind, "kind", rfl, ⟨_, _, rfl, hk s0⟩, .inl ⟨rfl, rfl⟩, fun Q' E' hE => ⟨fun _ => ⟨_, _, rfl, hE _ (Same.refl _)⟩, fun z => (by cases z)⟩, fun H1 q1 => ?_⟩
    refine ⟨rfl, _, rfl, ?_⟩
    (try refine iteF ?_)
    refine ⟨_, rfl, _, rfl, R.ref T, _, _, _, t.WrongKind, "kind", rfl, ⟨_, _, rfl, hk q1⟩, .inl ⟨rfl, rfl⟩, fun Q' E' hE => ⟨fun z => (by cases z), fun _ => ⟨_, _, rfl, hE _ (Same.refl _)⟩⟩, fun H2 q2 => ?_⟩
    refine ⟨rfl, _, rfl, ?_⟩
    (try refine iteF ?_)
    have s2 := q1.trans q2
    refine ⟨_, rfl, _, rfl, _, _, _, rfl, hk s2, R.l_nought, _, rfl, ⟨_, _, rfl, hk s2⟩, fun vn H3 q3 => ?_⟩
    have s3 := s2.trans q3
    refine ⟨R.ref T, _, _, _, t.WrongKind, "kind", rfl, ⟨_, _, rfl, hk s3⟩, .inl ⟨rfl, rfl⟩, fun Q' E' hE => ⟨fun z => (by cases z), fun _ => ⟨_, _, rfl, hE _ (Same.refl _)⟩⟩, fun H4 q4 => ?_⟩
    refine ⟨rfl, ?_⟩
    (try dsimp only)
    exact k _ (s3.trans q4)
theorem nine (c : Int) : ∃ p : Int, atI ([2, 3, 5, 7, 11, 13, 101, 65537, 999983].map V.int) (c.fmod 9) = some (V.int p) ∧ (2 ≤ p ∧ p ≤ 1000000 ∧ isP p = true) := by
  have h := fm_in c 9 (by decide)
  rcases (by omega : c.fmod 9 = 0 ∨ c.fmod 9 = 1 ∨ c.fmod 9 = 2 ∨ c.fmod 9 = 3 ∨ c.fmod 9 = 4 ∨ c.fmod 9 = 5 ∨ c.fmod 9 = 6 ∨ c.fmod 9 = 7 ∨ c.fmod 9 = 8) with e | e | e | e | e | e | e | e | e
  · exact ⟨2, by rw [e]; rfl, by decide, by decide, p2⟩
  · exact ⟨3, by rw [e]; rfl, by decide, by decide, p3⟩
  · exact ⟨5, by rw [e]; rfl, by decide, by decide, p5⟩
  · exact ⟨7, by rw [e]; rfl, by decide, by decide, p7⟩
  · exact ⟨11, by rw [e]; rfl, by decide, by decide, p11⟩
  · exact ⟨13, by rw [e]; rfl, by decide, by decide, p13⟩
  · exact ⟨101, by rw [e]; rfl, by decide, by decide, p101⟩
  · exact ⟨65537, by rw [e]; rfl, by decide, by decide, p65537⟩
  · exact ⟨999983, by rw [e]; rfl, by decide, by decide, p999983⟩
/-- the four kinds in a list -/
structure Four (t : Adr) (H : Hp) (l : Addr) (p : Int) (x1 x2 x3 x4 : Addr) : Prop where
  l : H l = some (.lst [.ref x1, .ref x2, .ref x3, .ref x4])
  a : KAt t.Fractions [] H (.ref x1)
  b : KAt t.Residues (pfs p) H (.ref x2)
  c : KAt t.Costs [] H (.ref x3)
  d : KAt t.Truths [] H (.ref x4)
theorem Four.same {H H' : Hp} {l : Addr} {p : Int} {x1 x2 x3 x4 : Addr} (e : Same H H') (h : Four t H l p x1 x2 x3 x4) : Four t H' l p x1 x2 x3 x4 := ⟨e _ _ h.l, h.a.same e, h.b.same e, h.c.same e, h.d.same e⟩
theorem way6 (T : Txt K mg t) {H : Hp} {l x1 x2 x3 x4 : Addr} {p : Int} (F : Four t H l p x1 x2 x3 x4) (hp : 2 ≤ p ∧ p ≤ 1000000 ∧ isP p = true) (j : Nat) (hj : j < 4) :
    (j < 2 ∧ ∃ (R : FldR P w K mg base t.NoWeight) (xk : Addr), atI [V.ref x1, V.ref x2, V.ref x3, V.ref x4] (0 + (j : Int)) = some (.ref xk) ∧ KAt R.C R.fs H (.ref xk) ∧
      ∀ (c : Int) (H1 : Hp) (Q : VK) (E : XK), (∀ v H' a, Same H1 H' → R.is H' v a → R.S.sz 100 a → Q v H') → sp_weight [.int (0 + (j : Int)), .int p, .int c] H1 Q E) ∨
    (2 ≤ j ∧ ∃ (R : PickR P w K mg base t) (xk : Addr), atI [V.ref x1, V.ref x2, V.ref x3, V.ref x4] (0 + (j : Int)) = some (.ref xk) ∧ KAt R.C R.fs H (.ref xk) ∧
      ∀ (c : Int) (H1 : Hp) (Q : VK) (E : XK), (∀ v H', Same H1 H' → Q v H') → sp_weight [.int (0 + (j : Int)), .int p, .int c] H1 Q E) := by
  rcases j with _ | _ | _ | _ | j
  · exact .inl ⟨by decide, R_frX T, x1, rfl, F.a, fun c H1 Q E h => ⟨_, _, _, rfl, .inl ⟨rfl, fun v H' e x hx hz => h v H' x e hx hz⟩⟩⟩
  · exact .inl ⟨by decide, R_reX T p hp.1 hp.2.1 hp.2.2, x2, rfl, F.b, fun c H1 Q E h => ⟨_, _, _, rfl, .inr (.inl ⟨rfl, by omega, fun x => h _ _ x (Same.refl _) rfl trivial⟩)⟩⟩
  · exact .inr ⟨by decide, R_coX T, x3, rfl, F.c, fun c H1 Q E h => ⟨_, _, _, rfl, .inr (.inr (.inl ⟨rfl, fun x => h _ _ (Same.refl _)⟩))⟩⟩
  · exact .inr ⟨by decide, R_trX T, x4, rfl, F.d, fun c H1 Q E h => ⟨_, _, _, rfl, .inr (.inr (.inr ⟨rfl, fun x => h _ _ (Same.refl _)⟩))⟩⟩
  · omega
def sp_law (K : PySem.W.Frag) : Sp := fun vs H Q _ => ∃ (a : Addr) (ns : List Int), vs = [.ref a] ∧ SqL K H a (ns.map V.int) ∧ ns.length ≤ 63 ∧ ∀ H', Q (.bl true) H'
theorem ok_law (T : Txt K mg t) : FnOk P w K mg base CX0 7 t.law t.d_law ["_law_script"] (sp_law K) := by
  refine T.F_law.ok sc_law (fun vs H Q E h => ?_) (fun cdv A outer s H vs Q E hr h => ?_)
  · obtain ⟨a, ns, rfl, _⟩ := h
    rfl
  · obtain ⟨a, ns, rfl, hS, hlen, k⟩ := h
    refine ⟨_, (pss_cons (ps_set (i := 1) sc_law.nd rfl (Or.inl rfl) (pe_op op_cat (pe_slice sl_list (pv 0) po_none (po_some pe_int)) (pe_lst (pa_cons pe_int (pa_cons pe_int (pa_cons (pe_op op_sub pe_int pe_int) pa_nil)))))) (pss_cons (ps_set (i := 2) sc_law.nd rfl (Or.inl rfl) (pe_ix ix_list (pe_lst (pa_cons pe_int (pa_cons pe_int (pa_cons pe_int (pa_cons pe_int (pa_cons pe_int (pa_cons pe_int (pa_cons pe_int (pa_cons pe_int (pa_cons pe_int pa_nil)))))))))) (pe_op op_modN (pe_ix ix_list (pv 1) pe_int (fun _ _ => rfl)) pe_int) (fun _ _ => rfl))) (pss_cons (ps_set (i := 3) sc_law.nd rfl (Or.inl rfl) (pe_lst (pa_cons (pe_makeO T.M_Fractions rfl T.m_Fractions) (pa_cons (pe_make T.M_Residues (ok_Residues___init__ T) (hr.mono (by decide)) rfl T.m_Residues T.b_Residues___init__ .nil pass0 (pa_cons (pv 2) pa_nil)) (pa_cons (pe_makeO T.M_Costs rfl T.m_Costs) (pa_cons (pe_makeO T.M_Truths rfl T.m_Truths) pa_nil)))))) (pss_cons (ps_for PassesOwn.never rfl (pi_list (pv 1)) (pg_name (i := 4) sc_law.nd rfl (Or.inl rfl)) (pss_one (ps_for PassesOwn.never rfl (pi_range1 rfl T.z_range (pa_cons pe_int pa_nil)) (pg_name (i := 5) sc_law.nd rfl (Or.inl rfl)) (pss_cons (ps_set (i := 6) sc_law.nd rfl (Or.inl rfl) (pe_call (ok_law_weight T) (hr.mono (by decide)) rfl T.m_law_weight T.F_law_weight.kp T.b_law_weight .nil pass0 (pa_cons (pv 5) (pa_cons (pv 2) (pa_cons (pv 4) pa_nil))))) (pss_cons (ps_if (PW.pt (pw_and (pt_cmpR op_lt (pv 5) pe_int (nomark _)) (pw_and1 (pt_not (pt_val (pe_call (ok_law_field T) (hr.mono (by decide)) rfl T.m_law_field T.F_law_field.kp T.b_law_field .nil pass0 (pa_cons (pe_ix ix_list (pv 3) (pv 5) (fun _ _ => rfl)) (pa_cons (pv 6) pa_nil)))))))) (pss_one (ps_ret pe_bl)) pss_nil) (pss_one (ps_if (PW.pt (pw_and (pt_cmpR op_gt (pv 5) pe_int (nomark _)) (pw_and1 (pt_not (pt_val (pe_call (ok_law_picking T) (hr.mono (by decide)) rfl T.m_law_picking T.F_law_picking.kp T.b_law_picking .nil pass0 (pa_cons (pe_ix ix_list (pv 3) (pv 5) (fun _ _ => rfl)) (pa_cons (pv 6) pa_nil)))))))) (pss_one (ps_ret pe_bl)) pss_nil))))))) (pss_one (ps_ret (pe_and (pe_cmpR op_eq (pe_call (ok_law_refused T) (hr.mono (by decide)) rfl T.m_law_refused T.F_law_refused.kp T.b_law_refused .nil pass0 (pa_cons (pe_ix ix_list (pv 3) pe_int (fun _ _ => rfl)) (pa_cons pe_bl (pa_cons (pe_tup (pa_cons pe_int (pa_cons pe_int pa_nil))) pa_nil)))) pe_str (nomark _)) (pe_one (pe_cmpR op_eq (pe_call (ok_law_refused T) (hr.mono (by decide)) rfl T.m_law_refused T.F_law_refused.kp T.b_law_refused .nil pass0 (pa_cons (pe_ix ix_list (pv 3) pe_int (fun _ _ => rfl)) (pa_cons pe_bl (pa_cons pe_int pa_nil)))) pe_str (nomark _)))))))))), ?_⟩
    -- the cells
    refine ⟨_, rfl, _, rfl, _, _, rfl, hS, fun c1 hc1 => ?_⟩
    refine ⟨_, _, rfl, rfl, (by show 3 ≤ sizeLine; decide), fun c2 hc2 => ?_⟩
    have b1 : (ns.map V.int).length ≤ 63 := by rw [List.length_map]; exact hlen
    have b2 := cutV_length (ns.map V.int) none (some 60)
    refine ⟨_, _, _, _, rfl, rfl, (same_upd hc2) _ _ upd_same, upd_same, (by show _ + 3 ≤ sizeLine; have : 1000 < sizeLine := small1000 (Nat.le_refl _); omega), fun c3 hc3 => ?_⟩
    have ec : cutV (ns.map V.int) none (some 60) ++ [V.int 0, V.int 1, V.int (0 - 1)] = (ns.take 60 ++ [0, 1, -1]).map V.int := by
      rw [show (60 : Int) = ((60 : Nat) : Int) from rfl, cut_take, List.map_append, List.map_take]; rfl
    have kc := upd_same (H := upd (upd H c1 (.lst (cutV (ns.map V.int) none (some 60)))) c2 (.lst [.int 0, .int 1, .int (0 - 1)])) (a := c3) (o := .lst (cutV (ns.map V.int) none (some 60) ++ [.int 0, .int 1, .int (0 - 1)]))
    clear hc3 hc2 hc1
    revert kc
    show ∀ (kc : _ = _), _
    generalize upd (upd (upd H c1 (.lst (cutV (ns.map V.int) none (some 60)))) c2 (.lst [.int 0, .int 1, .int (0 - 1)])) c3 (.lst (cutV (ns.map V.int) none (some 60) ++ [.int 0, .int 1, .int (0 - 1)])) = Hc
    intro kc
    rw [ec] at kc
    have hcl : 3 ≤ (ns.take 60 ++ [0, 1, -1] : List Int).length ∧ (ns.take 60 ++ [0, 1, -1] : List Int).length ≤ 66 := by
      rw [List.length_append, List.length_take]; show 3 ≤ _ + 3 ∧ _ + 3 ≤ 66; omega
    clear ec
    revert kc hcl
    generalize (ns.take 60 ++ [0, 1, -1] : List Int) = cs
    rintro kc ⟨hc1, hc2⟩
    -- the prime
    obtain ⟨nz, gz⟩ := cells_at (ns := cs) (i := 0) (by omega)
    obtain ⟨p, ap, hp⟩ := nine nz
    refine ⟨(by show 9 ≤ sizeLine; decide), fun l0 h0 => ?_⟩
    have s0 := same_upd (o := .lst ([2, 3, 5, 7, 11, 13, 101, 65537, 999983].map V.int)) h0
    refine ⟨_, rfl, _, _, _, _, rfl, rfl, SqL.of (s0 _ _ kc), int_at (i := 0) rfl gz, _, _, rfl, rfl, (show (9 : Int) ≠ 0 by decide), _, _, _, _, rfl, rfl, SqL.of upd_same, ap, ?_⟩
    -- the kinds
    intro x1 d1 n1 m1 e1
    refine ⟨_, rfl, ?_⟩
    intro x2 d2 n2 m2 e2
    refine ⟨_, _, _, rfl, hp, upd_same, rfl, ?_⟩
    rw [upd_upd]
    intro x3 d3 n3 m3 e3 x4 d4 n4 m4 e4
    refine ⟨(by show 4 ≤ sizeLine; decide), fun l hl => ?_⟩
    have s1 := same_made (C := t.Fractions) (fs := []) n1 m1
    have s2 := same_made (C := t.Residues) (fs := pfs p) n2 m2
    have s3 := same_made (C := t.Costs) (fs := []) n3 m3
    have s4 := same_made (C := t.Truths) (fs := []) n4 m4
    have s5 := same_upd (o := .lst [.ref x1, .ref x2, .ref x3, .ref x4]) hl
    have F : Four t _ l p x1 x2 x3 x4 := ⟨upd_same (a := l) (o := .lst [.ref x1, .ref x2, .ref x3, .ref x4]), ⟨_, d1, rfl, (((s2.trans s3).trans s4).trans s5) _ _ upd_same⟩, ⟨_, d2, rfl, ((s3.trans s4).trans s5) _ _ upd_same⟩, ⟨_, d3, rfl, (s4.trans s5) _ _ upd_same⟩, ⟨_, d4, rfl, s5 _ _ upd_same⟩⟩
    have kk := (((((s0.trans s1).trans s2).trans s3).trans s4).trans s5) _ _ kc
    clear s0 s1 s2 s3 s4 s5 n1 m1 e1 n2 m2 e2 n3 m3 e3 n4 m4 e4 hl kc h0
    revert F kk
    generalize (upd _ l (.lst [.ref x1, .ref x2, .ref x3, .ref x4])) = Hk
    intro F kk
    refine ⟨_, rfl, c3, rfl, ⟨_, SqL.of kk⟩, for_list (K := K) (a := c3) (xs := cs.map V.int) (fun i σ H' => ∃ v4 v5 v6, σ = [some (.ref a), some (.ref c3), some (.int p), some (.ref l), v4, v5, v6] ∧ Same Hk H') ⟨_, _, _, rfl, Same.refl _⟩ (fun i σ H' _ ⟨_, _, _, _, q⟩ => SqL.of (q _ _ kk)) ?_ ?_⟩
    · rintro i v σ H3 hi ⟨v4, v5, v6, rfl, q3⟩
      obtain ⟨n0, rfl⟩ : ∃ n, v = .int n := by
        rw [List.getElem?_map] at hi
        cases e : cs[i]? with
        | none => rw [e] at hi; cases hi
        | some n => rw [e] at hi; cases hi; exact ⟨n, rfl⟩
      refine ⟨_, rfl, (by decide), (by decide), for_range (lo := 0) (n := (4 : Int).toNat) (fun j σ H4 => ∃ v5 v6, σ = [some (.ref a), some (.ref c3), some (.int p), some (.ref l), some (.int n0), v5, v6] ∧ Same Hk H4) ⟨_, _, rfl, q3⟩ ?_ ?_⟩
      · rintro j σ H4 hj ⟨v5, v6, rfl, q4⟩
        rcases way6 (P := P) (w := w) (base := base) T F hp j hj with ⟨j2, R, xk, ak, hk0, hw⟩ | ⟨j2, R, xk, ak, hk0, hw⟩
        · refine ⟨_, rfl, _, rfl, _, rfl, hw n0 H4 _ E0 fun vx H5 ax q5 fx zx => ?_⟩
          have s5 := q4.trans q5
          refine ⟨_, rfl, _, _, rfl, rfl, _, rfl, ?_⟩
          refine iteP (fun _ => ?_) (fun z => absurd j2 (by omega))
          refine ⟨_, rfl, _, rfl, _, _, _, _, rfl, rfl, SqL.of (s5 _ _ F.l), ak, _, rfl, R, _, _, _, rfl, ⟨hk0.same s5, fx, zx⟩, fun H6 q6 => ⟨_, rfl, ?_⟩⟩
          (try refine iteF ?_)
          have s6 := s5.trans q6
          refine ⟨_, rfl, _, _, rfl, rfl, _, rfl, ?_⟩
          refine iteP (fun z => absurd j2 (by omega)) (fun _ => ?_)
          (try refine iteF ?_)
          exact ⟨_, _, rfl, s6⟩
        · refine ⟨_, rfl, _, rfl, _, rfl, hw n0 H4 _ E0 fun vx H5 q5 => ?_⟩
          have s5 := q4.trans q5
          refine ⟨_, rfl, _, _, rfl, rfl, _, rfl, ?_⟩
          refine iteP (fun z => absurd j2 (by omega)) (fun _ => ?_)
          (try refine iteF ?_)
          refine ⟨_, rfl, _, _, rfl, rfl, _, rfl, ?_⟩
          refine iteP (fun _ => ?_) (fun z => absurd j2 (by omega))
          refine ⟨_, rfl, _, rfl, _, _, _, _, rfl, rfl, SqL.of (s5 _ _ F.l), ak, _, rfl, R, _, _, rfl, hk0.same s5, fun H6 q6 => ⟨_, rfl, ?_⟩⟩
          (try refine iteF ?_)
          exact ⟨_, _, rfl, s5.trans q6⟩
      · rintro σ H4 ⟨v5, v6, rfl, q4⟩
        exact ⟨_, _, _, rfl, q4⟩
    · rintro σ H3 ⟨v4, v5, v6, rfl, q3⟩
      have RF := R_frX (P := P) (w := w) (base := base) T
      refine ⟨_, rfl, _, _, _, _, rfl, rfl, SqL.of (q3 _ _ F.l), rfl, (by show 2 ≤ sizeLine; decide), fun z hz => ?_⟩
      have e1 := same_upd (o := .tup [.int 0, .int 1]) hz
      have s4 := q3.trans e1
      refine ⟨(R_frX (P := P) (w := w) (base := base) T).ref, _, _, _, t.NoWeight, "weight", rfl, F.a.same s4, .inr ⟨rfl, rfl⟩, fun Q' E' hE => ⟨fun z => (by cases z), fun _ => ⟨_, _, Fr.zero, 0, rfl, ⟨F.a.same s4, IsF.new, frSR.sz_zero, by decide⟩, fun z => absurd rfl z, fun _ => hE _ (Same.refl _)⟩⟩, fun H5 q5 => ?_⟩
      refine ⟨rfl, _, rfl, ?_⟩
      (try refine iteT ?_)
      have s5 := s4.trans q5
      refine ⟨_, rfl, _, _, _, _, rfl, rfl, SqL.of (s5 _ _ F.l), rfl, ?_⟩
      refine ⟨(R_reX (P := P) (w := w) (base := base) T p hp.1 hp.2.1 hp.2.2).ref, _, _, _, t.NoWeight, "weight", rfl, F.b.same s5, .inr ⟨rfl, rfl⟩, fun Q' E' hE => ⟨fun z => (by cases z), fun _ => ⟨_, _, (resSR p hp.1).zero, 0, rfl, ⟨F.b.same s5, rfl, trivial, by decide⟩, fun z => absurd rfl z, fun _ => hE _ (Same.refl _)⟩⟩, fun H6 q6 => ?_⟩
      exact ⟨rfl, k H6⟩
theorem law_binds (T : Txt K mg t) : ∀ (s : Shared) (u : Value), BindsTo s t.d_law ⟨[u], []⟩ [("_law_script", u)] := by
  obtain ⟨oc, od, kV, doc, pm, an, cdv, ct, osl, e, _, _⟩ := T.F_law.ex
  rw [e]
  exact fun s u => .of_eq rfl
end
theorem txt_mk {K : PySem.W.Frag} {h : Heap} {mg : Str → Option Value} (X : K.In h) (G : h.Ns mainGlobals mg) {a_Field a_Picking a_Fractions a_Residues a_Costs a_Truths a_WeighError a_WrongKind a_NoWeight a_is_whole a_divisor a_fraction a_is_prime a_Field_is_field a_Field_picks a_Picking_is_field a_Picking_picks a_Picking_minus a_Picking_inverse a_Fractions_nought a_Fractions_one a_Fractions_plus a_Fractions_times a_Fractions_minus a_Fractions_inverse a_Fractions_is_weight a_Residues___init__ a_Residues_nought a_Residues_one a_Residues_plus a_Residues_times a_Residues_minus a_Residues_inverse a_Residues_is_weight a_Costs_nought a_Truths_nought a_law_divisor a_law_low a_law_number a_law_weight a_law_refused a_law_field a_law_picking a_law : Addr} {oc_is_whole kV_is_whole dc_is_whole pm_is_whole cd_is_whole ct_is_whole oc_divisor kV_divisor dc_divisor pm_divisor cd_divisor ct_divisor oc_fraction kV_fraction dc_fraction pm_fraction cd_fraction ct_fraction oc_is_prime kV_is_prime dc_is_prime pm_is_prime cd_is_prime ct_is_prime oc_Field_is_field kV_Field_is_field dc_Field_is_field pm_Field_is_field cd_Field_is_field ct_Field_is_field oc_Field_picks kV_Field_picks dc_Field_picks pm_Field_picks cd_Field_picks ct_Field_picks oc_Picking_is_field kV_Picking_is_field dc_Picking_is_field pm_Picking_is_field cd_Picking_is_field ct_Picking_is_field oc_Picking_picks kV_Picking_picks dc_Picking_picks pm_Picking_picks cd_Picking_picks ct_Picking_picks oc_Picking_minus kV_Picking_minus dc_Picking_minus pm_Picking_minus cd_Picking_minus ct_Picking_minus oc_Picking_inverse kV_Picking_inverse dc_Picking_inverse pm_Picking_inverse cd_Picking_inverse ct_Picking_inverse oc_Fractions_nought kV_Fractions_nought dc_Fractions_nought pm_Fractions_nought cd_Fractions_nought ct_Fractions_nought oc_Fractions_one kV_Fractions_one dc_Fractions_one pm_Fractions_one cd_Fractions_one ct_Fractions_one oc_Fractions_plus kV_Fractions_plus dc_Fractions_plus pm_Fractions_plus cd_Fractions_plus ct_Fractions_plus oc_Fractions_times kV_Fractions_times dc_Fractions_times pm_Fractions_times cd_Fractions_times ct_Fractions_times oc_Fractions_minus kV_Fractions_minus dc_Fractions_minus pm_Fractions_minus cd_Fractions_minus ct_Fractions_minus oc_Fractions_inverse kV_Fractions_inverse dc_Fractions_inverse pm_Fractions_inverse cd_Fractions_inverse ct_Fractions_inverse oc_Fractions_is_weight kV_Fractions_is_weight dc_Fractions_is_weight pm_Fractions_is_weight cd_Fractions_is_weight ct_Fractions_is_weight oc_Residues___init__ kV_Residues___init__ dc_Residues___init__ pm_Residues___init__ cd_Residues___init__ ct_Residues___init__ oc_Residues_nought kV_Residues_nought dc_Residues_nought pm_Residues_nought cd_Residues_nought ct_Residues_nought oc_Residues_one kV_Residues_one dc_Residues_one pm_Residues_one cd_Residues_one ct_Residues_one oc_Residues_plus kV_Residues_plus dc_Residues_plus pm_Residues_plus cd_Residues_plus ct_Residues_plus oc_Residues_times kV_Residues_times dc_Residues_times pm_Residues_times cd_Residues_times ct_Residues_times oc_Residues_minus kV_Residues_minus dc_Residues_minus pm_Residues_minus cd_Residues_minus ct_Residues_minus oc_Residues_inverse kV_Residues_inverse dc_Residues_inverse pm_Residues_inverse cd_Residues_inverse ct_Residues_inverse oc_Residues_is_weight kV_Residues_is_weight dc_Residues_is_weight pm_Residues_is_weight cd_Residues_is_weight ct_Residues_is_weight oc_Costs_nought kV_Costs_nought dc_Costs_nought pm_Costs_nought cd_Costs_nought ct_Costs_nought oc_Truths_nought kV_Truths_nought dc_Truths_nought pm_Truths_nought cd_Truths_nought ct_Truths_nought oc_law_divisor kV_law_divisor dc_law_divisor pm_law_divisor cd_law_divisor ct_law_divisor oc_law_low kV_law_low dc_law_low pm_law_low cd_law_low ct_law_low oc_law_number kV_law_number dc_law_number pm_law_number cd_law_number ct_law_number oc_law_weight kV_law_weight dc_law_weight pm_law_weight cd_law_weight ct_law_weight oc_law_refused kV_law_refused dc_law_refused pm_law_refused cd_law_refused ct_law_refused oc_law_field kV_law_field dc_law_field pm_law_field cd_law_field ct_law_field oc_law_picking kV_law_picking dc_law_picking pm_law_picking cd_law_picking ct_law_picking oc_law kV_law dc_law pm_law cd_law ct_law : Value} {od_is_whole an_is_whole od_divisor an_divisor od_fraction an_fraction od_is_prime an_is_prime od_Field_is_field an_Field_is_field od_Field_picks an_Field_picks od_Picking_is_field an_Picking_is_field od_Picking_picks an_Picking_picks od_Picking_minus an_Picking_minus od_Picking_inverse an_Picking_inverse od_Fractions_nought an_Fractions_nought od_Fractions_one an_Fractions_one od_Fractions_plus an_Fractions_plus od_Fractions_times an_Fractions_times od_Fractions_minus an_Fractions_minus od_Fractions_inverse an_Fractions_inverse od_Fractions_is_weight an_Fractions_is_weight od_Residues___init__ an_Residues___init__ od_Residues_nought an_Residues_nought od_Residues_one an_Residues_one od_Residues_plus an_Residues_plus od_Residues_times an_Residues_times od_Residues_minus an_Residues_minus od_Residues_inverse an_Residues_inverse od_Residues_is_weight an_Residues_is_weight od_Costs_nought an_Costs_nought od_Truths_nought an_Truths_nought od_law_divisor an_law_divisor od_law_low an_law_low od_law_number an_law_number od_law_weight an_law_weight od_law_refused an_law_refused od_law_field an_law_field od_law_picking an_law_picking od_law an_law : Option Addr} {sl_is_whole sl_divisor sl_fraction sl_is_prime sl_Field_is_field sl_Field_picks sl_Picking_is_field sl_Picking_picks sl_Picking_minus sl_Picking_inverse sl_Fractions_nought sl_Fractions_one sl_Fractions_plus sl_Fractions_times sl_Fractions_minus sl_Fractions_inverse sl_Fractions_is_weight sl_Residues___init__ sl_Residues_nought sl_Residues_one sl_Residues_plus sl_Residues_times sl_Residues_minus sl_Residues_inverse sl_Residues_is_weight sl_Costs_nought sl_Truths_nought sl_law_divisor sl_law_low sl_law_number sl_law_weight sl_law_refused sl_law_field sl_law_picking sl_law : Array (Option Value)}
    (n_Field : PySem.W.nsIn K mainGlobals "Field" = some (some (.ref a_Field)))
    (pg_Field : PySem.W.plainGet K a_Field Str.empty = true)
    (hd_Field : PySem.W.hasDictIn K a_Field = true)
    (po_Field : PySem.W.plainOver K a_Field = true)
    (sa_Field : PySem.W.findIn K (.ref a_Field) "__setattr__" = some (some (.builtin "object.__setattr__")))
    (mk_Field : PySem.W.makesIn K a_Field = true)
    (kp_Field : PySem.W.keepIn K (.ref a_Field) = true)
    (in_Field : PySem.W.findIn K (.ref a_Field) "__init__" = some (some (.builtin "object.__init__")))
    (n_Picking : PySem.W.nsIn K mainGlobals "Picking" = some (some (.ref a_Picking)))
    (pg_Picking : PySem.W.plainGet K a_Picking Str.empty = true)
    (hd_Picking : PySem.W.hasDictIn K a_Picking = true)
    (po_Picking : PySem.W.plainOver K a_Picking = true)
    (sa_Picking : PySem.W.findIn K (.ref a_Picking) "__setattr__" = some (some (.builtin "object.__setattr__")))
    (mk_Picking : PySem.W.makesIn K a_Picking = true)
    (kp_Picking : PySem.W.keepIn K (.ref a_Picking) = true)
    (in_Picking : PySem.W.findIn K (.ref a_Picking) "__init__" = some (some (.builtin "object.__init__")))
    (n_Fractions : PySem.W.nsIn K mainGlobals "Fractions" = some (some (.ref a_Fractions)))
    (pg_Fractions : PySem.W.plainGet K a_Fractions Str.empty = true)
    (hd_Fractions : PySem.W.hasDictIn K a_Fractions = true)
    (po_Fractions : PySem.W.plainOver K a_Fractions = true)
    (sa_Fractions : PySem.W.findIn K (.ref a_Fractions) "__setattr__" = some (some (.builtin "object.__setattr__")))
    (mk_Fractions : PySem.W.makesIn K a_Fractions = true)
    (kp_Fractions : PySem.W.keepIn K (.ref a_Fractions) = true)
    (in_Fractions : PySem.W.findIn K (.ref a_Fractions) "__init__" = some (some (.builtin "object.__init__")))
    (n_Residues : PySem.W.nsIn K mainGlobals "Residues" = some (some (.ref a_Residues)))
    (pg_Residues : PySem.W.plainGet K a_Residues Str.empty = true)
    (hd_Residues : PySem.W.hasDictIn K a_Residues = true)
    (po_Residues : PySem.W.plainOver K a_Residues = true)
    (sa_Residues : PySem.W.findIn K (.ref a_Residues) "__setattr__" = some (some (.builtin "object.__setattr__")))
    (mk_Residues : PySem.W.makesIn K a_Residues = true)
    (kp_Residues : PySem.W.keepIn K (.ref a_Residues) = true)
    (n_Costs : PySem.W.nsIn K mainGlobals "Costs" = some (some (.ref a_Costs)))
    (pg_Costs : PySem.W.plainGet K a_Costs Str.empty = true)
    (hd_Costs : PySem.W.hasDictIn K a_Costs = true)
    (po_Costs : PySem.W.plainOver K a_Costs = true)
    (sa_Costs : PySem.W.findIn K (.ref a_Costs) "__setattr__" = some (some (.builtin "object.__setattr__")))
    (mk_Costs : PySem.W.makesIn K a_Costs = true)
    (kp_Costs : PySem.W.keepIn K (.ref a_Costs) = true)
    (in_Costs : PySem.W.findIn K (.ref a_Costs) "__init__" = some (some (.builtin "object.__init__")))
    (n_Truths : PySem.W.nsIn K mainGlobals "Truths" = some (some (.ref a_Truths)))
    (pg_Truths : PySem.W.plainGet K a_Truths Str.empty = true)
    (hd_Truths : PySem.W.hasDictIn K a_Truths = true)
    (po_Truths : PySem.W.plainOver K a_Truths = true)
    (sa_Truths : PySem.W.findIn K (.ref a_Truths) "__setattr__" = some (some (.builtin "object.__setattr__")))
    (mk_Truths : PySem.W.makesIn K a_Truths = true)
    (kp_Truths : PySem.W.keepIn K (.ref a_Truths) = true)
    (in_Truths : PySem.W.findIn K (.ref a_Truths) "__init__" = some (some (.builtin "object.__init__")))
    (n_WeighError : PySem.W.nsIn K mainGlobals "WeighError" = some (some (.ref a_WeighError)))
    (x_WeighError : ExcK K a_WeighError)
    (n_WrongKind : PySem.W.nsIn K mainGlobals "WrongKind" = some (some (.ref a_WrongKind)))
    (x_WrongKind : ExcK K a_WrongKind)
    (n_NoWeight : PySem.W.nsIn K mainGlobals "NoWeight" = some (some (.ref a_NoWeight)))
    (x_NoWeight : ExcK K a_NoWeight)
    (n_is_whole : PySem.W.nsIn K mainGlobals "is_whole" = some (some (.ref a_is_whole)))
    (l_is_whole : K.lookup a_is_whole = some ⟨oc_is_whole, od_is_whole, .func (PySem.W.fnOf "is_whole" "is_whole" (defArgs s_is_whole) (defBody s_is_whole) (defScope s_is_whole) .none kV_is_whole dc_is_whole pm_is_whole an_is_whole cd_is_whole ct_is_whole), sl_is_whole⟩)
    (c_is_whole : PySem.W.codeIn K cd_is_whole "is_whole" = true)
    (k_is_whole : PySem.W.keepIn K (.ref a_is_whole) = true)
    (n_divisor : PySem.W.nsIn K mainGlobals "divisor" = some (some (.ref a_divisor)))
    (l_divisor : K.lookup a_divisor = some ⟨oc_divisor, od_divisor, .func (PySem.W.fnOf "divisor" "divisor" (defArgs s_divisor) (defBody s_divisor) (defScope s_divisor) .none kV_divisor dc_divisor pm_divisor an_divisor cd_divisor ct_divisor), sl_divisor⟩)
    (c_divisor : PySem.W.codeIn K cd_divisor "divisor" = true)
    (k_divisor : PySem.W.keepIn K (.ref a_divisor) = true)
    (n_fraction : PySem.W.nsIn K mainGlobals "fraction" = some (some (.ref a_fraction)))
    (l_fraction : K.lookup a_fraction = some ⟨oc_fraction, od_fraction, .func (PySem.W.fnOf "fraction" "fraction" (defArgs s_fraction) (defBody s_fraction) (defScope s_fraction) .none kV_fraction dc_fraction pm_fraction an_fraction cd_fraction ct_fraction), sl_fraction⟩)
    (c_fraction : PySem.W.codeIn K cd_fraction "fraction" = true)
    (k_fraction : PySem.W.keepIn K (.ref a_fraction) = true)
    (n_is_prime : PySem.W.nsIn K mainGlobals "is_prime" = some (some (.ref a_is_prime)))
    (l_is_prime : K.lookup a_is_prime = some ⟨oc_is_prime, od_is_prime, .func (PySem.W.fnOf "is_prime" "is_prime" (defArgs s_is_prime) (defBody s_is_prime) (defScope s_is_prime) .none kV_is_prime dc_is_prime pm_is_prime an_is_prime cd_is_prime ct_is_prime), sl_is_prime⟩)
    (c_is_prime : PySem.W.codeIn K cd_is_prime "is_prime" = true)
    (k_is_prime : PySem.W.keepIn K (.ref a_is_prime) = true)
    (n_Field_is_field : PySem.W.findIn K (.ref a_Field) "is_field" = some (some (.ref a_Field_is_field)))
    (i_Field_is_field : PySem.W.isFn K (.ref a_Field_is_field) = true)
    (l_Field_is_field : K.lookup a_Field_is_field = some ⟨oc_Field_is_field, od_Field_is_field, .func (PySem.W.fnOf "is_field" "Field.is_field" (defArgs s_Field_is_field) (defBody s_Field_is_field) (defScope s_Field_is_field) .none kV_Field_is_field dc_Field_is_field pm_Field_is_field an_Field_is_field cd_Field_is_field ct_Field_is_field), sl_Field_is_field⟩)
    (c_Field_is_field : PySem.W.codeIn K cd_Field_is_field "Field.is_field" = true)
    (k_Field_is_field : PySem.W.keepIn K (.ref a_Field_is_field) = true)
    (n_Field_picks : PySem.W.findIn K (.ref a_Field) "picks" = some (some (.ref a_Field_picks)))
    (i_Field_picks : PySem.W.isFn K (.ref a_Field_picks) = true)
    (l_Field_picks : K.lookup a_Field_picks = some ⟨oc_Field_picks, od_Field_picks, .func (PySem.W.fnOf "picks" "Field.picks" (defArgs s_Field_picks) (defBody s_Field_picks) (defScope s_Field_picks) .none kV_Field_picks dc_Field_picks pm_Field_picks an_Field_picks cd_Field_picks ct_Field_picks), sl_Field_picks⟩)
    (c_Field_picks : PySem.W.codeIn K cd_Field_picks "Field.picks" = true)
    (k_Field_picks : PySem.W.keepIn K (.ref a_Field_picks) = true)
    (n_Picking_is_field : PySem.W.findIn K (.ref a_Picking) "is_field" = some (some (.ref a_Picking_is_field)))
    (i_Picking_is_field : PySem.W.isFn K (.ref a_Picking_is_field) = true)
    (l_Picking_is_field : K.lookup a_Picking_is_field = some ⟨oc_Picking_is_field, od_Picking_is_field, .func (PySem.W.fnOf "is_field" "Picking.is_field" (defArgs s_Picking_is_field) (defBody s_Picking_is_field) (defScope s_Picking_is_field) .none kV_Picking_is_field dc_Picking_is_field pm_Picking_is_field an_Picking_is_field cd_Picking_is_field ct_Picking_is_field), sl_Picking_is_field⟩)
    (c_Picking_is_field : PySem.W.codeIn K cd_Picking_is_field "Picking.is_field" = true)
    (k_Picking_is_field : PySem.W.keepIn K (.ref a_Picking_is_field) = true)
    (n_Picking_picks : PySem.W.findIn K (.ref a_Picking) "picks" = some (some (.ref a_Picking_picks)))
    (i_Picking_picks : PySem.W.isFn K (.ref a_Picking_picks) = true)
    (l_Picking_picks : K.lookup a_Picking_picks = some ⟨oc_Picking_picks, od_Picking_picks, .func (PySem.W.fnOf "picks" "Picking.picks" (defArgs s_Picking_picks) (defBody s_Picking_picks) (defScope s_Picking_picks) .none kV_Picking_picks dc_Picking_picks pm_Picking_picks an_Picking_picks cd_Picking_picks ct_Picking_picks), sl_Picking_picks⟩)
    (c_Picking_picks : PySem.W.codeIn K cd_Picking_picks "Picking.picks" = true)
    (k_Picking_picks : PySem.W.keepIn K (.ref a_Picking_picks) = true)
    (n_Picking_minus : PySem.W.findIn K (.ref a_Picking) "minus" = some (some (.ref a_Picking_minus)))
    (i_Picking_minus : PySem.W.isFn K (.ref a_Picking_minus) = true)
    (l_Picking_minus : K.lookup a_Picking_minus = some ⟨oc_Picking_minus, od_Picking_minus, .func (PySem.W.fnOf "minus" "Picking.minus" (defArgs s_Picking_minus) (defBody s_Picking_minus) (defScope s_Picking_minus) .none kV_Picking_minus dc_Picking_minus pm_Picking_minus an_Picking_minus cd_Picking_minus ct_Picking_minus), sl_Picking_minus⟩)
    (c_Picking_minus : PySem.W.codeIn K cd_Picking_minus "Picking.minus" = true)
    (k_Picking_minus : PySem.W.keepIn K (.ref a_Picking_minus) = true)
    (n_Picking_inverse : PySem.W.findIn K (.ref a_Picking) "inverse" = some (some (.ref a_Picking_inverse)))
    (i_Picking_inverse : PySem.W.isFn K (.ref a_Picking_inverse) = true)
    (l_Picking_inverse : K.lookup a_Picking_inverse = some ⟨oc_Picking_inverse, od_Picking_inverse, .func (PySem.W.fnOf "inverse" "Picking.inverse" (defArgs s_Picking_inverse) (defBody s_Picking_inverse) (defScope s_Picking_inverse) .none kV_Picking_inverse dc_Picking_inverse pm_Picking_inverse an_Picking_inverse cd_Picking_inverse ct_Picking_inverse), sl_Picking_inverse⟩)
    (c_Picking_inverse : PySem.W.codeIn K cd_Picking_inverse "Picking.inverse" = true)
    (k_Picking_inverse : PySem.W.keepIn K (.ref a_Picking_inverse) = true)
    (n_Fractions_nought : PySem.W.findIn K (.ref a_Fractions) "nought" = some (some (.ref a_Fractions_nought)))
    (i_Fractions_nought : PySem.W.isFn K (.ref a_Fractions_nought) = true)
    (l_Fractions_nought : K.lookup a_Fractions_nought = some ⟨oc_Fractions_nought, od_Fractions_nought, .func (PySem.W.fnOf "nought" "Fractions.nought" (defArgs s_Fractions_nought) (defBody s_Fractions_nought) (defScope s_Fractions_nought) .none kV_Fractions_nought dc_Fractions_nought pm_Fractions_nought an_Fractions_nought cd_Fractions_nought ct_Fractions_nought), sl_Fractions_nought⟩)
    (c_Fractions_nought : PySem.W.codeIn K cd_Fractions_nought "Fractions.nought" = true)
    (k_Fractions_nought : PySem.W.keepIn K (.ref a_Fractions_nought) = true)
    (n_Fractions_one : PySem.W.findIn K (.ref a_Fractions) "one" = some (some (.ref a_Fractions_one)))
    (i_Fractions_one : PySem.W.isFn K (.ref a_Fractions_one) = true)
    (l_Fractions_one : K.lookup a_Fractions_one = some ⟨oc_Fractions_one, od_Fractions_one, .func (PySem.W.fnOf "one" "Fractions.one" (defArgs s_Fractions_one) (defBody s_Fractions_one) (defScope s_Fractions_one) .none kV_Fractions_one dc_Fractions_one pm_Fractions_one an_Fractions_one cd_Fractions_one ct_Fractions_one), sl_Fractions_one⟩)
    (c_Fractions_one : PySem.W.codeIn K cd_Fractions_one "Fractions.one" = true)
    (k_Fractions_one : PySem.W.keepIn K (.ref a_Fractions_one) = true)
    (n_Fractions_plus : PySem.W.findIn K (.ref a_Fractions) "plus" = some (some (.ref a_Fractions_plus)))
    (i_Fractions_plus : PySem.W.isFn K (.ref a_Fractions_plus) = true)
    (l_Fractions_plus : K.lookup a_Fractions_plus = some ⟨oc_Fractions_plus, od_Fractions_plus, .func (PySem.W.fnOf "plus" "Fractions.plus" (defArgs s_Fractions_plus) (defBody s_Fractions_plus) (defScope s_Fractions_plus) .none kV_Fractions_plus dc_Fractions_plus pm_Fractions_plus an_Fractions_plus cd_Fractions_plus ct_Fractions_plus), sl_Fractions_plus⟩)
    (c_Fractions_plus : PySem.W.codeIn K cd_Fractions_plus "Fractions.plus" = true)
    (k_Fractions_plus : PySem.W.keepIn K (.ref a_Fractions_plus) = true)
    (n_Fractions_times : PySem.W.findIn K (.ref a_Fractions) "times" = some (some (.ref a_Fractions_times)))
    (i_Fractions_times : PySem.W.isFn K (.ref a_Fractions_times) = true)
    (l_Fractions_times : K.lookup a_Fractions_times = some ⟨oc_Fractions_times, od_Fractions_times, .func (PySem.W.fnOf "times" "Fractions.times" (defArgs s_Fractions_times) (defBody s_Fractions_times) (defScope s_Fractions_times) .none kV_Fractions_times dc_Fractions_times pm_Fractions_times an_Fractions_times cd_Fractions_times ct_Fractions_times), sl_Fractions_times⟩)
    (c_Fractions_times : PySem.W.codeIn K cd_Fractions_times "Fractions.times" = true)
    (k_Fractions_times : PySem.W.keepIn K (.ref a_Fractions_times) = true)
    (n_Fractions_minus : PySem.W.findIn K (.ref a_Fractions) "minus" = some (some (.ref a_Fractions_minus)))
    (i_Fractions_minus : PySem.W.isFn K (.ref a_Fractions_minus) = true)
    (l_Fractions_minus : K.lookup a_Fractions_minus = some ⟨oc_Fractions_minus, od_Fractions_minus, .func (PySem.W.fnOf "minus" "Fractions.minus" (defArgs s_Fractions_minus) (defBody s_Fractions_minus) (defScope s_Fractions_minus) .none kV_Fractions_minus dc_Fractions_minus pm_Fractions_minus an_Fractions_minus cd_Fractions_minus ct_Fractions_minus), sl_Fractions_minus⟩)
    (c_Fractions_minus : PySem.W.codeIn K cd_Fractions_minus "Fractions.minus" = true)
    (k_Fractions_minus : PySem.W.keepIn K (.ref a_Fractions_minus) = true)
    (n_Fractions_inverse : PySem.W.findIn K (.ref a_Fractions) "inverse" = some (some (.ref a_Fractions_inverse)))
    (i_Fractions_inverse : PySem.W.isFn K (.ref a_Fractions_inverse) = true)
    (l_Fractions_inverse : K.lookup a_Fractions_inverse = some ⟨oc_Fractions_inverse, od_Fractions_inverse, .func (PySem.W.fnOf "inverse" "Fractions.inverse" (defArgs s_Fractions_inverse) (defBody s_Fractions_inverse) (defScope s_Fractions_inverse) .none kV_Fractions_inverse dc_Fractions_inverse pm_Fractions_inverse an_Fractions_inverse cd_Fractions_inverse ct_Fractions_inverse), sl_Fractions_inverse⟩)
    (c_Fractions_inverse : PySem.W.codeIn K cd_Fractions_inverse "Fractions.inverse" = true)
    (k_Fractions_inverse : PySem.W.keepIn K (.ref a_Fractions_inverse) = true)
    (n_Fractions_is_weight : PySem.W.findIn K (.ref a_Fractions) "is_weight" = some (some (.ref a_Fractions_is_weight)))
    (i_Fractions_is_weight : PySem.W.isFn K (.ref a_Fractions_is_weight) = true)
    (l_Fractions_is_weight : K.lookup a_Fractions_is_weight = some ⟨oc_Fractions_is_weight, od_Fractions_is_weight, .func (PySem.W.fnOf "is_weight" "Fractions.is_weight" (defArgs s_Fractions_is_weight) (defBody s_Fractions_is_weight) (defScope s_Fractions_is_weight) .none kV_Fractions_is_weight dc_Fractions_is_weight pm_Fractions_is_weight an_Fractions_is_weight cd_Fractions_is_weight ct_Fractions_is_weight), sl_Fractions_is_weight⟩)
    (c_Fractions_is_weight : PySem.W.codeIn K cd_Fractions_is_weight "Fractions.is_weight" = true)
    (k_Fractions_is_weight : PySem.W.keepIn K (.ref a_Fractions_is_weight) = true)
    (n_Residues___init__ : PySem.W.findIn K (.ref a_Residues) "__init__" = some (some (.ref a_Residues___init__)))
    (i_Residues___init__ : PySem.W.isFn K (.ref a_Residues___init__) = true)
    (l_Residues___init__ : K.lookup a_Residues___init__ = some ⟨oc_Residues___init__, od_Residues___init__, .func (PySem.W.fnOf "__init__" "Residues.__init__" (defArgs s_Residues___init__) (defBody s_Residues___init__) (defScope s_Residues___init__) .none kV_Residues___init__ dc_Residues___init__ pm_Residues___init__ an_Residues___init__ cd_Residues___init__ ct_Residues___init__), sl_Residues___init__⟩)
    (c_Residues___init__ : PySem.W.codeIn K cd_Residues___init__ "Residues.__init__" = true)
    (k_Residues___init__ : PySem.W.keepIn K (.ref a_Residues___init__) = true)
    (n_Residues_nought : PySem.W.findIn K (.ref a_Residues) "nought" = some (some (.ref a_Residues_nought)))
    (i_Residues_nought : PySem.W.isFn K (.ref a_Residues_nought) = true)
    (l_Residues_nought : K.lookup a_Residues_nought = some ⟨oc_Residues_nought, od_Residues_nought, .func (PySem.W.fnOf "nought" "Residues.nought" (defArgs s_Residues_nought) (defBody s_Residues_nought) (defScope s_Residues_nought) .none kV_Residues_nought dc_Residues_nought pm_Residues_nought an_Residues_nought cd_Residues_nought ct_Residues_nought), sl_Residues_nought⟩)
    (c_Residues_nought : PySem.W.codeIn K cd_Residues_nought "Residues.nought" = true)
    (k_Residues_nought : PySem.W.keepIn K (.ref a_Residues_nought) = true)
    (n_Residues_one : PySem.W.findIn K (.ref a_Residues) "one" = some (some (.ref a_Residues_one)))
    (i_Residues_one : PySem.W.isFn K (.ref a_Residues_one) = true)
    (l_Residues_one : K.lookup a_Residues_one = some ⟨oc_Residues_one, od_Residues_one, .func (PySem.W.fnOf "one" "Residues.one" (defArgs s_Residues_one) (defBody s_Residues_one) (defScope s_Residues_one) .none kV_Residues_one dc_Residues_one pm_Residues_one an_Residues_one cd_Residues_one ct_Residues_one), sl_Residues_one⟩)
    (c_Residues_one : PySem.W.codeIn K cd_Residues_one "Residues.one" = true)
    (k_Residues_one : PySem.W.keepIn K (.ref a_Residues_one) = true)
    (n_Residues_plus : PySem.W.findIn K (.ref a_Residues) "plus" = some (some (.ref a_Residues_plus)))
    (i_Residues_plus : PySem.W.isFn K (.ref a_Residues_plus) = true)
    (l_Residues_plus : K.lookup a_Residues_plus = some ⟨oc_Residues_plus, od_Residues_plus, .func (PySem.W.fnOf "plus" "Residues.plus" (defArgs s_Residues_plus) (defBody s_Residues_plus) (defScope s_Residues_plus) .none kV_Residues_plus dc_Residues_plus pm_Residues_plus an_Residues_plus cd_Residues_plus ct_Residues_plus), sl_Residues_plus⟩)
    (c_Residues_plus : PySem.W.codeIn K cd_Residues_plus "Residues.plus" = true)
    (k_Residues_plus : PySem.W.keepIn K (.ref a_Residues_plus) = true)
    (n_Residues_times : PySem.W.findIn K (.ref a_Residues) "times" = some (some (.ref a_Residues_times)))
    (i_Residues_times : PySem.W.isFn K (.ref a_Residues_times) = true)
    (l_Residues_times : K.lookup a_Residues_times = some ⟨oc_Residues_times, od_Residues_times, .func (PySem.W.fnOf "times" "Residues.times" (defArgs s_Residues_times) (defBody s_Residues_times) (defScope s_Residues_times) .none kV_Residues_times dc_Residues_times pm_Residues_times an_Residues_times cd_Residues_times ct_Residues_times), sl_Residues_times⟩)
    (c_Residues_times : PySem.W.codeIn K cd_Residues_times "Residues.times" = true)
    (k_Residues_times : PySem.W.keepIn K (.ref a_Residues_times) = true)
    (n_Residues_minus : PySem.W.findIn K (.ref a_Residues) "minus" = some (some (.ref a_Residues_minus)))
    (i_Residues_minus : PySem.W.isFn K (.ref a_Residues_minus) = true)
    (l_Residues_minus : K.lookup a_Residues_minus = some ⟨oc_Residues_minus, od_Residues_minus, .func (PySem.W.fnOf "minus" "Residues.minus" (defArgs s_Residues_minus) (defBody s_Residues_minus) (defScope s_Residues_minus) .none kV_Residues_minus dc_Residues_minus pm_Residues_minus an_Residues_minus cd_Residues_minus ct_Residues_minus), sl_Residues_minus⟩)
    (c_Residues_minus : PySem.W.codeIn K cd_Residues_minus "Residues.minus" = true)
    (k_Residues_minus : PySem.W.keepIn K (.ref a_Residues_minus) = true)
    (n_Residues_inverse : PySem.W.findIn K (.ref a_Residues) "inverse" = some (some (.ref a_Residues_inverse)))
    (i_Residues_inverse : PySem.W.isFn K (.ref a_Residues_inverse) = true)
    (l_Residues_inverse : K.lookup a_Residues_inverse = some ⟨oc_Residues_inverse, od_Residues_inverse, .func (PySem.W.fnOf "inverse" "Residues.inverse" (defArgs s_Residues_inverse) (defBody s_Residues_inverse) (defScope s_Residues_inverse) .none kV_Residues_inverse dc_Residues_inverse pm_Residues_inverse an_Residues_inverse cd_Residues_inverse ct_Residues_inverse), sl_Residues_inverse⟩)
    (c_Residues_inverse : PySem.W.codeIn K cd_Residues_inverse "Residues.inverse" = true)
    (k_Residues_inverse : PySem.W.keepIn K (.ref a_Residues_inverse) = true)
    (n_Residues_is_weight : PySem.W.findIn K (.ref a_Residues) "is_weight" = some (some (.ref a_Residues_is_weight)))
    (i_Residues_is_weight : PySem.W.isFn K (.ref a_Residues_is_weight) = true)
    (l_Residues_is_weight : K.lookup a_Residues_is_weight = some ⟨oc_Residues_is_weight, od_Residues_is_weight, .func (PySem.W.fnOf "is_weight" "Residues.is_weight" (defArgs s_Residues_is_weight) (defBody s_Residues_is_weight) (defScope s_Residues_is_weight) .none kV_Residues_is_weight dc_Residues_is_weight pm_Residues_is_weight an_Residues_is_weight cd_Residues_is_weight ct_Residues_is_weight), sl_Residues_is_weight⟩)
    (c_Residues_is_weight : PySem.W.codeIn K cd_Residues_is_weight "Residues.is_weight" = true)
    (k_Residues_is_weight : PySem.W.keepIn K (.ref a_Residues_is_weight) = true)
    (n_Costs_nought : PySem.W.findIn K (.ref a_Costs) "nought" = some (some (.ref a_Costs_nought)))
    (i_Costs_nought : PySem.W.isFn K (.ref a_Costs_nought) = true)
    (l_Costs_nought : K.lookup a_Costs_nought = some ⟨oc_Costs_nought, od_Costs_nought, .func (PySem.W.fnOf "nought" "Costs.nought" (defArgs s_Costs_nought) (defBody s_Costs_nought) (defScope s_Costs_nought) .none kV_Costs_nought dc_Costs_nought pm_Costs_nought an_Costs_nought cd_Costs_nought ct_Costs_nought), sl_Costs_nought⟩)
    (c_Costs_nought : PySem.W.codeIn K cd_Costs_nought "Costs.nought" = true)
    (k_Costs_nought : PySem.W.keepIn K (.ref a_Costs_nought) = true)
    (n_Truths_nought : PySem.W.findIn K (.ref a_Truths) "nought" = some (some (.ref a_Truths_nought)))
    (i_Truths_nought : PySem.W.isFn K (.ref a_Truths_nought) = true)
    (l_Truths_nought : K.lookup a_Truths_nought = some ⟨oc_Truths_nought, od_Truths_nought, .func (PySem.W.fnOf "nought" "Truths.nought" (defArgs s_Truths_nought) (defBody s_Truths_nought) (defScope s_Truths_nought) .none kV_Truths_nought dc_Truths_nought pm_Truths_nought an_Truths_nought cd_Truths_nought ct_Truths_nought), sl_Truths_nought⟩)
    (c_Truths_nought : PySem.W.codeIn K cd_Truths_nought "Truths.nought" = true)
    (k_Truths_nought : PySem.W.keepIn K (.ref a_Truths_nought) = true)
    (n_law_divisor : PySem.W.nsIn K mainGlobals "_law_divisor" = some (some (.ref a_law_divisor)))
    (l_law_divisor : K.lookup a_law_divisor = some ⟨oc_law_divisor, od_law_divisor, .func (PySem.W.fnOf "_law_divisor" "_law_divisor" (defArgs s_law_divisor) (defBody s_law_divisor) (defScope s_law_divisor) .none kV_law_divisor dc_law_divisor pm_law_divisor an_law_divisor cd_law_divisor ct_law_divisor), sl_law_divisor⟩)
    (c_law_divisor : PySem.W.codeIn K cd_law_divisor "_law_divisor" = true)
    (k_law_divisor : PySem.W.keepIn K (.ref a_law_divisor) = true)
    (n_law_low : PySem.W.nsIn K mainGlobals "_law_low" = some (some (.ref a_law_low)))
    (l_law_low : K.lookup a_law_low = some ⟨oc_law_low, od_law_low, .func (PySem.W.fnOf "_law_low" "_law_low" (defArgs s_law_low) (defBody s_law_low) (defScope s_law_low) .none kV_law_low dc_law_low pm_law_low an_law_low cd_law_low ct_law_low), sl_law_low⟩)
    (c_law_low : PySem.W.codeIn K cd_law_low "_law_low" = true)
    (k_law_low : PySem.W.keepIn K (.ref a_law_low) = true)
    (n_law_number : PySem.W.nsIn K mainGlobals "_law_number" = some (some (.ref a_law_number)))
    (l_law_number : K.lookup a_law_number = some ⟨oc_law_number, od_law_number, .func (PySem.W.fnOf "_law_number" "_law_number" (defArgs s_law_number) (defBody s_law_number) (defScope s_law_number) .none kV_law_number dc_law_number pm_law_number an_law_number cd_law_number ct_law_number), sl_law_number⟩)
    (c_law_number : PySem.W.codeIn K cd_law_number "_law_number" = true)
    (k_law_number : PySem.W.keepIn K (.ref a_law_number) = true)
    (n_law_weight : PySem.W.nsIn K mainGlobals "_law_weight" = some (some (.ref a_law_weight)))
    (l_law_weight : K.lookup a_law_weight = some ⟨oc_law_weight, od_law_weight, .func (PySem.W.fnOf "_law_weight" "_law_weight" (defArgs s_law_weight) (defBody s_law_weight) (defScope s_law_weight) .none kV_law_weight dc_law_weight pm_law_weight an_law_weight cd_law_weight ct_law_weight), sl_law_weight⟩)
    (c_law_weight : PySem.W.codeIn K cd_law_weight "_law_weight" = true)
    (k_law_weight : PySem.W.keepIn K (.ref a_law_weight) = true)
    (n_law_refused : PySem.W.nsIn K mainGlobals "_law_refused" = some (some (.ref a_law_refused)))
    (l_law_refused : K.lookup a_law_refused = some ⟨oc_law_refused, od_law_refused, .func (PySem.W.fnOf "_law_refused" "_law_refused" (defArgs s_law_refused) (defBody s_law_refused) (defScope s_law_refused) .none kV_law_refused dc_law_refused pm_law_refused an_law_refused cd_law_refused ct_law_refused), sl_law_refused⟩)
    (c_law_refused : PySem.W.codeIn K cd_law_refused "_law_refused" = true)
    (k_law_refused : PySem.W.keepIn K (.ref a_law_refused) = true)
    (n_law_field : PySem.W.nsIn K mainGlobals "_law_field" = some (some (.ref a_law_field)))
    (l_law_field : K.lookup a_law_field = some ⟨oc_law_field, od_law_field, .func (PySem.W.fnOf "_law_field" "_law_field" (defArgs s_law_field) (defBody s_law_field) (defScope s_law_field) .none kV_law_field dc_law_field pm_law_field an_law_field cd_law_field ct_law_field), sl_law_field⟩)
    (c_law_field : PySem.W.codeIn K cd_law_field "_law_field" = true)
    (k_law_field : PySem.W.keepIn K (.ref a_law_field) = true)
    (n_law_picking : PySem.W.nsIn K mainGlobals "_law_picking" = some (some (.ref a_law_picking)))
    (l_law_picking : K.lookup a_law_picking = some ⟨oc_law_picking, od_law_picking, .func (PySem.W.fnOf "_law_picking" "_law_picking" (defArgs s_law_picking) (defBody s_law_picking) (defScope s_law_picking) .none kV_law_picking dc_law_picking pm_law_picking an_law_picking cd_law_picking ct_law_picking), sl_law_picking⟩)
    (c_law_picking : PySem.W.codeIn K cd_law_picking "_law_picking" = true)
    (k_law_picking : PySem.W.keepIn K (.ref a_law_picking) = true)
    (n_law : PySem.W.nsIn K mainGlobals "law" = some (some (.ref a_law)))
    (l_law : K.lookup a_law = some ⟨oc_law, od_law, .func (PySem.W.fnOf "law" "law" (defArgs s_law) (defBody s_law) (defScope s_law) .none kV_law dc_law pm_law an_law cd_law ct_law), sl_law⟩)
    (c_law : PySem.W.codeIn K cd_law "law" = true)
    (k_law : PySem.W.keepIn K (.ref a_law) = true)
    (z_isinstance : PySem.W.nsIn K mainGlobals "isinstance" = some none)
    (z_int : PySem.W.nsIn K mainGlobals "int" = some none)
    (z_bool : PySem.W.nsIn K mainGlobals "bool" = some none)
    (z_abs : PySem.W.nsIn K mainGlobals "abs" = some none)
    (z_tuple : PySem.W.nsIn K mainGlobals "tuple" = some none)
    (z_len : PySem.W.nsIn K mainGlobals "len" = some none)
    {tk_c_GREATEST_PRIME : Tok} (c_GREATEST_PRIME : PySem.W.nsIn K mainGlobals "GREATEST_PRIME" = some (some (.int 1000000 tk_c_GREATEST_PRIME)))
    (z_max : PySem.W.nsIn K mainGlobals "max" = some none)
    (z_ValueError : PySem.W.nsIn K mainGlobals "ValueError" = some none)
    (z_range : PySem.W.nsIn K mainGlobals "range" = some none)
    (k_ii : PySem.W.kitOne K (.type "int") (.type "int") = some true)
    (k_ib : PySem.W.kitOne K (.type "int") (.type "bool") = some false)
    (k_tt : PySem.W.kitOne K (.type "tuple") (.type "tuple") = some true)
    (k_bb : PySem.W.kitOne K (.type "bool") (.type "bool") = some true)
    (nP : PySem.W.findIn K (.ref a_Residues) "prime" = some none)
    (iF_is_field : PySem.W.findIn K (.ref a_Fractions) "is_field" = some (some (.ref a_Field_is_field)))
    (iF_picks : PySem.W.findIn K (.ref a_Fractions) "picks" = some (some (.ref a_Field_picks)))
    (iR_is_field : PySem.W.findIn K (.ref a_Residues) "is_field" = some (some (.ref a_Field_is_field)))
    (iR_picks : PySem.W.findIn K (.ref a_Residues) "picks" = some (some (.ref a_Field_picks)))
    (iC_is_field : PySem.W.findIn K (.ref a_Costs) "is_field" = some (some (.ref a_Picking_is_field)))
    (iC_picks : PySem.W.findIn K (.ref a_Costs) "picks" = some (some (.ref a_Picking_picks)))
    (iC_minus : PySem.W.findIn K (.ref a_Costs) "minus" = some (some (.ref a_Picking_minus)))
    (iC_inverse : PySem.W.findIn K (.ref a_Costs) "inverse" = some (some (.ref a_Picking_inverse)))
    (iT_is_field : PySem.W.findIn K (.ref a_Truths) "is_field" = some (some (.ref a_Picking_is_field)))
    (iT_picks : PySem.W.findIn K (.ref a_Truths) "picks" = some (some (.ref a_Picking_picks)))
    (iT_minus : PySem.W.findIn K (.ref a_Truths) "minus" = some (some (.ref a_Picking_minus)))
    (iT_inverse : PySem.W.findIn K (.ref a_Truths) "inverse" = some (some (.ref a_Picking_inverse)))
    (e_W : PySem.W.exmOne K (.ref a_WrongKind) (.ref a_WeighError) = some true)
    (e_N : PySem.W.exmOne K (.ref a_NoWeight) (.ref a_WeighError) = some true)
    (k_WW : PySem.W.kitOne K (.ref a_WrongKind) (.ref a_WrongKind) = some true)
    (k_WN : PySem.W.kitOne K (.ref a_WrongKind) (.ref a_NoWeight) = some false)
    (k_WV : PySem.W.kitOne K (.ref a_WrongKind) (.type "ValueError") = some true)
    (k_NW : PySem.W.kitOne K (.ref a_NoWeight) (.ref a_WrongKind) = some false)
    (k_NN : PySem.W.kitOne K (.ref a_NoWeight) (.ref a_NoWeight) = some true)
    (k_NV : PySem.W.kitOne K (.ref a_NoWeight) (.type "ValueError") = some true)
    : ∃ t : Adr, Txt K mg t :=
  ⟨{ is_whole := a_is_whole, d_is_whole := PySem.W.fnOf "is_whole" "is_whole" (defArgs s_is_whole) (defBody s_is_whole) (defScope s_is_whole) .none kV_is_whole dc_is_whole pm_is_whole an_is_whole cd_is_whole ct_is_whole, divisor := a_divisor, d_divisor := PySem.W.fnOf "divisor" "divisor" (defArgs s_divisor) (defBody s_divisor) (defScope s_divisor) .none kV_divisor dc_divisor pm_divisor an_divisor cd_divisor ct_divisor, fraction := a_fraction, d_fraction := PySem.W.fnOf "fraction" "fraction" (defArgs s_fraction) (defBody s_fraction) (defScope s_fraction) .none kV_fraction dc_fraction pm_fraction an_fraction cd_fraction ct_fraction, is_prime := a_is_prime, d_is_prime := PySem.W.fnOf "is_prime" "is_prime" (defArgs s_is_prime) (defBody s_is_prime) (defScope s_is_prime) .none kV_is_prime dc_is_prime pm_is_prime an_is_prime cd_is_prime ct_is_prime, Field_is_field := a_Field_is_field, d_Field_is_field := PySem.W.fnOf "is_field" "Field.is_field" (defArgs s_Field_is_field) (defBody s_Field_is_field) (defScope s_Field_is_field) .none kV_Field_is_field dc_Field_is_field pm_Field_is_field an_Field_is_field cd_Field_is_field ct_Field_is_field, Field_picks := a_Field_picks, d_Field_picks := PySem.W.fnOf "picks" "Field.picks" (defArgs s_Field_picks) (defBody s_Field_picks) (defScope s_Field_picks) .none kV_Field_picks dc_Field_picks pm_Field_picks an_Field_picks cd_Field_picks ct_Field_picks, Picking_is_field := a_Picking_is_field, d_Picking_is_field := PySem.W.fnOf "is_field" "Picking.is_field" (defArgs s_Picking_is_field) (defBody s_Picking_is_field) (defScope s_Picking_is_field) .none kV_Picking_is_field dc_Picking_is_field pm_Picking_is_field an_Picking_is_field cd_Picking_is_field ct_Picking_is_field, Picking_picks := a_Picking_picks, d_Picking_picks := PySem.W.fnOf "picks" "Picking.picks" (defArgs s_Picking_picks) (defBody s_Picking_picks) (defScope s_Picking_picks) .none kV_Picking_picks dc_Picking_picks pm_Picking_picks an_Picking_picks cd_Picking_picks ct_Picking_picks, Picking_minus := a_Picking_minus, d_Picking_minus := PySem.W.fnOf "minus" "Picking.minus" (defArgs s_Picking_minus) (defBody s_Picking_minus) (defScope s_Picking_minus) .none kV_Picking_minus dc_Picking_minus pm_Picking_minus an_Picking_minus cd_Picking_minus ct_Picking_minus, Picking_inverse := a_Picking_inverse, d_Picking_inverse := PySem.W.fnOf "inverse" "Picking.inverse" (defArgs s_Picking_inverse) (defBody s_Picking_inverse) (defScope s_Picking_inverse) .none kV_Picking_inverse dc_Picking_inverse pm_Picking_inverse an_Picking_inverse cd_Picking_inverse ct_Picking_inverse, Fractions_nought := a_Fractions_nought, d_Fractions_nought := PySem.W.fnOf "nought" "Fractions.nought" (defArgs s_Fractions_nought) (defBody s_Fractions_nought) (defScope s_Fractions_nought) .none kV_Fractions_nought dc_Fractions_nought pm_Fractions_nought an_Fractions_nought cd_Fractions_nought ct_Fractions_nought, Fractions_one := a_Fractions_one, d_Fractions_one := PySem.W.fnOf "one" "Fractions.one" (defArgs s_Fractions_one) (defBody s_Fractions_one) (defScope s_Fractions_one) .none kV_Fractions_one dc_Fractions_one pm_Fractions_one an_Fractions_one cd_Fractions_one ct_Fractions_one, Fractions_plus := a_Fractions_plus, d_Fractions_plus := PySem.W.fnOf "plus" "Fractions.plus" (defArgs s_Fractions_plus) (defBody s_Fractions_plus) (defScope s_Fractions_plus) .none kV_Fractions_plus dc_Fractions_plus pm_Fractions_plus an_Fractions_plus cd_Fractions_plus ct_Fractions_plus, Fractions_times := a_Fractions_times, d_Fractions_times := PySem.W.fnOf "times" "Fractions.times" (defArgs s_Fractions_times) (defBody s_Fractions_times) (defScope s_Fractions_times) .none kV_Fractions_times dc_Fractions_times pm_Fractions_times an_Fractions_times cd_Fractions_times ct_Fractions_times, Fractions_minus := a_Fractions_minus, d_Fractions_minus := PySem.W.fnOf "minus" "Fractions.minus" (defArgs s_Fractions_minus) (defBody s_Fractions_minus) (defScope s_Fractions_minus) .none kV_Fractions_minus dc_Fractions_minus pm_Fractions_minus an_Fractions_minus cd_Fractions_minus ct_Fractions_minus, Fractions_inverse := a_Fractions_inverse, d_Fractions_inverse := PySem.W.fnOf "inverse" "Fractions.inverse" (defArgs s_Fractions_inverse) (defBody s_Fractions_inverse) (defScope s_Fractions_inverse) .none kV_Fractions_inverse dc_Fractions_inverse pm_Fractions_inverse an_Fractions_inverse cd_Fractions_inverse ct_Fractions_inverse, Fractions_is_weight := a_Fractions_is_weight, d_Fractions_is_weight := PySem.W.fnOf "is_weight" "Fractions.is_weight" (defArgs s_Fractions_is_weight) (defBody s_Fractions_is_weight) (defScope s_Fractions_is_weight) .none kV_Fractions_is_weight dc_Fractions_is_weight pm_Fractions_is_weight an_Fractions_is_weight cd_Fractions_is_weight ct_Fractions_is_weight, Residues___init__ := a_Residues___init__, d_Residues___init__ := PySem.W.fnOf "__init__" "Residues.__init__" (defArgs s_Residues___init__) (defBody s_Residues___init__) (defScope s_Residues___init__) .none kV_Residues___init__ dc_Residues___init__ pm_Residues___init__ an_Residues___init__ cd_Residues___init__ ct_Residues___init__, Residues_nought := a_Residues_nought, d_Residues_nought := PySem.W.fnOf "nought" "Residues.nought" (defArgs s_Residues_nought) (defBody s_Residues_nought) (defScope s_Residues_nought) .none kV_Residues_nought dc_Residues_nought pm_Residues_nought an_Residues_nought cd_Residues_nought ct_Residues_nought, Residues_one := a_Residues_one, d_Residues_one := PySem.W.fnOf "one" "Residues.one" (defArgs s_Residues_one) (defBody s_Residues_one) (defScope s_Residues_one) .none kV_Residues_one dc_Residues_one pm_Residues_one an_Residues_one cd_Residues_one ct_Residues_one, Residues_plus := a_Residues_plus, d_Residues_plus := PySem.W.fnOf "plus" "Residues.plus" (defArgs s_Residues_plus) (defBody s_Residues_plus) (defScope s_Residues_plus) .none kV_Residues_plus dc_Residues_plus pm_Residues_plus an_Residues_plus cd_Residues_plus ct_Residues_plus, Residues_times := a_Residues_times, d_Residues_times := PySem.W.fnOf "times" "Residues.times" (defArgs s_Residues_times) (defBody s_Residues_times) (defScope s_Residues_times) .none kV_Residues_times dc_Residues_times pm_Residues_times an_Residues_times cd_Residues_times ct_Residues_times, Residues_minus := a_Residues_minus, d_Residues_minus := PySem.W.fnOf "minus" "Residues.minus" (defArgs s_Residues_minus) (defBody s_Residues_minus) (defScope s_Residues_minus) .none kV_Residues_minus dc_Residues_minus pm_Residues_minus an_Residues_minus cd_Residues_minus ct_Residues_minus, Residues_inverse := a_Residues_inverse, d_Residues_inverse := PySem.W.fnOf "inverse" "Residues.inverse" (defArgs s_Residues_inverse) (defBody s_Residues_inverse) (defScope s_Residues_inverse) .none kV_Residues_inverse dc_Residues_inverse pm_Residues_inverse an_Residues_inverse cd_Residues_inverse ct_Residues_inverse, Residues_is_weight := a_Residues_is_weight, d_Residues_is_weight := PySem.W.fnOf "is_weight" "Residues.is_weight" (defArgs s_Residues_is_weight) (defBody s_Residues_is_weight) (defScope s_Residues_is_weight) .none kV_Residues_is_weight dc_Residues_is_weight pm_Residues_is_weight an_Residues_is_weight cd_Residues_is_weight ct_Residues_is_weight, Costs_nought := a_Costs_nought, d_Costs_nought := PySem.W.fnOf "nought" "Costs.nought" (defArgs s_Costs_nought) (defBody s_Costs_nought) (defScope s_Costs_nought) .none kV_Costs_nought dc_Costs_nought pm_Costs_nought an_Costs_nought cd_Costs_nought ct_Costs_nought, Truths_nought := a_Truths_nought, d_Truths_nought := PySem.W.fnOf "nought" "Truths.nought" (defArgs s_Truths_nought) (defBody s_Truths_nought) (defScope s_Truths_nought) .none kV_Truths_nought dc_Truths_nought pm_Truths_nought an_Truths_nought cd_Truths_nought ct_Truths_nought, law_divisor := a_law_divisor, d_law_divisor := PySem.W.fnOf "_law_divisor" "_law_divisor" (defArgs s_law_divisor) (defBody s_law_divisor) (defScope s_law_divisor) .none kV_law_divisor dc_law_divisor pm_law_divisor an_law_divisor cd_law_divisor ct_law_divisor, law_low := a_law_low, d_law_low := PySem.W.fnOf "_law_low" "_law_low" (defArgs s_law_low) (defBody s_law_low) (defScope s_law_low) .none kV_law_low dc_law_low pm_law_low an_law_low cd_law_low ct_law_low, law_number := a_law_number, d_law_number := PySem.W.fnOf "_law_number" "_law_number" (defArgs s_law_number) (defBody s_law_number) (defScope s_law_number) .none kV_law_number dc_law_number pm_law_number an_law_number cd_law_number ct_law_number, law_weight := a_law_weight, d_law_weight := PySem.W.fnOf "_law_weight" "_law_weight" (defArgs s_law_weight) (defBody s_law_weight) (defScope s_law_weight) .none kV_law_weight dc_law_weight pm_law_weight an_law_weight cd_law_weight ct_law_weight, law_refused := a_law_refused, d_law_refused := PySem.W.fnOf "_law_refused" "_law_refused" (defArgs s_law_refused) (defBody s_law_refused) (defScope s_law_refused) .none kV_law_refused dc_law_refused pm_law_refused an_law_refused cd_law_refused ct_law_refused, law_field := a_law_field, d_law_field := PySem.W.fnOf "_law_field" "_law_field" (defArgs s_law_field) (defBody s_law_field) (defScope s_law_field) .none kV_law_field dc_law_field pm_law_field an_law_field cd_law_field ct_law_field, law_picking := a_law_picking, d_law_picking := PySem.W.fnOf "_law_picking" "_law_picking" (defArgs s_law_picking) (defBody s_law_picking) (defScope s_law_picking) .none kV_law_picking dc_law_picking pm_law_picking an_law_picking cd_law_picking ct_law_picking, law := a_law, d_law := PySem.W.fnOf "law" "law" (defArgs s_law) (defBody s_law) (defScope s_law) .none kV_law dc_law pm_law an_law cd_law ct_law, Field := a_Field, Picking := a_Picking, Fractions := a_Fractions, Residues := a_Residues, Costs := a_Costs, Truths := a_Truths, WeighError := a_WeighError, WrongKind := a_WrongKind, NoWeight := a_NoWeight },
    { F_is_whole := fun_mk (st := s_is_whole) l_is_whole c_is_whole k_is_whole,
      b_is_whole := (fun_mk (st := s_is_whole) l_is_whole c_is_whole k_is_whole).binds (ps := ["thing"]) fun _ _ _ _ _ _ us hl => match us, hl with | [_], _ => rfl,
      m_is_whole := PySem.W.mg_of X G n_is_whole,
      F_divisor := fun_mk (st := s_divisor) l_divisor c_divisor k_divisor,
      b_divisor := (fun_mk (st := s_divisor) l_divisor c_divisor k_divisor).binds (ps := ["one", "other"]) fun _ _ _ _ _ _ us hl => match us, hl with | [_, _], _ => rfl,
      m_divisor := PySem.W.mg_of X G n_divisor,
      F_fraction := fun_mk (st := s_fraction) l_fraction c_fraction k_fraction,
      b_fraction := (fun_mk (st := s_fraction) l_fraction c_fraction k_fraction).binds (ps := ["top", "bottom"]) fun _ _ _ _ _ _ us hl => match us, hl with | [_, _], _ => rfl,
      m_fraction := PySem.W.mg_of X G n_fraction,
      F_is_prime := fun_mk (st := s_is_prime) l_is_prime c_is_prime k_is_prime,
      b_is_prime := (fun_mk (st := s_is_prime) l_is_prime c_is_prime k_is_prime).binds (ps := ["number"]) fun _ _ _ _ _ _ us hl => match us, hl with | [_], _ => rfl,
      m_is_prime := PySem.W.mg_of X G n_is_prime,
      F_Field_is_field := fun_mk (st := s_Field_is_field) l_Field_is_field c_Field_is_field k_Field_is_field,
      b_Field_is_field := (fun_mk (st := s_Field_is_field) l_Field_is_field c_Field_is_field k_Field_is_field).binds (ps := ["self"]) fun _ _ _ _ _ _ us hl => match us, hl with | [_], _ => rfl,
      t_Field_is_field := ⟨n_Field_is_field, i_Field_is_field, k_Field_is_field⟩,
      F_Field_picks := fun_mk (st := s_Field_picks) l_Field_picks c_Field_picks k_Field_picks,
      b_Field_picks := (fun_mk (st := s_Field_picks) l_Field_picks c_Field_picks k_Field_picks).binds (ps := ["self"]) fun _ _ _ _ _ _ us hl => match us, hl with | [_], _ => rfl,
      t_Field_picks := ⟨n_Field_picks, i_Field_picks, k_Field_picks⟩,
      F_Picking_is_field := fun_mk (st := s_Picking_is_field) l_Picking_is_field c_Picking_is_field k_Picking_is_field,
      b_Picking_is_field := (fun_mk (st := s_Picking_is_field) l_Picking_is_field c_Picking_is_field k_Picking_is_field).binds (ps := ["self"]) fun _ _ _ _ _ _ us hl => match us, hl with | [_], _ => rfl,
      t_Picking_is_field := ⟨n_Picking_is_field, i_Picking_is_field, k_Picking_is_field⟩,
      F_Picking_picks := fun_mk (st := s_Picking_picks) l_Picking_picks c_Picking_picks k_Picking_picks,
      b_Picking_picks := (fun_mk (st := s_Picking_picks) l_Picking_picks c_Picking_picks k_Picking_picks).binds (ps := ["self"]) fun _ _ _ _ _ _ us hl => match us, hl with | [_], _ => rfl,
      t_Picking_picks := ⟨n_Picking_picks, i_Picking_picks, k_Picking_picks⟩,
      F_Picking_minus := fun_mk (st := s_Picking_minus) l_Picking_minus c_Picking_minus k_Picking_minus,
      b_Picking_minus := (fun_mk (st := s_Picking_minus) l_Picking_minus c_Picking_minus k_Picking_minus).binds (ps := ["self", "x"]) fun _ _ _ _ _ _ us hl => match us, hl with | [_, _], _ => rfl,
      t_Picking_minus := ⟨n_Picking_minus, i_Picking_minus, k_Picking_minus⟩,
      F_Picking_inverse := fun_mk (st := s_Picking_inverse) l_Picking_inverse c_Picking_inverse k_Picking_inverse,
      b_Picking_inverse := (fun_mk (st := s_Picking_inverse) l_Picking_inverse c_Picking_inverse k_Picking_inverse).binds (ps := ["self", "x"]) fun _ _ _ _ _ _ us hl => match us, hl with | [_, _], _ => rfl,
      t_Picking_inverse := ⟨n_Picking_inverse, i_Picking_inverse, k_Picking_inverse⟩,
      F_Fractions_nought := fun_mk (st := s_Fractions_nought) l_Fractions_nought c_Fractions_nought k_Fractions_nought,
      b_Fractions_nought := (fun_mk (st := s_Fractions_nought) l_Fractions_nought c_Fractions_nought k_Fractions_nought).binds (ps := ["self"]) fun _ _ _ _ _ _ us hl => match us, hl with | [_], _ => rfl,
      t_Fractions_nought := ⟨n_Fractions_nought, i_Fractions_nought, k_Fractions_nought⟩,
      F_Fractions_one := fun_mk (st := s_Fractions_one) l_Fractions_one c_Fractions_one k_Fractions_one,
      b_Fractions_one := (fun_mk (st := s_Fractions_one) l_Fractions_one c_Fractions_one k_Fractions_one).binds (ps := ["self"]) fun _ _ _ _ _ _ us hl => match us, hl with | [_], _ => rfl,
      t_Fractions_one := ⟨n_Fractions_one, i_Fractions_one, k_Fractions_one⟩,
      F_Fractions_plus := fun_mk (st := s_Fractions_plus) l_Fractions_plus c_Fractions_plus k_Fractions_plus,
      b_Fractions_plus := (fun_mk (st := s_Fractions_plus) l_Fractions_plus c_Fractions_plus k_Fractions_plus).binds (ps := ["self", "x", "y"]) fun _ _ _ _ _ _ us hl => match us, hl with | [_, _, _], _ => rfl,
      t_Fractions_plus := ⟨n_Fractions_plus, i_Fractions_plus, k_Fractions_plus⟩,
      F_Fractions_times := fun_mk (st := s_Fractions_times) l_Fractions_times c_Fractions_times k_Fractions_times,
      b_Fractions_times := (fun_mk (st := s_Fractions_times) l_Fractions_times c_Fractions_times k_Fractions_times).binds (ps := ["self", "x", "y"]) fun _ _ _ _ _ _ us hl => match us, hl with | [_, _, _], _ => rfl,
      t_Fractions_times := ⟨n_Fractions_times, i_Fractions_times, k_Fractions_times⟩,
      F_Fractions_minus := fun_mk (st := s_Fractions_minus) l_Fractions_minus c_Fractions_minus k_Fractions_minus,
      b_Fractions_minus := (fun_mk (st := s_Fractions_minus) l_Fractions_minus c_Fractions_minus k_Fractions_minus).binds (ps := ["self", "x"]) fun _ _ _ _ _ _ us hl => match us, hl with | [_, _], _ => rfl,
      t_Fractions_minus := ⟨n_Fractions_minus, i_Fractions_minus, k_Fractions_minus⟩,
      F_Fractions_inverse := fun_mk (st := s_Fractions_inverse) l_Fractions_inverse c_Fractions_inverse k_Fractions_inverse,
      b_Fractions_inverse := (fun_mk (st := s_Fractions_inverse) l_Fractions_inverse c_Fractions_inverse k_Fractions_inverse).binds (ps := ["self", "x"]) fun _ _ _ _ _ _ us hl => match us, hl with | [_, _], _ => rfl,
      t_Fractions_inverse := ⟨n_Fractions_inverse, i_Fractions_inverse, k_Fractions_inverse⟩,
      F_Fractions_is_weight := fun_mk (st := s_Fractions_is_weight) l_Fractions_is_weight c_Fractions_is_weight k_Fractions_is_weight,
      b_Fractions_is_weight := (fun_mk (st := s_Fractions_is_weight) l_Fractions_is_weight c_Fractions_is_weight k_Fractions_is_weight).binds (ps := ["self", "thing"]) fun _ _ _ _ _ _ us hl => match us, hl with | [_, _], _ => rfl,
      t_Fractions_is_weight := ⟨n_Fractions_is_weight, i_Fractions_is_weight, k_Fractions_is_weight⟩,
      F_Residues___init__ := fun_mk (st := s_Residues___init__) l_Residues___init__ c_Residues___init__ k_Residues___init__,
      b_Residues___init__ := (fun_mk (st := s_Residues___init__) l_Residues___init__ c_Residues___init__ k_Residues___init__).binds (ps := ["self", "prime"]) fun _ _ _ _ _ _ us hl => match us, hl with | [_, _], _ => rfl,
      t_Residues___init__ := ⟨n_Residues___init__, i_Residues___init__, k_Residues___init__⟩,
      F_Residues_nought := fun_mk (st := s_Residues_nought) l_Residues_nought c_Residues_nought k_Residues_nought,
      b_Residues_nought := (fun_mk (st := s_Residues_nought) l_Residues_nought c_Residues_nought k_Residues_nought).binds (ps := ["self"]) fun _ _ _ _ _ _ us hl => match us, hl with | [_], _ => rfl,
      t_Residues_nought := ⟨n_Residues_nought, i_Residues_nought, k_Residues_nought⟩,
      F_Residues_one := fun_mk (st := s_Residues_one) l_Residues_one c_Residues_one k_Residues_one,
      b_Residues_one := (fun_mk (st := s_Residues_one) l_Residues_one c_Residues_one k_Residues_one).binds (ps := ["self"]) fun _ _ _ _ _ _ us hl => match us, hl with | [_], _ => rfl,
      t_Residues_one := ⟨n_Residues_one, i_Residues_one, k_Residues_one⟩,
      F_Residues_plus := fun_mk (st := s_Residues_plus) l_Residues_plus c_Residues_plus k_Residues_plus,
      b_Residues_plus := (fun_mk (st := s_Residues_plus) l_Residues_plus c_Residues_plus k_Residues_plus).binds (ps := ["self", "x", "y"]) fun _ _ _ _ _ _ us hl => match us, hl with | [_, _, _], _ => rfl,
      t_Residues_plus := ⟨n_Residues_plus, i_Residues_plus, k_Residues_plus⟩,
      F_Residues_times := fun_mk (st := s_Residues_times) l_Residues_times c_Residues_times k_Residues_times,
      b_Residues_times := (fun_mk (st := s_Residues_times) l_Residues_times c_Residues_times k_Residues_times).binds (ps := ["self", "x", "y"]) fun _ _ _ _ _ _ us hl => match us, hl with | [_, _, _], _ => rfl,
      t_Residues_times := ⟨n_Residues_times, i_Residues_times, k_Residues_times⟩,
      F_Residues_minus := fun_mk (st := s_Residues_minus) l_Residues_minus c_Residues_minus k_Residues_minus,
      b_Residues_minus := (fun_mk (st := s_Residues_minus) l_Residues_minus c_Residues_minus k_Residues_minus).binds (ps := ["self", "x"]) fun _ _ _ _ _ _ us hl => match us, hl with | [_, _], _ => rfl,
      t_Residues_minus := ⟨n_Residues_minus, i_Residues_minus, k_Residues_minus⟩,
      F_Residues_inverse := fun_mk (st := s_Residues_inverse) l_Residues_inverse c_Residues_inverse k_Residues_inverse,
      b_Residues_inverse := (fun_mk (st := s_Residues_inverse) l_Residues_inverse c_Residues_inverse k_Residues_inverse).binds (ps := ["self", "x"]) fun _ _ _ _ _ _ us hl => match us, hl with | [_, _], _ => rfl,
      t_Residues_inverse := ⟨n_Residues_inverse, i_Residues_inverse, k_Residues_inverse⟩,
      F_Residues_is_weight := fun_mk (st := s_Residues_is_weight) l_Residues_is_weight c_Residues_is_weight k_Residues_is_weight,
      b_Residues_is_weight := (fun_mk (st := s_Residues_is_weight) l_Residues_is_weight c_Residues_is_weight k_Residues_is_weight).binds (ps := ["self", "thing"]) fun _ _ _ _ _ _ us hl => match us, hl with | [_, _], _ => rfl,
      t_Residues_is_weight := ⟨n_Residues_is_weight, i_Residues_is_weight, k_Residues_is_weight⟩,
      F_Costs_nought := fun_mk (st := s_Costs_nought) l_Costs_nought c_Costs_nought k_Costs_nought,
      b_Costs_nought := (fun_mk (st := s_Costs_nought) l_Costs_nought c_Costs_nought k_Costs_nought).binds (ps := ["self"]) fun _ _ _ _ _ _ us hl => match us, hl with | [_], _ => rfl,
      t_Costs_nought := ⟨n_Costs_nought, i_Costs_nought, k_Costs_nought⟩,
      F_Truths_nought := fun_mk (st := s_Truths_nought) l_Truths_nought c_Truths_nought k_Truths_nought,
      b_Truths_nought := (fun_mk (st := s_Truths_nought) l_Truths_nought c_Truths_nought k_Truths_nought).binds (ps := ["self"]) fun _ _ _ _ _ _ us hl => match us, hl with | [_], _ => rfl,
      t_Truths_nought := ⟨n_Truths_nought, i_Truths_nought, k_Truths_nought⟩,
      F_law_divisor := fun_mk (st := s_law_divisor) l_law_divisor c_law_divisor k_law_divisor,
      b_law_divisor := (fun_mk (st := s_law_divisor) l_law_divisor c_law_divisor k_law_divisor).binds (ps := ["_law_one", "_law_other"]) fun _ _ _ _ _ _ us hl => match us, hl with | [_, _], _ => rfl,
      m_law_divisor := PySem.W.mg_of X G n_law_divisor,
      F_law_low := fun_mk (st := s_law_low) l_law_low c_law_low k_law_low,
      b_law_low := (fun_mk (st := s_law_low) l_law_low c_law_low k_law_low).binds (ps := ["_law_top", "_law_bottom"]) fun _ _ _ _ _ _ us hl => match us, hl with | [_, _], _ => rfl,
      m_law_low := PySem.W.mg_of X G n_law_low,
      F_law_number := fun_mk (st := s_law_number) l_law_number c_law_number k_law_number,
      b_law_number := (fun_mk (st := s_law_number) l_law_number c_law_number k_law_number).binds (ps := ["_law_cell"]) fun _ _ _ _ _ _ us hl => match us, hl with | [_], _ => rfl,
      m_law_number := PySem.W.mg_of X G n_law_number,
      F_law_weight := fun_mk (st := s_law_weight) l_law_weight c_law_weight k_law_weight,
      b_law_weight := (fun_mk (st := s_law_weight) l_law_weight c_law_weight k_law_weight).binds (ps := ["_law_way", "_law_prime", "_law_cell"]) fun _ _ _ _ _ _ us hl => match us, hl with | [_, _, _], _ => rfl,
      m_law_weight := PySem.W.mg_of X G n_law_weight,
      F_law_refused := fun_mk (st := s_law_refused) l_law_refused c_law_refused k_law_refused,
      b_law_refused := (fun_mk (st := s_law_refused) l_law_refused c_law_refused k_law_refused).binds (ps := ["_law_kind", "_law_is_minus", "_law_x"]) fun _ _ _ _ _ _ us hl => match us, hl with | [_, _, _], _ => rfl,
      m_law_refused := PySem.W.mg_of X G n_law_refused,
      F_law_field := fun_mk (st := s_law_field) l_law_field c_law_field k_law_field,
      b_law_field := (fun_mk (st := s_law_field) l_law_field c_law_field k_law_field).binds (ps := ["_law_kind", "_law_x"]) fun _ _ _ _ _ _ us hl => match us, hl with | [_, _], _ => rfl,
      m_law_field := PySem.W.mg_of X G n_law_field,
      F_law_picking := fun_mk (st := s_law_picking) l_law_picking c_law_picking k_law_picking,
      b_law_picking := (fun_mk (st := s_law_picking) l_law_picking c_law_picking k_law_picking).binds (ps := ["_law_kind", "_law_x"]) fun _ _ _ _ _ _ us hl => match us, hl with | [_, _], _ => rfl,
      m_law_picking := PySem.W.mg_of X G n_law_picking,
      F_law := fun_mk (st := s_law) l_law c_law k_law,
      b_law := (fun_mk (st := s_law) l_law c_law k_law).binds (ps := ["_law_script"]) fun _ _ _ _ _ _ us hl => match us, hl with | [_], _ => rfl,
      m_law := PySem.W.mg_of X G n_law,
      C_Field := ⟨pg_Field, hd_Field, po_Field, sa_Field⟩,
      m_Field := PySem.W.mg_of X G n_Field,
      M_Field := ⟨mk_Field, in_Field, kp_Field⟩,
      C_Picking := ⟨pg_Picking, hd_Picking, po_Picking, sa_Picking⟩,
      m_Picking := PySem.W.mg_of X G n_Picking,
      M_Picking := ⟨mk_Picking, in_Picking, kp_Picking⟩,
      C_Fractions := ⟨pg_Fractions, hd_Fractions, po_Fractions, sa_Fractions⟩,
      m_Fractions := PySem.W.mg_of X G n_Fractions,
      M_Fractions := ⟨mk_Fractions, in_Fractions, kp_Fractions⟩,
      C_Residues := ⟨pg_Residues, hd_Residues, po_Residues, sa_Residues⟩,
      m_Residues := PySem.W.mg_of X G n_Residues,
      M_Residues := ⟨mk_Residues, n_Residues___init__, i_Residues___init__, kp_Residues⟩,
      C_Costs := ⟨pg_Costs, hd_Costs, po_Costs, sa_Costs⟩,
      m_Costs := PySem.W.mg_of X G n_Costs,
      M_Costs := ⟨mk_Costs, in_Costs, kp_Costs⟩,
      C_Truths := ⟨pg_Truths, hd_Truths, po_Truths, sa_Truths⟩,
      m_Truths := PySem.W.mg_of X G n_Truths,
      M_Truths := ⟨mk_Truths, in_Truths, kp_Truths⟩,
      m_WeighError := PySem.W.mg_of X G n_WeighError,
      x_WeighError := x_WeighError,
      m_WrongKind := PySem.W.mg_of X G n_WrongKind,
      x_WrongKind := x_WrongKind,
      m_NoWeight := PySem.W.mg_of X G n_NoWeight,
      x_NoWeight := x_NoWeight,
      z_isinstance := PySem.W.mg_none_of X G z_isinstance,
      z_int := PySem.W.mg_none_of X G z_int,
      z_bool := PySem.W.mg_none_of X G z_bool,
      z_abs := PySem.W.mg_none_of X G z_abs,
      z_tuple := PySem.W.mg_none_of X G z_tuple,
      z_len := PySem.W.mg_none_of X G z_len,
      c_GREATEST_PRIME := ⟨_, PySem.W.mg_of X G c_GREATEST_PRIME⟩,
      z_max := PySem.W.mg_none_of X G z_max,
      z_ValueError := PySem.W.mg_none_of X G z_ValueError,
      z_range := PySem.W.mg_none_of X G z_range,
      k_ii := k_ii,
      k_ib := k_ib,
      k_tt := k_tt,
      k_bb := k_bb,
      nP := nP,
      iF_is_field := iF_is_field,
      iF_picks := iF_picks,
      iR_is_field := iR_is_field,
      iR_picks := iR_picks,
      iC_is_field := iC_is_field,
      iC_picks := iC_picks,
      iC_minus := iC_minus,
      iC_inverse := iC_inverse,
      iT_is_field := iT_is_field,
      iT_picks := iT_picks,
      iT_minus := iT_minus,
      iT_inverse := iT_inverse,
      e_W := e_W,
      e_N := e_N,
      k_WW := k_WW,
      k_WN := k_WN,
      k_WV := k_WV,
      k_NW := k_NW,
      k_NN := k_NN,
      k_NV := k_NV }⟩
end K06
open PySem PySem.W PyProof.Rows
set_option maxRecDepth 100000 in
set_option maxHeartbeats 0 in
theorem PySem.Challenge.cw_weighwalk_k06_minus_and_inverses_holds : PySem.Challenge.rw_weighwalk_k06_minus_and_inverses.Holds := by
  w_on; o_law
  refine H06.holds_ (by assumption) ?hw ?hc
  (case hw => w_witness2)
  unfold H06.hook
  k_fill
  refine L2.walk_ofK (l := PySem.Challenge.rw_weighwalk_k06_minus_and_inverses) (n := 63) (k := 7) (x := "_law_script") (CX := L2.CX0) (sp := K06.sp_law) rfl (by decide) rfl ⟨rfl, by decide, by decide⟩ (fun w h Y => PySem.W.kIn_of Y) ?F ?S ?C
  case F =>
    intro w mg fa h KX G hmg
    have T : ∃ t, K06.Txt (L2.KOf KX) mg t := by
      dsimp only [L2.KOf]
      refine' K06.txt_mk KX G ?n_Field ?pg_Field ?hd_Field ?po_Field ?sa_Field ?mk_Field ?kp_Field ?in_Field ?n_Picking ?pg_Picking ?hd_Picking ?po_Picking ?sa_Picking ?mk_Picking ?kp_Picking ?in_Picking ?n_Fractions ?pg_Fractions ?hd_Fractions ?po_Fractions ?sa_Fractions ?mk_Fractions ?kp_Fractions ?in_Fractions ?n_Residues ?pg_Residues ?hd_Residues ?po_Residues ?sa_Residues ?mk_Residues ?kp_Residues ?n_Costs ?pg_Costs ?hd_Costs ?po_Costs ?sa_Costs ?mk_Costs ?kp_Costs ?in_Costs ?n_Truths ?pg_Truths ?hd_Truths ?po_Truths ?sa_Truths ?mk_Truths ?kp_Truths ?in_Truths ?n_WeighError ?x_WeighError ?n_WrongKind ?x_WrongKind ?n_NoWeight ?x_NoWeight ?n_is_whole ?l_is_whole ?c_is_whole ?k_is_whole ?n_divisor ?l_divisor ?c_divisor ?k_divisor ?n_fraction ?l_fraction ?c_fraction ?k_fraction ?n_is_prime ?l_is_prime ?c_is_prime ?k_is_prime ?n_Field_is_field ?i_Field_is_field ?l_Field_is_field ?c_Field_is_field ?k_Field_is_field ?n_Field_picks ?i_Field_picks ?l_Field_picks ?c_Field_picks ?k_Field_picks ?n_Picking_is_field ?i_Picking_is_field ?l_Picking_is_field ?c_Picking_is_field ?k_Picking_is_field ?n_Picking_picks ?i_Picking_picks ?l_Picking_picks ?c_Picking_picks ?k_Picking_picks ?n_Picking_minus ?i_Picking_minus ?l_Picking_minus ?c_Picking_minus ?k_Picking_minus ?n_Picking_inverse ?i_Picking_inverse ?l_Picking_inverse ?c_Picking_inverse ?k_Picking_inverse ?n_Fractions_nought ?i_Fractions_nought ?l_Fractions_nought ?c_Fractions_nought ?k_Fractions_nought ?n_Fractions_one ?i_Fractions_one ?l_Fractions_one ?c_Fractions_one ?k_Fractions_one ?n_Fractions_plus ?i_Fractions_plus ?l_Fractions_plus ?c_Fractions_plus ?k_Fractions_plus ?n_Fractions_times ?i_Fractions_times ?l_Fractions_times ?c_Fractions_times ?k_Fractions_times ?n_Fractions_minus ?i_Fractions_minus ?l_Fractions_minus ?c_Fractions_minus ?k_Fractions_minus ?n_Fractions_inverse ?i_Fractions_inverse ?l_Fractions_inverse ?c_Fractions_inverse ?k_Fractions_inverse ?n_Fractions_is_weight ?i_Fractions_is_weight ?l_Fractions_is_weight ?c_Fractions_is_weight ?k_Fractions_is_weight ?n_Residues___init__ ?i_Residues___init__ ?l_Residues___init__ ?c_Residues___init__ ?k_Residues___init__ ?n_Residues_nought ?i_Residues_nought ?l_Residues_nought ?c_Residues_nought ?k_Residues_nought ?n_Residues_one ?i_Residues_one ?l_Residues_one ?c_Residues_one ?k_Residues_one ?n_Residues_plus ?i_Residues_plus ?l_Residues_plus ?c_Residues_plus ?k_Residues_plus ?n_Residues_times ?i_Residues_times ?l_Residues_times ?c_Residues_times ?k_Residues_times ?n_Residues_minus ?i_Residues_minus ?l_Residues_minus ?c_Residues_minus ?k_Residues_minus ?n_Residues_inverse ?i_Residues_inverse ?l_Residues_inverse ?c_Residues_inverse ?k_Residues_inverse ?n_Residues_is_weight ?i_Residues_is_weight ?l_Residues_is_weight ?c_Residues_is_weight ?k_Residues_is_weight ?n_Costs_nought ?i_Costs_nought ?l_Costs_nought ?c_Costs_nought ?k_Costs_nought ?n_Truths_nought ?i_Truths_nought ?l_Truths_nought ?c_Truths_nought ?k_Truths_nought ?n_law_divisor ?l_law_divisor ?c_law_divisor ?k_law_divisor ?n_law_low ?l_law_low ?c_law_low ?k_law_low ?n_law_number ?l_law_number ?c_law_number ?k_law_number ?n_law_weight ?l_law_weight ?c_law_weight ?k_law_weight ?n_law_refused ?l_law_refused ?c_law_refused ?k_law_refused ?n_law_field ?l_law_field ?c_law_field ?k_law_field ?n_law_picking ?l_law_picking ?c_law_picking ?k_law_picking ?n_law ?l_law ?c_law ?k_law ?z_isinstance ?z_int ?z_bool ?z_abs ?z_tuple ?z_len ?c_GREATEST_PRIME ?z_max ?z_ValueError ?z_range ?k_ii ?k_ib ?k_tt ?k_bb ?nP ?iF_is_field ?iF_picks ?iR_is_field ?iR_picks ?iC_is_field ?iC_picks ?iC_minus ?iC_inverse ?iT_is_field ?iT_picks ?iT_minus ?iT_inverse ?e_W ?e_N ?k_WW ?k_WN ?k_WV ?k_NW ?k_NN ?k_NV
      (case n_Field => k_is)
      (case pg_Field => k_is)
      (case hd_Field => k_is)
      (case po_Field => k_is)
      (case sa_Field => k_is)
      (case mk_Field => k_is)
      (case kp_Field => k_is)
      (case in_Field => k_is)
      (case n_Picking => k_is)
      (case pg_Picking => k_is)
      (case hd_Picking => k_is)
      (case po_Picking => k_is)
      (case sa_Picking => k_is)
      (case mk_Picking => k_is)
      (case kp_Picking => k_is)
      (case in_Picking => k_is)
      (case n_Fractions => k_is)
      (case pg_Fractions => k_is)
      (case hd_Fractions => k_is)
      (case po_Fractions => k_is)
      (case sa_Fractions => k_is)
      (case mk_Fractions => k_is)
      (case kp_Fractions => k_is)
      (case in_Fractions => k_is)
      (case n_Residues => k_is)
      (case pg_Residues => k_is)
      (case hd_Residues => k_is)
      (case po_Residues => k_is)
      (case sa_Residues => k_is)
      (case mk_Residues => k_is)
      (case kp_Residues => k_is)
      (case n_Costs => k_is)
      (case pg_Costs => k_is)
      (case hd_Costs => k_is)
      (case po_Costs => k_is)
      (case sa_Costs => k_is)
      (case mk_Costs => k_is)
      (case kp_Costs => k_is)
      (case in_Costs => k_is)
      (case n_Truths => k_is)
      (case pg_Truths => k_is)
      (case hd_Truths => k_is)
      (case po_Truths => k_is)
      (case sa_Truths => k_is)
      (case mk_Truths => k_is)
      (case kp_Truths => k_is)
      (case in_Truths => k_is)
      (case n_WeighError => k_is)
      (case x_WeighError => exact ⟨by kernel_rfl, by kernel_rfl, by kernel_rfl, by kernel_rfl, by kernel_rfl, by kernel_rfl⟩)
      (case n_WrongKind => k_is)
      (case x_WrongKind => exact ⟨by kernel_rfl, by kernel_rfl, by kernel_rfl, by kernel_rfl, by kernel_rfl, by kernel_rfl⟩)
      (case n_NoWeight => k_is)
      (case x_NoWeight => exact ⟨by kernel_rfl, by kernel_rfl, by kernel_rfl, by kernel_rfl, by kernel_rfl, by kernel_rfl⟩)
      (case n_is_whole => k_is)
      (case l_is_whole => exact H06.lk_is_whole _)
      (case c_is_whole => k_is)
      (case k_is_whole => k_is)
      (case n_divisor => k_is)
      (case l_divisor => exact H06.lk_divisor _)
      (case c_divisor => k_is)
      (case k_divisor => k_is)
      (case n_fraction => k_is)
      (case l_fraction => exact H06.lk_fraction _)
      (case c_fraction => k_is)
      (case k_fraction => k_is)
      (case n_is_prime => k_is)
      (case l_is_prime => exact H06.lk_is_prime _)
      (case c_is_prime => k_is)
      (case k_is_prime => k_is)
      (case n_Field_is_field => k_is)
      (case i_Field_is_field => k_is)
      (case l_Field_is_field => exact H06.lk_Field_is_field _)
      (case c_Field_is_field => k_is)
      (case k_Field_is_field => k_is)
      (case n_Field_picks => k_is)
      (case i_Field_picks => k_is)
      (case l_Field_picks => exact H06.lk_Field_picks _)
      (case c_Field_picks => k_is)
      (case k_Field_picks => k_is)
      (case n_Picking_is_field => k_is)
      (case i_Picking_is_field => k_is)
      (case l_Picking_is_field => exact H06.lk_Picking_is_field _)
      (case c_Picking_is_field => k_is)
      (case k_Picking_is_field => k_is)
      (case n_Picking_picks => k_is)
      (case i_Picking_picks => k_is)
      (case l_Picking_picks => exact H06.lk_Picking_picks _)
      (case c_Picking_picks => k_is)
      (case k_Picking_picks => k_is)
      (case n_Picking_minus => k_is)
      (case i_Picking_minus => k_is)
      (case l_Picking_minus => exact H06.lk_Picking_minus _)
      (case c_Picking_minus => k_is)
      (case k_Picking_minus => k_is)
      (case n_Picking_inverse => k_is)
      (case i_Picking_inverse => k_is)
      (case l_Picking_inverse => exact H06.lk_Picking_inverse _)
      (case c_Picking_inverse => k_is)
      (case k_Picking_inverse => k_is)
      (case n_Fractions_nought => k_is)
      (case i_Fractions_nought => k_is)
      (case l_Fractions_nought => exact H06.lk_Fractions_nought _)
      (case c_Fractions_nought => k_is)
      (case k_Fractions_nought => k_is)
      (case n_Fractions_one => k_is)
      (case i_Fractions_one => k_is)
      (case l_Fractions_one => exact H06.lk_Fractions_one _)
      (case c_Fractions_one => k_is)
      (case k_Fractions_one => k_is)
      (case n_Fractions_plus => k_is)
      (case i_Fractions_plus => k_is)
      (case l_Fractions_plus => exact H06.lk_Fractions_plus _)
      (case c_Fractions_plus => k_is)
      (case k_Fractions_plus => k_is)
      (case n_Fractions_times => k_is)
      (case i_Fractions_times => k_is)
      (case l_Fractions_times => exact H06.lk_Fractions_times _)
      (case c_Fractions_times => k_is)
      (case k_Fractions_times => k_is)
      (case n_Fractions_minus => k_is)
      (case i_Fractions_minus => k_is)
      (case l_Fractions_minus => exact H06.lk_Fractions_minus _)
      (case c_Fractions_minus => k_is)
      (case k_Fractions_minus => k_is)
      (case n_Fractions_inverse => k_is)
      (case i_Fractions_inverse => k_is)
      (case l_Fractions_inverse => exact H06.lk_Fractions_inverse _)
      (case c_Fractions_inverse => k_is)
      (case k_Fractions_inverse => k_is)
      (case n_Fractions_is_weight => k_is)
      (case i_Fractions_is_weight => k_is)
      (case l_Fractions_is_weight => exact H06.lk_Fractions_is_weight _)
      (case c_Fractions_is_weight => k_is)
      (case k_Fractions_is_weight => k_is)
      (case n_Residues___init__ => k_is)
      (case i_Residues___init__ => k_is)
      (case l_Residues___init__ => exact H06.lk_Residues___init__ _)
      (case c_Residues___init__ => k_is)
      (case k_Residues___init__ => k_is)
      (case n_Residues_nought => k_is)
      (case i_Residues_nought => k_is)
      (case l_Residues_nought => exact H06.lk_Residues_nought _)
      (case c_Residues_nought => k_is)
      (case k_Residues_nought => k_is)
      (case n_Residues_one => k_is)
      (case i_Residues_one => k_is)
      (case l_Residues_one => exact H06.lk_Residues_one _)
      (case c_Residues_one => k_is)
      (case k_Residues_one => k_is)
      (case n_Residues_plus => k_is)
      (case i_Residues_plus => k_is)
      (case l_Residues_plus => exact H06.lk_Residues_plus _)
      (case c_Residues_plus => k_is)
      (case k_Residues_plus => k_is)
      (case n_Residues_times => k_is)
      (case i_Residues_times => k_is)
      (case l_Residues_times => exact H06.lk_Residues_times _)
      (case c_Residues_times => k_is)
      (case k_Residues_times => k_is)
      (case n_Residues_minus => k_is)
      (case i_Residues_minus => k_is)
      (case l_Residues_minus => exact H06.lk_Residues_minus _)
      (case c_Residues_minus => k_is)
      (case k_Residues_minus => k_is)
      (case n_Residues_inverse => k_is)
      (case i_Residues_inverse => k_is)
      (case l_Residues_inverse => exact H06.lk_Residues_inverse _)
      (case c_Residues_inverse => k_is)
      (case k_Residues_inverse => k_is)
      (case n_Residues_is_weight => k_is)
      (case i_Residues_is_weight => k_is)
      (case l_Residues_is_weight => exact H06.lk_Residues_is_weight _)
      (case c_Residues_is_weight => k_is)
      (case k_Residues_is_weight => k_is)
      (case n_Costs_nought => k_is)
      (case i_Costs_nought => k_is)
      (case l_Costs_nought => exact H06.lk_Costs_nought _)
      (case c_Costs_nought => k_is)
      (case k_Costs_nought => k_is)
      (case n_Truths_nought => k_is)
      (case i_Truths_nought => k_is)
      (case l_Truths_nought => exact H06.lk_Truths_nought _)
      (case c_Truths_nought => k_is)
      (case k_Truths_nought => k_is)
      (case n_law_divisor => k_is)
      (case l_law_divisor => exact H06.lk__law_divisor _)
      (case c_law_divisor => k_is)
      (case k_law_divisor => k_is)
      (case n_law_low => k_is)
      (case l_law_low => exact H06.lk__law_low _)
      (case c_law_low => k_is)
      (case k_law_low => k_is)
      (case n_law_number => k_is)
      (case l_law_number => exact H06.lk__law_number _)
      (case c_law_number => k_is)
      (case k_law_number => k_is)
      (case n_law_weight => k_is)
      (case l_law_weight => exact H06.lk__law_weight _)
      (case c_law_weight => k_is)
      (case k_law_weight => k_is)
      (case n_law_refused => k_is)
      (case l_law_refused => exact H06.lk__law_refused _)
      (case c_law_refused => k_is)
      (case k_law_refused => k_is)
      (case n_law_field => k_is)
      (case l_law_field => exact H06.lk__law_field _)
      (case c_law_field => k_is)
      (case k_law_field => k_is)
      (case n_law_picking => k_is)
      (case l_law_picking => exact H06.lk__law_picking _)
      (case c_law_picking => k_is)
      (case k_law_picking => k_is)
      (case n_law => k_is)
      (case l_law => exact H06.lk_law _)
      (case c_law => k_is)
      (case k_law => k_is)
      (case z_isinstance => k_is)
      (case z_int => k_is)
      (case z_bool => k_is)
      (case z_abs => k_is)
      (case z_tuple => k_is)
      (case z_len => k_is)
      (case c_GREATEST_PRIME => k_is)
      (case z_max => k_is)
      (case z_ValueError => k_is)
      (case z_range => k_is)
      (case k_ii => kit_is)
      (case k_ib => kit_is)
      (case k_tt => kit_is)
      (case k_bb => kit_is)
      (case nP => k_is)
      (case iF_is_field => k_is)
      (case iF_picks => k_is)
      (case iR_is_field => k_is)
      (case iR_picks => k_is)
      (case iC_is_field => k_is)
      (case iC_picks => k_is)
      (case iC_minus => k_is)
      (case iC_inverse => k_is)
      (case iT_is_field => k_is)
      (case iT_picks => k_is)
      (case iT_minus => k_is)
      (case iT_inverse => k_is)
      (case e_W => kernel_rfl)
      (case e_N => kernel_rfl)
      (case k_WW => kernel_rfl)
      (case k_WN => kernel_rfl)
      (case k_WV => kernel_rfl)
      (case k_NW => kernel_rfl)
      (case k_NN => kernel_rfl)
      (case k_NV => kernel_rfl)
    obtain ⟨t, T⟩ := T
    have e0 := hmg.symm.trans T.m_law
    cases e0
    exact ⟨_, K06.law_binds T, fun base kb nb => K06.ok_law T⟩
  case S => exact fun K H a ns hl hO hS => ⟨a, ns, rfl, hS, hl, fun _ => rfl⟩
  case C => exact fun _ _ _ _ z => z
