import PyProof.Rows.All
import Wide.All
import OpenK.AllK
import Wide.FinOn
import Lean
import PyProof.EqAt
import PyProof.EqKinds
import PyProof.TupleCall
import KE.KRevIter
import PySem.Challenge.RW_weighwalk_k26_single
set_option Elab.async false
set_option linter.all false
set_option maxRecDepth 100000
namespace L2
open PySem PySem.Spec PyProof.Rows

abbrev Key := Sum Int Str
def keyIs : Key → Value → Bool
  | .inl k, v => Value.isInt k v
  | .inr x, v => Value.isStrOf x v
def keyH (w : World) : Key → Int
  | .inl k => hashInt k
  | .inr x => hashStr w x
theorem keyIs_shape : ∀ {k : Key} {v : Value}, keyIs k v = true → (∃ i t, k = Sum.inl i ∧ v = Value.int i t) ∨ (∃ x t, k = Sum.inr x ∧ v = Value.str x t)
  | .inl i, v, h => by
    obtain ⟨t, e⟩ := Value.isInt_shape (k := i) (v := v) h
    exact .inl ⟨i, t, rfl, e⟩
  | .inr x, v, h => by
    obtain ⟨t, e⟩ := Value.isStrOf_shape (x := x) (v := v) h
    exact .inr ⟨x, t, rfl, e⟩
theorem keyIs_int (i : Int) (t : Tok) : keyIs (.inl i) (.int i t) = true := by simp [keyIs, Value.isInt]
theorem keyIs_str (x : Str) (t : Tok) : keyIs (.inr x) (.str x t) = true := by simp [keyIs, Value.isStrOf]
theorem key_ll (a b : Int) : decide ((Sum.inl a : Key) = Sum.inl b) = (a == b) := by
  by_cases e : a = b
  · subst e; simp
  · have h : ¬ (Sum.inl a : Key) = Sum.inl b := fun q => e (Sum.inl.inj q)
    rw [decide_eq_false h]
    exact (beq_eq_false_iff_ne.mpr e).symm
theorem key_rr (a b : Str) : decide ((Sum.inr a : Key) = Sum.inr b) = decide (a = b) := by
  by_cases e : a = b
  · subst e; simp
  · have h : ¬ (Sum.inr a : Key) = Sum.inr b := fun q => e (Sum.inr.inj q)
    rw [decide_eq_false h, decide_eq_false e]
theorem key_lr (a : Int) (b : Str) : decide ((Sum.inl a : Key) = Sum.inr b) = false := decide_eq_false (fun q => nomatch q)
theorem key_rl (a : Str) (b : Int) : decide ((Sum.inr a : Key) = Sum.inl b) = false := decide_eq_false (fun q => nomatch q)

def mixKind (prog : Program) (w : World) : PySem.KeyKind prog w Key where
  is := keyIs
  hash := keyH w
  inj := fun v a b ha hb => by
    rcases keyIs_shape ha with ⟨i, t, rfl, rfl⟩ | ⟨x, t, rfl, rfl⟩
    · rcases keyIs_shape hb with ⟨j, u, rfl, e⟩ | ⟨y, u, rfl, e⟩
      · injection e with e1 _; rw [e1]
      · exact nomatch e
    · rcases keyIs_shape hb with ⟨j, u, rfl, e⟩ | ⟨y, u, rfl, e⟩
      · exact nomatch e
      · injection e with e1 _; rw [e1]
  byValue := fun k v h => by
    rcases keyIs_shape h with ⟨i, t, rfl, rfl⟩ | ⟨x, t, rfl, rfl⟩ <;> rfl
  pyHash := fun hv h => by
    rcases keyIs_shape hv with ⟨i, t, rfl, rfl⟩ | ⟨x, t, rfl, rfl⟩
    · exact wpAny_pyHash_int h
    · exact wpAny_pyHash_str h
  eqBool := fun hu hv h => by
    rcases keyIs_shape hu with ⟨i, t, rfl, rfl⟩ | ⟨x, t, rfl, rfl⟩
    · rcases keyIs_shape hv with ⟨j, u, rfl, rfl⟩ | ⟨y, u, rfl, rfl⟩
      · rw [key_ll] at h; exact wpAny_eqBool_int h
      · rw [key_lr] at h; exact SeqAt.EqAt.int_str i t y u _ _ _ _ h
    · rcases keyIs_shape hv with ⟨j, u, rfl, rfl⟩ | ⟨y, u, rfl, rfl⟩
      · rw [key_rl] at h; exact SeqAt.EqAt.str_int x t j u _ _ _ _ h
      · rw [key_rr] at h; exact wpAny_eqBool_str h
  «strs» := fun k x t v h => by
    rcases keyIs_shape h with ⟨i, u, rfl, e⟩ | ⟨y, u, rfl, e⟩
    · exact nomatch e
    · injection e with e1 _
      subst e1
      cases v <;> rfl

theorem mixKind_int (prog : Program) (w : World) (i : Int) (t : Tok) : (mixKind prog w).is (.inl i) (.int i t) = true := keyIs_int i t
theorem mixKind_str (prog : Program) (w : World) (x : Str) (t : Tok) : (mixKind prog w).is (.inr x) (.str x t) = true := keyIs_str x t
end L2

namespace L2
open PySem PySem.Spec PyProof.Rows

inductive V where
  | non | bl (b : Bool) | int (i : Int) | str (x : Str) | byt (b : Array UInt8) | flt (b : UInt64) | ref (a : Addr) | ty (n : String)
  deriving DecidableEq

def RelV : V → Value → Prop
  | .non, u => u = Value.none
  | .bl b, u => u = Value.bool b
  | .int i, u => ∃ t, u = Value.int i t
  | .str x, u => ∃ t, u = Value.str x t
  | .byt b, u => ∃ t, u = Value.bytes b t
  | .flt b, u => ∃ t, u = Value.float b t
  | .ref a, u => u = Value.ref a
  | .ty n, u => u = Value.type n

abbrev Vals : List V → List Value → Prop := Paired RelV
theorem Vals.length {xs : List V} {us : List Value} (r : Vals xs us) : xs.length = us.length := Paired.length r
theorem Vals.get : ∀ {xs : List V} {us : List Value} {i : Nat} {x : V}, Vals xs us → xs[i]? = some x → ∃ u, us[i]? = some u ∧ RelV x u
  | _, _, _, _, .nil, e => by simp at e
  | _, _, 0, _, .cons r _, e => by simp at e; subst e; exact ⟨_, rfl, r⟩
  | _, _, i + 1, x, .cons _ t, e => by
    obtain ⟨u, h1, h2⟩ := Vals.get (i := i) (x := x) t (by simpa using e)
    exact ⟨u, by simpa using h1, h2⟩
theorem Vals.set {x : V} {u : Value} (r : RelV x u) : ∀ {xs : List V} {us : List Value} (i : Nat), Vals xs us → Vals (xs.set i x) (us.set i u)
  | _, _, _, .nil => .nil
  | _, _, 0, .cons _ t => .cons r t
  | _, _, i + 1, .cons q t => .cons q (Vals.set r i t)
theorem Vals.append : ∀ {xs ys : List V} {us ws : List Value}, Vals xs us → Vals ys ws → Vals (xs ++ ys) (us ++ ws)
  | _, _, _, _, .nil, s => s
  | _, _, _, _, .cons r t, s => .cons r (Vals.append t s)
theorem Vals.take : ∀ {xs : List V} {us : List Value} (n : Nat), Vals xs us → Vals (xs.take n) (us.take n)
  | _, _, 0, _ => .nil
  | _, _, _ + 1, .nil => .nil
  | _, _, n + 1, .cons r t => .cons r (Vals.take n t)
theorem Vals.drop : ∀ {xs : List V} {us : List Value} (n : Nat), Vals xs us → Vals (xs.drop n) (us.drop n)
  | _, _, 0, r => r
  | _, _, _ + 1, .nil => .nil
  | _, _, n + 1, .cons _ t => Vals.drop n t
theorem Vals.none_of : ∀ {xs : List V} {us : List Value} {i : Nat}, Vals xs us → xs[i]? = none → us[i]? = none := fun {xs us i} r e => by
  have h1 := r.length
  have h2 : xs.length ≤ i := List.getElem?_eq_none_iff.mp e
  exact List.getElem?_eq_none_iff.mpr (by omega)

def RelO : Option V → Option Value → Prop
  | some v, some u => RelV v u
  | none, none => True
  | _, _ => False
def KV {κ : Type} : List (κ × V) → List (κ × Value) → Prop := Paired fun (p : κ × V) (q : κ × Value) => p.1 = q.1 ∧ RelV p.2 q.2

def kV : Key → V
  | .inl i => .int i
  | .inr x => .str x

inductive HO where
  /-- a list -/
  | lst (xs : List V)
  /-- a tuple (never changes) -/
  | tup (xs : List V)
  /-- a dict whose keys are ints and texts; one whose keys are tuples of ints and texts (the empty one is both) -/
  | dK (kvs : List (Key × V)) | dT (kvs : List (List Key × V))
  /-- a set of ints: its members, its size -/
  | set (S : Int → Bool) (n : Nat)
  /-- an instance of the class at C, its dict at dx, its attributes -/
  | ins (C dx : Addr) (fs : List (Str × V))
  /-- the dict of the instance at x -/
  | own (x : Addr)
  /-- the dict of an exception -/
  | xd (fs : List (Str × V))
  /-- a bound method, f of x -/
  | met (f x : Addr)
  /-- a range object lo, lo + 1, .. below hi -/
  | rng (lo hi : Int)
  /-- a thing that is known to the object (the script; a dict while a loop walks it): read, never written while it is so -/
  | frz (o : Obj) (u : HO)
  /-- a code object's table -/
  | tbl (ps : Array Value)
  /-- any other thing, by what is true of its one object (a def of one's own: SetO a S n := HO.ext fun h => ..) -/
  | ext (φ : Heap → Prop)

abbrev Hp := Addr → Option HO
def upd (H : Hp) (a : Addr) (o : HO) : Hp := fun b => if b = a then some o else H b
theorem upd_same {H : Hp} {a : Addr} {o : HO} : upd H a o a = some o := by unfold upd; rw [if_pos rfl]
theorem upd_ne {H : Hp} {a b : Addr} {o : HO} (h : b ≠ a) : upd H a o b = H b := by unfold upd; rw [if_neg h]
theorem upd_upd {H : Hp} {a : Addr} {o u : HO} : upd (upd H a o) a u = upd H a u := by
  funext b; unfold upd; split <;> rfl
theorem ne_of_none {H : Hp} {a b : Addr} {o : HO} (h : H a = some o) (h' : H b = none) : a ≠ b := by
  intro e; subst e; rw [h] at h'; cases h'

section
variable (P : Program) (w : World)
def ObjOk (H : Hp) (h : Heap) (a : Addr) : HO → Prop
  | .lst xs => xs.length ≤ sizeLine ∧ ∃ (its : List Value) (n : Nat), Vals xs its ∧ h.get? a = some { cls := .type "list", data := .seq its.toArray n }
  | .tup xs => xs.length ≤ sizeLine ∧ ∃ its : List Value, Vals xs its ∧ IsTup h a its.toArray
  | .dK kvs => kvs.length ≤ sizeLine ∧ (a == sysModules) = false ∧ ∃ vs, KV kvs vs ∧ h.DictOf (mixKind P w) a vs
  | .dT kvs => kvs.length ≤ sizeLine ∧ (a == sysModules) = false ∧ ∃ xs : List (List Key × Addr × Value),
      Paired (fun (p : List Key × V) (q : List Key × Addr × Value) => p.1 = q.1 ∧ H q.2.1 = some (.tup (p.1.map kV)) ∧ RelV p.2 q.2.2) kvs xs ∧
      ∃ o es ep, h.get? a = some o ∧ o.ExactDict ∧ o.data = .dict es ep ∧ es.toList = xs.map (entryOfKey (tupleKind (mixKind P w))) ∧ (xs.map (·.1)).Nodup
  | .set S n => h.SetOf (intKind P w) a S n
  | .ins C dx fs => H dx = some (.own a) ∧ fs.length ≤ 1000 ∧ dx ≠ a ∧ h.get? a = some (PySem.W.instObj C dx) ∧
      ∃ mA, h.Ns1 dx mA ∧ (∀ f, RelO (fs.lookup f) (mA f)) ∧ PySem.Within mA (fs.map (·.1))
  | .own _ => ∃ o, h.get? a = some o
  | .xd fs => ∃ mA, h.Ns1 a mA ∧ ∀ f, RelO (fs.lookup f) (mA f)
  | .rng lo hi => ∃ t u v, h.get? a = some { cls := .type "range", data := .fields #[.int lo t, .int hi u, .int 1 v] }
  | .frz o u => h.get? a = some o ∧ ObjOk H h a u
  | .tbl ps => h.get? a = some { cls := .none, data := .fields ps }
  | .met f x => h.get? a = some (PySem.W.methodObj (.ref f) (.ref x))
  | .ext φ => φ h ∧ (∃ o, h.get? a = some o) ∧ ∀ h1 h2 : Heap, φ h1 → (∀ o, h1.get? a = some o → h2.get? a = some o) → φ h2
def HOk (H : Hp) (h : Heap) : Prop := ∀ a o, H a = some o → ObjOk P w H h a o
end

section
variable {P : Program} {w : World} {H H' : Hp} {h h' : Heap} {a : Addr} {o : HO}
theorem ObjOk.lt (x : ObjOk P w H h a o) : a < h.objs.size := by
  cases o with
  | lst xs => obtain ⟨_, _, _, _, e⟩ := x; exact Heap.lt_size e
  | tup xs => obtain ⟨_, _, _, p⟩ := x; exact p.lt
  | dK kvs => obtain ⟨_, _, _, _, o, _, _, e, _⟩ := x; exact Heap.lt_size e
  | dT kvs => obtain ⟨_, _, _, _, o, _, _, e, _⟩ := x; exact Heap.lt_size e
  | set S n => obtain ⟨o, _, _, _, e, _⟩ := x; exact Heap.lt_size e
  | ins C dx fs => obtain ⟨_, _, _, e, _⟩ := x; exact Heap.lt_size e
  | own y => obtain ⟨_, e⟩ := x; exact Heap.lt_size e
  | xd fs => obtain ⟨_, ⟨_, _, _, e, _⟩, _⟩ := x; exact Heap.lt_size e
  | rng lo hi => obtain ⟨_, _, _, e⟩ := x; exact Heap.lt_size e
  | frz ob u => obtain ⟨e, _⟩ := x; exact Heap.lt_size e
  | tbl ps => exact Heap.lt_size (show h.get? a = some _ from x)
  | met f y => exact Heap.lt_size (show h.get? a = some _ from x)
  | ext φ => obtain ⟨_, ⟨_, e⟩, _⟩ := x; exact Heap.lt_size e
theorem Paired.mapP {α β : Type} {F G : α → β → Prop} : ∀ {l₁ : List α} {l₂ : List β}, Paired F l₁ l₂ → (∀ a b, F a b → G a b) → Paired G l₁ l₂
  | _, _, .nil, _ => .nil
  | _, _, .cons r t, f => .cons (f _ _ r) (Paired.mapP t f)
theorem ObjOk.stay (x : ObjOk P w H h a o) (k : ∀ b u, (b = a ∨ H b = some (.own a)) → h.get? b = some u → h'.get? b = some u)
    (ho : ∀ b, H b = some (.own a) → H' b = some (.own a)) (ht : ∀ b xs, H b = some (.tup xs) → H' b = some (.tup xs)) : ObjOk P w H' h' a o := by
  induction o with
  | lst xs => obtain ⟨z, its, n, r, e⟩ := x; exact ⟨z, its, n, r, k _ _ (.inl rfl) e⟩
  | tup xs => obtain ⟨z, its, r, ob, e, c⟩ := x; exact ⟨z, its, r, ob, k _ _ (.inl rfl) e, c⟩
  | dK kvs => obtain ⟨z, y, vs, r, ob, es, ep, e, c⟩ := x; exact ⟨z, y, vs, r, ob, es, ep, k _ _ (.inl rfl) e, c⟩
  | dT kvs =>
    obtain ⟨z, y, xs, r, ob, es, ep, e, c⟩ := x
    exact ⟨z, y, xs, Paired.mapP r fun p q z => ⟨z.1, ht _ _ z.2.1, z.2.2⟩, ob, es, ep, k _ _ (.inl rfl) e, c⟩
  | set S n => obtain ⟨ob, es, ep, t, e, c⟩ := x; exact ⟨ob, es, ep, t, k _ _ (.inl rfl) e, c⟩
  | ins C dx fs =>
    obtain ⟨d, z, ne, e, mA, ⟨od, es, ep, e2, c⟩, r⟩ := x
    exact ⟨ho _ d, z, ne, k _ _ (.inl rfl) e, mA, ⟨od, es, ep, k _ _ (.inr d) e2, c⟩, r⟩
  | own y => obtain ⟨ob, e⟩ := x; exact ⟨ob, k _ _ (.inl rfl) e⟩
  | xd fs => obtain ⟨mA, ⟨od, es, ep, e, c⟩, r⟩ := x; exact ⟨mA, ⟨od, es, ep, k _ _ (.inl rfl) e, c⟩, r⟩
  | rng lo hi => obtain ⟨t, u, v, e⟩ := x; exact ⟨t, u, v, k _ _ (.inl rfl) e⟩
  | frz ob u ih => obtain ⟨e, q⟩ := x; exact ⟨k _ _ (.inl rfl) e, ih q⟩
  | tbl ps =>
    have e : h.get? a = some { cls := .none, data := .fields ps } := x
    show h'.get? a = some { cls := .none, data := .fields ps }
    exact k a _ (.inl rfl) e
  | met f y =>
    have e : h.get? a = some (PySem.W.methodObj (.ref f) (.ref y)) := x
    show h'.get? a = some (PySem.W.methodObj (.ref f) (.ref y))
    exact k a _ (.inl rfl) e
  | ext φ => obtain ⟨p, ⟨o, e⟩, st⟩ := x; exact ⟨st _ _ p fun o q => k _ _ (.inl rfl) q, ⟨o, k _ _ (.inl rfl) e⟩, st⟩
theorem HOk.lt (x : HOk P w H h) (e : H a = some o) : a < h.objs.size := (x a o e).lt
theorem HOk.fresh (x : HOk P w H h) (e : h.objs.size ≤ a) : H a = none := by
  cases q : H a with
  | none => rfl
  | some u => exact absurd (Nat.lt_of_lt_of_le (x.lt q) e) (Nat.lt_irrefl _)
theorem HOk.kept (x : HOk P w H h) (k : ∀ b u, h.get? b = some u → h'.get? b = some u) : HOk P w H h' := fun a o e =>
  (x a o e).stay (fun b u _ q => k b u q) (fun _ q => q) fun _ _ q => q
theorem HOk.laid (x : HOk P w H h) (k : ∀ b u, h.get? b = some u → h'.get? b = some u) (hp : h.objs.size ≤ a) (new : ObjOk P w (upd H a o) h' a o) : HOk P w (upd H a o) h' := fun b u e => by
  have hn := x.fresh hp
  by_cases hb : b = a
  · subst hb; rw [upd_same] at e; cases e; exact new
  · rw [upd_ne hb] at e
    exact (x b u e).stay (fun c v _ q => k c v q) (fun c q => by rw [upd_ne (ne_of_none q hn)]; exact q) fun c xs q => by rw [upd_ne (ne_of_none q hn)]; exact q
end

def Rd (H : Hp) (a : Addr) (u : HO) : Prop := H a = some u ∨ ∃ o, H a = some (.frz o u)
theorem Rd.of {H : Hp} {a : Addr} {u : HO} (h : H a = some u) : Rd H a u := .inl h
theorem Rd.ok {P : Program} {w : World} {H : Hp} {h : Heap} {a : Addr} {u : HO} (r : Rd H a u) (x : HOk P w H h) : ObjOk P w H h a u := by
  rcases r with r | ⟨o, r⟩
  · exact x a u r
  · obtain ⟨_, q⟩ := x a _ r
    exact q
def Mut : Option HO → Prop
  | some (.lst _) => True
  | some (.dK _) => True
  | some (.dT _) => True
  | some (.set _ _) => True
  | some (.ins _ _ _) => True
  | some (.ext _) => True
  | _ => False
section
variable {P : Program} {w : World} {H : Hp} {h h' : Heap} {x e : Addr} {o' : HO}
theorem HOk.write (ok : HOk P w H h) (mu : Mut (H x)) (he : e = x ∨ H e = some (.own x)) (k : ∀ b u, b ≠ e → h.get? b = some u → h'.get? b = some u) (heo : ∃ u, h'.get? e = some u)
    (new : ObjOk P w (upd H x o') h' x o') : HOk P w (upd H x o') h' := fun b u q => by
  have nown : ∀ c y, H c = some (.own y) → c ≠ x := fun c y r z => by subst z; rw [r] at mu; exact mu
  have ntup : ∀ c xs, H c = some (.tup xs) → c ≠ x := fun c xs r z => by subst z; rw [r] at mu; exact mu
  by_cases hb : b = x
  · subst hb; rw [upd_same] at q; cases q; exact new
  · rw [upd_ne hb] at q
    by_cases hbe : b = e
    · have q' : H b = some (.own x) := by
        rcases he with z | z
        · exact absurd (hbe.trans z) hb
        · rw [hbe]; exact z
      rw [q] at q'; cases q'
      obtain ⟨v, hv⟩ := heo
      exact ⟨v, by rw [hbe]; exact hv⟩
    · refine (ok b u q).stay (fun c v hc r => k c v ?_ r) (fun c r => by rw [upd_ne (nown c b r)]; exact r) fun c xs r => by rw [upd_ne (ntup c xs r)]; exact r
      rcases hc with rfl | hc
      · exact hbe
      · rintro rfl
        rcases he with z | z
        · exact nown c b hc z
        · rw [hc] at z; cases z; exact hb rfl
end

structure Un (fs ex : List Addr) (H H' : Hp) (h h' : Heap) : Prop where
  keep : ∀ b o, h.get? b = some o → H b = none → b ∉ fs → b ∉ ex → h'.get? b = some o
  slot : ∀ b o, h.get? b = some o → H b = none → b ∈ fs → b ∉ ex → ∃ sl, h'.get? b = some { o with slots := sl }
  free : ∀ b o, h.get? b = some o → H b = none → b ∉ ex → H' b = none
  there : ∀ b o, h.get? b = some o → b ∉ ex → ∃ o', h'.get? b = some o'
  tups : ∀ b xs, H b = some (.tup xs) → H' b = some (.tup xs)
  frzs : ∀ b o u, H b = some (.frz o u) → H' b = some (.frz o u)
  tbls : ∀ b ps, H b = some (.tbl ps) → ∃ more, H' b = some (.tbl (ps ++ more))
section
variable {fs fs' ex ex' : List Addr} {H H1 H2 : Hp} {h h1 h2 h' : Heap} {a x e : Addr} {o : HO}
theorem Un.any (u : Un fs ex H H1 h h1) {b : Addr} {ob : Obj} (q : h.get? b = some ob) (n : H b = none) (hx : b ∉ ex) : ∃ sl, h1.get? b = some { ob with slots := sl } := by
  by_cases hb : b ∈ fs
  · exact u.slot b ob q n hb hx
  · exact ⟨ob.slots, u.keep b ob q n hb hx⟩
theorem Un.trans (a : Un fs ex H H1 h h1) (b : Un fs ex H1 H2 h1 h2) : Un fs ex H H2 h h2 where
  keep := fun c ob q n hc hx => b.keep c ob (a.keep c ob q n hc hx) (a.free c ob q n hx) hc hx
  slot := fun c ob q n hc hx => by
    obtain ⟨sl, e1⟩ := a.slot c ob q n hc hx
    obtain ⟨sl', e2⟩ := b.slot c _ e1 (a.free c ob q n hx) hc hx
    exact ⟨sl', e2⟩
  free := fun c ob q n hx => by
    obtain ⟨o', e1⟩ := a.there c ob q hx
    exact b.free c o' e1 (a.free c ob q n hx) hx
  there := fun c ob q hx => by
    obtain ⟨o', e1⟩ := a.there c ob q hx
    exact b.there c o' e1 hx
  tups := fun c xs q => b.tups c xs (a.tups c xs q)
  frzs := fun c ob xs q => b.frzs c ob xs (a.frzs c ob xs q)
  tbls := fun c ps q => by
    obtain ⟨m1, e1⟩ := a.tbls c ps q
    obtain ⟨m2, e2⟩ := b.tbls c _ e1
    exact ⟨m1 ++ m2, by rw [e2, Array.append_assoc]⟩
theorem Un.kept (k : ∀ b u, h.get? b = some u → h'.get? b = some u) : Un fs ex H H h h' :=
  ⟨fun b ob q _ _ _ => k b ob q, fun b ob q _ _ _ => ⟨ob.slots, k b ob q⟩, fun _ _ _ n _ => n, fun b ob q _ => ⟨ob, k b ob q⟩, fun _ _ q => q, fun _ _ _ q => q, fun _ ps q => ⟨#[], by rw [q]; simp⟩⟩
theorem Un.refl : Un fs ex H H h h := Un.kept fun _ _ q => q
theorem Un.laid (k : ∀ b u, h.get? b = some u → h'.get? b = some u) (hp : h.objs.size ≤ a) (hn : H a = none) : Un fs ex H (upd H a o) h h' where
  keep := fun b u q _ _ _ => k b u q
  slot := fun b u q _ _ _ => ⟨u.slots, k b u q⟩
  free := fun b u q n _ => by rw [upd_ne (Nat.ne_of_lt (Nat.lt_of_lt_of_le (Heap.lt_size q) hp))]; exact n
  there := fun b u q _ => ⟨u, k b u q⟩
  tups := fun b xs q => by rw [upd_ne (ne_of_none q hn)]; exact q
  frzs := fun b u xs q => by rw [upd_ne (ne_of_none q hn)]; exact q
  tbls := fun b ps q => ⟨#[], by rw [upd_ne (ne_of_none q hn), q]; simp⟩
theorem Un.write (mu : Mut (H x)) (he : e = x ∨ H e = some (.own x)) (k : ∀ b u, b ≠ e → h.get? b = some u → h'.get? b = some u) (heo : ∃ u, h'.get? e = some u) : Un fs ex H (upd H x o) h h' := by
  have hx : ∀ b, H b = none → b ≠ x := fun b n z => by subst z; rw [n] at mu; exact mu
  have hb : ∀ b, H b = none → b ≠ e := fun b n z => by
    subst z
    rcases he with r | r
    · exact hx b n r
    · rw [n] at r; cases r
  have hm : ∀ b u, H b = some u → ¬ Mut (some u) → b ≠ x := fun b u q nm z => by subst z; rw [q] at mu; exact nm mu
  refine ⟨fun b u q n _ _ => k b u (hb b n) q, fun b u q n _ _ => ⟨u.slots, k b u (hb b n) q⟩, fun b u q n _ => by rw [upd_ne (hx b n)]; exact n, fun b u q _ => ?_,
    fun b xs q => by rw [upd_ne (hm b _ q fun z => z)]; exact q, fun b u xs q => by rw [upd_ne (hm b _ q fun z => z)]; exact q, fun b ps q => ⟨#[], by rw [upd_ne (hm b _ q fun z => z), q]; simp⟩⟩
  by_cases hbe : b = e
  · subst hbe; exact heo
  · exact ⟨u, k b u hbe q⟩
theorem Un.mono (u : Un fs ex H H1 h h1) (hs : ∀ b ∈ fs, b ∈ fs') (hx : ∀ b ∈ ex, b ∈ ex') : Un fs' ex' H H1 h h1 :=
  ⟨fun b ob q n hb he => u.keep b ob q n (fun z => hb (hs b z)) fun z => he (hx b z), fun _ _ q n _ he => u.any q n fun z => he (hx _ z), fun b ob q n he => u.free b ob q n fun z => he (hx b z), fun b ob q he => u.there b ob q fun z => he (hx b z), u.tups, u.frzs, u.tbls⟩
end

def trk (h : Heap) (H : Hp) : List Addr := (List.range h.objs.size).filter fun a => (H a).isSome
def hidT (h : Heap) (H : Hp) : Heap := PySem.W.hideAll h (trk h H)
theorem hidT_size (h : Heap) (H : Hp) : (hidT h H).objs.size = h.objs.size := PySem.W.hideAll_size _ _
theorem hidT_get {h : Heap} {H : Hp} {b : Addr} {o : Obj} (e : h.get? b = some o) (n : H b = none) : (hidT h H).get? b = some o :=
  PySem.W.hideAll_get _ e fun hm => by
    have q : (H b).isSome = true := (List.mem_filter.mp hm).2
    rw [n] at q; simp at q
theorem of_hidT {h : Heap} {H : Hp} {b : Addr} {o : Obj} (e : (hidT h H).get? b = some o) : h.get? b = some o ∧ H b = none := by
  have e' : h.get? b = some o := PySem.W.of_hideAll (trk h H) e
  refine ⟨e', ?_⟩
  cases q : H b with
  | none => rfl
  | some x =>
    have hm : b ∈ trk h H := List.mem_filter.mpr ⟨List.mem_range.mpr (Heap.lt_size e'), by simp [q]⟩
    have z : (hidT h H).get? b = none := PySem.W.hideAll_none (trk h H) hm
    rw [z] at e; cases e

def allNews (g h : Heap) (L : Addr) : List (Addr × Obj) := (List.range h.objs.size).filterMap fun a => if a = L ∨ (g.get? a).isSome = true then none else (h.get? a).map fun o => (a, o)
def rest (g h : Heap) (L d : Addr) : List (Addr × Obj) := (allNews g h L).filter fun p => decide (p.1 ≠ d)
end L2

namespace L2
open PySem PySem.Spec PyProof.Rows

structure Mod (K : PySem.W.Frag) (mg : Str → Option Value) (base : Heap) : Prop where
  kin : K.In base
  glob : base.Ns mainGlobals mg
  blt : ∃ mb, base.Ns builtinsNs mb ∧ ∀ x : Str, x ≠ "__name__" → mb x = bootBuiltins x
  nolimit : base.NoLimit
  seer : base.NoSeer

structure Cx where
  prog : Program
  w : World
  K : PySem.W.Frag
  mg : Str → Option Value
  base : Heap
  A : Around
  N : List Str
  s₀ : Shared
  H₀ : Hp
  env : Env
  outer : List Env
  stack : List Env
  ex : List Addr
  fn : Str → Bool
  calm : Bool
  pn : List (Addr × Obj)
  xe : Value → Shared → Prop
def frs (l : List Env) : List Addr := l.filterMap (·.frame)
abbrev Cx.fs (X : Cx) : List Addr := frs X.outer

def Vis (sc : Scope) (x : Str) : Prop := sc.names.lookup x = some .local ∨ sc.names.lookup x = some .cell ∨ sc.names.lookup x = some .free
def Loc (sc : Scope) (x : Str) : Prop := sc.names.lookup x = some .local ∨ sc.names.lookup x = some .cell
def Look (env : Env) (h : Heap) (m : Str → Option Value) (x : Str) (u : Value) : Prop :=
  (env.kindOf x = some .local ∧ m x = some u) ∨ ((env.kindOf x = some .cell ∨ env.kindOf x = some .free) ∧ ∃ c, env.cells.lookup x = some c ∧ h.IsCell c (some u))

structure Cx.Ok (X : Cx) : Prop where
  mod : Mod X.K X.mg X.base
  kind : X.env.scope.kind = .function
  glob : X.env.globals = mainGlobals
  blt : X.env.builtins = builtinsNs
  above : X.s₀.heap.objs.size ≤ X.env.locals
  inj : ∀ x y c, X.env.cells.lookup x = some c → X.env.cells.lookup y = some c → x = y
  has : ∀ x, (X.env.kindOf x = some .cell ∨ X.env.kindOf x = some .free) → ∃ c, X.env.cells.lookup x = some c
  cab : ∀ x c, X.fn x = true → X.env.cells.lookup x = some c → X.s₀.heap.objs.size ≤ c
  hd : X.calm = true → X.A.handled = none
  frames : X.A.frames = some X.stack
  stk : X.stack = X.outer ∨ (X.stack = X.env :: X.outer ∧ X.env.frame = some X.env.locals)
  exf : ∀ b ∈ X.ex, b ≠ X.env.locals ∧ ∀ x c, X.env.cells.lookup x = some c → c ≠ b
  bs : ∀ b o, X.base.get? b = some o → X.s₀.heap.get? b = some o ∧ X.H₀ b = none
  bsz : X.base.objs.size ≤ X.s₀.heap.objs.size
  noex : ∀ b o, X.base.get? b = some o → b ∉ X.ex
  exfs : ∀ b ∈ X.ex, b ∉ X.fs
  funs : X.s₀.heap.FunFrames X.base X.outer
  frf : ∀ b ∈ X.fs, X.H₀ b = none

structure Inv (X : Cx) (pins : List (Addr × Obj)) (σ : List (Option V)) (H : Hp) (s : Shared) : Prop where
  ok : X.Ok
  os : s.os = X.s₀.os
  bare : AllBare s.gens
  base : Un X.fs X.ex X.H₀ H X.s₀.heap s.heap
  loc : ∃ m, s.heap.Ns X.env.locals m ∧ ∀ (i : Nat) (x : Str) (v : V), X.N[i]? = some x → σ[i]? = some (some v) → Vis X.env.scope x → ∃ u, RelV v u ∧ Look X.env s.heap m x u
  cell : ∀ x c, X.env.cells.lookup x = some c → ∃ v, s.heap.IsCell c v
  free : H X.env.locals = none
  freeC : ∀ x c, X.env.cells.lookup x = some c → H c = none
  pin : ∀ p ∈ X.pn ++ pins, s.heap.get? p.1 = some p.2 ∧ H p.1 = none ∧ p.1 ≠ X.env.locals ∧ p.1 ∉ X.fs ∧ ∀ v, p.2.data ≠ .cell v
  hok : HOk X.prog X.w H s.heap
  len : σ.length = X.N.length

section
variable {X : Cx} {pins : List (Addr × Obj)} {σ : List (Option V)} {H H' : Hp} {s : Shared} {h' : Heap}

theorem Cx.Ok.nofr (ok : X.Ok) {b : Addr} {o : Obj} (e : X.base.get? b = some o) : b ∉ X.fs := fun hb => by
  have := (ok.funs.mem hb).1
  rw [e] at this; cases this
theorem Inv.bs (I : Inv X pins σ H s) : ∀ b o, X.base.get? b = some o → s.heap.get? b = some o ∧ H b = none := fun b o e =>
  ⟨I.base.keep b o (I.ok.bs b o e).1 (I.ok.bs b o e).2 (I.ok.nofr e) (I.ok.noex b o e), I.base.free b o (I.ok.bs b o e).1 (I.ok.bs b o e).2 (I.ok.noex b o e)⟩
theorem Inv.bk (I : Inv X pins σ H s) : ∀ b o, X.base.get? b = some o → s.heap.get? b = some o := fun b o e => (I.bs b o e).1
theorem Inv.mod (I : Inv X pins σ H s) : Mod X.K X.mg X.base := I.ok.mod
theorem Inv.kIn (I : Inv X pins σ H s) : X.K.In s.heap := I.ok.mod.kin.keeps I.bk
theorem Inv.nolimit (I : Inv X pins σ H s) : s.heap.NoLimit := I.ok.mod.nolimit.keeps I.bk
theorem Inv.fr (I : Inv X pins σ H s) : ∃ m, Fr X.base X.env.locals s.heap m :=
  let ⟨m, hn, _⟩ := I.loc
  ⟨m, hn, I.bk, Nat.le_trans I.ok.bsz I.ok.above⟩
theorem Inv.lt (I : Inv X pins σ H s) : X.env.locals < s.heap.objs.size := let ⟨_, hn, _⟩ := I.loc; hn.lt
theorem Inv.sz (I : Inv X pins σ H s) : X.s₀.heap.objs.size ≤ s.heap.objs.size := Nat.le_trans I.ok.above (Nat.le_of_lt I.lt)
theorem Inv.nofs (I : Inv X pins σ H s) {a : Addr} (h : s.heap.objs.size ≤ a) : a ∉ X.fs := fun hb => by
  obtain ⟨_, o, ho, _⟩ := I.ok.funs.mem hb
  exact absurd (Nat.lt_of_lt_of_le (Heap.lt_size ho) (Nat.le_trans I.sz h)) (Nat.lt_irrefl _)
theorem Inv.cne (I : Inv X pins σ H s) : ∀ x c, X.env.cells.lookup x = some c → c ≠ X.env.locals := fun x c e z => by
  obtain ⟨v, o, ho, hd⟩ := I.cell x c e
  obtain ⟨m, ⟨o', es, ep, ho', hd', _⟩, _⟩ := I.loc
  rw [z, ho'] at ho; cases ho; rw [hd'] at hd; cases hd
theorem Inv.funs (I : Inv X pins σ H s) : s.heap.FunFrames X.base X.outer := by
  have all : ∀ (l : List Env), (∀ b ∈ frs l, b ∈ X.fs) → X.s₀.heap.FunFrames X.base l → s.heap.FunFrames X.base l := by
    intro l
    induction l with
    | nil => intro _ _; trivial
    | cons env r ih =>
      intro hs hl
      obtain ⟨hk, ⟨L, o, hf, hn, ho, hd⟩, hr⟩ := hl
      have hL : L ∈ X.fs := hs L (by unfold frs; rw [List.filterMap_cons, hf]; exact List.mem_cons_self)
      obtain ⟨sl, e⟩ := I.base.slot L o ho (I.ok.frf L hL) hL fun z => I.ok.exfs L z hL
      exact ⟨hk, ⟨L, _, hf, hn, e, hd⟩, ih (fun b hb => hs b (by unfold frs; rw [List.filterMap_cons, hf]; exact List.mem_cons_of_mem _ hb)) hr⟩
  exact all X.outer (fun _ hb => hb) I.ok.funs

theorem Inv.stack (I : Inv X pins σ H s) : s.heap.FunFrames X.base X.stack := by
  rcases I.ok.stk with e | ⟨e, hf⟩
  · rw [e]; exact I.funs
  · rw [e]
    obtain ⟨m, hn, _⟩ := I.loc
    refine .cons (by rw [I.ok.kind]; decide) hf hn ?_ I.funs
    exact Heap.get?_none_of_le (Nat.le_trans I.ok.bsz I.ok.above)
theorem Inv.stkSub (I : Inv X pins σ H s) : ∀ b ∈ frs X.stack, b ∈ X.env.locals :: X.fs := fun b hb => by
  rcases I.ok.stk with e | ⟨e, hf⟩
  · rw [e] at hb; exact List.mem_cons_of_mem _ hb
  · rw [e] at hb
    unfold frs at hb
    rw [List.filterMap_cons, hf] at hb
    exact hb
theorem Inv.stkFree (I : Inv X pins σ H s) : ∀ b ∈ frs X.stack, H b = none := fun b hb => by
  rcases List.mem_cons.mp (I.stkSub b hb) with e | hb
  · rw [e]; exact I.free
  · obtain ⟨_, o, ho, _⟩ := I.ok.funs.mem hb
    exact I.base.free b o ho (I.ok.frf b hb) fun z => I.ok.exfs b z hb

theorem Inv.step {g' : Array GenState} {t' : Nat} {d' : Drawn} {ch : List Addr} (I : Inv X pins σ H s)
    (hch : ∀ b ∈ ch, (b ∈ X.ex ∨ X.s₀.heap.objs.size ≤ b) ∧ b ≠ X.env.locals ∧ (∀ x c, X.env.cells.lookup x = some c → c ≠ b) ∧ ∀ p ∈ X.pn ++ pins, p.1 ≠ b)
    (keep : ∀ b o, b ≠ X.env.locals → b ∉ X.fs → b ∉ ch → s.heap.get? b = some o → H b = none → h'.get? b = some o)
    (slot : ∀ b o, b ≠ X.env.locals → b ∈ X.fs → b ∉ ch → s.heap.get? b = some o → H b = none → ∃ sl, h'.get? b = some { o with slots := sl }) (free : ∀ b o, b ∉ ch → s.heap.get? b = some o → H b = none → H' b = none)
    (there : ∀ b o, b ∉ ch → s.heap.get? b = some o → ∃ o', h'.get? b = some o')
    (tups : ∀ b xs, H b = some (.tup xs) → H' b = some (.tup xs)) (frzs : ∀ b o u, H b = some (.frz o u) → H' b = some (.frz o u)) (tbls : ∀ b ps, H b = some (.tbl ps) → ∃ more, H' b = some (.tbl (ps ++ more)))
    (ns : ∀ m, s.heap.Ns X.env.locals m → h'.Ns X.env.locals m) (hok : HOk X.prog X.w H' h') (hg : AllBare g') :
    Inv X pins σ H' { s with heap := h', gens := g', drawn := d', toks := t' } := by
  have neL : ∀ b o, X.s₀.heap.get? b = some o → b ≠ X.env.locals := fun b o e => Nat.ne_of_lt (Nat.lt_of_lt_of_le (Heap.lt_size e) I.ok.above)
  have neC : ∀ b o, X.s₀.heap.get? b = some o → b ∉ X.ex → b ∉ ch := fun b o e hx hb => by
    rcases (hch b hb).1 with z | z
    · exact hx z
    · exact absurd (Nat.lt_of_lt_of_le (Heap.lt_size e) z) (Nat.lt_irrefl _)
  have cellK : ∀ x c, X.env.cells.lookup x = some c → ∀ v, s.heap.IsCell c v → h'.IsCell c v := fun x c e v ⟨o, ho, hd⟩ => by
    have nch : c ∉ ch := fun z => (hch c z).2.2.1 x c e rfl
    by_cases hc : c ∈ X.fs
    · obtain ⟨sl, q⟩ := slot c o (I.cne x c e) hc nch ho (I.freeC x c e)
      exact ⟨_, q, hd⟩
    · exact ⟨o, keep c o (I.cne x c e) hc nch ho (I.freeC x c e), hd⟩
  refine ⟨I.ok, I.os, hg, ⟨fun b o e n hb hx => ?_, fun b o e n hb hx => ?_, fun b o e n hx => ?_, fun b o e hx => ?_, fun b xs e => tups b xs (I.base.tups b xs e), fun b o xs e => frzs b o xs (I.base.frzs b o xs e), fun b ps e => ?_⟩, ?_, fun x c e => ?_, ?_, fun x c e => ?_, fun p hp => ?_, hok, I.len⟩
  · exact keep b o (neL b o e) hb (neC b o e hx) (I.base.keep b o e n hb hx) (I.base.free b o e n hx)
  · obtain ⟨sl, e1⟩ := I.base.slot b o e n hb hx
    obtain ⟨sl', e2⟩ := slot b _ (neL b o e) hb (neC b o e hx) e1 (I.base.free b o e n hx)
    exact ⟨sl', e2⟩
  · obtain ⟨o', e1⟩ := I.base.there b o e hx
    exact free b o' (neC b o e hx) e1 (I.base.free b o e n hx)
  · obtain ⟨o', e1⟩ := I.base.there b o e hx
    exact there b o' (neC b o e hx) e1
  · obtain ⟨m1, e1⟩ := I.base.tbls b ps e
    obtain ⟨m2, e2⟩ := tbls b _ e1
    exact ⟨m1 ++ m2, by rw [e2, Array.append_assoc]⟩
  · obtain ⟨m, hn, hl⟩ := I.loc
    refine ⟨m, ns m hn, fun i x v e1 e2 e3 => ?_⟩
    obtain ⟨u, r, l⟩ := hl i x v e1 e2 e3
    refine ⟨u, r, ?_⟩
    rcases l with l | ⟨k, c, e, z⟩
    · exact .inl l
    · exact .inr ⟨k, c, e, cellK x c e _ z⟩
  · obtain ⟨v, z⟩ := I.cell x c e
    exact ⟨v, cellK x c e v z⟩
  · obtain ⟨m, ⟨o, _, _, ho, _⟩, _⟩ := I.loc
    exact free _ o (fun z => (hch _ z).2.1 rfl) ho I.free
  · obtain ⟨v, o, ho, hd⟩ := I.cell x c e
    exact free c o (fun z => (hch c z).2.2.1 x c e rfl) ho (I.freeC x c e)
  · obtain ⟨e, n, ne, nf, d⟩ := I.pin p hp
    have nch : p.1 ∉ ch := fun z => (hch p.1 z).2.2.2 p hp rfl
    exact ⟨keep p.1 p.2 ne nf nch e n, free p.1 p.2 nch e n, ne, nf, d⟩
theorem Inv.un {t' : Nat} (I : Inv X pins σ H s) (u : Un X.fs [] H H' s.heap h') (hok : HOk X.prog X.w H' h') : Inv X pins σ H' { s with heap := h', toks := t' } := by
  obtain ⟨m, ⟨o, es, ep, ho, r⟩, _⟩ := id I.loc
  obtain ⟨sl, hL⟩ := u.any ho I.free (by simp)
  exact I.step (g' := s.gens) (d' := s.drawn) (ch := []) (fun _ z => nomatch z) (fun b o _ hb _ e n => u.keep b o e n hb (by simp)) (fun b o _ hb _ e n => u.slot b o e n hb (by simp)) (fun b o _ e n => u.free b o e n (by simp)) (fun b o _ e => u.there b o e (by simp)) u.tups u.frzs u.tbls (fun m' hm => by
    obtain ⟨o', es', ep', ho', r'⟩ := hm
    rw [ho] at ho'; cases ho'
    exact ⟨_, es', ep', hL, r'⟩) hok I.bare
theorem Inv.call {g' : Array GenState} {t' : Nat} {d' : Drawn} {ch : List Addr} (I : Inv X pins σ H s) (u : Un (frs X.stack) ch H H' s.heap h') (hok : HOk X.prog X.w H' h') (hg : AllBare g')
    (hch : ∀ b ∈ ch, (b ∈ X.ex ∨ X.s₀.heap.objs.size ≤ b) ∧ b ≠ X.env.locals ∧ (∀ x c, X.env.cells.lookup x = some c → c ≠ b) ∧ ∀ p ∈ X.pn ++ pins, p.1 ≠ b) :
    Inv X pins σ H' { s with heap := h', gens := g', drawn := d', toks := t' } := by
  obtain ⟨m, ⟨o, es, ep, ho, r⟩, _⟩ := id I.loc
  obtain ⟨sl, hL⟩ := u.any ho I.free fun z => (hch _ z).2.1 rfl
  exact I.step (ch := ch) hch (fun b o hL hb hc e n => u.keep b o e n (fun z => (List.mem_cons.mp (I.stkSub b z)).elim hL hb) hc) (fun b o _ _ hc e n => u.any e n hc) (fun b o hc e n => u.free b o e n hc) (fun b o hc e => u.there b o e hc) u.tups u.frzs u.tbls (fun m' hm => by
    obtain ⟨o', es', ep', ho', r'⟩ := hm
    rw [ho] at ho'; cases ho'
    exact ⟨_, es', ep', hL, r'⟩) hok hg
theorem Inv.turned {t' : Nat} {it : Addr} (I : Inv X pins σ H s) (k : ∀ b o, b ≠ it → s.heap.get? b = some o → h'.get? b = some o) (hn : H it = none) (hL : it ≠ X.env.locals)
    (h1 : it ∈ X.ex ∨ X.s₀.heap.objs.size ≤ it) (h2 : ∀ x c, X.env.cells.lookup x = some c → c ≠ it) (h3 : ∀ p ∈ X.pn ++ pins, p.1 ≠ it) : Inv X pins σ H { s with heap := h', toks := t' } := by
  have nit : ∀ b u, H b = some u → b ≠ it := fun b u e z => by rw [z, hn] at e; cases e
  refine I.step (g' := s.gens) (d' := s.drawn) (ch := [it]) (fun b hb => ?_) (fun b o _ _ hc e _ => k b o (fun z => hc (by simp [z])) e) (fun b o _ _ hc e _ => ⟨o.slots, k b o (fun z => hc (by simp [z])) e⟩) (fun _ _ _ _ n => n)
    (fun b o hc e => ⟨o, k b o (fun z => hc (by simp [z])) e⟩) (fun _ _ e => e) (fun _ _ _ e => e) (fun b ps e => ⟨#[], by rw [e]; simp⟩) (fun m hm => ?_) (fun b u e => ?_) I.bare
  · have e : b = it := by simpa using hb
    subst e
    exact ⟨h1, hL, h2, h3⟩
  · obtain ⟨o, es, ep, ho, r⟩ := hm
    exact ⟨o, es, ep, k _ o (Ne.symm hL) ho, r⟩
  · refine (I.hok b u e).stay (fun c v hc q => k c v ?_ q) (fun _ q => q) fun _ _ q => q
    rcases hc with z | z
    · rw [z]; exact nit b u e
    · exact nit c _ z
theorem Inv.tok (I : Inv X pins σ H s) (t : Nat) : Inv X pins σ H { s with toks := t } := I.un (h' := s.heap) (t' := t) Un.refl I.hok
theorem Inv.kept {t' : Nat} (I : Inv X pins σ H s) (k : ∀ b u, s.heap.get? b = some u → h'.get? b = some u) : Inv X pins σ H { s with heap := h', toks := t' } := I.un (Un.kept k) (I.hok.kept k)
theorem Inv.laid {a : Addr} {o : HO} {t' : Nat} (I : Inv X pins σ H s) (k : ∀ b u, s.heap.get? b = some u → h'.get? b = some u) (hp : s.heap.objs.size ≤ a) (new : ObjOk X.prog X.w (upd H a o) h' a o) :
    Inv X pins σ (upd H a o) { s with heap := h', toks := t' } := I.un (Un.laid k hp (I.hok.fresh hp)) (I.hok.laid k hp new)
theorem Inv.write {x e : Addr} {o : HO} {t' : Nat} (I : Inv X pins σ H s) (mu : Mut (H x)) (he : e = x ∨ H e = some (.own x)) (k : ∀ b u, b ≠ e → s.heap.get? b = some u → h'.get? b = some u) (heo : ∃ u, h'.get? e = some u)
    (new : ObjOk X.prog X.w (upd H x o) h' x o) : Inv X pins σ (upd H x o) { s with heap := h', toks := t' } := I.un (Un.write mu he k heo) (I.hok.write mu he k heo new)
theorem Inv.weak {σ' : List (Option V)} (I : Inv X pins σ H s) (hl : σ'.length = σ.length) (w : ∀ (i : Nat) v, σ'[i]? = some (some v) → σ[i]? = some (some v)) : Inv X pins σ' H s :=
  ⟨I.ok, I.os, I.bare, I.base, let ⟨m, hn, hl'⟩ := I.loc; ⟨m, hn, fun i x v e1 e2 e3 => hl' i x v e1 (w i v e2) e3⟩, I.cell, I.free, I.freeC, I.pin, I.hok, hl.trans I.len⟩
theorem Inv.pins_of {pins' : List (Addr × Obj)} (I : Inv X pins σ H s) (h : ∀ p ∈ pins', s.heap.get? p.1 = some p.2 ∧ H p.1 = none ∧ p.1 ≠ X.env.locals ∧ p.1 ∉ X.fs ∧ ∀ v, p.2.data ≠ .cell v) : Inv X pins' σ H s :=
  ⟨I.ok, I.os, I.bare, I.base, I.loc, I.cell, I.free, I.freeC, fun p hp => (List.mem_append.mp hp).elim (fun z => I.pin p (List.mem_append_left _ z)) (h p), I.hok, I.len⟩

theorem nodup_ix {N : List Str} (hN : N.Nodup) {i j : Nat} {x : Str} (a : N[i]? = some x) (b : N[j]? = some x) : i = j := by
  obtain ⟨h1, e1⟩ := List.getElem?_eq_some_iff.mp a
  obtain ⟨h2, e2⟩ := List.getElem?_eq_some_iff.mp b
  exact (List.getElem_inj hN).mp (e1.trans e2.symm)

theorem store_ok2 {M : Model} {A : Around} {E : Value → Shared → Prop} {i : Nat} {x : Str} {v : V} {u : Value} {Q : Unit → Shared → Prop} (I : Inv X pins σ H s) (hN : X.N.Nodup) (hi : X.N[i]? = some x) (hx : Loc X.env.scope x) (r : RelV v u)
    (h : ∀ s', Inv X pins (σ.set i (some v)) H s' → (∃ a, Heap.SameBut a s.heap s'.heap ∧ (a = X.env.locals ∨ X.env.cells.lookup x = some a)) → Q () s') (hf : X.fn x = true ∨ X.env.scope.names.lookup x = some .local := by first | exact .inl rfl | exact .inr rfl | assumption) : wpAny M A (storeName X.env x u) Q E s := by
  obtain ⟨m, hn, hl⟩ := id I.loc
  have hcls : (X.env.scope.kind == .class || (X.env.scope.kind == .module && X.env.locals != X.env.globals)) = false := by rw [I.ok.kind]; rfl
  have hiσ : i < σ.length := by rw [I.len]; exact (List.getElem?_eq_some_iff.mp hi).1
  have cne := I.cne
  have tracked : ∀ {a : Addr} {h' : Heap}, (∃ o, s.heap.get? a = some o ∧ H a = none) → Heap.SameBut a s.heap h' → HOk X.prog X.w H h' := fun {a h'} ha hs b ob e => by
    obtain ⟨_, _, hfree⟩ := ha
    refine (I.hok b ob e).stay (fun c w' hc q => (hs.2 c ?_).trans q) (fun _ q => q) fun _ _ q => q
    rintro rfl
    rcases hc with rfl | hc
    · rw [hfree] at e; cases e
    · rw [hfree] at hc; cases hc
  rcases hx with hk | hk
  · refine wpAny_storeName_local hk hn (fun h' hn' hs => ?_) hcls
    obtain ⟨oL, _, _, hoL, _⟩ := id hn
    refine h _ ⟨I.ok, I.os, I.bare, ⟨fun b o e n hb hx => ?_, fun b o e n hb hx => ?_, I.base.free, fun b o e hx => ?_, I.base.tups, I.base.frzs, I.base.tbls⟩, ⟨_, hn', fun j y v' e1 e2 e3 => ?_⟩, fun y c e => ?_, I.free, I.freeC, fun p hp => ?_, tracked ⟨oL, hoL, I.free⟩ hs, by simpa using I.len⟩ ⟨_, hs, .inl rfl⟩
    · exact (hs.2 b (Nat.ne_of_lt (Nat.lt_of_lt_of_le (Heap.lt_size e) I.ok.above))).trans (I.base.keep b o e n hb hx)
    · obtain ⟨sl, e1⟩ := I.base.slot b o e n hb hx
      exact ⟨sl, (hs.2 b (Nat.ne_of_lt (Nat.lt_of_lt_of_le (Heap.lt_size e) I.ok.above))).trans e1⟩
    · obtain ⟨o', e1⟩ := I.base.there b o e hx
      exact ⟨o', (hs.2 b (Nat.ne_of_lt (Nat.lt_of_lt_of_le (Heap.lt_size e) I.ok.above))).trans e1⟩
    · by_cases hj : j = i
      · subst hj
        rw [hi] at e1; cases e1
        rw [List.getElem?_set_self hiσ] at e2
        cases e2
        exact ⟨u, r, .inl ⟨hk, by simp⟩⟩
      · rw [List.getElem?_set_ne (Ne.symm hj)] at e2
        obtain ⟨u', r', q⟩ := hl j y v' e1 e2 e3
        refine ⟨u', r', ?_⟩
        rcases q with ⟨k, e⟩ | ⟨k, c, e, z⟩
        · refine .inl ⟨k, ?_⟩
          have : y ≠ x := fun e => hj (nodup_ix hN e1 (e ▸ hi))
          simp [this, e]
        · exact .inr ⟨k, c, e, z.sameBut hs (cne y c e)⟩
    · obtain ⟨w', z⟩ := I.cell y c e
      exact ⟨w', z.sameBut hs (cne y c e)⟩
    · obtain ⟨e, n, ne, nf, d⟩ := I.pin p hp
      exact ⟨(hs.2 p.1 ne).trans e, n, ne, nf, d⟩
  · have hfn : X.fn x = true := by
      rcases hf with z | z
      · exact z
      · rw [z] at hk; cases hk
    obtain ⟨c, hc⟩ := I.ok.has x (.inl hk)
    obtain ⟨w', z⟩ := I.cell x c hc
    refine wpAny_storeName_cell I.ok.kind hk hc z (fun h' hc' hs => ?_)
    obtain ⟨oc, hoc, hocd⟩ := id z
    refine h { s with heap := h' } ⟨I.ok, I.os, I.bare, ⟨fun b o e n hb hx => ?_, fun b o e n hb hx => ?_, I.base.free, fun b o e hx => ?_, I.base.tups, I.base.frzs, I.base.tbls⟩, ⟨m, hn.sameBut hs (Ne.symm (cne x c hc)), fun j y v' e1 e2 e3 => ?_⟩, fun y c' e => ?_, I.free, I.freeC, fun p hp => ?_, tracked ⟨oc, hoc, I.freeC x c hc⟩ hs, by simpa using I.len⟩ ⟨c, hs, .inr hc⟩
    · exact (hs.2 b (Nat.ne_of_lt (Nat.lt_of_lt_of_le (Heap.lt_size e) (I.ok.cab x c hfn hc)))).trans (I.base.keep b o e n hb hx)
    · obtain ⟨sl, e1⟩ := I.base.slot b o e n hb hx
      exact ⟨sl, (hs.2 b (Nat.ne_of_lt (Nat.lt_of_lt_of_le (Heap.lt_size e) (I.ok.cab x c hfn hc)))).trans e1⟩
    · obtain ⟨o', e1⟩ := I.base.there b o e hx
      exact ⟨o', (hs.2 b (Nat.ne_of_lt (Nat.lt_of_lt_of_le (Heap.lt_size e) (I.ok.cab x c hfn hc)))).trans e1⟩
    · by_cases hj : j = i
      · subst hj
        rw [hi] at e1; cases e1
        rw [List.getElem?_set_self hiσ] at e2
        cases e2
        exact ⟨u, r, .inr ⟨.inl hk, c, hc, hc'⟩⟩
      · rw [List.getElem?_set_ne (Ne.symm hj)] at e2
        obtain ⟨u', r', q⟩ := hl j y v' e1 e2 e3
        refine ⟨u', r', ?_⟩
        rcases q with q | ⟨k, c', e, z'⟩
        · exact .inl q
        · refine .inr ⟨k, c', e, z'.sameBut hs ?_⟩
          rintro rfl
          exact hj (nodup_ix hN e1 (I.ok.inj _ _ _ e hc ▸ hi))
    · by_cases hcc : c' = c
      · subst hcc; exact ⟨_, hc'⟩
      · obtain ⟨w2, z2⟩ := I.cell y c' e
        exact ⟨w2, z2.sameBut hs hcc⟩
    · obtain ⟨e, n, ne, nf, d⟩ := I.pin p hp
      refine ⟨(hs.2 p.1 ?_).trans e, n, ne, nf, d⟩
      intro q
      rw [q, hoc] at e
      have q' : oc = p.2 := Option.some.inj e
      exact d w' (by rw [← q']; exact hocd)
theorem store_ok {M : Model} {A : Around} {E : Value → Shared → Prop} {i : Nat} {x : Str} {v : V} {u : Value} {Q : Unit → Shared → Prop} (I : Inv X pins σ H s) (hN : X.N.Nodup) (hi : X.N[i]? = some x) (hx : Loc X.env.scope x) (r : RelV v u)
    (h : ∀ s', Inv X pins (σ.set i (some v)) H s' → Q () s') (hf : X.fn x = true ∨ X.env.scope.names.lookup x = some .local := by first | exact .inl rfl | exact .inr rfl | assumption) : wpAny M A (storeName X.env x u) Q E s :=
  store_ok2 I hN hi hx r (fun s' I' _ => h s' I') hf
theorem Inv.call' {s' : Shared} {ch : List Addr} (I : Inv X pins σ H s) (ho : s'.os = s.os) (u : Un (frs X.stack) ch H H' s.heap s'.heap) (hok : HOk X.prog X.w H' s'.heap) (hg : AllBare s'.gens)
    (hch : ∀ b ∈ ch, (b ∈ X.ex ∨ X.s₀.heap.objs.size ≤ b) ∧ b ≠ X.env.locals ∧ (∀ x c, X.env.cells.lookup x = some c → c ≠ b) ∧ ∀ p ∈ X.pn ++ pins, p.1 ≠ b) : Inv X pins σ H' s' := by
  obtain ⟨h', g', d', t', o'⟩ := s'
  have e : o' = s.os := ho
  subst e
  exact I.call (g' := g') (t' := t') (d' := d') u hok hg hch
end

abbrev XK := Value → Option Addr → Hp → Prop
abbrev St := List (Option V)
abbrev VK := V → Hp → Prop
abbrev TE := St → Hp → VK → Prop
abbrev TT := St → Hp → (Bool → Hp → Prop) → Prop
abbrev TA := St → Hp → (List V → Hp → Prop) → Prop
structure Ends where
  nx : St → Hp → Prop
  rt : VK
  bk : St → Hp → Prop := fun _ _ => False
  ct : St → Hp → Prop := fun _ _ => False
abbrev TS := Ends → St → Hp → Prop

def EP (X : Cx) (pins : List (Addr × Obj)) (σ : St) (Q : VK) (u : Value) (s' : Shared) : Prop := ∃ v H', Inv X pins σ H' s' ∧ RelV v u ∧ Q v H'
def TP (X : Cx) (pins : List (Addr × Obj)) (σ : St) (Q : Bool → Hp → Prop) (b : Bool) (s' : Shared) : Prop := ∃ H', Inv X pins σ H' s' ∧ Q b H'
def AP (X : Cx) (pins : List (Addr × Obj)) (σ : St) (Q : List V → Hp → Prop) (us : List Value) (s' : Shared) : Prop := ∃ vs H', Inv X pins σ H' s' ∧ Vals vs us ∧ Q vs H'
def SP (X : Cx) (pins : List (Addr × Obj)) (D : Ends) (f : Flow) (s' : Shared) : Prop :=
  match f with
  | .next => ∃ σ' H', Inv X pins σ' H' s' ∧ D.nx σ' H'
  | .brk => ∃ σ' H', Inv X pins σ' H' s' ∧ D.bk σ' H'
  | .cont => ∃ σ' H', Inv X pins σ' H' s' ∧ D.ct σ' H'
  | .ret u => ∃ v σ' H', Inv X pins σ' H' s' ∧ RelV v u ∧ D.rt v H'

def PE (X : Cx) (e : Expr) (t : TE) : Prop :=
  ∀ (pins : List (Addr × Obj)) (s : Shared) (σ : St) (H : Hp) (Q : VK), Inv X pins σ H s → t σ H Q → wpAny (model X.prog X.w) X.A (eval e X.env) (EP X pins σ Q) X.xe s
def PT (X : Cx) (e : Expr) (t : TT) : Prop :=
  ∀ (pins : List (Addr × Obj)) (s : Shared) (σ : St) (H : Hp) (Q : Bool → Hp → Prop), Inv X pins σ H s → t σ H Q → wpAny (model X.prog X.w) X.A (isTrue e X.env (eval e X.env)) (TP X pins σ Q) X.xe s
def PW (X : Cx) (e : Expr) (t : TT) : Prop :=
  ∀ (whole : Sem Value) (pins : List (Addr × Obj)) (s : Shared) (σ : St) (H : Hp) (Q : Bool → Hp → Prop), Inv X pins σ H s → t σ H Q → wpAny (model X.prog X.w) X.A (isTrue e X.env whole) (TP X pins σ Q) X.xe s
theorem PW.pt {X : Cx} {e : Expr} {t : TT} (h : PW X e t) : PT X e t := h _
def PA (X : Cx) (es : List Expr) (t : TA) : Prop :=
  ∀ (pos : Pos) (pins : List (Addr × Obj)) (s : Shared) (σ : St) (H : Hp) (Q : List V → Hp → Prop), Inv X pins σ H s → t σ H Q → wpAny (model X.prog X.w) X.A (spliced (backTo pos (starEach es X.env))) (AP X pins σ Q) X.xe s
def PS (X : Cx) (st : Stmt) (t : TS) : Prop :=
  ∀ (pins : List (Addr × Obj)) (s : Shared) (σ : St) (H : Hp) (D : Ends), Inv X pins σ H s → t D σ H → wpAny (model X.prog X.w) X.A (exec st X.env) (SP X pins D) X.xe s
def PSs (X : Cx) (st : List Stmt) (t : TS) : Prop :=
  ∀ (pins : List (Addr × Obj)) (s : Shared) (σ : St) (H : Hp) (D : Ends), Inv X pins σ H s → t D σ H → wpAny (model X.prog X.w) X.A (execs st X.env) (SP X pins D) X.xe s
theorem thn {α : Type} {t : Sem α} {Q Q' : α → Shared → Prop} {M : Model} {A : Around} {E : Value → Shared → Prop} {s : Shared} (h : wpAny M A t Q E s) (hQ : ∀ a s, Q a s → Q' a s) : wpAny M A t Q' E s := wpAny_mono h hQ fun _ _ x => x
end L2

namespace L2
open PySem PySem.Spec PyProof.Rows
section
variable {X : Cx}


def tVar (i : Nat) : TE := fun σ H Q => ∃ v, σ[i]? = some (some v) ∧ Q v H
def tC (v : V) : TE := fun _ H Q => Q v H
theorem pe_var {i : Nat} {x : Str} {pos : Pos} (hN : X.N[i]? = some x) (hv : Vis X.env.scope x) (hd : (x == ("__debug__" : Str)) = false := by decide) (hcd : (x == ("__classdict__" : Str)) = false := by decide) : PE X (.Name x pos) (tVar i) := by
  intro pins s σ H Q I h
  obtain ⟨v, e, h⟩ := h
  obtain ⟨m, hn, hl⟩ := I.loc
  obtain ⟨u, r, l⟩ := hl i x v hN e hv
  have fin : EP X pins σ Q u s := ⟨v, H, I, r, h⟩
  rcases l with ⟨hk, hm⟩ | ⟨hk, c, hc, hcell⟩
  · exact wpAny_Name (wpAny_loadName_local I.ok.kind hk hn hm fin) hd
  · rcases hk with hk | hk
    · exact wpAny_Name (wpAny_loadName_cell I.ok.kind hk hc hcell fin) hd
    · exact wpAny_Name (wpAny_loadName_free I.ok.kind hk hc hcell fin hcd) hd
theorem pe_int {i j pos} : PE X (.Constant (.int i) j pos) (tC (.int i)) := fun _ _ _ H _ I h => wpAny_Constant_int ⟨.int i, H, I.tok _, ⟨_, rfl⟩, h⟩
theorem pe_bl {b j pos} : PE X (.Constant (.bool b) j pos) (tC (.bl b)) := fun _ _ _ H _ I h => Constant_bool ⟨.bl b, H, I, rfl, h⟩
theorem pe_non {j pos} : PE X (.Constant .none j pos) (tC .non) := fun _ _ _ H _ I h => Constant_none ⟨.non, H, I, rfl, h⟩
theorem pe_str {x j pos} : PE X (.Constant (.str x) j pos) (tC (.str x)) := fun _ _ _ H _ I h => Calls.Constant_str ⟨.str x, H, I.tok _, ⟨_, rfl⟩, h⟩

def Gl (X : Cx) (x : Str) : Prop := X.env.kindOf x = some .globalImplicit
theorem ld_glob {E : Value → Shared → Prop} {pins : List (Addr × Obj)} {s : Shared} {σ : St} {H : Hp} {x : Str} {u : Value} {pos : Pos} {Q : Value → Shared → Prop} (I : Inv X pins σ H s) (hg : Gl X x) (hm : X.mg x = some u) (h : Q u s)
    (hd : (x == ("__debug__" : Str)) = false := by decide) : wpAny (model X.prog X.w) X.A (eval (.Name x pos) X.env) Q E s :=
  Calls.Name_function_global I.ok.kind hg (Calls.loadGlobal_global (by rw [I.ok.glob]; exact I.mod.glob.keeps I.bk) hm h) hd
theorem ld_blt {E : Value → Shared → Prop} {pins : List (Addr × Obj)} {s : Shared} {σ : St} {H : Hp} {x : Str} {u : Value} {pos : Pos} {Q : Value → Shared → Prop} (I : Inv X pins σ H s) (hg : Gl X x) (hm : X.mg x = none) (hv : bootBuiltins x = some u) (h : Q u s)
    (hn : x ≠ "__name__" := by decide) (hd : (x == ("__debug__" : Str)) = false := by decide) : wpAny (model X.prog X.w) X.A (eval (.Name x pos) X.env) Q E s := by
  obtain ⟨mb, h1, h2⟩ := I.mod.blt
  exact Calls.Name_function_global I.ok.kind hg (Calls.loadGlobal_builtin (by rw [I.ok.glob]; exact I.mod.glob.keeps I.bk) hm (by rw [I.ok.blt]; exact h1.keeps I.bk) ((h2 x hn).trans hv) h) hd
theorem pe_glob {x : Str} {v : V} {u : Value} {pos : Pos} (hg : Gl X x) (hm : X.mg x = some u) (r : RelV v u) (hd : (x == ("__debug__" : Str)) = false := by decide) : PE X (.Name x pos) (tC v) :=
  fun _ _ _ H _ I h => ld_glob I hg hm ⟨v, H, I, r, h⟩ hd
theorem pe_bltn {x : Str} {v : V} {u : Value} {pos : Pos} (hg : Gl X x) (hm : X.mg x = none) (hv : bootBuiltins x = some u) (r : RelV v u) (hn : x ≠ "__name__" := by decide) (hd : (x == ("__debug__" : Str)) = false := by decide) : PE X (.Name x pos) (tC v) :=
  fun _ _ _ H _ I h => ld_blt I hg hm hv ⟨v, H, I, r, h⟩ hn hd

variable {a b : Expr} {ta tb : TE} {pos : Pos}

def tB (t : TE) : TT := fun σ H Q => t σ H fun x H1 => ∃ c, x = .bl c ∧ Q c H1
theorem pt_val {e : Expr} {t : TE} (h : PE X e t) (he : ∀ whole, isTrue e X.env whole = (do let v ← whole; standAt e.pos; holding [v] (truthy v)) := by intro _; rfl) : PT X e (tB t) := by
  intro pins s σ H Q I hw
  refine isTrue_plain (thn (h pins s σ H _ I hw) fun v s1 ⟨x, H1, I1, r1, q1⟩ => ?_) (he _)
  obtain ⟨d, rfl, q⟩ := q1
  cases r1
  exact wpAny_truthy_bool ⟨H1, I1, q⟩

variable {tA tB' : TT} {rest : List Expr}
def tAnd (t u : TT) : TT := fun σ H Q => t σ H fun c H1 => if c = true then u σ H1 Q else Q false H1
def tOr (t u : TT) : TT := fun σ H Q => t σ H fun c H1 => if c = true then Q true H1 else u σ H1 Q
def tNot (t : TT) : TT := fun σ H Q => t σ H fun c H1 => Q (!c) H1
theorem pw_and1 (ha : PT X a tA) : PW X (.BoolOp .And [a] pos) tA := by
  intro wh pins s σ H Q I h
  refine isTrue_and (thn (ha pins s σ H Q I h) fun c s1 e => ?_)
  cases c with
  | true => exact isTrue_and_nil e
  | false => exact e
theorem pw_or1 (ha : PT X a tA) : PW X (.BoolOp .Or [a] pos) tA := by
  intro wh pins s σ H Q I h
  refine isTrue_or (thn (ha pins s σ H Q I h) fun c s1 e => ?_)
  cases c with
  | false => exact isTrue_or_nil e
  | true => exact e
theorem pw_and (ha : PT X a tA) (hb : PW X (.BoolOp .And (b :: rest) pos) tB') : PW X (.BoolOp .And (a :: b :: rest) pos) (tAnd tA tB') := by
  intro wh pins s σ H Q I h
  refine isTrue_and (thn (ha pins s σ H _ I h) fun c s1 ⟨H1, I1, q1⟩ => ?_)
  cases c with
  | true => exact hb wh pins s1 σ H1 Q I1 q1
  | false => exact ⟨H1, I1, q1⟩
theorem pw_or (ha : PT X a tA) (hb : PW X (.BoolOp .Or (b :: rest) pos) tB') : PW X (.BoolOp .Or (a :: b :: rest) pos) (tOr tA tB') := by
  intro wh pins s σ H Q I h
  refine isTrue_or (thn (ha pins s σ H _ I h) fun c s1 ⟨H1, I1, q1⟩ => ?_)
  cases c with
  | true => exact ⟨H1, I1, q1⟩
  | false => exact hb wh pins s1 σ H1 Q I1 q1
theorem pt_not (ha : PT X a tA) : PT X (.UnaryOp .Not a pos) (tNot tA) := by
  intro pins s σ H Q I h
  exact isTrue_not (ha pins s σ H (fun c H1 => Q (!c) H1) I h)
def tAndV (ta tb : TE) : TE := fun σ H Q => ta σ H fun x H1 => ∃ c, x = .bl c ∧ if c = true then tb σ H1 Q else Q (.bl false) H1
def tOrV (ta tb : TE) : TE := fun σ H Q => ta σ H fun x H1 => ∃ c, x = .bl c ∧ if c = true then Q (.bl true) H1 else tb σ H1 Q
def tNotV (ta : TE) : TE := fun σ H Q => ta σ H fun x H1 => ∃ c, x = .bl c ∧ Q (.bl (!c)) H1
theorem pe_one {op} {t : TE} (h : PE X a t) : PE X (.BoolOp op [a] pos) t := fun pins s σ H Q I hw => BoolOp_one (h pins s σ H Q I hw)
theorem pe_and (ha : PE X a ta) (hb : PE X (.BoolOp .And (b :: rest) pos) tb) : PE X (.BoolOp .And (a :: b :: rest) pos) (tAndV ta tb) := by
  intro pins s σ H Q I h
  refine BoolOp_and (thn (ha pins s σ H _ I h) fun v s1 ⟨x, H1, I1, r1, q1⟩ => ?_)
  obtain ⟨c, rfl, q1⟩ := q1
  cases r1
  refine wpAny_truthy_bool ?_
  cases c with
  | true => exact hb pins s1 σ H1 Q I1 q1
  | false => exact ⟨.bl false, H1, I1, rfl, q1⟩
theorem pe_or (ha : PE X a ta) (hb : PE X (.BoolOp .Or (b :: rest) pos) tb) : PE X (.BoolOp .Or (a :: b :: rest) pos) (tOrV ta tb) := by
  intro pins s σ H Q I h
  refine BoolOp_or (thn (ha pins s σ H _ I h) fun v s1 ⟨x, H1, I1, r1, q1⟩ => ?_)
  obtain ⟨c, rfl, q1⟩ := q1
  cases r1
  refine wpAny_truthy_bool ?_
  cases c with
  | false => exact hb pins s1 σ H1 Q I1 q1
  | true => exact ⟨.bl true, H1, I1, rfl, q1⟩
theorem pe_not (ha : PE X a ta) : PE X (.UnaryOp .Not a pos) (tNotV ta) := by
  intro pins s σ H Q I h
  refine UnaryOp_ (thn (ha pins s σ H _ I h) fun v s1 ⟨x, H1, I1, r1, q1⟩ => ?_)
  obtain ⟨c, rfl, q1⟩ := q1
  cases r1
  exact not_of (wpAny_truthy_bool ⟨.bl (!c), H1, I1, rfl, q1⟩)
def tIf (t : TT) (ta tb : TE) : TE := fun σ H Q => t σ H fun c H1 => if c = true then ta σ H1 Q else tb σ H1 Q
theorem pe_ifExp {c : Expr} (hc : PT X c tA) (ha : PE X a ta) (hb : PE X b tb) : PE X (.IfExp c a b pos) (tIf tA ta tb) := by
  intro pins s σ H Q I h
  refine wpAny_IfExp (thn (hc pins s σ H _ I h) fun d s1 ⟨H1, I1, q1⟩ => ?_)
  cases d with
  | true => exact ha pins s1 σ H1 Q I1 q1
  | false => exact hb pins s1 σ H1 Q I1 q1
end
end L2

namespace L2
open PySem PySem.Spec PyProof.Rows

def SqL (K : PySem.W.Frag) (H : Hp) (a : Addr) (xs : List V) : Prop :=
  Rd H a (.lst xs) ∨
    ∃ (o : Obj) (its : Array Value) (n : Nat), K.lookup a = some o ∧ o.cls = .type "list" ∧ o.dict = none ∧ o.data = .seq its n ∧ its.size ≤ sizeLine ∧ Vals xs its.toList
def SqT (K : PySem.W.Frag) (H : Hp) (a : Addr) (xs : List V) : Prop :=
  Rd H a (.tup xs) ∨
    ∃ (o : Obj) (its : Array Value) (n : Nat), K.lookup a = some o ∧ o.cls = .type "tuple" ∧ o.data = .seq its n ∧ its.size ≤ sizeLine ∧ Vals xs its.toList
def absV : Value → Option V
  | .none => some .non
  | .bool b => some (.bl b)
  | .int i _ => some (.int i)
  | .str x _ => some (.str x)
  | .bytes b _ => some (.byt b)
  | .float b _ => some (.flt b)
  | .ref a => some (.ref a)
  | .type n => some (.ty n)
  | _ => none
theorem RelV.abs {x : V} {u : Value} (r : RelV x u) : absV u = some x := by
  cases x with
  | non => cases r; rfl
  | bl _ => cases r; rfl
  | int _ => obtain ⟨t, rfl⟩ := r; rfl
  | str _ => obtain ⟨t, rfl⟩ := r; rfl
  | byt _ => obtain ⟨t, rfl⟩ := r; rfl
  | flt _ => obtain ⟨t, rfl⟩ := r; rfl
  | ref _ => cases r; rfl
  | ty _ => cases r; rfl
theorem RelV.inj {x y : V} {u : Value} (r : RelV x u) (q : RelV y u) : x = y := Option.some.inj (r.abs.symm.trans q.abs)
theorem Vals.inj : ∀ {xs ys : List V} {us : List Value}, Vals xs us → Vals ys us → xs = ys
  | _, _, _, .nil, .nil => rfl
  | _, _, _, .cons r t, .cons r' t' => by rw [r.inj r', Vals.inj t t']
section
variable {X : Cx} {pins : List (Addr × Obj)} {σ : St} {H : Hp} {s : Shared} {a : Addr} {xs ys : List V}
theorem SqL.of {K : PySem.W.Frag} (h : H a = some (.lst xs)) : SqL K H a xs := .inl (.inl h)
theorem SqT.of {K : PySem.W.Frag} (h : H a = some (.tup xs)) : SqT K H a xs := .inl (.inl h)
theorem Inv.list (I : Inv X pins σ H s) (h : SqL X.K H a xs) : ∃ its : List Value, Vals xs its ∧ PlainL s.heap a its.toArray ∧ xs.length ≤ sizeLine := by
  rcases h with h | ⟨o, its, n, hk, hc, hd, hs, hz, r⟩
  · obtain ⟨z, its, n, r, e⟩ := h.ok I.hok
    exact ⟨its, r, ⟨_, n, e, rfl, rfl, rfl⟩, z⟩
  · refine ⟨its.toList, r, ⟨o, n, I.kIn a o hk, hc, hd, by simpa using hs⟩, ?_⟩
    have e := r.length
    simp only [Array.length_toList] at e
    omega
theorem Inv.tuple (I : Inv X pins σ H s) (h : SqT X.K H a xs) : ∃ its : List Value, Vals xs its ∧ IsTup s.heap a its.toArray ∧ xs.length ≤ sizeLine := by
  rcases h with h | ⟨o, its, n, hk, hc, hs, hz, r⟩
  · obtain ⟨z, its, r, p⟩ := h.ok I.hok
    exact ⟨its, r, p, z⟩
  · refine ⟨its.toList, r, ⟨o, I.kIn a o hk, hc, n, by simpa using hs⟩, ?_⟩
    have e := r.length
    simp only [Array.length_toList] at e
    omega
theorem Inv.list_inj (I : Inv X pins σ H s) (h : SqL X.K H a xs) (h' : SqL X.K H a ys) : xs = ys := by
  obtain ⟨its, r, ⟨o, n, e, _, _, d⟩, _⟩ := I.list h
  obtain ⟨its', r', ⟨o', n', e', _, _, d'⟩, _⟩ := I.list h'
  rw [e] at e'; cases e'
  rw [d] at d'
  injection d' with d1 _
  have : its = its' := by simpa using congrArg Array.toList d1
  subst this
  exact r.inj r'
theorem Inv.tuple_inj (I : Inv X pins σ H s) (h : SqT X.K H a xs) (h' : SqT X.K H a ys) : xs = ys := by
  obtain ⟨its, r, ⟨o, e, _, n, d⟩, _⟩ := I.tuple h
  obtain ⟨its', r', ⟨o', e', _, n', d'⟩, _⟩ := I.tuple h'
  rw [e] at e'; cases e'
  rw [d] at d'
  injection d' with d1 _
  have : its = its' := by simpa using congrArg Array.toList d1
  subst this
  exact r.inj r'
end

abbrev Cx.wish (X : Cx) (E : Value → Shared → Prop) : Cx := { X with xe := E }
abbrev Cx.nox (X : Cx) : Cx := X.wish fun _ _ => False
theorem Cx.Ok.wish {X : Cx} (ok : X.Ok) (E : Value → Shared → Prop) : (X.wish E).Ok :=
  ⟨ok.mod, ok.kind, ok.glob, ok.blt, ok.above, ok.inj, ok.has, ok.cab, ok.hd, ok.frames, ok.stk, ok.exf, ok.bs, ok.bsz, ok.noex, ok.exfs, ok.funs, ok.frf⟩
theorem Cx.Ok.unwish {X : Cx} {E : Value → Shared → Prop} (ok : (X.wish E).Ok) : X.Ok :=
  ⟨ok.mod, ok.kind, ok.glob, ok.blt, ok.above, ok.inj, ok.has, ok.cab, ok.hd, ok.frames, ok.stk, ok.exf, ok.bs, ok.bsz, ok.noex, ok.exfs, ok.funs, ok.frf⟩
section
variable {X : Cx} {pins : List (Addr × Obj)} {σ : St} {H : Hp} {s : Shared} {E : Value → Shared → Prop}
theorem Inv.wish (I : Inv X pins σ H s) (E : Value → Shared → Prop) : Inv (X.wish E) pins σ H s := ⟨I.ok.wish E, I.os, I.bare, I.base, I.loc, I.cell, I.free, I.freeC, I.pin, I.hok, I.len⟩
theorem Inv.unwish (I : Inv (X.wish E) pins σ H s) : Inv X pins σ H s := ⟨I.ok.unwish, I.os, I.bare, I.base, I.loc, I.cell, I.free, I.freeC, I.pin, I.hok, I.len⟩
theorem SP.unwish {D : Ends} {f : Flow} {s' : Shared} (h : SP (X.wish E) pins D f s') : SP X pins D f s' := by
  cases f with
  | next => obtain ⟨σ', H', I, q⟩ := h; exact ⟨σ', H', I.unwish, q⟩
  | brk => obtain ⟨σ', H', I, q⟩ := h; exact ⟨σ', H', I.unwish, q⟩
  | cont => obtain ⟨σ', H', I, q⟩ := h; exact ⟨σ', H', I.unwish, q⟩
  | ret u => obtain ⟨v, σ', H', I, r, q⟩ := h; exact ⟨v, σ', H', I.unwish, r, q⟩
theorem PE.nox {e : Expr} {t : TE} (h : PE X.nox e t) : PE X e t := fun pins s σ H Q I hw =>
  wpAny_mono (h pins s σ H Q (I.wish _) hw) (fun _ _ ⟨v, H', I', r, q⟩ => ⟨v, H', I'.unwish, r, q⟩) fun _ _ z => False.elim z
theorem PT.nox {e : Expr} {t : TT} (h : PT X.nox e t) : PT X e t := fun pins s σ H Q I hw =>
  wpAny_mono (h pins s σ H Q (I.wish _) hw) (fun _ _ ⟨H', I', q⟩ => ⟨H', I'.unwish, q⟩) fun _ _ z => False.elim z
theorem PSs.nox {st : List Stmt} {t : TS} (h : PSs X.nox st t) : PSs X st t := fun pins s σ H D I hw =>
  wpAny_mono (h pins s σ H D (I.wish _) hw) (fun _ _ q => q.unwish) fun _ _ z => False.elim z
end

section
variable {X : Cx} {st : Stmt} {rest : List Stmt} {t u : TS} {e : Expr} {te : TE} {pos : Pos}
def tNext : TS := fun D σ H => D.nx σ H
def tSeq (t u : TS) : TS := fun D σ H => t { D with nx := u D } σ H
theorem pss_nil : PSs X [] tNext := fun _ _ σ H _ I h => wpAny_execs_nil ⟨σ, H, I, h⟩
theorem pss_cons (h1 : PS X st t) (h2 : PSs X rest u) : PSs X (st :: rest) (tSeq t u) := by
  intro pins s σ H D I h
  refine wpAny_execs_cons (thn (h1 pins s σ H { D with nx := u D } I h) fun f s1 q => ?_)
  cases f with
  | next =>
    obtain ⟨σ', H', I', q⟩ := q
    exact h2 pins s1 σ' H' D I' q
  | ret v => exact q
  | brk => exact q
  | cont => exact q
theorem pss_one (h1 : PS X st t) : PSs X [st] t := by
  intro pins s σ H D I h
  refine wpAny_execs_cons (thn (h1 pins s σ H D I h) fun f s1 q => ?_)
  cases f with
  | next => exact wpAny_execs_nil q
  | ret v => exact q
  | brk => exact q
  | cont => exact q
theorem Inv.quiet {pins : List (Addr × Obj)} {σ : St} {H : Hp} {s : Shared} (I : Inv X pins σ H s) : interactive X.env = false := by simp [interactive, I.ok.kind]
def tDrop (te : TE) : TS := fun D σ H => te σ H fun _ H1 => D.nx σ H1
theorem ps_expr (he : PE X e te) (hs : swapsWith e none pos.line X.env = pure false := by rfl) : PS X (.Expr e pos) (tDrop te) := by
  intro pins s σ H D I h
  exact wpAny_Expr_any (thn (he pins s σ H _ I h) fun v s1 ⟨x, H1, I1, r1, q1⟩ => ⟨σ, H1, I1, q1⟩) I.quiet hs
def tRet (te : TE) : TS := fun D σ H => te σ H D.rt
theorem ps_ret (he : PE X e te) : PS X (.Return (some e) pos) (tRet te) := by
  intro pins s σ H D I h
  exact wpAny_Return_some (thn (he pins s σ H _ I h) fun v s1 ⟨x, H1, I1, r1, q1⟩ => ⟨x, σ, H1, I1, r1, q1⟩)
def tIfS (c : TT) (t u : TS) : TS := fun D σ H => c σ H fun b H1 => if b = true then t D σ H1 else u D σ H1
theorem ps_if {c : Expr} {a b : List Stmt} {tc : TT} (hc : PT X c tc) (ha : PSs X a t) (hb : PSs X b u) : PS X (.If c a b pos) (tIfS tc t u) := by
  intro pins s σ H D I h
  refine wpAny_If (thn (hc pins s σ H _ I h) fun d s1 ⟨H1, I1, q1⟩ => ?_)
  cases d with
  | true => exact ha pins s1 σ H1 D I1 q1
  | false => exact hb pins s1 σ H1 D I1 q1
def tNever : TS := fun _ _ _ => False
theorem ps_never : PS X st tNever := fun _ _ _ _ _ _ h => h.elim
end

abbrev TG := V → St → Hp → (St → Hp → Prop) → Prop
abbrev TGs := List V → St → Hp → (St → Hp → Prop) → Prop
def PG (X : Cx) (target : Expr) (t : TG) : Prop :=
  ∀ (pins : List (Addr × Obj)) (s : Shared) (σ : St) (H : Hp) (v : V) (u : Value) (Q : St → Hp → Prop), Inv X pins σ H s → RelV v u → t v σ H Q →
    wpAny (model X.prog X.w) X.A (assign target X.env u) (fun _ s' => ∃ σ' H', Inv X pins σ' H' s' ∧ Q σ' H') X.xe s
def PGs (X : Cx) (ts : List Expr) (t : TGs) : Prop :=
  ∀ (pins : List (Addr × Obj)) (s : Shared) (σ : St) (H : Hp) (vs : List V) (us : List Value) (Q : St → Hp → Prop), Inv X pins σ H s → Vals vs us → t vs σ H Q →
    wpAny (model X.prog X.w) X.A (assignInOrder ((assignEach ts X.env).map (·.2)) us) (fun _ s' => ∃ σ' H', Inv X pins σ' H' s' ∧ Q σ' H') X.xe s
abbrev TSet := V → V → V → Hp → (Hp → Prop) → Prop
def PSet (X : Cx) (t : TSet) : Prop :=
  ∀ (pins : List (Addr × Obj)) (s : Shared) (σ : St) (H : Hp) (o i v : V) (ov iv u : Value) (Q : Hp → Prop), Inv X pins σ H s → RelV o ov → RelV i iv → RelV v u → t o i v H Q →
    wpAny (model X.prog X.w) X.A (setItem ov iv u) (fun _ s' => ∃ H', Inv X pins σ H' s' ∧ Q H') X.xe s
section
variable {X : Cx} {pos : Pos}
def gName (i : Nat) : TG := fun v σ H Q => Q (σ.set i (some v)) H
theorem pg_name {i : Nat} {x : Str} (hN : X.N.Nodup) (hi : X.N[i]? = some x) (hx : Loc X.env.scope x) (hf : X.fn x = true ∨ X.env.scope.names.lookup x = some .local := by first | exact .inl rfl | exact .inr rfl | assumption) : PG X (.Name x pos) (gName i) := by
  intro pins s σ H v u Q I r h
  exact wpAny_assign_Name (store_ok I hN hi hx r (fun s' I' => ⟨_, H, I', h⟩) hf)
def gNil : TGs := fun vs σ H Q => vs = [] ∧ Q σ H
def gCons (t : TG) (u : TGs) : TGs := fun vs σ H Q => ∃ v r, vs = v :: r ∧ t v σ H fun σ' H' => u r σ' H' Q
theorem pgs_nil : PGs X [] gNil := by
  intro pins s σ H vs us Q I r h
  obtain ⟨e, h⟩ := h
  subst e
  cases r
  exact assignInOrder_nil ⟨σ, H, I, h⟩
theorem pgs_cons {e : Expr} {es : List Expr} {t : TG} {u : TGs} (h1 : PG X e t) (h2 : PGs X es u)
    (hs : (assignEach (e :: es) X.env).map (·.2) = assign e X.env :: (assignEach es X.env).map (·.2) := by rfl) : PGs X (e :: es) (gCons t u) := by
  intro pins s σ H vs us Q I r h
  obtain ⟨v, vr, e1, h⟩ := h
  subst e1
  cases r with
  | cons r rr =>
    rw [hs]
    refine assignInOrder_cons (thn (h1 pins s σ H _ _ _ I r h) fun _ s1 ⟨σ1, H1, I1, q1⟩ => ?_)
    exact h2 pins s1 σ1 H1 _ _ Q I1 rr q1
def gTup (K : PySem.W.Frag) (n : Nat) (t : TGs) : TG := fun v σ H Q => ∃ a xs, v = .ref a ∧ SqT K H a xs ∧ xs.length = n ∧ t xs σ H Q
theorem pg_tup {es : List Expr} {k : Nat} {t : TGs} {n : Nat} (hc : X.calm = true) (h : PGs X es t)
    (hn : (assignEach es X.env).length = n := by rfl) (hst : (assignEach es X.env).findIdx? (·.1) = none := by rfl) : PG X (.Tuple es k pos) (gTup X.K n t) := by
  intro pins s σ H v u Q I r hw
  obtain ⟨a, xs, e1, hq, hl, hw⟩ := hw
  subst e1
  cases r
  obtain ⟨its, rv, ht, hz⟩ := I.tuple hq
  refine assign_Tuple_tuple (I.ok.hd hc) ht (by simp [hn, ← hl, rv.length]) hst fun h' hx => ?_
  have I1 : Inv X pins σ H { s with heap := h' } := I.kept (t' := s.toks) fun b o e => hx b o (Nat.ne_of_lt (Heap.lt_size e)) e
  exact h pins _ σ H xs _ Q I1 (by simpa using rv) hw
def gSub (to ti : TE) (t : TSet) : TG := fun v σ H Q => to σ H fun o H1 => ti σ H1 fun i H2 => t o i v H2 fun H3 => Q σ H3
theorem pg_sub {o i : Expr} {to ti : TE} {t : TSet} (ho : PE X o to) (hi : PE X i ti) (hs : PSet X t)
    (ha : ∀ v, assign (.Subscript o i pos) X.env v = (do
      let ov ← holding [v] (eval o X.env)
      let iv ← holding [v, ov] (eval i X.env)
      standAt pos
      holding [v, ov, iv] (setItem ov iv v)
      release [v, ov, iv] []) := by intro _; rfl) : PG X (.Subscript o i pos) (gSub to ti t) := by
  intro pins s σ H v u Q I r h
  rw [ha]
  refine wpAny_bind (wpAny_holding (thn (ho pins s σ H _ I h) fun ov s1 ⟨x, H1, I1, r1, q1⟩ => ?_))
  refine wpAny_bind (wpAny_holding (thn (hi pins s1 σ H1 _ I1 q1) fun iv s2 ⟨y, H2, I2, r2, q2⟩ => ?_))
  refine wpAny_bind (wpAny_standAt (wpAny_bind (wpAny_holding (thn (hs pins s2 σ H2 x y v ov iv u _ I2 r1 r2 r q2) fun _ s3 ⟨H3, I3, q3⟩ => ?_))))
  exact wpAny_release ⟨σ, H3, I3, q3⟩
def tAsg (te : TE) (g : TG) : TS := fun D σ H => te σ H fun x H1 => g x σ H1 D.nx
theorem ps_asg {tg e : Expr} {te : TE} {g : TG} (he : PE X e te) (hg : PG X tg g) (hs : swapsWithSole [tg] e pos.line X.env = pure false := by rfl) (hw : swappedStores [tg] e X.env = pure none := by rfl)
    (h1 : (assignEach [tg] X.env).map (·.2) = [assign tg X.env] := by rfl) : PS X (.Assign [tg] e pos) (tAsg te g) := by
  intro pins s σ H D I h
  refine wpAny_Assign_stores (thn (he pins s σ H _ I h) fun v s1 ⟨x, H1, I1, r1, q1⟩ => ?_) hs hw
  rw [h1]
  exact thn (hg pins s1 σ H1 x v _ I1 r1 q1) fun _ s2 q => q
theorem ps_set {i : Nat} {x : Str} {e : Expr} {te : TE} {pos' : Pos} (hN : X.N.Nodup) (hi : X.N[i]? = some x) (hx : Loc X.env.scope x) (he : PE X e te) (hs : swapsWith e (some (.Name x pos')) pos.line X.env = pure false := by rfl) (hf : X.fn x = true ∨ X.env.scope.names.lookup x = some .local := by first | exact .inl rfl | exact .inr rfl | assumption) :
    PS X (.Assign [.Name x pos'] e pos) (tAsg te (gName i)) := by
  intro pins s σ H D I h
  refine wpAny_Assign_Name (thn (he pins s σ H _ I h) fun v s1 ⟨y, H1, I1, r1, q1⟩ => ?_) hs
  exact store_ok I1 hN hi hx r1 (fun s2 I2 => ⟨_, H1, I2, q1⟩) hf
def tPar (i j : Nat) (ta : TA) : TS := fun D σ H => ta σ H fun vs H1 => ∃ v w, vs = [v, w] ∧ D.nx ((σ.set i (some v)).set j (some w)) H1
theorem ps_par {i j : Nat} {x y : Str} {a b : Expr} {ta : TA} {px py pt : Pos} {kt k2 pt2} (hc : X.calm = true) (hN : X.N.Nodup) (hi : X.N[i]? = some x) (hj : X.N[j]? = some y) (hij : i ≠ j)
    (hx : X.env.scope.names.lookup x = some .local) (hy : X.env.scope.names.lookup y = some .local) (ha : PA X [a, b] ta)
    (hw : swappedStores [.Tuple [.Name x px, .Name y py] kt pt] (.Tuple [a, b] k2 pt2) X.env = pure (some [x, y]))
    (hs : swapsWithSole [.Tuple [.Name x px, .Name y py] kt pt] (.Tuple [a, b] k2 pt2) pos.line X.env = pure false := by rfl) :
    PS X (.Assign [.Tuple [.Name x px, .Name y py] kt pt] (.Tuple [a, b] k2 pt2) pos) (tPar i j ta) := by
  intro pins s σ H D I h
  rw [exec_Assign_arm]
  refine wpAny_bind (wpAny_standAt ?_)
  rw [hs]
  refine wpAny_bind (wpAny_pure ?_)
  rw [if_neg (by decide)]
  refine wpAny_bind (Tuple_ (thn (ha _ pins s σ H _ I h) fun us s1 ⟨vs, H1, I1, r1, q1⟩ => ?_))
  obtain ⟨v, w, e1, q1⟩ := q1
  subst e1
  obtain ⟨u1, u2, rfl, rv, rw'⟩ : ∃ u1 u2, us = [u1, u2] ∧ RelV v u1 ∧ RelV w u2 := by
    cases r1 with
    | cons p q =>
      cases q with
      | cons p' q' =>
        cases q'
        exact ⟨_, _, rfl, p, p'⟩
  refine wpAny_newObj_type ?_ (by show 2 ≤ sizeLine; decide)
  have I2 : Inv X pins σ H1 { s1 with heap := s1.heap.push { cls := .type "tuple", data := .seq [u1, u2].toArray } } := I1.kept (t' := s1.toks) fun b o e => Heap.get?_push_of_some _ e
  rw [hw]
  refine wpAny_bind (wpAny_pure ?_)
  show wpAny (model X.prog X.w) X.A (do rule "assign.swapped-stores"; let items ← unpackItems (.ref s1.heap.objs.size) 2 none; assignInOrder [fun v => bindName X.env y v, fun v => bindName X.env x v] items.reverse; pure Flow.next) _ _ _
  refine wpAny_bind (wpAny_rule (wpAny_bind (unpackItems_tuple (items := #[u1, u2]) (I.ok.hd hc) (IsTup.new s1.heap _) fun h' hx' => ?_)))
  have I3 := I2.kept (h' := h') (t' := s1.toks) fun b o e => hx' b o (Nat.ne_of_lt (Heap.lt_size e)) e
  show wpAny _ _ (assignInOrder [fun v => bindName X.env y v, fun v => bindName X.env x v] [u2, u1] >>= fun _ => pure Flow.next) _ _ _
  refine wpAny_bind (assignInOrder_cons (wpAny_bindName (store_ok I3 hN hj (.inl hy) rw' (fun s2 I4 => ?_) (.inr hy))))
  refine assignInOrder_cons (wpAny_bindName (store_ok I4 hN hi (.inl hx) rv (fun s3 I5 => assignInOrder_nil (wpAny_pure ?_)) (.inr hx)))
  rw [List.set_comm _ _ (Ne.symm hij)] at I5
  exact ⟨_, H1, I5, q1⟩
end

section
variable {X : Cx} {pos : Pos}
def tWhile (c : TT) (tb : TS) : TS := fun D σ H => ∃ W : Nat → St → Hp → Prop, (∃ m, W m σ H) ∧ ∀ m σ H, W m σ H →
  c σ H fun b H1 => if b = true then ∃ N : St → Hp → Prop, (∀ σ' H', N σ' H' → ∃ m', m' < m ∧ W m' σ' H') ∧ tb { D with nx := N, ct := N, bk := D.nx } σ H1 else D.nx σ H1
theorem ps_while {c : Expr} {body : List Stmt} {tc : TT} {tb : TS} (hp : PassesOwn (model X.prog X.w) X.A X.env X.xe) (hc : PT X c tc) (hb : PSs X body tb) : PS X (.While c body [] pos) (tWhile tc tb) := by
  intro pins s σ H D I h
  obtain ⟨W, ⟨m0, w0⟩, turn⟩ := h
  refine wpAny_While (codeAny_whileLoop (fun n s' => ∃ σ' H', Inv X pins σ' H' s' ∧ W n σ' H') ?_ m0 ⟨σ, H, I, w0⟩)
  rintro n s1 ⟨σ1, H1, I1, w1⟩
  refine wpAny_passesOwn hp (thn (hc pins s1 σ1 H1 _ I1 (turn n σ1 H1 w1)) fun b s2 ⟨H2, I2, q2⟩ => ?_)
  cases b with
  | true =>
    obtain ⟨N, hN, q2⟩ := q2
    rw [if_pos rfl]
    refine wpAny_passesOwn hp (thn (hb pins s2 σ1 H2 _ I2 q2) fun f s3 q3 => ?_)
    cases f with
    | next =>
      obtain ⟨σ3, H3, I3, n3⟩ := q3
      obtain ⟨m', hm, w3⟩ := hN σ3 H3 n3
      exact ⟨m', hm, σ3, H3, I3, w3⟩
    | cont =>
      obtain ⟨σ3, H3, I3, n3⟩ := q3
      obtain ⟨m', hm, w3⟩ := hN σ3 H3 n3
      exact ⟨m', hm, σ3, H3, I3, w3⟩
    | brk => exact q3
    | ret v => exact q3
  | false =>
    rw [if_neg Bool.false_ne_true]
    exact wpAny_execs_nil ⟨σ1, H2, I2, q2⟩
end

structure It where
  go : Nat → Hp → Prop
  yld : Nat → Hp → V → Hp → Prop
  stop : Nat → Hp → Prop
def FpOk (X : Cx) (pins : List (Addr × Obj)) (H : Hp) (b : Addr) : Prop :=
  H b = none ∧ b ≠ X.env.locals ∧ b ∉ X.fs ∧ (b ∈ X.ex ∨ X.s₀.heap.objs.size ≤ b) ∧ (∀ x c, X.env.cells.lookup x = some c → c ≠ b) ∧ ∀ p ∈ X.pn ++ pins, p.1 ≠ b
theorem Inv.fpOk {X : Cx} {pins : List (Addr × Obj)} {σ : St} {H H' : Hp} {s : Shared} {b : Addr} (I : Inv X pins σ H s) (hb : s.heap.objs.size ≤ b) (hn : H' b = none) : FpOk X pins H' b := by
  refine ⟨hn, Nat.ne_of_gt (Nat.lt_of_lt_of_le I.lt hb), I.nofs hb, .inr (Nat.le_trans I.sz hb), fun x c e z => ?_, fun p hp z => ?_⟩
  · obtain ⟨v, q⟩ := I.cell x c e
    exact absurd (Nat.lt_of_lt_of_le q.lt (by rw [z]; exact hb)) (Nat.lt_irrefl _)
  · exact absurd (Nat.lt_of_lt_of_le (Heap.lt_size (I.pin p hp).1) (by rw [z]; exact hb)) (Nat.lt_irrefl _)
structure Turn (P : Program) (w : World) (K : PySem.W.Frag) (tg : Expr) (J : It) (fp : List Addr) (it : Addr) (tn : Nat → Heap → Prop) : Prop where
  mem : it ∈ fp
  obj : ∀ i h, tn i h → ∀ b ∈ fp, ∃ o, h.get? b = some o ∧ ∀ v, o.data ≠ .cell v
  keep : ∀ i h h', tn i h → (∀ b ∈ fp, ∀ o, h.get? b = some o → h'.get? b = some o) → tn i h'
  item : ∀ (X : Cx), X.prog = P → X.w = w → X.K = K → X.calm = true → ∀ (i : Nat) (pins : List (Addr × Obj)) (s : Shared) (σ : St) (H : Hp) (E : Value → Shared → Prop), Inv X pins σ H s → (∀ b ∈ fp, FpOk X pins H b) → tn i s.heap → J.go i H →
    wpAny (model P w) X.A (pyNext (.ref it)) (fun r s1 => ∃ u, r = some u ∧
      wpAny (model P w) X.A (letOwnedTupleGo tg (.ref it) u) (fun _ s2 => ∃ x H', Inv X pins σ H' s2 ∧ RelV x u ∧ J.yld i H x H' ∧ tn (i + 1) s2.heap ∧ ∀ b ∈ fp, H' b = none) E s1) E s
  done : ∀ (X : Cx), X.prog = P → X.w = w → X.K = K → X.calm = true → ∀ (i : Nat) (pins : List (Addr × Obj)) (s : Shared) (σ : St) (H : Hp) (E : Value → Shared → Prop), Inv X pins σ H s → (∀ b ∈ fp, FpOk X pins H b) → tn i s.heap → J.stop i H →
    wpAny (model P w) X.A (pyNext (.ref it)) (fun r s1 => r = none ∧ Inv X pins σ H s1) E s
  self : ∀ (A : Around) (i : Nat) (s : Shared) (Q : Value → Shared → Prop) (E : Value → Shared → Prop), tn i s.heap → Q (.ref it) s → wpAny (model P w) A (pyIter (.ref it)) Q E s
abbrev TI := St → Hp → (It → Hp → Prop) → Prop
def PIE (X : Cx) (pins : List (Addr × Obj)) (σ : St) (tg : Expr) (R : It → Hp → Prop) (itv : Value) (s2 : Shared) : Prop :=
  ∃ (it : Addr) (fp : List Addr) (tn : Nat → Heap → Prop) (J : It) (H' : Hp), itv = .ref it ∧ Inv X pins σ H' s2 ∧ Turn X.prog X.w X.K tg J fp it tn ∧ tn 0 s2.heap ∧ (∀ b ∈ fp, FpOk X pins H' b) ∧ R J H'
def PI (X : Cx) (tg iter : Expr) (wi : TI) : Prop :=
  ∀ (pins : List (Addr × Obj)) (s : Shared) (σ : St) (H : Hp) (R : It → Hp → Prop), Inv X pins σ H s → wi σ H R →
    wpAny (model X.prog X.w) X.A (eval iter X.env) (fun v s1 => wpAny (model X.prog X.w) X.A (pyIter v) (PIE X pins σ tg R) X.xe s1) X.xe s

theorem go_of {M : Model} {A : Around} {E : Value → Shared → Prop} {s : Shared} {tg : Expr} {it : Addr} {u : Value} {o : Obj} {n : String} {vs : Array Value} {Q : Unit → Shared → Prop} (ho : s.heap.get? it = some o) (hc : o.cls = .type n) (hd : o.data = .fields vs)
    (hn : ["enumerate", "zip", "dict_itemiterator", "dict_reverseitemiterator", "odict_iterator", "itertools.zip_longest", "itertools.pairwise"].contains n = false) (hQ : Q () s) : wpAny M A (letOwnedTupleGo tg (.ref it) u) Q E s := by
  unfold letOwnedTupleGo
  cases tg <;> first
    | exact wpAny_pure hQ
    | (cases u <;> first
        | exact wpAny_pure hQ
        | (refine wpAny_bind (wpAny_load ho ?_)
           rw [hc, hd]
           show wpAny M A (if (["enumerate", "zip", "dict_itemiterator", "dict_reverseitemiterator", "odict_iterator", "itertools.zip_longest", "itertools.pairwise"].contains n && vs[0]? == some (rawInt _)) = true then _ else _) Q E s
           rw [if_neg (by intro h; rw [hn, Bool.false_and] at h; cases h)]
           exact wpAny_pure hQ))

def Itl (K : PySem.W.Frag) (a : Addr) : It :=
  ⟨fun i H => ∃ xs x, SqL K H a xs ∧ xs[i]? = some x, fun i H x H' => H' = H ∧ ∀ xs, SqL K H a xs → xs[i]? = some x, fun i H => ∃ xs, SqL K H a xs ∧ xs.length ≤ i⟩
def Itt (K : PySem.W.Frag) (a : Addr) : It :=
  ⟨fun i H => ∃ xs x, SqT K H a xs ∧ xs[i]? = some x, fun i H x H' => H' = H ∧ ∀ xs, SqT K H a xs → xs[i]? = some x, fun i H => ∃ xs, SqT K H a xs ∧ xs.length ≤ i⟩
def Itr (lo : Int) (n : Nat) : It := ⟨fun i _ => i < n, fun i H x H' => H' = H ∧ x = .int (lo + i), fun i _ => n ≤ i⟩
theorem turn_list {P : Program} {w : World} {K : PySem.W.Frag} {tg : Expr} (a it : Addr) : Turn P w K tg (Itl K a) [it] it (fun i h => h.IsListIter it a i) where
  mem := by simp
  obj := fun i h st b hb => by
    have e : b = it := by simpa using hb
    subst e
    obtain ⟨o, e, c, d⟩ := st
    exact ⟨o, e, fun v z => by rw [d] at z; cases z⟩
  keep := fun i h h' st k => st.at fun o e => k it (by simp) o e
  item := by
    intro X hP hw hK hc i pins s σ H E I hf st hg
    subst hP hw hK
    obtain ⟨xs, x, hq, hx⟩ := hg
    obtain ⟨its, rv, p, hz⟩ := I.list hq
    obtain ⟨u, hu, ru⟩ := rv.get hx
    obtain ⟨f0, f1, f2, f3, f4, f5⟩ := hf it (by simp)
    refine wpAny_pyNext_list_item st p.isList (x := u) (by simpa using hu) fun h' st' sb => ?_
    have I1 : Inv X pins σ H { s with heap := h' } := I.turned (t' := s.toks) (fun b o hb e => (sb.2 b hb).trans e) f0 f1 f3 f4 f5
    obtain ⟨o, e, c, d⟩ := id st'
    exact ⟨u, rfl, go_of (s := { s with heap := h' }) e c d (by decide) ⟨x, H, I1, ru, ⟨rfl, fun ys hy => by rw [I.list_inj hy hq]; exact hx⟩, st', fun b hb => (hf b hb).1⟩⟩
  done := by
    intro X hP hw hK hc i pins s σ H E I hf st hg
    subst hP hw hK
    obtain ⟨xs, hq, hx⟩ := hg
    obtain ⟨its, rv, p, hz⟩ := I.list hq
    obtain ⟨f0, f1, f2, f3, f4, f5⟩ := hf it (by simp)
    have hl := rv.length
    exact wpAny_pyNext_list_end (I.ok.hd hc) st p.isList (by simp; omega) fun h' eb => ⟨rfl, I.turned (t' := s.toks) (fun b o hb e => eb b o hb e) f0 f1 f3 f4 f5⟩
  self := fun _ _ _ _ _ st h => wpAny_pyIter_listiter st h
theorem turn_tuple {P : Program} {w : World} {K : PySem.W.Frag} {tg : Expr} (a it : Addr) : Turn P w K tg (Itt K a) [it] it (fun i h => h.IsTupleIter it a i) where
  mem := by simp
  obj := fun i h st b hb => by
    have e : b = it := by simpa using hb
    subst e
    obtain ⟨o, e, c, d⟩ := st
    exact ⟨o, e, fun v z => by rw [d] at z; cases z⟩
  keep := fun i h h' st k => st.at fun o e => k it (by simp) o e
  item := by
    intro X hP hw hK hc i pins s σ H E I hf st hg
    subst hP hw hK
    obtain ⟨xs, x, hq, hx⟩ := hg
    obtain ⟨its, rv, p, hz⟩ := I.tuple hq
    obtain ⟨u, hu, ru⟩ := rv.get hx
    obtain ⟨f0, f1, f2, f3, f4, f5⟩ := hf it (by simp)
    refine wpAny_pyNext_tuple_item st (show s.heap.IsTuple a its.toArray from p) (x := u) (by simpa using hu) fun h' st' sb => ?_
    have I1 : Inv X pins σ H { s with heap := h' } := I.turned (t' := s.toks) (fun b o hb e => (sb.2 b hb).trans e) f0 f1 f3 f4 f5
    obtain ⟨o, e, c, d⟩ := id st'
    exact ⟨u, rfl, go_of (s := { s with heap := h' }) e c d (by decide) ⟨x, H, I1, ru, ⟨rfl, fun ys hy => by rw [I.tuple_inj hy hq]; exact hx⟩, st', fun b hb => (hf b hb).1⟩⟩
  done := by
    intro X hP hw hK hc i pins s σ H E I hf st hg
    subst hP hw hK
    obtain ⟨xs, hq, hx⟩ := hg
    obtain ⟨its, rv, p, hz⟩ := I.tuple hq
    obtain ⟨f0, f1, f2, f3, f4, f5⟩ := hf it (by simp)
    have hl := rv.length
    exact wpAny_pyNext_tuple_end (I.ok.hd hc) st (show s.heap.IsTuple a its.toArray from p) (by simp; omega) fun h' eb => ⟨rfl, I.turned (t' := s.toks) (fun b o hb e => eb b o hb e) f0 f1 f3 f4 f5⟩
  self := fun _ _ _ _ _ st h => wpAny_pyIter_tupleiter st h
theorem turn_range {P : Program} {w : World} {K : PySem.W.Frag} {tg : Expr} (it : Addr) (lo : Int) (n : Nat) : Turn P w K tg (Itr lo n) [it] it (fun i h => IsRangeIter h it (lo + (i : Nat) * 1) ((n : Int) - (i : Nat)) 1) where
  mem := by simp
  obj := fun i h st b hb => by
    have e : b = it := by simpa using hb
    subst e
    exact ⟨_, st, fun v z => by
      have z' : Data.fields _ = Data.cell v := z
      cases z'⟩
  keep := fun i h h' st k => k it (by simp) _ st
  item := by
    intro X hP hw hK hc i pins s σ H E I hf st hg
    subst hP hw hK
    obtain ⟨f0, f1, f2, f3, f4, f5⟩ := hf it (by simp)
    have W := Walks.range (prog := X.prog) (w := X.w) (I.ok.hd hc) it lo 1 n
    refine W.item i s _ _ hg st fun v h' tk hv st' kk => ?_
    obtain ⟨t, rfl⟩ := hv
    have I1 : Inv X pins σ H { s with heap := h', toks := tk } := I.turned (fun b o hb e => kk b o (by simpa using hb) e) f0 f1 f3 f4 f5
    refine ⟨_, rfl, go_of (s := { s with heap := h', toks := tk }) (n := "range_iterator") st' rfl rfl (by decide) ⟨.int (lo + i), H, I1, ⟨t, ?_⟩, ⟨rfl, rfl⟩, st', fun b hb => (hf b hb).1⟩⟩
    rw [Int.mul_one]
  done := by
    intro X hP hw hK hc i pins s σ H E I hf st hg
    subst hP hw hK
    obtain ⟨f0, f1, f2, f3, f4, f5⟩ := hf it (by simp)
    exact wpAny_pyNext_range_end (I.ok.hd hc) st (by have : n ≤ i := hg; omega) fun h' eb => ⟨rfl, I.turned (t' := s.toks) (fun b o hb e => eb b o hb e) f0 f1 f3 f4 f5⟩
  self := fun _ _ _ _ _ st h => wpAny_pyIter_rangeiter st h
end L2

namespace L2
open PySem PySem.Spec PyProof.Rows
section
variable {X : Cx} {tg : Expr}
def iList (K : PySem.W.Frag) (tl : TE) : TI := fun σ H R => tl σ H fun x H1 => ∃ a, x = .ref a ∧ (∃ xs, SqL K H1 a xs) ∧ R (Itl K a) H1
def iTup (K : PySem.W.Frag) (tl : TE) : TI := fun σ H R => tl σ H fun x H1 => ∃ a, x = .ref a ∧ (∃ xs, SqT K H1 a xs) ∧ R (Itt K a) H1
theorem pi_list {l : Expr} {tl : TE} (hl : PE X l tl) : PI X tg l (iList X.K tl) := by
  intro pins s σ H R I h
  refine thn (hl pins s σ H _ I h) fun v s1 ⟨x, H1, I1, r1, q1⟩ => ?_
  obtain ⟨a, e, ⟨xs, hq⟩, q⟩ := q1
  subst e
  cases r1
  obtain ⟨its, rv, p, hz⟩ := I1.list hq
  refine wpAny_pyIter_list p.isList ?_
  refine ⟨s1.heap.objs.size, [s1.heap.objs.size], _, _, H1, rfl, I1.kept (t' := s1.toks) fun b o e => Heap.get?_push_of_some _ e, turn_list a _, ⟨_, Heap.get?_push_size _ rfl, rfl, rfl⟩, fun b hb => ?_, q⟩
  have e : b = s1.heap.objs.size := by simpa using hb
  subst e
  exact I1.fpOk (Nat.le_refl _) (I1.hok.fresh (Nat.le_refl _))
theorem pi_tup {l : Expr} {tl : TE} (hl : PE X l tl) : PI X tg l (iTup X.K tl) := by
  intro pins s σ H R I h
  refine thn (hl pins s σ H _ I h) fun v s1 ⟨x, H1, I1, r1, q1⟩ => ?_
  obtain ⟨a, e, ⟨xs, hq⟩, q⟩ := q1
  subst e
  cases r1
  obtain ⟨its, rv, p, hz⟩ := I1.tuple hq
  refine wpAny_pyIter_tuple (show s1.heap.IsTuple a its.toArray from p) ?_
  refine ⟨s1.heap.objs.size, [s1.heap.objs.size], _, _, H1, rfl, I1.kept (t' := s1.toks) fun b o e => Heap.get?_push_of_some _ e, turn_tuple a _, ⟨_, Heap.get?_push_size _ rfl, rfl, rfl⟩, fun b hb => ?_, q⟩
  have e : b = s1.heap.objs.size := by simpa using hb
  subst e
  exact I1.fpOk (Nat.le_refl _) (I1.hok.fresh (Nat.le_refl _))
theorem range_it {pins : List (Addr × Obj)} {σ : St} {H : Hp} {s : Shared} {R : It → Hp → Prop} {E : Value → Shared → Prop} {lo hi : Int} {t u v : Tok} {tk : Nat} (I : Inv X pins σ H s) (h1 : -(2 ^ 62) ≤ lo) (h2 : lo < 2 ^ 62) (h3 : -(2 ^ 62) ≤ hi) (h4 : hi < 2 ^ 62)
    (q : R (Itr lo (hi - lo).toNat) H) : wpAny (model X.prog X.w) X.A (pyIter (.ref s.heap.objs.size)) (PIE X pins σ tg R) E { s with heap := s.heap.push { cls := .type "range", data := .fields #[.int lo t, .int hi u, .int 1 v] }, toks := tk } := by
  refine wpAny_pyIter_range (IsRange.new ..) (small_one h1 h2 h3 h4) ?_
  have I1 : Inv X pins σ H { s with heap := s.heap.push { cls := .type "range", data := .fields #[.int lo t, .int hi u, .int 1 v] }, toks := tk } := I.kept fun b o e => Heap.get?_push_of_some _ e
  refine ⟨(s.heap.push { cls := .type "range", data := .fields #[.int lo t, .int hi u, .int 1 v] }).objs.size, [(s.heap.push { cls := .type "range", data := .fields #[.int lo t, .int hi u, .int 1 v] }).objs.size], _, _, H, rfl,
    I1.kept (t' := tk) fun b o e => Heap.get?_push_of_some _ e, turn_range _ lo (hi - lo).toNat, ?_, fun b hb => ?_, q⟩
  · have e1 : lo + ((0 : Nat) : Int) * 1 = lo := by simp
    have e2 : (((hi - lo).toNat : Nat) : Int) - ((0 : Nat) : Int) = Builtin.Range.rangeSize lo hi 1 := by rw [rangeSize_one]; split <;> omega
    show IsRangeIter _ _ (lo + ((0 : Nat) : Int) * 1) ((((hi - lo).toNat : Nat) : Int) - ((0 : Nat) : Int)) 1
    rw [e1, e2]
    exact Heap.get?_push_size _ rfl
  · have e : b = (s.heap.push { cls := .type "range", data := .fields #[.int lo t, .int hi u, .int 1 v] }).objs.size := by simpa using hb
    subst e
    exact I1.fpOk (Nat.le_refl _) (I1.hok.fresh (Nat.le_refl _))
def iRng1 (ta : TA) : TI := fun σ H R => ta σ H fun vs H1 => ∃ j : Int, vs = [.int j] ∧ -(2 ^ 62) ≤ j ∧ j < 2 ^ 62 ∧ R (Itr 0 j.toNat) H1
theorem pi_range1 {a : Expr} {ta : TA} {p pos : Pos} (hg : Gl X "range") (hm : X.mg "range" = none) (ha : PA X [a] ta) (hs : starEach [a] X.env = [(false, eval a X.env)] := by rfl) : PI X tg (.Call (.Name "range" p) [a] [] pos) (iRng1 ta) := by
  intro pins s σ H R I h
  refine Call_ (ld_blt I hg hm boot_range (PyProof.Rows.callWith_type1 (thn (ha pos pins s σ H _ I h) fun us s1 ⟨vs, H1, I1, r1, q1⟩ => ?_) hs rfl))
  obtain ⟨j, e, q1, q2, q⟩ := q1
  subst e
  cases r1 with
  | cons r rr =>
    cases rr
    obtain ⟨t, rfl⟩ := r
    exact call_range_1 (range_it I1 (by omega) (by omega) q1 q2 (by simpa using q))

def tFor (wi : TI) (g : TG) (tb : TS) : TS := fun D σ H => wi σ H fun J H1 => ∃ W : Nat → Nat → St → Hp → Prop, (∃ m, W 0 m σ H1) ∧ ∀ i m σ H, W i m σ H →
  (J.stop i H ∧ D.nx σ H) ∨ (J.go i H ∧ ∃ N : St → Hp → Prop, (∀ σ' H', N σ' H' → ∃ m', m' < m ∧ W (i + 1) m' σ' H') ∧ ∀ x H', J.yld i H x H' → g x σ H' fun σ2 H2 => tb { D with nx := N, ct := N, bk := D.nx } σ2 H2)
def pinsAt (fp : List Addr) (h : Heap) : List (Addr × Obj) := fp.filterMap fun b => (h.get? b).map fun o => (b, o)
theorem mem_pinsAt {fp : List Addr} {h : Heap} {b : Addr} {o : Obj} (hb : b ∈ fp) (e : h.get? b = some o) : (b, o) ∈ pinsAt fp h := List.mem_filterMap.mpr ⟨b, hb, by rw [e]; rfl⟩
theorem of_pinsAt {fp : List Addr} {h : Heap} {p : Addr × Obj} (hp : p ∈ pinsAt fp h) : p.1 ∈ fp ∧ h.get? p.1 = some p.2 := by
  obtain ⟨b, hb, e⟩ := List.mem_filterMap.mp hp
  cases q : h.get? b with
  | none => rw [q] at e; cases e
  | some o =>
    rw [q] at e
    have e' : (b, o) = p := Option.some.inj e
    subst e'
    exact ⟨hb, q⟩
theorem Inv.pinned {pins : List (Addr × Obj)} {σ : St} {H : Hp} {s : Shared} {fp : List Addr} (I : Inv X pins σ H s) (hf : ∀ b ∈ fp, FpOk X pins H b) (ho : ∀ b ∈ fp, ∃ o, s.heap.get? b = some o ∧ ∀ v, o.data ≠ .cell v) : Inv X (pins ++ pinsAt fp s.heap) σ H s :=
  I.pins_of fun p hp => (List.mem_append.mp hp).elim (fun z => I.pin p (List.mem_append_right _ z)) fun z => by
    obtain ⟨hb, e⟩ := of_pinsAt z
    obtain ⟨f0, f1, f2, _⟩ := hf p.1 hb
    obtain ⟨o, e', d⟩ := ho p.1 hb
    rw [e] at e'; cases e'
    exact ⟨e, f0, f1, f2, d⟩
theorem Inv.unpinned {pins pl : List (Addr × Obj)} {σ : St} {H : Hp} {s : Shared} (I : Inv X (pins ++ pl) σ H s) : Inv X pins σ H s := I.pins_of fun p hp => I.pin p (List.mem_append_right _ (List.mem_append_left _ hp))
theorem ps_for {iter : Expr} {body : List Stmt} {wi : TI} {g : TG} {tb : TS} {pos : Pos} (hp : PassesOwn (model X.prog X.w) X.A X.env X.xe) (hc : X.calm = true) (hi : PI X tg iter wi) (hg : PG X tg g) (hb : PSs X body tb)
    (hs : ∀ x, foldedSetIterable iter X.env x = pure x := by intro _; rfl) : PS X (.For tg iter body [] pos) (tFor wi g tb) := by
  intro pins s σ H D I h
  refine wpAny_For (thn (hi pins s σ H _ I h) fun v s1 h1 => thn h1 fun itv s2 h2 => ?_) hs
  obtain ⟨it, fp, tn, J, H2, e, I2, T, st2, f2, W, ⟨m0, w0⟩, turn⟩ := h2
  subst e
  -- what stays true of the iterator's objects through the loop
  have stat : ∀ {H' : Hp}, (∀ b ∈ fp, H' b = none) → ∀ b ∈ fp, FpOk X pins H' b := fun hn b hb => ⟨hn b hb, (f2 b hb).2⟩
  refine codeAny_forLoop_any (fun n s' => ∃ i σ' H', Inv X pins σ' H' s' ∧ tn i s'.heap ∧ (∀ b ∈ fp, H' b = none) ∧ W i n σ' H') ?_ m0 ⟨0, σ, H2, I2, st2, fun b hb => (f2 b hb).1, w0⟩
  rintro n s3 ⟨i, σ3, H3, I3, st3, fr3, w3⟩
  rcases turn i n σ3 H3 w3 with ⟨stop, qn⟩ | ⟨go, N, hN, step⟩
  · refine wpAny_passesOwn hp (thn (T.done X rfl rfl rfl hc i pins s3 σ3 H3 X.xe I3 (stat fr3) st3 stop) fun r s4 ⟨hr, I4⟩ => ?_)
    subst hr
    exact wpAny_execs_nil ⟨σ3, H3, I4, qn⟩
  · refine wpAny_passesOwn hp (thn (T.item X rfl rfl rfl hc i pins s3 σ3 H3 X.xe I3 (stat fr3) st3 go) fun r s4 ⟨u, hr, h4⟩ => ?_)
    subst hr
    refine wpAny_passesOwn hp (thn h4 fun _ s5 ⟨x, H5, I5, r5, y5, st5, fr5⟩ => ?_)
    have I5' := I5.pinned (stat fr5) (T.obj _ _ st5)
    refine wpAny_passesOwn hp (thn (hg _ s5 σ3 H5 x u _ I5' r5 (step x H5 y5)) fun _ s6 ⟨σ6, H6, I6, q6⟩ => ?_)
    refine wpAny_passesOwn hp (thn (hb _ s6 σ6 H6 _ I6 q6) fun f s7 q7 => ?_)
    have again : ∀ {σ7 : St} {H7 : Hp}, Inv X (pins ++ pinsAt fp s5.heap) σ7 H7 s7 → N σ7 H7 → ∃ m, m < n ∧ ∃ i σ' H', Inv X pins σ' H' s7 ∧ tn i s7.heap ∧ (∀ b ∈ fp, H' b = none) ∧ W i m σ' H' := fun {σ7 H7} I7 n7 => by
      obtain ⟨m', hm, w7⟩ := hN σ7 H7 n7
      refine ⟨m', hm, i + 1, σ7, H7, I7.unpinned, T.keep _ _ _ st5 fun b hb o e => (I7.pin (b, o) (List.mem_append_right _ (List.mem_append_right _ (mem_pinsAt hb e)))).1, fun b hb => ?_, w7⟩
      obtain ⟨o, e, d⟩ := T.obj _ _ st5 b hb
      exact (I7.pin (b, o) (List.mem_append_right _ (List.mem_append_right _ (mem_pinsAt hb e)))).2.1
    cases f with
    | next => obtain ⟨σ7, H7, I7, n7⟩ := q7; exact again I7 n7
    | cont => obtain ⟨σ7, H7, I7, n7⟩ := q7; exact again I7 n7
    | brk => obtain ⟨σ7, H7, I7, q7⟩ := q7; exact ⟨σ7, H7, I7.unpinned, q7⟩
    | ret v => obtain ⟨x7, σ7, H7, I7, r7, q7⟩ := q7; exact ⟨x7, σ7, H7, I7.unpinned, r7, q7⟩
end

theorem for_list {K : PySem.W.Frag} {a : Addr} {xs : List V} {g : TG} {tb : TS} {D : Ends} {σ : St} {H : Hp} (Pv : Nat → St → Hp → Prop) (h0 : Pv 0 σ H) (hl : ∀ i σ H, i ≤ xs.length → Pv i σ H → SqL K H a xs)
    (hs : ∀ i x σ H, xs[i]? = some x → Pv i σ H → g x σ H fun σ2 H2 => tb { D with nx := Pv (i + 1), ct := Pv (i + 1), bk := D.nx } σ2 H2) (hd : ∀ σ H, Pv xs.length σ H → D.nx σ H) :
    ∃ W : Nat → Nat → St → Hp → Prop, (∃ m, W 0 m σ H) ∧ ∀ i m σ H, W i m σ H →
      ((Itl K a).stop i H ∧ D.nx σ H) ∨ ((Itl K a).go i H ∧ ∃ N : St → Hp → Prop, (∀ σ' H', N σ' H' → ∃ m', m' < m ∧ W (i + 1) m' σ' H') ∧ ∀ x H', (Itl K a).yld i H x H' → g x σ H' fun σ2 H2 => tb { D with nx := N, ct := N, bk := D.nx } σ2 H2) := by
  refine ⟨fun i m σ H => m = xs.length - i ∧ i ≤ xs.length ∧ Pv i σ H, ⟨xs.length, by simp, Nat.zero_le _, h0⟩, ?_⟩
  rintro i m σ H ⟨rfl, hi, p⟩
  have q := hl i σ H hi p
  by_cases hlt : i < xs.length
  · refine .inr ⟨⟨xs, xs[i], q, by simp [hlt]⟩, Pv (i + 1), fun σ' H' p' => ⟨xs.length - (i + 1), by omega, rfl, hlt, p'⟩, fun x H' y => ?_⟩
    obtain ⟨e, y⟩ := y
    subst e
    exact hs i x σ _ (y xs q) p
  · have e : i = xs.length := by omega
    subst e
    exact .inl ⟨⟨xs, q, Nat.le_refl _⟩, hd σ H p⟩
theorem for_range {lo : Int} {n : Nat} {g : TG} {tb : TS} {D : Ends} {σ : St} {H : Hp} (Pv : Nat → St → Hp → Prop) (h0 : Pv 0 σ H)
    (hs : ∀ i σ H, i < n → Pv i σ H → g (.int (lo + i)) σ H fun σ2 H2 => tb { D with nx := Pv (i + 1), ct := Pv (i + 1), bk := D.nx } σ2 H2) (hd : ∀ σ H, Pv n σ H → D.nx σ H) :
    ∃ W : Nat → Nat → St → Hp → Prop, (∃ m, W 0 m σ H) ∧ ∀ i m σ H, W i m σ H →
      ((Itr lo n).stop i H ∧ D.nx σ H) ∨ ((Itr lo n).go i H ∧ ∃ N : St → Hp → Prop, (∀ σ' H', N σ' H' → ∃ m', m' < m ∧ W (i + 1) m' σ' H') ∧ ∀ x H', (Itr lo n).yld i H x H' → g x σ H' fun σ2 H2 => tb { D with nx := N, ct := N, bk := D.nx } σ2 H2) := by
  refine ⟨fun i m σ H => m = n - i ∧ i ≤ n ∧ Pv i σ H, ⟨n, by simp, Nat.zero_le _, h0⟩, ?_⟩
  rintro i m σ H ⟨rfl, hi, p⟩
  by_cases hlt : i < n
  · refine .inr ⟨hlt, Pv (i + 1), fun σ' H' p' => ⟨n - (i + 1), by omega, rfl, hlt, p'⟩, fun x H' y => ?_⟩
    obtain ⟨e, y⟩ := y
    subst e y
    exact hs i σ _ hlt p
  · have e : i = n := by omega
    subst e
    exact .inl ⟨Nat.le_refl _, hd σ H p⟩
end L2

namespace L2
open PySem PySem.Spec PyProof.Rows

abbrev R2 := V → V → Hp → VK → Prop
def OpR (X : Cx) (f : Value → Value → Sem Value) (r : R2) : Prop :=
  ∀ (pins : List (Addr × Obj)) (s : Shared) (σ : St) (H : Hp) (x y : V) (v u : Value) (Q : VK), Inv X pins σ H s → RelV x v → RelV y u → r x y H Q →
    wpAny (model X.prog X.w) X.A (f v u) (EP X pins σ Q) X.xe s
def UnR (X : Cx) (f : Value → Sem Value) (r : V → Hp → VK → Prop) : Prop :=
  ∀ (pins : List (Addr × Obj)) (s : Shared) (σ : St) (H : Hp) (x : V) (v : Value) (Q : VK), Inv X pins σ H s → RelV x v → r x H Q →
    wpAny (model X.prog X.w) X.A (f v) (EP X pins σ Q) X.xe s
def CallR (X : Cx) (f : Value) (r : List V → Hp → VK → Prop) : Prop :=
  ∀ (pins : List (Addr × Obj)) (s : Shared) (σ : St) (H : Hp) (xs : List V) (us : List Value) (Q : VK), Inv X pins σ H s → Vals xs us → r xs H Q →
    wpAny (model X.prog X.w) X.A (call f us) (EP X pins σ Q) X.xe s

def tOp (r : R2) (ta tb : TE) : TE := fun σ H Q => ta σ H fun x H1 => tb σ H1 fun y H2 => r x y H2 Q
def tUn (r : V → Hp → VK → Prop) (ta : TE) : TE := fun σ H Q => ta σ H fun x H1 => r x H1 Q
def rI (C : Int → Int → Prop) (g : Int → Int → V) : R2 := fun x y H Q => ∃ i j, x = .int i ∧ y = .int j ∧ C i j ∧ Q (g i j) H
def rI0 (g : Int → Int → V) : R2 := fun x y H Q => ∃ i j, x = .int i ∧ y = .int j ∧ Q (g i j) H
def rU (g : Int → V) : V → Hp → VK → Prop := fun x H Q => ∃ i, x = .int i ∧ Q (g i) H

section
variable {X : Cx} {a b c : Expr} {ta tb tc : TE} {pos : Pos}

theorem binT (ha : PE X a ta) (hb : PE X b tb) {pins : List (Addr × Obj)} {s : Shared} {σ : St} {H : Hp} {R : V → V → Hp → Prop} (I : Inv X pins σ H s)
    (h : ta σ H fun x H1 => tb σ H1 fun y H2 => R x y H2) {Q : Value → Shared → Prop} {f : Value → Value → Sem Value}
    (hf : ∀ v u s2 x y H2, Inv X pins σ H2 s2 → RelV x v → RelV y u → R x y H2 → wpAny (model X.prog X.w) X.A (f v u) Q X.xe s2) :
    wpAny (model X.prog X.w) X.A (eval a X.env) (fun v s₁ => wpAny (model X.prog X.w) X.A (eval b X.env) (fun u s₂ => wpAny (model X.prog X.w) X.A (f v u) Q X.xe s₂) X.xe s₁) X.xe s := by
  refine thn (ha pins s σ H _ I h) fun v s1 ⟨x, H1, I1, r1, q1⟩ => ?_
  refine thn (hb pins s1 σ H1 _ I1 q1) fun u s2 ⟨y, H2, I2, r2, q2⟩ => ?_
  exact hf v u s2 x y H2 I2 r1 r2 q2

theorem pe_op {op : Operator} {r : R2} (ho : OpR X (binaryOp op) r) (ha : PE X a ta) (hb : PE X b tb) : PE X (.BinOp a op b pos) (tOp r ta tb) := by
  intro pins s σ H Q I h
  exact wpAny_BinOp (binT ha hb I h fun v u s2 x y H2 I2 rx ry q => ho pins s2 σ H2 x y v u Q I2 rx ry q)
theorem pe_un {op : UnaryOp} {r : V → Hp → VK → Prop} (ho : UnR X (unaryOp op) r) (ha : PE X a ta) : PE X (.UnaryOp op a pos) (tUn r ta) := by
  intro pins s σ H Q I h
  exact UnaryOp_ (thn (ha pins s σ H _ I h) fun v s1 ⟨x, H1, I1, r1, q1⟩ => ho pins s1 σ H1 x v Q I1 r1 q1)

theorem opI {f : Value → Value → Sem Value} {C : Int → Int → Prop} {g : Int → Int → Int}
    (rule : ∀ (i j : Int) (t u : Tok) (s : Shared) (Q : Value → Shared → Prop) (E : Value → Shared → Prop), C i j → Q (.int (g i j) s.toks) { s with toks := s.toks + 1 } → wpAny (model X.prog X.w) X.A (f (.int i t) (.int j u)) Q E s) :
    OpR X f (rI C fun i j => .int (g i j)) := by
  intro pins s σ H x y v u Q I rx ry h
  obtain ⟨i, j, rfl, rfl, hc, q⟩ := h
  obtain ⟨t, rfl⟩ := rx
  obtain ⟨t', rfl⟩ := ry
  exact rule i j t t' s _ _ hc ⟨.int (g i j), H, I.tok _, ⟨_, rfl⟩, q⟩
theorem opI0 {f : Value → Value → Sem Value} {g : Int → Int → Int}
    (rule : ∀ (i j : Int) (t u : Tok) (s : Shared) (Q : Value → Shared → Prop) (E : Value → Shared → Prop), Q (.int (g i j) s.toks) { s with toks := s.toks + 1 } → wpAny (model X.prog X.w) X.A (f (.int i t) (.int j u)) Q E s) :
    OpR X f (rI0 fun i j => .int (g i j)) := by
  intro pins s σ H x y v u Q I rx ry h
  obtain ⟨i, j, rfl, rfl, q⟩ := h
  obtain ⟨t, rfl⟩ := rx
  obtain ⟨t', rfl⟩ := ry
  exact rule i j t t' s _ _ ⟨.int (g i j), H, I.tok _, ⟨_, rfl⟩, q⟩
theorem opB0 {f : Value → Value → Sem Value} {g : Int → Int → Bool}
    (rule : ∀ (i j : Int) (t u : Tok) (s : Shared) (Q : Value → Shared → Prop) (E : Value → Shared → Prop), Q (.bool (g i j)) s → wpAny (model X.prog X.w) X.A (f (.int i t) (.int j u)) Q E s) :
    OpR X f (rI0 fun i j => .bl (g i j)) := by
  intro pins s σ H x y v u Q I rx ry h
  obtain ⟨i, j, rfl, rfl, q⟩ := h
  obtain ⟨t, rfl⟩ := rx
  obtain ⟨t', rfl⟩ := ry
  exact rule i j t t' s _ _ ⟨.bl (g i j), H, I, rfl, q⟩

def CPow (i j : Int) : Prop := 0 ≤ j ∧ j ≤ 1000000 ∧ i.natAbs < 2 ^ 64
def CMul (i j : Int) : Prop := (-(2 ^ 64) < i ∧ i < 2 ^ 64) ∨ (-(2 ^ 64) < j ∧ j < 2 ^ 64)
theorem CMul.ok {i j : Int} (h : CMul i j) : IntMulOk i j := by
  rcases h with ⟨h1, h2⟩ | ⟨h1, h2⟩
  · exact .of_left (intBits_le_64 h1 h2)
  · exact .of_right (intBits_le_64 h1 h2)

theorem op_add : OpR X (binaryOp .Add) (rI0 fun i j => .int (i + j)) := opI0 fun _ _ _ _ _ _ _ q => add_int q
theorem op_sub : OpR X (binaryOp .Sub) (rI0 fun i j => .int (i - j)) := opI0 fun _ _ _ _ _ _ _ q => sub_int q
theorem op_mul : OpR X (binaryOp .Mult) (rI CMul fun i j => .int (i * j)) := opI fun _ _ _ _ _ _ _ hc q => mul_int q hc.ok
theorem op_modN : OpR X (binaryOp .Mod) (rI (fun _ j => j ≠ 0) fun i j => .int (i.fmod j)) := opI fun _ _ _ _ _ _ _ hc q => mod_int' hc q
theorem op_pow : OpR X (binaryOp .Pow) (rI CPow fun i j => .int (i ^ j.toNat)) := opI fun _ _ _ _ _ _ _ hc q => pow_int_small hc.1 hc.2.1 hc.2.2 q


theorem unI {f : Value → Sem Value} {g : Int → Int}
    (rule : ∀ (i : Int) (t : Tok) (s : Shared) (Q : Value → Shared → Prop) (E : Value → Shared → Prop), Q (.int (g i) s.toks) { s with toks := s.toks + 1 } → wpAny (model X.prog X.w) X.A (f (.int i t)) Q E s) :
    UnR X f (rU fun i => .int (g i)) := by
  intro pins s σ H x v Q I rx h
  obtain ⟨i, rfl, q⟩ := h
  obtain ⟨t, rfl⟩ := rx
  exact rule i t s _ _ ⟨.int (g i), H, I.tok _, ⟨_, rfl⟩, q⟩
theorem un_neg : UnR X (unaryOp .USub) (rU fun i => .int (-i)) := unI fun _ _ _ _ _ q => neg_int q

end

def scal : V → V → Bool
  | .non, .non => true | .non, .int _ => true | .int _, .non => true | .non, .bl _ => true | .bl _, .non => true | .non, .str _ => true | .str _, .non => true
  | .int _, .int _ => true | .bl _, .bl _ => true | .str _, .str _ => true | .byt _, .byt _ => true
  | .int _, .str _ => true | .str _, .int _ => true | .bl _, .str _ => true | .str _, .bl _ => true
  | _, _ => false
def rEq : R2 := fun x y H Q => scal x y = true ∧ Q (.bl (decide (x = y))) H
def rNe : R2 := fun x y H Q => scal x y = true ∧ Q (.bl (!decide (x = y))) H

theorem dec_int {i j : Int} : decide (V.int i = V.int j) = (i == j) := by
  rw [Bool.eq_iff_iff]
  simp
theorem dec_bl {i j : Bool} : decide (V.bl i = V.bl j) = (i == j) := by
  rw [Bool.eq_iff_iff]
  simp
theorem dec_str {i j : Str} : decide (V.str i = V.str j) = (i == j) := by
  rw [Bool.eq_iff_iff]
  simp
theorem dec_byt {i j : Array UInt8} : decide (V.byt i = V.byt j) = (i.toList == j.toList) := by
  rw [Bool.eq_iff_iff]
  cases i
  cases j
  simp

section
variable {X : Cx} {a b c : Expr} {ta tb tc : TE} {pos : Pos}
theorem fin_bl {pins : List (Addr × Obj)} {σ : St} {H : Hp} {s : Shared} {Q : VK} {k k' : Bool} (I : Inv X pins σ H s) (q : Q (.bl k) H) (e : k = k') : EP X pins σ Q (.bool k') s := by
  subst e
  exact ⟨.bl k, H, I, rfl, q⟩
theorem op_eq : OpR X (compareOp .Eq) rEq := by
  intro pins s σ H x y v u Q I rx ry h
  obtain ⟨hs, q⟩ := h
  cases x with
  | non =>
    cases rx
    cases y with
    | non => cases ry; exact PySem.EqNone.eq_none_none (fin_bl I q (by simp))
    | bl j => cases ry; exact PySem.EqNone.eq_none_bool (fin_bl I q (by simp))
    | int j => obtain ⟨t', rfl⟩ := ry; exact PySem.EqNone.eq_none_int (fin_bl I q (by simp))
    | str j => obtain ⟨t', rfl⟩ := ry; exact PySem.EqNone.eq_none_str (fin_bl I q (by simp))
    | _ => exact absurd (show false = true from hs) Bool.false_ne_true
  | bl i =>
    cases rx
    cases y with
    | non => cases ry; exact PySem.EqNone.eq_bool_none (fin_bl I q (by simp))
    | bl j => cases ry; exact eq_bool (fin_bl I q dec_bl)
    | str j => obtain ⟨t', rfl⟩ := ry; exact PySem.EqMixed.eq_bool_str (fin_bl I q (by simp))
    | _ => exact absurd (show false = true from hs) Bool.false_ne_true
  | int i =>
    obtain ⟨t, rfl⟩ := rx
    cases y with
    | non => cases ry; exact PySem.EqNone.eq_int_none (fin_bl I q (by simp))
    | int j => obtain ⟨t', rfl⟩ := ry; exact eq_int (fin_bl I q dec_int)
    | str j => obtain ⟨t', rfl⟩ := ry; exact PySem.EqMixed.eq_int_str (fin_bl I q (by simp))
    | _ => exact absurd (show false = true from hs) Bool.false_ne_true
  | str i =>
    obtain ⟨t, rfl⟩ := rx
    cases y with
    | non => cases ry; exact PySem.EqNone.eq_str_none (fin_bl I q (by simp))
    | bl j => cases ry; exact PySem.EqMixed.eq_str_bool (fin_bl I q (by simp))
    | int j => obtain ⟨t', rfl⟩ := ry; exact PySem.EqMixed.eq_str_int (fin_bl I q (by simp))
    | str j => obtain ⟨t', rfl⟩ := ry; exact eq_str (fin_bl I q dec_str)
    | _ => exact absurd (show false = true from hs) Bool.false_ne_true
  | byt i =>
    obtain ⟨t, rfl⟩ := rx
    cases y with
    | byt j => obtain ⟨t', rfl⟩ := ry; exact PySem.W.eq_bytes (fin_bl I q dec_byt)
    | _ => exact absurd (show false = true from hs) Bool.false_ne_true
  | _ => cases y <;> exact absurd (show false = true from hs) Bool.false_ne_true
theorem op_ne : OpR X (compareOp .NotEq) rNe := by
  intro pins s σ H x y v u Q I rx ry h
  obtain ⟨hs, q⟩ := h
  cases x with
  | non =>
    cases rx
    cases y with
    | non => cases ry; exact PySem.EqNone.ne_none_none (fin_bl I q (by simp))
    | bl j => cases ry; exact PySem.EqNone.ne_none_bool (fin_bl I q (by simp))
    | int j => obtain ⟨t', rfl⟩ := ry; exact PySem.EqNone.ne_none_int (fin_bl I q (by simp))
    | str j => obtain ⟨t', rfl⟩ := ry; exact PySem.EqNone.ne_none_str (fin_bl I q (by simp))
    | _ => exact absurd (show false = true from hs) Bool.false_ne_true
  | bl i =>
    cases rx
    cases y with
    | non => cases ry; exact PySem.EqNone.ne_bool_none (fin_bl I q (by simp))
    | bl j => cases ry; exact ne_bool (fin_bl I q (congrArg not dec_bl))
    | str j => obtain ⟨t', rfl⟩ := ry; exact PySem.EqMixed.ne_bool_str (fin_bl I q (by simp))
    | _ => exact absurd (show false = true from hs) Bool.false_ne_true
  | int i =>
    obtain ⟨t, rfl⟩ := rx
    cases y with
    | non => cases ry; exact PySem.EqNone.ne_int_none (fin_bl I q (by simp))
    | int j => obtain ⟨t', rfl⟩ := ry; exact ne_int (fin_bl I q (congrArg not dec_int))
    | str j => obtain ⟨t', rfl⟩ := ry; exact PySem.EqMixed.ne_int_str (fin_bl I q (by simp))
    | _ => exact absurd (show false = true from hs) Bool.false_ne_true
  | str i =>
    obtain ⟨t, rfl⟩ := rx
    cases y with
    | non => cases ry; exact PySem.EqNone.ne_str_none (fin_bl I q (by simp))
    | bl j => cases ry; exact PySem.EqMixed.ne_str_bool (fin_bl I q (by simp))
    | int j => obtain ⟨t', rfl⟩ := ry; exact PySem.EqMixed.ne_str_int (fin_bl I q (by simp))
    | str j => obtain ⟨t', rfl⟩ := ry; exact ne_str (fin_bl I q (congrArg not dec_str))
    | _ => exact absurd (show false = true from hs) Bool.false_ne_true
  | byt i =>
    obtain ⟨t, rfl⟩ := rx
    cases y with
    | byt j => obtain ⟨t', rfl⟩ := ry; exact PySem.W.ne_bytes (fin_bl I q (congrArg not dec_byt))
    | _ => exact absurd (show false = true from hs) Bool.false_ne_true
  | _ => cases y <;> exact absurd (show false = true from hs) Bool.false_ne_true

theorem op_lt : OpR X (compareOp .Lt) (rI0 fun i j => .bl (decide (i < j))) := opB0 fun _ _ _ _ _ _ _ q => lt_int q
theorem op_le : OpR X (compareOp .LtE) (rI0 fun i j => .bl (decide (i ≤ j))) := opB0 fun _ _ _ _ _ _ _ q => le_int q
theorem op_gt : OpR X (compareOp .Gt) (rI0 fun i j => .bl (decide (j < i))) := opB0 fun _ _ _ _ _ _ _ q => gt_int q
theorem op_ge : OpR X (compareOp .GtE) (rI0 fun i j => .bl (decide (j ≤ i))) := opB0 fun _ _ _ _ _ _ _ q => ge_int q
theorem op_in_str : OpR X (compareOp .In) (fun x y H Q => ∃ i j, x = .str i ∧ y = .str j ∧ Q (.bl (!(Builtin.Str.occurrences j i 0 j.length 1).isEmpty)) H) := by
  intro pins s σ H x y v u Q I rx ry h
  obtain ⟨i, j, rfl, rfl, q⟩ := h
  obtain ⟨t, rfl⟩ := rx
  obtain ⟨t', rfl⟩ := ry
  exact in_str (fin_bl I q rfl)

theorem op_isN : OpR X (compareOp .Is) (fun x y H Q => y = .non ∧ Q (.bl (decide (x = .non))) H) := by
  intro pins s σ H x y v u Q I rx ry h
  obtain ⟨rfl, q⟩ := h
  cases ry
  refine is_none_gen (fin_bl I q ?_)
  cases x <;> first
    | (cases rx; rfl)
    | (obtain ⟨t, rfl⟩ := rx; rfl)
theorem op_notN : OpR X (compareOp .IsNot) (fun x y H Q => y = .non ∧ Q (.bl (!decide (x = .non))) H) := by
  intro pins s σ H x y v u Q I rx ry h
  obtain ⟨rfl, q⟩ := h
  cases ry
  refine isnot_none_gen (fin_bl I q ?_)
  cases x <;> first
    | (cases rx; rfl)
    | (obtain ⟨t, rfl⟩ := rx; rfl)


theorem OpR.or {f : Value → Value → Sem Value} {r r' : R2} (h : OpR X f r) (h' : OpR X f r') : OpR X f (fun x y H Q => r x y H Q ∨ r' x y H Q) := by
  intro pins s σ H x y v u Q I rx ry q
  rcases q with q | q
  · exact h pins s σ H x y v u Q I rx ry q
  · exact h' pins s σ H x y v u Q I rx ry q

theorem nomark (b : Expr) {op : CmpOp} (h : op ≠ .In := by decide) (h2 : op ≠ .NotIn := by decide) : behindInMarks op b = false := by
  have e1 : (op == CmpOp.In) = false := by cases op <;> first | rfl | exact absurd rfl h
  have e2 : (op == CmpOp.NotIn) = false := by cases op <;> first | rfl | exact absurd rfl h2
  cases b <;> simp [behindInMarks, e1, e2]
theorem pe_cmpR {op : CmpOp} {r : R2} (ho : OpR X (compareOp op) r) (ha : PE X a ta) (hb : PE X b tb) (hm : behindInMarks op b = false) : PE X (.Compare a [op] [b] pos) (tOp r ta tb) := by
  intro pins s σ H Q I h
  exact wpAny_Compare1 (binT ha hb I h fun v u s2 x y H2 I2 rx ry q => ho pins s2 σ H2 x y v u Q I2 rx ry q) hm
def tTest (t : TE) : TT := fun σ H Q => t σ H fun x H' => ∃ k, x = .bl k ∧ Q k H'
theorem pt_cmpR {op : CmpOp} {r : R2} (ho : OpR X (compareOp op) r) (ha : PE X a ta) (hb : PE X b tb) (hm : behindInMarks op b = false) : PT X (.Compare a [op] [b] pos) (tTest (tOp r ta tb)) := by
  intro pins s σ H Q I h
  refine wpAny_isTrue_Compare1 (thn (ha pins s σ H _ I h) fun v s1 ⟨x, H1, I1, r1, q1⟩ => thn (hb pins s1 σ H1 _ I1 q1) fun u s2 ⟨y, H2, I2, r2, q2⟩ =>
    thn (ho pins s2 σ H2 x y v u _ I2 r1 r2 q2) fun c s3 ⟨z, H3, I3, r3, k, e, q3⟩ => ?_) hm
  subst e
  cases r3
  exact wpAny_truthy_bool ⟨H3, I3, q3⟩
def tChain (r r' : R2) (ta tb tc : TE) : TE := fun σ H Q => ta σ H fun x H1 => tb σ H1 fun y H2 => r x y H2 fun z H3 => ∃ k, z = .bl k ∧
  (if k = true then tc σ H3 fun w' H4 => r' y w' H4 Q else Q (.bl false) H3)
theorem pe_chain {op op' : CmpOp} {r r' : R2} (ho : OpR X (compareOp op) r) (ho' : OpR X (compareOp op') r') (ha : PE X a ta) (hb : PE X b tb) (hc : PE X c tc)
    (hm : lastMarks [op, op'] [b, c] = false := by with_unfolding_all rfl) : PE X (.Compare a [op, op'] [b, c] pos) (tChain r r' ta tb tc) := by
  intro pins s σ H Q I h
  refine Compare_chain (thn (ha pins s σ H _ I h) fun v s1 ⟨x, H1, I1, r1, q1⟩ => chain_link (thn (hb pins s1 σ H1 _ I1 q1) fun u s2 ⟨y, H2, I2, r2, q2⟩ =>
    thn (ho pins s2 σ H2 x y v u _ I2 r1 r2 q2) fun d s3 ⟨z, H3, I3, r3, k, e, q3⟩ => ?_)) hm
  subst e
  cases r3
  refine wpAny_truthy_bool ?_
  cases k with
  | false => exact ite_ff ⟨.bl false, H3, I3, rfl, q3⟩
  | true => exact ite_tt (chain_last (thn (hc pins s3 σ H3 _ I3 q3) fun w' s4 ⟨z', H4, I4, r4, q4⟩ => ho' pins s4 σ H4 y z' u w' Q I4 r2 r4 q4))
theorem pt_chain {op op' : CmpOp} {r r' : R2} (ho : OpR X (compareOp op) r) (ho' : OpR X (compareOp op') r') (ha : PE X a ta) (hb : PE X b tb) (hc : PE X c tc)
    (hm : lastMarks [op, op'] [b, c] = false := by with_unfolding_all rfl) : PT X (.Compare a [op, op'] [b, c] pos) (tTest (tChain r r' ta tb tc)) := by
  intro pins s σ H Q I h
  refine isTrue_chain (thn (ha pins s σ H _ I h) fun v s1 ⟨x, H1, I1, r1, q1⟩ => test_link (thn (hb pins s1 σ H1 _ I1 q1) fun u s2 ⟨y, H2, I2, r2, q2⟩ =>
    thn (ho pins s2 σ H2 x y v u _ I2 r1 r2 q2) fun d s3 ⟨z, H3, I3, r3, k, e, q3⟩ => ?_)) hm
  subst e
  cases r3
  refine wpAny_truthy_bool ?_
  cases k with
  | false =>
    obtain ⟨k', e', q'⟩ := q3
    cases e'
    exact ite_ff ⟨H3, I3, q'⟩
  | true =>
    refine ite_tt (test_last (thn (hc pins s3 σ H3 _ I3 q3) fun w' s4 ⟨z', H4, I4, r4, q4⟩ => thn (ho' pins s4 σ H4 y z' u w' _ I4 r2 r4 q4) fun d' s5 ⟨z2, H5, I5, r5, k2, e2, q5⟩ => ?_))
    subst e2
    cases r5
    exact wpAny_truthy_bool ⟨H5, I5, q5⟩

theorem line63 : (sizeLine : Nat) < 2 ^ 63 := by rw [sizeLine_eq]; decide

theorem op_add_str : OpR X (binaryOp .Add) (fun x y H Q => ∃ i j, x = .str i ∧ y = .str j ∧ i.length + j.length ≤ sizeLine ∧ Q (.str (i ++ j)) H) := by
  intro pins s σ H x y v u Q I rx ry h
  obtain ⟨i, j, rfl, rfl, hz, q⟩ := h
  obtain ⟨t, rfl⟩ := rx
  obtain ⟨t', rfl⟩ := ry
  exact add_str (fun t' tk => ⟨.str (i ++ j), H, I.tok _, ⟨_, rfl⟩, q⟩) hz


theorem vals1 {x : V} {us : List Value} (r : Vals [x] us) : ∃ u, us = [u] ∧ RelV x u := by
  cases r with
  | cons r1 r2 => cases r2; exact ⟨_, rfl, r1⟩
theorem call_abs : CallR X (.builtin "abs") (fun xs H Q => ∃ i, xs = [.int i] ∧ Q (.int (if i < 0 then -i else i)) H) := by
  intro pins s σ H xs us Q I r h
  obtain ⟨i, rfl, q⟩ := h
  obtain ⟨u, rfl, t, rfl⟩ := vals1 r
  exact call_abs_int fun u tk => ⟨.int (if i < 0 then -i else i), H, I.tok _, ⟨_, rfl⟩, q⟩
def LenV (K : PySem.W.Frag) (x : V) (H : Hp) (n : Nat) : Prop :=
  match x with
  | .str y => y.length ≤ sizeLine ∧ n = y.length
  | .byt y => y.size ≤ sizeLine ∧ n = y.size
  | .ref p => (∃ xs, SqL K H p xs ∧ n = xs.length) ∨ ∃ xs, SqT K H p xs ∧ n = xs.length
  | _ => False
theorem call_len : CallR X (.builtin "len") (fun xs H Q => ∃ x n, xs = [x] ∧ LenV X.K x H n ∧ Q (.int n) H) := by
  intro pins s σ H xs us Q I r h
  obtain ⟨x, n, rfl, e, q⟩ := h
  obtain ⟨u, rfl, rx⟩ := vals1 r
  have hl := line63
  have hs : sizeLine = 16777216 := sizeLine_eq
  cases x with
  | str y =>
    obtain ⟨t, rfl⟩ := rx
    obtain ⟨hy, e'⟩ : y.length ≤ sizeLine ∧ n = y.length := e
    subst e'
    exact len_str (by omega) ⟨.int _, H, I.tok _, ⟨_, rfl⟩, q⟩
  | byt y =>
    obtain ⟨t, rfl⟩ := rx
    obtain ⟨hy, e'⟩ : y.size ≤ sizeLine ∧ n = y.size := e
    subst e'
    exact PySem.W.len_bytes (by omega) ⟨.int _, H, I.tok _, ⟨_, rfl⟩, q⟩
  | ref p =>
    cases rx
    have e' : (∃ xs, SqL X.K H p xs ∧ n = xs.length) ∨ ∃ xs, SqT X.K H p xs ∧ n = xs.length := e
    rcases e' with ⟨xs, hx, e'⟩ | ⟨xs, hx, e'⟩
    · subst e'
      obtain ⟨its, r', pl, hz⟩ := I.list hx
      have hlen := r'.length
      exact Calls.call_len_list pl.isList (by simp only [List.size_toArray]; omega) ⟨.int xs.length, H, I.tok _, ⟨_, by simp only [List.size_toArray]; rw [hlen]⟩, q⟩
    · subst e'
      obtain ⟨its, r', pl, hz⟩ := I.tuple hx
      have hlen := r'.length
      exact len_tuple pl (by simp only [List.size_toArray]; omega) ⟨.int xs.length, H, I.tok _, ⟨_, by simp only [List.size_toArray]; rw [hlen]⟩, q⟩
  | _ => exact (show False from e).elim
end
end L2

namespace L2
open PySem PySem.Spec PyProof.Rows

structure ObjM (h : Heap) (x dx C : Addr) (mA : Str → Option Value) : Prop where
  obj : h.get? x = some (PySem.W.instObj C dx)
  ns : h.Ns1 dx mA
  ne : dx ≠ x

theorem lookIn_ns {h : Heap} {dx : Addr} {mA : Str → Option Value} (n : h.Ns1 dx mA) : ∃ od, h.get? dx = some od ∧ ∀ name, PySem.W.lookIn name od = some (mA name) := by
  obtain ⟨o, es, ep, ho, hd, hk, _, hm⟩ := n
  refine ⟨o, ho, fun name => ?_⟩
  have e := hm name
  unfold nsFind findBy at e
  rw [← Array.find?_toList] at e
  unfold PySem.W.lookIn
  rw [hd]
  dsimp only
  split
  · rename_i y q
    rw [q] at e
    exact congrArg some e
  · rename_i q
    rw [q] at e
    have a : es.toList.any (·.refKey) = false := by
      rw [List.any_eq_false]
      intro y hy
      obtain ⟨z, t, hkey⟩ := hk y (Array.mem_toList_iff.mp hy)
      simp [DictEntry.refKey, hkey]
    have a' : ¬ es.toList.any (·.refKey) = true := by rw [a]; exact Bool.false_ne_true
    rw [if_neg a']
    exact congrArg some e

theorem ObjM.look {h : Heap} {x dx C : Addr} {mA : Str → Option Value} (I : ObjM h x dx C mA) : ∃ od, PySem.W.InstAt h x (PySem.W.instObj C dx) C (some od) ∧ ∀ name, PySem.W.lookIn name od = some (mA name) :=
  let ⟨od, ho, hl⟩ := lookIn_ns I.ns
  ⟨od, ⟨I.obj, rfl, rfl, ho⟩, hl⟩

section
variable {prog : Program} {w : World} {A : Around} {E : Value → Shared → Prop} {s : Shared} {K : PySem.W.Frag} {x dx C f : Addr} {mA : Str → Option Value} {name : Str} {v : Value}

theorem get_map {expr : Bool} {Q : Value → Shared → Prop} (X : K.In s.heap) (I : ObjM s.heap x dx C mA) (hg : PySem.W.plainGet K C name = true) (hh : PySem.W.hasDictIn K C = true)
    (ha : PySem.W.findIn K (.ref C) name = some none) (hv : mA name = some v) (hv' : PySem.W.handedIn v = true) (h : Q v { s with toks := s.toks + 1 }) :
    wpAny (model prog w) A (getAttr (.ref x) name expr) Q E s := by
  obtain ⟨od, J, hl⟩ := I.look
  exact PySem.W.get_value X J (PySem.W.plainGet_of hg).1 (PySem.W.findObj_own hh ha rfl (by rw [hl, hv])) hv' h


theorem get_meth {pl : Sem Bool} {Q : Value × List Value → Shared → Prop} (X : K.In s.heap) (I : ObjM s.heap x dx C mA) (hg : PySem.W.plainGet K C name = true)
    (hf : PySem.W.findIn K (.ref C) name = some (some (.ref f))) (ht : PySem.W.isFn K (.ref f) = true) (hv : mA name = none) (h : Q (.ref f, [.ref x]) s) :
    wpAny (model prog w) A (getMethod (.ref x) name pl) Q E s := by
  obtain ⟨od, J, hl⟩ := I.look
  exact PySem.W.method_fn X J (PySem.W.plainGet_of hg).1 (PySem.W.plainGet_of hg).2 hf (beq_iff_eq.mp ht) (by show (PySem.W.lookIn name od).map (·.isSome) = some false; rw [hl, hv]; rfl) h

theorem set_map {ns : List Str} {Q : Unit → Shared → Prop} (X : K.In s.heap) (I : ObjM s.heap x dx C mA)
    (hs : PySem.W.findIn K (.ref C) "__setattr__" = some (some (.builtin "object.__setattr__"))) (hp : PySem.W.plainOver K C = true) (ht : PySem.W.takerIn K C name = some none) (hh : PySem.W.hasDictIn K C = true)
    (hw : PySem.Within mA ns) (hsz : ns.length ≤ sizeLine)
    (h : ∀ h', ObjM h' x dx C (fun y => if y = name then some v else mA y) → Heap.SameBut dx s.heap h' → Q () { s with heap := h', toks := s.toks + 2 }) :
    wpAny (model prog w) A (setAttr (.ref x) name v) Q E s := by
  obtain ⟨od, J, hl⟩ := I.look
  refine PySem.W.set_plain X J hs (PySem.W.osa_open (s := { s with toks := s.toks + 1 }) (r := none) X J hp ht fun b => ?_)
  obtain ⟨cd, hc, hd'⟩ := PySem.W.any_some hh
  have hx : s.heap.get? x = some ⟨.ref C, some dx, .plain, #[]⟩ := I.obj
  refine wpAny_bind (wpAny_pure (wpAny_bind (wpAny_bind (wpAny_loadPart hx (wpAny_bind (PySem.W.Looks.here (s := { s with toks := s.toks + 1 }) (PySem.W.looks_clsIn X hc) ?_))))))
  rw [hd']
  refine wpAny_pure (a := some dx) (wpAny_bind (wpAny_pure (wpAny_bind ?_)))
  refine wpAny_nsSet1 (s := { s with toks := s.toks + 1 }) I.ns fun h' hn2 hs2 => ?_
  obtain ⟨oD, esD, epD, hoD, hdD, hcD⟩ := hn2.count (PySem.Within.cons name v hw)
  refine wpAny_bind (wpAny_lookBehind hoD (by rw [hdD]; exact pastItsLine_dict (Nat.le_trans hcD (by rw [List.length_cons]; omega))) ?_)
  exact wpAny_pure (h _ ⟨(hs2.2 _ (Ne.symm I.ne)).trans I.obj, hn2, I.ne⟩ hs2)

theorem make_map {R : Result → Shared → Prop} {vs : List Value} {kw : List (Str × Value)} (X : K.In s.heap) (hm : PySem.W.makesIn K C = true)
    (hi : PySem.W.findIn K (.ref C) "__init__" = some (some (.ref f))) (hf : PySem.W.typeIn K (.ref f) = some (.type "function"))
    (h : codeAny (model prog w) (A.under (.builtin "type.__call__" ⟨.ref C :: vs, kw⟩)) (.call (.ref f) ⟨.ref (s.heap.objs.size + 1) :: vs, kw⟩) (PySem.W.InitBack (s.heap.objs.size + 1) R)
      { s with heap := (s.heap.push PySem.W.emptyDict).push (PySem.W.instObj C s.heap.objs.size) }) :
    codeAny (model prog w) A (.call (.ref C) ⟨vs, kw⟩) R s := by
  obtain ⟨hh, g, d, t, os⟩ := s
  exact PySem.W.make_core (PySem.W.makes_of X hm) (PySem.W.looks_findIn X hi) (fun self => PySem.W.bind_fn X self hf) (.inl rfl) h
theorem make_map0 {R : Result → Shared → Prop} (X : K.In s.heap) (hm : PySem.W.makesIn K C = true)
    (hi : PySem.W.findIn K (.ref C) "__init__" = some (some (.builtin "object.__init__")))
    (hb : ∀ self, PySem.W.Looks (model prog w) s.heap (bindSpecial (.builtin "object.__init__") self) (.builtin "object.__init__", [self]))
    (h : codeAny (model prog w) (A.under (.builtin "type.__call__" ⟨[.ref C], []⟩)) (.call (.builtin "object.__init__") ⟨[.ref (s.heap.objs.size + 1)], []⟩) (PySem.W.InitBack (s.heap.objs.size + 1) R)
      { s with heap := (s.heap.push PySem.W.emptyDict).push (PySem.W.instObj C s.heap.objs.size) }) :
    codeAny (model prog w) A (.call (.ref C) ⟨[], []⟩) R s := by
  obtain ⟨hh, g, d, t, os⟩ := s
  exact PySem.W.make_core (PySem.W.makes_of X hm) (PySem.W.looks_findIn X hi) hb (.inr ⟨rfl, rfl⟩) h
end

def putF (f : Str) (v : V) : List (Str × V) → List (Str × V)
  | [] => [(f, v)]
  | (g, x) :: r => if g = f then (g, v) :: r else (g, x) :: putF f v r
theorem lookup_putF (f g : Str) (v : V) : ∀ fs : List (Str × V), (putF f v fs).lookup g = if g = f then some v else fs.lookup g
  | [] => by
    show List.lookup g [(f, v)] = _
    by_cases h : g = f
    · have hb : (g == f) = true := beq_iff_eq.mpr h
      simp only [List.lookup, hb, if_pos h]
    · have hb : (g == f) = false := beq_eq_false_iff_ne.mpr h
      simp only [List.lookup, hb, if_neg h]
  | (k, x) :: r => by
    have ih := lookup_putF f g v r
    rw [show putF f v ((k, x) :: r) = (if k = f then (k, v) :: r else (k, x) :: putF f v r) from rfl]
    by_cases hk : k = f
    · rw [if_pos hk]
      by_cases h : g = k
      · have hb : (g == k) = true := beq_iff_eq.mpr h
        simp only [List.lookup, hb, if_pos (h.trans hk)]
      · have hb : (g == k) = false := beq_eq_false_iff_ne.mpr h
        simp only [List.lookup, hb, if_neg (fun e : g = f => h (e.trans hk.symm))]
    · rw [if_neg hk]
      by_cases h : g = k
      · have hb : (g == k) = true := beq_iff_eq.mpr h
        simp only [List.lookup, hb, if_neg (fun e : g = f => hk (h.symm.trans e))]
      · have hb : (g == k) = false := beq_eq_false_iff_ne.mpr h
        simp only [List.lookup, hb]
        exact ih
theorem keys_putF (f : Str) (v : V) : ∀ fs : List (Str × V), f ∈ (putF f v fs).map (·.1) ∧ ∀ g, g ∈ fs.map (·.1) → g ∈ (putF f v fs).map (·.1)
  | [] => ⟨by simp [putF], fun g h => by simp at h⟩
  | (k, x) :: r => by
    obtain ⟨i1, i2⟩ := keys_putF f v r
    rw [show putF f v ((k, x) :: r) = (if k = f then (k, v) :: r else (k, x) :: putF f v r) from rfl]
    by_cases hk : k = f
    · rw [if_pos hk]
      subst hk
      exact ⟨by simp, fun g h => by simpa using h⟩
    · rw [if_neg hk]
      refine ⟨?_, fun g h => ?_⟩
      · rw [List.map_cons]
        exact List.mem_cons_of_mem _ i1
      · rw [List.map_cons] at h ⊢
        rcases List.mem_cons.mp h with e | e
        · exact List.mem_cons.mpr (.inl e)
        · exact List.mem_cons_of_mem _ (i2 g e)
theorem length_putF (f : Str) (v : V) : ∀ fs : List (Str × V), (putF f v fs).length ≤ fs.length + 1
  | [] => by simp [putF]
  | (k, x) :: r => by
    have ih := length_putF f v r
    rw [show putF f v ((k, x) :: r) = (if k = f then (k, v) :: r else (k, x) :: putF f v r) from rfl]
    by_cases hk : k = f
    · rw [if_pos hk, List.length_cons, List.length_cons]; omega
    · rw [if_neg hk, List.length_cons, List.length_cons]; omega

theorem RelO.some_of {v : V} {o : Option Value} (r : RelO (some v) o) : ∃ u, o = some u ∧ RelV v u := by
  cases o with
  | none => exact (show False from r).elim
  | some u => exact ⟨u, rfl, r⟩
theorem RelO.none_of {o : Option Value} (r : RelO none o) : o = none := by
  cases o with
  | none => rfl
  | some u => exact (show False from r).elim
theorem handed_of {v : V} {u : Value} (r : RelV v u) : PySem.W.handedIn u = true := by
  cases v with
  | non => cases (show u = Value.none from r); rfl
  | bl b => cases (show u = Value.bool b from r); rfl
  | int i => obtain ⟨t, e⟩ := (show ∃ t, u = Value.int i t from r); cases e; rfl
  | str x => obtain ⟨t, e⟩ := (show ∃ t, u = Value.str x t from r); cases e; rfl
  | byt b => obtain ⟨t, e⟩ := (show ∃ t, u = Value.bytes b t from r); cases e; rfl
  | flt b => obtain ⟨t, e⟩ := (show ∃ t, u = Value.float b t from r); cases e; rfl
  | ref a => cases (show u = Value.ref a from r); rfl
  | ty n => cases (show u = Value.type n from r); rfl

section
variable {P : Program} {w : World} {H H' : Hp} {h h' : Heap} {a C dx : Addr} {fs fs' : List (Str × V)}
theorem ins_get (hok : HOk P w H h) (e : H a = some (.ins C dx fs)) : ∃ mA, ObjM h a dx C mA ∧ (∀ f, RelO (fs.lookup f) (mA f)) ∧ PySem.Within mA (fs.map (·.1)) ∧ fs.length ≤ 1000 ∧ H dx = some (.own a) := by
  obtain ⟨d, z, ne, ob, mA, n, r, q⟩ := (show ObjOk P w H h a (.ins C dx fs) from hok a _ e)
  exact ⟨mA, ⟨ob, n, ne⟩, r, q, z, d⟩
end

structure Cls (K : PySem.W.Frag) (C : Addr) : Prop where
  pg : PySem.W.plainGet K C Str.empty = true
  hd : PySem.W.hasDictIn K C = true
  po : PySem.W.plainOver K C = true
  sa : PySem.W.findIn K (.ref C) "__setattr__" = some (some (.builtin "object.__setattr__"))
theorem Cls.get {K : PySem.W.Frag} {C : Addr} (c : Cls K C) (f : Str) : PySem.W.plainGet K C f = true := c.pg
def NoAttr (K : PySem.W.Frag) (C : Addr) (f : Str) : Prop := PySem.W.findIn K (.ref C) f = some none
theorem NoAttr.taker {K : PySem.W.Frag} {C : Addr} {f : Str} (n : NoAttr K C f) : PySem.W.takerIn K C f = some none := by
  unfold PySem.W.takerIn
  rw [show PySem.W.findIn K (.ref C) f = some none from n]
  rfl
structure Con (K : PySem.W.Frag) (C : Addr) (f : Str) (v : V) (u : Value) : Prop where
  at_ : PySem.W.findIn K (.ref C) f = some (some u)
  rel : RelV v u
  get : PySem.W.specialIn K u "__get__" = some none
  cp : PySem.W.copiedNames.contains f = false
structure Meth (K : PySem.W.Frag) (C : Addr) (m : Str) (f : Addr) : Prop where
  at_ : PySem.W.findIn K (.ref C) m = some (some (.ref f))
  fn : PySem.W.isFn K (.ref f) = true
  kp : PySem.W.keepIn K (.ref f) = true

section
variable {X : Cx} {pins : List (Addr × Obj)} {σ : St} {H : Hp} {s : Shared} {a C dx : Addr} {fs : List (Str × V)} {f : Str} {v : V} {A : Around} {E : Value → Shared → Prop}

theorem getattr_ok {b : Bool} {Q : Value → Shared → Prop} (I : Inv X pins σ H s) (e : H a = some (.ins C dx fs)) (c : Cls X.K C) (n : NoAttr X.K C f) (l : fs.lookup f = some v)
    (h : ∀ u s', Inv X pins σ H s' → RelV v u → Q u s') : wpAny (model X.prog X.w) A (getAttr (.ref a) f b) Q E s := by
  obtain ⟨mA, O, r, _, _, _⟩ := ins_get I.hok e
  obtain ⟨u, hu, ru⟩ := RelO.some_of (v := v) (o := mA f) (by rw [← l]; exact r f)
  exact get_map I.kIn O (c.get f) c.hd n hu (handed_of ru) (h u _ (I.tok _) ru)


theorem getmeth_ok {m : Str} {g : Addr} {pl : Sem Bool} {Q : Value × List Value → Shared → Prop} (I : Inv X pins σ H s) (e : H a = some (.ins C dx fs)) (c : Cls X.K C) (k : Meth X.K C m g) (l : fs.lookup m = none)
    (h : Q (.ref g, [.ref a]) s) : wpAny (model X.prog X.w) A (getMethod (.ref a) m pl) Q E s := by
  obtain ⟨mA, O, r, _, _, _⟩ := ins_get I.hok e
  have hn : mA m = none := RelO.none_of (by rw [← l]; exact r m)
  exact get_meth I.kIn O (c.get m) k.at_ k.fn hn h

theorem setattr_ok {y : V} {u : Value} {Q : Unit → Shared → Prop} (I : Inv X pins σ H s) (e : H a = some (.ins C dx fs)) (c : Cls X.K C) (n : NoAttr X.K C f) (hl : fs.length < 1000) (ry : RelV y u)
    (h : ∀ s', Inv X pins σ (upd H a (.ins C dx (putF f y fs))) s' → Q () s') : wpAny (model X.prog X.w) A (setAttr (.ref a) f u) Q E s := by
  obtain ⟨mA, O, r, wi, _, ho⟩ := ins_get I.hok e
  have hz : (fs.map (·.1)).length ≤ sizeLine := by rw [List.length_map, sizeLine_eq]; omega
  refine set_map I.kIn O c.sa c.po n.taker c.hd wi hz fun h' O' sb => h _ ?_
  have hd : ∃ o, h'.get? dx = some o := let ⟨o, _, _, e', _⟩ := O'.ns; ⟨o, e'⟩
  refine I.write (x := a) (e := dx) (by rw [e]; exact True.intro) (.inr ho) (fun b q hb z => (sb.2 b hb).trans z) hd ?_
  refine ⟨by rw [upd_ne O.ne]; exact ho, ?_, O.ne, O'.obj, _, O'.ns, fun g => ?_, fun g hg => ?_⟩
  · have := length_putF f y fs; omega
  · show RelO ((putF f y fs).lookup g) (if g = f then some u else mA g)
    rw [lookup_putF]
    by_cases q : g = f
    · rw [if_pos q, if_pos q]; exact ry
    · rw [if_neg q, if_neg q]; exact r g
  · by_cases q : g = f
    · rw [q]; exact (keys_putF f y fs).1
    · refine (keys_putF f y fs).2 g (wi g fun z => hg ?_)
      show (if g = f then some u else mA g) = none
      rw [if_neg q]; exact z

theorem Inv.made (I : Inv X pins σ H s) : Inv X pins σ (upd (upd H s.heap.objs.size (.own (s.heap.objs.size + 1))) (s.heap.objs.size + 1) (.ins C s.heap.objs.size []))
    { s with heap := (s.heap.push PySem.W.emptyDict).push (PySem.W.instObj C s.heap.objs.size) } := by
  have e1 : (s.heap.push PySem.W.emptyDict).get? s.heap.objs.size = some PySem.W.emptyDict := Heap.get?_push_size s.heap rfl
  have e2 : ((s.heap.push PySem.W.emptyDict).push (PySem.W.instObj C s.heap.objs.size)).get? (s.heap.objs.size + 1) = some (PySem.W.instObj C s.heap.objs.size) := by
    have := Heap.get?_push_size (s.heap.push PySem.W.emptyDict) (o := PySem.W.instObj C s.heap.objs.size) rfl
    rwa [Heap.size_push] at this
  have e3 : (s.heap.push PySem.W.emptyDict).Ns s.heap.objs.size (fun _ => none) := ⟨PySem.W.emptyDict, #[], _, e1, rfl, (fun e he => absurd he (by simp)), fun _ => rfl⟩
  have I1 := I.laid (a := s.heap.objs.size) (o := .own (s.heap.objs.size + 1)) (h' := s.heap.push PySem.W.emptyDict) (t' := s.toks) (fun b u q => Heap.get?_push_of_some _ q) (Nat.le_refl _) ⟨_, e1⟩
  refine I1.laid (a := s.heap.objs.size + 1) (o := .ins C s.heap.objs.size []) (t' := s.toks) (fun b u q => Heap.get?_push_of_some _ q) (Nat.le_of_eq (Heap.size_push _ _)) ?_
  have ne : s.heap.objs.size ≠ s.heap.objs.size + 1 := Nat.ne_of_lt (Nat.lt_succ_self _)
  refine ⟨by rw [upd_ne ne, upd_same], Nat.zero_le _, ne, e2, fun _ => none, (Heap.Ns1.of_empty e3).at fun o q => Heap.get?_push_of_some _ q, fun _ => True.intro, fun y hy => absurd rfl hy⟩

theorem attr_of {prog : Program} {w : World} {env : Env} {e : Expr} {f : Str} {pos : Pos} {s : Shared} {Q : Value → Shared → Prop} (hb : attributeBase e f env (eval e env) = eval e env)
    (h : wpAny (model prog w) A (eval e env) (fun o s₁ => wpAny (model prog w) A (getAttr o f true) Q E s₁) E s) : wpAny (model prog w) A (eval (.Attribute e f pos) env) Q E s :=
  Attribute_any_ h (by rw [arm_eval_Attribute, hb])
end

def tFld (K : PySem.W.Frag) (ta : TE) (f : Str) : TE := fun σ H Q => ta σ H fun x H1 => ∃ a C dx fs v, x = .ref a ∧ H1 a = some (.ins C dx fs) ∧ Cls K C ∧ NoAttr K C f ∧ fs.lookup f = some v ∧ Q v H1
def sFld (K : PySem.W.Frag) (ta tv : TE) (f : Str) : TS := fun D σ H => tv σ H fun y H1 => ta σ H1 fun x H2 => ∃ a C dx fs, x = .ref a ∧ H2 a = some (.ins C dx fs) ∧ Cls K C ∧ NoAttr K C f ∧ fs.length < 1000 ∧
  D.nx σ (upd H2 a (.ins C dx (putF f y fs)))

section
variable {X : Cx} {o e value : Expr} {f : Str} {pos pos' tpos : Pos} {ta tv : TE}
theorem pe_fld (he : PE X e ta) (hb : attributeBase e f X.env (eval e X.env) = eval e X.env) : PE X (.Attribute e f pos) (tFld X.K ta f) := by
  intro pins s σ H Q I h
  refine attr_of hb (thn (he pins s σ H _ I h) fun u s1 ⟨x, H1, I1, rx, a, C, dx, fs, v, ex, ea, c, n, l, q⟩ => ?_)
  subst ex
  obtain rfl : u = Value.ref a := rx
  exact getattr_ok I1 ea c n l fun u' s2 I2 ru => ⟨v, H1, I2, ru, q⟩
theorem ps_fld (ha : PE X o ta) (hv : PE X value tv) (hs : swapsWith value (some (.Attribute o f pos')) pos.line X.env = pure false) : PS X (.Assign [.Attribute o f pos'] value pos) (sFld X.K ta tv f) := by
  intro pins s σ H D I h
  refine plainObj_wpAny_Assign_Attribute (thn (hv pins s σ H _ I h) fun u s1 ⟨y, H1, I1, ry, q⟩ => thn (ha pins s1 σ H1 _ I1 q) fun ov s2 ⟨x, H2, I2, rx, a, C, dx, fs, ex, ea, c, n, l, q2⟩ => ?_) hs
  subst ex
  obtain rfl : ov = Value.ref a := rx
  exact setattr_ok I2 ea c n l ry fun s3 I3 => ⟨σ, _, I3, q2⟩

end

section
variable {X : Cx} {pins : List (Addr × Obj)} {σ : St} {H : Hp} {s : Shared} {A : Around} {E : Value → Shared → Prop} {Q : Value → Shared → Prop} {c : Value} {b : Bool}
inductive TyOf (K : PySem.W.Frag) (H : Hp) : V → Value → Prop where
  | non : TyOf K H .non (.type "NoneType")
  | bl (x : Bool) : TyOf K H (.bl x) (.type "bool")
  | int (i : Int) : TyOf K H (.int i) (.type "int")
  | str (x : Str) : TyOf K H (.str x) (.type "str")
  | flt (x : UInt64) : TyOf K H (.flt x) (.type "float")
  | lst {a : Addr} {xs : List V} (e : H a = some (.lst xs)) : TyOf K H (.ref a) (.type "list")
  | frz {a : Addr} {o : Obj} {xs : List V} (e : H a = some (.frz o (.lst xs))) : TyOf K H (.ref a) (.type "list")
  | tup {a : Addr} {xs : List V} (e : H a = some (.tup xs)) : TyOf K H (.ref a) (.type "tuple")
  | dK {a : Addr} {kvs : List (Key × V)} (e : H a = some (.dK kvs)) : TyOf K H (.ref a) (.type "dict")
  | dT {a : Addr} {kvs : List (List Key × V)} (e : H a = some (.dT kvs)) : TyOf K H (.ref a) (.type "dict")
  | ins {a C dx : Addr} {fs : List (Str × V)} (e : H a = some (.ins C dx fs)) (cl : Cls K C) (ha : PySem.W.findIn K (.ref C) "__class__" = some (some (.builtin "object.__class__")))
      (hn : PySem.W.specialIn K (.builtin "object.__class__") "__get__" = some (some (.builtin "getset_descriptor.__get__"))) (htk : PySem.W.takesIn K (.builtin "object.__class__") = some true)
      (hm : PySem.W.mroIn K C (.type "object") = some true) : TyOf K H (.ref a) (.ref C)
theorem isinst_ok {x : V} {u t : Value} (I : Inv X pins σ H s) (rx : RelV x u) (ty : TyOf X.K H x t) (e : PySem.W.kitOne X.K t c = some b) (h : ∀ tk, Q (.bool b) { s with toks := tk }) :
    wpAny (model X.prog X.w) A (call (.builtin "isinstance") [u, c]) Q E s := by
  cases ty with
  | non => cases (show u = Value.none from rx); exact PySem.W.kia_one PySem.W.kitx_none I.kIn True.intro e (fun z => nomatch z) h
  | bl y => cases (show u = Value.bool y from rx); exact PySem.W.kia_one PySem.W.kitx_bool I.kIn True.intro e (fun z => nomatch z) h
  | int i => obtain ⟨t, q⟩ := (show ∃ t, u = Value.int i t from rx); cases q; exact PySem.W.kia_one PySem.W.kitx_int I.kIn True.intro e (fun z => nomatch z) h
  | str y => obtain ⟨t, q⟩ := (show ∃ t, u = Value.str y t from rx); cases q; exact PySem.W.kia_one PySem.W.kitx_str I.kIn True.intro e (fun z => nomatch z) h
  | flt y => obtain ⟨t, q⟩ := (show ∃ t, u = Value.float y t from rx); cases q; exact PySem.W.kia_one PySem.W.kitx_float I.kIn True.intro e (fun z => nomatch z) h
  | @lst a xs ea =>
    cases (show u = Value.ref a from rx)
    obtain ⟨_, _, n, _, h1⟩ := (show ObjOk X.prog X.w H s.heap a (.lst xs) from I.hok a _ ea)
    exact PySem.W.kia_one PySem.W.kitx_list I.kIn ⟨_, h1, rfl⟩ e (fun z => nomatch z) h
  | @frz a ob xs ea =>
    cases (show u = Value.ref a from rx)
    obtain ⟨_, _, _, n, _, h1⟩ := (show ObjOk X.prog X.w H s.heap a (.frz ob (.lst xs)) from I.hok a _ ea)
    exact PySem.W.kia_one PySem.W.kitx_list I.kIn ⟨_, h1, rfl⟩ e (fun z => nomatch z) h
  | @tup a xs ea =>
    cases (show u = Value.ref a from rx)
    obtain ⟨_, _, _, p⟩ := (show ObjOk X.prog X.w H s.heap a (.tup xs) from I.hok a _ ea)
    obtain ⟨o, h1, h2, _⟩ := p
    exact PySem.W.kia_one PySem.W.kitx_tuple I.kIn ⟨o, h1, h2⟩ e (fun z => nomatch z) h
  | @dK a kvs ea =>
    cases (show u = Value.ref a from rx)
    obtain ⟨_, _, vs, _, p⟩ := (show ObjOk X.prog X.w H s.heap a (.dK kvs) from I.hok a _ ea)
    obtain ⟨o, es, ep, h1, h2, _⟩ := p
    exact PySem.W.kia_one PySem.W.kitx_dict I.kIn ⟨o, h1, h2.1⟩ e (fun z => nomatch z) h
  | @dT a kvs ea =>
    cases (show u = Value.ref a from rx)
    obtain ⟨_, _, xs, _, o, es, ep, h1, h2, _⟩ := (show ObjOk X.prog X.w H s.heap a (.dT kvs) from I.hok a _ ea)
    exact PySem.W.kia_one PySem.W.kitx_dict I.kIn ⟨o, h1, h2.1⟩ e (fun z => nomatch z) h
  | @ins a C dx fs ea cl ha hn htk hm =>
    cases (show u = Value.ref a from rx)
    obtain ⟨mA, O, _⟩ := ins_get I.hok ea
    obtain ⟨od, J, _⟩ := O.look
    exact PySem.W.kia_one (PySem.W.kitx_own (cl.get _) cl.hd ha hn htk hm) I.kIn J e (fun z => nomatch z) h
end
end L2

namespace L2
open PySem PySem.Spec PyProof.Rows

structure Room (k : Nat) (A : Around) : Prop where
  hd : A.handled = none
  dp : A.depth + 3 * k + 5 < recursionLimit
  un : A.units + 16 * k + 200 < cLine
theorem Room.mono {j k : Nat} {A : Around} (r : Room k A) (h : j ≤ k) : Room j A := ⟨r.hd, by have := r.dp; omega, by have := r.un; omega⟩
theorem Room.deeper {k : Nat} {A : Around} (r : Room (k + 1) A) (env : Env) : Room k (A.deeper env) :=
  ⟨r.hd, by have := r.dp; show A.depth + 1 + 3 * k + 5 < _; omega, by have := r.un; show A.units + 3 + 16 * k + 200 < _; omega⟩
theorem Room.in1 {k : Nat} {A : Around} (r : Room (k + 1) A) : Room k A.in1 :=
  ⟨r.hd, by have := r.dp; show A.depth + 3 * k + 5 < _; omega, by have := r.un; show A.units + 1 + 16 * k + 200 < _; omega⟩
theorem make_depth {A : Around} {C : Addr} {us : List Value} {kw : List (Str × Value)} : (A.under (.builtin "type.__call__" ⟨.ref C :: us, kw⟩)).depth = A.depth + 1 := by
  first | rfl | simp [Around.under, Code.weight, Code.isCreation, Code.isGuard, Code.isCaller, Code.frames, Code.isFrame, guardIds]
theorem make_units {A : Around} {C : Addr} {us : List Value} {kw : List (Str × Value)} : (A.under (.builtin "type.__call__" ⟨.ref C :: us, kw⟩)).units = A.units + 1 := by
  first | rfl | simp [Around.under, Code.cUnits, Code.frames, Code.isFrame]
theorem Room.make {k : Nat} {A : Around} (r : Room (k + 1) A) (C : Addr) (us : List Value) (kw : List (Str × Value)) : Room k (A.under (.builtin "type.__call__" ⟨.ref C :: us, kw⟩)) :=
  ⟨r.hd, by have := r.dp; rw [make_depth]; omega, by have := r.un; rw [make_units]; omega⟩
theorem Room.depth {k : Nat} {A : Around} (r : Room k A) : A.depth < recursionLimit := by have := r.dp; omega
theorem Room.units {k : Nat} {A : Around} (r : Room k A) : A.units + 64 < cLine := by have := r.un; omega

def tNil : TA := fun _ H Q => Q [] H
def tCons (ta : TE) (tr : TA) : TA := fun σ H Q => ta σ H fun x H1 => tr σ H1 fun xs H2 => Q (x :: xs) H2
section
variable {X : Cx} {e : Expr} {es : List Expr} {te : TE} {t : TA} {pos : Pos}
theorem pa_nil : PA X [] tNil := fun _ _ _ _ H Q I h => Calls.spliced_nil ⟨[], H, I, .nil, h⟩
theorem pa_cons (ha : PE X e te) (hr : PA X es t) (hs : starEach (e :: es) X.env = (false, eval e X.env) :: starEach es X.env := by rfl) : PA X (e :: es) (tCons te t) := by
  intro pos pins s σ H Q I h
  rw [hs]
  show wpAny _ _ (spliced ((false, eval e X.env) :: backTo pos (starEach es X.env))) _ _ s
  refine Calls.spliced_cons (thn (ha pins s σ H _ I h) fun u s1 ⟨x, H1, I1, r1, q1⟩ => ?_)
  exact thn (hr pos pins s1 σ H1 _ I1 q1) fun us s2 ⟨xs, H2, I2, r2, q2⟩ => ⟨x :: xs, H2, I2, .cons r1 r2, q2⟩

def tTup (t : TA) : TE := fun σ H Q => t σ H fun xs H1 => xs.length ≤ sizeLine ∧ ∀ p, H1 p = none → Q (.ref p) (upd H1 p (.tup xs))
def tLst (t : TA) : TE := fun σ H Q => t σ H fun xs H1 => xs.length ≤ sizeLine ∧ ∀ p, H1 p = none → Q (.ref p) (upd H1 p (.lst xs))
theorem pe_tup {x1} (h : PA X es t) : PE X (.Tuple es x1 pos) (tTup t) := by
  intro pins s σ H Q I hq
  refine wpAny_Tuple_spliced (thn (h pos pins s σ H _ I hq) fun us s1 ⟨xs, H1, I1, r, z, q⟩ => ⟨by rw [← r.length]; exact z, ?_⟩)
  have hf : H1 s1.heap.objs.size = none := I1.hok.fresh (Nat.le_refl _)
  refine ⟨.ref s1.heap.objs.size, upd H1 s1.heap.objs.size (.tup xs), I1.laid (t' := s1.toks) (fun b u e => Heap.get?_push_of_some _ e) (Nat.le_refl _) ?_, rfl, q _ hf⟩
  exact ⟨z, us, r, ⟨_, Heap.get?_push_size _ rfl, rfl, _, rfl⟩⟩
theorem pe_lst (h : PA X es t) : PE X (.List es pos) (tLst t) := by
  intro pins s σ H Q I hq
  refine wpAny_List_spliced (thn (h pos pins s σ H _ I hq) fun us s1 ⟨xs, H1, I1, r, z, q⟩ => ⟨by rw [← r.length]; exact z, ?_⟩)
  have hf : H1 s1.heap.objs.size = none := I1.hok.fresh (Nat.le_refl _)
  refine ⟨.ref s1.heap.objs.size, upd H1 s1.heap.objs.size (.lst xs), I1.laid (t' := s1.toks) (fun b u e => Heap.get?_push_of_some _ e) (Nat.le_refl _) ?_, rfl, q _ hf⟩
  exact ⟨z, us, 0, r, Heap.get?_push_size _ rfl⟩
end

abbrev Sp := List V → Hp → VK → XK → Prop
abbrev CXT := List Env → Hp → Shared → XK → Value → Shared → Prop

structure Env0 (P : Program) (w : World) (K : PySem.W.Frag) (mg : Str → Option Value) (base : Heap) (A : Around) (outer : List Env) (s : Shared) (H : Hp) : Prop where
  frames : A.frames = some outer
  mod : Mod K mg base
  bs : ∀ b o, base.get? b = some o → s.heap.get? b = some o ∧ H b = none
  bsz : base.objs.size ≤ s.heap.objs.size
  funs : s.heap.FunFrames base outer
  frf : ∀ b ∈ frs outer, H b = none
  hok : HOk P w H s.heap
  bare : AllBare s.gens
def CE (outer : List Env) (P : Program) (w : World) (H : Hp) (s : Shared) (Q : VK) (u : Value) (s' : Shared) : Prop :=
  ∃ v H', s'.os = s.os ∧ AllBare s'.gens ∧ Un (frs outer) [] H H' s.heap s'.heap ∧ HOk P w H' s'.heap ∧ RelV v u ∧ Q v H'
def CR (CX : CXT) (outer : List Env) (P : Program) (w : World) (H : Hp) (s : Shared) (Q : VK) (E : XK) (r : Result) (s' : Shared) : Prop :=
  match r with
  | .ok (.ret u) => CE outer P w H s Q u s'
  | .ok _ => False
  | .error e => CX outer H s E e s'
structure FnOk (P : Program) (w : World) (K : PySem.W.Frag) (mg : Str → Option Value) (base : Heap) (CX : CXT) (k : Nat) (f : Addr) (fd : FuncData) (ps : List Str) (sp : Sp) : Prop where
  len : ∀ vs H Q E, sp vs H Q E → vs.length = ps.length
  run : ∀ (A : Around) (outer : List Env) (s : Shared) (H : Hp) (args : Args) (us : List Value) (vs : List V) (Q : VK) (E : XK), Room k A → Env0 P w K mg base A outer s H → BindsTo s fd args (ps.zip us) → Vals vs us → sp vs H Q E →
    codeAny (model P w) A (.call (.ref f) args) (CR CX outer P w H s Q E) s
theorem FnOk.mono {P : Program} {w : World} {K : PySem.W.Frag} {mg : Str → Option Value} {base : Heap} {CX : CXT} {j k : Nat} {f : Addr} {fd : FuncData} {ps : List Str} {sp : Sp} (F : FnOk P w K mg base CX j f fd ps sp) (h : j ≤ k) :
    FnOk P w K mg base CX k f fd ps sp := ⟨F.len, fun A outer s H args us vs Q E hr => F.run A outer s H args us vs Q E (hr.mono h)⟩
theorem FnOk.imp {P : Program} {w : World} {K : PySem.W.Frag} {mg : Str → Option Value} {base : Heap} {CX : CXT} {k : Nat} {f : Addr} {fd : FuncData} {ps : List Str} {sp sp' : Sp} (F : FnOk P w K mg base CX k f fd ps sp)
    (h : ∀ vs H Q E, sp' vs H Q E → sp vs H Q E) : FnOk P w K mg base CX k f fd ps sp' :=
  ⟨fun vs H Q E q => F.len vs H Q E (h _ _ _ _ q), fun A outer s H args us vs Q E hr he hb hv hs => F.run A outer s H args us vs Q E hr he hb hv (h _ _ _ _ hs)⟩

theorem Env0.make {P : Program} {w : World} {K : PySem.W.Frag} {mg : Str → Option Value} {base : Heap} {A : Around} {outer : List Env} {s : Shared} {H : Hp} (e : Env0 P w K mg base A outer s H) (C : Addr) (us : List Value) (kw : List (Str × Value)) :
    Env0 P w K mg base (A.under (.builtin "type.__call__" ⟨.ref C :: us, kw⟩)) outer s H := ⟨by first | exact e.frames | (simpa [Around.under, Code.envs, Code.isFrame, pushEnvs] using e.frames), e.mod, e.bs, e.bsz, e.funs, e.frf, e.hok, e.bare⟩
theorem Env0.in1 {P : Program} {w : World} {K : PySem.W.Frag} {mg : Str → Option Value} {base : Heap} {A : Around} {outer : List Env} {s : Shared} {H : Hp} (e : Env0 P w K mg base A outer s H) :
    Env0 P w K mg base A.in1 outer s H := ⟨e.frames, e.mod, e.bs, e.bsz, e.funs, e.frf, e.hok, e.bare⟩

section
variable {X : Cx} {pins : List (Addr × Obj)} {σ : St} {H : Hp} {s s' : Shared}
theorem Inv.env0 (I : Inv X pins σ H s) : Env0 X.prog X.w X.K X.mg X.base X.A X.stack s H :=
  ⟨I.ok.frames, I.ok.mod, I.bs, Nat.le_trans I.ok.bsz I.sz, I.stack, I.stkFree, I.hok, I.bare⟩
theorem Inv.after {Q : VK} {u : Value} (I : Inv X pins σ H s) (h : CE X.stack X.prog X.w H s Q u s') : EP X pins σ Q u s' := by
  obtain ⟨v, H', os, bare, un, hok, r, q⟩ := h
  obtain ⟨hh, g, d, t, os'⟩ := s'
  obtain rfl : os' = s.os := os
  exact ⟨v, H', I.call (h' := hh) (g' := g) (d' := d) (t' := t) (ch := []) un hok bare (fun b z => absurd z (by simp)), r, q⟩
end

def tCall (sp : Sp) (dvs : List V) (E : XK) (t : TA) : TE := fun σ H Q => t σ H fun vs H1 => sp (vs ++ dvs) H1 Q E
def tMeth (C : Addr) (m : Str) (sp : Sp) (dvs : List V) (E : XK) (ta : TE) (t : TA) : TE := fun σ H Q => ta σ H fun x H1 => ∃ a dx fs, x = .ref a ∧ H1 a = some (.ins C dx fs) ∧ fs.lookup m = none ∧
  t σ H1 fun vs H2 => sp (x :: (vs ++ dvs)) H2 Q E
def tMake (C : Addr) (sp : Sp) (dvs : List V) (E : XK) (t : TA) : TE := fun σ H Q => t σ H fun vs H1 => ∀ x dx, H1 x = none → H1 dx = none → dx ≠ x →
  sp (.ref x :: (vs ++ dvs)) (upd (upd H1 dx (.own x)) x (.ins C dx [])) (fun v H2 => v = .non ∧ Q (.ref x) H2) E

def Binds (K : PySem.W.Frag) (fd : FuncData) (ps : List Str) (ds : List Value) : Prop :=
  ∀ (s : Shared) (us : List Value), K.In s.heap → (us ++ ds).length = ps.length → BindsTo s fd ⟨us, []⟩ (ps.zip (us ++ ds))
theorem Binds.all {K : PySem.W.Frag} {fd : FuncData} {ps : List Str} (h : ∀ us : List Value, us.length = ps.length → bindArgs fd ⟨us, []⟩ = pure (ps.zip us)) : Binds K fd ps [] := fun s us _ hl => by
  rw [List.append_nil] at hl ⊢
  exact .of_eq (h us hl)

def Passes (CX : CXT) (X : Cx) (E : XK) : Prop := ∀ (pins : List (Addr × Obj)) (σ : St) (H : Hp) (s : Shared) (e : Value) (s' : Shared), Inv X pins σ H s → CX X.stack H s E e s' → X.xe e s'

section
variable {X : Cx} {CX : CXT} {k : Nat} {f C : Addr} {fd : FuncData} {ps : List Str} {sp : Sp} {dvs : List V} {ds : List Value} {E : XK} {x m : Str} {p pos apos : Pos} {e o : Expr} {es : List Expr} {ta : TE} {t : TA}

theorem run_fn {pins : List (Addr × Obj)} {σ : St} {H : Hp} {s : Shared} {Q : VK} {us : List Value} {vs : List V} (F : FnOk X.prog X.w X.K X.mg X.base CX k f fd ps sp) (hr : Room k X.A) (hb : Binds X.K fd ps ds) (hd : Vals dvs ds) (hx : Passes CX X E)
    (I : Inv X pins σ H s) (r : Vals vs us) (h : sp (vs ++ dvs) H Q E) : wpAny (model X.prog X.w) X.A (call (.ref f) us) (EP X pins σ Q) X.xe s := by
  have r2 : Vals (vs ++ dvs) (us ++ ds) := r.append hd
  have hl : (us ++ ds).length = ps.length := by rw [← r2.length]; exact F.len _ _ _ _ h
  refine wpAny_call (codeAny_mono (F.run X.A X.stack s H ⟨us, []⟩ (us ++ ds) (vs ++ dvs) Q E hr I.env0 (hb s us I.kIn hl) r2 h) fun r s' hq => ?_)
  cases r with
  | error e => exact hx pins σ H s e s' I hq
  | ok fl =>
    cases fl with
    | ret u => exact I.after hq
    | next => exact False.elim hq
    | brk => exact False.elim hq
    | cont => exact False.elim hq

theorem pe_call (F : FnOk X.prog X.w X.K X.mg X.base CX k f fd ps sp) (hr : Room k X.A) (hg : Gl X x) (hm : X.mg x = some (.ref f)) (hk : PySem.W.keepIn X.K (.ref f) = true) (hb : Binds X.K fd ps ds) (hd : Vals dvs ds) (hx : Passes CX X E)
    (ha : PA X (e :: es) t) (hdb : (x == ("__debug__" : Str)) = false := by decide) (he : starEach (e :: es) X.env = (false, eval e X.env) :: starEach es X.env := by rfl) (hpl : (backTo pos (starEach es X.env)).any (·.1) = false := by rfl) :
    PE X (.Call (.Name x p) (e :: es) [] pos) (tCall sp dvs E t) := by
  intro pins s σ H Q I h
  refine wpAny_Call_Name_kw (ld_glob I hg hm ?_ hdb)
  refine PySem.W.callWith_K (h₀ := X.base) I.ok.mod.kin hk (thn (ha pos pins s σ H _ I h) fun us s1 ⟨vs, H1, I1, r, q⟩ => ⟨I1.kIn, ?_⟩) he hpl
  exact run_fn F hr hb hd hx I1 r q

theorem pe_meth {pl : Sem Bool} (he : PE X o ta) (c : Cls X.K C) (hm : Meth X.K C m f) (F : FnOk X.prog X.w X.K X.mg X.base CX k f fd ps sp) (hr : Room k X.A) (hb : Binds X.K fd ps ds) (hd : Vals dvs ds) (hx : Passes CX X E) (ha : PA X (e :: es) t)
    (hst : starEach (e :: es) X.env = (false, eval e X.env) :: starEach es X.env := by rfl) (hpl : (backTo pos (starEach es X.env)).any (·.1) = false := by rfl)
    (ht : eval (.Call (.Attribute o m apos) (e :: es) [] pos) X.env = (do
      let ov ← eval o X.env
      standAt apos.atName
      let (f, first) ← holding [ov] (getMethod ov m pl)
      callWith pos f first (backTo pos (starEach (e :: es) X.env)) (backToKw pos (keywordEach [] X.env))) := by rfl) :
    PE X (.Call (.Attribute o m apos) (e :: es) [] pos) (tMeth C m sp dvs E ta t) := by
  intro pins s σ H Q I h
  refine PySem.W.methodCall_KW (pl := pl) (thn (he pins s σ H _ I h) fun u s1 ⟨x, H1, I1, rx, a, dx, fs, ex, ea, l, q⟩ => ?_) ht
  subst ex
  obtain rfl : u = Value.ref a := rx
  refine getmeth_ok I1 ea c hm l ?_
  refine PySem.W.callWith_K (first := [.ref a]) (h₀ := X.base) I.ok.mod.kin hm.kp (thn (ha pos pins s1 σ H1 _ I1 q) fun us s2 ⟨vs, H2, I2, r, q2⟩ => ⟨I2.kIn, ?_⟩) hst hpl
  exact run_fn (us := .ref a :: us) (vs := .ref a :: vs) F hr hb hd hx I2 (.cons rfl r) q2
theorem pe_meth0 {pl : Sem Bool} (he : PE X o ta) (c : Cls X.K C) (hm : Meth X.K C m f) (F : FnOk X.prog X.w X.K X.mg X.base CX k f fd ps sp) (hr : Room k X.A) (hb : Binds X.K fd ps ds) (hd : Vals dvs ds) (hx : Passes CX X E)
    (ht : eval (.Call (.Attribute o m apos) [] [] pos) X.env = (do
      let ov ← eval o X.env
      standAt apos.atName
      let (f, first) ← holding [ov] (getMethod ov m pl)
      callWith pos f first (backTo pos (starEach [] X.env)) (backToKw pos (keywordEach [] X.env))) := by rfl) :
    PE X (.Call (.Attribute o m apos) [] [] pos) (tMeth C m sp dvs E ta tNil) := by
  intro pins s σ H Q I h
  refine PySem.W.methodCall_KW (pl := pl) (thn (he pins s σ H _ I h) fun u s1 ⟨x, H1, I1, rx, a, dx, fs, ex, ea, l, q⟩ => ?_) ht
  subst ex
  obtain rfl : u = Value.ref a := rx
  refine getmeth_ok I1 ea c hm l ?_
  exact PySem.W.callWith_K0 (first := [.ref a]) I1.kIn hm.kp (run_fn (us := [.ref a]) (vs := [.ref a]) F hr hb hd hx I1 (.cons rfl .nil) q)

structure Mk (K : PySem.W.Frag) (C f : Addr) : Prop where
  makes : PySem.W.makesIn K C = true
  init : PySem.W.findIn K (.ref C) "__init__" = some (some (.ref f))
  fn : PySem.W.isFn K (.ref f) = true
  kp : PySem.W.keepIn K (.ref C) = true

theorem run_make {pins : List (Addr × Obj)} {σ : St} {H : Hp} {s : Shared} {Q : VK} {us : List Value} {vs : List V} (M : Mk X.K C f) (F : FnOk X.prog X.w X.K X.mg X.base CX k f fd ps sp) (hr : Room (k + 1) X.A) (hb : Binds X.K fd ps ds) (hd : Vals dvs ds)
    (hx : Passes CX X E) (I : Inv X pins σ H s) (r : Vals vs us)
    (h : ∀ x dx, H x = none → H dx = none → dx ≠ x → sp (.ref x :: (vs ++ dvs)) (upd (upd H dx (.own x)) x (.ins C dx [])) (fun v H2 => v = .non ∧ Q (.ref x) H2) E) :
    wpAny (model X.prog X.w) X.A (call (.ref C) us) (EP X pins σ Q) X.xe s := by
  have hq := h (s.heap.objs.size + 1) s.heap.objs.size (I.hok.fresh (Nat.le_succ _)) (I.hok.fresh (Nat.le_refl _)) (Nat.ne_of_lt (Nat.lt_succ_self _))
  have I2 := Inv.made (C := C) I
  have r2 : Vals (V.ref (s.heap.objs.size + 1) :: (vs ++ dvs)) (Value.ref (s.heap.objs.size + 1) :: (us ++ ds)) := .cons rfl (r.append hd)
  have hl : (Value.ref (s.heap.objs.size + 1) :: us ++ ds).length = ps.length := by
    have e := r2.length
    rw [F.len _ _ _ _ hq] at e
    exact e.symm
  refine wpAny_call (make_map (f := f) I.kIn M.makes M.init (beq_iff_eq.mp M.fn) (codeAny_mono (F.run _ X.stack _ _ ⟨Value.ref (s.heap.objs.size + 1) :: us, []⟩ (Value.ref (s.heap.objs.size + 1) :: (us ++ ds)) _ _ E (hr.make C us [])
    (I2.env0.make C us []) (hb _ (Value.ref (s.heap.objs.size + 1) :: us) I2.kIn hl) r2 hq) fun r s' hq' => ?_))
  cases r with
  | error e => exact hx pins σ _ _ e s' I2 hq'
  | ok fl =>
    cases fl with
    | ret u =>
      obtain ⟨v, H', I3, rv, ev, q3⟩ := I2.after hq'
      subst ev
      exact ⟨rv, ⟨V.ref (s.heap.objs.size + 1), H', I3, rfl, q3⟩⟩
    | next => exact False.elim hq'
    | brk => exact False.elim hq'
    | cont => exact False.elim hq'
theorem pe_make (M : Mk X.K C f) (F : FnOk X.prog X.w X.K X.mg X.base CX k f fd ps sp) (hr : Room (k + 1) X.A) (hg : Gl X x) (hm : X.mg x = some (.ref C)) (hb : Binds X.K fd ps ds) (hd : Vals dvs ds) (hx : Passes CX X E)
    (ha : PA X (e :: es) t) (hdb : (x == ("__debug__" : Str)) = false := by decide) (he : starEach (e :: es) X.env = (false, eval e X.env) :: starEach es X.env := by rfl) (hpl : (backTo pos (starEach es X.env)).any (·.1) = false := by rfl) :
    PE X (.Call (.Name x p) (e :: es) [] pos) (tMake C sp dvs E t) := by
  intro pins s σ H Q I h
  refine wpAny_Call_Name_kw (ld_glob I hg hm ?_ hdb)
  refine PySem.W.callWith_K (h₀ := X.base) I.ok.mod.kin M.kp (thn (ha pos pins s σ H _ I h) fun us s1 ⟨vs, H1, I1, r, q⟩ => ⟨I1.kIn, ?_⟩) he hpl
  exact run_make M F hr hb hd hx I1 r q
end

section
variable {X : Cx} {CX : CXT} {k : Nat} {f C : Addr} {fd : FuncData} {ps ks : List Str} {sp : Sp} {E : XK} {x m : Str} {p pos apos kpos : Pos} {e o : Expr} {es : List Expr} {kws : List Keyword} {te ta : TE} {t tk : TA} {nm : Option Str}

structure KBinds (K : PySem.W.Frag) (fd : FuncData) (ps ks : List Str) (g : List Value → List Value → List Value) (gV : List V → List V → List V) : Prop where
  to : ∀ (s : Shared) (us ws : List Value), K.In s.heap → (g us ws).length = ps.length → BindsTo s fd ⟨us, ks.zip ws⟩ (ps.zip (g us ws))
  rel : ∀ {vs : List V} {us : List Value} {zs : List V} {ws : List Value}, Vals vs us → Vals zs ws → Vals (gV vs zs) (g us ws)
variable {g : List Value → List Value → List Value} {gV : List V → List V → List V}
end

structure FnScope (N P : List Str) (sc : Scope) : Prop where
  kind : sc.kind = .function
  co : sc.isCoroutine = false
  gen : sc.isGenerator = false
  nd : N.Nodup
  pre : N.take P.length = P
  par : ∀ x ∈ P, sc.names.lookup x = some .local ∨ sc.names.lookup x = some .cell
  nofree : ∀ y ∈ sc.names, y.2 ≠ .free

theorem bindL_out {kindOf : Str → Option NameKind} {x : Str} : ∀ {binds : List (Str × Value)} {m : Str → Option Value}, (∀ v, (x, v) ∉ binds) → bindL kindOf binds m x = m x
  | [], _, _ => rfl
  | (n, v) :: r, m, h => by
    unfold bindL
    rw [bindL_out fun w hw => h w (List.mem_cons_of_mem _ hw)]
    split
    · have : x ≠ n := by rintro rfl; exact h v List.mem_cons_self
      simp [this]
    · rfl
theorem bindC_out {kindOf : Str → Option NameKind} {x : Str} : ∀ {binds : List (Str × Value)} {m : Str → Option Value}, (∀ v, (x, v) ∉ binds) → bindC kindOf binds m x = m x
  | [], _, _ => rfl
  | (n, v) :: r, m, h => by
    unfold bindC
    rw [bindC_out fun w hw => h w (List.mem_cons_of_mem _ hw)]
    split
    · rfl
    · have : x ≠ n := by rintro rfl; exact h v List.mem_cons_self
      simp [this]
theorem bindL_get {kindOf : Str → Option NameKind} {x : Str} {v : Value} : ∀ {P : List Str} {vs : List Value} {i : Nat} {m : Str → Option Value}, P.Nodup → P[i]? = some x → vs[i]? = some v → kindOf x = some .local →
    bindL kindOf (P.zip vs) m x = some v
  | [], _, _, _, _, h, _, _ => by simp at h
  | _ :: _, [], _, _, _, _, h, _ => by simp at h
  | p :: P, w :: vs, 0, m, nd, h1, h2, hk => by
    simp at h1 h2; subst h1; subst h2
    show bindL kindOf ((p, w) :: P.zip vs) m p = _
    unfold bindL
    rw [bindL_out fun v hv => (List.nodup_cons.mp nd).1 (List.of_mem_zip hv).1, if_pos hk]
    simp
  | p :: P, w :: vs, i + 1, m, nd, h1, h2, hk => by
    show bindL kindOf ((p, w) :: P.zip vs) m x = _
    unfold bindL
    exact bindL_get (i := i) (List.nodup_cons.mp nd).2 (by simpa using h1) (by simpa using h2) hk
theorem bindC_get {kindOf : Str → Option NameKind} {x : Str} {v : Value} : ∀ {P : List Str} {vs : List Value} {i : Nat} {m : Str → Option Value}, P.Nodup → P[i]? = some x → vs[i]? = some v → kindOf x ≠ some .local →
    bindC kindOf (P.zip vs) m x = some v
  | [], _, _, _, _, h, _, _ => by simp at h
  | _ :: _, [], _, _, _, _, h, _ => by simp at h
  | p :: P, w :: vs, 0, m, nd, h1, h2, hk => by
    simp at h1 h2; subst h1; subst h2
    show bindC kindOf ((p, w) :: P.zip vs) m p = _
    unfold bindC
    rw [bindC_out fun v hv => (List.nodup_cons.mp nd).1 (List.of_mem_zip hv).1, if_neg hk]
    simp
  | p :: P, w :: vs, i + 1, m, nd, h1, h2, hk => by
    show bindC kindOf ((p, w) :: P.zip vs) m x = _
    unfold bindC
    exact bindC_get (i := i) (List.nodup_cons.mp nd).2 (by simpa using h1) (by simpa using h2) hk

def start (N : List Str) (vs : List V) : St := vs.map some ++ List.replicate (N.length - vs.length) none

def cxOf (CX : CXT) (P : Program) (w : World) (K : PySem.W.Frag) (mg : Str → Option Value) (base : Heap) (N : List Str) (qual : Str) (scope : Scope) (f : Addr) (cd : Value) (A : Around) (outer : List Env) (s : Shared) (H : Hp) (E : XK) : Cx where
  prog := P
  w := w
  K := K
  mg := mg
  base := base
  A := A.deeper (envOfC qual scope s.heap.objs.size f cd)
  N := N
  s₀ := s
  H₀ := H
  env := envOfC qual scope s.heap.objs.size f cd
  outer := outer
  stack := envOfC qual scope s.heap.objs.size f cd :: outer
  ex := []
  calm := true
  fn := fun _ => true
  pn := []
  xe := fun e s' => wpAny (model P w) (A.deeper (envOfC qual scope s.heap.objs.size f cd)) (leaving (envOfC qual scope s.heap.objs.size f cd) e) (fun _ s'' => CX outer H s E e s'') (fun e' s'' => CX outer H s E e' s'') s'

theorem cell_has {sc : Scope} {n : Nat} {x : Str} (h : sc.names.lookup x = some .cell) : ∃ c, (cellsFrom n sc.names []).lookup x = some c := by
  have q := PySem.W.cellsFrom_some sc.names n [] (.inl h)
  exact Option.isSome_iff_exists.mp q

theorem inv_start {CX : CXT} {P : Program} {w : World} {K : PySem.W.Frag} {mg : Str → Option Value} {base : Heap} {N ps : List Str} {qual : Str} {scope : Scope} {f : Addr} {cd : Value} {A : Around} {outer : List Env} {s s1 : Shared} {H : Hp} {E : XK} {us : List Value} {vs : List V}
    (S : FnScope N ps scope) (hd : A.handled = none) (e0 : Env0 P w K mg base A outer s H) (hl : vs.length = ps.length) (r : Vals vs us)
    (x : InCallC s s.heap.objs.size (bindL (envOfC qual scope s.heap.objs.size f cd).kindOf (ps.zip us) fun _ => none) (cellsFrom (s.heap.objs.size + 1) scope.names []) (bindC (envOfC qual scope s.heap.objs.size f cd).kindOf (ps.zip us) fun _ => none) s1) :
    Inv (cxOf CX P w K mg base N qual scope f cd A outer s H E) [] (start N vs) H s1 := by
  have hpl : ps.length ≤ N.length := by have := congrArg List.length S.pre; rw [List.length_take] at this; omega
  obtain ⟨h1, tk, rfl, hk⟩ := x.done
  have noA : ∀ b : Addr, b ∉ (cxOf CX P w K mg base N qual scope f cd A outer s H E).ex := fun b z => absurd (show b ∈ ([] : List Addr) from z) (by simp)
  refine ⟨⟨e0.mod, S.kind, rfl, rfl, Nat.le_refl _, fun y z c h1 h2 => ?_, fun y hy => ?_, fun y c _ h => ?_, fun _ => hd, Around.frames_deeper e0.frames, .inr ⟨rfl, rfl⟩, fun b z => absurd z (noA b), e0.bs, e0.bsz, fun b _ _ => noA b, fun b z => absurd z (noA b), e0.funs, e0.frf⟩,
    rfl, e0.bare, Un.kept hk, ⟨_, x.toInCall.ns, fun i y v h1 h2 h3 => ?_⟩, fun y c h => ⟨_, x.cell y c h⟩, e0.hok.fresh (Nat.le_refl _), fun y c h => ?_, fun p hp => absurd (show p ∈ ([] : List (Addr × Obj)) from hp) (by simp), e0.hok.kept hk, ?_⟩
  · exact name_of_addr x.apart (PySem.mem_of_lookup h1) (PySem.mem_of_lookup h2)
  · have hy : scope.names.lookup y = some .cell ∨ scope.names.lookup y = some .free := hy
    rcases hy with hy | hy
    · exact cell_has hy
    · exact absurd rfl (S.nofree _ (PySem.mem_of_lookup hy))
  · exact Nat.le_of_lt (x.above y c (PySem.mem_of_lookup h))
  · have hi : i < vs.length := by
      unfold start at h2
      by_cases hi : i < vs.length
      · exact hi
      · rw [List.getElem?_append_right (by simpa using hi)] at h2
        rw [List.getElem?_replicate] at h2
        split at h2 <;> cases h2
    have ha : vs[i]? = some v := by
      unfold start at h2
      rw [List.getElem?_append_left (by simpa using hi), List.getElem?_map] at h2
      cases e : vs[i]? with
      | none => rw [e] at h2; cases h2
      | some a => rw [e] at h2; cases h2; rfl
    obtain ⟨u, hu, rv⟩ := r.get ha
    have hp : ps[i]? = some y := by
      rw [← S.pre, List.getElem?_take_of_lt (by omega)]; exact h1
    have ndP : ps.Nodup := by rw [← S.pre]; exact S.nd.sublist (List.take_sublist _ _)
    refine ⟨u, rv, ?_⟩
    rcases S.par y (List.mem_of_getElem? hp) with k | k
    · exact .inl ⟨k, bindL_get ndP hp hu k⟩
    · obtain ⟨c, e⟩ := cell_has (n := s.heap.objs.size + 1) k
      refine .inr ⟨.inl k, c, e, ?_⟩
      have q := x.cell y c e
      rw [bindC_get ndP hp hu (by show scope.names.lookup y ≠ _; rw [k]; decide)] at q
      exact q
  · exact e0.hok.fresh (Nat.le_of_lt (x.above y c (PySem.mem_of_lookup h)))
  · unfold start
    show _ = N.length
    rw [List.length_append, List.length_map, List.length_replicate]
    omega

theorem fn_of {CX : CXT} {P : Program} {w : World} {K : PySem.W.Frag} {mg : Str → Option Value} {base : Heap} {k : Nat} {f : Addr} {name qual : Str} {params : Arguments} {body : List Stmt} {scope : Scope} {dV kV doc pm cdv ct oc : Value} {an od : Option Addr}
    {osl : Array (Option Value)} {N ps : List Str} {sp : Sp} (lk : K.lookup f = some ⟨oc, od, .func (PySem.W.fnOf name qual params body scope dV kV doc pm an cdv ct), osl⟩) (hcd : PySem.W.codeIn K cdv qual = true) (S : FnScope N ps scope)
    (len : ∀ vs H Q E, sp vs H Q E → vs.length = ps.length)
    (hbody : ∀ (A : Around) (outer : List Env) (s : Shared) (H : Hp) (vs : List V) (Q : VK) (E : XK), Room k (A.deeper (envOfC qual scope s.heap.objs.size f cdv)) → sp vs H Q E →
      ∃ t, PSs (cxOf CX P w K mg base N qual scope f cdv A outer s H E) body t ∧ t { nx := fun _ H' => Q .non H', rt := Q } (start N vs) H) :
    FnOk P w K mg base CX (k + 1) f (PySem.W.fnOf name qual params body scope dV kV doc pm an cdv ct) ps sp := by
  refine ⟨len, fun A outer s H args us vs Q E hr e0 hb r hsp => ?_⟩
  have hl := len _ _ _ _ hsp
  have KX : K.In s.heap := e0.mod.kin.keeps fun b o e => (e0.bs b o e).1
  have lim : s.heap.NoLimit := e0.mod.nolimit.keeps fun b o e => (e0.bs b o e).1
  have hkind : ∀ y ∈ ps.zip us, scope.names.lookup y.1 = some .local ∨ (scope.names.lookup y.1 = some .cell ∧ ((cellsFrom (s.heap.objs.size + 1) scope.names []).lookup y.1).isSome = true) := fun ⟨n, v⟩ hy => by
    rcases S.par n (List.of_mem_zip hy).1 with q | q
    · exact .inl q
    · exact .inr ⟨q, PySem.W.cellsFrom_some _ _ _ (.inl q)⟩
  refine codeAny_call_function hr.depth (KX _ _ lk) rfl S.co S.gen rfl (PySem.W.codeRec_of KX hcd) (hb _ _ _ _ ?_)
  refine wpAny_newFunctionEnv_cells S.kind hkind fun env he s1 x => ?_
  subst he
  refine ⟨lim.keeps x.toInCall.keep, codeAny_func ?_⟩
  obtain ⟨t, ht, hq⟩ := hbody A outer s H vs Q E (hr.deeper _) hsp
  have I : Inv (cxOf CX P w K mg base N qual scope f cdv A outer s H E) [] (start N vs) H s1 := inv_start S hr.hd e0 hl r x
  refine wpAny_mono (ht [] s1 (start N vs) H _ I hq) (fun fl s' hs => ?_) fun e s' hs => hs
  have fin : ∀ {σ' : St} {H' : Hp} {v : V} {u : Value}, Inv (cxOf CX P w K mg base N qual scope f cdv A outer s H E) [] σ' H' s' → RelV v u → Q v H' → CE outer P w H s Q u s' :=
    fun {σ' H' v u} J rv q => ⟨v, H', J.os, J.bare, J.base, J.hok, rv, q⟩
  cases fl with
  | ret u =>
    obtain ⟨v, σ', H', J, rv, q⟩ := hs
    exact fin J rv q
  | next =>
    obtain ⟨σ', H', J, q⟩ := hs
    exact fin (v := V.non) (u := Value.none) J rfl q
  | brk =>
    obtain ⟨_, _, _, q⟩ := hs
    exact False.elim q
  | cont =>
    obtain ⟨_, _, _, q⟩ := hs
    exact False.elim q
end L2

namespace L2
open PySem PySem.Spec PyProof.Rows
section
variable {X : Cx} {x : Str} {p pos : Pos} {e : Expr} {es : List Expr} {t : TA} {id T : String} {r : List V → Hp → VK → Prop}

def tCB (r : List V → Hp → VK → Prop) (t : TA) : TE := fun σ H Q => t σ H fun vs H1 => r vs H1 Q
theorem pe_callB (hc : CallR X (.builtin id) r) (hg : Gl X x) (hm : X.mg x = none) (hv : bootBuiltins x = some (.builtin id)) (ha : PA X (e :: es) t) (hn : x ≠ "__name__" := by decide) (hdb : (x == ("__debug__" : Str)) = false := by decide)
    (he : starEach (e :: es) X.env = (false, eval e X.env) :: starEach es X.env := by rfl) (hpl : (backTo pos (starEach es X.env)).any (·.1) = false := by rfl) : PE X (.Call (.Name x p) (e :: es) [] pos) (tCB r t) := by
  intro pins s σ H Q I h
  refine wpAny_Call_Name_kw (ld_blt I hg hm hv ?_ hn hdb)
  exact PyProof.Rows.callWith_builtin1 (thn (ha pos pins s σ H _ I h) fun us s1 ⟨vs, H1, I1, r1, q1⟩ => hc pins s1 σ H1 vs us Q I1 r1 q1) he hpl
theorem pe_callTy (hc : CallR X (.type T) r) (hg : Gl X x) (hm : X.mg x = none) (hv : bootBuiltins x = some (.type T)) (ha : PA X (e :: es) t) (hn : x ≠ "__name__" := by decide) (hdb : (x == ("__debug__" : Str)) = false := by decide)
    (he : starEach (e :: es) X.env = (false, eval e X.env) :: starEach es X.env := by rfl) (hpl : (backTo pos (starEach es X.env)).any (·.1) = false := by rfl) : PE X (.Call (.Name x p) (e :: es) [] pos) (tCB r t) := by
  intro pins s σ H Q I h
  refine wpAny_Call_Name_kw (ld_blt I hg hm hv ?_ hn hdb)
  exact PyProof.Rows.callWith_type1 (thn (ha pos pins s σ H _ I h) fun us s1 ⟨vs, H1, I1, r1, q1⟩ => hc pins s1 σ H1 vs us Q I1 r1 q1) he hpl
end
end L2

namespace HT
open PySem PyProof.Rows



section
open PySem.SeqAt
open PySem.AutoSeq1 (wpAny_loadPart')
open PySem.MeetsSeq PySem.MeetsSeq2 PySem.MeetsSeq3

end

section
variable {prog : Program} {w : World} {A : Around} {E : Value → Shared → Prop} {s : Shared}



def sIx (n d : Nat) : Option Int → Nat
  | none => d
  | some v => if v < 0 then (v + (n : Int)).toNat else min v.toNat n
theorem sIx_none (n d : Nat) : sIx n d none = d := rfl
theorem sIx_nat (n d k : Nat) : sIx n d (some (k : Int)) = min k n := by
  show (if (k : Int) < 0 then ((k : Int) + (n : Int)).toNat else min (k : Int).toNat n) = min k n
  rw [if_neg (by omega), Int.toNat_natCast]

end
end HT

namespace L2
open PySem PySem.Spec PyProof.Rows

abbrev TO := St → Hp → (Option Int → Hp → Prop) → Prop
def PO (X : Cx) (e : Option Expr) (t : TO) : Prop :=
  ∀ (pins : List (Addr × Obj)) (s : Shared) (σ : St) (H : Hp) (Q : Option Int → Hp → Prop), Inv X pins σ H s → t σ H Q →
    wpAny (model X.prog X.w) X.A (evalPart e X.env) (fun u s' => ∃ o H', Inv X pins σ H' s' ∧ IsPart u o ∧ Q o H') X.xe s
def tNoPart : TO := fun _ H Q => Q none H
def tPart (t : TE) : TO := fun σ H Q => t σ H fun x H1 => ∃ i, x = .int i ∧ Q (some i) H1


section
variable {X : Cx} {e : Expr} {te : TE} {lo hi : Option Expr} {tl th : TO} {pos p2 : Pos}

theorem po_none : PO X none tNoPart := by
  intro pins s σ H Q I h
  rw [evalPart_none]
  exact wpAny_pure ⟨none, H, I, .none, h⟩
theorem po_some (h : PE X e te) : PO X (some e) (tPart te) := by
  intro pins s σ H Q I hw
  rw [evalPart_some]
  refine thn (h pins s σ H _ I hw) fun u s1 ⟨x, H1, I1, r1, q1⟩ => ?_
  obtain ⟨i, rfl, q⟩ := q1
  obtain ⟨t, rfl⟩ := r1
  exact ⟨some i, H1, I1, .int i t, q⟩

def SlR (X : Cx) (r : V → Option Int → Option Int → Hp → VK → Prop) : Prop :=
  ∀ (pins : List (Addr × Obj)) (s : Shared) (σ : St) (H : Hp) (x : V) (v vl vu : Value) (lo hi : Option Int) (sl : Addr) (Q : VK), Inv X pins σ H s → RelV x v → s.heap.IsSliceOf sl vl vu .none → IsPart vl lo → IsPart vu hi → r x lo hi H Q →
    ∃ T id, typeLookup (.type T) "__getitem__" = pure (some (.builtin id)) ∧ s.TypeIs v T ∧ wpAny (model X.prog X.w) X.A (getItem v (.ref sl)) (EP X pins σ Q) X.xe s
theorem SlR.or {r r' : V → Option Int → Option Int → Hp → VK → Prop} (h : SlR X r) (h' : SlR X r') : SlR X (fun x lo hi H Q => r x lo hi H Q ∨ r' x lo hi H Q) := by
  intro pins s σ H x v vl vu lo hi sl Q I rx hs pl pu q
  rcases q with q | q
  · exact h pins s σ H x v vl vu lo hi sl Q I rx hs pl pu q
  · exact h' pins s σ H x v vl vu lo hi sl Q I rx hs pl pu q
def tSl (r : V → Option Int → Option Int → Hp → VK → Prop) (te : TE) (tl th : TO) : TE := fun σ H Q => te σ H fun x H1 => tl σ H1 fun l H2 => th σ H2 fun u H3 => r x l u H3 Q
theorem pe_slice {r : V → Option Int → Option Int → Hp → VK → Prop} (hr : SlR X r) (he : PE X e te) (hl : PO X lo tl) (hu : PO X hi th) : PE X (.Subscript e (.Slice lo hi none p2) pos) (tSl r te tl th) := by
  intro pins s σ H Q I h
  refine Subscript_ (thn (he pins s σ H _ I h) fun v s1 ⟨x, H1, I1, r1, q1⟩ => ?_)
  refine wpAny_Slice (thn (hl pins s1 σ H1 _ I1 q1) fun vl s2 ⟨l, H2, I2, pl, q2⟩ => thn (hu pins s2 σ H2 _ I2 q2) fun vu s3 ⟨u, H3, I3, pu, q3⟩ => ?_)
  rw [evalPart_none]
  refine wpAny_pure ?_
  have I4 : Inv X pins σ H3 { s3 with heap := s3.heap.push { cls := .type "slice", data := .fields #[vl, vu, .none] } } := I3.kept (t' := s3.toks) fun b ob q => Heap.get?_push_of_some _ q
  obtain ⟨T, id, hT, ht, hg⟩ := hr pins { s3 with heap := s3.heap.push { cls := .type "slice", data := .fields #[vl, vu, .none] } } σ H3 x v vl vu l u s3.heap.objs.size Q I4 r1 (Heap.IsSliceOf.new ..) pl pu q3
  show wpAny (model X.prog X.w) X.A (subscriptTail e (.Slice lo hi none p2) v (.ref s3.heap.objs.size)) (EP X pins σ Q) X.xe { s3 with heap := s3.heap.push { cls := .type "slice", data := .fields #[vl, vu, .none] } }
  exact tail_any (ops := [.ref s3.heap.objs.size, v]) ht hT hg (by with_unfolding_all rfl)

def cutV (xs : List V) (lo hi : Option Int) : List V := (xs.drop (HT.sIx xs.length 0 lo)).take (HT.sIx xs.length xs.length hi - HT.sIx xs.length 0 lo)
theorem cutV_length (xs : List V) (lo hi : Option Int) : (cutV xs lo hi).length ≤ xs.length := by
  unfold cutV
  rw [List.length_take, List.length_drop]
  omega

end
end L2

namespace L2
open PySem PySem.Spec PyProof.Rows

def ixN (n : Nat) (i : Int) : Option Nat := if 0 ≤ i then (if i < n then some i.toNat else none) else if -(n : Int) ≤ i then some (i + n).toNat else none
def atI {α : Type} (xs : List α) (i : Int) : Option α := (ixN xs.length i).bind fun j => xs[j]?
theorem ixN_seq {n : Nat} {i : Int} {j : Nat} (h : ixN n i = some j) : seqIndex? i n = some j ∧ j < n ∧ -(n : Int) ≤ i ∧ i < n := by
  unfold ixN at h
  by_cases h0 : 0 ≤ i
  · rw [if_pos h0] at h
    by_cases h1 : i < n
    · rw [if_pos h1] at h
      have e : i.toNat = j := Option.some.inj h
      exact ⟨by rw [seqIndex_of h0 h1, e], by omega, by omega, h1⟩
    · rw [if_neg h1] at h; cases h
  · rw [if_neg h0] at h
    by_cases h1 : -(n : Int) ≤ i
    · rw [if_pos h1] at h
      have e : (i + n).toNat = j := Option.some.inj h
      exact ⟨by rw [seqIndex_neg (by omega) h1, e], by omega, h1, by omega⟩
    · rw [if_neg h1] at h; cases h
theorem atI_get {α : Type} {xs : List α} {i : Int} {v : α} (h : atI xs i = some v) : ∃ j, seqIndex? i xs.length = some j ∧ xs[j]? = some v ∧ j < xs.length ∧ -(xs.length : Int) ≤ i ∧ i < xs.length := by
  unfold atI at h
  cases e : ixN xs.length i with
  | none => rw [e] at h; cases h
  | some j =>
    rw [e] at h
    obtain ⟨h1, h2, h3, h4⟩ := ixN_seq e
    exact ⟨j, h1, h, h2, h3, h4⟩
theorem atI_nat {α : Type} {xs : List α} {j : Nat} {v : α} (h : xs[j]? = some v) : atI xs (j : Int) = some v := by
  have hj : j < xs.length := (List.getElem?_eq_some_iff.mp h).1
  have e : ixN xs.length (j : Int) = some j := by
    unfold ixN
    rw [if_pos (by omega), if_pos (by omega)]; simp
  unfold atI; rw [e]; exact h

def PlainIx (b : Expr) : Prop := ∀ o i, subscripted b false o i = operate [o, i] (getItem o i)
def IxR (X : Cx) (r : R2) : Prop :=
  ∀ (value slice : Expr) (pins : List (Addr × Obj)) (s : Shared) (σ : St) (H : Hp) (x y : V) (v u : Value) (Q : VK), Inv X pins σ H s → RelV x v → RelV y u → r x y H Q →
    subscripted slice false v u = operate [v, u] (getItem v u) → wpAny (model X.prog X.w) X.A (subscriptTail value slice v u) (EP X pins σ Q) X.xe s
def MtR (X : Cx) (id : String) (r : V → List V → Hp → VK → Prop) : Prop :=
  ∀ (pins : List (Addr × Obj)) (s : Shared) (σ : St) (H : Hp) (x : V) (xs : List V) (v : Value) (us : List Value) (Q : VK), Inv X pins σ H s → RelV x v → Vals xs us → r x xs H Q →
    wpAny (model X.prog X.w) X.A (call (.builtin id) (v :: us)) (EP X pins σ Q) X.xe s
section
variable {X : Cx} {a b : Expr} {ta tb : TE} {pos : Pos}
theorem IxR.or {r r' : R2} (h : IxR X r) (h' : IxR X r') : IxR X (fun x y H Q => r x y H Q ∨ r' x y H Q) := by
  intro value slice pins s σ H x y v u Q I rx ry q hs
  rcases q with q | q
  · exact h value slice pins s σ H x y v u Q I rx ry q hs
  · exact h' value slice pins s σ H x y v u Q I rx ry q hs
theorem MtR.or {id : String} {r r' : V → List V → Hp → VK → Prop} (h : MtR X id r) (h' : MtR X id r') : MtR X id (fun x xs H Q => r x xs H Q ∨ r' x xs H Q) := by
  intro pins s σ H x xs v us Q I rx rs q
  rcases q with q | q
  · exact h pins s σ H x xs v us Q I rx rs q
  · exact h' pins s σ H x xs v us Q I rx rs q
theorem pe_ix {r : R2} (hr : IxR X r) (ha : PE X a ta) (hb : PE X b tb) (hs : PlainIx b) : PE X (.Subscript a b pos) (tOp r ta tb) := by
  intro pins s σ H Q I h
  exact Subscript_ (binT ha hb I h fun v u s2 x y H2 I2 rx ry q => hr a b pins s2 σ H2 x y v u Q I2 rx ry q (hs _ _))

def rIxL (K : PySem.W.Frag) : R2 := fun x y H Q => ∃ p xs i v, x = .ref p ∧ y = .int i ∧ SqL K H p xs ∧ atI xs i = some v ∧ Q v H
def rIxT (K : PySem.W.Frag) : R2 := fun x y H Q => ∃ p xs i v, x = .ref p ∧ y = .int i ∧ SqT K H p xs ∧ atI xs i = some v ∧ Q v H
def rIxS : R2 := fun x y H Q => ∃ z i c, x = .str z ∧ y = .int i ∧ z.length ≤ sizeLine ∧ atI z.cps.toList i = some c ∧ Q (.str ⟨#[c]⟩) H
theorem ix_list : IxR X (rIxL X.K) := by
  intro value slice pins s σ H x y v u Q I rx ry h hs
  obtain ⟨p, xs, i, z, rfl, rfl, hq, he, q⟩ := h
  cases rx
  obtain ⟨t, rfl⟩ := ry
  obtain ⟨its, r, pl, hz⟩ := I.list hq
  obtain ⟨j, h1, h2, h3, h4, h5⟩ := atI_get he
  obtain ⟨w, ew, rw'⟩ := r.get h2
  have hl := r.length
  have hn := line63
  have fin : EP X pins σ Q w s := ⟨z, H, I, rw', q⟩
  by_cases h0 : 0 ≤ i
  · have hj : i.toNat = j := by
      rw [seqIndex_of h0 h5] at h1
      exact Option.some.inj h1
    exact item_listR pl.isList h0 (by omega) (by rw [hj]; simpa using ew) fin hs
  · have hj : (i + (its.toArray.size : Int)).toNat = j := by
      rw [seqIndex_neg (by omega) h4] at h1
      rw [List.size_toArray, ← hl]
      exact Option.some.inj h1
    exact subscriptTail_builtinR (x := w) pl.isList.typeIs slot_list_getitem.lookup
      (wpAny_getItem_list_neg (Q := fun r s' => r = w ∧ EP X pins σ Q r s') pl.isList (by omega) (by rw [List.size_toArray] <;> omega) (by omega) (by rw [hj]; simpa using ew) ⟨rfl, fin⟩) hs
theorem ix_tup : IxR X (rIxT X.K) := by
  intro value slice pins s σ H x y v u Q I rx ry h hs
  obtain ⟨p, xs, i, z, rfl, rfl, hq, he, q⟩ := h
  cases rx
  obtain ⟨t, rfl⟩ := ry
  obtain ⟨its, r, pl, hz⟩ := I.tuple hq
  obtain ⟨j, h1, h2, h3, h4, h5⟩ := atI_get he
  obtain ⟨w, ew, rw'⟩ := r.get h2
  have hl := r.length
  have hn := line63
  have fin : EP X pins σ Q w s := ⟨z, H, I, rw', q⟩
  exact subscriptTail_builtinR (x := w) pl.typeIs slot_tuple_getitem.lookup
    (getItem_tuple (j := j) (Q := fun r s' => r = w ∧ EP X pins σ Q r s') pl (by omega) (by omega) (by rw [List.size_toArray, ← hl]; exact h1) (by simpa using ew) ⟨rfl, fin⟩) hs
theorem ix_str : IxR X rIxS := by
  intro value slice pins s σ H x y v u Q I rx ry h hs
  obtain ⟨z, i, c, rfl, rfl, hz, he, q⟩ := h
  obtain ⟨t, rfl⟩ := rx
  obtain ⟨t', rfl⟩ := ry
  obtain ⟨j, h1, h2, h3, h4, h5⟩ := atI_get he
  have hl : z.cps.toList.length = z.length := by simp [Str.length]
  rw [hl] at h1 h4 h5
  have hn := line63
  exact tail_any (typeIs_str s z t) slot_str_getitem.lookup (getItem_str (c := c) (by
    have e1 : decide (i < -(2 ^ 63 : Int)) = false := decide_eq_false (by omega)
    have e2 : decide (i ≥ 2 ^ 63) = false := decide_eq_false (by omega)
    rw [e1, e2, Bool.or_false]) (by rw [h1]; simpa using h2) ⟨.str ⟨#[c]⟩, H, I.tok _, ⟨_, rfl⟩, q⟩) hs

theorem mapSeq_set (its : List Value) (n j : Nat) (u : Value) : Obj.mapSeq (·.setIfInBounds j u) { cls := .type "list", data := .seq its.toArray n } = { cls := .type "list", data := .seq (its.set j u).toArray n } := by
  simp [Obj.mapSeq]
theorem Inv.lst {pins : List (Addr × Obj)} {σ : St} {H : Hp} {s : Shared} {p : Addr} {xs : List V} (I : Inv X pins σ H s) (h : H p = some (.lst xs)) :
    ∃ (its : List Value) (n : Nat), Vals xs its ∧ s.heap.get? p = some { cls := .type "list", data := .seq its.toArray n } ∧ xs.length ≤ sizeLine := by
  obtain ⟨z, its, n, r, e⟩ := I.hok p _ h
  exact ⟨its, n, r, e, z⟩
theorem Inv.lstUpd {pins : List (Addr × Obj)} {σ : St} {H : Hp} {s : Shared} {p : Addr} {xs ys : List V} {its its' : List Value} {n n' : Nat} {f : Obj → Obj} (I : Inv X pins σ H s) (h : H p = some (.lst xs))
    (ho : s.heap.get? p = some { cls := .type "list", data := .seq its.toArray n }) (hf : f { cls := .type "list", data := .seq its.toArray n } = { cls := .type "list", data := .seq its'.toArray n' }) (r : Vals ys its') (hz : ys.length ≤ sizeLine) (t : Nat) :
    Inv X pins σ (upd H p (.lst ys)) { s with heap := s.heap.update p f, toks := t } := by
  have e : (s.heap.update p f).get? p = some { cls := .type "list", data := .seq its'.toArray n' } := by
    rw [Heap.get?_update_self f ho (by rw [hf] <;> rfl), hf]
  refine I.write (x := p) (e := p) (by rw [h]; trivial) (.inl rfl) (fun b u hb q => (Heap.get?_update_other _ _ (Ne.symm hb)).trans q) ⟨_, e⟩ ?_
  exact ⟨hz, its', n', r, e⟩
def rSetL : V → V → V → Hp → (Hp → Prop) → Prop := fun o i v H Q => ∃ p xs k j, o = .ref p ∧ i = .int k ∧ H p = some (.lst xs) ∧ ixN xs.length k = some j ∧ Q (upd H p (.lst (xs.set j v)))
theorem set_list : PSet X rSetL := by
  intro pins s σ H o i v ov iv u Q I ro ri rv h
  obtain ⟨p, xs, k, j, rfl, rfl, hp, hj, q⟩ := h
  cases ro
  obtain ⟨t, rfl⟩ := ri
  obtain ⟨its, n, r, ho, hz⟩ := I.lst hp
  obtain ⟨h1, h2, h3, h4⟩ := ixN_seq hj
  have hl := r.length
  have hn := line63
  have I' : Inv X pins σ (upd H p (.lst (xs.set j v))) { s with heap := s.heap.update p (Obj.mapSeq (·.setIfInBounds j u)) } :=
    I.lstUpd hp ho (mapSeq_set its n j u) (r.set rv j) (by rw [List.length_set]; exact hz) s.toks
  by_cases h0 : 0 ≤ k
  · have hk : k.toNat = j := by
      rw [seqIndex_of h0 h4] at h1
      exact Option.some.inj h1
    exact PySem.W.ki_setAt ho h0 (by omega) (by rw [List.size_toArray, ← hl]; exact h4) (by rw [hk]; exact ⟨_, I', q⟩)
  · have hk : (k + (its.toArray.size : Int)).toNat = j := by
      rw [seqIndex_neg (by omega) h3] at h1
      rw [List.size_toArray, ← hl]
      exact Option.some.inj h1
    exact PySem.W.ki_setBack ho (by omega) (by rw [List.size_toArray, ← hl]; exact h3) (by omega) (by rw [hk]; exact ⟨_, I', q⟩)

theorem slice_bounds (lo hi : Option Int) (n : Nat) : (sliceBounds lo hi none n).1 = ((HT.sIx n 0 lo : Nat) : Int) ∧ (sliceBounds lo hi none n).2.1 = ((HT.sIx n n hi : Nat) : Int) ∧ (sliceBounds lo hi none n).2.2 = 1 := by
  refine ⟨?_, ?_, rfl⟩
  · cases lo with
    | none => simp [sliceBounds, HT.sIx]
    | some i =>
      simp only [sliceBounds, HT.sIx, Option.getD_none, show (1 : Int) > 0 by decide, if_true]
      by_cases h : i < 0
      · simp only [h, if_true] <;> omega
      · simp only [h, if_false] <;> omega
  · cases hi with
    | none => simp [sliceBounds, HT.sIx]
    | some i =>
      simp only [sliceBounds, HT.sIx, Option.getD_none, show (1 : Int) > 0 by decide, if_true]
      by_cases h : i < 0
      · simp only [h, if_true] <;> omega
      · simp only [h, if_false] <;> omega
theorem slicePick_cut (its : List Value) (lo hi : Option Int) : slicePick its.toArray lo hi none = ((its.drop (HT.sIx its.length 0 lo)).take (HT.sIx its.length its.length hi - HT.sIx its.length 0 lo)).toArray := by
  obtain ⟨h1, h2, h3⟩ := slice_bounds lo hi its.toArray.size
  unfold slicePick
  rw [h1, h2, h3]
  simp only [sliceRange_one, pick_run, List.size_toArray] <;> rfl
def rSlL (K : PySem.W.Frag) : V → Option Int → Option Int → Hp → VK → Prop := fun x lo hi H Q => ∃ a xs, x = .ref a ∧ SqL K H a xs ∧ ∀ p, H p = none → Q (.ref p) (upd H p (.lst (cutV xs lo hi)))
theorem sl_list : SlR X (rSlL X.K) := by
  intro pins s σ H x v vl vu lo hi sl Q I rx hs pl pu h
  obtain ⟨a, xs, rfl, hx, q⟩ := h
  cases rx
  obtain ⟨its, r, ht, hz⟩ := I.list hx
  have hlen := r.length
  refine ⟨"list", _, slot_list_getitem.lookup, ht.isList.typeIs, ?_⟩
  refine wpAny_getItem_list_slice ht.isList hs pl pu .none (by simp) ?_ (by rw [List.size_toArray] <;> omega)
  rw [slicePick_cut, ← hlen]
  refine ⟨.ref s.heap.objs.size, _, I.laid (t' := s.toks) (o := .lst (cutV xs lo hi)) (fun b ob q => Heap.get?_push_of_some _ q) (Nat.le_refl _) ?_, rfl, q _ (I.hok.fresh (Nat.le_refl _))⟩
  exact ⟨Nat.le_trans (cutV_length xs lo hi) hz, _, 0, (r.drop (HT.sIx xs.length 0 lo)).take (HT.sIx xs.length xs.length hi - HT.sIx xs.length 0 lo), Heap.get?_push_size _ rfl⟩


theorem CallR.or {f : Value} {r r' : List V → Hp → VK → Prop} (h : CallR X f r) (h' : CallR X f r') : CallR X f (fun xs H Q => r xs H Q ∨ r' xs H Q) := by
  intro pins s σ H xs us Q I rs q
  rcases q with q | q
  · exact h pins s σ H xs us Q I rs q
  · exact h' pins s σ H xs us Q I rs q
theorem call_tuple_of : CallR X (.type "tuple") (fun xs H Q => ∃ p ys, xs = [.ref p] ∧ ((SqL X.K H p ys ∧ ∀ l, H l = none → Q (.ref l) (upd H l (.tup ys))) ∨ (SqT X.K H p ys ∧ Q (.ref p) H))) := by
  intro pins s σ H xs us Q I r h
  obtain ⟨p, ys, rfl, h⟩ := h
  obtain ⟨u, rfl, rx⟩ := vals1 r
  cases rx
  rcases h with ⟨hq, q⟩ | ⟨hq, q⟩
  · obtain ⟨its, r', pl, hz⟩ := I.list hq
    have hlen := r'.length
    refine call_tuple_list pl.isList (fun h' kp => ?_) (by simp only [List.size_toArray] <;> omega)
    have I1 : Inv X pins σ H { s with heap := h' } := I.kept (t' := s.toks) kp
    have I2 : Inv X pins σ (upd H h'.objs.size (.tup ys)) { s with heap := h'.push { cls := .type "tuple", data := .seq its.toArray } } :=
      I1.laid (t' := s.toks) (fun b o e => Heap.get?_push_of_some _ e) (Nat.le_refl _) (show ObjOk X.prog X.w _ _ _ (.tup ys) from ⟨hz, its, r', IsTup.new _ _⟩)
    exact ⟨.ref h'.objs.size, _, I2, rfl, q _ (I1.hok.fresh (Nat.le_refl _))⟩
  · obtain ⟨its, r', pl, hz⟩ := I.tuple hq
    exact call_tuple_same pl ⟨.ref p, H, I, rfl, q⟩

def tyV (K : PySem.W.Frag) (T : String) (x : V) (H : Hp) : Prop := match x with
  | .str _ => T = "str"
  | .int _ => T = "int"
  | .ref p => (T = "list" ∧ ∃ xs, SqL K H p xs) ∨ (T = "tuple" ∧ ∃ o, K.lookup p = some o ∧ o.cls = .type "tuple" ∧ o.dict = none) ∨
      (T = "dict" ∧ ((∃ kvs, H p = some (.dK kvs)) ∨ ∃ kvs, H p = some (.dT kvs))) ∨ (T = "set" ∧ ∃ S n, H p = some (.set S n))
  | _ => False
theorem tyV_is {pins : List (Addr × Obj)} {σ : St} {H : Hp} {s : Shared} {T : String} {x : V} {v : Value} (I : Inv X pins σ H s) (r : RelV x v) (ty : tyV X.K T x H) :
    s.TypeIs v T ∧ ∀ a, v = .ref a → ∃ ob, s.heap.get? a = some ob ∧ ob.dict = none := by
  cases x with
  | str z =>
    obtain ⟨t, rfl⟩ := r
    cases (show T = "str" from ty)
    exact ⟨typeIs_str s z t, fun _ e => nomatch e⟩
  | int i =>
    obtain ⟨t, rfl⟩ := r
    cases (show T = "int" from ty)
    exact ⟨typeIs_int s i t, fun _ e => nomatch e⟩
  | ref p =>
    cases r
    rcases ty with ⟨rfl, xs, hq⟩ | ⟨rfl, o, hk, hc, hd⟩ | ⟨rfl, hk⟩ | ⟨rfl, S, n, hk⟩
    · obtain ⟨its, _, pl, _⟩ := I.list hq
      refine ⟨pl.isList.typeIs, fun a e => ?_⟩
      cases e
      obtain ⟨o, n, e, c, hd, _⟩ := pl
      exact ⟨o, e, hd⟩
    · refine ⟨⟨o, I.kIn p o hk, hc⟩, fun a e => ?_⟩
      cases e
      exact ⟨o, I.kIn _ o hk, hd⟩
    · have z : ∃ o, s.heap.get? p = some o ∧ o.ExactDict := by
        rcases hk with ⟨kvs, hk⟩ | ⟨kvs, hk⟩
        · obtain ⟨_, _, _, _, o, _, _, e, ex, _⟩ := I.hok p _ hk
          exact ⟨o, e, ex⟩
        · obtain ⟨_, _, _, _, o, _, _, e, ex, _⟩ := I.hok p _ hk
          exact ⟨o, e, ex⟩
      obtain ⟨o, e, ex⟩ := z
      refine ⟨⟨o, e, ex.1⟩, fun a e2 => ?_⟩
      cases e2
      exact ⟨o, e, ex.2.1⟩
    · obtain ⟨o, _, _, _, e, ex, _⟩ := I.hok p _ hk
      refine ⟨⟨o, e, ex.1⟩, fun a e2 => ?_⟩
      cases e2
      exact ⟨o, e, ex.2.1⟩
  | _ => exact False.elim ty
def tBM (K : PySem.W.Frag) (T : String) (r : V → List V → Hp → VK → Prop) (to : TE) (t : TA) : TE := fun σ H Q => to σ H fun x H1 => tyV K T x H1 ∧ t σ H1 fun xs H2 => r x xs H2 Q
variable {o e : Expr} {es : List Expr} {to : TE} {t : TA} {name : Str} {apos cpos : Pos} {T id : String} {r : V → List V → Hp → VK → Prop}
theorem pe_bm (pa : PlainAttrs T) (slot : Slot T name id) (hty : typeOf (.builtin id) = pure (.type "method_descriptor")) (hm : MtR X id r) (ho : PE X o to) (ha : PA X (e :: es) t)
    (hbase : attributeBase o name X.env (eval o X.env) = eval o X.env := by rfl)
    (hfew : ((backTo cpos (starEach (e :: es) X.env)).all (fun x => !x.1) && (backToKw cpos (keywordEach [] X.env)).all (fun x => x.1.isSome)
      && decide ((e :: es).length + ([] : List Keyword).length + (if ([] : List Keyword).isEmpty then 0 else 1) < 30)) = true := by rfl)
    (hline : (apos.endLine == cpos.line) = true := by rfl) (hs : starEach (e :: es) X.env = (false, eval e X.env) :: starEach es X.env := by rfl) (hplain : (backTo cpos (starEach es X.env)).any (·.1) = false := by rfl) :
    PE X (.Call (.Attribute o name apos) (e :: es) [] cpos) (tBM X.K T r to t) := by
  intro pins s σ H Q I h
  refine wpAny_Call_method_late hbase hfew hline rfl (thn (ho pins s σ H _ I h) fun v s1 ⟨x, H1, I1, r1, ty, q1⟩ => ?_)
  obtain ⟨h1, h2⟩ := tyV_is I1 r1 ty
  refine ⟨T, id, pa, slot, hty, h1, h2, ?_⟩
  have hA := ha cpos pins s1 σ H1 _ I1 q1
  rw [hs] at hA ⊢
  refine Calls.callWith_builtin (by show (false || (backTo cpos (starEach es X.env)).any (·.1)) = false; rw [hplain] <;> rfl) (Calls.evalArgs_plain ?_)
  exact thn hA fun us s2 ⟨vs, H2, I2, r2, q2⟩ => hm pins s2 σ H2 x vs v us Q I2 r1 r2 q2
end
end L2

namespace L2
open PySem PySem.Spec PyProof.Rows

def MtM (X : Cx) (id : String) (r : V → List V → Hp → VK → Prop) : Prop :=
  ∀ (pins : List (Addr × Obj)) (s : Shared) (σ : St) (H : Hp) (x : V) (xs : List V) (v : Value) (us : List Value) (Q : VK), Inv X pins σ H s → RelV x v → Vals xs us → r x xs H Q →
    wpAny (model X.prog X.w) X.A (call (.builtin id) (v :: us)) (EP X pins σ Q) X.xe s

theorem Vals.one : ∀ {x : V} {us : List Value}, Vals [x] us → ∃ u, us = [u] ∧ RelV x u
  | _, _, .cons r .nil => ⟨_, rfl, r⟩
theorem Vals.two : ∀ {x y : V} {us : List Value}, Vals [x, y] us → ∃ u v, us = [u, v] ∧ RelV x u ∧ RelV y v
  | _, _, _, .cons r (.cons q .nil) => ⟨_, _, rfl, r, q⟩
theorem Vals.zero : ∀ {us : List Value}, Vals [] us → us = []
  | _, .nil => rfl
theorem Vals.eraseIdx : ∀ {xs : List V} {us : List Value} (i : Nat), Vals xs us → Vals (xs.eraseIdx i) (us.eraseIdx i)
  | _, _, _, .nil => .nil
  | _, _, 0, .cons _ t => t
  | _, _, i + 1, .cons r t => .cons r (Vals.eraseIdx i t)
theorem Vals.reverse {xs : List V} {us : List Value} (h : Vals xs us) : Vals xs.reverse us.reverse := by
  induction h with
  | nil => exact .nil
  | cons r t ih => rw [List.reverse_cons, List.reverse_cons]; exact Vals.append ih (.cons r .nil)
theorem len_erase {α : Type} : ∀ (l : List α) (i : Nat), (l.eraseIdx i).length ≤ l.length
  | [], _ => Nat.le_refl _
  | _ :: _, 0 => Nat.le_succ _
  | _ :: r, i + 1 => Nat.succ_le_succ (len_erase r i)

section
variable {X : Cx} {pins : List (Addr × Obj)} {σ : St} {H : Hp} {s : Shared} {l b : Addr} {xs ys zs : List V}

theorem Inv.lset {its its' : List Value} {n : Nat} {f : Array Value → Array Value} {t' : Nat} (I : Inv X pins σ H s) (hH : H l = some (.lst xs))
    (e : s.heap.get? l = some { cls := .type "list", data := .seq its.toArray n }) (hf : f its.toArray = its'.toArray) (hv : Vals ys its') (hz : ys.length ≤ sizeLine) :
    Inv X pins σ (upd H l (.lst ys)) { s with heap := s.heap.update l (Obj.mapSeq f), toks := t' } := by
  have q := PySem.IsL.update e f
  rw [hf] at q
  refine I.write (x := l) (e := l) (by rw [hH]; exact trivial) (.inl rfl) (fun b' u hb hu => (Heap.get?_update_other s.heap (Obj.mapSeq f) (Ne.symm hb)).trans hu) ⟨_, q⟩ ?_
  exact ⟨hz, its', _, hv, q⟩
theorem Inv.lnew {its : List Value} {t' : Nat} (I : Inv X pins σ H s) (hv : Vals ys its) (hz : ys.length ≤ sizeLine) :
    Inv X pins σ (upd H s.heap.objs.size (.lst ys)) { s with heap := s.heap.push { cls := .type "list", data := .seq its.toArray }, toks := t' } :=
  I.laid (fun _ _ q => Heap.get?_push_of_some _ q) (Nat.le_refl _) ⟨hz, its, 0, hv, Heap.get?_push_size _ rfl⟩
theorem Inv.fresh (I : Inv X pins σ H s) : H s.heap.objs.size = none := I.hok.fresh (Nat.le_refl _)
theorem Inv.lstM (I : Inv X pins σ H s) (hH : H l = some (.lst xs)) : xs.length ≤ sizeLine ∧ ∃ (its : List Value) (n : Nat), Vals xs its ∧ xs.length = its.length ∧ s.heap.get? l = some { cls := .type "list", data := .seq its.toArray n } := by
  obtain ⟨z, its, n, r, e⟩ := I.hok l _ hH
  exact ⟨z, its, n, r, r.length, e⟩

end

section
variable {X : Cx}

def rAppend : V → List V → Hp → VK → Prop := fun x vs H Q => ∃ l xs y, x = .ref l ∧ vs = [y] ∧ H l = some (.lst xs) ∧ xs.length < sizeLine ∧ Q .non (upd H l (.lst (xs ++ [y])))
theorem mt_append : MtM X "list.append" rAppend := by
  intro pins s σ H x vs v us Q I rx rv h
  obtain ⟨l, xs, y, rfl, rfl, hH, hz, q⟩ := h
  cases rx
  obtain ⟨u, rfl, ru⟩ := rv.one
  obtain ⟨z, its, n, r, hl, e⟩ := I.lstM hH
  refine call_meets F.slot_list_append ⟨_, e, rfl⟩ F.entry_list_append (F.args_list_append_2 _ _) (PySem.list_append l its.toArray n u (by rw [List.size_toArray]; omega)) ⟨e, ?_⟩
  refine ⟨.non, _, I.lset (its' := its ++ [u]) hH e (by simp) (r.append (.cons ru .nil)) ?_, rfl, q⟩
  rw [List.length_append, List.length_singleton]
  omega



def rPopAt : V → List V → Hp → VK → Prop := fun x vs H Q => ∃ l xs i k y, x = .ref l ∧ vs = [.int i] ∧ H l = some (.lst xs) ∧ -(2 ^ 63) ≤ i ∧ i < 2 ^ 63 ∧ seqIndex? i xs.length = some k ∧ xs[k]? = some y ∧ Q y (upd H l (.lst (xs.eraseIdx k)))
theorem mt_popAt : MtM X "list.pop" rPopAt := by
  intro pins s σ H x vs v us Q I rx rv h
  obtain ⟨l, xs, i, k, y, rfl, rfl, hH, h1, h2, hk, hy, q⟩ := h
  cases rx
  obtain ⟨u, rfl, ru⟩ := rv.one
  obtain ⟨t, rfl⟩ := ru
  obtain ⟨z, its, n, r, hl, e⟩ := I.lstM hH
  obtain ⟨w, hw, rw'⟩ := r.get hy
  refine call_meets F.slot_list_pop ⟨_, e, rfl⟩ F.entry_list_pop (F.args_list_pop_2 _ _)
    (MeetsSeq.list_pop_at l its.toArray n i t k w (fitsIndex_both h1 h2) (by rw [List.size_toArray, ← hl]; exact hk) (by rw [← Array.getElem?_toList]; exact hw) (by rw [List.size_toArray]; omega)) ⟨e, ?_⟩
  refine ⟨y, _, I.lset (its' := its.eraseIdx k) hH e ?_ (r.eraseIdx k) ?_, rw', q⟩
  · show its.toArray.eraseIdxIfInBounds k = (its.eraseIdx k).toArray
    rw [List.eraseIdxIfInBounds_toArray]
  · have := len_erase xs k
    omega



def rCat : R2 := fun x y H Q => ∃ l b xs zs, x = .ref l ∧ y = .ref b ∧ H l = some (.lst xs) ∧ H b = some (.lst zs) ∧ xs.length + zs.length ≤ sizeLine ∧ ∀ p, H p = none → Q (.ref p) (upd H p (.lst (xs ++ zs)))
theorem op_cat : OpR X (binaryOp .Add) rCat := by
  intro pins s σ H x y v u Q I rx ry h
  obtain ⟨l, b, xs, zs, rfl, rfl, hH, hB, hz, q⟩ := h
  cases rx
  cases ry
  obtain ⟨z, its, n, r, hl, e⟩ := I.lstM hH
  obtain ⟨z2, its2, n2, r2, hl2, e2⟩ := I.lstM hB
  refine PySem.P.add_list e e2 ?_ (by rw [List.size_toArray, List.size_toArray]; omega)
  have ea : its.toArray ++ its2.toArray = (its ++ its2).toArray := by simp
  rw [ea]
  exact ⟨.ref _, _, I.lnew (t' := s.toks) (r.append r2) (by rw [List.length_append]; omega), rfl, q _ I.fresh⟩

end

section
variable {prog : Program} {w : World} {A : Around} {E : Value → Shared → Prop} {s : Shared}
set_option maxRecDepth 100000 in
end

section
variable {X : Cx}
end
end L2

namespace Att
open PySem PySem.W PySem.Calls PyProof.Rows

theorem ints_of_wellAll {P : Params} {h : Heap} : ∀ (ns : List Int) (vs : List Value), WellAll P h vs (ns.map WData.int) → IntsAre vs ns := by
  intro ns
  induction ns with
  | nil =>
    intro vs w
    rw [List.map_nil] at w
    cases w
    exact .nil
  | cons n ns ih =>
    intro vs w
    rw [List.map_cons] at w
    cases w with
    | cons a b =>
      cases a
      exact .cons _ _ (ih _ b)

theorem script_of {l : OpenLaw} {n : Nat} (hn : l.most = some n) {P : Params} {h : Heap} {args : List WData} {vals : List Value}
    (hpre : l.row.toRowW.claim.pre args = true) (hwl : WellAll P h vals args) :
    ∃ a vs ns, vals = [Value.ref a] ∧ args = [WData.list (ns.map WData.int)] ∧ h.get? a = some { cls := .type "list", data := .seq vs.toArray } ∧ IntsAre vs ns ∧ ns.length ≤ n := by
  have hsh : WShape.hasAll [] args [.list .int] = true := (pre_splitW hpre).1
  have hc : l.pre.holds [] { args := args } = true := (pre_splitW hpre).2
  obtain ⟨d, r, rfl, h1, h2⟩ := hasAllW_cons hsh
  obtain rfl := hasAllW_nil h2
  obtain ⟨xs, rfl, h3⟩ := hasW_list h1
  obtain ⟨ns, rfl⟩ := items_int h3
  have hlen : ns.length ≤ n := by
    unfold OpenLaw.pre at hc
    have h4 : (WTm.not (.lt (.lit (.int (n : Int))) (.len (.arg 0)))).holds [] { args := [.list (ns.map .int)] } = true := by
      have h4 := (holds_andW hc).1
      rw [hn] at h4
      exact h4
    have h5 := condW_of h4 (w_not (w_lt w_lit (w_len_list (w_arg rfl))))
    rw [List.length_map] at h5
    refine Nat.le_of_not_lt fun q => ?_
    have q' : (n : Int) < ((ns.length : Nat) : Int) := by omega
    first
      | (rw [decide_eq_true q'] at h5; exact absurd h5 (by decide))
      | (simp at h5; omega)
  cases hwl with
  | cons w1 w2 =>
    cases w2
    cases w1 with
    | list ho hall => exact ⟨_, _, ns, rfl, rfl, ho, ints_of_wellAll ns _ hall, hlen⟩

theorem post_true (l : OpenLaw) (args : List WData) : l.row.toRowW.claim.post args (.bool true) args = true :=
  postW_of (r := l.row.toRowW) (X := (true == true))
    (show WShape.has [] (.bool true) .bool = true by first | rfl | decide | simp [WShape.has, WShape.arms, WShape.armsAll])
    (show (WTm.eq .res (.lit (.bool true))).value [] { args := args, res := some (.bool true), after := args } = some (.bool (true == true)) from w_eq_bool (w_res rfl) w_lit) rfl


theorem attach_call {l : OpenLaw} {n : Nat} {q : Program} {loose : List Str} {XP : (Str → Option Value) → Heap → Prop} {YP : World → Heap → Prop} {d : DefRec}
    (hn : l.most = some n) (hdf : d.params.defaults = [])
    (call : ∀ (w : World) (s₀ s₁ : Shared) (mg mb : Str → Option Value) (fa : Addr) (o : Obj) (pm cd doc : Value) (a : Addr) (vs : List Value) (ns : List Int),
      Ground q loose [] XP w s₀ mg mb s₁.heap → YP w s₁.heap →
      s₁.heap.get? fa = some o → o.data = .func (docDef d.name d.params d.body d.scope pm cd doc) → s₁.heap.CodeRec cd d.name → mg d.name = some (.ref fa) →
      s₁.heap.get? a = some { cls := .type "list", data := .seq vs.toArray } → IntsAre vs ns → ns.length ≤ n → s₁.gens = #[] →
      codeAny (model l.prog w) callerA (.call (.ref fa) ⟨[.ref a], []⟩) (fun r s' => r = .ok (.ret (.bool true)) ∧ OldK s₁.heap s'.heap ∧ s'.os = s₁.os ∧ AllBare s'.gens) s₁) :
    WalkO q loose XP YP l.row.toRowW d [] (fun f vs => PySem.call f vs) := by
  intro w s₀ s₁ mg mb G Y fa o pm cd doc dV kV ho hd hcd hD hmg hg args vals as hpre hlay hrd hwl hlo
  obtain rfl : dV = .none := Dflts.none hD hdf
  obtain rfl : kV = .none := Dflts.noKw hD
  obtain ⟨a, vs, ns, rfl, rfl, hobj, hints, hlen⟩ := script_of hn hpre hwl
  refine enter_call (codeAny_mono (call w s₀ s₁ mg mb fa o pm cd doc a vs ns G Y ho (fd_plain hd) hcd hmg hobj hints hlen hg) fun r s' hq => ?_)
  obtain ⟨rfl, h2, h3, h4⟩ := hq
  exact ⟨.inl ⟨.bool true, .bool true, [], rfl, fun _ => rfl, .bool true, post_true l _, fun _ => ⟨List.Pairwise.nil, fun _ hm => (nomatch hm)⟩⟩, h2, h3, h4⟩


section
variable {prog : Program} {w : World} {A : Around} {E : Value → Shared → Prop} {s : Shared} {K : Frag}





def ledger (h : Heap) (L d : Addr) : List (Addr × Obj) := (List.range h.objs.size).filterMap fun a => if a = L ∨ a = d then none else (h.get? a).map fun o => (a, o)

end
end Att

namespace L2
open PySem PySem.Spec PyProof.Rows

theorem vals_ints : ∀ {vs : List Value} {ns : List Int}, IntsAre vs ns → Vals (ns.map V.int) vs
  | _, _, .nil => .nil
  | _, _, .cons n t h => .cons ⟨t, rfl⟩ (vals_ints h)

def Only (H : Hp) : Prop := ∀ b, H b = none ∨ ∃ o xs, H b = some (.frz o (.lst xs))

theorem law_call {P : Program} {w : World} {K : PySem.W.Frag} {mg mb : Str → Option Value} {CX : CXT} {k : Nat} {fa a : Addr} {fd : FuncData} {x : Str} {sp : Sp} {s₁ : Shared} {vs : List Value} {ns : List Int}
    (KX : K.In s₁.heap) (hns : s₁.heap.Ns mainGlobals mg) (hb : s₁.heap.Ns builtinsNs mb) (hbb : ∀ x : Str, x ≠ "__name__" → mb x = bootBuiltins x) (hlim : s₁.heap.NoLimit) (hsee : s₁.heap.NoSeer) (hg : s₁.gens = #[])
    (ha : s₁.heap.get? a = some { cls := .type "list", data := .seq vs.toArray }) (hi : IntsAre vs ns) (hl : ns.length ≤ sizeLine) (hr : Room k callerA)
    (F : ∀ base : Heap, K.In base → base.Ns mainGlobals mg → FnOk P w K mg base CX k fa fd [x] sp) (hbind : ∀ (s : Shared) (u : Value), BindsTo s fd ⟨[u], []⟩ [(x, u)])
    (hsp : ∀ H : Hp, Only H → SqL K H a (ns.map V.int) → sp [.ref a] H (fun v _ => v = .bl true) fun _ _ _ => False)
    (hCX : ∀ H e s', CX [] H s₁ (fun _ _ _ => False) e s' → False) :
    codeAny (model P w) callerA (.call (.ref fa) ⟨[.ref a], []⟩) (fun r s' => r = .ok (.ret (.bool true)) ∧ OldK s₁.heap s'.heap ∧ s'.os = s₁.os ∧ AllBare s'.gens) s₁ := by
  have rv := vals_ints hi
  have lenV := hi.length
  -- from an abstract heap in which nothing but the script may be tracked
  have core : ∀ H : Hp, Only H → SqL K H a (ns.map V.int) → HOk P w H s₁.heap → (∀ b, H b ≠ none → b = a) → (H a ≠ none → K.lookup a = none) →
      codeAny (model P w) callerA (.call (.ref fa) ⟨[.ref a], []⟩) (fun r s' => r = .ok (.ret (.bool true)) ∧ OldK s₁.heap s'.heap ∧ s'.os = s₁.os ∧ AllBare s'.gens) s₁ := by
    intro H hO hS hok hA hK
    have base_of : ∀ {b : Addr} {o : Obj}, s₁.heap.get? b = some o → H b = none → (hidT s₁.heap H).get? b = some o := fun e n => hidT_get e n
    have noA : ∀ {b : Addr} {o : Obj} {es : Array DictEntry} {ep : Nat}, s₁.heap.get? b = some o → o.data = .dict es ep → H b = none := fun {b o es ep} e d => by
      cases q : H b with
      | none => rfl
      | some u =>
        have e' : b = a := hA b (by rw [q]; simp)
        subst e'
        rw [ha] at e; cases e
        have d' : Data.seq vs.toArray _ = Data.dict es ep := d
        cases d'
    have nsK : ∀ {b : Addr} {m : Str → Option Value}, s₁.heap.Ns b m → (hidT s₁.heap H).Ns b m := fun {b m} ⟨o, es, ep, e, d, r⟩ => ⟨o, es, ep, base_of e (noA e d), d, r⟩
    have hKb : K.In (hidT s₁.heap H) := fun b o e => base_of (KX b o e) (by
      cases q : H b with
      | none => rfl
      | some u =>
        have e' : b = a := hA b (by rw [q]; simp)
        subst e'
        rw [hK (by rw [q]; simp)] at e; cases e)
    have hM : Mod K mg (hidT s₁.heap H) := ⟨hKb, nsK hns, ⟨mb, nsK hb, hbb⟩, let ⟨mc, h1, h2⟩ := hlim; ⟨mc, nsK h1, h2⟩,
      ⟨let ⟨mc, h1, h2⟩ := hsee.statics; ⟨mc, nsK h1, h2⟩, let ⟨mc, h1, h2⟩ := hsee.mods; ⟨mc, nsK h1, h2⟩, let ⟨mc, h1, h2⟩ := hsee.imp; ⟨mc, nsK h1, h2⟩, by
        obtain ⟨mg', bm, ob, n1, n2, n3, n4, n5⟩ := hsee.main
        refine ⟨mg', bm, ob, nsK n1, n2, base_of n3 ?_, n4, n5⟩
        cases q : H bm with
        | none => rfl
        | some u =>
          have e' : bm = a := hA bm (by rw [q]; simp)
          subst e'
          rw [ha] at n3; cases n3
          exact absurd (show Value.type "list" = Value.type "module" from n4) (fun z => by injection z with z; exact absurd z (by decide))⟩⟩
    have e0 : Env0 P w K mg (hidT s₁.heap H) callerA [] s₁ H := ⟨rfl, hM, fun b o e => of_hidT e, Nat.le_of_eq (hidT_size _ _), trivial, fun b hb => absurd (show b ∈ ([] : List Addr) from hb) (by simp), hok, .of_eq hg⟩
    refine codeAny_mono ((F _ hKb (nsK hns)).run callerA [] s₁ H ⟨[.ref a], []⟩ [.ref a] [.ref a] _ _ hr e0 (hbind s₁ (.ref a)) (.cons rfl .nil) (hsp H hO hS)) fun r s' h => ?_
    cases r with
    | error e => exact (hCX H e s' h).elim
    | ok fl =>
      cases fl with
      | next => exact False.elim h
      | brk => exact False.elim h
      | cont => exact False.elim h
      | ret u =>
        obtain ⟨v, H', os, bare, un, hok', r', q⟩ := h
        have q' : v = .bl true := q
        subst q'
        obtain rfl : u = Value.bool true := r'
        refine ⟨rfl, OldK.of_keep fun b o e => ?_, os, bare⟩
        cases q : H b with
        | none => exact un.keep b o e q (by intro z; exact absurd (show b ∈ ([] : List Addr) from z) (by simp)) (by simp)
        | some u =>
          rcases hO b with z | ⟨ob, xs, z⟩
          · rw [q] at z; cases z
          · have z2 := un.frzs b ob _ z
            obtain ⟨e1, _⟩ := hok b _ z
            obtain ⟨e2, _⟩ := hok' b _ z2
            rw [e] at e1; cases e1
            exact e2
  cases hk : K.lookup a with
  | some o =>
    -- the script is one of the module's own objects
    have e := KX a o hk
    rw [ha] at e
    cases e
    refine core (fun _ => none) (fun _ => .inl rfl) (.inr ⟨_, vs.toArray, _, hk, rfl, rfl, rfl, by rw [List.size_toArray, lenV]; exact hl, by simpa using rv⟩) (fun b u z => by have z' : (none : Option HO) = some u := z; cases z') (fun b z => absurd rfl z) fun z => absurd rfl z
  | none =>
    refine core (fun b => if b = a then some (.frz { cls := .type "list", data := .seq vs.toArray } (.lst (ns.map V.int))) else none) (fun b => ?_) (.inl (.inr ⟨{ cls := .type "list", data := .seq vs.toArray }, if_pos rfl⟩)) (fun b u z => ?_) (fun b z => ?_) fun _ => hk
    · by_cases hb : b = a
      · exact .inr ⟨_, _, if_pos hb⟩
      · exact .inl (if_neg hb)
    · by_cases hb : b = a
      · have z' := (if_pos hb).symm.trans z
        cases z'
        subst hb
        exact ⟨ha, by rw [List.length_map]; exact hl, vs, _, rv, ha⟩
      · have z' := (if_neg hb).symm.trans z
        cases z'
    · by_cases hb : b = a
      · exact hb
      · exact absurd (if_neg hb) z
end L2

namespace L2
open PySem PySem.Spec PyProof.Rows

abbrev KOf {K : PySem.W.Frag} {h : Heap} (_ : K.In h) : PySem.W.Frag := K

theorem walk_of {l : PySem.W.OpenLaw} {n k : Nat} {q : Program} {loose : List Str} {XP : (Str → Option Value) → Heap → Prop} {YP : World → Heap → Prop} {d : DefRec} {K : Params → PySem.W.Frag} {CX : World → CXT} {sp : World → Sp} {x : Str}
    (hn : l.most = some n) (hn2 : n ≤ sizeLine) (hdf : d.params.defaults = []) (hr : Room k callerA) (hq : importsNone q = true)
    (hY : ∀ (w : World) (h : Heap), YP w h → (K w.params).In h)
    (F : ∀ (w : World) (mg : Str → Option Value) (fa : Addr) (h : Heap), (K w.params).In h → h.Ns mainGlobals mg → mg d.name = some (.ref fa) →
      ∃ fd : FuncData, (∀ (s : Shared) (u : Value), BindsTo s fd ⟨[u], []⟩ [(x, u)]) ∧
        ∀ base : Heap, (K w.params).In base → base.Ns mainGlobals mg → FnOk l.prog w (K w.params) mg base (CX w) k fa fd [x] (sp w))
    (hsp : ∀ (w : World) (H : Hp) (a : Addr) (ns : List Int), ns.length ≤ n → Only H → SqL (K w.params) H a (ns.map V.int) → sp w [.ref a] H (fun v _ => v = .bl true) fun _ _ _ => False)
    (hCX : ∀ (w : World) (H : Hp) (s : Shared) (e : Value) (s' : Shared), CX w [] H s (fun _ _ _ => False) e s' → False) :
    PySem.W.WalkO q loose XP YP l.row.toRowW d [] (fun f vs => PySem.call f vs) := by
  refine Att.attach_call hn hdf fun w s₀ s₁ mg mb fa o pm cd doc a vs ns G Y ho hd hcd hmg hobj hints hlen hg => ?_
  have KX := hY w _ Y
  obtain ⟨fd, hb, hF⟩ := F w mg fa _ KX G.T.g hmg
  exact law_call KX G.T.g G.T.b G.T.builtins G.T.nolimit (G.T.seer hq) hg hobj hints (Nat.le_trans hlen hn2) hr hF hb (fun H hO hS => hsp w H a ns hlen hO hS) fun H e s' => hCX w H s₁ e s'
theorem walk_ofK {l : PySem.W.OpenLaw} {n k : Nat} {q : Program} {loose : List Str} {XP : (Str → Option Value) → Heap → Prop} {YP : World → Heap → Prop} {d : DefRec} {K : Params → PySem.W.Frag} {CX : CXT} {sp : PySem.W.Frag → Sp} {x : Str}
    (hn : l.most = some n) (hn2 : n ≤ sizeLine) (hdf : d.params.defaults = []) (hr : Room k callerA) (hq : importsNone q = true)
    (hY : ∀ (w : World) (h : Heap), YP w h → (K w.params).In h)
    (F : ∀ (w : World) (mg : Str → Option Value) (fa : Addr) (h : Heap), (K w.params).In h → h.Ns mainGlobals mg → mg d.name = some (.ref fa) →
      ∃ fd : FuncData, (∀ (s : Shared) (u : Value), BindsTo s fd ⟨[u], []⟩ [(x, u)]) ∧
        ∀ base : Heap, (K w.params).In base → base.Ns mainGlobals mg → FnOk l.prog w (K w.params) mg base CX k fa fd [x] (sp (K w.params)))
    (hsp : ∀ (K : PySem.W.Frag) (H : Hp) (a : Addr) (ns : List Int), ns.length ≤ n → Only H → SqL K H a (ns.map V.int) → sp K [.ref a] H (fun v _ => v = .bl true) fun _ _ _ => False)
    (hCX : ∀ (H : Hp) (s : Shared) (e : Value) (s' : Shared), CX [] H s (fun _ _ _ => False) e s' → False) :
    PySem.W.WalkO q loose XP YP l.row.toRowW d [] (fun f vs => PySem.call f vs) :=
  walk_of (K := K) (CX := fun _ => CX) (sp := fun w => sp (K w.params)) hn hn2 hdf hr hq hY F (fun w H a ns h1 h2 h3 => hsp (K w.params) H a ns h1 h2 h3) fun _ H s e s' => hCX H s e s'
end L2


namespace L2
open PySem PySem.Spec PyProof.Rows

def inClass (s : Stmt) (j : Nat) : Stmt := match s with
  | .ClassDef _ _ _ body _ _ _ _ _ _ _ => body.getD j (.Pass ⟨0, 0, 0, 0⟩)
  | _ => .Pass ⟨0, 0, 0, 0⟩
def defArgs (s : Stmt) : Arguments := match s with
  | .FunctionDef _ a _ _ _ _ _ _ _ _ => a
  | _ => { posonlyargs := [], args := [], vararg := none, kwonlyargs := [], kw_defaults := [], kwarg := none, defaults := [] }
def defBody (s : Stmt) : List Stmt := match s with
  | .FunctionDef _ _ b _ _ _ _ _ _ _ => b
  | _ => []
def defScope (s : Stmt) : Scope := match s with
  | .FunctionDef _ _ _ _ _ _ sc _ _ _ => sc
  | _ => { kind := .function, names := [], isGenerator := false, isCoroutine := false }

abbrev CX0 : CXT := fun _ _ _ _ _ _ => False
abbrev E0 : XK := fun _ _ _ => False
theorem pass0 {X : Cx} : Passes CX0 X E0 := fun _ _ _ _ _ _ _ h => h.elim

structure Fun (K : PySem.W.Frag) (x qual : Str) (st : Stmt) (f : Addr) (fd : FuncData) : Prop where
  ex : ∃ (oc : Value) (od : Option Addr) (kV doc pm : Value) (an : Option Addr) (cdv ct : Value) (osl : Array (Option Value)),
    fd = PySem.W.fnOf x qual (defArgs st) (defBody st) (defScope st) .none kV doc pm an cdv ct ∧ K.lookup f = some ⟨oc, od, .func fd, osl⟩ ∧ PySem.W.codeIn K cdv qual = true
  kp : PySem.W.keepIn K (.ref f) = true
section
variable {P : Program} {w : World} {K : PySem.W.Frag} {mg : Str → Option Value} {base : Heap}
theorem Fun.ok {x qual : Str} {st : Stmt} {f : Addr} {fd : FuncData} {N ps : List Str} {k : Nat} {sp : Sp} (F : Fun K x qual st f fd) (S : FnScope N ps (defScope st)) (len : ∀ vs H Q E, sp vs H Q E → vs.length = ps.length)
    (hbody : ∀ (cdv : Value) (A : Around) (outer : List Env) (s : Shared) (H : Hp) (vs : List V) (Q : VK) (E : XK), Room k (A.deeper (envOfC qual (defScope st) s.heap.objs.size f cdv)) → sp vs H Q E →
      ∃ t, PSs (cxOf CX0 P w K mg base N qual (defScope st) f cdv A outer s H E).nox (defBody st) t ∧ t { nx := fun _ H' => Q .non H', rt := Q } (start N vs) H) : FnOk P w K mg base CX0 (k + 1) f fd ps sp := by
  obtain ⟨oc, od, kV, doc, pm, an, cdv, ct, osl, rfl, lk, hcd⟩ := F.ex
  refine fn_of lk hcd S len fun A outer s H vs Q E hr hsp => ?_
  obtain ⟨t, h, q⟩ := hbody cdv A outer s H vs Q E hr hsp
  exact ⟨t, h.nox, q⟩
theorem Fun.binds {x qual : Str} {st : Stmt} {f : Addr} {fd : FuncData} {ps : List Str} (F : Fun K x qual st f fd)
    (h : ∀ (kV doc pm : Value) (an : Option Addr) (cdv ct : Value) (us : List Value), us.length = ps.length → bindArgs (PySem.W.fnOf x qual (defArgs st) (defBody st) (defScope st) .none kV doc pm an cdv ct) ⟨us, []⟩ = pure (ps.zip us)) : Binds K fd ps [] := by
  obtain ⟨oc, od, kV, doc, pm, an, cdv, ct, osl, rfl, lk, hcd⟩ := F.ex
  exact .all (h kV doc pm an cdv ct)
theorem fun_mk {x qual : Str} {st : Stmt} {f : Addr} {oc : Value} {od an : Option Addr} {osl : Array (Option Value)} {kV doc pm cdv ct : Value} (l : K.lookup f = some ⟨oc, od, .func (PySem.W.fnOf x qual (defArgs st) (defBody st) (defScope st) .none kV doc pm an cdv ct), osl⟩)
    (c : PySem.W.codeIn K cdv qual = true) (k : PySem.W.keepIn K (.ref f) = true) : Fun K x qual st f (PySem.W.fnOf x qual (defArgs st) (defBody st) (defScope st) .none kV doc pm an cdv ct) := ⟨⟨oc, od, kV, doc, pm, an, cdv, ct, osl, rfl, l, c⟩, k⟩
end
theorem hu_of {A : Around} {k : Nat} (hr : Room k A) : A.units + 1 < cLine := Nat.lt_of_le_of_lt (Nat.add_le_add_left (by decide : 1 ≤ 64) _) hr.units
theorem small1000 {n : Nat} (h : n ≤ 1000) : n < sizeLine := Nat.lt_of_le_of_lt h (by decide)

section
variable {X : Cx}
theorem pv (i : Nat) {x : Str} {pos : Pos} (hN : X.N[i]? = some x := by rfl) (hv : Vis X.env.scope x := by first | exact Or.inl rfl | exact Or.inr (Or.inl rfl) | exact Or.inr (Or.inr rfl)) (hd : (x == ("__debug__" : Str)) = false := by decide)
    (hcd : (x == ("__classdict__" : Str)) = false := by decide) : PE X (.Name x pos) (tVar i) := pe_var hN hv hd hcd
end

theorem iteF {A B : Prop} (h : B) : if false = true then A else B := by
  rw [if_neg Bool.false_ne_true]
  exact h
theorem iteT {A B : Prop} (h : A) : if true = true then A else B := by
  rw [if_pos rfl]
  exact h

def Same (H H' : Hp) : Prop := ∀ b o, H b = some o → H' b = some o
theorem Same.refl (H : Hp) : Same H H := fun _ _ h => h
theorem Same.trans {H H1 H2 : Hp} (a : Same H H1) (b : Same H1 H2) : Same H H2 := fun c o h => b c o (a c o h)
theorem Same.free {H H' : Hp} (e : Same H H') {l : Addr} (h : H' l = Option.none) : H l = Option.none := by
  cases q : H l with
  | none => rfl
  | some o =>
    rw [e l o q] at h
    cases h
theorem Same.seq {K : PySem.W.Frag} {H H' : Hp} {a : Addr} {xs : List V} (e : Same H H') (h : SqL K H a xs) : SqL K H' a xs := by
  rcases h with (h | ⟨o, h⟩) | h
  · exact .inl (.inl (e _ _ h))
  · exact .inl (.inr ⟨o, e _ _ h⟩)
  · exact .inr h

end L2

set_option maxHeartbeats 4000000
namespace L2
open PySem PySem.Spec PyProof.Rows PySem.SeqAt
section
variable {X : Cx}
def CDivB (_ j : Int) : Prop := j ≠ 0 ∧ j.natAbs.log2 < 9000
theorem op_fdivB : OpR X (binaryOp .FloorDiv) (rI CDivB fun i j => .int (i.fdiv j)) := opI fun _ _ _ _ _ _ _ hc q => floordiv_int hc.1 q (Or.inl (PyProof.noPylong_of_log2 hc.2))
def rIsi (K : PySem.W.Frag) : List V → Hp → VK → Prop := fun xs H Q => ∃ x n t b, xs = [x, .ty n] ∧ TyOf K H x t ∧ PySem.W.kitOne K t (.type n) = some b ∧ Q (.bl b) H
theorem call_isi : CallR X (.builtin "isinstance") (rIsi X.K) := by
  intro pins s σ H xs us Q I r h
  obtain ⟨x, n, t, b, rfl, ty, e, q⟩ := h
  cases r with
  | cons rx r1 =>
    cases r1 with
    | cons ry r2 =>
      cases r2
      cases ry
      exact isinst_ok I rx ty e fun tk => ⟨.bl b, H, I.tok _, rfl, q⟩
structure MkO (K : PySem.W.Frag) (C : Addr) : Prop where
  makes : PySem.W.makesIn K C = true
  init : PySem.W.findIn K (.ref C) "__init__" = some (some (.builtin "object.__init__"))
  kp : PySem.W.keepIn K (.ref C) = true
def tMakeO (C : Addr) : TE := fun _ H Q => ∀ x dx, H x = none → H dx = none → dx ≠ x → Q (.ref x) (upd (upd H dx (.own x)) x (.ins C dx []))
theorem pe_makeO {C : Addr} {x : Str} {p pos : Pos} (M : MkO X.K C) (hg : Gl X x) (hm : X.mg x = some (.ref C)) (hdb : (x == ("__debug__" : Str)) = false := by decide) : PE X (.Call (.Name x p) [] [] pos) (tMakeO C) := by
  intro pins s σ H Q I h
  refine wpAny_Call_Name_kw (ld_glob I hg hm ?_ hdb)
  refine PySem.W.callWith_K0 I.kIn M.kp ?_
  have hq := h (s.heap.objs.size + 1) s.heap.objs.size (I.hok.fresh (Nat.le_succ _)) (I.hok.fresh (Nat.le_refl _)) (Nat.ne_of_lt (Nat.lt_succ_self _))
  have I2 := Inv.made (C := C) I
  have Y := PySem.W.makes_of (M := model X.prog X.w) I.kIn M.makes
  refine wpAny_call (make_map0 I.kIn M.makes M.init (fun self => PySem.W.Looks.of_pure (PySem.W.oi_bind self)) ?_)
  have t1 : PySem.W.Looks (model X.prog X.w) ((s.heap.push PySem.W.emptyDict).push (PySem.W.instObj C s.heap.objs.size)) (typeOf (.ref (s.heap.objs.size + 1))) (.ref C) :=
    (PySem.W.Looks.ld (o := PySem.W.instObj C s.heap.objs.size) (by have e : ((s.heap.push PySem.W.emptyDict).push (PySem.W.instObj C s.heap.objs.size)).get? (s.heap.push PySem.W.emptyDict).objs.size = some (PySem.W.instObj C s.heap.objs.size) := Heap.get?_push_size _ rfl; rw [Heap.size_push] at e; exact e)).andThen .now
  have t2 : PySem.W.Looks (model X.prog X.w) ((s.heap.push PySem.W.emptyDict).push (PySem.W.instObj C s.heap.objs.size)) (isInstance (.ref (s.heap.objs.size + 1)) (.type "object")) true :=
    t1.andThen (Y.top.keeps fun b o e => Heap.get?_push_of_some _ (Heap.get?_push_of_some _ e))
  refine PySem.codeAny_call_builtin PySem.W.oi_plain PySem.W.entry_oi (@PySem.W.check_slot (model X.prog X.w) _ _ _ "object.__init__" "object" "__init__" (.ref (s.heap.objs.size + 1)) [] [] _ PySem.W.oi_kind PySem.W.oi_split t2 (PySem.W.oi_args (.ref (s.heap.objs.size + 1))) ?_)
  rw [PySem.W.oi_run]
  exact wpAny_pure (And.intro rfl ⟨V.ref (s.heap.objs.size + 1), _, I2, rfl, hq⟩)
end
mutual
inductive Is (K : PySem.W.Frag) (H : Hp) : V → PyData → Prop
  | non : Is K H .non .none
  | bl (b : Bool) : Is K H (.bl b) (.bool b)
  | int (i : Int) : Is K H (.int i) (.int i)
  | str (x : Str) : Is K H (.str x) (.str x)
  | tup {a : Addr} {xs : List V} {ds : List PyData} : SqT K H a xs → IsAll K H xs ds → Is K H (.ref a) (.tuple ds)
  | lst {a : Addr} {xs : List V} {ds : List PyData} : SqL K H a xs → IsAll K H xs ds → Is K H (.ref a) (.list ds)
inductive IsAll (K : PySem.W.Frag) (H : Hp) : List V → List PyData → Prop
  | nil : IsAll K H [] []
  | cons {v : V} {vs : List V} {d : PyData} {ds : List PyData} : Is K H v d → IsAll K H vs ds → IsAll K H (v :: vs) (d :: ds)
end
theorem Same.tup {K : PySem.W.Frag} {H H' : Hp} {a : Addr} {xs : List V} (e : Same H H') (h : SqT K H a xs) : SqT K H' a xs := by
  rcases h with (h | ⟨o, h⟩) | h
  · exact .inl (.inl (e _ _ h))
  · exact .inl (.inr ⟨o, e _ _ h⟩)
  · exact .inr h
mutual
theorem Is.same {K : PySem.W.Frag} {H H' : Hp} (e : Same H H') : ∀ {v : V} {d : PyData}, Is K H v d → Is K H' v d
  | _, _, .non => .non
  | _, _, .bl b => .bl b
  | _, _, .int i => .int i
  | _, _, .str x => .str x
  | _, _, .tup h r => .tup (e.tup h) (IsAll.same e r)
  | _, _, .lst h r => .lst (e.seq h) (IsAll.same e r)
theorem IsAll.same {K : PySem.W.Frag} {H H' : Hp} (e : Same H H') : ∀ {v : List V} {d : List PyData}, IsAll K H v d → IsAll K H' v d
  | _, _, .nil => .nil
  | _, _, .cons a r => .cons (Is.same e a) (IsAll.same e r)
end
section
variable {X : Cx} {pins : List (Addr × Obj)} {σ : St} {H : Hp} {s : Shared}
mutual
theorem Is.reads (I : Inv X pins σ H s) : ∀ {v : V} {d : PyData} {u : Value}, Is X.K H v d → RelV v u → ∃ as, Reads s.heap u d as
  | _, _, _, .non, r => by cases r; exact ⟨_, .none⟩
  | _, _, _, .bl b, r => by cases r; exact ⟨_, .bool b⟩
  | _, _, _, .int i, r => by obtain ⟨t, rfl⟩ := r; exact ⟨_, .int i t⟩
  | _, _, _, .str x, r => by obtain ⟨t, rfl⟩ := r; exact ⟨_, .str x t⟩
  | _, _, _, .tup h a, r => by
    cases r
    obtain ⟨its, rv, ⟨o, ho, hc, n, hd⟩, _⟩ := I.tuple h
    obtain ⟨as, hr⟩ := IsAll.reads I a rv
    exact ⟨as, .tuple ho hc hd (by simpa using hr)⟩
  | _, _, _, .lst h a, r => by
    cases r
    obtain ⟨its, rv, ⟨o, n, ho, hc, _, hd⟩, _⟩ := I.list h
    obtain ⟨as, hr⟩ := IsAll.reads I a rv
    exact ⟨_, .list ho hc hd (by simpa using hr)⟩
theorem IsAll.reads (I : Inv X pins σ H s) : ∀ {vs : List V} {ds : List PyData} {us : List Value}, IsAll X.K H vs ds → Vals vs us → ∃ as, ReadsAll s.heap us ds as
  | _, _, _, .nil, .nil => ⟨_, .nil⟩
  | _, _, _, .cons a r, .cons q t => by
    obtain ⟨as, h1⟩ := Is.reads I a q
    obtain ⟨bs, h2⟩ := IsAll.reads I r t
    exact ⟨_, .cons h1 h2⟩
end
def rEqD (K : PySem.W.Frag) : R2 := fun x y H Q => ∃ d d', Is K H x d ∧ Is K H y d' ∧ shaped d = true ∧ shaped d' = true ∧ noMix d d' = true ∧ Q (.bl (PySem.Spec.same d d')) H
theorem op_eqD (hu : X.A.units + 64 < cLine) : OpR X (compareOp .Eq) (rEqD X.K) := by
  intro pins s σ H x y v u Q I rx ry h
  obtain ⟨d, d', hx, hy, sx, sy, nm, q⟩ := h
  obtain ⟨as, ra⟩ := hx.reads I rx
  obtain ⟨bs, rb⟩ := hy.reads I ry
  exact eq_dataH_same ra rb sx sy hu nm ⟨.bl _, H, I, rfl, q⟩
end
theorem iteI {i j : Int} {A B : Prop} (h1 : i = j → A) (h2 : ¬ i = j → B) : if decide (V.int i = V.int j) = true then A else B := by
  by_cases h : i = j
  · rw [if_pos (decide_eq_true (congrArg V.int h))]; exact h1 h
  · rw [if_neg (by simpa using h)]; exact h2 h
theorem iteNI {i j : Int} {A B : Prop} (h1 : ¬ i = j → A) (h2 : i = j → B) : if (!decide (V.int i = V.int j)) = true then A else B := by
  by_cases h : i = j
  · rw [if_neg (by simpa using h)]; exact h2 h
  · rw [if_pos (by simpa using h)]; exact h1 h
theorem iteP {p A B : Prop} [Decidable p] (h1 : p → A) (h2 : ¬ p → B) : if decide p = true then A else B := by
  by_cases h : p
  · rw [if_pos (decide_eq_true h)]; exact h1 h
  · rw [if_neg (by simpa using h)]; exact h2 h
theorem same_upd {H : Hp} {p : Addr} {o : HO} (h : H p = none) : Same H (upd H p o) := fun b u e => by
  rw [upd_ne (ne_of_none e h)]; exact e
end L2
namespace L2
open PySem PySem.Spec PyProof.Rows

section
variable {κ : Type} [DecidableEq κ]
def valV (kvs : List (κ × V)) (k : κ) : Option V := (kvs.find? fun kv => decide (kv.1 = k)).map (·.2)
def putK (kvs : List (κ × V)) (k : κ) (v : V) : List (κ × V) :=
  if (kvs.any fun kv => decide (kv.1 = k)) = true then kvs.map (fun kv => if kv.1 = k then (kv.1, v) else kv) else kvs ++ [(k, v)]
def dropK (kvs : List (κ × V)) (k : κ) : List (κ × V) := kvs.filter fun kv => decide (kv.1 ≠ k)

theorem valV_pos {p : κ × V} {r : List (κ × V)} {k : κ} (e : p.1 = k) : valV (p :: r) k = some p.2 := by simp [valV, List.find?_cons, e]
theorem valV_neg {p : κ × V} {r : List (κ × V)} {k : κ} (e : ¬ p.1 = k) : valV (p :: r) k = valV r k := by simp [valV, List.find?_cons, e]
theorem valV_any (k : κ) : ∀ kvs : List (κ × V), (kvs.any fun kv => decide (kv.1 = k)) = (valV kvs k).isSome
  | [] => rfl
  | p :: r => by
    rw [List.any_cons]
    by_cases e : p.1 = k
    · simp only [valV_pos e, decide_eq_true e, Bool.true_or, Option.isSome_some]
    · rw [valV_neg e, decide_eq_false e, Bool.false_or]; exact valV_any k r
theorem length_putK (kvs : List (κ × V)) (k : κ) (v : V) : (putK kvs k v).length ≤ kvs.length + 1 := by
  unfold putK
  split
  · rw [List.length_map]; omega
  · rw [List.length_append, List.length_cons, List.length_nil]; omega

theorem RelO.isSome_eq {o : Option V} {u : Option Value} (r : RelO o u) : o.isSome = u.isSome := by
  cases o with
  | none => cases u with
    | none => rfl
    | some _ => exact (show False from r).elim
  | some _ => cases u with
    | none => exact (show False from r).elim
    | some _ => rfl
theorem RelO.getD {o : Option V} {u : Option Value} {d : V} {d' : Value} (r : RelO o u) (rd : RelV d d') : RelV (o.getD d) (u.getD d') := by
  cases o with
  | none => cases u with
    | none => exact rd
    | some _ => exact (show False from r).elim
  | some _ => cases u with
    | none => exact (show False from r).elim
    | some _ => exact r

theorem KV.val {kvs : List (κ × V)} {vs : List (κ × Value)} (r : KV kvs vs) (k : κ) : RelO (valV kvs k) (valueAt vs k) := by
  unfold KV at r
  induction r with
  | nil => exact True.intro
  | @cons p q ps qs h t ih =>
    obtain ⟨h1, h2⟩ := h
    by_cases e : p.1 = k
    · have e' : q.1 = k := h1.symm.trans e
      have b : valueAt (q :: qs) k = some q.2 := by simp [valueAt, List.find?_cons, e']
      rw [valV_pos e, b]; exact h2
    · have e' : ¬ q.1 = k := fun z => e (h1.trans z)
      have b : valueAt (q :: qs) k = valueAt qs k := by simp [valueAt, List.find?_cons, e']
      rw [valV_neg e, b]; exact ih
theorem KV.any {kvs : List (κ × V)} {vs : List (κ × Value)} (r : KV kvs vs) (k : κ) : (kvs.any fun kv => decide (kv.1 = k)) = vs.any fun kv => decide (kv.1 = k) := by
  unfold KV at r
  induction r with
  | nil => rfl
  | cons h t ih => rw [List.any_cons, List.any_cons, ih, h.1]
theorem KV.repl {kvs : List (κ × V)} {vs : List (κ × Value)} (r : KV kvs vs) (k : κ) {y : V} {u : Value} (ry : RelV y u) :
    KV (kvs.map fun kv => if kv.1 = k then (kv.1, y) else kv) (vs.map fun kv => if kv.1 = k then (kv.1, u) else kv) := by
  unfold KV at r ⊢
  induction r with
  | nil => exact .nil
  | @cons p q ps qs h t ih =>
    rw [List.map_cons, List.map_cons]
    refine .cons ?_ ih
    obtain ⟨h1, h2⟩ := h
    by_cases e : p.1 = k
    · rw [if_pos e, if_pos (h1.symm.trans e)]; exact ⟨h1, ry⟩
    · rw [if_neg e, if_neg (fun z => e (h1.trans z))]; exact ⟨h1, h2⟩
theorem KV.put {kvs : List (κ × V)} {vs : List (κ × Value)} (r : KV kvs vs) (k : κ) {y : V} {u : Value} (ry : RelV y u) : KV (putK kvs k y) (stored vs k u) := by
  unfold putK stored
  rw [r.any k]
  by_cases e : (vs.any fun kv => decide (kv.1 = k)) = true
  · rw [if_pos e, if_pos e]; exact r.repl k ry
  · rw [if_neg e, if_neg e]; exact Paired.snoc r ⟨rfl, ry⟩
theorem KV.drop {kvs : List (κ × V)} {vs : List (κ × Value)} (r : KV kvs vs) (k : κ) : KV (dropK kvs k) (without vs k) := by
  unfold KV at r ⊢
  unfold dropK without
  induction r with
  | nil => exact .nil
  | @cons p q ps qs h t ih =>
    obtain ⟨h1, h2⟩ := h
    rw [List.filter_cons, List.filter_cons]
    by_cases e : p.1 = k
    · have a : ¬ decide (p.1 ≠ k) = true := by simp [e]
      have b : ¬ decide (q.1 ≠ k) = true := by simp [h1.symm.trans e]
      rw [if_neg a, if_neg b]; exact ih
    · have e' : ¬ q.1 = k := fun z => e (h1.trans z)
      have a : decide (p.1 ≠ k) = true := by simp [e]
      have b : decide (q.1 ≠ k) = true := by simp [e']
      rw [if_pos a, if_pos b]; exact .cons ⟨h1, h2⟩ ih
theorem KV.keys {kvs : List (κ × V)} {vs : List (κ × Value)} (r : KV kvs vs) : kvs.map (·.1) = vs.map (·.1) := by
  unfold KV at r
  induction r with
  | nil => rfl
  | cons h t ih => rw [List.map_cons, List.map_cons, ih, h.1]
theorem KV.length {kvs : List (κ × V)} {vs : List (κ × Value)} (r : KV kvs vs) : kvs.length = vs.length := Paired.length r
end


theorem kV_is {P : Program} {w : World} {k : Key} {u : Value} (r : RelV (kV k) u) : (mixKind P w).is k u = true := by
  cases k with
  | inl i => obtain ⟨t, e⟩ := (show ∃ t, u = Value.int i t from r); subst e; exact mixKind_int P w i t
  | inr x => obtain ⟨t, e⟩ := (show ∃ t, u = Value.str x t from r); subst e; exact mixKind_str P w x t
theorem items_are {P : Program} {w : World} : ∀ {ks : List Key} {us : List Value}, Vals (ks.map kV) us → ItemsAre (mixKind P w) ks us
  | [], _, r => by rw [List.map_nil] at r; cases r; exact .nil
  | k :: ks, _, r => by
    rw [List.map_cons] at r
    cases r with
    | cons h t => exact .cons (kV_is h) (items_are t)

abbrev KT (H : Hp) : List (List Key × V) → List (List Key × Addr × Value) → Prop := Paired fun p q => p.1 = q.1 ∧ H q.2.1 = some (.tup (p.1.map kV)) ∧ RelV p.2 q.2.2
theorem KT.val {H : Hp} {kvs : List (List Key × V)} {xs : List (List Key × Addr × Value)} (r : KT H kvs xs) (k : List Key) : RelO (valV kvs k) ((atKey xs k).map (·.2)) := by
  induction r with
  | nil => exact True.intro
  | @cons p q ps qs h t ih =>
    obtain ⟨h1, _, h2⟩ := h
    by_cases e : p.1 = k
    · have e' : q.1 = k := h1.symm.trans e
      have b : atKey (q :: qs) k = some q.2 := by simp [atKey, List.find?_cons, e']
      rw [valV_pos e, b]; exact h2
    · have e' : ¬ q.1 = k := fun z => e (h1.trans z)
      have b : atKey (q :: qs) k = atKey qs k := by simp [atKey, List.find?_cons, e']
      rw [valV_neg e, b]; exact ih
theorem KT.repl {H : Hp} {kvs : List (List Key × V)} {xs : List (List Key × Addr × Value)} (r : KT H kvs xs) (k : List Key) {y : V} {u : Value} (ry : RelV y u) :
    KT H (kvs.map fun kv => if kv.1 = k then (kv.1, y) else kv) (xs.map (putAt k u)) := by
  induction r with
  | nil => exact .nil
  | @cons p q ps qs h t ih =>
    rw [List.map_cons, List.map_cons]
    refine .cons ?_ ih
    obtain ⟨h1, h2, h3⟩ := h
    unfold putAt
    by_cases e : p.1 = k
    · rw [if_pos e, if_pos (h1.symm.trans e)]; exact ⟨h1, h2, ry⟩
    · rw [if_neg e, if_neg (fun z => e (h1.trans z))]; exact ⟨h1, h2, h3⟩
theorem KT.put {H : Hp} {kvs : List (List Key × V)} {xs : List (List Key × Addr × Value)} (r : KT H kvs xs) (k : List Key) {b : Addr} {y : V} {u : Value} (hb : H b = some (.tup (k.map kV))) (ry : RelV y u) :
    KT H (putK kvs k y) (storedH xs k b u) := by
  have e : (kvs.any fun kv => decide (kv.1 = k)) = (atKey xs k).isSome := by
    rw [valV_any, (r.val k).isSome_eq, Option.isSome_map]
  unfold putK storedH
  rw [e]
  by_cases q : (atKey xs k).isSome = true
  · rw [if_pos q, if_pos q]; exact r.repl k ry
  · rw [if_neg q, if_neg q]; exact Paired.snoc r ⟨rfl, hb, ry⟩
theorem KT.keeps {H H' : Hp} {kvs : List (List Key × V)} {xs : List (List Key × Addr × Value)} (r : KT H kvs xs) (ht : ∀ b ys, H b = some (.tup ys) → H' b = some (.tup ys)) : KT H' kvs xs :=
  Paired.mapP r fun _ _ z => ⟨z.1, ht _ _ z.2.1, z.2.2⟩

section
variable {P : Program} {w : World} {H : Hp} {h : Heap} {a : Addr}
theorem rd_of {u : HO} (ok : HOk P w H h) (e : Rd H a u) : ObjOk P w H h a u := e.ok ok
theorem dk_rd {kvs : List (Key × V)} (ok : HOk P w H h) (e : Rd H a (.dK kvs)) : kvs.length ≤ sizeLine ∧ (a == sysModules) = false ∧ ∃ vs, KV kvs vs ∧ h.DictOf (mixKind P w) a vs :=
  show ObjOk P w H h a (.dK kvs) from rd_of ok e
theorem dk_of {kvs : List (Key × V)} (ok : HOk P w H h) (e : H a = some (.dK kvs)) : kvs.length ≤ sizeLine ∧ (a == sysModules) = false ∧ ∃ vs, KV kvs vs ∧ h.DictOf (mixKind P w) a vs := dk_rd ok (.inl e)
theorem key_of {ks : List Key} (ok : HOk P w H h) (e : H a = some (.tup (ks.map kV))) : (tupleKind (mixKind P w)).is h ks a := by
  obtain ⟨_, its, r, o, h1, h2, n, h3⟩ := (show ObjOk P w H h a (.tup (ks.map kV)) from ok a _ e)
  exact ⟨o, its.toArray, n, h1, h2, h3, by simpa using items_are r⟩
theorem dt_rd {kvs : List (List Key × V)} (ok : HOk P w H h) (e : Rd H a (.dT kvs)) : kvs.length ≤ sizeLine ∧ (a == sysModules) = false ∧
    ∃ xs, KT H kvs xs ∧ h.DictOfH (tupleKind (mixKind P w)) a xs := by
  obtain ⟨z, y, xs, r, o, es, ep, h1, h2, h3, h4, h5⟩ := (show ObjOk P w H h a (.dT kvs) from rd_of ok e)
  refine ⟨z, y, xs, r, o, es, ep, h1, h2, h3, h4, fun x hx => ?_, h5⟩
  have all : ∀ {l : List (List Key × V)} {m : List (List Key × Addr × Value)}, KT H l m → ∀ x ∈ m, (tupleKind (mixKind P w)).is h x.1 x.2.1 := by
    intro l m q
    induction q with
    | nil => intro x hx; exact nomatch hx
    | @cons p q ps qs hq t ih =>
      intro x hx
      rcases List.mem_cons.mp hx with e | hx
      · subst e
        exact key_of ok (by rw [← hq.1]; exact hq.2.1)
      · exact ih x hx
  exact all r x hx
end

def DGet (H : Hp) (a : Addr) (y : V) (r : Option V) : Prop :=
  (∃ kvs k, Rd H a (.dK kvs) ∧ y = kV k ∧ r = valV kvs k) ∨ ∃ kvs k b, Rd H a (.dT kvs) ∧ y = .ref b ∧ H b = some (.tup (k.map kV)) ∧ r = valV kvs k
def DPut (H : Hp) (a : Addr) (y v : V) (H' : Hp) : Prop :=
  (∃ kvs k, H a = some (.dK kvs) ∧ y = kV k ∧ kvs.length < sizeLine ∧ H' = upd H a (.dK (putK kvs k v))) ∨
  ∃ kvs k b, H a = some (.dT kvs) ∧ y = .ref b ∧ H b = some (.tup (k.map kV)) ∧ kvs.length < sizeLine ∧ H' = upd H a (.dT (putK kvs k v))
theorem DGet.k {H : Hp} {a : Addr} {kvs : List (Key × V)} {k : Key} (e : H a = some (.dK kvs)) : DGet H a (kV k) (valV kvs k) := .inl ⟨kvs, k, .inl e, rfl, rfl⟩
theorem DGet.t {H : Hp} {a b : Addr} {kvs : List (List Key × V)} {k : List Key} (e : H a = some (.dT kvs)) (eb : H b = some (.tup (k.map kV))) : DGet H a (.ref b) (valV kvs k) := .inr ⟨kvs, k, b, .inl e, rfl, eb, rfl⟩
theorem DPut.k {H : Hp} {a : Addr} {kvs : List (Key × V)} {k : Key} {v : V} (e : H a = some (.dK kvs)) (hl : kvs.length < sizeLine) : DPut H a (kV k) v (upd H a (.dK (putK kvs k v))) := .inl ⟨kvs, k, e, rfl, hl, rfl⟩
theorem DPut.t {H : Hp} {a b : Addr} {kvs : List (List Key × V)} {k : List Key} {v : V} (e : H a = some (.dT kvs)) (eb : H b = some (.tup (k.map kV))) (hl : kvs.length < sizeLine) :
    DPut H a (.ref b) v (upd H a (.dT (putK kvs k v))) := .inr ⟨kvs, k, b, e, rfl, eb, hl, rfl⟩


section
variable {X : Cx} {pins : List (Addr × Obj)} {σ : St} {H : Hp} {s : Shared} {a : Addr} {y v : V} {u r : Value} {o : Option V} {A : Around} {E : Value → Shared → Prop}

theorem Inv.big (I : Inv X pins σ H s) : sysModules < s.heap.objs.size := by
  have h : mainGlobals < s.heap.objs.size := (I.mod.glob.keeps I.bk).lt
  exact Nat.lt_trans (by decide) h

theorem d_getItem {Q : Value → Shared → Prop} (hu : A.units + 1 < cLine) (I : Inv X pins σ H s) (g : DGet H a y (some v)) (ry : RelV y u) (h : ∀ w' s', Inv X pins σ H s' → RelV v w' → Q w' s') :
    wpAny (model X.prog X.w) A (getItem (.ref a) u) Q E s := by
  rcases g with ⟨kvs, k, e, ey, l⟩ | ⟨kvs, k, b, e, ey, eb, l⟩
  · subst ey
    obtain ⟨z, hd, vs, rel, dd⟩ := dk_rd I.hok e
    obtain ⟨w', hw, rw'⟩ := RelO.some_of (v := v) (o := valueAt vs k) (by rw [l]; exact rel.val k)
    exact wpAny_getItem_of (kV_is ry) dd.mapOf hw (h w' _ (I.tok _) rw')
  · subst ey
    cases (show u = Value.ref b from ry)
    obtain ⟨z, hd, xs, rel, dd⟩ := dt_rd I.hok e
    obtain ⟨w', hw, rw'⟩ := RelO.some_of (v := v) (o := (atKey xs k).map (·.2)) (by rw [l]; exact rel.val k)
    obtain ⟨p, hp, hp2⟩ := Option.map_eq_some_iff.mp hw
    refine wpAny_getItem_heap (tupleKind_room_in1 hu) (key_of I.hok eb) dd hp ?_
    rw [hp2]
    exact h w' _ (I.tok _) rw'
theorem d_write {h' : Heap} {t' : Nat} {ob : HO} (I : Inv X pins σ H s) (mu : Mut (H a)) (hs : Heap.SameBut a s.heap h') (he : ∃ q, h'.get? a = some q) (new : ObjOk X.prog X.w (upd H a ob) h' a ob) :
    Inv X pins σ (upd H a ob) { s with heap := h', toks := t' } :=
  I.write (x := a) (e := a) mu (.inl rfl) (fun b q hb z => (hs.2 b hb).trans z) he new
theorem dk_new {P : Program} {w : World} {H' : Hp} {h' : Heap} {kvs : List (Key × V)} {vs : List (Key × Value)} (z : kvs.length ≤ sizeLine) (hd : (a == sysModules) = false) (rel : KV kvs vs) (dd : h'.DictOf (mixKind P w) a vs) :
    ObjOk P w H' h' a (.dK kvs) := ⟨z, hd, vs, rel, dd⟩
end

section
variable {X : Cx} {pins : List (Addr × Obj)} {σ : St} {H : Hp} {s : Shared} {a : Addr} {kvs : List (Key × V)} {k : Key} {u : Value} {A : Around} {E : Value → Shared → Prop}
end


def NoSl (i : Expr) : Prop := ∀ ov iv, subscripted i false ov iv = operate [ov, iv] (getItem ov iv)
theorem subD_of {prog : Program} {w : World} {A : Around} {E : Value → Shared → Prop} {s : Shared} {env : Env} {value slice : Expr} {pos : Pos} {T id : String} {Q : Value → Shared → Prop}
    (hl : typeLookup (.type T) "__getitem__" = pure (some (.builtin id))) (hs : NoSl slice)
    (h : wpAny (model prog w) A (eval value env) (fun o s₁ => wpAny (model prog w) A (eval slice env) (fun i s₂ => s₂.TypeIs o T ∧ wpAny (model prog w) A (getItem o i) Q E s₂) E s₁) E s) :
    wpAny (model prog w) A (eval (.Subscript value slice pos) env) Q E s := by
  refine Subscript_ (wpAny_mono h (fun o s₁ h₁ => wpAny_mono h₁ (fun i s₂ h₂ => ?_) fun _ _ x => x) fun _ _ x => x)
  obtain ⟨hT, h₂⟩ := h₂
  unfold subscriptTail
  refine wpAny_bind ?_
  rw [getitemInPython_of_ne hT.not_modules]
  refine wpAny_bind (wpAny_specialOf hT hl ?_)
  have fin : wpAny (model prog w) A (subscripted slice false o i) (fun r s₃ => wpAny (model prog w) A (letTemporaryGo value o r >>= fun _ => pure r) Q E s₃) E s₂ := by
    rw [hs o i]
    exact wpAny_operating (wpAny_mono h₂ (fun r s₃ h₃ => wpAny_bind (wpAny_letTemporaryGo (wpAny_pure h₃))) fun _ _ x => x)
  first
    | exact wpAny_pure (wpAny_bind fin)
    | exact wpAny_bind (wpAny_pure (wpAny_bind fin))
    | exact wpAny_bind fin

theorem dict_typeIs {X : Cx} {pins : List (Addr × Obj)} {σ : St} {H : Hp} {s : Shared} {a : Addr} {y : V} {o : Option V} (I : Inv X pins σ H s) (g : DGet H a y o) : s.TypeIs (.ref a) "dict" := by
  rcases g with ⟨kvs, k, e, _, _⟩ | ⟨kvs, k, b, e, _, _, _⟩
  · obtain ⟨_, _, vs, _, dd⟩ := dk_rd I.hok e
    exact dd.typeIs
  · obtain ⟨_, _, xs, _, dd⟩ := dt_rd I.hok e
    exact dd.typeIs

def tDGet (td ty : TE) : TE := fun σ H Q => td σ H fun x H1 => ty σ H1 fun y H2 => ∃ a v, x = .ref a ∧ DGet H2 a y (some v) ∧ Q v H2

section
variable {X : Cx} {o i e value : Expr} {pos pos' tpos : Pos} {td ty tv : TE}
theorem pe_dget (hu : X.A.units + 1 < cLine) (ho : PE X o td) (hi : PE X i ty) (hs : NoSl i) : PE X (.Subscript o i pos) (tDGet td ty) := by
  intro pins s σ H Q I h
  refine subD_of PySem.F.slot_dict_getitem.lookup hs (thn (ho pins s σ H _ I h) fun u s1 ⟨x, H1, I1, rx, q1⟩ => thn (hi pins s1 σ H1 _ I1 q1) fun iv s2 ⟨y, H2, I2, ry, a, v, ex, g, q2⟩ => ?_)
  subst ex
  obtain rfl : u = Value.ref a := rx
  exact ⟨dict_typeIs I2 g, d_getItem hu I2 g ry fun w' s3 I3 rw' => ⟨v, H2, I3, rw', q2⟩⟩
end


theorem dk_empty {P : Program} {w : World} {H : Hp} (h : Heap) (hb : sysModules < h.objs.size) : ObjOk P w H (h.push { cls := .type "dict", data := .dict #[] }) h.objs.size (.dK []) :=
  ⟨Nat.zero_le _, beq_eq_false_iff_ne.mpr (Ne.symm (Nat.ne_of_lt hb)), [], .nil, Heap.DictOf.new h⟩
section
variable {X : Cx} {pos : Pos}
end

def tPairs : List (TE × TE) → St → Hp → (List (V × V) → Hp → Prop) → Prop
  | [], _, H, Q => Q [] H
  | (tk, tv) :: r, σ, H, Q => tk σ H fun x H1 => tv σ H1 fun y H2 => tPairs r σ H2 fun ps H3 => Q ((x, y) :: ps) H3
abbrev VV : List (V × V) → List (Value × Value) → Prop := Paired fun p q => RelV p.1 q.1 ∧ RelV p.2 q.2
def PPs (X : Cx) (pos : Pos) (keys : List (Option Expr)) (values : List Expr) (trs : List (TE × TE)) : Prop :=
  ∀ (pins : List (Addr × Obj)) (s : Shared) (σ : St) (H : Hp) (Q : List (V × V) → Hp → Prop), Inv X pins σ H s → tPairs trs σ H Q →
    wpAny (model X.prog X.w) X.A (evalPairs (pairTrees keys values X.env pos)) (fun vs s' => ∃ ps H', Inv X pins σ H' s' ∧ VV ps vs ∧ Q ps H') X.xe s
theorem pps_nil {X : Cx} {pos : Pos} : PPs X pos [] [] [] := fun pins s σ H Q I h => pairTrees_nil_walk ⟨[], H, I, .nil, h⟩
theorem pps_cons {X : Cx} {pos : Pos} {k v : Expr} {ks : List (Option Expr)} {vs : List Expr} {tk tv : TE} {trs : List (TE × TE)} (hk : PE X k tk) (hv : PE X v tv) (hr : PPs X pos ks vs trs) :
    PPs X pos (some k :: ks) (v :: vs) ((tk, tv) :: trs) := fun pins s σ H Q I h =>
  pairTrees_cons_walk (thn (hk pins s σ H _ I h) fun u s1 ⟨x, H1, I1, rx, q1⟩ => thn (hv pins s1 σ H1 _ I1 q1) fun w2 s2 ⟨y, H2, I2, ry, q2⟩ =>
    thn (hr pins s2 σ H2 _ I2 q2) fun ws s3 ⟨ps, H3, I3, rel, q3⟩ => ⟨(x, y) :: ps, H3, I3, .cons ⟨rx, ry⟩ rel, q3⟩)

def mergeK (kvs more : List (Key × V)) : List (Key × V) := more.foldl (fun acc kv => putK acc kv.1 kv.2) kvs
theorem KV.merge : ∀ {more : List (Key × V)} {rs : List (Key × Value)} {kvs : List (Key × V)} {vs : List (Key × Value)}, KV more rs → KV kvs vs → KV (mergeK kvs more) (merged vs rs) := by
  intro more rs kvs vs r
  unfold KV at r
  induction r generalizing kvs vs with
  | nil => intro q; exact q
  | @cons p q ps qs h t ih =>
    intro r0
    have e : KV (putK kvs p.1 p.2) (stored vs q.1 q.2) := by
      have := r0.put p.1 h.2
      rw [← h.1]; exact this
    exact ih e
theorem length_mergeK : ∀ (more kvs : List (Key × V)), (mergeK kvs more).length ≤ kvs.length + more.length
  | [], kvs => by show kvs.length ≤ kvs.length + 0; omega
  | p :: r, kvs => by
    have h1 := length_mergeK r (putK kvs p.1 p.2)
    have h2 := length_putK kvs p.1 p.2
    show (mergeK (putK kvs p.1 p.2) r).length ≤ _
    rw [List.length_cons]; omega
theorem carries_of {P : Program} {w : World} : ∀ {kvs : List (Key × V)} {ws : List (Value × Value)}, VV (kvs.map fun kv => (kV kv.1, kv.2)) ws → ∃ rs, Carries (mixKind P w) ws rs ∧ KV kvs rs
  | [], _, r => by rw [List.map_nil] at r; cases r; exact ⟨[], True.intro, .nil⟩
  | p :: kvs, _, r => by
    rw [List.map_cons] at r
    cases r with
    | @cons a b as bs h t =>
      obtain ⟨rs, c, q⟩ := carries_of (P := P) (w := w) t
      obtain ⟨b1, b2⟩ := b
      exact ⟨(p.1, b2) :: rs, ⟨kV_is h.1, rfl, c⟩, .cons ⟨rfl, h.2⟩ q⟩
def tDisp (trs : List (TE × TE)) : TE := fun σ H Q => ∀ p, H p = none → tPairs trs σ (upd H p (.dK [])) fun ps H2 => H2 p = some (.dK []) ∧ ∃ kvs : List (Key × V), ps = kvs.map (fun kv => (kV kv.1, kv.2)) ∧ kvs.length ≤ 15 ∧ Q (.ref p) (upd H2 p (.dK (mergeK [] kvs)))
theorem pe_disp {X : Cx} {pos : Pos} {keys : List (Option Expr)} {values : List Expr} {trs : List (TE × TE)} (h : PPs X pos keys values trs) (hall : keys.all (·.isSome) = true) (hl : keys.length = values.length) (h0 : keys ≠ [])
    (h15 : keys.length ≤ 15) : PE X (.Dict keys values pos) (tDisp trs) := by
  intro pins s σ H Q I q
  have hn := I.hok.fresh (Nat.le_refl s.heap.objs.size)
  have I1 := I.laid (a := s.heap.objs.size) (o := .dK []) (h' := s.heap.push { cls := .type "dict", data := .dict #[] }) (t' := s.toks) (fun _ _ q => Heap.get?_push_of_some _ q) (Nat.le_refl _) (dk_empty s.heap I.big)
  refine wpAny_Dict_walk (knd := mixKind X.prog X.w) hall hl h0 h15 (thn (h pins _ σ _ _ I1 (q _ hn)) fun ws s2 ⟨ps, H2, I2, rel, e, kvs, ep, lk, q2⟩ => ?_)
  subst ep
  obtain ⟨rs, c, rk⟩ := carries_of (P := X.prog) (w := X.w) rel
  obtain ⟨z, hd, vs0, r0, dd⟩ := dk_of I2.hok e
  cases r0
  refine ⟨rs, c, dd, fun h' dd' hs => ⟨.ref s.heap.objs.size, _, ?_, rfl, q2⟩⟩
  have hz : (mergeK [] kvs).length ≤ sizeLine := by
    have h1 := length_mergeK kvs []
    rw [List.length_nil] at h1
    rw [sizeLine_eq]; omega
  have he : ∃ q, h'.get? s.heap.objs.size = some q := let ⟨q, _, _, hq, _⟩ := dd'; ⟨q, hq⟩
  exact d_write I2 (by rw [e]; exact True.intro) hs he (dk_new hz hd (rk.merge .nil) dd')


structure M1 (X : Cx) (o : Expr) (m : Str) (apos : Pos) (e : Expr) (cpos : Pos) : Prop where
  base : attributeBase o m X.env (eval o X.env) = eval o X.env
  few : ((backTo cpos (starEach [e] X.env)).all (fun x => !x.1) && (backToKw cpos (keywordEach [] X.env)).all (fun x => x.1.isSome)
    && decide (([e] : List Expr).length + ([] : List Keyword).length + (if ([] : List Keyword).isEmpty then 0 else 1) < 30)) = true
  line : (apos.endLine == cpos.line) = true
  trees : backTo cpos (starEach [e] X.env) = [(false, eval e X.env)]
structure M2 (X : Cx) (o : Expr) (m : Str) (apos : Pos) (e f : Expr) (cpos : Pos) : Prop where
  base : attributeBase o m X.env (eval o X.env) = eval o X.env
  few : ((backTo cpos (starEach [e, f] X.env)).all (fun x => !x.1) && (backToKw cpos (keywordEach [] X.env)).all (fun x => x.1.isSome)
    && decide (([e, f] : List Expr).length + ([] : List Keyword).length + (if ([] : List Keyword).isEmpty then 0 else 1) < 30)) = true
  line : (apos.endLine == cpos.line) = true
  trees : backTo cpos (starEach [e, f] X.env) = [(false, eval e X.env), (false, eval f X.env)]


section
variable {X : Cx} {pins : List (Addr × Obj)} {σ : St} {H : Hp} {s : Shared} {a : Addr} {y d : V} {u r : Value} {o : Option V} {A : Around} {E : Value → Shared → Prop}
end

section
variable {X : Cx} {o e f : Expr} {apos cpos : Pos} {td ty tx : TE}
end

section
variable {X : Cx} {pins : List (Addr × Obj)} {σ : St} {H : Hp} {s : Shared} {a : Addr} {kvs : List (Key × V)} {A : Around} {E : Value → Shared → Prop}
end


section
variable {X : Cx} {pins : List (Addr × Obj)} {σ : St} {H : Hp} {s : Shared} {a : Addr} {y : V} {u : Value} {A : Around} {E : Value → Shared → Prop}
end
end L2

namespace Mine
@[irreducible] def dv (a b : Int) : Int := (Int.gcd a b : Int)
theorem dv_nonneg (a b : Int) : 0 ≤ dv a b := by unfold dv; exact Int.natCast_nonneg _
theorem dv_fmod (a b : Int) : dv b (a.fmod b) = dv a b := by
  unfold dv
  have e : a.fmod b = a - a.fdiv b * b := by rw [Int.fmod_def, Int.mul_comm]
  rw [e, Int.gcd_sub_mul_right_right, Int.gcd_comm]
theorem dv_zero (a : Int) : dv a 0 = (a.natAbs : Int) := by
  unfold dv; rw [Int.gcd_zero_right]
theorem dv_abs (a b : Int) : dv (a.natAbs : Int) (b.natAbs : Int) = dv a b := by
  unfold dv Int.gcd; simp
theorem fmod_abs_lt (a b : Int) (h : b ≠ 0) : (a.fmod b).natAbs < b.natAbs := by
  rcases Int.lt_trichotomy b 0 with hb | hb | hb
  · have e : a.fmod b = -((-a).fmod (-b)) := by
      simp [Int.neg_fmod_neg] 
    have h1 := Int.fmod_nonneg_of_pos (-a) (show 0 < -b by omega)
    have h2 := Int.fmod_lt_of_pos (-a) (show 0 < -b by omega)
    omega
  · exact absurd hb h
  · have h1 := Int.fmod_nonneg_of_pos a hb
    have h2 := Int.fmod_lt_of_pos a hb
    omega
theorem d_turn {a b g r : Int} (h : dv g r = dv a b) (hr : 0 < r) : 0 ≤ r ∧ 0 ≤ g.fmod r ∧ dv r (g.fmod r) = dv a b :=
  ⟨by omega, Int.fmod_nonneg_of_pos g hr, by rw [dv_fmod, h]⟩
theorem d_less {g r : Int} (hr : 0 < r) : (g.fmod r).toNat < r.toNat := by
  have h1 := Int.fmod_nonneg_of_pos g hr
  have h2 := Int.fmod_lt_of_pos g hr
  omega
theorem d_out {a b g r : Int} (h : dv g r = dv a b) (g0 : 0 ≤ g) (r0 : 0 ≤ r) (hr : ¬ 0 < r) : g = dv a b := by
  have e : r = 0 := by omega
  rw [← h, e, dv_zero]; omega
theorem l_turn {a b x y : Int} (h : dv x y = dv a b) : dv y (x.fmod y) = dv a b := by rw [dv_fmod, h]
theorem l_out {a b x y : Int} (h : dv x y = dv a b) (hy : y = 0) : (x.natAbs : Int) = dv a b := by
  rw [← h, hy, dv_zero]
theorem dv_left (a b : Int) : ∃ q, a = dv a b * q := by
  obtain ⟨q, hq⟩ := Int.gcd_dvd_left a b
  exact ⟨q, by unfold dv; exact hq⟩
theorem dv_right (a b : Int) : ∃ q, b = dv a b * q := by
  obtain ⟨q, hq⟩ := Int.gcd_dvd_right a b
  exact ⟨q, by unfold dv; exact hq⟩
theorem dv_eq_zero {a b : Int} (h : dv a b = 0) : a = 0 ∧ b = 0 := by
  obtain ⟨q, hq⟩ := dv_left a b
  obtain ⟨r, hr⟩ := dv_right a b
  rw [h] at hq hr
  exact ⟨by omega, by omega⟩
theorem dv_pos {a b : Int} (h : b ≠ 0) : 0 < dv a b := by
  have := dv_nonneg a b
  rcases (by omega : dv a b = 0 ∨ 0 < dv a b) with e | e
  · exact absurd (dv_eq_zero e).2 h
  · exact e
theorem dv_le (a b : Int) (h : b ≠ 0) : dv a b ≤ (b.natAbs : Int) := by
  have : Int.gcd a b ≤ b.natAbs := by
    unfold Int.gcd
    exact Nat.gcd_le_right _ (by omega)
  unfold dv; omega
theorem fdiv_mul {g q : Int} (hg : g ≠ 0) : (g * q).fdiv g = q := Int.mul_fdiv_cancel_left q hg
@[irreducible] def sg (a b : Int) : Int := if b < 0 then -(dv a b) else dv a b
@[irreducible] def tp (a b : Int) : Int := a.fdiv (sg a b)
@[irreducible] def bt (a b : Int) : Int := b.fdiv (sg a b)
theorem sg_pos {a b : Int} (h : ¬ b < 0) : sg a b = dv a b := by unfold sg; rw [if_neg h]
theorem sg_neg {a b : Int} (h : b < 0) : sg a b = -(dv a b) := by unfold sg; rw [if_pos h]
theorem sg_ne {a b : Int} (h : b ≠ 0) : sg a b ≠ 0 := by
  have := dv_pos (a := a) h
  unfold sg; split <;> omega
theorem tp_mul {a b : Int} (h : b ≠ 0) : sg a b * tp a b = a := by
  obtain ⟨q, hq⟩ := dv_left a b
  have hs := sg_ne (a := a) h
  have : ∃ k, a = sg a b * k := by
    unfold sg; split
    · exact ⟨-q, by rw [Int.neg_mul_neg]; exact hq⟩
    · exact ⟨q, hq⟩
  obtain ⟨k, hk⟩ := this
  have e : tp a b = k := by
    unfold tp
    conv => lhs; lhs; rw [hk]
    exact fdiv_mul hs
  rw [e]; exact hk.symm
theorem bt_mul {a b : Int} (h : b ≠ 0) : sg a b * bt a b = b := by
  obtain ⟨q, hq⟩ := dv_right a b
  have hs := sg_ne (a := a) h
  have : ∃ k, b = sg a b * k := by
    unfold sg; split
    · exact ⟨-q, by rw [Int.neg_mul_neg]; exact hq⟩
    · exact ⟨q, hq⟩
  obtain ⟨k, hk⟩ := this
  have e : bt a b = k := by
    unfold bt
    conv => lhs; lhs; rw [hk]
    exact fdiv_mul hs
  rw [e]; exact hk.symm
theorem bt_pos {a b : Int} (h : b ≠ 0) : 0 < bt a b := by
  have e := bt_mul (a := a) h
  have g := dv_pos (a := a) h
  rcases (by omega : 0 < bt a b ∨ bt a b ≤ 0) with p | p
  · exact p
  · exfalso
    by_cases hb : b < 0
    · rw [sg_neg hb, Int.neg_mul] at e
      have := Int.mul_nonpos_of_nonneg_of_nonpos (Int.le_of_lt g) p
      omega
    · rw [sg_pos hb] at e
      have := Int.mul_nonpos_of_nonneg_of_nonpos (Int.le_of_lt g) p
      omega
theorem cross {a b : Int} (h : b ≠ 0) : tp a b * b = a * bt a b := by
  have e1 := tp_mul (a := a) h
  have e2 := bt_mul (a := a) h
  calc tp a b * b = tp a b * (sg a b * bt a b) := by rw [e2]
    _ = (sg a b * tp a b) * bt a b := by rw [Int.mul_comm (sg a b) (tp a b), Int.mul_assoc]
    _ = a * bt a b := by rw [e1]
theorem natAbs_sg (a b : Int) : (sg a b).natAbs = Int.gcd a b := by
  unfold sg dv; split <;> omega
theorem gcd_scale {a b s t u : Int} (e1 : s * t = a) (e2 : s * u = b) : Int.gcd a b = s.natAbs * Int.gcd t u := by
  rw [← e1, ← e2, Int.gcd_mul_left]
theorem low {a b : Int} (h : b ≠ 0) : dv (tp a b) (bt a b) = 1 := by
  have e := gcd_scale (tp_mul (a := a) h) (bt_mul (a := a) h)
  rw [natAbs_sg] at e
  have p := dv_pos (a := a) h
  have q : 0 < Int.gcd a b := by unfold dv at p; omega
  have : Int.gcd a b * Int.gcd (tp a b) (bt a b) = Int.gcd a b * 1 := by rw [← e, Nat.mul_one]
  have := Nat.eq_of_mul_eq_mul_left q this
  unfold dv; rw [this]; rfl
theorem coprime_eq {a b c d : Int} (hb : 0 < b) (hd : 0 < d) (h1 : dv a b = 1) (h2 : dv c d = 1) (e : a * d = c * b) : a = c ∧ b = d := by
  have g1 : Nat.Coprime b.natAbs a.natAbs := by
    have : Int.gcd a b = 1 := by unfold dv at h1; omega
    unfold Int.gcd at this
    exact Nat.Coprime.symm this
  have g2 : Nat.Coprime d.natAbs c.natAbs := by
    have : Int.gcd c d = 1 := by unfold dv at h2; omega
    unfold Int.gcd at this
    exact Nat.Coprime.symm this
  have en : a.natAbs * d.natAbs = c.natAbs * b.natAbs := by rw [← Int.natAbs_mul, ← Int.natAbs_mul, e]
  have d1 : b.natAbs ∣ d.natAbs := g1.dvd_of_dvd_mul_left ⟨c.natAbs, by rw [en, Nat.mul_comm]⟩
  have d2 : d.natAbs ∣ b.natAbs := g2.dvd_of_dvd_mul_left ⟨a.natAbs, by rw [← en, Nat.mul_comm]⟩
  have eb : b.natAbs = d.natAbs := Nat.dvd_antisymm d1 d2
  have ebd : b = d := by omega
  refine ⟨?_, ebd⟩
  rw [ebd] at e
  exact Int.eq_of_mul_eq_mul_right (by omega) e
theorem tp_uniq {a b x y : Int} (h : b ≠ 0) (hy : 0 < y) (hl : dv x y = 1) (e : a * y = x * b) : tp a b = x ∧ bt a b = y := by
  refine coprime_eq (bt_pos h) hy (low h) hl ?_
  have c := cross (a := a) h
  -- tp*y = x*bt : multiply by b
  have : (tp a b * y) * b = (x * bt a b) * b := by
    calc (tp a b * y) * b = (tp a b * b) * y := by rw [Int.mul_assoc, Int.mul_comm y b, ← Int.mul_assoc]
      _ = (a * bt a b) * y := by rw [c]
      _ = (a * y) * bt a b := by rw [Int.mul_assoc, Int.mul_comm (bt a b) y, ← Int.mul_assoc]
      _ = (x * b) * bt a b := by rw [e]
      _ = (x * bt a b) * b := by rw [Int.mul_assoc, Int.mul_comm b, ← Int.mul_assoc]
  exact Int.eq_of_mul_eq_mul_right h this
theorem natAbs_fdiv_le (a s : Int) (k : Int) (e : s * k = a) (hs : s ≠ 0) : k.natAbs ≤ a.natAbs := by
  have : a.natAbs = s.natAbs * k.natAbs := by rw [← e, Int.natAbs_mul]
  rw [this]
  exact Nat.le_mul_of_pos_left _ (by omega)
theorem tp_le {a b : Int} (h : b ≠ 0) : (tp a b).natAbs ≤ a.natAbs := natAbs_fdiv_le a _ _ (tp_mul h) (sg_ne h)
theorem bt_le {a b : Int} (h : b ≠ 0) : (bt a b).natAbs ≤ b.natAbs := natAbs_fdiv_le b _ _ (bt_mul h) (sg_ne h)

theorem same_cross {a b c d : Int} (hb : b ≠ 0) (hd : d ≠ 0) (e : a * d = c * b) : tp a b = tp c d ∧ bt a b = bt c d := by
  refine tp_uniq hb (bt_pos hd) (low hd) ?_
  have h := cross (a := c) hd
  have : (a * bt c d) * d = (tp c d * b) * d := by
    calc (a * bt c d) * d = (a * d) * bt c d := by rw [Int.mul_assoc, Int.mul_comm (bt c d) d, ← Int.mul_assoc]
      _ = (c * b) * bt c d := by rw [e]
      _ = (c * bt c d) * b := by rw [Int.mul_assoc, Int.mul_comm b, ← Int.mul_assoc]
      _ = (tp c d * d) * b := by rw [h]
      _ = (tp c d * b) * d := by rw [Int.mul_assoc, Int.mul_comm d b, ← Int.mul_assoc]
  exact Int.eq_of_mul_eq_mul_right hd this
theorem lo_self {x y : Int} (hy : 0 < y) (hl : dv x y = 1) : tp x y = x ∧ bt x y = y := tp_uniq (by omega) hy hl rfl
theorem ne_mul {a b : Int} (ha : a ≠ 0) (hb : b ≠ 0) : a * b ≠ 0 := Int.mul_ne_zero ha hb
theorem plus_assoc {a b c d e f T B T' B' : Int} (hb : b ≠ 0) (hd : d ≠ 0) (hf : f ≠ 0) (hB : B ≠ 0) (hB' : B' ≠ 0)
    (h1 : T * (b * d) = (a * d + c * b) * B) (h2 : T' * (d * f) = (c * f + e * d) * B') :
    tp (T * f + e * B) (B * f) = tp (a * B' + T' * b) (b * B') ∧ bt (T * f + e * B) (B * f) = bt (a * B' + T' * b) (b * B') := by
  refine same_cross (ne_mul hB hf) (ne_mul hb hB') ?_
  have k : ((T * f + e * B) * (b * B')) * ((b * d) * (d * f)) = ((a * B' + T' * b) * (B * f)) * ((b * d) * (d * f)) := by
    grind
  exact Int.eq_of_mul_eq_mul_right (ne_mul (ne_mul hb hd) (ne_mul hd hf)) k
theorem times_assoc {a b c d e f T B T' B' : Int} (hb : b ≠ 0) (hd : d ≠ 0) (hf : f ≠ 0) (hB : B ≠ 0) (hB' : B' ≠ 0)
    (h1 : T * (b * d) = (a * c) * B) (h2 : T' * (d * f) = (c * e) * B') :
    tp (T * e) (B * f) = tp (a * T') (b * B') ∧ bt (T * e) (B * f) = bt (a * T') (b * B') := by
  refine same_cross (ne_mul hB hf) (ne_mul hb hB') ?_
  have k : ((T * e) * (b * B')) * ((b * d) * (d * f)) = ((a * T') * (B * f)) * ((b * d) * (d * f)) := by
    grind
  exact Int.eq_of_mul_eq_mul_right (ne_mul (ne_mul hb hd) (ne_mul hd hf)) k
theorem distrib {a b c d e f T B P U R V : Int} (hb : b ≠ 0) (hd : d ≠ 0) (hf : f ≠ 0) (hB : B ≠ 0) (hU : U ≠ 0) (hV : V ≠ 0)
    (h1 : T * (d * f) = (c * f + e * d) * B) (h2 : P * (b * d) = (a * c) * U) (h3 : R * (b * f) = (a * e) * V) :
    tp (a * T) (b * B) = tp (P * V + R * U) (U * V) ∧ bt (a * T) (b * B) = bt (P * V + R * U) (U * V) := by
  refine same_cross (ne_mul hb hB) (ne_mul hU hV) ?_
  have k : ((a * T) * (U * V)) * ((d * f) * ((b * d) * (b * f))) = ((P * V + R * U) * (b * B)) * ((d * f) * ((b * d) * (b * f))) := by
    grind
  exact Int.eq_of_mul_eq_mul_right (ne_mul (ne_mul hd hf) (ne_mul (ne_mul hb hd) (ne_mul hb hf))) k
theorem plus_comm {a b c d : Int} : tp (a * d + c * b) (b * d) = tp (c * b + a * d) (d * b) ∧ bt (a * d + c * b) (b * d) = bt (c * b + a * d) (d * b) := by
  rw [Int.add_comm, Int.mul_comm b d]; exact ⟨rfl, rfl⟩
theorem times_comm {a b c d : Int} : tp (a * c) (b * d) = tp (c * a) (d * b) ∧ bt (a * c) (b * d) = bt (c * a) (d * b) := by
  rw [Int.mul_comm a c, Int.mul_comm b d]; exact ⟨rfl, rfl⟩
theorem plus_zero {a b : Int} (hb : 0 < b) (hl : dv a b = 1) : tp (a * 1 + 0 * b) (b * 1) = a ∧ bt (a * 1 + 0 * b) (b * 1) = b := by
  have e1 : a * 1 + 0 * b = a := by omega
  have e2 : b * 1 = b := by omega
  rw [e1, e2]; exact lo_self hb hl
theorem zero_plus {a b : Int} (hb : 0 < b) (hl : dv a b = 1) : tp (0 * b + a * 1) (1 * b) = a ∧ bt (0 * b + a * 1) (1 * b) = b := by
  have e1 : 0 * b + a * 1 = a := by omega
  have e2 : 1 * b = b := by omega
  rw [e1, e2]; exact lo_self hb hl
theorem times_one {a b : Int} (hb : 0 < b) (hl : dv a b = 1) : tp (a * 1) (b * 1) = a ∧ bt (a * 1) (b * 1) = b := by
  rw [Int.mul_one, Int.mul_one]; exact lo_self hb hl
theorem one_times {a b : Int} (hb : 0 < b) (hl : dv a b = 1) : tp (1 * a) (1 * b) = a ∧ bt (1 * a) (1 * b) = b := by
  rw [Int.one_mul, Int.one_mul]; exact lo_self hb hl
theorem dv01 : dv 0 1 = 1 := by unfold dv; decide
theorem dv11 : dv 1 1 = 1 := by unfold dv; decide
theorem times_zero {a b : Int} (hb : 0 < b) : tp (a * 0) (b * 1) = 0 ∧ bt (a * 0) (b * 1) = 1 :=
  tp_uniq (by omega) (by omega) dv01 (by omega)
theorem dv_comm (a b : Int) : dv a b = dv b a := by unfold dv; rw [Int.gcd_comm]

open PySem
theorem abs_start (a b : Int) : dv (if a < 0 then -a else a) (if b < 0 then -b else b) = dv a b := by
  have e : ∀ x : Int, (if x < 0 then -x else x) = (x.natAbs : Int) := fun x => by split <;> omega
  rw [e, e, dv_abs]
theorem start1 (a b : Int) : 0 ≤ (if a < 0 then -a else a) ∧ 0 ≤ (if b < 0 then -b else b) ∧ dv (if a < 0 then -a else a) (if b < 0 then -b else b) = dv a b :=
  ⟨by split <;> omega, by split <;> omega, abs_start a b⟩
theorem out2 {a b x y : Int} (h : dv x y = dv a b) (hy : y = 0) : (if x < 0 then -x else x) = dv a b := by
  rw [← l_out h hy]; split <;> omega

structure S1 (x : Int) : Prop where
  lo : -10000000000000000000000000000000 ≤ x
  hi : x ≤ 10000000000000000000000000000000
structure S2 (x : Int) : Prop where
  lo : -1000000000000000000000000000000000000000000000000000000000000000 ≤ x
  hi : x ≤ 1000000000000000000000000000000000000000000000000000000000000000
structure Po (x : Int) : Prop where
  lo : 0 < x
theorem S1.two {x : Int} (h : S1 x) : S2 x := ⟨by have := h.lo; omega, by have := h.hi; omega⟩
theorem S1.zero : S1 0 := ⟨by decide, by decide⟩
theorem S1.one : S1 1 := ⟨by decide, by decide⟩
theorem Po.one : Po 1 := ⟨by decide⟩
theorem S2.lt {y : Int} (h : S2 y) : y.natAbs < 2 ^ 210 := by
  have : (2 : Nat) ^ 210 > 1000000000000000000000000000000000000000000000000000000000000000 := by decide
  have := h.lo
  have := h.hi
  omega
theorem mul_in {x y : Int} (hx : S1 x) (hy : S1 y) : -100000000000000000000000000000000000000000000000000000000000000 ≤ x * y ∧ x * y ≤ 100000000000000000000000000000000000000000000000000000000000000 := by
  have x0 := hx.lo
  have x1 := hx.hi
  have y0 := hy.lo
  have y1 := hy.hi
  have h : (x * y).natAbs = x.natAbs * y.natAbs := Int.natAbs_mul x y
  have k : x.natAbs * y.natAbs ≤ 10000000000000000000000000000000 * 10000000000000000000000000000000 := Nat.mul_le_mul (by omega) (by omega)
  omega
theorem S2.mul {x y : Int} (hx : S1 x) (hy : S1 y) : S2 (x * y) := ⟨by have := mul_in hx hy; omega, by have := mul_in hx hy; omega⟩
theorem Po.mul {x y : Int} (hx : Po x) (hy : Po y) : Po (x * y) := ⟨Int.mul_pos hx.lo hy.lo⟩
theorem Po.ne {x : Int} (h : Po x) : x ≠ 0 := by have := h.lo; omega
theorem Po.sg {a b : Int} (h : Po b) : dv a b = sg a b := (sg_pos (by have := h.lo; omega)).symm
theorem S1.tp {a b : Int} (h : S1 a) (p : Po b) : S1 (tp a b) := by
  have l := tp_le (a := a) p.ne
  have := h.lo
  have := h.hi
  exact ⟨by omega, by omega⟩
theorem S2.tp {a b : Int} (h : S2 a) (p : Po b) : S2 (tp a b) := by
  have l := tp_le (a := a) p.ne
  have := h.lo
  have := h.hi
  exact ⟨by omega, by omega⟩
theorem S1.bt {a b : Int} (h : S1 b) (p : Po b) : S1 (bt a b) := by
  have l := bt_le (a := a) p.ne
  have := h.lo
  have := h.hi
  exact ⟨by omega, by omega⟩
theorem S2.bt {a b : Int} (h : S2 b) (p : Po b) : S2 (bt a b) := by
  have l := bt_le (a := a) p.ne
  have := h.lo
  have := h.hi
  exact ⟨by omega, by omega⟩
theorem Po.bt {a b : Int} (p : Po b) : Po (bt a b) := ⟨bt_pos p.ne⟩
theorem S2.dv {a b : Int} (h : S2 b) (p : Po b) : S2 (dv a b) := by
  have := dv_le a b p.ne
  have := dv_nonneg a b
  have := h.lo
  have := h.hi
  exact ⟨by omega, by omega⟩
structure Low (a b : Int) : Prop where
  one : dv a b = 1
theorem zl {a b : Int} (p : Po b) (l : Low a b) : tp (0 * b + a * 1) (1 * b) = a ∧ bt (0 * b + a * 1) (1 * b) = b := zero_plus p.lo l.one
theorem ol {a b : Int} (p : Po b) (l : Low a b) : tp (1 * a) (1 * b) = a ∧ bt (1 * a) (1 * b) = b := one_times p.lo l.one
theorem cp {a b c d : Int} (_ : Low (tp (c * b + a * d) (d * b)) (bt (c * b + a * d) (d * b))) : tp (a * d + c * b) (b * d) = tp (c * b + a * d) (d * b) ∧ bt (a * d + c * b) (b * d) = bt (c * b + a * d) (d * b) := plus_comm
theorem ct {a b c d : Int} (_ : Low (tp (c * a) (d * b)) (bt (c * a) (d * b))) : tp (a * c) (b * d) = tp (c * a) (d * b) ∧ bt (a * c) (b * d) = bt (c * a) (d * b) := times_comm
end Mine
namespace Mine
def Pr (p : Nat) : Prop := 2 ≤ p ∧ ∀ d, 2 ≤ d → d * d ≤ p → ¬ p % d = 0
theorem Pr.div {p d : Nat} (h : Pr p) (hd : d ∣ p) : d = 1 ∨ d = p := by
  obtain ⟨k, hk⟩ := hd
  have p2 := h.1
  rcases (by omega : d = 0 ∨ d = 1 ∨ 2 ≤ d) with e | e | e
  · rw [e, Nat.zero_mul] at hk; omega
  · exact .inl e
  · rcases (by omega : k = 0 ∨ k = 1 ∨ 2 ≤ k) with f | f | f
    · rw [f, Nat.mul_zero] at hk; omega
    · rw [f, Nat.mul_one] at hk; exact .inr hk.symm
    · exfalso
      rcases Nat.le_total d k with g | g
      · have : d * d ≤ p := by rw [hk]; exact Nat.mul_le_mul_left d g
        exact h.2 d e this (by rw [hk]; exact Nat.mul_mod_right d k)
      · have : k * k ≤ p := by rw [hk]; exact Nat.mul_le_mul_right k g
        exact h.2 k f this (by rw [hk]; exact Nat.mul_mod_left d k)
theorem Pr.cop {p a : Nat} (h : Pr p) (ha : ¬ p ∣ a) : Nat.Coprime p a := by
  have d1 := Nat.gcd_dvd_left p a
  have d2 := Nat.gcd_dvd_right p a
  rcases h.div d1 with e | e
  · exact e
  · rw [e] at d2; exact absurd d2 ha
theorem Pr.mul {p a b : Nat} (h : Pr p) (hd : p ∣ a * b) : p ∣ a ∨ p ∣ b := by
  by_cases c : p ∣ a
  · exact .inl c
  · exact .inr ((h.cop c).dvd_of_dvd_mul_left hd)
theorem small {p a : Nat} (h0 : 0 < a) (h1 : a < p) : ¬ p ∣ a := fun h => by
  have := Nat.le_of_dvd h0 h
  omega
theorem hole : ∀ (n : Nat) (l : List Nat), l.Nodup → (∀ a ∈ l, a < n) → l.length ≤ n
  | 0, l, _, h => by
    cases l with
    | nil => exact Nat.le_refl 0
    | cons a r => exact absurd (h a (List.mem_cons_self ..)) (by omega)
  | n + 1, l, nd, h => by
    by_cases c : n ∈ l
    · have e := List.length_erase_of_mem c
      have := hole n (l.erase n) (nd.erase n) (fun a ha => by
        have m := (List.Nodup.mem_erase_iff nd).mp ha
        have := h a m.2
        have := m.1
        omega)
      omega
    · have := hole n l nd (fun a ha => by
        have := h a ha
        have : a ≠ n := fun e => c (e ▸ ha)
        omega)
      omega
theorem fe {a p : Int} (hp : 0 < p) : a.fmod p = a % p := Int.fmod_eq_emod_of_nonneg a (Int.le_of_lt hp)
theorem em1 (a b p : Int) : (a % p * b) % p = (a * b) % p := by rw [Int.mul_emod, Int.emod_emod_of_dvd a (Int.dvd_refl p), ← Int.mul_emod]
theorem em2 (a b p : Int) : (a * (b % p)) % p = (a * b) % p := by rw [Int.mul_comm, em1, Int.mul_comm]
theorem r_in {a p : Int} (hp : 0 < p) : 0 ≤ a.fmod p ∧ a.fmod p < p := ⟨Int.fmod_nonneg_of_pos a hp, Int.fmod_lt_of_pos a hp⟩
theorem r_pa {x y z p : Int} (hp : 0 < p) : ((x + y).fmod p + z).fmod p = (x + (y + z).fmod p).fmod p := by
  simp only [fe hp, Int.emod_add_emod, Int.add_emod_emod, Int.add_assoc]
theorem r_ta {x y z p : Int} (hp : 0 < p) : ((x * y).fmod p * z).fmod p = (x * (y * z).fmod p).fmod p := by
  simp only [fe hp, em1, em2, Int.mul_assoc]
theorem r_d {x y z p : Int} (hp : 0 < p) : (x * (y + z).fmod p).fmod p = ((x * y).fmod p + (x * z).fmod p).fmod p := by
  simp only [fe hp, em2, Int.emod_add_emod, Int.add_emod_emod, Int.mul_add]
theorem r_self {x p : Int} (h0 : 0 ≤ x) (h1 : x < p) : x.fmod p = x := by
  rw [fe (by omega)]; exact Int.emod_eq_of_lt h0 h1
def ri (p x : Int) : Int := (x ^ (p.toNat - 2)) % p
def PI (n : Int) : Prop := 2 ≤ n ∧ ∀ d : Int, 2 ≤ d → d * d ≤ n → ¬ n.fmod d = 0
noncomputable def isP (n : Int) : Bool := @decide (PI n) (Classical.propDecidable _)
theorem isP_true {n : Int} (h : isP n = true) : PI n := @of_decide_eq_true _ (Classical.propDecidable _) h
theorem isP_of {n : Int} (h : PI n) : isP n = true := @decide_eq_true _ (Classical.propDecidable _) h
theorem sq_lt {d f n : Int} (hd : 2 ≤ d) (hf : 2 ≤ f) (h : d * d ≤ n) (g : ¬ f * f ≤ n) : d < f := by
  rcases Int.lt_or_le d f with e | e
  · exact e
  · have : f * f ≤ d * d := Int.mul_le_mul e e (by omega) (by omega)
    omega
theorem sq_le {f n : Int} (hf : 2 ≤ f) (h : f * f ≤ n) : f + 1 ≤ n := by
  have : 2 * f ≤ f * f := Int.mul_le_mul_of_nonneg_right hf (by omega)
  omega
theorem p_check (n k : Nat) (h2 : 2 ≤ n) (hk : n < k * k) (h : (List.range k).all (fun d => d < 2 || n % d != 0) = true) : isP (n : Int) = true := by
  refine isP_of ⟨by omega, fun d hd hdd e => ?_⟩
  have hk2 : ¬ (k : Int) * (k : Int) ≤ (n : Int) := by
    have : ((n : Nat) : Int) < ((k * k : Nat) : Int) := by omega
    rw [Int.natCast_mul] at this; omega
  have kk : 2 ≤ (k : Int) := by
    rcases (by omega : k = 0 ∨ k = 1 ∨ 2 ≤ k) with c | c | c
    · subst c; omega
    · subst c; omega
    · omega
  have lt := sq_lt hd kk hdd hk2
  have dn : (d.toNat : Int) = d := Int.toNat_of_nonneg (by omega)
  have := List.all_eq_true.mp h d.toNat (List.mem_range.mpr (by omega))
  rw [← dn, fe (by omega), ← Int.natCast_emod] at e
  have e' : n % d.toNat = 0 := by omega
  simp [e'] at this
  omega
theorem p999983 : isP 999983 = true := p_check 999983 1000 (by decide) (by decide) (by decide +kernel)
theorem p65537 : isP 65537 = true := p_check 65537 257 (by decide) (by decide) (by decide +kernel)
theorem p2 : isP 2 = true := p_check 2 2 (by decide) (by decide) (by decide +kernel)
theorem p3 : isP 3 = true := p_check 3 2 (by decide) (by decide) (by decide +kernel)
theorem p5 : isP 5 = true := p_check 5 3 (by decide) (by decide) (by decide +kernel)
theorem p7 : isP 7 = true := p_check 7 3 (by decide) (by decide) (by decide +kernel)
theorem p11 : isP 11 = true := p_check 11 4 (by decide) (by decide) (by decide +kernel)
theorem p13 : isP 13 = true := p_check 13 4 (by decide) (by decide) (by decide +kernel)
theorem p101 : isP 101 = true := p_check 101 11 (by decide) (by decide) (by decide +kernel)
end Mine
namespace Mine
open PySem PySem.SeqAt
structure SR where
  W : Type
  add : W → W → W
  mul : W → W → W
  zero : W
  one : W
  add_comm : ∀ x y, add x y = add y x
  add_assoc : ∀ x y z, add (add x y) z = add x (add y z)
  mul_comm : ∀ x y, mul x y = mul y x
  mul_assoc : ∀ x y z, mul (mul x y) z = mul x (mul y z)
  distrib : ∀ x y z, mul x (add y z) = add (mul x y) (mul x z)
  add_zero : ∀ x, add x zero = x
  mul_one : ∀ x, mul x one = x
  mul_zero : ∀ x, mul x zero = zero
  zo : zero ≠ one
  sz : Nat → W → Prop
  sz_mono : ∀ m n x, m ≤ n → sz m x → sz n x
  sz_add : ∀ m n x y, sz m x → sz n y → sz (m + n + 1) (add x y)
  sz_mul : ∀ m n x y, sz m x → sz n y → sz (m + n) (mul x y)
  sz_zero : sz 0 zero
  sz_one : sz 0 one
  lv : Nat → Nat → W → Prop
  lv_mono : ∀ k c c' x, c ≤ c' → lv k c x → lv k c' x
  lv_add : ∀ k c c' x y, lv k c x → lv k c' y → lv k (c + c') (add x y)
  lv_mul : ∀ j k x y, lv j 32 x → lv k 32 y → lv (j + k) 1 (mul x y)
  lv_zero : ∀ k, lv k 0 zero
  lv_one : lv 1 1 one
  lv_up : ∀ k c x, lv k c x → lv (k + 1) c x
  lv_sz : ∀ k c x, c ≤ 1024 → lv k c x → sz (100 * k) x
  data : W → PyData
  sh : ∀ x, shaped (data x) = true
  nm : ∀ x y, noMix (data x) (data y) = true
  eq : ∀ x, PySem.Spec.same (data x) (data x) = true
  ne : ∀ x y, x ≠ y → PySem.Spec.same (data x) (data y) = false
structure Fr where
  t : Int
  b : Int
  p : 0 < b
  l : dv t b = 1
theorem Fr.eq_of {x y : Fr} (h1 : x.t = y.t) (h2 : x.b = y.b) : x = y := by
  cases x; cases y; cases h1; cases h2; rfl
theorem Fr.nb (x : Fr) : x.b ≠ 0 := by have := x.p; omega
def Fr.of (a b : Int) (h : 0 < b) : Fr := ⟨tp a b, bt a b, bt_pos (by omega), low (by omega)⟩
theorem Fr.of_cross (a b : Int) (h : 0 < b) : (Fr.of a b h).t * b = a * (Fr.of a b h).b := cross (by omega)
def Fr.add (x y : Fr) : Fr := Fr.of (x.t * y.b + y.t * x.b) (x.b * y.b) (Int.mul_pos x.p y.p)
def Fr.mul (x y : Fr) : Fr := Fr.of (x.t * y.t) (x.b * y.b) (Int.mul_pos x.p y.p)
def Fr.zero : Fr := ⟨0, 1, by decide, dv01⟩
def Fr.one : Fr := ⟨1, 1, by decide, dv11⟩
def Fr.sz (n : Nat) (x : Fr) : Prop := x.t.natAbs ≤ 2 ^ n ∧ x.b.natAbs ≤ 2 ^ n
theorem pw_add (m n : Nat) : (2 : Nat) ^ (m + n) = 2 ^ m * 2 ^ n := Nat.pow_add 2 m n
theorem mul_sz {a b : Int} {m n : Nat} (h1 : a.natAbs ≤ 2 ^ m) (h2 : b.natAbs ≤ 2 ^ n) : (a * b).natAbs ≤ 2 ^ (m + n) := by
  rw [Int.natAbs_mul, pw_add]; exact Nat.mul_le_mul h1 h2
theorem sum_sz {a b c d : Int} {m n : Nat} (h1 : a.natAbs ≤ 2 ^ m) (h2 : b.natAbs ≤ 2 ^ n) (h3 : c.natAbs ≤ 2 ^ n) (h4 : d.natAbs ≤ 2 ^ m) : (a * b + c * d).natAbs ≤ 2 ^ (m + n + 1) := by
  have k1 := mul_sz h1 h2
  have k2 := mul_sz h3 h4
  rw [Nat.add_comm n m] at k2
  have k3 : (a * b + c * d).natAbs ≤ (a * b).natAbs + (c * d).natAbs := Int.natAbs_add_le _ _
  have k4 : (2 : Nat) ^ (m + n + 1) = 2 ^ (m + n) * 2 := Nat.pow_succ ..
  omega
theorem of_sz {a b : Int} {h : 0 < b} {m : Nat} (h1 : a.natAbs ≤ 2 ^ m) (h2 : b.natAbs ≤ 2 ^ m) : (Fr.of a b h).sz m :=
  ⟨Nat.le_trans (tp_le (by omega)) h1, Nat.le_trans (bt_le (by omega)) h2⟩
theorem pw_le {m n : Nat} (h : m ≤ n) : (2 : Nat) ^ m ≤ 2 ^ n := Nat.pow_le_pow_right (by decide) h
def Fr.lv (k c : Nat) (x : Fr) : Prop := ∃ a : Int, x.t * 12 ^ k = a * x.b ∧ 1024 * a.natAbs ≤ c * 2 ^ (100 * k)
theorem Fr.lv_add {k c c' : Nat} {x y : Fr} (h : x.lv k c) (h' : y.lv k c') : (Fr.add x y).lv k (c + c') := by
  obtain ⟨a, e, b⟩ := h
  obtain ⟨a', e', b'⟩ := h'
  refine ⟨a + a', ?_, ?_⟩
  · have hc := Fr.of_cross (x.t * y.b + y.t * x.b) (x.b * y.b) (Int.mul_pos x.p y.p)
    have hn : x.b * y.b ≠ 0 := Int.mul_ne_zero x.nb y.nb
    refine Int.eq_of_mul_eq_mul_right hn ?_
    show (Fr.add x y).t * 12 ^ k * (x.b * y.b) = (a + a') * (Fr.add x y).b * (x.b * y.b)
    have hc : (Fr.add x y).t * (x.b * y.b) = (x.t * y.b + y.t * x.b) * (Fr.add x y).b := hc
    have e1 : (Fr.add x y).t * 12 ^ k * (x.b * y.b) = ((Fr.add x y).t * (x.b * y.b)) * 12 ^ k := by rw [Int.mul_right_comm]
    rw [e1, hc]
    have e2 : (x.t * y.b + y.t * x.b) * (Fr.add x y).b * 12 ^ k = ((x.t * 12 ^ k) * y.b + (y.t * 12 ^ k) * x.b) * (Fr.add x y).b := by
      rw [Int.mul_right_comm, Int.add_mul, Int.mul_right_comm x.t, Int.mul_right_comm y.t]
    rw [e2, e, e']
    have e3 : a * x.b * y.b + a' * y.b * x.b = (a + a') * (x.b * y.b) := by
      rw [Int.add_mul, Int.mul_assoc, Int.mul_assoc a', Int.mul_comm y.b x.b]
    rw [e3, Int.mul_right_comm]
  · have := Int.natAbs_add_le a a'
    rw [Nat.add_mul]
    omega
theorem Fr.lv_mul {j k : Nat} {x y : Fr} (h : x.lv j 32) (h' : y.lv k 32) : (Fr.mul x y).lv (j + k) 1 := by
  obtain ⟨a, e, b⟩ := h
  obtain ⟨a', e', b'⟩ := h'
  refine ⟨a * a', ?_, ?_⟩
  · have hc : (Fr.mul x y).t * (x.b * y.b) = (x.t * y.t) * (Fr.mul x y).b := Fr.of_cross (x.t * y.t) (x.b * y.b) (Int.mul_pos x.p y.p)
    have hn : x.b * y.b ≠ 0 := Int.mul_ne_zero x.nb y.nb
    refine Int.eq_of_mul_eq_mul_right hn ?_
    rw [Int.mul_right_comm, hc, Int.pow_add]
    have e2 : x.t * y.t * (Fr.mul x y).b * (12 ^ j * 12 ^ k) = (x.t * 12 ^ j) * (y.t * 12 ^ k) * (Fr.mul x y).b := by
      rw [Int.mul_right_comm]
      congr 1
      rw [Int.mul_assoc, Int.mul_assoc, Int.mul_left_comm y.t]
    rw [e2, e, e']
    have e3 : a * x.b * (a' * y.b) = a * a' * (x.b * y.b) := by
      rw [Int.mul_assoc, Int.mul_assoc, Int.mul_left_comm x.b]
    rw [e3, Int.mul_right_comm]
  · rw [Int.natAbs_mul, Nat.mul_add, Nat.pow_add]
    have h1 := Nat.mul_le_mul b b'
    have e1 : 1024 * a.natAbs * (1024 * a'.natAbs) = 1024 * (1024 * (a.natAbs * a'.natAbs)) := by
      rw [Nat.mul_assoc, Nat.mul_left_comm a.natAbs]
    have e2 : 32 * 2 ^ (100 * j) * (32 * 2 ^ (100 * k)) = 1024 * (2 ^ (100 * j) * 2 ^ (100 * k)) := by
      rw [Nat.mul_assoc, Nat.mul_left_comm (2 ^ (100 * j)), ← Nat.mul_assoc]
    rw [e1, e2] at h1
    have := Nat.le_of_mul_le_mul_left h1 (by decide)
    omega
theorem Fr.lv_up {k c : Nat} {x : Fr} (h : x.lv k c) : x.lv (k + 1) c := by
  obtain ⟨a, e, b⟩ := h
  refine ⟨a * 12, ?_, ?_⟩
  · rw [Int.pow_succ, ← Int.mul_assoc, e, Int.mul_right_comm]
  · rw [Int.natAbs_mul, show 100 * (k + 1) = 100 * k + 100 from by omega, Nat.pow_add]
    have h1 : (1024 * a.natAbs) * 12 ≤ (c * 2 ^ (100 * k)) * 2 ^ 100 := Nat.mul_le_mul b (by decide)
    have e1 : 1024 * (a.natAbs * (12 : Int).natAbs) = (1024 * a.natAbs) * 12 := by rw [Nat.mul_assoc]; rfl
    rw [e1, ← Nat.mul_assoc]
    exact h1
theorem Fr.lv_sz {k c : Nat} {x : Fr} (hc : c ≤ 1024) (h : x.lv k c) : x.sz (100 * k) := by
  obtain ⟨a, e, b⟩ := h
  have cop : Nat.Coprime x.t.natAbs x.b.natAbs := by
    have l := x.l
    unfold dv at l
    have : Int.gcd x.t x.b = 1 := by omega
    exact this
  have e' : x.t.natAbs * 12 ^ k = a.natAbs * x.b.natAbs := by
    have := congrArg Int.natAbs e
    rw [Int.natAbs_mul, Int.natAbs_mul, Int.natAbs_pow] at this
    exact this
  have hb : a.natAbs ≤ 2 ^ (100 * k) := by
    have h1 : 1024 * a.natAbs ≤ 1024 * 2 ^ (100 * k) := Nat.le_trans b (Nat.mul_le_mul_right _ hc)
    exact Nat.le_of_mul_le_mul_left h1 (by decide)
  have p12 : (12 : Nat) ^ k ≤ 2 ^ (100 * k) := by
    rw [Nat.pow_mul]
    exact Nat.pow_le_pow_left (by decide) k
  constructor
  · have d : x.t.natAbs ∣ a.natAbs := cop.dvd_of_dvd_mul_right ⟨12 ^ k, e'.symm⟩
    by_cases z : a.natAbs = 0
    · have : x.t.natAbs * 12 ^ k = 0 := by rw [e', z, Nat.zero_mul]
      have : x.t.natAbs = 0 := by
        rcases Nat.mul_eq_zero.mp this with h | h
        · exact h
        · exact absurd h (Nat.ne_of_gt (Nat.pow_pos (by decide)))
      omega
    · exact Nat.le_trans (Nat.le_of_dvd (by omega) d) hb
  · have d : x.b.natAbs ∣ 12 ^ k := cop.symm.dvd_of_dvd_mul_left ⟨a.natAbs, by rw [e', Nat.mul_comm]⟩
    exact Nat.le_trans (Nat.le_of_dvd (Nat.pow_pos (by decide)) d) p12
theorem Fr.lv_drawn {t b : Int} (h : 0 < b) (h4 : b ≤ 4) (ht : t.natAbs ≤ 2 ^ 90) : (Fr.of t b h).lv 1 32 := by
  have hc := Fr.of_cross t b h
  obtain ⟨q, e, q12⟩ : ∃ q : Int, b * q = 12 ∧ q.natAbs ≤ 12 := by
    rcases (by omega : b = 1 ∨ b = 2 ∨ b = 3 ∨ b = 4) with rfl | rfl | rfl | rfl
    · exact ⟨12, by decide, by decide⟩
    · exact ⟨6, by decide, by decide⟩
    · exact ⟨4, by decide, by decide⟩
    · exact ⟨3, by decide, by decide⟩
  refine ⟨t * q, ?_, ?_⟩
  · rw [Int.pow_succ, Int.pow_zero, Int.one_mul, ← e, ← Int.mul_assoc, hc, Int.mul_right_comm]
  · rw [Int.natAbs_mul]
    have h1 : t.natAbs * q.natAbs ≤ 2 ^ 90 * 12 := Nat.mul_le_mul ht q12
    have h2 : (2 : Nat) ^ 90 * 12 * 1024 ≤ 32 * 2 ^ (100 * 1) := by decide
    have e2 : (2 : Nat) ^ 90 = 1237940039285380274899124224 := by decide
    have e3 : (2 : Nat) ^ (100 * 1) = 1267650600228229401496703205376 := by decide
    rw [e2] at h1 h2
    rw [e3] at h2 ⊢
    omega
def frSR : SR where
  W := Fr
  add := Fr.add
  mul := Fr.mul
  zero := Fr.zero
  one := Fr.one
  add_comm x y := Fr.eq_of plus_comm.1 plus_comm.2
  add_assoc x y z :=
    have h := plus_assoc (f := z.b) (e := z.t) x.nb y.nb z.nb (Fr.add x y).nb (Fr.add y z).nb (Fr.of_cross _ _ (Int.mul_pos x.p y.p)) (Fr.of_cross _ _ (Int.mul_pos y.p z.p))
    Fr.eq_of h.1 h.2
  mul_comm x y := Fr.eq_of times_comm.1 times_comm.2
  mul_assoc x y z :=
    have h := times_assoc (f := z.b) (e := z.t) x.nb y.nb z.nb (Fr.mul x y).nb (Fr.mul y z).nb (Fr.of_cross _ _ (Int.mul_pos x.p y.p)) (Fr.of_cross _ _ (Int.mul_pos y.p z.p))
    Fr.eq_of h.1 h.2
  distrib x y z :=
    have h := distrib (a := x.t) (f := z.b) (e := z.t) x.nb y.nb z.nb (Fr.add y z).nb (Fr.mul x y).nb (Fr.mul x z).nb (Fr.of_cross _ _ (Int.mul_pos y.p z.p)) (Fr.of_cross _ _ (Int.mul_pos x.p y.p)) (Fr.of_cross _ _ (Int.mul_pos x.p z.p))
    Fr.eq_of h.1 h.2
  add_zero x := Fr.eq_of (plus_zero x.p x.l).1 (plus_zero x.p x.l).2
  mul_one x := Fr.eq_of (times_one x.p x.l).1 (times_one x.p x.l).2
  mul_zero x := Fr.eq_of (times_zero x.p).1 (times_zero x.p).2
  zo h := by have : (0 : Int) = 1 := congrArg Fr.t h; omega
  sz := Fr.sz
  sz_mono m n x h s := ⟨Nat.le_trans s.1 (pw_le h), Nat.le_trans s.2 (pw_le h)⟩
  sz_add m n x y h1 h2 := of_sz (sum_sz h1.1 h2.2 h2.1 h1.2) (Nat.le_trans (mul_sz h1.2 h2.2) (pw_le (Nat.le_succ _)))
  sz_mul m n x y h1 h2 := of_sz (mul_sz h1.1 h2.1) (mul_sz h1.2 h2.2)
  sz_zero := ⟨by decide, by decide⟩
  sz_one := ⟨by decide, by decide⟩
  lv := Fr.lv
  lv_mono k c c' x h := fun ⟨a, e, b⟩ => ⟨a, e, Nat.le_trans b (Nat.mul_le_mul_right _ h)⟩
  lv_add _ _ _ _ _ h h' := Fr.lv_add h h'
  lv_mul _ _ _ _ h h' := Fr.lv_mul h h'
  lv_zero k := ⟨0, by show (0 : Int) * 12 ^ k = 0 * 1; rw [Int.zero_mul, Int.zero_mul], by show 1024 * 0 ≤ _; omega⟩
  lv_one := ⟨12, by decide, by decide⟩
  lv_up _ _ _ h := Fr.lv_up h
  lv_sz _ _ _ hc h := Fr.lv_sz hc h
  data x := .tuple [.int x.t, .int x.b]
  sh x := rfl
  nm x y := by simp [noMix, noMixAll]
  eq x := by simp [PySem.Spec.same, PySem.Spec.sameAll]
  ne x y h := by
    simp [PySem.Spec.same, PySem.Spec.sameAll]
    intro h1 h2
    exact h (Fr.eq_of h1 h2)
structure Re (p : Int) where
  x : Int
  h0 : 0 ≤ x
  h1 : x < p
theorem Re.eq_of {p : Int} {a b : Re p} (h : a.x = b.x) : a = b := by cases a; cases b; cases h; rfl
def Re.of (p : Int) (hp : 0 < p) (x : Int) : Re p := ⟨x.fmod p, (r_in hp).1, (r_in hp).2⟩
def resSR (p : Int) (hp : 2 ≤ p) : SR where
  W := Re p
  add a b := Re.of p (by omega) (a.x + b.x)
  mul a b := Re.of p (by omega) (a.x * b.x)
  zero := ⟨0, by omega, by omega⟩
  one := ⟨1, by omega, by omega⟩
  add_comm a b := Re.eq_of (by show (a.x + b.x).fmod p = (b.x + a.x).fmod p; rw [Int.add_comm])
  add_assoc a b c := Re.eq_of (r_pa (by omega))
  mul_comm a b := Re.eq_of (by show (a.x * b.x).fmod p = (b.x * a.x).fmod p; rw [Int.mul_comm])
  mul_assoc a b c := Re.eq_of (r_ta (by omega))
  distrib a b c := Re.eq_of (r_d (by omega))
  add_zero a := Re.eq_of (by show (a.x + 0).fmod p = a.x; rw [Int.add_zero]; exact r_self a.h0 a.h1)
  mul_one a := Re.eq_of (by show (a.x * 1).fmod p = a.x; rw [Int.mul_one]; exact r_self a.h0 a.h1)
  mul_zero a := Re.eq_of (by show (a.x * 0).fmod p = 0; rw [Int.mul_zero]; exact r_self (by omega) (by omega))
  zo h := by have : (0 : Int) = 1 := congrArg Re.x h; omega
  sz _ _ := True
  sz_mono _ _ _ _ _ := trivial
  sz_add _ _ _ _ _ _ := trivial
  sz_mul _ _ _ _ _ _ := trivial
  sz_zero := trivial
  sz_one := trivial
  lv _ _ _ := True
  lv_mono _ _ _ _ _ _ := trivial
  lv_add _ _ _ _ _ _ _ := trivial
  lv_mul _ _ _ _ _ _ := trivial
  lv_zero _ := trivial
  lv_one := trivial
  lv_up _ _ _ _ := trivial
  lv_sz _ _ _ _ _ := trivial
  data a := .int a.x
  sh _ := rfl
  nm _ _ := by simp [noMix]
  eq _ := by simp [PySem.Spec.same]
  ne a b h := by
    simp [PySem.Spec.same]
    intro e
    exact h (Re.eq_of e)
def cAdd : Option Int → Option Int → Option Int
  | none, y => y
  | x, none => x
  | some a, some b => some (if b < a then b else a)
def cMul : Option Int → Option Int → Option Int
  | some a, some b => some (a + b)
  | _, _ => none
def cData : Option Int → PyData
  | none => .none
  | some i => .int i
def costSR : SR where
  W := Option Int
  add := cAdd
  mul := cMul
  zero := none
  one := some 0
  add_comm x y := by
    cases x <;> cases y <;> simp only [cAdd]
    congr 1; split <;> split <;> omega
  add_assoc x y z := by
    cases x <;> cases y <;> cases z <;> simp only [cAdd]
    congr 1; repeat (split <;> try omega)
  mul_comm x y := by
    cases x <;> cases y <;> simp only [cMul]
    congr 1; omega
  mul_assoc x y z := by
    cases x <;> cases y <;> cases z <;> simp only [cMul]
    congr 1; omega
  distrib x y z := by
    cases x <;> cases y <;> cases z <;> simp only [cMul, cAdd]
    congr 1; repeat (split <;> try omega)
  add_zero x := by cases x <;> rfl
  mul_one x := by
    cases x with
    | none => rfl
    | some a => simp only [cMul]; congr 1; omega
  mul_zero x := by cases x <;> rfl
  zo h := by cases h
  sz _ _ := True
  sz_mono _ _ _ _ _ := trivial
  sz_add _ _ _ _ _ _ := trivial
  sz_mul _ _ _ _ _ _ := trivial
  sz_zero := trivial
  sz_one := trivial
  lv _ _ _ := True
  lv_mono _ _ _ _ _ _ := trivial
  lv_add _ _ _ _ _ _ _ := trivial
  lv_mul _ _ _ _ _ _ := trivial
  lv_zero _ := trivial
  lv_one := trivial
  lv_up _ _ _ _ := trivial
  lv_sz _ _ _ _ _ := trivial
  data := cData
  sh x := by cases x <;> rfl
  nm x y := by cases x <;> cases y <;> simp [cData, noMix]
  eq x := by cases x <;> simp [cData, PySem.Spec.same]
  ne x y h := by cases x <;> cases y <;> simp_all [cData, PySem.Spec.same]
def truthSR : SR where
  W := Bool
  add := fun a b => a || b
  mul := fun a b => a && b
  zero := false
  one := true
  add_comm x y := by cases x <;> cases y <;> rfl
  add_assoc x y z := by cases x <;> cases y <;> cases z <;> rfl
  mul_comm x y := by cases x <;> cases y <;> rfl
  mul_assoc x y z := by cases x <;> cases y <;> cases z <;> rfl
  distrib x y z := by cases x <;> cases y <;> cases z <;> rfl
  add_zero x := by cases x <;> rfl
  mul_one x := by cases x <;> rfl
  mul_zero x := by cases x <;> rfl
  zo h := by cases h
  sz _ _ := True
  sz_mono _ _ _ _ _ := trivial
  sz_add _ _ _ _ _ _ := trivial
  sz_mul _ _ _ _ _ _ := trivial
  sz_zero := trivial
  sz_one := trivial
  lv _ _ _ := True
  lv_mono _ _ _ _ _ _ := trivial
  lv_add _ _ _ _ _ _ _ := trivial
  lv_mul _ _ _ _ _ _ := trivial
  lv_zero _ := trivial
  lv_one := trivial
  lv_up _ _ _ _ := trivial
  lv_sz _ _ _ _ _ := trivial
  data := .bool
  sh _ := rfl
  nm _ _ := by simp [noMix]
  eq _ := by simp [PySem.Spec.same]
  ne a b h := by simp_all [PySem.Spec.same]
end Mine
namespace L2
open PySem PySem.Spec PyProof.Rows
/-- no files beside the program -/
class Plain (P : Program) : Prop where
  tree : P.given.tree = none
section
variable {X : Cx}
theorem Inv.seer {pins : List (Addr × Obj)} {σ : St} {H : Hp} {s : Shared} (I : Inv X pins σ H s) : s.heap.NoSeer := I.ok.mod.seer.keeps I.bk
theorem op_fdivP {k : Nat} (hr : Room k X.A) (hk : 34 ≤ k) (hP : X.prog.given.tree = none) (hst : X.stack = X.env :: X.outer := by rfl) (hgen : X.env.scope.isGenerator = false := by rfl) (hco : X.env.scope.isCoroutine = false := by rfl) :
    OpR X (binaryOp .FloorDiv) (rI (fun _ j => j ≠ 0) fun i j => .int (i.fdiv j)) := by
  intro pins s σ H x y v u Q I rx ry h
  obtain ⟨i, j, rfl, rfl, hc, q⟩ := h
  obtain ⟨t, rfl⟩ := rx
  obtain ⟨t', rfl⟩ := ry
  refine floordiv_int hc ⟨.int _, H, I.tok _, ⟨_, rfl⟩, q⟩ (Or.inr (PylongRoom.of I.nolimit ?_ (SeerAt.of I.seer hP (by rw [I.ok.frames, hst]) hgen hco I.ok.blt I.ok.glob)))
  have := hr.dp
  show X.A.depth + 100 < recursionLimit
  omega
def CMulG (i j : Int) : Prop := Builtin.Int.intBits i + Builtin.Int.intBits j ≤ 2 ^ 27
theorem mulOkG {a b : Int} (hc : CMulG a b) : IntMulOk a b := by
  have hc : Builtin.Int.intBits a + Builtin.Int.intBits b ≤ 2 ^ 27 := hc
  have e : Builtin.Int.intTooBig (Builtin.Int.intBits a + Builtin.Int.intBits b) = false := by
    unfold Builtin.Int.intTooBig bitsLine
    exact decide_eq_false (by omega)
  unfold IntMulOk
  rw [e]
  simp
theorem op_mulG : OpR X (binaryOp .Mult) (rI CMulG fun i j => .int (i * j)) := opI fun _ _ _ _ _ _ _ hc q => mul_int q (mulOkG hc)
end
end L2
namespace L2
open PySem PySem.Spec PyProof.Rows
def cloOf (cells : List (Str × Addr)) : List (Str × NameKind) → List (Str × Addr) → List (Str × Addr)
  | [], cs => cs
  | (n, k) :: r, cs => cloOf cells r (if (k == .free) = true then (n, (cells.lookup n).getD 0) :: cs else cs)
theorem clo_for {env : Env} : ∀ (names : List (Str × NameKind)) (cs : List (Str × Addr)), (∀ n, (n, NameKind.free) ∈ names → ∃ c, env.cells.lookup n = some c) →
    (forIn names cs fun (x : Str × NameKind) (r : List (Str × Addr)) => (match x with | (name, kind) => if (kind == NameKind.free) = true then (do let c ← cellOf env name; pure (ForInStep.yield ((name, c) :: r))) else pure (ForInStep.yield r) : Sem (ForInStep (List (Str × Addr))))) = pure (cloOf env.cells names cs)
  | [], cs, _ => rfl
  | (n, k) :: r, cs, h => by
    rw [List.forIn_cons]
    by_cases hk : k = .free
    · subst hk
      obtain ⟨c, hc⟩ := h n List.mem_cons_self
      have ih := clo_for (env := env) r ((n, c) :: cs) fun m hm => h m (List.mem_cons_of_mem _ hm)
      have e1 : cellOf env n = pure c := by unfold cellOf; rw [hc]
      simp only [beq_self_eq_true, if_true, e1, pure_bind]
      rw [ih]
      conv => rhs; unfold cloOf
      simp only [beq_self_eq_true, if_true, hc, Option.getD_some]
    · have hb : (k == NameKind.free) = false := by simpa using hk
      have ih := clo_for (env := env) r cs fun m hm => h m (List.mem_cons_of_mem _ hm)
      simp only [hb, Bool.false_eq_true, if_false, pure_bind]
      rw [ih]
      conv => rhs; unfold cloOf
      simp only [hb, Bool.false_eq_true, if_false]
theorem clo_closure {env : Env} {scope : Scope} (h : ∀ n, (n, NameKind.free) ∈ scope.names → ∃ c, env.cells.lookup n = some c) : closureFor scope env = pure (cloOf env.cells scope.names []) := by
  have e := clo_for (env := env) scope.names [] h
  unfold closureFor
  simp only [bind_pure]
  exact e
theorem clo_in {cells : List (Str × Addr)} : ∀ {names : List (Str × NameKind)} {cs : List (Str × Addr)}, (∀ n, (n, NameKind.free) ∈ names → ∃ c, cells.lookup n = some c) → ∀ {y c}, (cloOf cells names cs).lookup y = some c → cs.lookup y = some c ∨ cells.lookup y = some c
  | [], cs, _, y, c, e => .inl e
  | (n, k) :: r, cs, h, y, c, e => by
    unfold cloOf at e
    have h' : ∀ m, (m, NameKind.free) ∈ r → ∃ c, cells.lookup m = some c := fun m hm => h m (List.mem_cons_of_mem _ hm)
    rcases clo_in h' e with z | z
    · by_cases hk : k = .free
      · subst hk
        obtain ⟨d, hd⟩ := h n List.mem_cons_self
        simp only [beq_self_eq_true, if_true, hd, Option.getD_some] at z
        rw [List.lookup_cons] at z
        cases hy : (y == n) with
        | true =>
          rw [hy] at z
          have : y = n := beq_iff_eq.mp hy
          subst this
          exact .inr (hd.trans z)
        | false => rw [hy] at z; exact .inl z
      · have hb : (k == NameKind.free) = false := by simpa using hk
        simp only [hb, Bool.false_eq_true, if_false] at z
        exact .inl z
    · exact .inr z
theorem clo_has {cells : List (Str × Addr)} : ∀ {names : List (Str × NameKind)} {cs : List (Str × Addr)} {y : Str}, ((∃ c, cs.lookup y = some c) ∨ (y, NameKind.free) ∈ names) → ∃ c, (cloOf cells names cs).lookup y = some c
  | [], cs, y, h => by
    rcases h with h | h
    · exact h
    · cases h
  | (n, k) :: r, cs, y, h => by
    unfold cloOf
    refine clo_has ?_
    rcases h with ⟨c, h⟩ | h
    · left
      split
      · rw [List.lookup_cons]
        cases hy : (y == n) with
        | true => exact ⟨_, rfl⟩
        | false => exact ⟨c, h⟩
      · exact ⟨c, h⟩
    · rcases List.mem_cons.mp h with e | h
      · cases e
        left
        simp only [beq_self_eq_true, if_true]
        rw [List.lookup_cons, beq_self_eq_true]
        exact ⟨_, rfl⟩
      · exact .inr h
theorem compLoop_any {prog : Program} {w : World} {A : Around} {R : Result → Shared → Prop} {s : Shared} {elt target iter : Expr} {scope : Scope} {pos : Pos} {it acc : Value} {env : Env} (I : Nat → Shared → Prop)
    (turn : ∀ n s, I n s → wpAny (model prog w) A (pyNext it) (fun r s₁ => match r with
      | none => R (.ok .next) s₁
      | some v => wpAny (model prog w) A (letOwnedTupleGo target it v) (fun _ s₁' => wpAny (model prog w) A (assign target env v) (fun _ s₂ => wpAny (model prog w) A (eval elt env) (fun x s₃ =>
          wpAny (model prog w) A (call (.builtin "list.append") [acc, x]) (fun _ s₄ => ∃ m, m < n ∧ I m s₄) (fun _ _ => False) s₃) (fun _ _ => False) s₂) (fun _ _ => False) s₁') (fun _ _ => False) s₁) (fun _ _ => False) s)
    (n : Nat) (h : I n s) :
    codeAny (model prog w) A (.compLoop (.ListComp elt [⟨target, iter, [], 0⟩] scope pos) 0 it acc env) R s := by
  refine codeAny_loop rfl I (fun n s hI => ?_) n h
  show wpAny _ _ ((compTurn (.ListComp elt [⟨target, iter, [], 0⟩] scope pos) 0 it acc env).onRaise (fun x => do noteFrame x env; theTreesLotGoes x)) _ _ s
  refine wpAny_noted ?_
  rw [compTurn_list1]
  refine wpAny_bind (wpAny_standAt (wpAny_bind (wpAny_mono (turn n s hI) (fun r s₁ h₁ => ?_) fun _ _ h' => h'.elim)))
  cases r with
  | none => exact wpAny_pure h₁
  | some v =>
    exact wpAny_bind (wpAny_mono h₁ (fun _ s1' h1' => wpAny_bind (wpAny_mono h1' (fun _ s₂ h₂ => wpAny_bind (wpAny_bind (wpAny_mono h₂ (fun x s₃ h₃ => wpAny_bind (wpAny_mono h₃
      (fun _ s₄ h₄ => wpAny_pure (wpAny_pure ⟨rfl, h₄⟩)) fun _ _ h' => h'.elim)) fun _ _ h' => h'.elim))) fun _ _ h' => h'.elim)) fun _ _ h' => h'.elim)
theorem HOk.track {P : Program} {w : World} {H : Hp} {h : Heap} {a : Addr} {o : HO} (x : HOk P w H h) (n : H a = none) (new : ObjOk P w (upd H a o) h a o) : HOk P w (upd H a o) h := fun b u e => by
  by_cases hb : b = a
  · subst hb; rw [upd_same] at e; cases e; exact new
  · rw [upd_ne hb] at e
    exact (x b u e).stay (fun _ _ _ q => q) (fun c q => by rw [upd_ne (ne_of_none q n)]; exact q) fun c xs q => by rw [upd_ne (ne_of_none q n)]; exact q
theorem Un.track {fs ex : List Addr} {H H' : Hp} {h h' : Heap} {a : Addr} {o : HO} (u : Un fs ex H H' h h') (hp : h.objs.size ≤ a) (n : H' a = none) : Un fs ex H (upd H' a o) h h' where
  keep := u.keep
  slot := u.slot
  free := fun b ob q m hx => by rw [upd_ne (Nat.ne_of_lt (Nat.lt_of_lt_of_le (Heap.lt_size q) hp))]; exact u.free b ob q m hx
  there := u.there
  tups := fun b xs q => by have z := u.tups b xs q; rw [upd_ne (ne_of_none z n)]; exact z
  frzs := fun b ob xs q => by have z := u.frzs b ob xs q; rw [upd_ne (ne_of_none z n)]; exact z
  tbls := fun b ps q => by obtain ⟨m, z⟩ := u.tbls b ps q; exact ⟨m, by rw [upd_ne (ne_of_none z n)]; exact z⟩
def compCx (X : Cx) (scope : Scope) (xs : List Str) (C : Addr) (s : Shared) (H : Hp) (fp : List Addr) (pn : List (Addr × Obj)) : Cx :=
  { X with env := compEnvC scope (cloOf X.env.cells scope.names []) C X.env, N := X.N ++ xs, s₀ := s, H₀ := H, outer := X.stack, ex := fp, fn := fun _ => false, pn := pn, xe := fun _ _ => False }
structure CompOk (N : List Str) (S T : Scope) : Prop where
  kind : T.kind = .function
  cell : ∀ y ∈ T.names, y.2 ≠ .cell
  names : ∀ y ∈ T.names, y.2 = .local → T.names.lookup y.1 = some .local
  uniq : ∀ y ∈ T.names, T.names.lookup y.1 = some y.2
  free : ∀ y ∈ T.names, y.2 = .free → S.names.lookup y.1 = some .cell ∨ S.names.lookup y.1 = some .free
  vis : ∀ y ∈ N, T.names.lookup y ≠ some .local
def rl (env : Env) (z : Str × NameKind) : Str × NameKind := match z with | (n, k) => if (k == NameKind.free && env.scope.kind == .function && env.kindOf n == some .cell) then (n, NameKind.cell) else (n, k)
theorem rl_fst (env : Env) (n : Str) (k : NameKind) : (rl env (n, k)).1 = n := by unfold rl; dsimp only; split <;> rfl
theorem rl_snd (env : Env) (n : Str) (k : NameKind) : (rl env (n, k)).2 = k ∨ (k = .free ∧ (rl env (n, k)).2 = .cell) := by
  unfold rl
  dsimp only
  split
  · rename_i h
    simp only [Bool.and_eq_true] at h
    exact .inr ⟨by simpa using h.1.1, rfl⟩
  · exact .inl rfl
theorem rl_lookup {env : Env} : ∀ {names : List (Str × NameKind)} {y : Str} {k : NameKind}, (names.map (rl env)).lookup y = some k → names.lookup y = some k ∨ (names.lookup y = some .free ∧ k = .cell)
  | [], _, _, h => by cases h
  | (n, j) :: r, y, k, h => by
    have ih := @rl_lookup env r y k
    rw [List.map_cons, show rl env (n, j) = ((rl env (n, j)).1, (rl env (n, j)).2) from rfl, rl_fst, List.lookup_cons] at h
    rw [List.lookup_cons]
    cases hy : (y == n) with
    | true =>
      rw [hy] at h
      have h : (rl env (n, j)).2 = k := Option.some.inj h
      rcases rl_snd env n j with z | ⟨z1, z2⟩
      · exact .inl (by rw [← h, z])
      · exact .inr ⟨by rw [z1], by rw [← h, z2]⟩
    | false =>
      rw [hy] at h
      exact ih h
theorem relabel_free {env : Env} {scope : Scope} {y : Str} (hc : ∀ z ∈ scope.names, z.2 ≠ .cell) (h : (relabel scope env).names.lookup y = some .cell ∨ (relabel scope env).names.lookup y = some .free) : scope.names.lookup y = some .free := by
  have e : (relabel scope env).names = scope.names.map (rl env) := rfl
  rw [e] at h
  rcases h with h | h
  · rcases rl_lookup h with z | ⟨z, _⟩
    · exact absurd rfl (hc _ (PySem.mem_of_lookup z))
    · exact z
  · rcases rl_lookup h with z | ⟨z, _⟩
    · exact z
    · exact z
theorem relabel_local {env : Env} {scope : Scope} {y : Str} (h : (relabel scope env).names.lookup y = some .local) : scope.names.lookup y = some .local := by
  have e : (relabel scope env).names = scope.names.map (rl env) := rfl
  rw [e] at h
  rcases rl_lookup h with z | ⟨_, z⟩
  · exact z
  · cases z
theorem Un.but {fs ex : List Addr} {H H' : Hp} {h h1 h2 : Heap} {C : Addr} (u : Un fs ex H H' h h1) (hb : ∀ b o, b ≠ C → h1.get? b = some o → h2.get? b = some o) (hC : h.objs.size ≤ C) : Un fs ex H H' h h2 := by
  have ne : ∀ b o, h.get? b = some o → b ≠ C := fun b o e => Nat.ne_of_lt (Nat.lt_of_lt_of_le (Heap.lt_size e) hC)
  refine ⟨fun b o e n hf hx => hb b o (ne b o e) (u.keep b o e n hf hx), fun b o e n hf hx => ?_, u.free, fun b o e hx => ?_, u.tups, u.frzs, u.tbls⟩
  · obtain ⟨sl, q⟩ := u.slot b o e n hf hx
    exact ⟨sl, hb b _ (ne b o e) q⟩
  · obtain ⟨o', q⟩ := u.there b o e hx
    exact ⟨o', hb b _ (ne b o e) q⟩
theorem HOk.but {P : Program} {w : World} {H : Hp} {h1 h2 : Heap} {C : Addr} (x : HOk P w H h1) (hb : ∀ b o, b ≠ C → h1.get? b = some o → h2.get? b = some o) (n : H C = none) : HOk P w H h2 := fun b u e =>
  (x b u e).stay (fun c v hc q => hb c v (by
    rcases hc with rfl | hc
    · exact ne_of_none e n
    · exact ne_of_none hc n) q) (fun _ q => q) fun _ _ q => q
section
variable {X : Cx} {pins : List (Addr × Obj)} {σ : St} {H : Hp} {s : Shared} {scope : Scope} {xs : List Str} {fp : List Addr} {C : Addr}
theorem comp_free (I : Inv X pins σ H s) (ok : CompOk X.N X.env.scope scope) : ∀ n, (n, NameKind.free) ∈ scope.names → ∃ c, X.env.cells.lookup n = some c := fun n hn => I.ok.has n (ok.free _ hn rfl)
theorem comp_cell (I : Inv X pins σ H s) (ok : CompOk X.N X.env.scope scope) {y : Str} {c : Addr} (e : (cloOf X.env.cells scope.names []).lookup y = some c) : X.env.cells.lookup y = some c := by
  rcases clo_in (comp_free I ok) e with z | z
  · cases z
  · exact z
theorem comp_ok (I : Inv X pins σ H s) (ok : CompOk X.N X.env.scope scope) (hf : ∀ b ∈ fp, FpOk X pins H b) (hx : ∀ b ∈ fp, b < s.heap.objs.size) (hC : s.heap.objs.size ≤ C) :
    (compCx X scope xs C s H fp (X.pn ++ pins)).Ok where
  mod := I.mod
  kind := ok.kind
  glob := I.ok.glob
  blt := I.ok.blt
  above := hC
  inj := fun x y c h1 h2 => I.ok.inj x y c (comp_cell I ok h1) (comp_cell I ok h2)
  has := fun y hy => clo_has (.inr (PySem.mem_of_lookup (relabel_free ok.cell hy)))
  cab := fun x c h => by cases h
  hd := I.ok.hd
  frames := I.ok.frames
  stk := .inl rfl
  exf := fun b hb => ⟨Nat.ne_of_lt (Nat.lt_of_lt_of_le (hx b hb) hC), fun x c e => (hf b hb).2.2.2.2.1 x c (comp_cell I ok e)⟩
  bs := I.bs
  bsz := Nat.le_trans I.ok.bsz I.sz
  noex := fun b o e hb => by
    rcases (hf b hb).2.2.2.1 with z | z
    · exact I.ok.noex b o e z
    · exact absurd (Nat.lt_of_lt_of_le (Heap.lt_size e) (Nat.le_trans I.ok.bsz z)) (Nat.lt_irrefl _)
  exfs := fun b hb z => by
    rcases List.mem_cons.mp (I.stkSub b z) with q | q
    · exact (hf b hb).2.1 q
    · exact (hf b hb).2.2.1 q
  funs := I.stack
  frf := I.stkFree
theorem comp_start (I : Inv X pins σ H s) (ok : CompOk X.N X.env.scope scope) (hf : ∀ b ∈ fp, FpOk X pins H b) (hx : ∀ b ∈ fp, b < s.heap.objs.size) (hC : s.heap.objs.size ≤ C) {h' : Heap} {t' : Nat} {m : Str → Option Value}
    (hn : h'.Ns C m) (hk : ∀ b o, s.heap.get? b = some o → h'.get? b = some o) :
    Inv (compCx X scope xs C s H fp (X.pn ++ pins)) [] (σ ++ List.replicate xs.length none) H { s with heap := h', toks := t' } where
  ok := comp_ok I ok hf hx hC
  os := rfl
  bare := I.bare
  base := Un.kept hk
  loc := by
    refine ⟨m, hn, fun i x v e1 e2 e3 => ?_⟩
    have e1 : (X.N ++ xs)[i]? = some x := e1
    have hi : i < σ.length := by
      by_cases hi : i < σ.length
      · exact hi
      · rw [List.getElem?_append_right (by omega), List.getElem?_replicate] at e2
        split at e2 <;> cases e2
    rw [List.getElem?_append_left hi] at e2
    rw [List.getElem?_append_left (by rw [← I.len]; exact hi)] at e1
    have hxN : x ∈ X.N := List.mem_of_getElem? e1
    have e4 : (relabel scope X.env).names.lookup x = some .cell ∨ (relabel scope X.env).names.lookup x = some .free := by
      rcases e3 with z | z
      · exact absurd (relabel_local z) (ok.vis x hxN)
      · exact z
    have e5 := relabel_free ok.cell e4
    have e6 := ok.free _ (PySem.mem_of_lookup e5) rfl
    obtain ⟨m0, _, hl⟩ := I.loc
    obtain ⟨u, ru, lu⟩ := hl i x v e1 e2 (.inr e6)
    refine ⟨u, ru, .inr ⟨e4, ?_⟩⟩
    rcases lu with ⟨q, _⟩ | ⟨_, c, hc, o, ho, hd⟩
    · have q : X.env.scope.names.lookup x = some .local := q
      rcases e6 with z | z <;> (rw [q] at z; cases z)
    · obtain ⟨c', hc'⟩ := clo_has (cells := X.env.cells) (cs := []) (.inr (PySem.mem_of_lookup e5))
      have := comp_cell I ok hc'
      rw [hc] at this
      cases this
      exact ⟨c, hc', o, hk _ _ ho, hd⟩
  cell := fun x c e => by
    obtain ⟨v, o, ho, hd⟩ := I.cell x c (comp_cell I ok e)
    exact ⟨v, o, hk _ _ ho, hd⟩
  free := I.hok.fresh hC
  freeC := fun x c e => I.freeC x c (comp_cell I ok e)
  pin := fun p hp => by
    rw [List.append_nil] at hp
    obtain ⟨e, n, ne, nf, d⟩ := I.pin p hp
    refine ⟨hk _ _ e, n, Nat.ne_of_lt (Nat.lt_of_lt_of_le (Heap.lt_size e) hC), fun z => ?_, d⟩
    rcases List.mem_cons.mp (I.stkSub p.1 z) with q | q
    · exact ne q
    · exact nf q
  hok := I.hok.kept hk
  len := by
    show (σ ++ List.replicate xs.length none).length = (X.N ++ xs).length
    rw [List.length_append, List.length_append, List.length_replicate, I.len]
end
abbrev CTail (J : It) (k : Nat) (g : TG) (te : TE) (σ : St) (Q : VK) (H1 : Hp) : Prop := ∃ W : Nat → Nat → List V → Hp → Prop, (∃ m, W 0 m [] H1) ∧ ∀ i m ys H, W i m ys H →
  (J.stop i H ∧ ys.length ≤ sizeLine ∧ ∀ p, H p = none → Q (.ref p) (upd H p (.lst ys))) ∨
  (J.go i H ∧ ys.length < sizeLine ∧ ∀ x H', J.yld i H x H' → g x (σ ++ List.replicate k none) H' fun σ2 H2 => (∃ zs, σ2 = σ ++ zs ∧ zs.length = k) ∧ te σ2 H2 fun v H3 => ∃ m', m' < m ∧ W (i + 1) m' (ys ++ [v]) H3)
def tComp (k : Nat) (wi : TI) (g : TG) (te : TE) : TE := fun σ H Q => wi σ H fun J H1 => CTail J k g te σ Q H1
theorem pe_comp {X : Cx} {elt target iter : Expr} {scope : Scope} {pos : Pos} {wi : TI} {g : TG} {te : TE} {xs : List Str} (hc : X.calm = true) (ok : CompOk X.N X.env.scope scope) (hi : PI X target iter wi)
    (hg : ∀ C s H fp pn, PG (compCx X scope xs C s H fp pn) target g) (he : ∀ C s H fp pn, PE (compCx X scope xs C s H fp pn) elt te)
    (hs : ∀ x, foldedSetIterable iter X.env x = pure x := by intro _; rfl) : PE X (.ListComp elt [⟨target, iter, [], 0⟩] scope pos) (tComp xs.length wi g te) := by
  intro pins s σ H Q I h
  rw [eval_ListComp]
  refine wpAny_comprehension_free (use := none) rfl hs (clo_closure (comp_free I ok)) ok.kind ok.names (thn (hi pins s σ H _ I h) fun v s1 h1 => thn h1 fun itv s2 h2 => ?_)
  obtain ⟨it, fp, tn, J, H2, rfl, I2, T, st2, f2, W, ⟨m0, w0⟩, turn⟩ := h2
  refine wpAny_newObj_type (wpAny_newFunctionEnv ok.cell (by intro y hy; simp at hy) (fun h₁ hns₁ hsb₁ => ?_) ok.kind)
  dsimp only at hns₁ hsb₁ ⊢
  generalize hD : s2.heap.objs.size = D
  generalize hH3 : s2.heap.push { cls := .type "list", dict := none, data := .seq ([] : List Value).toArray } = h3 at hns₁ hsb₁ ⊢
  have k23 : ∀ b o, s2.heap.get? b = some o → h3.get? b = some o := fun b o e => hH3 ▸ Heap.get?_push_of_some _ e
  have hC : h3.objs.size = D + 1 := by rw [← hH3, Heap.size_push, hD]
  have eD3 : h3.get? D = some { cls := .type "list", dict := none, data := .seq ([] : List Value).toArray } := by
    rw [← hH3, ← hD]; exact Heap.get?_push_size _ rfl
  have I3 : Inv X pins σ H2 { s2 with heap := h3 } := I2.kept (t' := s2.toks) k23
  have fD : FpOk X pins H2 D := I2.fpOk (by omega) (I2.hok.fresh (by omega))
  have lt2 : ∀ b ∈ fp, b < D := fun b hb => by
    obtain ⟨o, e, _⟩ := T.obj 0 _ st2 b hb
    rw [← hD]
    exact Heap.lt_size e
  have f3 : ∀ b ∈ D :: fp, FpOk X pins H2 b := fun b hb => by
    rcases List.mem_cons.mp hb with rfl | hb
    · exact fD
    · exact f2 b hb
  have hx3 : ∀ b ∈ D :: fp, b < ({ s2 with heap := h3 } : Shared).heap.objs.size := fun b hb => by
    show b < h3.objs.size
    rcases List.mem_cons.mp hb with rfl | hb
    · rw [hC]; exact Nat.lt_succ_self _
    · rw [hC]; exact Nat.lt_succ_of_lt (lt2 b hb)
  have k31 : ∀ b o, h3.get? b = some o → h₁.get? b = some o := fun b o e => hsb₁.extBut b o (Nat.ne_of_lt (Heap.lt_size e)) (Heap.get?_push_of_some _ e)
  have okX := comp_ok (C := h3.objs.size) (xs := xs) I3 ok f3 hx3 (Nat.le_refl _)
  have I4 := comp_start (C := h3.objs.size) (xs := xs) (t' := s2.toks + ([] : List (Str × Value)).length) I3 ok f3 hx3 (Nat.le_refl _) hns₁ k31
  have mD : D ∈ D :: fp := List.mem_cons_self
  have neC : ∀ b ∈ D :: fp, b ≠ h3.objs.size := fun b hb => (okX.exf b hb).1
  have stat : ∀ {H' : Hp} {pl : List (Addr × Obj)}, (∀ b ∈ fp, H' b = none) → (∀ p ∈ pl, p.1 = D) → ∀ b ∈ fp, FpOk (compCx X scope xs h3.objs.size { s2 with heap := h3 } H2 (D :: fp) (X.pn ++ pins)) pl H' b := fun hn hpl b hb => by
    have hb' : b ∈ D :: fp := List.mem_cons_of_mem _ hb
    refine ⟨hn b hb, neC b hb', okX.exfs b hb', .inl hb', (okX.exf b hb').2, fun p hp => ?_⟩
    rcases List.mem_append.mp hp with hp | hp
    · exact (f2 b hb).2.2.2.2.2 p hp
    · rw [hpl p hp]
      exact Nat.ne_of_gt (lt2 b hb)
  have loop : codeAny (model X.prog X.w) X.A (.compLoop (.ListComp elt [⟨target, iter, [], 0⟩] scope pos) 0 (.ref it) (.ref D) (compEnvC scope (cloOf X.env.cells scope.names []) h3.objs.size X.env))
      (compPost (model X.prog X.w) X.A X.xe none (EP X pins σ Q) (.ref D) h3.objs.size) { s2 with heap := h₁, toks := s2.toks + ([] : List (Str × Value)).length } := by
    refine compLoop_any (fun n s' => ∃ i ys its k H', Inv (compCx X scope xs h3.objs.size { s2 with heap := h3 } H2 (D :: fp) (X.pn ++ pins)) [] (σ ++ List.replicate xs.length none) H' s' ∧
      s'.heap.get? D = some { cls := .type "list", data := .seq (its : List Value).toArray k } ∧ Vals ys its ∧ H' D = none ∧ tn i s'.heap ∧ (∀ b ∈ fp, H' b = none) ∧ W i n ys H') ?_ m0
      ⟨0, [], [], _, H2, I4, k31 _ _ eD3, .nil, fD.1, T.keep _ _ _ st2 (fun b _ o e => k31 b o (k23 b o e)), fun b hb => (f2 b hb).1, w0⟩
    rintro n s' ⟨i, ys, its, k, H', I', eD, rv, nD, st, fr, w⟩
    have Ip := I'.pins_of (pins' := [(D, { cls := .type "list", data := .seq its.toArray k })]) fun p hp => by
      rw [List.mem_singleton] at hp
      subst hp
      exact ⟨eD, nD, neC D mD, okX.exfs D mD, fun v z => by cases z⟩
    have one : ∀ p ∈ [(D, ({ cls := .type "list", data := .seq its.toArray k } : Obj))], p.1 = D := fun p hp => by rw [List.mem_singleton] at hp; rw [hp]
    rcases turn i n ys H' w with ⟨stop, hz, q⟩ | ⟨go, hz, step⟩
    · refine thn (T.done (compCx X scope xs h3.objs.size { s2 with heap := h3 } H2 (D :: fp) (X.pn ++ pins)) rfl rfl rfl hc i _ s' _ H' (fun _ _ => False) Ip (stat fr one) st stop) fun r s4 ⟨hr, J4⟩ => ?_
      subst hr
      obtain ⟨mm, hnm, _⟩ := J4.loc
      refine ⟨mm, hnm, fun h' sb => ?_⟩
      obtain ⟨eD4, nD4, _⟩ := J4.pin (D, { cls := .type "list", data := .seq its.toArray k }) (List.mem_append_right _ List.mem_cons_self)
      have hb : ∀ b o, b ≠ h3.objs.size → s4.heap.get? b = some o → h'.get? b = some o := fun b o hn e => sb.extBut b o hn e
      have u0 : Un (frs X.stack) (D :: fp) H2 H' h3 s4.heap := J4.base
      have u : Un (frs X.stack) (D :: fp) H2 H' s2.heap h' := ((Un.kept k23).trans u0).but hb (by omega)
      have os4 : s4.os = s2.os := J4.os
      refine ⟨.ref D, upd H' D (.lst ys), I2.call' (s' := { s4 with heap := h' }) (ch := D :: fp) os4 (u.track (by omega) nD4) ((J4.hok.but hb J4.free).track nD4 ⟨hz, its, k, rv, hb D _ (neC D mD) eD4⟩) J4.bare (fun b hb => ?_), rfl, q D nD4⟩
      have z := f3 b hb
      exact ⟨z.2.2.2.1, z.2.1, z.2.2.2.2.1, z.2.2.2.2.2⟩
    · refine thn (T.item (compCx X scope xs h3.objs.size { s2 with heap := h3 } H2 (D :: fp) (X.pn ++ pins)) rfl rfl rfl hc i _ s' _ H' (fun _ _ => False) Ip (stat fr one) st go) fun r s4 ⟨u, hr, h4⟩ => ?_
      subst hr
      refine thn h4 fun _ s5 ⟨x, H5, I5, r5, y5, st5, fr5⟩ => ?_
      have I5' := I5.pinned (stat fr5 one) (T.obj _ _ st5)
      refine thn (hg _ _ _ _ _ _ s5 _ H5 x u _ I5' r5 (step x H5 y5)) fun _ s6 ⟨σ6, H6, I6, ⟨zs, hz6, hl6⟩, q6⟩ => ?_
      refine thn (he _ _ _ _ _ _ s6 σ6 H6 _ I6 q6) fun xv s7 ⟨v, H7, I7, r7, m', hm', w7⟩ => ?_
      obtain ⟨eD7, nD7, _⟩ := I7.pin (D, { cls := .type "list", data := .seq its.toArray k }) (List.mem_append_right _ (List.mem_append_left _ List.mem_cons_self))
      have len := rv.length
      refine call_meets F.slot_list_append ⟨_, eD7, rfl⟩ F.entry_list_append (F.args_list_append_2 _ _) (PySem.list_append D its.toArray k xv (by rw [List.size_toArray]; omega)) ⟨eD7, ?_⟩
      have q := PySem.IsL.update eD7 (fun a => a.push xv)
      have other : ∀ b o, b ≠ D → s7.heap.get? b = some o → (s7.heap.update D (Obj.mapSeq fun a => a.push xv)).get? b = some o := fun b o hb e => (Heap.get?_update_other s7.heap _ (Ne.symm hb)).trans e
      have pinF : ∀ b ∈ fp, ∀ o, s5.heap.get? b = some o → s7.heap.get? b = some o ∧ H7 b = none := fun b hb o e =>
        ⟨(I7.pin (b, o) (List.mem_append_right _ (List.mem_append_right _ (mem_pinsAt hb e)))).1, (I7.pin (b, o) (List.mem_append_right _ (List.mem_append_right _ (mem_pinsAt hb e)))).2.1⟩
      have I7' := I7.pins_of (pins' := []) fun p hp => by cases hp
      have I8 := I7'.turned (t' := s7.toks) (it := D) other nD7 (neC D mD) (.inl mD) (okX.exf D mD).2 (fun p hp => by
        rw [List.append_nil] at hp
        exact fD.2.2.2.2.2 p hp)
      have I9 := I8.weak (σ' := σ ++ List.replicate xs.length none) (by rw [hz6, List.length_append, List.length_append, List.length_replicate, hl6]) (fun j v' e => by
        have hj : j < σ.length := by
          by_cases hj : j < σ.length
          · exact hj
          · rw [List.getElem?_append_right (by omega), List.getElem?_replicate] at e
            split at e <;> cases e
        rw [List.getElem?_append_left hj] at e
        rw [hz6, List.getElem?_append_left hj]
        exact e)
      have e9 : its.toArray.push xv = (its ++ [xv]).toArray := by simp
      rw [e9] at q
      refine ⟨m', hm', i + 1, ys ++ [v], its ++ [xv], _, H7, I9, q, rv.append (.cons r7 .nil), nD7, T.keep _ _ _ st5 (fun b hb o e => other b o (Nat.ne_of_lt (lt2 b hb)) (pinF b hb o e).1), fun b hb => ?_, w7⟩
      obtain ⟨o, e, _⟩ := T.obj _ _ st5 b hb
      exact (pinF b hb o e).2
  exact codeAny_compStart_list loop (T.self _ 0 _ _ _ (T.keep _ _ _ st2 fun b _ o e => k31 b o (k23 b o e)) loop)
end L2
namespace L2
open PySem PySem.Spec PyProof.Rows
abbrev Cx.rn (X : Cx) (i : Nat) (y : Str) : Cx := { X with N := X.N.set i y }
section
variable {X : Cx} {pins : List (Addr × Obj)} {σ : St} {H : Hp} {s : Shared} {i : Nat} {y : Str}
theorem Inv.rn (I : Inv X pins σ H s) (h : σ[i]? = some none) : Inv (X.rn i y) pins σ H s :=
  ⟨⟨I.ok.mod, I.ok.kind, I.ok.glob, I.ok.blt, I.ok.above, I.ok.inj, I.ok.has, I.ok.cab, I.ok.hd, I.ok.frames, I.ok.stk, I.ok.exf, I.ok.bs, I.ok.bsz, I.ok.noex, I.ok.exfs, I.ok.funs, I.ok.frf⟩, I.os, I.bare, I.base,
    let ⟨m, hn, hl⟩ := I.loc; ⟨m, hn, fun j x v e1 e2 e3 => by
      by_cases z : i = j
      · subst z; rw [h] at e2; cases e2
      · exact hl j x v (by rw [← e1]; exact (List.getElem?_set_ne z).symm) e2 e3⟩, I.cell, I.free, I.freeC, I.pin, I.hok, by rw [I.len]; exact List.length_set.symm⟩
theorem Inv.unrn (ok : X.Ok) (I : Inv (X.rn i y) pins σ H s) (h : σ[i]? = some none) : Inv X pins σ H s :=
  ⟨ok, I.os, I.bare, I.base, let ⟨m, hn, hl⟩ := I.loc; ⟨m, hn, fun j x v e1 e2 e3 => by
      by_cases z : i = j
      · subst z; rw [h] at e2; cases e2
      · exact hl j x v (by rw [← e1]; exact List.getElem?_set_ne z) e2 e3⟩, I.cell, I.free, I.freeC, I.pin, I.hok, by rw [I.len]; exact List.length_set⟩
end
end L2
namespace L2
open PySem PySem.Spec PyProof.Rows
theorem compLoop_if {prog : Program} {w : World} {A : Around} {R : Result → Shared → Prop} {s : Shared} {elt target iter c : Expr} {scope : Scope} {pos : Pos} {it acc : Value} {env : Env} (I : Nat → Shared → Prop)
    (turn : ∀ n s, I n s → wpAny (model prog w) A (pyNext it) (fun r s₁ => match r with
      | none => R (.ok .next) s₁
      | some v => wpAny (model prog w) A (letOwnedTupleGo target it v) (fun _ s₁' => wpAny (model prog w) A (assign target env v) (fun _ s₂ => wpAny (model prog w) A (isTrue c env (eval c env)) (fun ok s₂' =>
          if ok = true then wpAny (model prog w) A (eval elt env) (fun x s₃ => wpAny (model prog w) A (call (.builtin "list.append") [acc, x]) (fun _ s₄ => ∃ m, m < n ∧ I m s₄) (fun _ _ => False) s₃) (fun _ _ => False) s₂'
          else ∃ m, m < n ∧ I m s₂') (fun _ _ => False) s₂) (fun _ _ => False) s₁') (fun _ _ => False) s₁) (fun _ _ => False) s)
    (n : Nat) (h : I n s) :
    codeAny (model prog w) A (.compLoop (.ListComp elt [⟨target, iter, [c], 0⟩] scope pos) 0 it acc env) R s := by
  refine codeAny_loop rfl I (fun n s hI => ?_) n h
  show wpAny _ _ ((compTurn (.ListComp elt [⟨target, iter, [c], 0⟩] scope pos) 0 it acc env).onRaise (fun x => do noteFrame x env; theTreesLotGoes x)) _ _ s
  refine wpAny_noted ?_; rw [compTurn_list]
  refine wpAny_bind (wpAny_standAt (wpAny_bind (wpAny_mono (turn n s hI) (fun r s₁ h₁ => ?_) fun _ _ h' => h'.elim)))
  cases r with
  | none => exact wpAny_pure h₁
  | some v =>
    refine wpAny_bind (wpAny_mono h₁ (fun _ s1' h1' => wpAny_bind (wpAny_mono h1' (fun _ s₂ h₂ => wpAny_bind (wpAny_tests_one (wpAny_mono h₂ (fun ok s₃ h₃ => ?_) fun _ _ h' => h'.elim))) fun _ _ h' => h'.elim)) fun _ _ h' => h'.elim)
    cases ok with
    | false => exact wpAny_pure ⟨rfl, h₃⟩
    | true =>
      exact wpAny_bind (wpAny_bind (wpAny_mono h₃ (fun x s₄ h₄ => wpAny_bind (wpAny_mono h₄ (fun _ s₅ h₅ => wpAny_pure (wpAny_pure ⟨rfl, h₅⟩)) fun _ _ h' => h'.elim)) fun _ _ h' => h'.elim))
abbrev CTailI (J : It) (k : Nat) (g : TG) (tc : TT) (te : TE) (σ : St) (Q : VK) (H1 : Hp) : Prop := ∃ W : Nat → Nat → List V → Hp → Prop, (∃ m, W 0 m [] H1) ∧ ∀ i m ys H, W i m ys H →
  (J.stop i H ∧ ys.length ≤ sizeLine ∧ ∀ p, H p = none → Q (.ref p) (upd H p (.lst ys))) ∨
  (J.go i H ∧ ys.length < sizeLine ∧ ∀ x H', J.yld i H x H' → g x (σ ++ List.replicate k none) H' fun σ2 H2 => (∃ zs, σ2 = σ ++ zs ∧ zs.length = k) ∧ tc σ2 H2 fun b H3 => if b = true then te σ2 H3 fun v H4 => ∃ m', m' < m ∧ W (i + 1) m' (ys ++ [v]) H4 else ∃ m', m' < m ∧ W (i + 1) m' ys H3)
def tCompIf (k : Nat) (wi : TI) (g : TG) (tc : TT) (te : TE) : TE := fun σ H Q => wi σ H fun J H1 => CTailI J k g tc te σ Q H1
end L2
namespace L2
open PySem PySem.Spec PyProof.Rows
theorem ps_setCI {X : Cx} {i₀ : Nat} {x₀ : Str} {pos₀ pos₁ : Pos} {elt target iter c : Expr} {scope : Scope} {pos : Pos} {wi : TI} {g : TG} {tc : TT} {te : TE} {xs : List Str} (hN : X.N.Nodup) (hi₀ : X.N[i₀]? = some x₀) (hx₀ : Loc X.env.scope x₀) (hc : X.calm = true) (ok : CompOk X.N X.env.scope scope) (hi : PI X target iter wi)
    (hg : ∀ C s H fp pn, PG (compCx X scope xs C s H fp pn) target g) (ht : ∀ C s H fp pn, PT (compCx X scope xs C s H fp pn) c tc) (he : ∀ C s H fp pn, PE (compCx X scope xs C s H fp pn) elt te)
    (hs : ∀ x, foldedSetIterable iter X.env x = pure x := by intro _; rfl) (hw : swapsWith (.ListComp elt [⟨target, iter, [c], 0⟩] scope pos) (some (.Name x₀ pos₀)) pos₁.line X.env = pure true := by rfl)
    (hf₀ : X.fn x₀ = true ∨ X.env.scope.names.lookup x₀ = some .local := by first | exact .inl rfl | exact .inr rfl | assumption) :
    PS X (.Assign [.Name x₀ pos₀] (.ListComp elt [⟨target, iter, [c], 0⟩] scope pos) pos₁) (tAsg (tCompIf xs.length wi g tc te) (gName i₀)) := by
  intro pins s σ H D₀ I h
  rw [exec_Assign_Name_used _ _ _ _ hw]
  refine wpAny_bind (wpAny_standAt (wpAny_bind ?_))
  show wpAny _ _ (comprehension _ _ _ _ _ _ _ _ >>= _) _ _ _
  refine wpAny_bind (wpAny_comprehension_free (Q := fun _ s' => wpAny (model X.prog X.w) X.A (pure ()) (fun _ s'' => wpAny (model X.prog X.w) X.A (pure Flow.next) (SP X pins D₀) X.xe s'') X.xe s') (use := some (assign (.Name x₀ pos₀) X.env)) rfl hs (clo_closure (comp_free I ok)) ok.kind ok.names (thn (hi pins s σ H _ I h) fun v s1 h1 => thn h1 fun itv s2 h2 => ?_))
  obtain ⟨it, fp, tn, J, H2, rfl, I2, T, st2, f2, W, ⟨m0, w0⟩, turn⟩ := h2
  refine wpAny_newObj_type (wpAny_newFunctionEnv ok.cell (by intro y hy; simp at hy) (fun h₁ hns₁ hsb₁ => ?_) ok.kind)
  dsimp only at hns₁ hsb₁ ⊢
  generalize hD : s2.heap.objs.size = D
  generalize hH3 : s2.heap.push { cls := .type "list", dict := none, data := .seq ([] : List Value).toArray } = h3 at hns₁ hsb₁ ⊢
  have k23 : ∀ b o, s2.heap.get? b = some o → h3.get? b = some o := fun b o e => hH3 ▸ Heap.get?_push_of_some _ e
  have hC : h3.objs.size = D + 1 := by rw [← hH3, Heap.size_push, hD]
  have eD3 : h3.get? D = some { cls := .type "list", dict := none, data := .seq ([] : List Value).toArray } := by
    rw [← hH3, ← hD]; exact Heap.get?_push_size _ rfl
  have I3 : Inv X pins σ H2 { s2 with heap := h3 } := I2.kept (t' := s2.toks) k23
  have fD : FpOk X pins H2 D := I2.fpOk (by omega) (I2.hok.fresh (by omega))
  have lt2 : ∀ b ∈ fp, b < D := fun b hb => by
    obtain ⟨o, e, _⟩ := T.obj 0 _ st2 b hb
    rw [← hD]
    exact Heap.lt_size e
  have f3 : ∀ b ∈ D :: fp, FpOk X pins H2 b := fun b hb => by
    rcases List.mem_cons.mp hb with rfl | hb
    · exact fD
    · exact f2 b hb
  have hx3 : ∀ b ∈ D :: fp, b < ({ s2 with heap := h3 } : Shared).heap.objs.size := fun b hb => by
    show b < h3.objs.size
    rcases List.mem_cons.mp hb with rfl | hb
    · rw [hC]; exact Nat.lt_succ_self _
    · rw [hC]; exact Nat.lt_succ_of_lt (lt2 b hb)
  have k31 : ∀ b o, h3.get? b = some o → h₁.get? b = some o := fun b o e => hsb₁.extBut b o (Nat.ne_of_lt (Heap.lt_size e)) (Heap.get?_push_of_some _ e)
  have okX := comp_ok (C := h3.objs.size) (xs := xs) I3 ok f3 hx3 (Nat.le_refl _)
  have I4 := comp_start (C := h3.objs.size) (xs := xs) (t' := s2.toks + ([] : List (Str × Value)).length) I3 ok f3 hx3 (Nat.le_refl _) hns₁ k31
  have mD : D ∈ D :: fp := List.mem_cons_self
  have neC : ∀ b ∈ D :: fp, b ≠ h3.objs.size := fun b hb => (okX.exf b hb).1
  have stat : ∀ {H' : Hp} {pl : List (Addr × Obj)}, (∀ b ∈ fp, H' b = none) → (∀ p ∈ pl, p.1 = D) → ∀ b ∈ fp, FpOk (compCx X scope xs h3.objs.size { s2 with heap := h3 } H2 (D :: fp) (X.pn ++ pins)) pl H' b := fun hn hpl b hb => by
    have hb' : b ∈ D :: fp := List.mem_cons_of_mem _ hb
    refine ⟨hn b hb, neC b hb', okX.exfs b hb', .inl hb', (okX.exf b hb').2, fun p hp => ?_⟩
    rcases List.mem_append.mp hp with hp | hp
    · exact (f2 b hb).2.2.2.2.2 p hp
    · rw [hpl p hp]
      exact Nat.ne_of_gt (lt2 b hb)
  have loop : codeAny (model X.prog X.w) X.A (.compLoop (.ListComp elt [⟨target, iter, [c], 0⟩] scope pos) 0 (.ref it) (.ref D) (compEnvC scope (cloOf X.env.cells scope.names []) h3.objs.size X.env))
      (compPost (model X.prog X.w) X.A X.xe (some (assign (.Name x₀ pos₀) X.env)) (fun _ s' => wpAny (model X.prog X.w) X.A (pure ()) (fun _ s'' => wpAny (model X.prog X.w) X.A (pure Flow.next) (SP X pins D₀) X.xe s'') X.xe s') (.ref D) h3.objs.size) { s2 with heap := h₁, toks := s2.toks + ([] : List (Str × Value)).length } := by
    refine compLoop_if (fun n s' => ∃ i ys its k H', Inv (compCx X scope xs h3.objs.size { s2 with heap := h3 } H2 (D :: fp) (X.pn ++ pins)) [] (σ ++ List.replicate xs.length none) H' s' ∧
      s'.heap.get? D = some { cls := .type "list", data := .seq (its : List Value).toArray k } ∧ Vals ys its ∧ H' D = none ∧ tn i s'.heap ∧ (∀ b ∈ fp, H' b = none) ∧ W i n ys H') ?_ m0
      ⟨0, [], [], _, H2, I4, k31 _ _ eD3, .nil, fD.1, T.keep _ _ _ st2 (fun b _ o e => k31 b o (k23 b o e)), fun b hb => (f2 b hb).1, w0⟩
    rintro n s' ⟨i, ys, its, k, H', I', eD, rv, nD, st, fr, w⟩
    have Ip := I'.pins_of (pins' := [(D, { cls := .type "list", data := .seq its.toArray k })]) fun p hp => by
      rw [List.mem_singleton] at hp
      subst hp
      exact ⟨eD, nD, neC D mD, okX.exfs D mD, fun v z => by cases z⟩
    have one : ∀ p ∈ [(D, ({ cls := .type "list", data := .seq its.toArray k } : Obj))], p.1 = D := fun p hp => by rw [List.mem_singleton] at hp; rw [hp]
    rcases turn i n ys H' w with ⟨stop, hz, q⟩ | ⟨go, hz, step⟩
    · refine thn (T.done (compCx X scope xs h3.objs.size { s2 with heap := h3 } H2 (D :: fp) (X.pn ++ pins)) rfl rfl rfl hc i _ s' _ H' (fun _ _ => False) Ip (stat fr one) st stop) fun r s4 ⟨hr, J4⟩ => ?_
      subst hr
      obtain ⟨mm, hnm, _⟩ := J4.loc
      obtain ⟨eD4, nD4, _⟩ := J4.pin (D, { cls := .type "list", data := .seq its.toArray k }) (List.mem_append_right _ List.mem_cons_self)
      have u0 : Un (frs X.stack) (D :: fp) H2 H' h3 s4.heap := J4.base
      have u : Un (frs X.stack) (D :: fp) H2 H' s2.heap s4.heap := (Un.kept k23).trans u0
      have os4 : s4.os = s2.os := J4.os
      have nC4 : H' h3.objs.size = none := J4.free
      have IX : Inv X pins σ (upd H' D (.lst ys)) s4 := I2.call' (s' := s4) (ch := D :: fp) os4 (u.track (by omega) nD4) (J4.hok.track nD4 ⟨hz, its, k, rv, eD4⟩) J4.bare (fun b hb => by
        have z := f3 b hb
        exact ⟨z.2.2.2.1, z.2.1, z.2.2.2.2.1, z.2.2.2.2.2⟩)
      have fC : FpOk X pins H2 h3.objs.size := I2.fpOk (by omega) (I2.hok.fresh (by omega))
      have nCX : upd H' D (.lst ys) h3.objs.size = none := by rw [upd_ne (Ne.symm (neC D mD))]; exact nC4
      refine wpAny_assign_Name (store_ok2 IX hN hi₀ hx₀ (v := .ref D) rfl (fun s5 I5 ⟨a5, sb5, ha5⟩ => ⟨mm, ?_, fun h' sb => ?_⟩) hf₀)
      · have : h3.objs.size ≠ a5 := by
          rcases ha5 with e | e
          · rw [e]; exact fC.2.1
          · exact Ne.symm (fC.2.2.2.2.1 x₀ a5 e)
        obtain ⟨o, es, ep, e, r⟩ := hnm
        exact ⟨o, es, ep, sb5.extBut _ _ this e, r⟩
      · have I6 : Inv X pins (σ.set i₀ (some (.ref D))) (upd H' D (.lst ys)) { s5 with heap := h' } := I5.turned (t' := s5.toks) (it := h3.objs.size) (fun b o hb e => sb.extBut b o hb e) nCX fC.2.1 fC.2.2.2.1 fC.2.2.2.2.1 fC.2.2.2.2.2
        exact wpAny_pure (wpAny_pure ⟨_, _, I6, q D nD4⟩)
    · refine thn (T.item (compCx X scope xs h3.objs.size { s2 with heap := h3 } H2 (D :: fp) (X.pn ++ pins)) rfl rfl rfl hc i _ s' _ H' (fun _ _ => False) Ip (stat fr one) st go) fun r s4 ⟨u, hr, h4⟩ => ?_
      subst hr
      refine thn h4 fun _ s5 ⟨x, H5, I5, r5, y5, st5, fr5⟩ => ?_
      have I5' := I5.pinned (stat fr5 one) (T.obj _ _ st5)
      refine thn (hg _ _ _ _ _ _ s5 _ H5 x u _ I5' r5 (step x H5 y5)) fun _ s6 ⟨σ6, H6, I6, ⟨zs, hz6, hl6⟩, q6⟩ => ?_
      have pinF : ∀ {s7 : Shared} {σ7 : St} {H7 : Hp}, Inv (compCx X scope xs h3.objs.size { s2 with heap := h3 } H2 (D :: fp) (X.pn ++ pins)) ([(D, { cls := .type "list", data := .seq its.toArray k })] ++ pinsAt fp s5.heap) σ7 H7 s7 → ∀ b ∈ fp, ∀ o, s5.heap.get? b = some o → s7.heap.get? b = some o ∧ H7 b = none := fun I7 b hb o e =>
        ⟨(I7.pin (b, o) (List.mem_append_right _ (List.mem_append_right _ (mem_pinsAt hb e)))).1, (I7.pin (b, o) (List.mem_append_right _ (List.mem_append_right _ (mem_pinsAt hb e)))).2.1⟩
      have back : ∀ {H7 : Hp} {s7 : Shared}, Inv (compCx X scope xs h3.objs.size { s2 with heap := h3 } H2 (D :: fp) (X.pn ++ pins)) [] σ6 H7 s7 → Inv (compCx X scope xs h3.objs.size { s2 with heap := h3 } H2 (D :: fp) (X.pn ++ pins)) [] (σ ++ List.replicate xs.length none) H7 s7 := fun I8 =>
        I8.weak (by rw [hz6, List.length_append, List.length_append, List.length_replicate, hl6]) (fun j v' e => by
          have hj : j < σ.length := by
            by_cases hj : j < σ.length
            · exact hj
            · rw [List.getElem?_append_right (by omega), List.getElem?_replicate] at e
              split at e <;> cases e
          rw [List.getElem?_append_left hj] at e
          rw [hz6, List.getElem?_append_left hj]
          exact e)
      refine thn (ht _ _ _ _ _ _ s6 σ6 H6 _ I6 q6) fun ok s6' ⟨H6', I6', q6'⟩ => ?_
      cases ok with
      | false =>
        obtain ⟨m', hm', w7⟩ := (show ∃ m', m' < n ∧ W (i + 1) m' ys H6' from q6')
        obtain ⟨eD7, nD7, _⟩ := I6'.pin (D, { cls := .type "list", data := .seq its.toArray k }) (List.mem_append_right _ (List.mem_append_left _ List.mem_cons_self))
        refine ⟨m', hm', i + 1, ys, its, _, H6', back (I6'.pins_of (pins' := []) fun p hp => by cases hp), eD7, rv, nD7, T.keep _ _ _ st5 (fun b hb o e => (pinF I6' b hb o e).1), fun b hb => ?_, w7⟩
        obtain ⟨o, e, _⟩ := T.obj _ _ st5 b hb
        exact (pinF I6' b hb o e).2
      | true =>
        refine thn (he _ _ _ _ _ _ s6' σ6 H6' _ I6' q6') fun xv s7 ⟨v, H7, I7, r7, m', hm', w7⟩ => ?_
        obtain ⟨eD7, nD7, _⟩ := I7.pin (D, { cls := .type "list", data := .seq its.toArray k }) (List.mem_append_right _ (List.mem_append_left _ List.mem_cons_self))
        have len := rv.length
        refine call_meets F.slot_list_append ⟨_, eD7, rfl⟩ F.entry_list_append (F.args_list_append_2 _ _) (PySem.list_append D its.toArray k xv (by rw [List.size_toArray]; omega)) ⟨eD7, ?_⟩
        have q := PySem.IsL.update eD7 (fun a => a.push xv)
        have other : ∀ b o, b ≠ D → s7.heap.get? b = some o → (s7.heap.update D (Obj.mapSeq fun a => a.push xv)).get? b = some o := fun b o hb e => (Heap.get?_update_other s7.heap _ (Ne.symm hb)).trans e
        have I7' := I7.pins_of (pins' := []) fun p hp => by cases hp
        have I8 := I7'.turned (t' := s7.toks) (it := D) other nD7 (neC D mD) (.inl mD) (okX.exf D mD).2 (fun p hp => by
          rw [List.append_nil] at hp
          exact fD.2.2.2.2.2 p hp)
        have e9 : its.toArray.push xv = (its ++ [xv]).toArray := by simp
        rw [e9] at q
        refine ⟨m', hm', i + 1, ys ++ [v], its ++ [xv], _, H7, back I8, q, rv.append (.cons r7 .nil), nD7, T.keep _ _ _ st5 (fun b hb o e => other b o (Nat.ne_of_lt (lt2 b hb)) (pinF I7 b hb o e).1), fun b hb => ?_, w7⟩
        obtain ⟨o, e, _⟩ := T.obj _ _ st5 b hb
        exact (pinF I7 b hb o e).2
  exact codeAny_compStart_list loop (T.self _ 0 _ _ _ (T.keep _ _ _ st2 fun b _ o e => k31 b o (k23 b o e)) loop)
theorem ps_hideA {X : Cx} {st : Stmt} {te : TE} {i₀ : Nat} (i : Nat) (y : Str) (hi : i₀ ≠ i) (h : PS (X.rn i y) st (tAsg te (gName i₀))) : PS X st (fun D σ H => σ[i]? = some none ∧ tAsg te (gName i₀) D σ H) := by
  intro pins s σ H D I ⟨h0, q⟩
  have e : (fun v H1 => (σ.set i₀ (some v))[i]? = some none ∧ D.nx (σ.set i₀ (some v)) H1) = fun v H1 => D.nx (σ.set i₀ (some v)) H1 := by
    funext v H1
    exact propext ⟨fun z => z.2, fun z => ⟨by rw [List.getElem?_set_ne hi]; exact h0, z⟩⟩
  have q' : tAsg te (gName i₀) { D with nx := fun σ' H' => σ'[i]? = some none ∧ D.nx σ' H', rt := fun _ _ => False, bk := fun _ _ => False, ct := fun _ _ => False } σ H := by
    show te σ H fun v H1 => (σ.set i₀ (some v))[i]? = some none ∧ D.nx (σ.set i₀ (some v)) H1
    rw [e]
    exact q
  refine thn (h pins s σ H _ (I.rn h0) q') fun f s1 sp => ?_
  cases f with
  | next =>
    obtain ⟨σ', H', I', z, n⟩ := sp
    exact ⟨σ', H', I'.unrn I.ok z, n⟩
  | ret v => obtain ⟨_, _, _, _, _, z⟩ := sp; exact z.elim
  | brk => obtain ⟨_, _, _, z⟩ := sp; exact z.elim
  | cont => obtain ⟨_, _, _, z⟩ := sp; exact z.elim
end L2
namespace L2
open PySem PySem.Spec PyProof.Rows
section
variable {prog : Program} {w : World} {A : Around} {E : Value → Shared → Prop} {s : Shared}
theorem nextT_item {I t : Addr} {i : Nat} {vs : Array Value} {x : Value} {Q : Value → Shared → Prop} (hI : s.heap.IsTupleIter I t i) (ht : s.heap.IsTuple t vs) (e : vs[i]? = some x)
    (q : ∀ h', h'.IsTupleIter I t (i + 1) → Heap.SameBut I s.heap h' → Q x { s with heap := h' }) : wpAny (model prog w) A (Builtin.SmallTypes.nextOf (.ref I)) Q E s := by
  obtain ⟨o, eo, co, fo⟩ := id hI; obtain ⟨u, eu, _, n, fu⟩ := ht; unfold Builtin.SmallTypes.nextOf
  refine wpAny_bind (wpAny_callSpecial?_slot (name := Str.ofString "__next__") hI.typeIs F.slot_tuple_iterator_next (wpAny_call_entry F.slot_tuple_iterator_next hI.typeIs F.entry_tuple_iterator_next ?_ (F.args_tuple_iterator_next_1 _)))
  show wpAny _ _ (field (.ref I) 0 >>= _) _ _ s
  refine wpAny_bind (wpAny_field eo fo (x := .ref t) rfl ?_); show wpAny _ _ (if (Value.ref t == Value.none) = true then _ else _) _ _ s
  rw [if_neg (show ¬ ((Value.ref t == Value.none) = true) from Bool.false_ne_true)]; show wpAny _ _ (field (.ref I) 1 >>= _) _ _ s
  refine wpAny_bind (wpAny_field eo fo (x := .int i 0) rfl ?_); show wpAny _ _ (seqItems? (.ref t) >>= _) _ _ s
  refine wpAny_bind (wpAny_seqItems eu fu ?_); simp only [Int.toNat_natCast, e]
  refine wpAny_bind (wpAny_setField eo fo (by simp) (wpAny_pure ⟨x, rfl, wpAny_pure (q _ ?_ (Heap.SameBut.update ..))⟩))
  exact ⟨_, Heap.get?_update_self _ eo (Obj.isFreed_of_fields (Obj.data_mapFields fo _)), (Obj.cls_mapFields ..).trans co, by rw [Obj.data_mapFields fo]; simp [rawInt]⟩
theorem nextT_end {I t : Addr} {i : Nat} {vs : Array Value} {Q : Value → Shared → Prop} (hh : A.handled = none) (hI : s.heap.IsTupleIter I t i) (ht : s.heap.IsTuple t vs) (e : vs[i]? = none)
    (q : ∀ h' x, Heap.ExtBut I s.heap h' → (∃ o, h'.get? x = some o ∧ o.cls = .type "StopIteration") → E (.ref x) { s with heap := h' }) : wpAny (model prog w) A (Builtin.SmallTypes.nextOf (.ref I)) Q E s := by
  obtain ⟨o, eo, co, fo⟩ := id hI; obtain ⟨u, eu, _, n, fu⟩ := ht; unfold Builtin.SmallTypes.nextOf
  refine wpAny_bind (wpAny_callSpecial?_slot (name := Str.ofString "__next__") hI.typeIs F.slot_tuple_iterator_next (wpAny_call_entry F.slot_tuple_iterator_next hI.typeIs F.entry_tuple_iterator_next ?_ (F.args_tuple_iterator_next_1 _)))
  show wpAny _ _ (field (.ref I) 0 >>= _) _ _ s
  refine wpAny_bind (wpAny_field eo fo (x := .ref t) rfl ?_); show wpAny _ _ (if (Value.ref t == Value.none) = true then _ else _) _ _ s
  rw [if_neg (show ¬ ((Value.ref t == Value.none) = true) from Bool.false_ne_true)]; show wpAny _ _ (field (.ref I) 1 >>= _) _ _ s
  refine wpAny_bind (wpAny_field eo fo (x := .int i 0) rfl ?_); show wpAny _ _ (seqItems? (.ref t) >>= _) _ _ s
  refine wpAny_bind (wpAny_seqItems eu fu ?_); simp only [Int.toNat_natCast, e]
  refine wpAny_bind (wpAny_rule (wpAny_bind (wpAny_setField eo fo (by simp) ?_))); show wpAny _ _ (newExc (.type "StopIteration") [] >>= _) _ _ _
  refine wpAny_bind ?_; simp only [newExc, newTuple]
  refine wpAny_bind (wpAny_newObj_type ?_ (by size_fits)); refine wpAny_bind (m := firstArgMember _ _) (wpAny_of_eq (a := Value.none) (by first | rfl | (simp only [firstArgMember]; rfl)) ?_)
  refine wpAny_newObj_type ?_ (by size_fits); simp only [raiseNew]; refine wpAny_bind (wpAny_handled ?_)
  first | rw [show A.in1.handled = none from hh] | rw [hh]
  refine wpAny_bind (wpAny_pure (wpAny_throw ?_)); exact q _ _ (((Heap.SameBut.update ..).extBut.push _).push _) ⟨_, Heap.get?_push_size _ rfl, rfl⟩
end
inductive Sr
  | lst (a : Addr)
  | tup (a : Addr)
  | str (x : Str)
def Sr.it : Sr → Heap → Addr → Nat → Prop
  | .lst a, h, I, i => h.IsListIter I a i
  | .tup a, h, I, i => h.IsTupleIter I a i
  | .str x, h, I, i => ∃ t, h.IsStrIter I (strIterType x) x t i
def Sr.has : Sr → Heap → Array Value → Prop
  | .lst a, h, vs => h.IsList a vs
  | .tup a, h, vs => h.IsTuple a vs
  | .str x, _, vs => vs.size = x.cps.size
def Sr.is : Sr → Array Value → Nat → Value → Prop
  | .lst _, vs, i, v => vs[i]? = some v
  | .tup _, vs, i, v => vs[i]? = some v
  | .str x, _, i, v => ∃ c u, x.cps[i]? = some c ∧ v = .str ⟨#[c]⟩ u
def Sr.fp : Sr → Addr → List Addr
  | .lst a, I => [I, a]
  | .tup a, I => [I, a]
  | .str _, I => [I]
def Sr.off : Sr → Addr → Prop
  | .lst a, I => a ≠ I
  | .tup a, I => a ≠ I
  | .str _, _ => True
theorem Sr.it.mv {S : Sr} {h h' : Heap} {I : Addr} {i : Nat} (x : S.it h I i) (k : ∀ o, h.get? I = some o → h'.get? I = some o) : S.it h' I i := by
  cases S with
  | lst a => obtain ⟨o, e, r⟩ := x; exact ⟨o, k o e, r⟩
  | tup a => obtain ⟨o, e, r⟩ := x; exact ⟨o, k o e, r⟩
  | str z => obtain ⟨t, o, e, r⟩ := x; exact ⟨t, o, k o e, r⟩
theorem Sr.it.obj {S : Sr} {h : Heap} {I : Addr} {i : Nat} (x : S.it h I i) : ∃ o, h.get? I = some o ∧ ∀ v, o.data ≠ .cell v := by
  cases S with
  | lst a => obtain ⟨o, e, _, d⟩ := x; exact ⟨o, e, fun v z => by rw [d] at z; cases z⟩
  | tup a => obtain ⟨o, e, _, d⟩ := x; exact ⟨o, e, fun v z => by rw [d] at z; cases z⟩
  | str z => obtain ⟨t, o, e, _, d⟩ := x; exact ⟨o, e, fun v z => by rw [d] at z; cases z⟩
theorem Sr.has.mv {S : Sr} {h h' : Heap} {vs : Array Value} {I : Addr} (x : S.has h vs) (k : ∀ b o, b ≠ I → h.get? b = some o → h'.get? b = some o) (off : S.off I) : S.has h' vs := by
  cases S with
  | lst a => obtain ⟨o, e, r⟩ := x; exact ⟨o, k a o off e, r⟩
  | tup a => obtain ⟨o, e, r⟩ := x; exact ⟨o, k a o off e, r⟩
  | str z => exact x
theorem Sr.draws {prog : Program} {w : World} {A : Around} (S : Sr) (hh : A.handled = none) (I : Addr) (off : S.off I) (vs : Array Value) :
    Draws prog w A I (S.fp I) vs.size (S.is vs) (fun i h => S.it h I i ∧ S.has h vs) := by
  cases S with
  | lst a => exact Draws.list hh I a off vs
  | tup a => exact {
      live := fun _ _ st => let ⟨o, e, _⟩ := st.1; ⟨o, e⟩
      frame := fun _ _ _ st k => ⟨let ⟨o, e, r⟩ := st.1; ⟨o, k I (by simp [Sr.fp]) o e, r⟩, let ⟨o, e, r⟩ := st.2; ⟨o, k a (by simp [Sr.fp]) o e, r⟩⟩
      item := fun i s Q E hi st q => nextT_item st.1 st.2 (x := vs[i]) (by simp [hi]) fun h' a' b' => q _ h' s.toks (show vs[i]? = some vs[i] by simp [hi]) ⟨a', Heap.IsTuple.extBut st.2 b'.extBut off⟩ b'
      done := fun s Q E st q => nextT_end hh st.1 st.2 (by simp) q }
  | str x =>
    cases ha : x.cps.all (· < 128) with
    | true =>
      have e : strIterType x = "str_ascii_iterator" := by simp [strIterType, ha]
      exact {
        live := fun _ _ st => let ⟨_, o, e, _⟩ := st.1; ⟨o, e⟩
        frame := fun _ _ _ st k => ⟨let ⟨t, o, e, r⟩ := st.1; ⟨t, o, k I (by simp [Sr.fp]) o e, r⟩, st.2⟩
        item := fun i s Q E hi st q => by
          obtain ⟨⟨t, g⟩, z⟩ := st
          have hz : vs.size = x.cps.size := z
          rw [e] at g
          exact (Draws.strAscii (prog := prog) (w := w) hh I x t).item i s Q E (by omega) g fun v h' tk p st' sb => q v h' tk p ⟨⟨t, by rw [e]; exact st'⟩, z⟩ sb
        done := fun s Q E st q => by
          obtain ⟨⟨t, g⟩, z⟩ := st
          have hz : vs.size = x.cps.size := z
          rw [e, hz] at g
          exact (Draws.strAscii (prog := prog) (w := w) hh I x t).done s Q E g q }
    | false =>
      have e : strIterType x = "str_iterator" := by simp [strIterType, ha]
      exact {
        live := fun _ _ st => let ⟨_, o, e, _⟩ := st.1; ⟨o, e⟩
        frame := fun _ _ _ st k => ⟨let ⟨t, o, e, r⟩ := st.1; ⟨t, o, k I (by simp [Sr.fp]) o e, r⟩, st.2⟩
        item := fun i s Q E hi st q => by
          obtain ⟨⟨t, g⟩, z⟩ := st
          have hz : vs.size = x.cps.size := z
          rw [e] at g
          exact (Draws.strWide (prog := prog) (w := w) hh I x t).item i s Q E (by omega) g fun v h' tk p st' sb => q v h' tk p ⟨⟨t, by rw [e]; exact st'⟩, z⟩ sb
        done := fun s Q E st q => by
          obtain ⟨⟨t, g⟩, z⟩ := st
          have hz : vs.size = x.cps.size := z
          rw [e, hz] at g
          exact (Draws.strWide (prog := prog) (w := w) hh I x t).done s Q E g q }
end L2
namespace L2
open PySem PySem.Spec PyProof.Rows
structure ZA (S1 S2 : Sr) (z TI TO i1 i2 : Addr) : Prop where
  a : TI ≠ z
  b : TO ≠ z
  c : i1 ≠ z
  d : i2 ≠ z
  e : TI ≠ TO
  f : TI ≠ i1
  g : TI ≠ i2
  h : TO ≠ i1
  i : TO ≠ i2
  j : i1 ≠ i2
  k : ∀ x ∈ [z, TO, i1, i2], S1.off x ∧ S2.off x
structure ZS (S1 S2 : Sr) (v1 v2 : Array Value) (z TI TO i1 i2 : Addr) (n : Nat) (u : Value) (h : Heap) : Prop where
  z : IsZip h z TI TO u
  ti : IsPair h TI (.ref i1) (.ref i2)
  to : ∃ x y, IsPair h TO x y
  s1 : S1.it h i1 n
  s2 : S2.it h i2 n
  h1 : S1.has h v1
  h2 : S2.has h v2
section
variable {prog : Program} {w : World} {A : Around} {E : Value → Shared → Prop} {s : Shared} {S1 S2 : Sr} {v1 v2 : Array Value} {z TI TO i1 i2 : Addr} {n : Nat}
theorem zip_item (D : ZA S1 S2 z TI TO i1 i2) (hh : A.handled = none) (Z : ZS S1 S2 v1 v2 z TI TO i1 i2 n .none s.heap) (l1 : n < v1.size) (l2 : n < v2.size) {Q : Value → Shared → Prop}
    (q : ∀ x y h' tk, S1.is v1 n x → S2.is v2 n y → ZS S1 S2 v1 v2 z TI TO i1 i2 (n + 1) (rawInt s.heap.objs.size) h' → IsPair h' s.heap.objs.size x y → h'.objs.size = s.heap.objs.size + 1 →
      (∀ c o, c ≠ z → c ≠ TO → c ≠ i1 → c ≠ i2 → s.heap.get? c = some o → h'.get? c = some o) → Q (.ref s.heap.objs.size) { s with heap := h', toks := tk }) :
    wpAny (model prog w) A (Builtin.«zip.__next__» ⟨[.ref z], []⟩) (fun fin s' => ∃ v, fin = .done (.ret v) ∧ Q v s') E s := by
  obtain ⟨hp, g0, d0, tk0, os0⟩ := s
  obtain ⟨Zz, Zi, ⟨x0, y0, Zo⟩, Z1, Z2, Y1, Y2⟩ := Z
  have oz := D.k z (by simp); have oT := D.k TO (by simp); have o1 := D.k i1 (by simp); have o2 := D.k i2 (by simp)
  show wpAny _ _ (field (.ref z) 2 >>= _) _ _ _
  refine wpAny_bind (wpAny_field Zz rfl (x := .bool false) rfl ?_); show wpAny _ _ (field (.ref z) 3 >>= _) _ _ _
  refine wpAny_bind (wpAny_field Zz rfl (x := .ref TI) rfl ?_); refine wpAny_bind (wpAny_seqItems Zi rfl ?_)
  show wpAny _ _ (Builtin.SmallTypes.ownedTupleIsFree (.ref z) >>= _) _ _ _
  refine wpAny_bind ?_; unfold Builtin.SmallTypes.ownedTupleIsFree
  refine wpAny_bind (wpAny_field Zz rfl (x := .none) rfl (wpAny_pure ?_)); simp only [if_true]; refine wpAny_bind (wpAny_rule ?_)
  refine wpAny_bind (wpAny_field Zz rfl (x := .ref TO) rfl ?_)
  refine wpAny_bind (wpAny_setField_rec Zz (by simp) fun g1 Za b1 => ?_)
  replace Za : IsZip g1 z TI TO .ellipsis := Za
  replace b1 : Heap.SameBut z hp g1 := b1
  refine wpAny_bind ?_; simp only [List.zipIdx_cons, List.zipIdx_nil, List.forIn_cons, List.forIn_nil]
  -- the first one
  refine wpAny_bind (wpAny_bind (wpAny_onRaise ?_)); show wpAny _ _ (Builtin.SmallTypes.nextOf (.ref i1) >>= _) _ _ _
  refine wpAny_bind ((S1.draws hh i1 o1.1 v1).item n _ _ _ l1 ⟨Z1.mv fun o e => b1.extBut _ _ D.c e, Y1.mv (fun b o hb e => b1.extBut _ _ hb e) oz.1⟩ fun x g2 k2 px st2 b2 => wpAny_pure ?_)
  replace b2 : Heap.SameBut i1 g1 g2 := b2
  have To2 : IsPair g2 TO x0 y0 := b2.extBut _ _ D.h (b1.extBut _ _ D.b Zo)
  refine wpAny_bind (wpAny_seqItems To2 rfl ?_); refine wpAny_bind (wpAny_updateSeq_pair To2 fun g3 To3 b3 => ?_)
  replace To3 : IsPair g3 TO x y0 := To3
  replace b3 : Heap.SameBut TO g2 g3 := b3
  refine wpAny_bind (wpAny_letGo (wpAny_pure ?_))
  -- the second one
  refine wpAny_bind (wpAny_bind (wpAny_onRaise ?_)); show wpAny _ _ (Builtin.SmallTypes.nextOf (.ref i2) >>= _) _ _ _
  refine wpAny_bind ((S2.draws hh i2 o2.2 v2).item n _ _ _ l2 ⟨Z2.mv fun o e => b3.extBut _ _ D.i.symm (b2.extBut _ _ D.j.symm (b1.extBut _ _ D.d e)),
    ((Y2.mv (fun b o hb e => b1.extBut _ _ hb e) oz.2).mv (fun b o hb e => b2.extBut _ _ hb e) o1.2).mv (fun b o hb e => b3.extBut _ _ hb e) oT.2⟩ fun y g4 k4 py st4 b4 => wpAny_pure ?_)
  replace b4 : Heap.SameBut i2 g3 g4 := b4
  have To4 : IsPair g4 TO x y0 := b4.extBut _ _ D.i To3
  refine wpAny_bind (wpAny_seqItems To4 rfl ?_); refine wpAny_bind (wpAny_updateSeq_pair To4 fun g5 To5 b5 => ?_)
  replace To5 : IsPair g5 TO x y := To5
  replace b5 : Heap.SameBut TO g4 g5 := b5
  refine wpAny_bind (wpAny_letGo (wpAny_pure (wpAny_pure ?_)))
  refine wpAny_bind (wpAny_seqItems To5 rfl ?_); refine wpAny_bind (wpAny_newTuple ?_)
  have sz : g5.objs.size = hp.objs.size := by rw [b5.1, b4.1, b3.1, b2.1, b1.1]
  have Z5 : IsZip g5 z TI TO .ellipsis := b5.extBut _ _ D.b.symm (b4.extBut _ _ D.d.symm (b3.extBut _ _ D.b.symm (b2.extBut _ _ D.c.symm Za)))
  have up5 : ∀ c o, c ≠ z → c ≠ TO → c ≠ i1 → c ≠ i2 → hp.get? c = some o → g5.get? c = some o := fun c o n1 n2 n3 n4 e => b5.extBut _ _ n2 (b4.extBut _ _ n4 (b3.extBut _ _ n2 (b2.extBut _ _ n3 (b1.extBut _ _ n1 e))))
  have I1 : S1.it g5 i1 (n + 1) := st2.1.mv fun o e => b5.extBut _ _ D.h.symm (b4.extBut _ _ D.j (b3.extBut _ _ D.h.symm e))
  have I2 : S2.it g5 i2 (n + 1) := st4.1.mv fun o e => b5.extBut _ _ D.i.symm e
  have H1 : S1.has g5 v1 := ((st2.2.mv (fun b o hb e => b3.extBut _ _ hb e) oT.1).mv (fun b o hb e => b4.extBut _ _ hb e) o2.1).mv (fun b o hb e => b5.extBut _ _ hb e) oT.1
  have H2 : S2.has g5 v2 := st4.2.mv (fun b o hb e => b5.extBut _ _ hb e) oT.2
  have zlt : z < g5.objs.size := Heap.lt_size Z5
  show wpAny _ _ (Builtin.SmallTypes.ownedTupleHandOut (.ref z) (.ref g5.objs.size) >>= _) _ _ _
  refine wpAny_bind ?_; unfold Builtin.SmallTypes.ownedTupleHandOut
  have Z6 : IsZip (g5.push { cls := .type "tuple", data := .seq #[x, y] }) z TI TO .ellipsis := Heap.get?_push_of_some _ Z5
  refine wpAny_bind (wpAny_setField_rec Z6 (by simp) fun g7 Z7 b7 => ?_)
  replace Z7 : IsZip g7 z TI TO (rawInt g5.objs.size) := Z7
  refine wpAny_setField_rec Z7 (by simp) fun g8 Z8 b8 => ?_
  replace Z8 : IsZip g8 z TI TO (rawInt g5.objs.size) := Z8
  have up : ∀ c o, c ≠ z → g5.get? c = some o → g8.get? c = some o := fun c o n1 e => b8.extBut _ _ n1 (b7.extBut _ _ n1 (Heap.get?_push_of_some _ e))
  have T8 : IsPair g8 g5.objs.size x y := b8.extBut _ _ (Nat.ne_of_gt zlt) (b7.extBut _ _ (Nat.ne_of_gt zlt) (Heap.get?_push_size _ rfl))
  have sz8 : g8.objs.size = g5.objs.size + 1 := by rw [b8.1, b7.1, Heap.size_push]
  rw [sz] at Z8 T8 sz8
  refine wpAny_pure ⟨_, rfl, ?_⟩
  show Q (.ref g5.objs.size) _
  rw [sz]
  exact q x y g8 k4 px py ⟨Z8, up _ _ D.a (up5 _ _ D.a D.e D.f D.g Zi), ⟨_, _, up _ _ D.b To5⟩, I1.mv fun o e => up _ o D.c e, I2.mv fun o e => up _ o D.d e,
    H1.mv (fun b o hb e => up b o hb e) oz.1, H2.mv (fun b o hb e => up b o hb e) oz.2⟩ T8 sz8 fun c o n1 n2 n3 n4 e => up c o n1 (up5 c o n1 n2 n3 n4 e)
theorem zip_end (D : ZA S1 S2 z TI TO i1 i2) (hh : A.handled = none) (Z : ZS S1 S2 v1 v2 z TI TO i1 i2 n .none s.heap) (l : n = v1.size ∨ (n < v1.size ∧ n = v2.size)) {Q : Fin → Shared → Prop}
    (q : ∀ h' x tk, (∀ c o, c ≠ z → c ≠ TO → c ≠ i1 → c ≠ i2 → s.heap.get? c = some o → h'.get? c = some o) → (∃ o, h'.get? x = some o ∧ o.cls = .type "StopIteration") → E (.ref x) { s with heap := h', toks := tk }) :
    wpAny (model prog w) A (Builtin.«zip.__next__» ⟨[.ref z], []⟩) Q E s := by
  obtain ⟨hp, g0, d0, tk0, os0⟩ := s
  obtain ⟨Zz, Zi, ⟨x0, y0, Zo⟩, Z1, Z2, Y1, Y2⟩ := Z
  have oz := D.k z (by simp); have oT := D.k TO (by simp); have o1 := D.k i1 (by simp); have o2 := D.k i2 (by simp)
  show wpAny _ _ (field (.ref z) 2 >>= _) _ _ _
  refine wpAny_bind (wpAny_field Zz rfl (x := .bool false) rfl ?_); show wpAny _ _ (field (.ref z) 3 >>= _) _ _ _
  refine wpAny_bind (wpAny_field Zz rfl (x := .ref TI) rfl ?_); refine wpAny_bind (wpAny_seqItems Zi rfl ?_)
  show wpAny _ _ (Builtin.SmallTypes.ownedTupleIsFree (.ref z) >>= _) _ _ _
  refine wpAny_bind ?_; unfold Builtin.SmallTypes.ownedTupleIsFree
  refine wpAny_bind (wpAny_field Zz rfl (x := .none) rfl (wpAny_pure ?_)); simp only [if_true]; refine wpAny_bind (wpAny_rule ?_)
  refine wpAny_bind (wpAny_field Zz rfl (x := .ref TO) rfl ?_)
  refine wpAny_bind (wpAny_setField_rec Zz (by simp) fun g1 Za b1 => ?_)
  replace Za : IsZip g1 z TI TO .ellipsis := Za
  replace b1 : Heap.SameBut z hp g1 := b1
  refine wpAny_bind ?_; simp only [List.zipIdx_cons, List.zipIdx_nil, List.forIn_cons, List.forIn_nil]
  have W1 : S1.it g1 i1 n ∧ S1.has g1 v1 := ⟨Z1.mv fun o e => b1.extBut _ _ D.c e, Y1.mv (fun b o hb e => b1.extBut _ _ hb e) oz.1⟩
  refine wpAny_bind (wpAny_bind (wpAny_onRaise ?_)); show wpAny _ _ (Builtin.SmallTypes.nextOf (.ref i1) >>= _) _ _ _
  rcases l with l | ⟨l1, l2⟩
  · refine wpAny_bind ((S1.draws hh i1 o1.1 v1).done _ _ _ (l ▸ W1) fun g2 x b2 ⟨ox, ex, cx⟩ => ?_)
    have Zb : IsZip g2 z TI TO .ellipsis := b2 _ _ D.c.symm Za
    have xz : x ≠ z := fun e => by subst e; rw [Zb] at ex; cases ex; simp at cx
    refine wpAny_setField_rec Zb (by simp) fun g3 _ b3 => q g3 x tk0 (fun c o n1 _ n3 _ e => b3.extBut _ _ n1 (b2 _ _ n3 (b1.extBut _ _ n1 e))) ⟨ox, b3.extBut _ _ xz ex, cx⟩
  · refine wpAny_bind ((S1.draws hh i1 o1.1 v1).item n _ _ _ l1 W1 fun x g2 k2 px st2 b2 => wpAny_pure ?_)
    replace b2 : Heap.SameBut i1 g1 g2 := b2
    have To2 : IsPair g2 TO x0 y0 := b2.extBut _ _ D.h (b1.extBut _ _ D.b Zo)
    refine wpAny_bind (wpAny_seqItems To2 rfl ?_); refine wpAny_bind (wpAny_updateSeq_pair To2 fun g3 To3 b3 => ?_)
    replace b3 : Heap.SameBut TO g2 g3 := b3
    refine wpAny_bind (wpAny_letGo (wpAny_pure ?_)); refine wpAny_bind (wpAny_bind (wpAny_onRaise ?_)); show wpAny _ _ (Builtin.SmallTypes.nextOf (.ref i2) >>= _) _ _ _
    refine wpAny_bind ((S2.draws hh i2 o2.2 v2).done _ _ _ (l2 ▸ ⟨Z2.mv fun o e => b3.extBut _ _ D.i.symm (b2.extBut _ _ D.j.symm (b1.extBut _ _ D.d e)),
      ((Y2.mv (fun b o hb e => b1.extBut _ _ hb e) oz.2).mv (fun b o hb e => b2.extBut _ _ hb e) o1.2).mv (fun b o hb e => b3.extBut _ _ hb e) oT.2⟩) fun g4 x' b4 ⟨ox, ex, cx⟩ => ?_)
    have Zb : IsZip g4 z TI TO .ellipsis := b4 _ _ D.d.symm (b3.extBut _ _ D.b.symm (b2.extBut _ _ D.c.symm Za))
    have xz : x' ≠ z := fun e => by subst e; rw [Zb] at ex; cases ex; simp at cx
    refine wpAny_setField_rec Zb (by simp) fun g5 _ b5 => q g5 x' k2 (fun c o n1 n2 n3 n4 e => b5.extBut _ _ n1 (b4 _ _ n4 (b3.extBut _ _ n2 (b2.extBut _ _ n3 (b1.extBut _ _ n1 e))))) ⟨ox, b5.extBut _ _ xz ex, cx⟩
end
def Begins (h : Heap) (v : Value) (o : Obj) : Prop := ∀ (prog : Program) (w : World) (A : Around) (E : Value → Shared → Prop) (s : Shared) (Q : Value → Shared → Prop), (∀ b u, h.get? b = some u → s.heap.get? b = some u) →
  Q (.ref s.heap.objs.size) { s with heap := s.heap.push o } → wpAny (model prog w) A (pyIter v) Q E s
def Sr.val : Sr → Value → Prop
  | .lst a, v => v = .ref a
  | .tup a, v => v = .ref a
  | .str x, v => ∃ t, v = .str x t
theorem Sr.begins {S : Sr} {h : Heap} {v : Value} {vs : Array Value} (e : S.val v) (x : S.has h vs) : ∃ o : Obj, Begins h v o ∧ o.isFreed = false ∧ ∀ (h' : Heap) (I : Addr), h'.get? I = some o → S.it h' I 0 := by
  cases S with
  | lst a =>
    cases (show v = .ref a from e)
    exact ⟨_, fun _ _ _ _ s Q k q => wpAny_pyIter_list (let ⟨o, e, r⟩ := x; ⟨o, k a o e, r⟩) q, rfl, fun h' I e => ⟨_, e, rfl, rfl⟩⟩
  | tup a =>
    cases (show v = .ref a from e)
    exact ⟨_, fun _ _ _ _ s Q k q => wpAny_pyIter_tuple (let ⟨o, e, r⟩ := x; ⟨o, k a o e, r⟩) q, rfl, fun h' I e => ⟨_, e, rfl, rfl⟩⟩
  | str z =>
    obtain ⟨t, rfl⟩ := (show ∃ t, v = .str z t from e)
    exact ⟨_, fun _ _ _ _ s Q k q => wpAny_pyIter_strU q, rfl, fun h' I e => ⟨t, _, e, rfl, rfl⟩⟩
abbrev zh2 (h : Heap) (o1 o2 : Obj) : Heap := (h.push o1).push o2
abbrev zh3 (h : Heap) (o1 o2 : Obj) : Heap := (zh2 h o1 o2).push { cls := .type "tuple", data := .seq #[.ref h.objs.size, .ref (h.push o1).objs.size] }
abbrev zh4 (h : Heap) (o1 o2 : Obj) : Heap := (zh3 h o1 o2).push { cls := .type "tuple", data := .seq #[.none, .none] }
abbrev zh5 (h : Heap) (o1 o2 : Obj) : Heap := (zh4 h o1 o2).push { cls := .type "zip", data := .fields #[.none, .bool false, .bool false, .ref (zh2 h o1 o2).objs.size, .ref (zh3 h o1 o2).objs.size] }
theorem zip_new (a b : Value) (o1 o2 : Obj) : Meets (Builtin.«zip.__new__» ⟨[.type "zip", a, b], []⟩) (fun _ R s => Begins s.heap a o1 ∧ Begins s.heap b o2 ∧
      R (.ok (.ret (.ref (zh4 s.heap o1 o2).objs.size))) { s with heap := zh5 s.heap o1 o2 }) :=
  .of_wp fun prog w A R s h => by
    obtain ⟨hp, g, d, tk, os⟩ := s; obtain ⟨h1, h2, h⟩ := h
    have hsub := sub_zip
    have k1 : ∀ {A' : Around} {E' : Value → Shared → Prop} {Q : Value → Shared → Prop}, Q (.ref (Shared.heap ⟨hp, g, d, tk, os⟩).objs.size) ⟨hp.push o1, g, d, tk, os⟩ → wpAny (model prog w) A' (pyIter a) Q E' ⟨hp, g, d, tk, os⟩ := fun q => h1 _ _ _ _ _ _ (fun _ _ e => e) q
    have k2 : ∀ {A' : Around} {E' : Value → Shared → Prop} {Q : Value → Shared → Prop}, Q (.ref (Shared.heap ⟨hp.push o1, g, d, tk, os⟩).objs.size) ⟨(hp.push o1).push o2, g, d, tk, os⟩ → wpAny (model prog w) A' (pyIter b) Q E' ⟨hp.push o1, g, d, tk, os⟩ := fun q => h2 _ _ _ _ _ _ (fun _ _ e => Heap.get?_push_of_some _ e) q
    wp_walk using k1, k2
    exact ⟨_, rfl, h⟩
theorem call_zip {prog : Program} {w : World} {A : Around} {E : Value → Shared → Prop} {s : Shared} {S1 S2 : Sr} {v1 v2 : Array Value} {a b : Value} {Q : Value → Shared → Prop} (e1 : S1.val a) (e2 : S2.val b) (x1 : S1.has s.heap v1) (x2 : S2.has s.heap v2)
    (q : ∀ h', ZS S1 S2 v1 v2 (s.heap.objs.size + 4) (s.heap.objs.size + 2) (s.heap.objs.size + 3) s.heap.objs.size (s.heap.objs.size + 1) 0 .none h' → ZA S1 S2 (s.heap.objs.size + 4) (s.heap.objs.size + 2) (s.heap.objs.size + 3) s.heap.objs.size (s.heap.objs.size + 1) →
      (∀ c o, s.heap.get? c = some o → h'.get? c = some o) → Q (.ref (s.heap.objs.size + 4)) { s with heap := h' }) : wpAny (model prog w) A (call (.type "zip") [a, b]) Q E s := by
  obtain ⟨o1, B1, f1, I1⟩ := Sr.begins e1 x1
  obtain ⟨o2, B2, f2, I2⟩ := Sr.begins e2 x2
  refine callType_new F.called_zip (by decide) (F.typeCall_zip_2 _ _) (F.newCall_zip_2 _ _) (fun obj => F.args_object_init_3 obj _ _) F.entry_zip_new (zip_new a b o1 o2) ⟨B1, B2, ?_⟩
  have y1 : (s.heap.push o1).objs.size = s.heap.objs.size + 1 := Heap.size_push ..
  have y2 : (zh2 s.heap o1 o2).objs.size = s.heap.objs.size + 2 := by rw [Heap.size_push, y1]
  have y3 : (zh3 s.heap o1 o2).objs.size = s.heap.objs.size + 3 := by rw [Heap.size_push, y2]
  have y4 : (zh4 s.heap o1 o2).objs.size = s.heap.objs.size + 4 := by rw [Heap.size_push, y3]
  have g5 : (zh5 s.heap o1 o2).get? (zh4 s.heap o1 o2).objs.size = some _ := Heap.get?_push_size _ rfl
  have g4 : (zh5 s.heap o1 o2).get? (zh3 s.heap o1 o2).objs.size = some _ := Heap.get?_push_of_some _ (Heap.get?_push_size _ rfl)
  have g3 : (zh5 s.heap o1 o2).get? (zh2 s.heap o1 o2).objs.size = some _ := Heap.get?_push_of_some _ (Heap.get?_push_of_some _ (Heap.get?_push_size _ rfl))
  have g2 : (zh5 s.heap o1 o2).get? (s.heap.push o1).objs.size = some o2 := Heap.get?_push_of_some _ (Heap.get?_push_of_some _ (Heap.get?_push_of_some _ (Heap.get?_push_size _ f2)))
  have g1 : (zh5 s.heap o1 o2).get? s.heap.objs.size = some o1 := Heap.get?_push_of_some _ (Heap.get?_push_of_some _ (Heap.get?_push_of_some _ (Heap.get?_push_of_some _ (Heap.get?_push_size _ f1))))
  have up : ∀ c o, s.heap.get? c = some o → (zh5 s.heap o1 o2).get? c = some o := fun c o x => Heap.get?_push_of_some _ (Heap.get?_push_of_some _ (Heap.get?_push_of_some _ (Heap.get?_push_of_some _ (Heap.get?_push_of_some _ x))))
  have off : ∀ {S : Sr} {vs : Array Value} (k : Nat), S.has s.heap vs → S.off (s.heap.objs.size + k) := fun {S vs} k x => by
    cases S with
    | lst a => obtain ⟨o, e, _⟩ := x; exact Nat.ne_of_lt (Nat.lt_of_lt_of_le (Heap.lt_size e) (Nat.le_add_right _ k))
    | tup a => obtain ⟨o, e, _⟩ := x; exact Nat.ne_of_lt (Nat.lt_of_lt_of_le (Heap.lt_size e) (Nat.le_add_right _ k))
    | str z => exact trivial
  have keep : ∀ {S : Sr} {vs : Array Value}, S.has s.heap vs → S.has (zh5 s.heap o1 o2) vs := fun {S vs} x => by
    cases S with
    | lst a => obtain ⟨o, e, r⟩ := x; exact ⟨o, up _ _ e, r⟩
    | tup a => obtain ⟨o, e, r⟩ := x; exact ⟨o, up _ _ e, r⟩
    | str z => exact x
  show _ ∧ _
  rw [y2, y3, y4] at g5
  rw [y1, y2] at g3
  rw [y3] at g4
  rw [y1] at g2
  rw [y4]
  refine ⟨⟨_, g5, rfl⟩, q _ ⟨g5, g3, ⟨_, _, g4⟩, I1 _ _ g1, I2 _ _ g2, keep x1, keep x2⟩ ?_ up⟩
  have ne : ∀ i j : Nat, i ≠ j → s.heap.objs.size + i ≠ s.heap.objs.size + j := fun i j hn h => hn (Nat.add_left_cancel h)
  refine ⟨ne 2 4 (by decide), ne 3 4 (by decide), ne 0 4 (by decide), ne 1 4 (by decide), ne 2 3 (by decide), ne 2 0 (by decide), ne 2 1 (by decide), ne 3 0 (by decide), ne 3 1 (by decide), ne 0 1 (by decide), fun x hx => ?_⟩
  simp only [List.mem_cons, List.not_mem_nil, or_false] at hx
  rcases hx with rfl | rfl | rfl | rfl
  · exact ⟨off 4 x1, off 4 x2⟩
  · exact ⟨off 3 x1, off 3 x2⟩
  · exact ⟨off 0 x1, off 0 x2⟩
  · exact ⟨off 1 x1, off 1 x2⟩
end L2
namespace L2
open PySem PySem.Spec PyProof.Rows
end L2
namespace L2
open PySem PySem.Spec PyProof.Rows
section
variable {X : Cx} {pins : List (Addr × Obj)} {σ : St} {H : Hp} {s : Shared} {h' : Heap}
theorem Inv.turneds {t' : Nat} {ch : List Addr} (I : Inv X pins σ H s) (k : ∀ b o, b ∉ ch → s.heap.get? b = some o → h'.get? b = some o) (hf : ∀ b ∈ ch, FpOk X pins H b) : Inv X pins σ H { s with heap := h', toks := t' } := by
  have nit : ∀ b u, H b = some u → b ∉ ch := fun b u e z => by rw [(hf b z).1] at e; cases e
  refine I.step (g' := s.gens) (d' := s.drawn) (ch := ch) (fun b hb => ?_) (fun b o _ _ hc e _ => k b o hc e) (fun b o _ _ hc e _ => ⟨o.slots, k b o hc e⟩) (fun _ _ _ _ n => n) (fun b o hc e => ⟨o, k b o hc e⟩) (fun _ _ e => e) (fun _ _ _ e => e)
    (fun b ps e => ⟨#[], by rw [e]; simp⟩) (fun m hm => ?_) (fun b u e => ?_) I.bare
  · obtain ⟨f0, f1, f2, f3, f4, f5⟩ := hf b hb
    exact ⟨f3, f1, f4, f5⟩
  · obtain ⟨o, es, ep, ho, r⟩ := hm
    exact ⟨o, es, ep, k _ o (fun z => (hf _ z).2.1 rfl) ho, r⟩
  · refine (I.hok b u e).stay (fun c v hc q => k c v ?_ q) (fun _ q => q) fun _ _ q => q
    rcases hc with z | z
    · rw [z]; exact nit b u e
    · exact nit c _ z
theorem Inv.track {a : Addr} {o : HO} (I : Inv X pins σ H s) (hs : X.s₀.heap.objs.size ≤ a) (f : FpOk X pins H a) (new : ObjOk X.prog X.w (upd H a o) s.heap a o) : Inv X pins σ (upd H a o) s :=
  ⟨I.ok, I.os, I.bare, I.base.track hs f.1, I.loc, I.cell, by rw [upd_ne (Ne.symm f.2.1)]; exact I.free, fun x c e => by rw [upd_ne (f.2.2.2.2.1 x c e)]; exact I.freeC x c e, fun p hp => by
    obtain ⟨e, n, r⟩ := I.pin p hp
    exact ⟨e, by rw [upd_ne (f.2.2.2.2.2 p hp)]; exact n, r⟩, I.hok.track f.1 new, I.len⟩
end
def signs (x : Str) : List V := x.cps.toList.map fun c => V.str ⟨#[c]⟩
def Sr.vals (K : PySem.W.Frag) (H : Hp) : Sr → List V → Prop
  | .lst a, xs => SqL K H a xs
  | .tup a, xs => SqT K H a xs
  | .str x, xs => xs = signs x
def Sr.ofV : Sr → V → Prop
  | .lst a, v => v = .ref a
  | .tup a, v => v = .ref a
  | .str x, v => v = .str x
section
variable {X : Cx} {pins : List (Addr × Obj)} {σ : St} {H : Hp} {s : Shared} {S : Sr} {xs ys : List V}
theorem Sr.vals.get (I : Inv X pins σ H s) (h : S.vals X.K H xs) : ∃ vs, S.has s.heap vs ∧ vs.size = xs.length ∧ ∀ i x v, xs[i]? = some x → S.is vs i v → RelV x v := by
  cases S with
  | lst a =>
    obtain ⟨its, rv, p, hz⟩ := I.list h
    refine ⟨its.toArray, p.isList, by have := rv.length; simp; omega, fun i x v e1 e2 => ?_⟩
    obtain ⟨u, hu, ru⟩ := rv.get e1
    have e2 : its.toArray[i]? = some v := e2
    rw [List.getElem?_toArray, hu] at e2
    cases e2
    exact ru
  | tup a =>
    obtain ⟨its, rv, p, hz⟩ := I.tuple h
    refine ⟨its.toArray, (show s.heap.IsTuple a its.toArray from p), by have := rv.length; simp; omega, fun i x v e1 e2 => ?_⟩
    obtain ⟨u, hu, ru⟩ := rv.get e1
    have e2 : its.toArray[i]? = some v := e2
    rw [List.getElem?_toArray, hu] at e2
    cases e2
    exact ru
  | str z =>
    cases (show xs = signs z from h)
    refine ⟨Array.replicate z.cps.size .none, by show (Array.replicate _ _).size = _; simp, by simp [signs], fun i x v e1 e2 => ?_⟩
    obtain ⟨c, u, ec, rfl⟩ := (show ∃ c u, z.cps[i]? = some c ∧ v = .str ⟨#[c]⟩ u from e2)
    have : (signs z)[i]? = some (V.str ⟨#[c]⟩) := by simp [signs, ec]
    rw [this] at e1
    cases e1
    exact ⟨u, rfl⟩
theorem Sr.vals.inj (I : Inv X pins σ H s) (h : S.vals X.K H xs) (h' : S.vals X.K H ys) : xs = ys := by
  cases S with
  | lst a => exact I.list_inj h h'
  | tup a => exact I.tuple_inj h h'
  | str z => exact (show xs = signs z from h).trans (show ys = signs z from h').symm
theorem Sr.ofV.val {x : V} {u : Value} (e : S.ofV x) (r : RelV x u) : S.val u := by
  cases S with
  | lst a => cases (show x = .ref a from e); exact r
  | tup a => cases (show x = .ref a from e); exact r
  | str z => cases (show x = .str z from e); exact r
end
theorem Sr.vals.same {K : PySem.W.Frag} {H H' : Hp} {S : Sr} {xs : List V} (h : S.vals K H xs) (hl : ∀ a, SqL K H a xs → SqL K H' a xs) (ht : ∀ a, SqT K H a xs → SqT K H' a xs) : S.vals K H' xs := by
  cases S with
  | lst a => exact hl a h
  | tup a => exact ht a h
  | str z => exact h
def Itz (K : PySem.W.Frag) (S1 S2 : Sr) : It :=
  ⟨fun i H => ∃ xs ys x y, S1.vals K H xs ∧ S2.vals K H ys ∧ xs[i]? = some x ∧ ys[i]? = some y,
   fun i H v H' => ∃ p x y, v = .ref p ∧ H p = none ∧ H' = upd H p (.tup [x, y]) ∧ (∀ xs, S1.vals K H xs → xs[i]? = some x) ∧ ∀ ys, S2.vals K H ys → ys[i]? = some y,
   fun i H => ∃ xs ys, S1.vals K H xs ∧ S2.vals K H ys ∧ (i = xs.length ∨ (i < xs.length ∧ i = ys.length))⟩
theorem turn_zip {P : Program} {w : World} {K : PySem.W.Frag} {es : List Expr} {kk : Nat} {tp : Pos} {S1 S2 : Sr} {z TI TO i1 i2 : Addr} (D : ZA S1 S2 z TI TO i1 i2) :
    Turn P w K (.Tuple es kk tp) (Itz K S1 S2) [z, TI, TO, i1, i2] z (fun i h => IsZip h z TI TO .none ∧ IsPair h TI (.ref i1) (.ref i2) ∧ (∃ a b, IsPair h TO a b) ∧ S1.it h i1 i ∧ S2.it h i2 i) where
  mem := by simp
  obj := fun i h st b hb => by
    obtain ⟨hz, hi, ⟨a, a', ho⟩, h1, h2⟩ := st
    simp only [List.mem_cons, List.not_mem_nil, or_false] at hb
    rcases hb with rfl | rfl | rfl | rfl | rfl
    · exact ⟨_, hz, fun v z => by simp at z⟩
    · exact ⟨_, hi, fun v z => by simp at z⟩
    · exact ⟨_, ho, fun v z => by simp at z⟩
    · exact h1.obj
    · exact h2.obj
  keep := fun i h h' st k => by
    obtain ⟨hz, hi, ⟨a, a', ho⟩, h1, h2⟩ := st
    exact ⟨k z (by simp) _ hz, k TI (by simp) _ hi, ⟨a, a', k TO (by simp) _ ho⟩, h1.mv fun o e => k i1 (by simp) o e, h2.mv fun o e => k i2 (by simp) o e⟩
  item := by
    intro X hP hw hK hc i pins s σ H E I hf st hg
    subst hP hw hK
    obtain ⟨xs, ys, x, y, hx, hy, ex, ey⟩ := hg
    obtain ⟨v1, a1, z1, r1⟩ := Sr.vals.get I hx
    obtain ⟨v2, a2, z2, r2⟩ := Sr.vals.get I hy
    obtain ⟨hz, hi, ho, h1, h2⟩ := st
    have l1 := (List.getElem?_eq_some_iff.mp ex).1
    have l2 := (List.getElem?_eq_some_iff.mp ey).1
    have hT : s.TypeIs (.ref z) "zip" := ⟨_, hz, rfl⟩
    have lt : ∀ b ∈ [z, TI, TO, i1, i2], b ≠ s.heap.objs.size := fun b hb => by
      obtain ⟨a, a', ho⟩ := ho
      simp only [List.mem_cons, List.not_mem_nil, or_false] at hb
      rcases hb with rfl | rfl | rfl | rfl | rfl
      · exact Nat.ne_of_lt (Heap.lt_size hz)
      · exact Nat.ne_of_lt (Heap.lt_size hi)
      · exact Nat.ne_of_lt (Heap.lt_size ho)
      · obtain ⟨_, e, _⟩ := h1.obj; exact Nat.ne_of_lt (Heap.lt_size e)
      · obtain ⟨_, e, _⟩ := h2.obj; exact Nat.ne_of_lt (Heap.lt_size e)
    unfold pyNext
    refine wpAny_bind (wpAny_attempt (wpAny_callSpecial?_slot (name := Str.ofString "__next__") hT F.slot_zip_next (wpAny_call_entry F.slot_zip_next hT F.entry_zip_next
      (zip_item (A := X.A.in1) D (show X.A.in1.handled = none from I.ok.hd hc) ⟨hz, hi, ho, h1, h2, a1, a2⟩ (by omega) (by omega) fun xv yv h' tk px py Z hp hs up => wpAny_pure ?_) (F.args_zip_next_1 _))))
    refine ⟨_, rfl, wpAny_letOwnedTupleGo_zip Z.z fun h'' hz'' sb => ?_⟩
    have sb : Heap.SameBut z h' h'' := sb
    have kk : ∀ b o, b ∉ [z, TI, TO, i1, i2] → s.heap.get? b = some o → h''.get? b = some o := fun b o hb e => by
      simp only [List.mem_cons, List.not_mem_nil, or_false, not_or] at hb
      exact sb.extBut _ _ hb.1 (up b o hb.1 hb.2.2.1 hb.2.2.2.1 hb.2.2.2.2 e)
    have I1 : Inv X pins σ H { s with heap := h'', toks := tk } := I.turneds (t' := tk) kk hf
    have fT : FpOk X pins H s.heap.objs.size := I.fpOk (Nat.le_refl _) (I.hok.fresh (Nat.le_refl _))
    have zT : s.heap.objs.size ≠ z := Ne.symm (lt z (by simp))
    have oT : IsPair h'' s.heap.objs.size xv yv := sb.extBut _ _ zT hp
    have I2 : Inv X pins σ (upd H s.heap.objs.size (.tup [x, y])) { s with heap := h'', toks := tk } := I1.track (Nat.le_trans I.sz (Nat.le_refl _)) fT
      ⟨by show 2 ≤ sizeLine; decide, [xv, yv], .cons (r1 i x xv ex px) (.cons (r2 i y yv ey py) .nil), ⟨_, oT, rfl, _, rfl⟩⟩
    refine ⟨.ref s.heap.objs.size, _, I2, rfl, ⟨_, x, y, rfl, fT.1, rfl, fun xs' h => by rw [Sr.vals.inj I h hx]; exact ex, fun ys' h => by rw [Sr.vals.inj I h hy]; exact ey⟩, ⟨hz'', sb.extBut _ _ D.a Z.ti, ?_, Z.s1.mv fun o e => sb.extBut _ _ D.c e, Z.s2.mv fun o e => sb.extBut _ _ D.d e⟩, fun b hb => ?_⟩
    · obtain ⟨a, a', ho⟩ := Z.to
      exact ⟨a, a', sb.extBut _ _ D.b ho⟩
    · rw [upd_ne (lt b hb)]
      exact (hf b hb).1
  done := by
    intro X hP hw hK hc i pins s σ H E I hf st hg
    subst hP hw hK
    obtain ⟨xs, ys, hx, hy, l⟩ := hg
    obtain ⟨v1, a1, z1, r1⟩ := Sr.vals.get I hx
    obtain ⟨v2, a2, z2, r2⟩ := Sr.vals.get I hy
    obtain ⟨hz, hi, ho, h1, h2⟩ := st
    have hT : s.TypeIs (.ref z) "zip" := ⟨_, hz, rfl⟩
    unfold pyNext
    refine wpAny_bind (wpAny_attempt (wpAny_callSpecial?_slot (name := Str.ofString "__next__") hT F.slot_zip_next (wpAny_call_entry F.slot_zip_next hT F.entry_zip_next
      (zip_end (A := X.A.in1) D (show X.A.in1.handled = none from I.ok.hd hc) ⟨hz, hi, ho, h1, h2, a1, a2⟩ (by omega) fun h' e tk up ⟨o, eo, co⟩ => ?_) (F.args_zip_next_1 _))))
    refine wpAny_bind (wpAny_isInstance (T := "StopIteration") (b := true) ⟨o, eo, co⟩ isSubtype_stop ?_)
    refine wpAny_pure ⟨rfl, I.turneds (ch := [z, TI, TO, i1, i2]) (t' := tk) (fun b o hb e => ?_) hf⟩
    simp only [List.mem_cons, List.not_mem_nil, or_false, not_or] at hb
    exact up b o hb.1 hb.2.2.1 hb.2.2.2.1 hb.2.2.2.2 e
  self := fun _ _ _ _ _ st h => wpAny_pyIter_zip st.1 h
def iZip (K : PySem.W.Frag) (ta : TA) : TI := fun σ H R => ta σ H fun vs H1 => ∃ S1 S2 x y xs ys, vs = [x, y] ∧ Sr.ofV S1 x ∧ Sr.ofV S2 y ∧ S1.vals K H1 xs ∧ S2.vals K H1 ys ∧ R (Itz K S1 S2) H1
theorem pi_zip {X : Cx} {a b : Expr} {ta : TA} {p pos tp : Pos} {es : List Expr} {kk : Nat} (hg : Gl X "zip") (hm : X.mg "zip" = none) (ha : PA X [a, b] ta) (hs : starEach [a, b] X.env = [(false, eval a X.env), (false, eval b X.env)] := by rfl)
    (hs2 : starEach [b] X.env = [(false, eval b X.env)] := by rfl) : PI X (.Tuple es kk tp) (.Call (.Name "zip" p) [a, b] [] pos) (iZip X.K ta) := by
  intro pins s σ H R I h
  refine Call_ (ld_blt I hg hm boot_zip (PyProof.Rows.callWith_type1 (thn (ha pos pins s σ H _ I h) fun us s1 ⟨vs, H1, I1, r1, q1⟩ => ?_) (by rw [hs, hs2]) (by rw [hs2]; rfl)))
  obtain ⟨S1, S2, x, y, xs, ys, e, e1, e2, hx, hy, q⟩ := q1
  subst e
  cases r1 with
  | cons r rr =>
    cases rr with
    | cons r' rr =>
      cases rr
      obtain ⟨v1, a1, z1, _⟩ := Sr.vals.get I1 hx
      obtain ⟨v2, a2, z2, _⟩ := Sr.vals.get I1 hy
      refine call_zip (e1.val r) (e2.val r') a1 a2 fun h' Z D up => wpAny_pyIter_zip Z.z ⟨_, _, _, _, H1, rfl, I1.kept (t' := s1.toks) up, turn_zip D, ⟨Z.z, Z.ti, Z.to, Z.s1, Z.s2⟩, fun b hb => ?_, q⟩
      simp only [List.mem_cons, List.not_mem_nil, or_false] at hb
      have le : s1.heap.objs.size ≤ b := by rcases hb with rfl | rfl | rfl | rfl | rfl <;> omega
      exact I1.fpOk le (I1.hok.fresh le)
theorem for_zip {K : PySem.W.Frag} {S1 S2 : Sr} {xs ys : List V} {g : TG} {tb : TS} {D : Ends} {σ : St} {H : Hp} (Pv : Nat → St → Hp → Prop) (hll : xs.length = ys.length) (h0 : Pv 0 σ H) (hl : ∀ i σ H, i ≤ xs.length → Pv i σ H → S1.vals K H xs ∧ S2.vals K H ys)
    (hs : ∀ i x y p σ H, xs[i]? = some x → ys[i]? = some y → H p = none → Pv i σ H → g (.ref p) σ (upd H p (.tup [x, y])) fun σ2 H2 => tb { D with nx := Pv (i + 1), ct := Pv (i + 1), bk := D.nx } σ2 H2) (hd : ∀ σ H, Pv xs.length σ H → D.nx σ H) :
    ∃ W : Nat → Nat → St → Hp → Prop, (∃ m, W 0 m σ H) ∧ ∀ i m σ H, W i m σ H →
      ((Itz K S1 S2).stop i H ∧ D.nx σ H) ∨ ((Itz K S1 S2).go i H ∧ ∃ N : St → Hp → Prop, (∀ σ' H', N σ' H' → ∃ m', m' < m ∧ W (i + 1) m' σ' H') ∧ ∀ x H', (Itz K S1 S2).yld i H x H' → g x σ H' fun σ2 H2 => tb { D with nx := N, ct := N, bk := D.nx } σ2 H2) := by
  refine ⟨fun i m σ H => m = xs.length - i ∧ i ≤ xs.length ∧ Pv i σ H, ⟨xs.length, by simp, Nat.zero_le _, h0⟩, ?_⟩
  rintro i m σ H ⟨rfl, hi, p⟩
  obtain ⟨q1, q2⟩ := hl i σ H hi p
  by_cases hlt : i < xs.length
  · have hly : i < ys.length := by omega
    refine .inr ⟨⟨xs, ys, xs[i], ys[i], q1, q2, by simp [hlt], by simp [hly]⟩, Pv (i + 1), fun σ' H' p' => ⟨xs.length - (i + 1), by omega, rfl, hlt, p'⟩, fun x H' y => ?_⟩
    obtain ⟨pp, x', y', rfl, hn, rfl, y1, y2⟩ := y
    exact hs i x' y' pp σ H (y1 xs q1) (y2 ys q2) hn p
  · have e : i = xs.length := by omega
    subst e
    exact .inl ⟨⟨xs, ys, q1, q2, .inl rfl⟩, hd σ H p⟩
end L2
namespace L2
open PySem PySem.Spec PyProof.Rows
section
variable {X : Cx}
def rSlS : V → Option Int → Option Int → Hp → VK → Prop := fun x lo hi H Q => ∃ z, x = .str z ∧ z.length ≤ sizeLine ∧ Q (.str (Txt.slice z lo hi)) H
theorem sl_str : SlR X rSlS := by
  intro pins s σ H x v vl vu lo hi sl Q I rx hs pl pu h
  obtain ⟨z, rfl, hz, q⟩ := h
  obtain ⟨t, rfl⟩ := rx
  have fin : ∀ t' k, EP X pins σ Q (.str (Txt.slice z lo hi) t') { s with toks := k } := fun t' k => ⟨.str _, H, I.tok _, ⟨_, rfl⟩, q⟩
  refine ⟨"str", _, F.slot_str_getitem.lookup, typeIs_str _ _ _, ?_⟩
  cases pl with
  | none =>
    cases pu with
    | none => exact wpAny_getItem_str_slice (l := none) (u := none) (st := none) hs rfl (post_val_or_str ⟨Nat.le_trans (Txt.slice_le z _ _) hz, fin⟩)
    | int j uj => exact wpAny_getItem_str_slice (l := none) (u := some (j, uj)) (st := none) hs rfl (post_val_or_str ⟨Nat.le_trans (Txt.slice_le z _ _) hz, fin⟩)
  | int i ui =>
    cases pu with
    | none => exact wpAny_getItem_str_slice (l := some (i, ui)) (u := none) (st := none) hs rfl (post_val_or_str ⟨Nat.le_trans (Txt.slice_le z _ _) hz, fin⟩)
    | int j uj => exact wpAny_getItem_str_slice (l := some (i, ui)) (u := some (j, uj)) (st := none) hs rfl (post_val_or_str ⟨Nat.le_trans (Txt.slice_le z _ _) hz, fin⟩)
def rIndexS : V → List V → Hp → VK → Prop := fun x xs H Q => ∃ z y i rest, x = .str z ∧ xs = [.str y] ∧ Builtin.Str.occurrences z y 0 z.length 1 = i :: rest ∧ Q (.int (i : Nat)) H
theorem mt_indexS : MtR X "str.index" rIndexS := by
  intro pins s σ H x xs v us Q I rx rs h
  obtain ⟨z, y, i, rest, rfl, rfl, e, q⟩ := h
  obtain ⟨t, rfl⟩ := rx
  obtain ⟨u, rfl, ru⟩ := rs.one
  obtain ⟨t', rfl⟩ := ru
  exact call_gives F.slot_str_index (typeIs_str s z t) F.entry_str_index (F.args_str_index_2 _ _) (PySem.gives_str_index z y t t' i rest e) ⟨.int _, H, I.tok _, ⟨_, rfl⟩, q⟩
def Its (z : Str) : It := ⟨fun i _ => i < z.cps.size, fun i H x H' => H' = H ∧ ∃ c, z.cps[i]? = some c ∧ x = .str ⟨#[c]⟩, fun i _ => z.cps.size ≤ i⟩
theorem turn_str {P : Program} {w : World} {K : PySem.W.Frag} {tg : Expr} (z : Str) (t : Tok) (it : Addr) : Turn P w K tg (Its z) [it] it (fun i h => h.IsStrIter it "str_ascii_iterator" z t i) where
  mem := by simp
  obj := fun i h st b hb => by
    have e : b = it := by simpa using hb
    subst e
    obtain ⟨o, e, c, d⟩ := st
    exact ⟨o, e, fun v q => by rw [d] at q; cases q⟩
  keep := fun i h h' st k => by
    obtain ⟨o, e, r⟩ := st
    exact ⟨o, k it (by simp) o e, r⟩
  item := by
    intro X hP hw hK hc i pins s σ H E I hf st hg
    subst hP hw hK
    have hg : i < z.cps.size := hg
    obtain ⟨f0, f1, f2, f3, f4, f5⟩ := hf it (by simp)
    refine wpAny_pyNext_ascii_item st (c := z.cps[i]) (by simp [hg]) fun h' st' sb => ?_
    have I1 : Inv X pins σ H { s with heap := h', toks := s.toks + 1 } := I.turned (t' := s.toks + 1) (fun b o hb e => (sb.2 b hb).trans e) f0 f1 f3 f4 f5
    obtain ⟨o, e, c, d⟩ := id st'
    exact ⟨_, rfl, go_of (s := { s with heap := h', toks := s.toks + 1 }) e c d (by decide) ⟨.str ⟨#[z.cps[i]]⟩, H, I1, ⟨_, rfl⟩, ⟨rfl, _, by simp [hg], rfl⟩, st', fun b hb => (hf b hb).1⟩⟩
  done := by
    intro X hP hw hK hc i pins s σ H E I hf st hg
    subst hP hw hK
    have hg : z.cps.size ≤ i := hg
    obtain ⟨f0, f1, f2, f3, f4, f5⟩ := hf it (by simp)
    exact wpAny_pyNext_ascii_end (I.ok.hd hc) st (by simp; omega) fun h' eb => ⟨rfl, I.turned (t' := s.toks) (fun b o hb e => eb b o hb e) f0 f1 f3 f4 f5⟩
  self := fun _ _ _ _ _ st h => wpAny_pyIter_striter_ascii st h
def iStr (tl : TE) : TI := fun σ H R => tl σ H fun x H1 => ∃ z, x = .str z ∧ z.cps.all (· < 128) = true ∧ R (Its z) H1
theorem pi_str {tg l : Expr} {tl : TE} (hl : PE X l tl) : PI X tg l (iStr tl) := by
  intro pins s σ H R I h
  refine thn (hl pins s σ H _ I h) fun v s1 ⟨x, H1, I1, r1, z, e, ha, q⟩ => ?_
  subst e
  obtain ⟨t, rfl⟩ := r1
  refine wpAny_pyIter_ascii ha ?_
  have hf : H1 s1.heap.objs.size = none := I1.hok.fresh (Nat.le_refl _)
  refine ⟨s1.heap.objs.size, [s1.heap.objs.size], _, Its z, H1, rfl, I1.kept (t' := s1.toks) (fun b ob q => Heap.get?_push_of_some _ q), turn_str z t _, ⟨_, Heap.get?_push_size _ rfl, rfl, rfl⟩, fun b hb => ?_, q⟩
  have e : b = s1.heap.objs.size := by simpa using hb
  subst e
  exact I1.fpOk (Nat.le_refl _) hf
end
end L2
namespace L2
open PySem PySem.Spec PyProof.Rows
section
variable {X : Cx}
theorem vals_bl {bs : List Bool} {its : List Value} (r : Vals (bs.map V.bl) its) {i : Nat} {v : Value} (h : its[i]? = some v) : ∃ b, bs[i]? = some b ∧ v = .bool b := by
  have len := r.length
  rw [List.length_map] at len
  have hi : i < its.length := (List.getElem?_eq_some_iff.mp h).1
  have hb : bs[i]? = some (bs[i]'(by omega)) := List.getElem?_eq_getElem (by omega)
  obtain ⟨u, hu, ru⟩ := r.get (i := i) (x := V.bl (bs[i]'(by omega))) (by rw [List.getElem?_map, hb]; rfl)
  rw [h] at hu
  cases hu
  exact ⟨_, hb, ru⟩
theorem all_range (bs : List Bool) : (List.range bs.length).all (fun i => bs[i]?.getD false) = bs.all id := by
  rw [Bool.eq_iff_iff, List.all_eq_true, List.all_eq_true]
  constructor
  · intro h b hb
    obtain ⟨i, hi, e⟩ := List.getElem_of_mem hb
    have := h i (List.mem_range.mpr hi)
    rw [List.getElem?_eq_getElem hi, Option.getD_some, e] at this
    exact this
  · intro h i hi
    have hi := List.mem_range.mp hi
    rw [List.getElem?_eq_getElem hi, Option.getD_some]
    exact h _ (List.getElem_mem hi)
def rAll (K : PySem.W.Frag) (f : List Bool → Bool) : List V → Hp → VK → Prop := fun xs H Q => ∃ a bs, xs = [.ref a] ∧ SqL K H a (bs.map V.bl) ∧ Q (.bl (f bs)) H
theorem call_all (hc : X.calm = true) : CallR X (.builtin "all") (rAll X.K fun bs => bs.all id) := by
  intro pins s σ H xs us Q I r h
  obtain ⟨a, bs, rfl, hq, q⟩ := h
  obtain ⟨u, rfl, ru⟩ := r.one
  cases (show u = Value.ref a from ru)
  obtain ⟨its, rv, p, hz⟩ := I.list hq
  have lt : a ≠ s.heap.objs.size := by obtain ⟨o, n, e, _⟩ := p; exact Nat.ne_of_lt (Heap.lt_size e)
  have hh : X.A.in1.handled = none := I.ok.hd hc
  have hl := p.isList
  have len := rv.length
  rw [List.length_map] at len
  refine call_all_walk (wpAny_pyIter_list hl ⟨_, _, _, _, _, _, fun i => bs[i]?.getD false, rfl, Walks.list hh s.heap.objs.size a lt its.toArray, ⟨⟨_, Heap.get?_push_size _ rfl, rfl, rfl⟩, Heap.IsList.push hl _⟩, fun i v s' Q' E' hv q' => ?_, fun h' tk k => ?_⟩)
  · have hv : its.toArray[i]? = some v := hv
    rw [List.getElem?_toArray] at hv
    obtain ⟨b, eb, rfl⟩ := vals_bl rv hv
    have q' : Q' (bs[i]?.getD false) s' := q'
    rw [eb] at q'
    exact wpAny_truthy_bool q'
  · rw [List.size_toArray, ← len, all_range]
    refine ⟨.bl _, H, I.kept (t' := tk) fun b o e => k b o (fun z => ?_) (Heap.get?_push_of_some _ e), rfl, q⟩
    rw [List.mem_singleton] at z
    exact absurd (Heap.lt_size e) (by rw [z]; exact Nat.lt_irrefl _)
end
end L2
namespace L2
open PySem PySem.Spec PyProof.Rows
section
variable {prog : Program} {w : World} {A : Around} {E : Value → Shared → Prop} {s : Shared}
end
theorem for_it {J : It} {n : Nat} {g : TG} {tb : TS} {D : Ends} {σ : St} {H : Hp} (Pv : Nat → St → Hp → Prop) (h0 : Pv 0 σ H)
    (hs : ∀ i σ H, i < n → Pv i σ H → J.go i H ∧ ∀ x H', J.yld i H x H' → g x σ H' fun σ2 H2 => tb { D with nx := Pv (i + 1), ct := Pv (i + 1), bk := D.nx } σ2 H2) (hd : ∀ σ H, Pv n σ H → J.stop n H ∧ D.nx σ H) :
    ∃ W : Nat → Nat → St → Hp → Prop, (∃ m, W 0 m σ H) ∧ ∀ i m σ H, W i m σ H →
      (J.stop i H ∧ D.nx σ H) ∨ (J.go i H ∧ ∃ N : St → Hp → Prop, (∀ σ' H', N σ' H' → ∃ m', m' < m ∧ W (i + 1) m' σ' H') ∧ ∀ x H', J.yld i H x H' → g x σ H' fun σ2 H2 => tb { D with nx := N, ct := N, bk := D.nx } σ2 H2) := by
  refine ⟨fun i m σ H => m = n - i ∧ i ≤ n ∧ Pv i σ H, ⟨n, by simp, Nat.zero_le _, h0⟩, ?_⟩
  rintro i m σ H ⟨rfl, hi, p⟩
  by_cases hlt : i < n
  · obtain ⟨a, b⟩ := hs i σ H hlt p
    exact .inr ⟨a, Pv (i + 1), fun σ' H' p' => ⟨n - (i + 1), by omega, rfl, hlt, p'⟩, b⟩
  · have e : i = n := by omega
    subst e
    exact .inl (hd σ H p)
theorem op_isnotBB {X : Cx} : OpR X (compareOp .IsNot) (fun x y H Q => ∃ a b, x = .bl a ∧ y = .bl b ∧ Q (.bl (!decide (a = b))) H) := by
  intro pins s σ H x y v u Q I rx ry h
  obtain ⟨a, b, rfl, rfl, q⟩ := h
  cases rx
  cases ry
  show wpAny _ _ (do return Value.bool (!(← isSame (.bool a) (.bool b)))) _ _ _
  refine wpAny_bind (wpAny_pure (wpAny_pure (fin_bl I q ?_)))
  cases a <;> cases b <;> rfl
end L2
namespace L2
open PySem PySem.Spec PyProof.Rows
def SameT (H H' : Hp) : Prop := ∀ p vs, H p = some (.tup vs) → H' p = some (.tup vs)
theorem SameT.refl (H : Hp) : SameT H H := fun _ _ h => h
theorem SameT.trans {H H1 H2 : Hp} (x : SameT H H1) (y : SameT H1 H2) : SameT H H2 := fun p vs h => y p vs (x p vs h)
theorem Same.t {H H' : Hp} (x : Same H H') : SameT H H' := fun p vs h => x p _ h
def Ents (Pd : Nat → V → Hp → Prop) (ys : List V) (n : Nat) (H : Hp) : Prop := ys.length = n ∧ ∀ j, j < n → ∃ u, ys[j]? = some u ∧ Pd j u H
section
variable {Pd Pe : Nat → V → Hp → Prop} {ys : List V} {n : Nat} {H H' : Hp} {v : V}
theorem Ents.nil : Ents Pd [] 0 H := ⟨rfl, fun j h => absurd h (Nat.not_lt_zero j)⟩
theorem Ents.mono (h : Ents Pd ys n H) (s : ∀ j u, j < n → Pd j u H → Pe j u H') : Ents Pe ys n H' := ⟨h.1, fun j hj => by
  obtain ⟨u, e, p⟩ := h.2 j hj
  exact ⟨u, e, s j u hj p⟩⟩
theorem Ents.snoc (h : Ents Pd ys n H) (p : Pd n v H) : Ents Pd (ys ++ [v]) (n + 1) H := ⟨by rw [List.length_append, h.1]; rfl, fun j hj => by
  by_cases hn : j < n
  · obtain ⟨u, e, q⟩ := h.2 j hn
    exact ⟨u, by rw [List.getElem?_append_left (by rw [h.1]; exact hn)]; exact e, q⟩
  · have e : j = n := by omega
    subst e
    exact ⟨v, by rw [List.getElem?_append_right (by rw [h.1]; exact Nat.le_refl _), h.1, Nat.sub_self]; rfl, p⟩⟩
theorem Ents.at (h : Ents Pd ys n H) {j : Nat} {u : V} (e : ys[j]? = some u) : j < n ∧ Pd j u H := by
  have hj : j < n := by rw [← h.1]; exact (List.getElem?_eq_some_iff.mp e).1
  obtain ⟨u', e', p⟩ := h.2 j hj
  rw [e] at e'
  cases e'
  exact ⟨hj, p⟩
end
def TupOf (Pd : Nat → V → Hp → Prop) (n : Nat) (v : V) (H : Hp) : Prop := ∃ p vs, v = .ref p ∧ H p = some (.tup vs) ∧ Ents Pd vs n H
def SeqOf (K : PySem.W.Frag) (Pd : Nat → V → Hp → Prop) (n : Nat) (v : V) (H : Hp) : Prop := ∃ S vs, Sr.ofV S v ∧ S.vals K H vs ∧ (∀ H', Same H H' → S.vals K H' vs ∧ LenV K v H' vs.length) ∧ Ents Pd vs n H
theorem TupOf.seq {K : PySem.W.Frag} {Pd : Nat → V → Hp → Prop} {n : Nat} {v : V} {H : Hp} (h : TupOf Pd n v H) : SeqOf K Pd n v H := by
  obtain ⟨p, vs, rfl, hp, e⟩ := h
  exact ⟨.tup p, vs, rfl, SqT.of hp, fun H' q => ⟨SqT.of (q _ _ hp), .inr ⟨_, SqT.of (q _ _ hp), rfl⟩⟩, e⟩
theorem TupOf.mono {Pd Pe : Nat → V → Hp → Prop} {n : Nat} {v : V} {H H' : Hp} (h : TupOf Pd n v H) (s : SameT H H') (m : ∀ j u, j < n → Pd j u H → Pe j u H') : TupOf Pe n v H' := by
  obtain ⟨p, vs, rfl, hp, e⟩ := h
  exact ⟨p, vs, rfl, s _ _ hp, e.mono m⟩
theorem SeqOf.mono {K : PySem.W.Frag} {Pd Pe : Nat → V → Hp → Prop} {n : Nat} {v : V} {H H' : Hp} (h : SeqOf K Pd n v H) (s : Same H H') (m : ∀ j u, j < n → Pd j u H → Pe j u H') : SeqOf K Pe n v H' := by
  obtain ⟨S, vs, e, hv, hs, he⟩ := h
  exact ⟨S, vs, e, (hs _ s).1, fun H2 q => hs _ (s.trans q), he.mono m⟩
theorem SeqOf.list {K : PySem.W.Frag} {Pd : Nat → V → Hp → Prop} {n : Nat} {p : Addr} {vs : List V} {H : Hp} (hp : H p = some (.lst vs)) (e : Ents Pd vs n H) : SeqOf K Pd n (.ref p) H :=
  ⟨.lst p, vs, rfl, SqL.of hp, fun H' q => ⟨SqL.of (q _ _ hp), .inl ⟨_, SqL.of (q _ _ hp), rfl⟩⟩, e⟩
theorem TupOf.len {K : PySem.W.Frag} {Pd : Nat → V → Hp → Prop} {n : Nat} {v : V} {H : Hp} (h : TupOf Pd n v H) : LenV K v H n := by
  obtain ⟨p, vs, rfl, hp, e⟩ := h
  have e1 := e.1
  subst e1
  exact .inr ⟨_, SqT.of hp, rfl⟩
theorem SeqOf.len {K : PySem.W.Frag} {Pd : Nat → V → Hp → Prop} {n : Nat} {v : V} {H : Hp} (h : SeqOf K Pd n v H) : LenV K v H n := by
  obtain ⟨S, vs, _, _, hs, e⟩ := h
  have q := (hs _ (Same.refl _)).2
  rw [e.1] at q
  exact q
theorem comp_go {J : It} {n k : Nat} {g : TG} {te : TE} {σ : St} {Q : VK} {H1 : Hp} (Pv : Nat → List V → Hp → Prop) (hn : n ≤ 1000) (h0 : Pv 0 [] H1) (hl : ∀ i ys H, Pv i ys H → ys.length = i)
    (hgo : ∀ i ys H, i < n → Pv i ys H → J.go i H ∧ ∀ x H', J.yld i H x H' → g x (σ ++ List.replicate k none) H' fun σ2 H2 => (∃ zs, σ2 = σ ++ zs ∧ zs.length = k) ∧ te σ2 H2 fun v H3 => Pv (i + 1) (ys ++ [v]) H3)
    (hstop : ∀ ys H, Pv n ys H → J.stop n H) (hend : ∀ ys H p, Pv n ys H → H p = none → Q (.ref p) (upd H p (.lst ys))) :
    CTail J k g te σ Q H1 := by
  have z : 1000 < sizeLine := by decide
  refine ⟨fun i m ys H => m = n - i ∧ i ≤ n ∧ Pv i ys H, ⟨n, rfl, Nat.zero_le _, h0⟩, ?_⟩
  rintro i m ys H ⟨rfl, hi, p⟩
  have yl := hl i ys H p
  by_cases hlt : i < n
  · obtain ⟨a, b⟩ := hgo i ys H hlt p
    refine .inr ⟨a, by omega, fun x H' y => ?_⟩
    have c := b x H' y
    have e : (fun σ2 H2 => (∃ zs, σ2 = σ ++ zs ∧ zs.length = k) ∧ te σ2 H2 fun v H3 => ∃ m', m' < n - i ∧ m' = n - (i + 1) ∧ i + 1 ≤ n ∧ Pv (i + 1) (ys ++ [v]) H3) = fun σ2 H2 => (∃ zs, σ2 = σ ++ zs ∧ zs.length = k) ∧ te σ2 H2 fun v H3 => Pv (i + 1) (ys ++ [v]) H3 := by
      funext σ2 H2
      congr 2
      funext v H3
      exact propext ⟨fun ⟨_, _, _, _, q⟩ => q, fun q => ⟨_, by omega, rfl, hlt, q⟩⟩
    rw [e]
    exact c
  · have e : i = n := by omega
    subst e
    exact .inl ⟨hstop ys H p, by omega, fun q nq => hend ys H q p nq⟩
end L2
namespace L2
open PySem Mine
def KAt (C : Addr) (fs : List (Str × V)) (H : Hp) (k : V) : Prop := ∃ p dx, k = .ref p ∧ H p = some (.ins C dx fs)
theorem KAt.same {C : Addr} {fs : List (Str × V)} {H H' : Hp} {k : V} (e : Same H H') (h : KAt C fs H k) : KAt C fs H' k := by
  obtain ⟨p, dx, rfl, h⟩ := h
  exact ⟨p, dx, rfl, e _ _ h⟩
def spBin (C : Addr) (fs : List (Str × V)) (S : SR) (is : Hp → V → S.W → Prop) (f : S.W → S.W → S.W) : Sp := fun vs H Q _ => ∃ k x y a b m n, vs = [k, x, y] ∧
  (KAt C fs H k ∧ is H x a ∧ is H y b ∧ S.sz m a ∧ S.sz n b ∧ m + n ≤ 60000000) ∧ ∀ v H', Same H H' → is H' v (f a b) → Q v H'
def spNul (C : Addr) (fs : List (Str × V)) (S : SR) (is : Hp → V → S.W → Prop) (z : S.W) : Sp := fun vs H Q _ => ∃ k, vs = [k] ∧ KAt C fs H k ∧ ∀ v H', Same H H' → is H' v z → Q v H'
def spIsW (C : Addr) (fs : List (Str × V)) (S : SR) (is : Hp → V → S.W → Prop) : Sp := fun vs H Q _ => ∃ k x a, vs = [k, x] ∧ (KAt C fs H k ∧ is H x a) ∧ Q (.bl true) H
structure KindR (P : Program) (w : World) (K : PySem.W.Frag) (mg : Str → Option Value) (base : Heap) where
  S : SR
  C : Addr
  fs : List (Str × V)
  cl : Cls K C
  is : Hp → V → S.W → Prop
  same : ∀ {H H' : Hp} {v : V} {x : S.W}, SameT H H' → is H v x → is H' v x
  isd : ∀ {H : Hp} {v : V} {x : S.W}, is H v x → Is K H v (S.data x)
  f_times : Addr
  d_times : FuncData
  t_times : Meth K C "times" f_times
  b_times : Binds K d_times ["self", "x", "y"] []
  l_times : fs.lookup ("times" : Str) = none
  G_times : FnOk P w K mg base CX0 40 f_times d_times ["self", "x", "y"] (spBin C fs S is S.mul)
  f_nought : Addr
  d_nought : FuncData
  t_nought : Meth K C "nought" f_nought
  b_nought : Binds K d_nought ["self"] []
  l_nought : fs.lookup ("nought" : Str) = none
  G_nought : FnOk P w K mg base CX0 40 f_nought d_nought ["self"] (spNul C fs S is S.zero)
  f_is_weight : Addr
  d_is_weight : FuncData
  t_is_weight : Meth K C "is_weight" f_is_weight
  b_is_weight : Binds K d_is_weight ["self", "thing"] []
  l_is_weight : fs.lookup ("is_weight" : Str) = none
  G_is_weight : FnOk P w K mg base CX0 40 f_is_weight d_is_weight ["self", "thing"] (spIsW C fs S is)
  f_one : Addr
  d_one : FuncData
  t_one : Meth K C "one" f_one
  b_one : Binds K d_one ["self"] []
  l_one : fs.lookup ("one" : Str) = none
  G_one : FnOk P w K mg base CX0 40 f_one d_one ["self"] (spNul C fs S is S.one)
section
variable {P : Program} {w : World} {K : PySem.W.Frag} {mg : Str → Option Value} {base : Heap}
theorem KindR.eqD (R : KindR P w K mg base) {H : Hp} {x y : V} {a b : R.S.W} {Q : VK} (hx : R.is H x a) (hy : R.is H y b) (e : a = b) (q : Q (.bl true) H) : rEqD K x y H Q :=
  ⟨_, _, R.isd hx, R.isd hy, R.S.sh _, R.S.sh _, R.S.nm _ _, by subst e; rw [R.S.eq]; exact q⟩
end
def IsF (H : Hp) (v : V) (a b : Int) : Prop := ∃ p, v = .ref p ∧ H p = some (.tup [.int a, .int b])
theorem IsF.same {H H' : Hp} {v : V} {a b : Int} (e : SameT H H') (h : IsF H v a b) : IsF H' v a b := by
  obtain ⟨p, rfl, h⟩ := h
  exact ⟨p, rfl, e _ _ h⟩
theorem IsF.is {K : PySem.W.Frag} {H : Hp} {v : V} {a b : Int} (h : IsF H v a b) : Is K H v (.tuple [.int a, .int b]) := by
  obtain ⟨p, rfl, h⟩ := h
  exact .tup (SqT.of h) (.cons (.int _) (.cons (.int _) .nil))
theorem IsF.new {H : Hp} {p : Addr} {a b : Int} : IsF (upd H p (.tup [.int a, .int b])) (.ref p) a b := ⟨p, rfl, upd_same⟩
def isFr (H : Hp) (v : V) (x : Fr) : Prop := IsF H v x.t x.b
def isRe (p : Int) (_ : Hp) (v : V) (x : Re p) : Prop := v = .int x.x
def cV : Option Int → V
  | none => .non
  | some i => .int i
def isCo (_ : Hp) (v : V) (x : Option Int) : Prop := v = cV x
def isTr (_ : Hp) (v : V) (x : Bool) : Prop := v = .bl x
def pfs (p : Int) : List (Str × V) := putF "prime" (.int p) []
theorem pfs_prime (p : Int) : (pfs p).lookup ("prime" : Str) = some (.int p) := by
  unfold pfs
  rw [lookup_putF, if_pos rfl]
theorem pfs_no (p : Int) {m : Str} (h : ¬ m = "prime") : (pfs p).lookup m = none := by
  unfold pfs
  rw [lookup_putF, if_neg h]; rfl
theorem same_made {H : Hp} {C x dx : Addr} {fs : List (Str × V)} (n : H x = none) (m : H dx = none) : Same H (upd (upd H dx (.own x)) x (.ins C dx fs)) := fun b o e => by
  rw [upd_ne (ne_of_none e n), upd_ne (ne_of_none e m)]; exact e
theorem cut_take (xs : List V) (k : Nat) : cutV xs none (some (k : Int)) = xs.take k := by
  unfold cutV
  rw [HT.sIx_none, HT.sIx_nat, List.drop_zero, Nat.sub_zero]
  by_cases h : k ≤ xs.length
  · rw [Nat.min_eq_left h]
  · rw [Nat.min_eq_right (by omega), List.take_length, List.take_of_length_le (by omega)]
theorem decI {i j : Int} (e : i = j) : decide (V.int i = V.int j) = true := decide_eq_true (congrArg V.int e)
theorem sz_bitsG {x : Int} {n : Nat} (h : x.natAbs ≤ 2 ^ n) : Builtin.Int.intBits x ≤ n + 1 := intBits_le_iff.mpr (Nat.lt_of_le_of_lt h (Nat.pow_lt_pow_right (by decide) (Nat.lt_succ_self _)))
theorem mulG {x y : Int} {m n : Nat} (h1 : x.natAbs ≤ 2 ^ m) (h2 : y.natAbs ≤ 2 ^ n) (h : m + n ≤ 60000000) : CMulG x y := by
  have a := sz_bitsG h1
  have b := sz_bitsG h2
  show _ ≤ 2 ^ 27
  have e : (2 : Nat) ^ 27 = 134217728 := by decide
  omega
def KindR.Wt {P : Program} {w : World} {K : PySem.W.Frag} {mg : Str → Option Value} {base : Heap} (R : KindR P w K mg base) (x : Nat → R.S.W) (m : Nat) : Nat → V → Hp → Prop := fun j u H => R.is H u (x j) ∧ R.S.lv m 32 (x j)
abbrev KindR.Row {P : Program} {w : World} {K : PySem.W.Frag} {mg : Str → Option Value} {base : Heap} (R : KindR P w K mg base) (n : Nat) (x : Nat → R.S.W) (m : Nat) : V → Hp → Prop := TupOf (R.Wt x m) n
abbrev KindR.Seq {P : Program} {w : World} {K : PySem.W.Frag} {mg : Str → Option Value} {base : Heap} (R : KindR P w K mg base) (n : Nat) (x : Nat → R.S.W) (m : Nat) : V → Hp → Prop := SeqOf K (R.Wt x m) n
abbrev KindR.Tab {P : Program} {w : World} {K : PySem.W.Frag} {mg : Str → Option Value} {base : Heap} (R : KindR P w K mg base) (h n : Nat) (x : Nat → Nat → R.S.W) (m : Nat) : V → Hp → Prop := TupOf (fun j u H => R.Row n (x j) m u H) h
section
variable {P : Program} {w : World} {K : PySem.W.Frag} {mg : Str → Option Value} {base : Heap} {R : KindR P w K mg base} {h n m : Nat} {x : Nat → R.S.W} {y : Nat → Nat → R.S.W} {v : V} {H H' : Hp}
theorem KindR.Wt.same (s : SameT H H') {j : Nat} (e : R.Wt x m j v H) : R.Wt x m j v H' := ⟨R.same s e.1, e.2⟩
theorem KindR.Row.same (s : SameT H H') (e : R.Row n x m v H) : R.Row n x m v H' := e.mono s fun _ _ _ q => KindR.Wt.same s q
theorem KindR.Seq.same (s : Same H H') (e : R.Seq n x m v H) : R.Seq n x m v H' := e.mono s fun _ _ _ q => KindR.Wt.same s.t q
theorem KindR.Tab.same (s : SameT H H') (e : R.Tab h n y m v H) : R.Tab h n y m v H' := e.mono s fun _ _ _ q => KindR.Row.same s q
end
end L2
namespace Mine
def sm (S : SR) (f : Nat → S.W) : Nat → S.W
  | 0 => S.zero
  | n + 1 => S.add (sm S f n) (f n)
section
variable {S : SR}
theorem sm_congr {f g : Nat → S.W} : ∀ {n : Nat}, (∀ i, i < n → f i = g i) → sm S f n = sm S g n
  | 0, _ => rfl
  | n + 1, h => by
    show S.add _ _ = S.add _ _
    rw [sm_congr fun i hi => h i (Nat.lt_succ_of_lt hi), h n (Nat.lt_succ_self n)]
theorem sm_zero : ∀ n : Nat, sm S (fun _ => S.zero) n = S.zero
  | 0 => rfl
  | n + 1 => by show S.add _ _ = _; rw [sm_zero n, S.add_zero]
end
end Mine
namespace Mine
section
variable {S : SR} {α β : Type}
theorem zero_add (x : S.W) : S.add S.zero x = x := by rw [S.add_comm, S.add_zero]
theorem one_mul (x : S.W) : S.mul S.one x = x := by rw [S.mul_comm, S.mul_one]
theorem zero_mul (x : S.W) : S.mul S.zero x = S.zero := by rw [S.mul_comm, S.mul_zero]
theorem sm_pick (c : S.W) (k : Nat) : ∀ n : Nat, sm S (fun i => if k = i then c else S.zero) n = if k < n then c else S.zero
  | 0 => by rw [if_neg (Nat.not_lt_zero k)]; rfl
  | n + 1 => by
    show S.add _ (if k = n then c else S.zero) = _
    rw [sm_pick c k n]
    by_cases h : k < n
    · rw [if_pos h, if_neg (by omega), if_pos (by omega), S.add_zero]
    · by_cases e : k = n
      · rw [if_neg h, if_pos e, if_pos (by omega), zero_add]
      · rw [if_neg h, if_neg e, if_neg (by omega), S.add_zero]
theorem sm_pick' (g : Nat → S.W) (k n : Nat) (h : k < n) : sm S (fun i => if k = i then g i else S.zero) n = g k := by
  have e : sm S (fun i => if k = i then g i else S.zero) n = sm S (fun i => if k = i then g k else S.zero) n := sm_congr fun i _ => by
    by_cases e : k = i
    · rw [if_pos e, if_pos e, e]
    · rw [if_neg e, if_neg e]
  rw [e, sm_pick, if_pos h]
end
def hd (w : List Nat) : Nat := w.headD 0
def la (w : List Nat) : Nat := w.getLastD 0
section
variable (S : SR) (n : Nat) (st : Nat → S.W) (tb : Nat → Nat → Nat → S.W) (wd : Nat → Nat)
def ahd : Nat → Nat → S.W
  | 0 => st
  | k + 1 => fun j => sm S (fun i => S.mul (ahd k i) (tb (wd k) i j)) n
variable {S n st tb wd}
end
end Mine
namespace L2
open PySem PySem.Spec PyProof.Rows
def sg1 (z : Str) (i : Nat) : Str := ⟨#[(z.cps[i]?).getD 0]⟩
def met (z : Str) (i : Nat) (k : Str) : Bool := (List.range i).any fun j => k == sg1 z j
theorem met_succ (z : Str) (i : Nat) (k : Str) : met z (i + 1) k = (met z i k || decide (k = sg1 z i)) := by
  unfold met
  rw [List.range_succ, List.any_append]
  have e : (k == sg1 z i) = decide (k = sg1 z i) := by rw [Bool.eq_iff_iff, beq_iff_eq, decide_eq_true_eq]
  simp [List.any_cons, e]
theorem met_new {z : Str} {i : Nat} (nd : z.cps.toList.Nodup) (hi : i < z.cps.size) : met z i (sg1 z i) = false := by
  unfold met
  rw [List.any_eq_false]
  intro j hj
  have hj := List.mem_range.mp hj
  simp only [beq_iff_eq]
  intro e
  have e1 : (z.cps[i]?).getD 0 = (z.cps[j]?).getD 0 := by
    have := congrArg (fun s : Str => s.cps[0]?) e
    simpa [sg1] using this
  rw [Array.getElem?_eq_getElem hi, Array.getElem?_eq_getElem (by omega)] at e1
  have e2 : z.cps.toList[i]'(by simpa using hi) = z.cps.toList[j]'(by simp; omega) := by simpa using e1
  exact (List.pairwise_iff_getElem.mp nd) j i (by simp; omega) (by simpa using hi) hj e2.symm
section
variable {prog : Program} {w : World} {A : Around} {R : Result → Shared → Prop} {I : Addr} {fp wr : List Addr} {G : Array GenState → Array GenState → Prop} {St : Nat → Shared → Prop}
theorem set_loopS {z : Str} (W : WalksS prog w A.in1 I fp wr G z.cps.size (SignAt z) St) (S : Addr) (hSf : S ∉ fp) (nd : z.cps.toList.Nodup) (hb : z.cps.size + 1 < scanBound) :
    ∀ (k i : Nat) (s : Shared), z.cps.size - i = k → i ≤ z.cps.size → St i s →
      s.heap.SetOf (PySem.strKind prog w) S (met z i) i →
      (∀ s', Moved (S :: wr) G s s' → s'.heap.SetOf (PySem.strKind prog w) S (met z z.cps.size) z.cps.size → R (.ok (.ret .none)) s') →
      codeAny (model prog w) A (.builtin "set.update.loop" ⟨[.ref S, .ref I], []⟩) R s := by
  have hSw : S ∉ wr := fun h => hSf (W.sub _ h)
  have hsub : ∀ b ∈ wr, b ∈ S :: wr := fun b hb => List.mem_cons_of_mem _ hb
  intro k
  induction k with
  | zero =>
    intro i s hk hi hst hS hR
    have hin : i = z.cps.size := by omega
    subst hin
    refine codeAny_builtin PyProof.Rows.F.entry_set_update_loop ?_
    rw [Around.under_plainId PyProof.Rows.F.plain_set_update_loop _]
    show wpAny _ A.in1 (pyNext (.ref I) >>= _) _ _ s
    refine wpAny_bind (W.done s _ _ hst fun s' hm => ?_)
    show wpAny _ A.in1 (ret Value.none) _ _ s'
    exact wpAny_pure (hR s' (hm.mono hsub) (by
      obtain ⟨o, es, ep, t, ho, rest⟩ := hS
      exact ⟨o, es, ep, t, hm.heap S _ hSw ho, rest⟩))
  | succ k ih =>
    intro i s hk hi hst hS hR
    have hlt : i < z.cps.size := by omega
    refine codeAny_builtin PyProof.Rows.F.entry_set_update_loop ?_
    rw [Around.under_plainId PyProof.Rows.F.plain_set_update_loop _]
    show wpAny _ A.in1 (pyNext (.ref I) >>= _) _ _ s
    refine wpAny_bind (W.item i s _ _ hlt hst fun v s' hP hst' hm => ?_)
    obtain ⟨c, t, hc, rfl⟩ := hP
    have ec : (⟨#[c]⟩ : Str) = sg1 z i := by unfold sg1; rw [hc]; rfl
    rw [ec]
    have hS' : s'.heap.SetOf (PySem.strKind prog w) S (met z i) i := by
      obtain ⟨o, es, ep, tb, ho, rest⟩ := hS
      exact ⟨o, es, ep, tb, hm.heap S _ hSw ho, rest⟩
    show wpAny _ A.in1 (holding [Value.str (sg1 z i) t] (setAdd S (.str (sg1 z i) t)) >>= _) _ _ s'
    refine wpAny_bind (wpAny_holding ?_)
    unfold setAdd
    refine wpAny_holding ?_
    refine wpAny_bind ((PySem.strKind prog w).pyHash (k := sg1 z i) (strKind_is _ _ _ _) ?_)
    refine wpAny_setAddHashed_of (knd := PySem.strKind prog w) (s := { s' with toks := s'.toks + 1 }) (strKind_is _ _ _ _) rfl hS' (by omega) fun h' hsb hS2 => ?_
    have hSi : h'.SetOf (PySem.strKind prog w) S (met z (i + 1)) (i + 1) :=
      SetOf_congr hS2 (fun k' => by rw [met_succ]) (by rw [met_new nd hlt]; rfl)
    refine wpAny_pure ⟨plainId_quiet PyProof.Rows.F.plain_set_update_loop _, ih (i + 1) _ (by omega) hlt (W.frame _ s' _ _ hst' (Nat.le_succ _) fun b hb o e => ?_) hSi fun s'' hm'' hS'' => ?_⟩
    · rw [hsb.2 b (fun h : b = S => hSf (by rw [← h]; exact hb))]; exact e
    · refine hR s'' (Moved.trans W.gtrans ((hm.mono hsub).then_heap (Nat.le_succ _) fun b o hb e => ?_) hm'') hS''
      rw [hsb.2 b (fun h : b = S => hb (by rw [h]; exact List.mem_cons_self))]; exact e
end
section
variable {prog : Program} {w : World} {A : Around} {E : Value → Shared → Prop} {s : Shared}
set_option maxRecDepth 100000 in
theorem call_set_str {z : Str} {t : Tok} {Q : Value → Shared → Prop} (hh : A.handled = none) (nd : z.cps.toList.Nodup) (hb : z.cps.size + 1 < scanBound)
    (h : ∀ (h' : Heap) (tk : Nat), h'.SetOf (PySem.strKind prog w) s.heap.objs.size (met z z.cps.size) z.cps.size →
      (∀ b o, b < s.heap.objs.size → s.heap.get? b = some o → h'.get? b = some o) → Q (.ref s.heap.objs.size) { s with heap := h', toks := tk }) :
    wpAny (model prog w) A (call (.type "set") [.str z t]) Q E s := by
  obtain ⟨c, tl, hmro⟩ := PySem.F.called_set.mro
  have hmade := PySem.F.called_set.made
  have hsub := PySem.F.called_set.sub
  refine wpAny_call (codeAny_of_tree ?_)
  show wpAny _ _ (callAny (.type "set") _) _ _ _
  refine wpAny_pure ⟨Code.quiet_builtin _ (by decide +kernel), codeAny_builtin F.entry_type_call ?_⟩
  rw [Around.under_plain (weight_type_call_type "set" [.str z t] []) rfl]
  have h1 := PySem.F.called_set.notType
  have h2 := PySem.F.called_set.canCreate
  have hct := PySem.F.typeCall_set_1 (.str z t)
  repeat (any_goals (first | assumption | wp_step))
  refine codeAny_mono (code_set_new_1 (.str z t) (E := E) (Q₁ := fun obj s₁ => ∃ led : Bool, obj = .ref s.heap.objs.size ∧ s₁ = { s with heap := s.heap.push { cls := .type "set", dict := none, data := .set #[] 0 (.fresh 0 0 led) } }) fun led => ⟨led, rfl, rfl⟩) fun r s₁ hr => ?_
  cases r with
  | error e => exact hr
  | ok fl =>
    cases fl with
    | ret obj =>
      obtain ⟨led, rfl, rfl⟩ := hr
      have hS : (s.heap.push { cls := .type "set", dict := none, data := .set #[] 0 (.fresh 0 0 led) }).get? s.heap.objs.size = some { cls := .type "set", dict := none, data := .set #[] 0 (.fresh 0 0 led) } := Heap.get?_push_size _ rfl
      have hT : Shared.TypeIs { s with heap := s.heap.push { cls := .type "set", dict := none, data := .set #[] 0 (.fresh 0 0 led) } } (.ref s.heap.objs.size) "set" := ⟨_, hS, rfl⟩
      have hli := PySem.F.called_set.init.lookup
      have hbi := PySem.F.called_set.init.bind (.ref s.heap.objs.size)
      repeat (any_goals (first | assumption | wp_step))
      refine codeAny_mono (codeAny_call_builtin (R := wants (fun r s₂ => r = .none ∧ ∃ h' tk, s₂ = { s with heap := h', toks := tk } ∧
          h'.SetOf (PySem.strKind prog w) s.heap.objs.size (met z z.cps.size) z.cps.size ∧
          (∀ b o, b < s.heap.objs.size → s.heap.get? b = some o → h'.get? b = some o)) E) PySem.F.called_set.init.plain PySem.F.entry_set_init (check_set_init_1 hT ?_)) fun r₂ s₂ hr₂ => ?_
      · have hsls := PySem.F.sub_str_set
        have hslf := PySem.F.sub_str_frozenset
        have hne : (Value.type "str" == Value.type "dict") = false := by decide
        unfold Builtin.«set.__init__» noKeywords Builtin.Frozenset.updateFrom
        generalize hPI : pyIter = PI
        wp_walk
        subst hPI
        refine wpAny_pyIter_str fun o St W hst => ?_
        refine wpAny_bind (wpAny_runValue ?_)
        have hh3 : A.in1.in1.in1.handled = none := by simp [hh]
        have hSf : s.heap.objs.size ∉ [(s.heap.push { cls := .type "set", dict := none, data := .set #[] 0 (.fresh 0 0 led) }).objs.size] := by
          rw [Heap.size_push]; simp only [List.mem_singleton]
          exact Nat.ne_of_lt (Nat.lt_succ_self _)
        refine set_loopS ((W _ hh3).toS) s.heap.objs.size hSf nd hb (z.cps.size - 0) 0 _ (by omega) (Nat.zero_le _) hst ?hS0 ?hR
        case hS0 =>
          have hget := Heap.get?_push_of_some o hS
          exact PyProof.Rows.SetOf_congr ((PyProof.Rows.setObjOf_fresh (knd := PySem.strKind prog w) led).setOf hget (by unfold scanBound; omega)) (fun _ => rfl) rfl
        case hR =>
          intro s' hm hS'
          obtain ⟨h', g', d', tk', os'⟩ := s'
          have eg : g' = s.gens := hm.gens
          have ed : d' = s.drawn := hm.drawn
          have eo : os' = s.os := hm.os
          subst eg; subst ed; subst eo
          show wpAny _ _ _ _ _ _
          refine wpAny_pure ?_
          show wpAny _ _ (ret Value.none) _ _ _
          refine wpAny_pure ⟨rfl, h', tk', rfl, hS', fun b o hb e => ?_⟩
          have hb1 : b ≠ s.heap.objs.size := Nat.ne_of_lt hb
          have hb2 : b ≠ (s.heap.push { cls := .type "set", dict := none, data := .set #[] 0 (.fresh 0 0 led) }).objs.size := by
            rw [Heap.size_push]; exact Nat.ne_of_lt (Nat.lt_succ_of_lt hb)
          exact hm.heap b o (by simp only [List.mem_cons, List.mem_singleton, List.not_mem_nil, or_false, not_or]; exact ⟨hb1, hb2⟩) (Heap.get?_push_of_some _ (Heap.get?_push_of_some _ e))
      · cases r₂ with
        | error e => exact hr₂
        | ok fl₂ =>
          cases fl₂ with
          | ret r =>
            obtain ⟨rfl, h', tk, rfl, hS', hk'⟩ := hr₂
            repeat (any_goals (first | assumption | wp_step))
            exact h _ _ hS' hk'
          | _ => exact hr₂.elim
    | _ => exact hr.elim
end
def tLSet (ta : TA) : TE := fun σ H Q => ta σ H fun vs H1 => ∃ z, vs = [.str z] ∧ z.cps.toList.Nodup ∧ z.length ≤ 1000 ∧ Q (.int z.length) H1
theorem pe_lenset {X : Cx} {a : Expr} {ta : TA} {p p' pos pos' : Pos} (hc : X.calm = true) (hg : Gl X "len") (hm : X.mg "len" = none) (hg' : Gl X "set") (hm' : X.mg "set" = none) (ha : PA X [a] ta)
    (hs : starEach [a] X.env = [(false, eval a X.env)] := by rfl) (hs' : starEach [.Call (.Name "set" p') [a] [] pos'] X.env = [(false, eval (.Call (.Name "set" p') [a] [] pos') X.env)] := by rfl) :
    PE X (.Call (.Name "len" p) [.Call (.Name "set" p') [a] [] pos'] [] pos) (tLSet ta) := by
  intro pins s σ H Q I h
  refine wpAny_Call_Name_kw (ld_blt I hg hm PySem.boot_len ?_)
  refine PyProof.Rows.callWith_builtin1 ?_ hs' rfl
  rw [hs']
  refine Calls.spliced_cons ?_
  refine Call_ (ld_blt I hg' hm' boot_set (PyProof.Rows.callWith_type1 (thn (ha pos' pins s σ H _ I h) fun us s1 ⟨vs, H1, I1, r1, q1⟩ => ?_) hs rfl))
  obtain ⟨z, e, nd, hz, q⟩ := q1
  subst e
  cases r1 with
  | cons r rr =>
    cases rr
    obtain ⟨t, rfl⟩ := r
    have hz' : z.cps.size ≤ 1000 := hz
    refine call_set_str (I1.ok.hd hc) nd (by unfold scanBound; omega) fun h' tk hS up => ?_
    refine Calls.spliced_nil ?_
    obtain ⟨o, es, ep, tb, ho, hex, hd, _, _, _, hf, hsz⟩ := id hS
    refine call_len_set (s := { s1 with heap := h', toks := tk }) ho hex hd hf (by omega) ?_
    refine ⟨.int _, H1, (I1.kept (t' := tk + 1 + 1) fun b ob e => up b ob (Heap.lt_size e) e), ⟨_, rfl⟩, ?_⟩
    rw [hsz]
    exact q
end L2
namespace L2
open PySem PySem.Spec PyProof.Rows
theorem vals_pick {xs : List V} {its : List Value} (r : Vals xs its) : ∀ ix : List Nat, Vals (ix.filterMap (xs[·]?)) (ix.filterMap (its[·]?))
  | [] => .nil
  | j :: ix => by
    have l := r.length
    cases e : xs[j]? with
    | none =>
      have e2 : its[j]? = none := by
        rw [List.getElem?_eq_none_iff] at e ⊢
        omega
      rw [List.filterMap_cons_none e, List.filterMap_cons_none e2]
      exact vals_pick r ix
    | some x =>
      obtain ⟨u, hu, ru⟩ := r.get e
      rw [List.filterMap_cons_some e, List.filterMap_cons_some hu]
      exact .cons ru (vals_pick r ix)
theorem pick_len {xs : List V} {i k : Int} (hk : 0 < k) : ((sliceRange (sliceBounds (some i) none (some k) xs.length).1 (sliceBounds (some i) none (some k) xs.length).2.1 (sliceBounds (some i) none (some k) xs.length).2.2).filterMap (xs[·]?)).length ≤ xs.length := by
  refine Nat.le_trans (List.length_filterMap_le _ _) (sliceRange_length_le _ _ _ xs.length (fun _ => ?_) (fun h => absurd (show (sliceBounds (some i) none (some k) xs.length).2.2 > 0 from hk) h))
  unfold sliceBounds
  simp only [Option.getD_some, if_pos hk]
  omega
theorem pe_slst {X : Cx} {e lo st : Expr} {te tl ts : TE} {p2 pos : Pos} (he : PE X e te) (hl : PE X lo tl) (hst : PE X st ts) : PE X (.Subscript e (.Slice (some lo) none (some st) p2) pos) (fun σ H Q => te σ H fun x H1 => tl σ H1 fun y H2 => ts σ H2 fun z H3 => ∃ a xs i k, x = .ref a ∧ y = .int i ∧ z = .int k ∧ SqL X.K H3 a xs ∧ 0 < k ∧ ∀ p ys, H3 p = none → (∀ u ∈ ys, u ∈ xs) → Q (.ref p) (upd H3 p (.lst ys))) := by
  intro pins s σ H Q I h
  refine Subscript_ (thn (he pins s σ H _ I h) fun v s1 ⟨x, H1, I1, r1, q1⟩ => ?_)
  refine wpAny_Slice ?_
  show wpAny _ _ (eval lo X.env) _ _ _
  refine thn (hl pins s1 σ H1 _ I1 q1) fun vl s2 ⟨y, H2, I2, r2, q2⟩ => ?_
  rw [evalPart_none]
  refine wpAny_pure ?_
  show wpAny _ _ (eval st X.env) _ _ _
  refine thn (hst pins s2 σ H2 _ I2 q2) fun vk s3 ⟨z, H3, I3, r3, a, xs, i, k, ex, ey, ez, hx, hk, q⟩ => ?_
  subst ex ey ez
  cases r1
  obtain ⟨ui, rfl⟩ := r2
  obtain ⟨uk, rfl⟩ := r3
  have I4 : Inv X pins σ H3 { s3 with heap := s3.heap.push { cls := .type "slice", data := .fields #[.int i ui, .none, .int k uk] } } := I3.kept (t' := s3.toks) fun b ob q => Heap.get?_push_of_some _ q
  obtain ⟨its, r, ht, hz⟩ := I4.list hx
  have hlen := r.length
  refine tail_any (T := "list") (ops := [.ref a, .ref s3.heap.objs.size]) ht.isList.typeIs slot_list_getitem.lookup (wpAny_getItem_list_slice ht.isList (Heap.IsSliceOf.new ..) (.int i ui) .none (.int k uk) (by intro z; cases z; omega) ?_ (by rw [List.size_toArray] <;> omega)) (by with_unfolding_all rfl)
  have ea : slicePick its.toArray (some i) none (some k) = ((sliceRange (sliceBounds (some i) none (some k) xs.length).1 (sliceBounds (some i) none (some k) xs.length).2.1 (sliceBounds (some i) none (some k) xs.length).2.2).filterMap (its[·]?)).toArray := by
    unfold slicePick
    rw [List.size_toArray, ← hlen]
    simp only [List.getElem?_toArray]
  rw [ea]
  have rp := vals_pick r (sliceRange (sliceBounds (some i) none (some k) xs.length).1 (sliceBounds (some i) none (some k) xs.length).2.1 (sliceBounds (some i) none (some k) xs.length).2.2)
  have pl := pick_len (xs := xs) (i := i) hk
  have me : ∀ u ∈ (sliceRange (sliceBounds (some i) none (some k) xs.length).1 (sliceBounds (some i) none (some k) xs.length).2.1 (sliceBounds (some i) none (some k) xs.length).2.2).filterMap (xs[·]?), u ∈ xs := fun u hu => by
    obtain ⟨j, _, hj⟩ := List.mem_filterMap.mp hu
    exact List.mem_of_getElem? hj
  revert rp pl me
  generalize sliceRange (sliceBounds (some i) none (some k) xs.length).1 (sliceBounds (some i) none (some k) xs.length).2.1 (sliceBounds (some i) none (some k) xs.length).2.2 = ix
  intro rp pl me
  refine ⟨.ref _, _, I4.laid (t' := s3.toks) (o := .lst (ix.filterMap (xs[·]?))) (fun b ob q => Heap.get?_push_of_some _ q) (Nat.le_refl _) ?_, rfl, q _ _ (I4.hok.fresh (Nat.le_refl _)) me⟩
  exact ⟨by omega, _, 0, rp, Heap.get?_push_size _ rfl⟩
end L2

set_option maxHeartbeats 0
lay_quick PySem.Challenge.pw_weighwalk_k26_single
namespace H26
open PySem PySem.W
noncomputable section
def i (n : Int) : Value := .int n 0
def r (n : Addr) : Value := .ref n
def tu (a : Array Value) (n : Nat) : Obj := ⟨.type SL.s2766695959194262286x5, none, .seq a n, #[]⟩
def co (a : Array Value) : Obj := ⟨.type SL.s5856160107412720595x4, none, .fields a, #[]⟩
def fo (n q : Str) (s : Stmt) (m c : Value) : Obj := ⟨.type SL.s7174869446012820540x8, none, .func ⟨n, q, L2.defArgs s, .stmts (L2.defBody s), L2.defScope s, 3, [], .none, .none, .none, m, none, c, .none, 0⟩, #[]⟩
def f0 (n q : Str) (s : Stmt) : Obj := ⟨.none, none, .func ⟨n, q, L2.defArgs s, .stmts (L2.defBody s), L2.defScope s, 0, [], .none, .none, .none, .none, none, .none, .none, 0⟩, #[]⟩
abbrev nd := @BT.node
abbrev nl := BT.nil
abbrev lf (x : Obj) : BT := .node x .nil .nil
abbrev kh := @PySem.PyData.keyHash
def topT (i : Nat) : Stmt := Fast.tw15133599368059602012.main.body.getD i (.Pass ⟨0, 0, 0, 0⟩)
def s0 : Str := ⟨⟨[60, 109, 111, 100, 117, 108, 101, 62]⟩⟩
def s1 : Str := ⟨⟨[47, 99, 108, 97, 105, 109, 47, 99, 117, 116, 46, 112, 121]⟩⟩
def s2 : Str := ⟨⟨[95, 95, 109, 97, 105, 110, 95, 95]⟩⟩
def s3 : Str := ⟨⟨[95, 95, 110, 97, 109, 101, 95, 95]⟩⟩
def s4 : Str := ⟨⟨[119, 101, 105, 103, 104, 119, 97, 108, 107, 46, 107, 105, 110, 100, 115]⟩⟩
def s5 : Str := ⟨⟨[95, 95, 100, 111, 99, 95, 95]⟩⟩
def s6 : Str := ⟨⟨[95, 95, 112, 97, 99, 107, 97, 103, 101, 95, 95]⟩⟩
def s7 : Str := ⟨⟨[95, 95, 108, 111, 97, 100, 101, 114, 95, 95]⟩⟩
def s8 : Str := ⟨⟨[95, 95, 115, 112, 101, 99, 95, 95]⟩⟩
def s9 : Str := ⟨⟨[95, 95, 97, 110, 110, 111, 116, 97, 116, 105, 111, 110, 115, 95, 95]⟩⟩
def s10 : Str := ⟨⟨[95, 95, 98, 117, 105, 108, 116, 105, 110, 115, 95, 95]⟩⟩
def s11 : Str := ⟨⟨[95, 95, 102, 105, 108, 101, 95, 95]⟩⟩
def s12 : Str := ⟨⟨[95, 95, 99, 97, 99, 104, 101, 100, 95, 95]⟩⟩
def s13 : Str := ⟨⟨[95, 119, 97, 108, 108]⟩⟩
def s14 : Str := ⟨⟨[87, 101, 105, 103, 104, 69, 114, 114, 111, 114]⟩⟩
def s15 : Str := ⟨⟨[78, 111, 75, 105, 110, 100]⟩⟩
def s16 : Str := ⟨⟨[78, 111, 87, 101, 105, 103, 104, 116]⟩⟩
def s17 : Str := ⟨⟨[78, 111, 87, 111, 114, 100]⟩⟩
def s18 : Str := ⟨⟨[84, 111, 111, 71, 114, 101, 97, 116]⟩⟩
def s19 : Str := ⟨⟨[78, 111, 84, 101, 120, 116]⟩⟩
def s20 : Str := ⟨⟨[110, 111, 117, 103, 104, 116, 115]⟩⟩
def s21 : Str := ⟨⟨[117, 110, 105, 116]⟩⟩
def s22 : Str := ⟨⟨[116, 105, 109, 101, 115, 95, 114, 111, 119]⟩⟩
def s23 : Str := ⟨⟨[83, 77, 65, 76, 76, 95, 76, 69, 84, 84, 69, 82, 83]⟩⟩
def s24 : Str := ⟨⟨[97, 98, 99, 100, 101, 102, 103, 104, 105, 106, 107, 108, 109, 110, 111, 112, 113, 114, 115, 116, 117, 118, 119, 120, 121, 122]⟩⟩
def s25 : Str := ⟨⟨[77, 79, 83, 84, 95, 76, 69, 84, 84, 69, 82, 83]⟩⟩
def s26 : Str := ⟨⟨[77, 79, 83, 84, 95, 82, 79, 79, 77, 83]⟩⟩
def s27 : Str := ⟨⟨[105, 115, 95, 108, 101, 116, 116, 101, 114, 115]⟩⟩
def s28 : Str := ⟨⟨[105, 115, 95, 119, 111, 114, 100]⟩⟩
def s29 : Str := ⟨⟨[110, 101, 101, 100, 95, 119, 111, 114, 100]⟩⟩
def s30 : Str := ⟨⟨[105, 115, 95, 114, 111, 119]⟩⟩
def s31 : Str := ⟨⟨[105, 115, 95, 116, 97, 98, 108, 101]⟩⟩
def s32 : Str := ⟨⟨[105, 115, 95, 109, 97, 99, 104, 105, 110, 101]⟩⟩
def s33 : Str := ⟨⟨[110, 101, 101, 100, 95, 102, 101, 119, 95, 114, 111, 111, 109, 115]⟩⟩
def s34 : Str := ⟨⟨[115, 105, 110, 103, 108, 101, 95, 114, 111, 119]⟩⟩
def s35 : Str := ⟨⟨[115, 105, 110, 103, 108, 101]⟩⟩
def s36 : Str := ⟨⟨[105, 115, 95, 119, 104, 111, 108, 101]⟩⟩
def s37 : Str := ⟨⟨[100, 105, 118, 105, 115, 111, 114]⟩⟩
def s38 : Str := ⟨⟨[102, 114, 97, 99, 116, 105, 111, 110]⟩⟩
def s39 : Str := ⟨⟨[105, 115, 95, 112, 114, 105, 109, 101]⟩⟩
def s40 : Str := ⟨⟨[70, 73, 71, 85, 82, 69, 83]⟩⟩
def s41 : Str := ⟨⟨[48, 49, 50, 51, 52, 53, 54, 55, 56, 57]⟩⟩
def s42 : Str := ⟨⟨[77, 79, 83, 84, 95, 70, 73, 71, 85, 82, 69, 83]⟩⟩
def s43 : Str := ⟨⟨[71, 82, 69, 65, 84, 69, 83, 84, 95, 80, 82, 73, 77, 69]⟩⟩
def s44 : Str := ⟨⟨[105, 115, 95, 119, 114, 105, 116, 116, 101, 110]⟩⟩
def s45 : Str := ⟨⟨[114, 101, 97, 100, 95, 119, 104, 111, 108, 101]⟩⟩
def s46 : Str := ⟨⟨[110, 101, 101, 100, 95, 116, 101, 120, 116]⟩⟩
def s47 : Str := ⟨⟨[75, 105, 110, 100]⟩⟩
def s48 : Str := ⟨⟨[70, 105, 101, 108, 100]⟩⟩
def s49 : Str := ⟨⟨[80, 105, 99, 107, 105, 110, 103]⟩⟩
def s50 : Str := ⟨⟨[107]⟩⟩
def s51 : Str := ⟨⟨[95, 95, 109, 111, 100, 117, 108, 101, 95, 95]⟩⟩
def s52 : Str := ⟨⟨[119, 101, 105, 103, 104, 119, 97, 108, 107, 46, 101, 114, 114, 111, 114, 115]⟩⟩
def s53 : Str := ⟨⟨[95, 95, 113, 117, 97, 108, 110, 97, 109, 101, 95, 95]⟩⟩
def s54 : Str := ⟨⟨[95, 95, 102, 105, 114, 115, 116, 108, 105, 110, 101, 110, 111, 95, 95]⟩⟩
def s55 : Str := ⟨⟨[95, 95, 115, 116, 97, 116, 105, 99, 95, 97, 116, 116, 114, 105, 98, 117, 116, 101, 115, 95, 95]⟩⟩
def s56 : Str := ⟨⟨[95, 95, 119, 101, 97, 107, 114, 101, 102, 95, 95]⟩⟩
def s57 : Str := ⟨⟨[119, 101, 105, 103, 104, 119, 97, 108, 107, 46, 116, 97, 98, 108, 101, 115]⟩⟩
def s58 : Str := ⟨⟨[119, 101, 105, 103, 104, 119, 97, 108, 107, 46, 109, 97, 99, 104, 105, 110, 101, 115]⟩⟩
def s59 : Str := ⟨⟨[108, 101, 116, 116, 101, 114, 115]⟩⟩
def s60 : Str := ⟨⟨[116, 104, 105, 110, 103]⟩⟩
def s61 : Str := ⟨⟨[99, 111, 117, 110, 116]⟩⟩
def s62 : Str := ⟨⟨[119, 101, 105, 103, 104, 119, 97, 108, 107, 46, 98, 117, 105, 108, 100, 105, 110, 103]⟩⟩
def s63 : Str := ⟨⟨[107, 105, 110, 100]⟩⟩
def s64 : Str := ⟨⟨[108, 101, 116, 116, 101, 114]⟩⟩
def s65 : Str := ⟨⟨[119, 111, 114, 100]⟩⟩
def s66 : Str := ⟨⟨[112, 108, 97, 99, 101]⟩⟩
def s67 : Str := ⟨⟨[119, 101, 105, 103, 104, 119, 97, 108, 107, 46, 114, 97, 116, 105, 111, 115]⟩⟩
def s68 : Str := ⟨⟨[111, 110, 101]⟩⟩
def s69 : Str := ⟨⟨[111, 116, 104, 101, 114]⟩⟩
def s70 : Str := ⟨⟨[103, 114, 101, 97, 116, 101, 115, 116]⟩⟩
def s71 : Str := ⟨⟨[114, 101, 115, 116]⟩⟩
def s72 : Str := ⟨⟨[108, 101, 102, 116]⟩⟩
def s73 : Str := ⟨⟨[116, 111, 112]⟩⟩
def s74 : Str := ⟨⟨[98, 111, 116, 116, 111, 109]⟩⟩
def s75 : Str := ⟨⟨[115, 104, 97, 114, 101, 100]⟩⟩
def s76 : Str := ⟨⟨[110, 117, 109, 98, 101, 114]⟩⟩
def s77 : Str := ⟨⟨[102, 97, 99, 116, 111, 114]⟩⟩
def s78 : Str := ⟨⟨[116, 101, 120, 116]⟩⟩
def s79 : Str := ⟨⟨[95, 95, 100, 105, 99, 116, 95, 95]⟩⟩
def s80 : Str := ⟨⟨[105, 115, 95, 102, 105, 101, 108, 100]⟩⟩
def s81 : Str := ⟨⟨[112, 105, 99, 107, 115]⟩⟩
def s82 : Str := ⟨⟨[115, 101, 108, 102]⟩⟩
def s83 : Str := ⟨⟨[70, 105, 101, 108, 100, 46, 105, 115, 95, 102, 105, 101, 108, 100]⟩⟩
def s84 : Str := ⟨⟨[70, 105, 101, 108, 100, 46, 112, 105, 99, 107, 115]⟩⟩
def s85 : Str := ⟨⟨[109, 105, 110, 117, 115]⟩⟩
def s86 : Str := ⟨⟨[105, 110, 118, 101, 114, 115, 101]⟩⟩
def s87 : Str := ⟨⟨[80, 105, 99, 107, 105, 110, 103, 46, 105, 115, 95, 102, 105, 101, 108, 100]⟩⟩
def s88 : Str := ⟨⟨[80, 105, 99, 107, 105, 110, 103, 46, 112, 105, 99, 107, 115]⟩⟩
def s89 : Str := ⟨⟨[120]⟩⟩
def s90 : Str := ⟨⟨[80, 105, 99, 107, 105, 110, 103, 46, 109, 105, 110, 117, 115]⟩⟩
def s91 : Str := ⟨⟨[80, 105, 99, 107, 105, 110, 103, 46, 105, 110, 118, 101, 114, 115, 101]⟩⟩
def s92 : Str := ⟨⟨[108, 97, 119, 95, 119, 101, 105, 103, 104, 119, 97, 108, 107, 95, 107, 50, 54, 95, 115, 105, 110, 103, 108, 101]⟩⟩
def s93 : Str := ⟨⟨[70, 114, 97, 99, 116, 105, 111, 110, 115]⟩⟩
def s94 : Str := ⟨⟨[82, 101, 115, 105, 100, 117, 101, 115]⟩⟩
def s95 : Str := ⟨⟨[67, 111, 115, 116, 115]⟩⟩
def s96 : Str := ⟨⟨[84, 114, 117, 116, 104, 115]⟩⟩
def s97 : Str := ⟨⟨[95, 108, 97, 119, 95, 110, 101, 120, 116]⟩⟩
def s98 : Str := ⟨⟨[95, 108, 97, 119, 95, 115, 116, 97, 116, 101]⟩⟩
def s99 : Str := ⟨⟨[95, 108, 97, 119, 95, 108, 111, 119]⟩⟩
def s100 : Str := ⟨⟨[95, 108, 97, 119, 95, 112, 108, 117, 115]⟩⟩
def s101 : Str := ⟨⟨[95, 108, 97, 119, 95, 116, 105, 109, 101, 115]⟩⟩
def s102 : Str := ⟨⟨[95, 108, 97, 119, 95, 110, 111, 117, 103, 104, 116]⟩⟩
def s103 : Str := ⟨⟨[95, 108, 97, 119, 95, 115, 111, 114, 116]⟩⟩
def s104 : Str := ⟨⟨[95, 108, 97, 119, 95, 107, 105, 110, 100]⟩⟩
def s105 : Str := ⟨⟨[95, 108, 97, 119, 95, 119, 101, 105, 103, 104, 116]⟩⟩
def s106 : Str := ⟨⟨[95, 108, 97, 119, 95, 108, 101, 116, 116, 101, 114, 115]⟩⟩
def s107 : Str := ⟨⟨[95, 108, 97, 119, 95, 100, 111, 116]⟩⟩
def s108 : Str := ⟨⟨[95, 108, 97, 119, 95, 115, 116, 101, 112]⟩⟩
def s109 : Str := ⟨⟨[95, 108, 97, 119, 95, 119, 101, 105, 103, 104]⟩⟩
def s110 : Str := ⟨⟨[95, 108, 97, 119, 95, 119, 111, 114, 100, 115]⟩⟩
def s111 : Str := ⟨⟨[95, 108, 97, 119, 95, 115, 97, 109, 101]⟩⟩
def s112 : Str := ⟨⟨[95, 108, 97, 119, 95, 110, 101, 97, 114]⟩⟩
def s113 : Str := ⟨⟨[108, 97, 119]⟩⟩
def s114 : Str := ⟨⟨[116, 111, 108, 100]⟩⟩
def s115 : Str := ⟨⟨[110, 111, 117, 103, 104, 116]⟩⟩
def s116 : Str := ⟨⟨[112, 108, 117, 115]⟩⟩
def s117 : Str := ⟨⟨[116, 105, 109, 101, 115]⟩⟩
def s118 : Str := ⟨⟨[105, 115, 95, 119, 101, 105, 103, 104, 116]⟩⟩
def s119 : Str := ⟨⟨[115, 104, 111, 119, 110]⟩⟩
def s120 : Str := ⟨⟨[114, 101, 97, 100]⟩⟩
def s121 : Str := ⟨⟨[70, 114, 97, 99, 116, 105, 111, 110, 115, 46, 116, 111, 108, 100]⟩⟩
def s122 : Str := ⟨⟨[70, 114, 97, 99, 116, 105, 111, 110, 115, 46, 110, 111, 117, 103, 104, 116]⟩⟩
def s123 : Str := ⟨⟨[70, 114, 97, 99, 116, 105, 111, 110, 115, 46, 111, 110, 101]⟩⟩
def s124 : Str := ⟨⟨[121]⟩⟩
def s125 : Str := ⟨⟨[70, 114, 97, 99, 116, 105, 111, 110, 115, 46, 112, 108, 117, 115]⟩⟩
def s126 : Str := ⟨⟨[70, 114, 97, 99, 116, 105, 111, 110, 115, 46, 116, 105, 109, 101, 115]⟩⟩
def s127 : Str := ⟨⟨[70, 114, 97, 99, 116, 105, 111, 110, 115, 46, 109, 105, 110, 117, 115]⟩⟩
def s128 : Str := ⟨⟨[70, 114, 97, 99, 116, 105, 111, 110, 115, 46, 105, 110, 118, 101, 114, 115, 101]⟩⟩
def s129 : Str := ⟨⟨[70, 114, 97, 99, 116, 105, 111, 110, 115, 46, 105, 115, 95, 119, 101, 105, 103, 104, 116]⟩⟩
def s130 : Str := ⟨⟨[70, 114, 97, 99, 116, 105, 111, 110, 115, 46, 115, 104, 111, 119, 110]⟩⟩
def s131 : Str := ⟨⟨[112, 105, 101, 99, 101, 115]⟩⟩
def s132 : Str := ⟨⟨[70, 114, 97, 99, 116, 105, 111, 110, 115, 46, 114, 101, 97, 100]⟩⟩
def s133 : Str := ⟨⟨[95, 95, 105, 110, 105, 116, 95, 95]⟩⟩
def s134 : Str := ⟨⟨[112, 114, 105, 109, 101]⟩⟩
def s135 : Str := ⟨⟨[82, 101, 115, 105, 100, 117, 101, 115, 46, 95, 95, 105, 110, 105, 116, 95, 95]⟩⟩
def s136 : Str := ⟨⟨[82, 101, 115, 105, 100, 117, 101, 115, 46, 116, 111, 108, 100]⟩⟩
def s137 : Str := ⟨⟨[82, 101, 115, 105, 100, 117, 101, 115, 46, 110, 111, 117, 103, 104, 116]⟩⟩
def s138 : Str := ⟨⟨[82, 101, 115, 105, 100, 117, 101, 115, 46, 111, 110, 101]⟩⟩
def s139 : Str := ⟨⟨[82, 101, 115, 105, 100, 117, 101, 115, 46, 112, 108, 117, 115]⟩⟩
def s140 : Str := ⟨⟨[82, 101, 115, 105, 100, 117, 101, 115, 46, 116, 105, 109, 101, 115]⟩⟩
def s141 : Str := ⟨⟨[82, 101, 115, 105, 100, 117, 101, 115, 46, 109, 105, 110, 117, 115]⟩⟩
def s142 : Str := ⟨⟨[82, 101, 115, 105, 100, 117, 101, 115, 46, 105, 110, 118, 101, 114, 115, 101]⟩⟩
def s143 : Str := ⟨⟨[82, 101, 115, 105, 100, 117, 101, 115, 46, 105, 115, 95, 119, 101, 105, 103, 104, 116]⟩⟩
def s144 : Str := ⟨⟨[82, 101, 115, 105, 100, 117, 101, 115, 46, 115, 104, 111, 119, 110]⟩⟩
def s145 : Str := ⟨⟨[82, 101, 115, 105, 100, 117, 101, 115, 46, 114, 101, 97, 100]⟩⟩
def s146 : Str := ⟨⟨[67, 111, 115, 116, 115, 46, 116, 111, 108, 100]⟩⟩
def s147 : Str := ⟨⟨[67, 111, 115, 116, 115, 46, 110, 111, 117, 103, 104, 116]⟩⟩
def s148 : Str := ⟨⟨[67, 111, 115, 116, 115, 46, 111, 110, 101]⟩⟩
def s149 : Str := ⟨⟨[67, 111, 115, 116, 115, 46, 112, 108, 117, 115]⟩⟩
def s150 : Str := ⟨⟨[67, 111, 115, 116, 115, 46, 116, 105, 109, 101, 115]⟩⟩
def s151 : Str := ⟨⟨[67, 111, 115, 116, 115, 46, 105, 115, 95, 119, 101, 105, 103, 104, 116]⟩⟩
def s152 : Str := ⟨⟨[67, 111, 115, 116, 115, 46, 115, 104, 111, 119, 110]⟩⟩
def s153 : Str := ⟨⟨[67, 111, 115, 116, 115, 46, 114, 101, 97, 100]⟩⟩
def s154 : Str := ⟨⟨[84, 114, 117, 116, 104, 115, 46, 116, 111, 108, 100]⟩⟩
def s155 : Str := ⟨⟨[84, 114, 117, 116, 104, 115, 46, 110, 111, 117, 103, 104, 116]⟩⟩
def s156 : Str := ⟨⟨[84, 114, 117, 116, 104, 115, 46, 111, 110, 101]⟩⟩
def s157 : Str := ⟨⟨[84, 114, 117, 116, 104, 115, 46, 112, 108, 117, 115]⟩⟩
def s158 : Str := ⟨⟨[84, 114, 117, 116, 104, 115, 46, 116, 105, 109, 101, 115]⟩⟩
def s159 : Str := ⟨⟨[84, 114, 117, 116, 104, 115, 46, 105, 115, 95, 119, 101, 105, 103, 104, 116]⟩⟩
def s160 : Str := ⟨⟨[84, 114, 117, 116, 104, 115, 46, 115, 104, 111, 119, 110]⟩⟩
def s161 : Str := ⟨⟨[84, 114, 117, 116, 104, 115, 46, 114, 101, 97, 100]⟩⟩
def s162 : Str := ⟨⟨[95, 108, 97, 119, 95, 115, 116, 97, 116, 101, 95, 104, 101, 114, 101]⟩⟩
def s163 : Str := ⟨⟨[95, 108, 97, 119, 95, 109, 97, 110, 121]⟩⟩
def s164 : Str := ⟨⟨[95, 108, 97, 119, 95, 102, 111, 117, 110, 100]⟩⟩
def s165 : Str := ⟨⟨[95, 108, 97, 119, 95, 115, 99, 114, 105, 112, 116]⟩⟩
def s166 : Str := ⟨⟨[95, 108, 97, 119, 95, 115, 101, 101, 100]⟩⟩
def s167 : Str := ⟨⟨[95, 108, 97, 119, 95, 99, 101, 108, 108]⟩⟩
def s168 : Str := ⟨⟨[95, 108, 97, 119, 95, 116, 111, 112]⟩⟩
def s169 : Str := ⟨⟨[95, 108, 97, 119, 95, 98, 111, 116, 116, 111, 109]⟩⟩
def s170 : Str := ⟨⟨[95, 108, 97, 119, 95, 111, 110, 101]⟩⟩
def s171 : Str := ⟨⟨[95, 108, 97, 119, 95, 98, 121]⟩⟩
def s172 : Str := ⟨⟨[95, 108, 97, 119, 95, 115, 111, 114, 116, 95, 104, 101, 114, 101]⟩⟩
def s173 : Str := ⟨⟨[95, 108, 97, 119, 95, 120]⟩⟩
def s174 : Str := ⟨⟨[95, 108, 97, 119, 95, 121]⟩⟩
def s175 : Str := ⟨⟨[95, 108, 97, 119, 95, 119, 97, 121]⟩⟩
def s176 : Str := ⟨⟨[95, 108, 97, 119, 95, 112, 114, 105, 109, 101]⟩⟩
def s177 : Str := ⟨⟨[95, 108, 97, 119, 95, 103, 114, 101, 97, 116]⟩⟩
def s178 : Str := ⟨⟨[95, 108, 97, 119, 95, 102, 97, 114]⟩⟩
def s179 : Str := ⟨⟨[95, 108, 97, 119, 95, 112, 111, 111, 108]⟩⟩
def s180 : Str := ⟨⟨[95, 108, 97, 119, 95, 108, 101, 116, 116, 101, 114, 115, 95, 104, 101, 114, 101]⟩⟩
def s181 : Str := ⟨⟨[95, 108, 97, 119, 95, 107]⟩⟩
def s182 : Str := ⟨⟨[95, 108, 97, 119, 95, 97, 116]⟩⟩
def s183 : Str := ⟨⟨[95, 108, 97, 119, 95, 114, 111, 119]⟩⟩
def s184 : Str := ⟨⟨[95, 108, 97, 119, 95, 99, 111, 108, 117, 109, 110]⟩⟩
def s185 : Str := ⟨⟨[95, 108, 97, 119, 95, 116, 111, 116, 97, 108]⟩⟩
def s186 : Str := ⟨⟨[95, 108, 97, 119, 95, 109, 97, 99, 104, 105, 110, 101]⟩⟩
def s187 : Str := ⟨⟨[95, 108, 97, 119, 95, 119, 111, 114, 100]⟩⟩
def s188 : Str := ⟨⟨[95, 108, 97, 119, 95, 108, 101, 116, 116, 101, 114]⟩⟩
def s189 : Str := ⟨⟨[95, 108, 97, 119, 95, 109, 111, 115, 116]⟩⟩
def s190 : Str := ⟨⟨[95, 108, 97, 119, 95, 108, 101, 118, 101, 108]⟩⟩
def s191 : Str := ⟨⟨[95, 108, 97, 119, 95, 103, 114, 111, 119, 110]⟩⟩
def s192 : Str := ⟨⟨[95, 108, 97, 119, 95, 100, 117, 101]⟩⟩
def s193 : Str := ⟨⟨[95, 108, 97, 119, 95, 110, 101, 97, 114, 95, 104, 101, 114, 101]⟩⟩
def s194 : Str := ⟨⟨[95, 108, 97, 119, 95, 111, 116, 104, 101, 114]⟩⟩
def o11a : Obj := tu #[] 0
def o12a : Obj := ⟨.none, none, (.fields #[]), #[]⟩
def o13a : Obj := co #[(.str s0 182), (.str s0 183), (.str s1 184), (i 1), (i 0), (i 0), (i 0), (i 0), (r 11), (.bool false), (i 181), (r 12), .none, .none, .none, .none, (i 185), (i 1), (.str s1 186)]
def o14a : Obj := ⟨(.type SL.s658472552662922059x5), none, .plain, #[(some (r 13)), (some (r 3)), (some (r 3)), none, (some (.str s2 164)), none, (some (r 0))]⟩
def o3_0 (P : Params) : Obj := ⟨(.type SL.s14018661285674007319x4), none, (.dict #[⟨kh P s3, .str s3 165, (.str s4 422)⟩, ⟨kh P s5, .str s5 166, .none⟩, ⟨kh P s6, .str s6 167, .none⟩, ⟨kh P s7, .str s7 168, (.builtin SL.s7097527257260152453x26)⟩, ⟨kh P s8, .str s8 169, .none⟩, ⟨kh P s9, .str s9 170, (r 6)⟩, ⟨kh P s10, .str s10 171, (r 4)⟩, ⟨kh P s11, .str s11 173, (.str s1 172)⟩, ⟨kh P s12, .str s12 174, .none⟩, ⟨kh P s13, .str s13 193, (r 21)⟩, ⟨kh P s14, .str s14 213, (r 31)⟩, ⟨kh P s15, .str s15 229, (r 44)⟩, ⟨kh P s16, .str s16 245, (r 56)⟩, ⟨kh P s17, .str s17 261, (r 68)⟩, ⟨kh P s18, .str s18 277, (r 80)⟩, ⟨kh P s19, .str s19 293, (r 92)⟩, ⟨kh P s20, .str s20 301, (r 99)⟩, ⟨kh P s21, .str s21 307, (r 104)⟩, ⟨kh P s22, .str s22 313, (r 109)⟩, ⟨kh P s23, .str s23 317, (.str s24 316)⟩, ⟨kh P s25, .str s25 319, (.int 3 318)⟩, ⟨kh P s26, .str s26 321, (.int 20 320)⟩, ⟨kh P s27, .str s27 327, (r 114)⟩, ⟨kh P s28, .str s28 333, (r 119)⟩, ⟨kh P s29, .str s29 341, (r 126)⟩, ⟨kh P s30, .str s30 347, (r 131)⟩, ⟨kh P s31, .str s31 353, (r 136)⟩, ⟨kh P s32, .str s32 359, (r 141)⟩, ⟨kh P s33, .str s33 368, (r 148)⟩, ⟨kh P s34, .str s34 378, (r 155)⟩, ⟨kh P s35, .str s35 384, (r 160)⟩, ⟨kh P s36, .str s36 393, (r 167)⟩, ⟨kh P s37, .str s37 404, (r 174)⟩, ⟨kh P s38, .str s38 413, (r 181)⟩, ⟨kh P s39, .str s39 421, (r 188)⟩, ⟨kh P s40, .str s40 425, (.str s41 424)⟩, ⟨kh P s42, .str s42 427, (.int 30 426)⟩, ⟨kh P s43, .str s43 429, (.int 1000000 428)⟩, ⟨kh P s44, .str s44 435, (r 193)⟩, ⟨kh P s45, .str s45 442, (r 200)⟩, ⟨kh P s46, .str s46 449, (r 207)⟩, ⟨kh P s47, .str s47 469, (r 217)⟩, ⟨kh P s48, .str s48 499, (r 245)⟩, ⟨kh P s49, .str s49 545, (r 285)⟩] 44), #[]⟩
def o12_0 : Obj := ⟨.none, none, (.fields #[(i 1), (i 0), (r 20), (i 5), (i 0), (r 27), (i 7), (i 0), (r 40), (i 9), (i 0), (r 52), (i 11), (i 0), (r 64), (i 13), (i 0), (r 76), (i 15), (i 0), (r 88), (i 18), (i 0), (r 98), (i 20), (i 0), (r 103), (i 22), (i 0), (r 108), (i 28), (i 0), (r 113), (i 32), (i 0), (r 118), (i 34), (i 0), (r 125), (i 37), (i 0), (r 130), (i 41), (i 0), (r 135), (i 45), (i 0), (r 140), (i 59), (i 0), (r 147), (i 62), (i 0), (r 154), (i 66), (i 0), (r 159), (i 76), (i 0), (r 166), (i 78), (i 0), (r 173), (i 86), (i 0), (r 180), (i 95), (i 0), (r 187), (i 108), (i 0), (r 192), (i 117), (i 0), (r 199), (i 121), (i 0), (r 206), (i 124), (i 0), (r 213), (i 126), (i 0), (r 227), (i 133), (i 0), (r 253)]), #[]⟩
def o15_0 : Obj := tu #[] 0
def o16_0 : Obj := ⟨.none, none, (.fields #[]), #[]⟩
def o17_0 : Obj := tu #[(.str s50 190)] 0
def o18_0 : Obj := tu #[] 0
def o19_0 : Obj := f0 s13 s13 (topT 0)
def o20_0 : Obj := co #[(.str s13 187), (.str s13 188), (.str s1 189), (i 1), (i 1), (i 0), (i 0), (i 3), (r 15), (.bool true), (i 181), (r 16), .none, (r 17), (r 18), (r 19), (i 191), (i 1), (.str s1 192)]
def o21_0 : Obj := fo s13 s13 (topT 0) (.str s2 164) (r 20)
def o22_0 : Obj := tu #[(.type SL.s6070975301684473832x10)] 0
def o23_0 : Obj := ⟨(.type SL.s11030030927630378310x26), none, (.fields #[(.builtin SL.s10062305145149207511x16), (.type SL.s17162191345867700912x4)]), #[]⟩
def o24_0 (P : Params) : Obj := ⟨(.type SL.s14018661285674007319x4), none, (.dict #[⟨kh P s51, .str s51 203, (.str s52 194)⟩, ⟨kh P s53, .str s53 205, (.str s14 204)⟩, ⟨kh P s54, .str s54 207, (.int 5 206)⟩, ⟨kh P s55, .str s55 208, (r 29)⟩] 4), #[]⟩
def o25_0 : Obj := tu #[] 0
def o26_0 : Obj := ⟨.none, none, (.fields #[]), #[]⟩
def o27_0 : Obj := co #[(.str s14 198), (.str s14 199), (.str s1 200), (i 5), (i 0), (i 0), (i 0), (i 0), (r 25), (.bool false), (i 181), (r 26), .none, .none, .none, .none, (i 201), (i 5), (.str s1 202)]
def o28_0 : Obj := ⟨(.type SL.s658472552662922059x5), none, .plain, #[(some (r 27)), (some (r 3)), (some (r 24)), none, (some (.str s52 194)), none, (some (r 0))]⟩
def o29_0 : Obj := tu #[] 0
def o30_0 (P : Params) : Obj := ⟨(.type SL.s14018661285674007319x4), none, (.dict #[⟨kh P s51, .str s51 203, (.str s52 194)⟩, ⟨kh P s54, .str s54 207, (.int 5 206)⟩, ⟨kh P s55, .str s55 208, (r 29)⟩, ⟨kh P s56, .str s56 210, (r 32)⟩, ⟨kh P s5, .str s5 211, .none⟩] 3), #[]⟩
def o31_0 : Obj := ⟨(.type SL.s17162191345867700912x4), none, (.cls ⟨s14, [(.type SL.s6070975301684473832x10)], [(r 31), (.type SL.s6070975301684473832x10), (.type SL.s5946037652744460706x9), (.type SL.s4278001404047624695x13), (.type SL.s2742458400755230247x6)], 30, s14, true, [], [(r 44), (r 56), (r 68), (r 80), (r 92)], false, none, false⟩), #[(some (r 22)), none, (some (.str s14 196)), (some (.str s14 204)), (some (.builtin SL.s4209523147560561109x18)), (some (.bool true))]⟩
def o32_0 : Obj := ⟨(.type SL.s14755015743595814543x17), none, (.fields #[(.str s56 209), (r 31), (.builtin SL.s10220274742760427390x26), .none]), #[]⟩
def o33_0 : Obj := ⟨(.type SL.s4290257624100764138x5), none, (.fields #[(r 31), (r 31), (r 31)]), #[]⟩
def o34_0 : Obj := ⟨(.type SL.s11030030927630378310x26), none, (.fields #[(.builtin SL.s4860613602091757760x24), (r 31)]), #[]⟩
def o35_0 : Obj := tu #[(r 31)] 0
def o36_0 : Obj := ⟨(.type SL.s11030030927630378310x26), none, (.fields #[(.builtin SL.s10062305145149207511x16), (.type SL.s17162191345867700912x4)]), #[]⟩
def o37_0 (P : Params) : Obj := ⟨(.type SL.s14018661285674007319x4), none, (.dict #[⟨kh P s51, .str s51 221, (.str s52 194)⟩, ⟨kh P s53, .str s53 223, (.str s15 222)⟩, ⟨kh P s54, .str s54 225, (.int 7 224)⟩, ⟨kh P s55, .str s55 226, (r 42)⟩] 4), #[]⟩
def o38_0 : Obj := tu #[] 0
def o39_0 : Obj := ⟨.none, none, (.fields #[]), #[]⟩
def o40_0 : Obj := co #[(.str s15 216), (.str s15 217), (.str s1 218), (i 7), (i 0), (i 0), (i 0), (i 0), (r 38), (.bool false), (i 181), (r 39), .none, .none, .none, .none, (i 219), (i 7), (.str s1 220)]
def o41_0 : Obj := ⟨(.type SL.s658472552662922059x5), none, .plain, #[(some (r 40)), (some (r 3)), (some (r 37)), none, (some (.str s52 194)), none, (some (r 0))]⟩
def o42_0 : Obj := tu #[] 0
def o43_0 (P : Params) : Obj := ⟨(.type SL.s14018661285674007319x4), none, (.dict #[⟨kh P s51, .str s51 221, (.str s52 194)⟩, ⟨kh P s54, .str s54 225, (.int 7 224)⟩, ⟨kh P s55, .str s55 226, (r 42)⟩, ⟨kh P s5, .str s5 227, .none⟩] 2), #[]⟩
def o44_0 : Obj := ⟨(.type SL.s17162191345867700912x4), none, (.cls ⟨s15, [(r 31)], [(r 44), (r 31), (.type SL.s6070975301684473832x10), (.type SL.s5946037652744460706x9), (.type SL.s4278001404047624695x13), (.type SL.s2742458400755230247x6)], 43, s15, true, [], [], false, none, false⟩), #[(some (r 35)), none, (some (.str s15 214)), (some (.str s15 222)), (some (.builtin SL.s4209523147560561109x18)), (some (.bool true))]⟩
def o45_0 : Obj := ⟨(.type SL.s4290257624100764138x5), none, (.fields #[(r 44), (r 44), (r 44)]), #[]⟩
def o46_0 : Obj := ⟨(.type SL.s11030030927630378310x26), none, (.fields #[(.builtin SL.s4860613602091757760x24), (r 44)]), #[]⟩
def o47_0 : Obj := tu #[(r 31)] 0
def o48_0 : Obj := ⟨(.type SL.s11030030927630378310x26), none, (.fields #[(.builtin SL.s10062305145149207511x16), (.type SL.s17162191345867700912x4)]), #[]⟩
def o49_0 (P : Params) : Obj := ⟨(.type SL.s14018661285674007319x4), none, (.dict #[⟨kh P s51, .str s51 237, (.str s52 194)⟩, ⟨kh P s53, .str s53 239, (.str s16 238)⟩, ⟨kh P s54, .str s54 241, (.int 9 240)⟩, ⟨kh P s55, .str s55 242, (r 54)⟩] 4), #[]⟩
def o50_0 : Obj := tu #[] 0
def o51_0 : Obj := ⟨.none, none, (.fields #[]), #[]⟩
def o52_0 : Obj := co #[(.str s16 232), (.str s16 233), (.str s1 234), (i 9), (i 0), (i 0), (i 0), (i 0), (r 50), (.bool false), (i 181), (r 51), .none, .none, .none, .none, (i 235), (i 9), (.str s1 236)]
def o53_0 : Obj := ⟨(.type SL.s658472552662922059x5), none, .plain, #[(some (r 52)), (some (r 3)), (some (r 49)), none, (some (.str s52 194)), none, (some (r 0))]⟩
def o54_0 : Obj := tu #[] 0
def o55_0 (P : Params) : Obj := ⟨(.type SL.s14018661285674007319x4), none, (.dict #[⟨kh P s51, .str s51 237, (.str s52 194)⟩, ⟨kh P s54, .str s54 241, (.int 9 240)⟩, ⟨kh P s55, .str s55 242, (r 54)⟩, ⟨kh P s5, .str s5 243, .none⟩] 2), #[]⟩
def o56_0 : Obj := ⟨(.type SL.s17162191345867700912x4), none, (.cls ⟨s16, [(r 31)], [(r 56), (r 31), (.type SL.s6070975301684473832x10), (.type SL.s5946037652744460706x9), (.type SL.s4278001404047624695x13), (.type SL.s2742458400755230247x6)], 55, s16, true, [], [], false, none, false⟩), #[(some (r 47)), none, (some (.str s16 230)), (some (.str s16 238)), (some (.builtin SL.s4209523147560561109x18)), (some (.bool true))]⟩
def o57_0 : Obj := ⟨(.type SL.s4290257624100764138x5), none, (.fields #[(r 56), (r 56), (r 56)]), #[]⟩
def o58_0 : Obj := ⟨(.type SL.s11030030927630378310x26), none, (.fields #[(.builtin SL.s4860613602091757760x24), (r 56)]), #[]⟩
def o59_0 : Obj := tu #[(r 31)] 0
def o60_0 : Obj := ⟨(.type SL.s11030030927630378310x26), none, (.fields #[(.builtin SL.s10062305145149207511x16), (.type SL.s17162191345867700912x4)]), #[]⟩
def o61_0 (P : Params) : Obj := ⟨(.type SL.s14018661285674007319x4), none, (.dict #[⟨kh P s51, .str s51 253, (.str s52 194)⟩, ⟨kh P s53, .str s53 255, (.str s17 254)⟩, ⟨kh P s54, .str s54 257, (.int 11 256)⟩, ⟨kh P s55, .str s55 258, (r 66)⟩] 4), #[]⟩
def o62_0 : Obj := tu #[] 0
def o63_0 : Obj := ⟨.none, none, (.fields #[]), #[]⟩
def o64_0 : Obj := co #[(.str s17 248), (.str s17 249), (.str s1 250), (i 11), (i 0), (i 0), (i 0), (i 0), (r 62), (.bool false), (i 181), (r 63), .none, .none, .none, .none, (i 251), (i 11), (.str s1 252)]
def o65_0 : Obj := ⟨(.type SL.s658472552662922059x5), none, .plain, #[(some (r 64)), (some (r 3)), (some (r 61)), none, (some (.str s52 194)), none, (some (r 0))]⟩
def o66_0 : Obj := tu #[] 0
def o67_0 (P : Params) : Obj := ⟨(.type SL.s14018661285674007319x4), none, (.dict #[⟨kh P s51, .str s51 253, (.str s52 194)⟩, ⟨kh P s54, .str s54 257, (.int 11 256)⟩, ⟨kh P s55, .str s55 258, (r 66)⟩, ⟨kh P s5, .str s5 259, .none⟩] 2), #[]⟩
def o68_0 : Obj := ⟨(.type SL.s17162191345867700912x4), none, (.cls ⟨s17, [(r 31)], [(r 68), (r 31), (.type SL.s6070975301684473832x10), (.type SL.s5946037652744460706x9), (.type SL.s4278001404047624695x13), (.type SL.s2742458400755230247x6)], 67, s17, true, [], [], false, none, false⟩), #[(some (r 59)), none, (some (.str s17 246)), (some (.str s17 254)), (some (.builtin SL.s4209523147560561109x18)), (some (.bool true))]⟩
def o69_0 : Obj := ⟨(.type SL.s4290257624100764138x5), none, (.fields #[(r 68), (r 68), (r 68)]), #[]⟩
def o70_0 : Obj := ⟨(.type SL.s11030030927630378310x26), none, (.fields #[(.builtin SL.s4860613602091757760x24), (r 68)]), #[]⟩
def o71_0 : Obj := tu #[(r 31)] 0
def o72_0 : Obj := ⟨(.type SL.s11030030927630378310x26), none, (.fields #[(.builtin SL.s10062305145149207511x16), (.type SL.s17162191345867700912x4)]), #[]⟩
def o73_0 (P : Params) : Obj := ⟨(.type SL.s14018661285674007319x4), none, (.dict #[⟨kh P s51, .str s51 269, (.str s52 194)⟩, ⟨kh P s53, .str s53 271, (.str s18 270)⟩, ⟨kh P s54, .str s54 273, (.int 13 272)⟩, ⟨kh P s55, .str s55 274, (r 78)⟩] 4), #[]⟩
def o74_0 : Obj := tu #[] 0
def o75_0 : Obj := ⟨.none, none, (.fields #[]), #[]⟩
def o76_0 : Obj := co #[(.str s18 264), (.str s18 265), (.str s1 266), (i 13), (i 0), (i 0), (i 0), (i 0), (r 74), (.bool false), (i 181), (r 75), .none, .none, .none, .none, (i 267), (i 13), (.str s1 268)]
def o77_0 : Obj := ⟨(.type SL.s658472552662922059x5), none, .plain, #[(some (r 76)), (some (r 3)), (some (r 73)), none, (some (.str s52 194)), none, (some (r 0))]⟩
def o78_0 : Obj := tu #[] 0
def o79_0 (P : Params) : Obj := ⟨(.type SL.s14018661285674007319x4), none, (.dict #[⟨kh P s51, .str s51 269, (.str s52 194)⟩, ⟨kh P s54, .str s54 273, (.int 13 272)⟩, ⟨kh P s55, .str s55 274, (r 78)⟩, ⟨kh P s5, .str s5 275, .none⟩] 2), #[]⟩
def o80_0 : Obj := ⟨(.type SL.s17162191345867700912x4), none, (.cls ⟨s18, [(r 31)], [(r 80), (r 31), (.type SL.s6070975301684473832x10), (.type SL.s5946037652744460706x9), (.type SL.s4278001404047624695x13), (.type SL.s2742458400755230247x6)], 79, s18, true, [], [], false, none, false⟩), #[(some (r 71)), none, (some (.str s18 262)), (some (.str s18 270)), (some (.builtin SL.s4209523147560561109x18)), (some (.bool true))]⟩
def o81_0 : Obj := ⟨(.type SL.s4290257624100764138x5), none, (.fields #[(r 80), (r 80), (r 80)]), #[]⟩
def o82_0 : Obj := ⟨(.type SL.s11030030927630378310x26), none, (.fields #[(.builtin SL.s4860613602091757760x24), (r 80)]), #[]⟩
def o83_0 : Obj := tu #[(r 31)] 0
def o84_0 : Obj := ⟨(.type SL.s11030030927630378310x26), none, (.fields #[(.builtin SL.s10062305145149207511x16), (.type SL.s17162191345867700912x4)]), #[]⟩
def o85_0 (P : Params) : Obj := ⟨(.type SL.s14018661285674007319x4), none, (.dict #[⟨kh P s51, .str s51 285, (.str s52 194)⟩, ⟨kh P s53, .str s53 287, (.str s19 286)⟩, ⟨kh P s54, .str s54 289, (.int 15 288)⟩, ⟨kh P s55, .str s55 290, (r 90)⟩] 4), #[]⟩
def o86_0 : Obj := tu #[] 0
def o87_0 : Obj := ⟨.none, none, (.fields #[]), #[]⟩
def o88_0 : Obj := co #[(.str s19 280), (.str s19 281), (.str s1 282), (i 15), (i 0), (i 0), (i 0), (i 0), (r 86), (.bool false), (i 181), (r 87), .none, .none, .none, .none, (i 283), (i 15), (.str s1 284)]
def o89_0 : Obj := ⟨(.type SL.s658472552662922059x5), none, .plain, #[(some (r 88)), (some (r 3)), (some (r 85)), none, (some (.str s52 194)), none, (some (r 0))]⟩
def o90_0 : Obj := tu #[] 0
def o91_0 (P : Params) : Obj := ⟨(.type SL.s14018661285674007319x4), none, (.dict #[⟨kh P s51, .str s51 285, (.str s52 194)⟩, ⟨kh P s54, .str s54 289, (.int 15 288)⟩, ⟨kh P s55, .str s55 290, (r 90)⟩, ⟨kh P s5, .str s5 291, .none⟩] 2), #[]⟩
def o92_0 : Obj := ⟨(.type SL.s17162191345867700912x4), none, (.cls ⟨s19, [(r 31)], [(r 92), (r 31), (.type SL.s6070975301684473832x10), (.type SL.s5946037652744460706x9), (.type SL.s4278001404047624695x13), (.type SL.s2742458400755230247x6)], 91, s19, true, [], [], false, none, false⟩), #[(some (r 83)), none, (some (.str s19 278)), (some (.str s19 286)), (some (.builtin SL.s4209523147560561109x18)), (some (.bool true))]⟩
def o93_0 : Obj := ⟨(.type SL.s4290257624100764138x5), none, (.fields #[(r 92), (r 92), (r 92)]), #[]⟩
def o94_0 : Obj := ⟨(.type SL.s11030030927630378310x26), none, (.fields #[(.builtin SL.s4860613602091757760x24), (r 92)]), #[]⟩
def o95_0 : Obj := tu #[] 0
def o96_0 : Obj := ⟨.none, none, (.fields #[]), #[]⟩
def o97_0 : Obj := f0 s20 s20 (topT 9)
def o98_0 : Obj := co #[(.str s20 296), (.str s20 297), (.str s1 298), (i 18), (i 2), (i 0), (i 0), (i 3), (r 95), (.bool true), (i 181), (r 96), .none, .none, .none, (r 97), (i 299), (i 18), (.str s1 300)]
def o99_0 : Obj := fo s20 s20 (topT 9) (.str s57 294) (r 98)
def o100_0 : Obj := tu #[] 0
def o101_0 : Obj := ⟨.none, none, (.fields #[]), #[]⟩
def o102_0 : Obj := f0 s21 s21 (topT 10)
def o103_0 : Obj := co #[(.str s21 302), (.str s21 303), (.str s1 304), (i 20), (i 3), (i 0), (i 0), (i 3), (r 100), (.bool true), (i 181), (r 101), .none, .none, .none, (r 102), (i 305), (i 20), (.str s1 306)]
def o104_0 : Obj := fo s21 s21 (topT 10) (.str s57 294) (r 103)
def o105_0 : Obj := tu #[] 0
def o106_0 : Obj := ⟨.none, none, (.fields #[]), #[]⟩
def o107_0 : Obj := f0 s22 s22 (topT 11)
def o108_0 : Obj := co #[(.str s22 308), (.str s22 309), (.str s1 310), (i 22), (i 3), (i 0), (i 0), (i 3), (r 105), (.bool true), (i 181), (r 106), .none, .none, .none, (r 107), (i 311), (i 22), (.str s1 312)]
def o109_0 : Obj := fo s22 s22 (topT 11) (.str s57 294) (r 108)
def o110_0 : Obj := tu #[] 0
def o111_0 : Obj := ⟨.none, none, (.fields #[]), #[]⟩
def o112_0 : Obj := f0 s27 s27 (topT 16)
def o113_0 : Obj := co #[(.str s27 322), (.str s27 323), (.str s1 324), (i 28), (i 1), (i 0), (i 0), (i 3), (r 110), (.bool true), (i 181), (r 111), .none, .none, .none, (r 112), (i 325), (i 28), (.str s1 326)]
def o114_0 : Obj := fo s27 s27 (topT 16) (.str s58 314) (r 113)
def o115_0 : Obj := tu #[] 0
def o116_0 : Obj := ⟨.none, none, (.fields #[]), #[]⟩
def o117_0 : Obj := f0 s28 s28 (topT 17)
def o118_0 : Obj := co #[(.str s28 328), (.str s28 329), (.str s1 330), (i 32), (i 2), (i 0), (i 0), (i 3), (r 115), (.bool true), (i 181), (r 116), .none, .none, .none, (r 117), (i 331), (i 32), (.str s1 332)]
def o119_0 : Obj := fo s28 s28 (topT 17) (.str s58 314) (r 118)
def o120_0 : Obj := tu #[] 0
def o121_0 : Obj := ⟨.none, none, (.fields #[]), #[]⟩
def o122_0 : Obj := tu #[(.str s59 337), (.str s60 338)] 0
def o123_0 : Obj := tu #[] 0
def o124_0 : Obj := f0 s29 s29 (topT 18)
def o125_0 : Obj := co #[(.str s29 334), (.str s29 335), (.str s1 336), (i 34), (i 2), (i 0), (i 0), (i 3), (r 120), (.bool true), (i 181), (r 121), .none, (r 122), (r 123), (r 124), (i 339), (i 34), (.str s1 340)]
def o126_0 : Obj := fo s29 s29 (topT 18) (.str s58 314) (r 125)
def o127_0 : Obj := tu #[] 0
def o128_0 : Obj := ⟨.none, none, (.fields #[]), #[]⟩
def o129_0 : Obj := f0 s30 s30 (topT 19)
def o130_0 : Obj := co #[(.str s30 342), (.str s30 343), (.str s1 344), (i 37), (i 3), (i 0), (i 0), (i 3), (r 127), (.bool true), (i 181), (r 128), .none, .none, .none, (r 129), (i 345), (i 37), (.str s1 346)]
def o131_0 : Obj := fo s30 s30 (topT 19) (.str s58 314) (r 130)
def o132_0 : Obj := tu #[] 0
def o133_0 : Obj := ⟨.none, none, (.fields #[]), #[]⟩
def o134_0 : Obj := f0 s31 s31 (topT 20)
def o135_0 : Obj := co #[(.str s31 348), (.str s31 349), (.str s1 350), (i 41), (i 3), (i 0), (i 0), (i 3), (r 132), (.bool true), (i 181), (r 133), .none, .none, .none, (r 134), (i 351), (i 41), (.str s1 352)]
def o136_0 : Obj := fo s31 s31 (topT 20) (.str s58 314) (r 135)
def o137_0 : Obj := tu #[] 0
def o138_0 : Obj := ⟨.none, none, (.fields #[]), #[]⟩
def o139_0 : Obj := f0 s32 s32 (topT 21)
def o140_0 : Obj := co #[(.str s32 354), (.str s32 355), (.str s1 356), (i 45), (i 2), (i 0), (i 0), (i 3), (r 137), (.bool true), (i 181), (r 138), .none, .none, .none, (r 139), (i 357), (i 45), (.str s1 358)]
def o141_0 : Obj := fo s32 s32 (topT 21) (.str s58 314) (r 140)
def o142_0 : Obj := tu #[] 0
def o143_0 : Obj := ⟨.none, none, (.fields #[]), #[]⟩
def o144_0 : Obj := tu #[(.str s61 365)] 0
def o145_0 : Obj := tu #[] 0
def o146_0 : Obj := f0 s33 s33 (topT 23)
def o147_0 : Obj := co #[(.str s33 362), (.str s33 363), (.str s1 364), (i 59), (i 1), (i 0), (i 0), (i 3), (r 142), (.bool true), (i 181), (r 143), .none, (r 144), (r 145), (r 146), (i 366), (i 59), (.str s1 367)]
def o148_0 : Obj := fo s33 s33 (topT 23) (.str s62 360) (r 147)
def o149_0 : Obj := tu #[] 0
def o150_0 : Obj := ⟨.none, none, (.fields #[]), #[]⟩
def o151_0 : Obj := tu #[(.str s63 372), (.str s64 373), (.str s65 374), (.str s66 375)] 0
def o152_0 : Obj := tu #[] 0
def o153_0 : Obj := f0 s34 s34 (topT 24)
def o154_0 : Obj := co #[(.str s34 369), (.str s34 370), (.str s1 371), (i 62), (i 4), (i 0), (i 0), (i 3), (r 149), (.bool true), (i 181), (r 150), .none, (r 151), (r 152), (r 153), (i 376), (i 62), (.str s1 377)]
def o155_0 : Obj := fo s34 s34 (topT 24) (.str s62 360) (r 154)
def o156_0 : Obj := tu #[] 0
def o157_0 : Obj := ⟨.none, none, (.fields #[]), #[]⟩
def o158_0 : Obj := f0 s35 s35 (topT 25)
def o159_0 : Obj := co #[(.str s35 379), (.str s35 380), (.str s1 381), (i 66), (i 4), (i 0), (i 0), (i 3), (r 156), (.bool true), (i 181), (r 157), .none, .none, .none, (r 158), (i 382), (i 66), (.str s1 383)]
def o160_0 : Obj := fo s35 s35 (topT 25) (.str s62 360) (r 159)
def o161_0 : Obj := tu #[] 0
def o162_0 : Obj := ⟨.none, none, (.fields #[]), #[]⟩
def o163_0 : Obj := tu #[(.str s60 390)] 0
def o164_0 : Obj := tu #[] 0
def o165_0 : Obj := f0 s36 s36 (topT 27)
def o166_0 : Obj := co #[(.str s36 387), (.str s36 388), (.str s1 389), (i 76), (i 1), (i 0), (i 0), (i 3), (r 161), (.bool true), (i 181), (r 162), .none, (r 163), (r 164), (r 165), (i 391), (i 76), (.str s1 392)]
def o167_0 : Obj := fo s36 s36 (topT 27) (.str s67 385) (r 166)
def o168_0 : Obj := tu #[] 0
def o169_0 : Obj := ⟨.none, none, (.fields #[]), #[]⟩
def o170_0 : Obj := tu #[(.str s68 397), (.str s69 398), (.str s70 399), (.str s71 400), (.str s72 401)] 0
def o171_0 : Obj := tu #[] 0
def o172_0 : Obj := f0 s37 s37 (topT 28)
def o173_0 : Obj := co #[(.str s37 394), (.str s37 395), (.str s1 396), (i 78), (i 2), (i 0), (i 0), (i 3), (r 168), (.bool true), (i 181), (r 169), .none, (r 170), (r 171), (r 172), (i 402), (i 78), (.str s1 403)]
def o174_0 : Obj := fo s37 s37 (topT 28) (.str s67 385) (r 173)
def o175_0 : Obj := tu #[] 0
def o176_0 : Obj := ⟨.none, none, (.fields #[]), #[]⟩
def o177_0 : Obj := tu #[(.str s73 408), (.str s74 409), (.str s75 410)] 0
def o178_0 : Obj := tu #[] 0
def o179_0 : Obj := f0 s38 s38 (topT 29)
def o180_0 : Obj := co #[(.str s38 405), (.str s38 406), (.str s1 407), (i 86), (i 2), (i 0), (i 0), (i 3), (r 175), (.bool true), (i 181), (r 176), .none, (r 177), (r 178), (r 179), (i 411), (i 86), (.str s1 412)]
def o181_0 : Obj := fo s38 s38 (topT 29) (.str s67 385) (r 180)
def o182_0 : Obj := tu #[] 0
def o183_0 : Obj := ⟨.none, none, (.fields #[]), #[]⟩
def o184_0 : Obj := tu #[(.str s76 417), (.str s77 418)] 0
def o185_0 : Obj := tu #[] 0
def o186_0 : Obj := f0 s39 s39 (topT 30)
def o187_0 : Obj := co #[(.str s39 414), (.str s39 415), (.str s1 416), (i 95), (i 1), (i 0), (i 0), (i 3), (r 182), (.bool true), (i 181), (r 183), .none, (r 184), (r 185), (r 186), (i 419), (i 95), (.str s1 420)]
def o188_0 : Obj := fo s39 s39 (topT 30) (.str s67 385) (r 187)
def o189_0 : Obj := tu #[] 0
def o190_0 : Obj := ⟨.none, none, (.fields #[]), #[]⟩
def o191_0 : Obj := f0 s44 s44 (topT 35)
def o192_0 : Obj := co #[(.str s44 430), (.str s44 431), (.str s1 432), (i 108), (i 1), (i 0), (i 0), (i 3), (r 189), (.bool true), (i 181), (r 190), .none, .none, .none, (r 191), (i 433), (i 108), (.str s1 434)]
def o193_0 : Obj := fo s44 s44 (topT 35) (.str s4 422) (r 192)
def o194_0 : Obj := tu #[] 0
def o195_0 : Obj := ⟨.none, none, (.fields #[]), #[]⟩
def o196_0 : Obj := tu #[(.str s78 439)] 0
def o197_0 : Obj := tu #[] 0
def o198_0 : Obj := f0 s45 s45 (topT 36)
def o199_0 : Obj := co #[(.str s45 436), (.str s45 437), (.str s1 438), (i 117), (i 1), (i 0), (i 0), (i 3), (r 194), (.bool true), (i 181), (r 195), .none, (r 196), (r 197), (r 198), (i 440), (i 117), (.str s1 441)]
def o200_0 : Obj := fo s45 s45 (topT 36) (.str s4 422) (r 199)
def o201_0 : Obj := tu #[] 0
def o202_0 : Obj := ⟨.none, none, (.fields #[]), #[]⟩
def o203_0 : Obj := tu #[(.str s78 446)] 0
def o204_0 : Obj := tu #[] 0
def o205_0 : Obj := f0 s46 s46 (topT 37)
def o206_0 : Obj := co #[(.str s46 443), (.str s46 444), (.str s1 445), (i 121), (i 1), (i 0), (i 0), (i 3), (r 201), (.bool true), (i 181), (r 202), .none, (r 203), (r 204), (r 205), (i 447), (i 121), (.str s1 448)]
def o207_0 : Obj := fo s46 s46 (topT 37) (.str s4 422) (r 206)
def o208_0 : Obj := tu #[] 0
def o209_0 : Obj := ⟨(.type SL.s11030030927630378310x26), none, (.fields #[(.builtin SL.s10062305145149207511x16), (.type SL.s17162191345867700912x4)]), #[]⟩
def o210_0 (P : Params) : Obj := ⟨(.type SL.s14018661285674007319x4), none, (.dict #[⟨kh P s51, .str s51 457, (.str s4 422)⟩, ⟨kh P s53, .str s53 459, (.str s47 458)⟩, ⟨kh P s54, .str s54 461, (.int 124 460)⟩, ⟨kh P s55, .str s55 462, (r 215)⟩] 4), #[]⟩
def o211_0 : Obj := tu #[] 0
def o212_0 : Obj := ⟨.none, none, (.fields #[]), #[]⟩
def o213_0 : Obj := co #[(.str s47 452), (.str s47 453), (.str s1 454), (i 124), (i 0), (i 0), (i 0), (i 0), (r 211), (.bool false), (i 181), (r 212), .none, .none, .none, .none, (i 455), (i 124), (.str s1 456)]
def o214_0 : Obj := ⟨(.type SL.s658472552662922059x5), none, .plain, #[(some (r 213)), (some (r 3)), (some (r 210)), none, (some (.str s4 422)), none, (some (r 0))]⟩
def o215_0 : Obj := tu #[] 0
def o216_0 (P : Params) : Obj := ⟨(.type SL.s14018661285674007319x4), none, (.dict #[⟨kh P s51, .str s51 457, (.str s4 422)⟩, ⟨kh P s54, .str s54 461, (.int 124 460)⟩, ⟨kh P s55, .str s55 462, (r 215)⟩, ⟨kh P s79, .str s79 464, (r 218)⟩, ⟨kh P s56, .str s56 466, (r 219)⟩, ⟨kh P s5, .str s5 467, .none⟩] 4), #[]⟩
def o217_0 : Obj := ⟨(.type SL.s17162191345867700912x4), none, (.cls ⟨s47, [(.type SL.s2742458400755230247x6)], [(r 217), (.type SL.s2742458400755230247x6)], 216, s47, true, [], [(r 245), (r 285)], false, none, false⟩), #[none, none, (some (.str s47 450)), (some (.str s47 458)), (some (.builtin SL.s11443829558043349243x14)), (some (.bool true))]⟩
def o218_0 : Obj := ⟨(.type SL.s14755015743595814543x17), none, (.fields #[(.str s79 463), (r 217), (.builtin SL.s6511155373996960695x17), (.builtin SL.s12411053484034534018x21)]), #[]⟩
def o219_0 : Obj := ⟨(.type SL.s14755015743595814543x17), none, (.fields #[(.str s56 465), (r 217), (.builtin SL.s10220274742760427390x26), .none]), #[]⟩
def o220_0 : Obj := ⟨(.type SL.s4290257624100764138x5), none, (.fields #[(r 217), (r 217), (r 217)]), #[]⟩
def o221_0 : Obj := ⟨(.type SL.s11030030927630378310x26), none, (.fields #[(.builtin SL.s4860613602091757760x24), (r 217)]), #[]⟩
def o222_0 : Obj := tu #[(r 217)] 0
def o223_0 : Obj := ⟨(.type SL.s11030030927630378310x26), none, (.fields #[(.builtin SL.s10062305145149207511x16), (.type SL.s17162191345867700912x4)]), #[]⟩
def o224_0 (P : Params) : Obj := ⟨(.type SL.s14018661285674007319x4), none, (.dict #[⟨kh P s51, .str s51 477, (.str s4 422)⟩, ⟨kh P s53, .str s53 479, (.str s48 478)⟩, ⟨kh P s54, .str s54 481, (.int 126 480)⟩, ⟨kh P s80, .str s80 488, (r 235)⟩, ⟨kh P s81, .str s81 495, (r 242)⟩, ⟨kh P s55, .str s55 496, (r 243)⟩] 6), #[]⟩
def o225_0 : Obj := tu #[] 0
def o226_0 : Obj := ⟨.none, none, (.fields #[(i 128), (i 4), (r 234), (i 131), (i 4), (r 241)]), #[]⟩
def o227_0 : Obj := co #[(.str s48 472), (.str s48 473), (.str s1 474), (i 126), (i 0), (i 0), (i 0), (i 0), (r 225), (.bool false), (i 181), (r 226), .none, .none, .none, .none, (i 475), (i 126), (.str s1 476)]
def o228_0 : Obj := ⟨(.type SL.s658472552662922059x5), none, .plain, #[(some (r 227)), (some (r 3)), (some (r 224)), none, (some (.str s4 422)), none, (some (r 0))]⟩
def o229_0 : Obj := tu #[] 0
def o230_0 : Obj := ⟨.none, none, (.fields #[]), #[]⟩
def o231_0 : Obj := tu #[(.str s82 485)] 0
def o232_0 : Obj := tu #[] 0
def o233_0 : Obj := f0 s80 s83 (L2.inClass (topT 39) 0)
def o234_0 : Obj := co #[(.str s80 482), (.str s83 483), (.str s1 484), (i 128), (i 1), (i 0), (i 0), (i 3), (r 229), (.bool true), (i 181), (r 230), .none, (r 231), (r 232), (r 233), (i 486), (i 128), (.str s1 487)]
def o235_0 : Obj := fo s80 s83 (L2.inClass (topT 39) 0) (.str s4 422) (r 234)
def o236_0 : Obj := tu #[] 0
def o237_0 : Obj := ⟨.none, none, (.fields #[]), #[]⟩
def o238_0 : Obj := tu #[(.str s82 492)] 0
def o239_0 : Obj := tu #[] 0
def o240_0 : Obj := f0 s81 s84 (L2.inClass (topT 39) 1)
def o241_0 : Obj := co #[(.str s81 489), (.str s84 490), (.str s1 491), (i 131), (i 1), (i 0), (i 0), (i 3), (r 236), (.bool true), (i 181), (r 237), .none, (r 238), (r 239), (r 240), (i 493), (i 131), (.str s1 494)]
def o242_0 : Obj := fo s81 s84 (L2.inClass (topT 39) 1) (.str s4 422) (r 241)
def o243_0 : Obj := tu #[] 0
def o244_0 (P : Params) : Obj := ⟨(.type SL.s14018661285674007319x4), none, (.dict #[⟨kh P s51, .str s51 477, (.str s4 422)⟩, ⟨kh P s54, .str s54 481, (.int 126 480)⟩, ⟨kh P s80, .str s80 488, (r 235)⟩, ⟨kh P s81, .str s81 495, (r 242)⟩, ⟨kh P s55, .str s55 496, (r 243)⟩, ⟨kh P s5, .str s5 497, .none⟩] 2), #[]⟩
def o245_0 : Obj := ⟨(.type SL.s17162191345867700912x4), none, (.cls ⟨s48, [(r 217)], [(r 245), (r 217), (.type SL.s2742458400755230247x6)], 244, s48, true, [], [], false, none, false⟩), #[(some (r 222)), none, (some (.str s48 470)), (some (.str s48 478)), (some (.builtin SL.s11443829558043349243x14)), (some (.bool true))]⟩
def o246_0 : Obj := ⟨(.type SL.s4290257624100764138x5), none, (.fields #[(r 245), (r 245), (r 245)]), #[]⟩
def o247_0 : Obj := ⟨(.type SL.s11030030927630378310x26), none, (.fields #[(.builtin SL.s4860613602091757760x24), (r 245)]), #[]⟩
def o248_0 : Obj := tu #[(r 217)] 0
def o249_0 : Obj := ⟨(.type SL.s11030030927630378310x26), none, (.fields #[(.builtin SL.s10062305145149207511x16), (.type SL.s17162191345867700912x4)]), #[]⟩
def o250_0 (P : Params) : Obj := ⟨(.type SL.s14018661285674007319x4), none, (.dict #[⟨kh P s51, .str s51 507, (.str s4 422)⟩, ⟨kh P s53, .str s53 509, (.str s49 508)⟩, ⟨kh P s54, .str s54 511, (.int 133 510)⟩, ⟨kh P s80, .str s80 518, (r 261)⟩, ⟨kh P s81, .str s81 525, (r 268)⟩, ⟨kh P s85, .str s85 533, (r 275)⟩, ⟨kh P s86, .str s86 541, (r 282)⟩, ⟨kh P s55, .str s55 542, (r 283)⟩] 8), #[]⟩
def o251_0 : Obj := tu #[] 0
def o252_0 : Obj := ⟨.none, none, (.fields #[(i 135), (i 4), (r 260), (i 138), (i 4), (r 267), (i 141), (i 4), (r 274), (i 144), (i 4), (r 281)]), #[]⟩
def o253_0 : Obj := co #[(.str s49 502), (.str s49 503), (.str s1 504), (i 133), (i 0), (i 0), (i 0), (i 0), (r 251), (.bool false), (i 181), (r 252), .none, .none, .none, .none, (i 505), (i 133), (.str s1 506)]
def o254_0 : Obj := ⟨(.type SL.s658472552662922059x5), none, .plain, #[(some (r 253)), (some (r 3)), (some (r 250)), none, (some (.str s4 422)), none, (some (r 0))]⟩
def o255_0 : Obj := tu #[] 0
def o256_0 : Obj := ⟨.none, none, (.fields #[]), #[]⟩
def o257_0 : Obj := tu #[(.str s82 515)] 0
def o258_0 : Obj := tu #[] 0
def o259_0 : Obj := f0 s80 s87 (L2.inClass (topT 40) 0)
def o260_0 : Obj := co #[(.str s80 512), (.str s87 513), (.str s1 514), (i 135), (i 1), (i 0), (i 0), (i 3), (r 255), (.bool true), (i 181), (r 256), .none, (r 257), (r 258), (r 259), (i 516), (i 135), (.str s1 517)]
def o261_0 : Obj := fo s80 s87 (L2.inClass (topT 40) 0) (.str s4 422) (r 260)
def o262_0 : Obj := tu #[] 0
def o263_0 : Obj := ⟨.none, none, (.fields #[]), #[]⟩
def o264_0 : Obj := tu #[(.str s82 522)] 0
def o265_0 : Obj := tu #[] 0
def o266_0 : Obj := f0 s81 s88 (L2.inClass (topT 40) 1)
def o267_0 : Obj := co #[(.str s81 519), (.str s88 520), (.str s1 521), (i 138), (i 1), (i 0), (i 0), (i 3), (r 262), (.bool true), (i 181), (r 263), .none, (r 264), (r 265), (r 266), (i 523), (i 138), (.str s1 524)]
def o268_0 : Obj := fo s81 s88 (L2.inClass (topT 40) 1) (.str s4 422) (r 267)
def o269_0 : Obj := tu #[] 0
def o270_0 : Obj := ⟨.none, none, (.fields #[]), #[]⟩
def o271_0 : Obj := tu #[(.str s82 529), (.str s89 530)] 0
def o272_0 : Obj := tu #[] 0
def o273_0 : Obj := f0 s85 s90 (L2.inClass (topT 40) 2)
def o274_0 : Obj := co #[(.str s85 526), (.str s90 527), (.str s1 528), (i 141), (i 2), (i 0), (i 0), (i 3), (r 269), (.bool true), (i 181), (r 270), .none, (r 271), (r 272), (r 273), (i 531), (i 141), (.str s1 532)]
def o275_0 : Obj := fo s85 s90 (L2.inClass (topT 40) 2) (.str s4 422) (r 274)
def o276_0 : Obj := tu #[] 0
def o277_0 : Obj := ⟨.none, none, (.fields #[]), #[]⟩
def o278_0 : Obj := tu #[(.str s82 537), (.str s89 538)] 0
def o279_0 : Obj := tu #[] 0
def o280_0 : Obj := f0 s86 s91 (L2.inClass (topT 40) 3)
def o281_0 : Obj := co #[(.str s86 534), (.str s91 535), (.str s1 536), (i 144), (i 2), (i 0), (i 0), (i 3), (r 276), (.bool true), (i 181), (r 277), .none, (r 278), (r 279), (r 280), (i 539), (i 144), (.str s1 540)]
def o282_0 : Obj := fo s86 s91 (L2.inClass (topT 40) 3) (.str s4 422) (r 281)
def o283_0 : Obj := tu #[] 0
def o284_0 (P : Params) : Obj := ⟨(.type SL.s14018661285674007319x4), none, (.dict #[⟨kh P s51, .str s51 507, (.str s4 422)⟩, ⟨kh P s54, .str s54 511, (.int 133 510)⟩, ⟨kh P s80, .str s80 518, (r 261)⟩, ⟨kh P s81, .str s81 525, (r 268)⟩, ⟨kh P s85, .str s85 533, (r 275)⟩, ⟨kh P s86, .str s86 541, (r 282)⟩, ⟨kh P s55, .str s55 542, (r 283)⟩, ⟨kh P s5, .str s5 543, .none⟩] 2), #[]⟩
def o285_0 : Obj := ⟨(.type SL.s17162191345867700912x4), none, (.cls ⟨s49, [(r 217)], [(r 285), (r 217), (.type SL.s2742458400755230247x6)], 284, s49, true, [], [], false, none, false⟩), #[(some (r 248)), none, (some (.str s49 500)), (some (.str s49 508)), (some (.builtin SL.s11443829558043349243x14)), (some (.bool true))]⟩
def o286_0 : Obj := ⟨(.type SL.s4290257624100764138x5), none, (.fields #[(r 285), (r 285), (r 285)]), #[]⟩
def o287_0 : Obj := ⟨(.type SL.s11030030927630378310x26), none, (.fields #[(.builtin SL.s4860613602091757760x24), (r 285)]), #[]⟩
def o3_1 (P : Params) : Obj := ⟨(.type SL.s14018661285674007319x4), none, (.dict #[⟨kh P s3, .str s3 165, (.str s92 907)⟩, ⟨kh P s5, .str s5 166, .none⟩, ⟨kh P s6, .str s6 167, .none⟩, ⟨kh P s7, .str s7 168, (.builtin SL.s7097527257260152453x26)⟩, ⟨kh P s8, .str s8 169, .none⟩, ⟨kh P s9, .str s9 170, (r 6)⟩, ⟨kh P s10, .str s10 171, (r 4)⟩, ⟨kh P s11, .str s11 173, (.str s1 172)⟩, ⟨kh P s12, .str s12 174, .none⟩, ⟨kh P s13, .str s13 193, (r 21)⟩, ⟨kh P s14, .str s14 213, (r 31)⟩, ⟨kh P s15, .str s15 229, (r 44)⟩, ⟨kh P s16, .str s16 245, (r 56)⟩, ⟨kh P s17, .str s17 261, (r 68)⟩, ⟨kh P s18, .str s18 277, (r 80)⟩, ⟨kh P s19, .str s19 293, (r 92)⟩, ⟨kh P s20, .str s20 301, (r 99)⟩, ⟨kh P s21, .str s21 307, (r 104)⟩, ⟨kh P s22, .str s22 313, (r 109)⟩, ⟨kh P s23, .str s23 317, (.str s24 316)⟩, ⟨kh P s25, .str s25 319, (.int 3 318)⟩, ⟨kh P s26, .str s26 321, (.int 20 320)⟩, ⟨kh P s27, .str s27 327, (r 114)⟩, ⟨kh P s28, .str s28 333, (r 119)⟩, ⟨kh P s29, .str s29 341, (r 126)⟩, ⟨kh P s30, .str s30 347, (r 131)⟩, ⟨kh P s31, .str s31 353, (r 136)⟩, ⟨kh P s32, .str s32 359, (r 141)⟩, ⟨kh P s33, .str s33 368, (r 148)⟩, ⟨kh P s34, .str s34 378, (r 155)⟩, ⟨kh P s35, .str s35 384, (r 160)⟩, ⟨kh P s36, .str s36 393, (r 167)⟩, ⟨kh P s37, .str s37 404, (r 174)⟩, ⟨kh P s38, .str s38 413, (r 181)⟩, ⟨kh P s39, .str s39 421, (r 188)⟩, ⟨kh P s40, .str s40 425, (.str s41 424)⟩, ⟨kh P s42, .str s42 427, (.int 30 426)⟩, ⟨kh P s43, .str s43 429, (.int 1000000 428)⟩, ⟨kh P s44, .str s44 435, (r 193)⟩, ⟨kh P s45, .str s45 442, (r 200)⟩, ⟨kh P s46, .str s46 449, (r 207)⟩, ⟨kh P s47, .str s47 469, (r 217)⟩, ⟨kh P s48, .str s48 499, (r 245)⟩, ⟨kh P s49, .str s49 545, (r 285)⟩, ⟨kh P s93, .str s93 643, (r 367)⟩, ⟨kh P s94, .str s94 748, (r 456)⟩, ⟨kh P s95, .str s95 827, (r 524)⟩, ⟨kh P s96, .str s96 906, (r 592)⟩, ⟨kh P s97, .str s97 917, (r 601)⟩, ⟨kh P s98, .str s98 926, (r 608)⟩, ⟨kh P s99, .str s99 936, (r 615)⟩, ⟨kh P s100, .str s100 945, (r 622)⟩, ⟨kh P s101, .str s101 954, (r 629)⟩, ⟨kh P s102, .str s102 961, (r 636)⟩, ⟨kh P s103, .str s103 970, (r 643)⟩, ⟨kh P s104, .str s104 977, (r 650)⟩, ⟨kh P s105, .str s105 987, (r 657)⟩, ⟨kh P s106, .str s106 998, (r 664)⟩, ⟨kh P s107, .str s107 1010, (r 671)⟩, ⟨kh P s108, .str s108 1016, (r 676)⟩, ⟨kh P s109, .str s109 1027, (r 683)⟩, ⟨kh P s110, .str s110 1041, (r 690)⟩, ⟨kh P s111, .str s111 1050, (r 697)⟩, ⟨kh P s112, .str s112 1062, (r 704)⟩, ⟨kh P s113, .str s113 1068, (r 709)⟩] 65), #[]⟩
def o12_1 : Obj := ⟨.none, none, (.fields #[(i 1), (i 0), (r 20), (i 5), (i 0), (r 27), (i 7), (i 0), (r 40), (i 9), (i 0), (r 52), (i 11), (i 0), (r 64), (i 13), (i 0), (r 76), (i 15), (i 0), (r 88), (i 18), (i 0), (r 98), (i 20), (i 0), (r 103), (i 22), (i 0), (r 108), (i 28), (i 0), (r 113), (i 32), (i 0), (r 118), (i 34), (i 0), (r 125), (i 37), (i 0), (r 130), (i 41), (i 0), (r 135), (i 45), (i 0), (r 140), (i 59), (i 0), (r 147), (i 62), (i 0), (r 154), (i 66), (i 0), (r 159), (i 76), (i 0), (r 166), (i 78), (i 0), (r 173), (i 86), (i 0), (r 180), (i 95), (i 0), (r 187), (i 108), (i 0), (r 192), (i 117), (i 0), (r 199), (i 121), (i 0), (r 206), (i 124), (i 0), (r 213), (i 126), (i 0), (r 227), (i 133), (i 0), (r 253), (i 146), (i 0), (r 293), (i 189), (i 0), (r 375), (i 228), (i 0), (r 464), (i 258), (i 0), (r 532), (i 289), (i 0), (r 600), (i 298), (i 0), (r 607), (i 305), (i 0), (r 614), (i 312), (i 0), (r 621), (i 322), (i 0), (r 628), (i 332), (i 0), (r 635), (i 334), (i 0), (r 642), (i 337), (i 0), (r 649), (i 345), (i 0), (r 656), (i 358), (i 0), (r 663), (i 366), (i 0), (r 670), (i 371), (i 0), (r 675), (i 376), (i 0), (r 682), (i 381), (i 0), (r 689), (i 392), (i 0), (r 696), (i 402), (i 0), (r 703), (i 415), (i 0), (r 708)]), #[]⟩
def o245_1 : Obj := ⟨(.type SL.s17162191345867700912x4), none, (.cls ⟨s48, [(r 217)], [(r 245), (r 217), (.type SL.s2742458400755230247x6)], 244, s48, true, [], [(r 367), (r 456)], false, none, false⟩), #[(some (r 222)), none, (some (.str s48 470)), (some (.str s48 478)), (some (.builtin SL.s11443829558043349243x14)), (some (.bool true))]⟩
def o285_1 : Obj := ⟨(.type SL.s17162191345867700912x4), none, (.cls ⟨s49, [(r 217)], [(r 285), (r 217), (.type SL.s2742458400755230247x6)], 284, s49, true, [], [(r 524), (r 592)], false, none, false⟩), #[(some (r 248)), none, (some (.str s49 500)), (some (.str s49 508)), (some (.builtin SL.s11443829558043349243x14)), (some (.bool true))]⟩
def o288_1 : Obj := tu #[(r 245)] 0
def o289_1 : Obj := ⟨(.type SL.s11030030927630378310x26), none, (.fields #[(.builtin SL.s10062305145149207511x16), (.type SL.s17162191345867700912x4)]), #[]⟩
def o290_1 (P : Params) : Obj := ⟨(.type SL.s14018661285674007319x4), none, (.dict #[⟨kh P s51, .str s51 553, (.str s4 422)⟩, ⟨kh P s53, .str s53 555, (.str s93 554)⟩, ⟨kh P s54, .str s54 557, (.int 146 556)⟩, ⟨kh P s114, .str s114 564, (r 301)⟩, ⟨kh P s115, .str s115 571, (r 308)⟩, ⟨kh P s68, .str s68 578, (r 315)⟩, ⟨kh P s116, .str s116 587, (r 322)⟩, ⟨kh P s117, .str s117 596, (r 329)⟩, ⟨kh P s85, .str s85 604, (r 336)⟩, ⟨kh P s86, .str s86 612, (r 343)⟩, ⟨kh P s118, .str s118 620, (r 350)⟩, ⟨kh P s119, .str s119 628, (r 357)⟩, ⟨kh P s120, .str s120 639, (r 364)⟩, ⟨kh P s55, .str s55 640, (r 365)⟩] 14), #[]⟩
def o291_1 : Obj := tu #[] 0
def o292_1 : Obj := ⟨.none, none, (.fields #[(i 148), (i 4), (r 300), (i 151), (i 4), (r 307), (i 154), (i 4), (r 314), (i 157), (i 4), (r 321), (i 160), (i 4), (r 328), (i 163), (i 4), (r 335), (i 166), (i 4), (r 342), (i 169), (i 4), (r 349), (i 176), (i 4), (r 356), (i 179), (i 4), (r 363)]), #[]⟩
def o293_1 : Obj := co #[(.str s93 548), (.str s93 549), (.str s1 550), (i 146), (i 0), (i 0), (i 0), (i 0), (r 291), (.bool false), (i 181), (r 292), .none, .none, .none, .none, (i 551), (i 146), (.str s1 552)]
def o294_1 : Obj := ⟨(.type SL.s658472552662922059x5), none, .plain, #[(some (r 293)), (some (r 3)), (some (r 290)), none, (some (.str s4 422)), none, (some (r 0))]⟩
def o295_1 : Obj := tu #[] 0
def o296_1 : Obj := ⟨.none, none, (.fields #[]), #[]⟩
def o297_1 : Obj := tu #[(.str s82 561)] 0
def o298_1 : Obj := tu #[] 0
def o299_1 : Obj := f0 s114 s121 (L2.inClass (topT 41) 0)
def o300_1 : Obj := co #[(.str s114 558), (.str s121 559), (.str s1 560), (i 148), (i 1), (i 0), (i 0), (i 3), (r 295), (.bool true), (i 181), (r 296), .none, (r 297), (r 298), (r 299), (i 562), (i 148), (.str s1 563)]
def o301_1 : Obj := fo s114 s121 (L2.inClass (topT 41) 0) (.str s4 422) (r 300)
def o302_1 : Obj := tu #[] 0
def o303_1 : Obj := ⟨.none, none, (.fields #[]), #[]⟩
def o304_1 : Obj := tu #[(.str s82 568)] 0
def o305_1 : Obj := tu #[] 0
def o306_1 : Obj := f0 s115 s122 (L2.inClass (topT 41) 1)
def o307_1 : Obj := co #[(.str s115 565), (.str s122 566), (.str s1 567), (i 151), (i 1), (i 0), (i 0), (i 3), (r 302), (.bool true), (i 181), (r 303), .none, (r 304), (r 305), (r 306), (i 569), (i 151), (.str s1 570)]
def o308_1 : Obj := fo s115 s122 (L2.inClass (topT 41) 1) (.str s4 422) (r 307)
def o309_1 : Obj := tu #[] 0
def o310_1 : Obj := ⟨.none, none, (.fields #[]), #[]⟩
def o311_1 : Obj := tu #[(.str s82 575)] 0
def o312_1 : Obj := tu #[] 0
def o313_1 : Obj := f0 s68 s123 (L2.inClass (topT 41) 2)
def o314_1 : Obj := co #[(.str s68 572), (.str s123 573), (.str s1 574), (i 154), (i 1), (i 0), (i 0), (i 3), (r 309), (.bool true), (i 181), (r 310), .none, (r 311), (r 312), (r 313), (i 576), (i 154), (.str s1 577)]
def o315_1 : Obj := fo s68 s123 (L2.inClass (topT 41) 2) (.str s4 422) (r 314)
def o316_1 : Obj := tu #[] 0
def o317_1 : Obj := ⟨.none, none, (.fields #[]), #[]⟩
def o318_1 : Obj := tu #[(.str s82 582), (.str s89 583), (.str s124 584)] 0
def o319_1 : Obj := tu #[] 0
def o320_1 : Obj := f0 s116 s125 (L2.inClass (topT 41) 3)
def o321_1 : Obj := co #[(.str s116 579), (.str s125 580), (.str s1 581), (i 157), (i 3), (i 0), (i 0), (i 3), (r 316), (.bool true), (i 181), (r 317), .none, (r 318), (r 319), (r 320), (i 585), (i 157), (.str s1 586)]
def o322_1 : Obj := fo s116 s125 (L2.inClass (topT 41) 3) (.str s4 422) (r 321)
def o323_1 : Obj := tu #[] 0
def o324_1 : Obj := ⟨.none, none, (.fields #[]), #[]⟩
def o325_1 : Obj := tu #[(.str s82 591), (.str s89 592), (.str s124 593)] 0
def o326_1 : Obj := tu #[] 0
def o327_1 : Obj := f0 s117 s126 (L2.inClass (topT 41) 4)
def o328_1 : Obj := co #[(.str s117 588), (.str s126 589), (.str s1 590), (i 160), (i 3), (i 0), (i 0), (i 3), (r 323), (.bool true), (i 181), (r 324), .none, (r 325), (r 326), (r 327), (i 594), (i 160), (.str s1 595)]
def o329_1 : Obj := fo s117 s126 (L2.inClass (topT 41) 4) (.str s4 422) (r 328)
def o330_1 : Obj := tu #[] 0
def o331_1 : Obj := ⟨.none, none, (.fields #[]), #[]⟩
def o332_1 : Obj := tu #[(.str s82 600), (.str s89 601)] 0
def o333_1 : Obj := tu #[] 0
def o334_1 : Obj := f0 s85 s127 (L2.inClass (topT 41) 5)
def o335_1 : Obj := co #[(.str s85 597), (.str s127 598), (.str s1 599), (i 163), (i 2), (i 0), (i 0), (i 3), (r 330), (.bool true), (i 181), (r 331), .none, (r 332), (r 333), (r 334), (i 602), (i 163), (.str s1 603)]
def o336_1 : Obj := fo s85 s127 (L2.inClass (topT 41) 5) (.str s4 422) (r 335)
def o337_1 : Obj := tu #[] 0
def o338_1 : Obj := ⟨.none, none, (.fields #[]), #[]⟩
def o339_1 : Obj := tu #[(.str s82 608), (.str s89 609)] 0
def o340_1 : Obj := tu #[] 0
def o341_1 : Obj := f0 s86 s128 (L2.inClass (topT 41) 6)
def o342_1 : Obj := co #[(.str s86 605), (.str s128 606), (.str s1 607), (i 166), (i 2), (i 0), (i 0), (i 3), (r 337), (.bool true), (i 181), (r 338), .none, (r 339), (r 340), (r 341), (i 610), (i 166), (.str s1 611)]
def o343_1 : Obj := fo s86 s128 (L2.inClass (topT 41) 6) (.str s4 422) (r 342)
def o344_1 : Obj := tu #[] 0
def o345_1 : Obj := ⟨.none, none, (.fields #[]), #[]⟩
def o346_1 : Obj := tu #[(.str s82 616), (.str s60 617)] 0
def o347_1 : Obj := tu #[] 0
def o348_1 : Obj := f0 s118 s129 (L2.inClass (topT 41) 7)
def o349_1 : Obj := co #[(.str s118 613), (.str s129 614), (.str s1 615), (i 169), (i 2), (i 0), (i 0), (i 3), (r 344), (.bool true), (i 181), (r 345), .none, (r 346), (r 347), (r 348), (i 618), (i 169), (.str s1 619)]
def o350_1 : Obj := fo s118 s129 (L2.inClass (topT 41) 7) (.str s4 422) (r 349)
def o351_1 : Obj := tu #[] 0
def o352_1 : Obj := ⟨.none, none, (.fields #[]), #[]⟩
def o353_1 : Obj := tu #[(.str s82 624), (.str s89 625)] 0
def o354_1 : Obj := tu #[] 0
def o355_1 : Obj := f0 s119 s130 (L2.inClass (topT 41) 8)
def o356_1 : Obj := co #[(.str s119 621), (.str s130 622), (.str s1 623), (i 176), (i 2), (i 0), (i 0), (i 3), (r 351), (.bool true), (i 181), (r 352), .none, (r 353), (r 354), (r 355), (i 626), (i 176), (.str s1 627)]
def o357_1 : Obj := fo s119 s130 (L2.inClass (topT 41) 8) (.str s4 422) (r 356)
def o358_1 : Obj := tu #[] 0
def o359_1 : Obj := ⟨.none, none, (.fields #[]), #[]⟩
def o360_1 : Obj := tu #[(.str s82 632), (.str s78 633), (.str s131 634), (.str s73 635), (.str s74 636)] 0
def o361_1 : Obj := tu #[] 0
def o362_1 : Obj := f0 s120 s132 (L2.inClass (topT 41) 9)
def o363_1 : Obj := co #[(.str s120 629), (.str s132 630), (.str s1 631), (i 179), (i 2), (i 0), (i 0), (i 3), (r 358), (.bool true), (i 181), (r 359), .none, (r 360), (r 361), (r 362), (i 637), (i 179), (.str s1 638)]
def o364_1 : Obj := fo s120 s132 (L2.inClass (topT 41) 9) (.str s4 422) (r 363)
def o365_1 : Obj := tu #[] 0
def o366_1 (P : Params) : Obj := ⟨(.type SL.s14018661285674007319x4), none, (.dict #[⟨kh P s51, .str s51 553, (.str s4 422)⟩, ⟨kh P s54, .str s54 557, (.int 146 556)⟩, ⟨kh P s114, .str s114 564, (r 301)⟩, ⟨kh P s115, .str s115 571, (r 308)⟩, ⟨kh P s68, .str s68 578, (r 315)⟩, ⟨kh P s116, .str s116 587, (r 322)⟩, ⟨kh P s117, .str s117 596, (r 329)⟩, ⟨kh P s85, .str s85 604, (r 336)⟩, ⟨kh P s86, .str s86 612, (r 343)⟩, ⟨kh P s118, .str s118 620, (r 350)⟩, ⟨kh P s119, .str s119 628, (r 357)⟩, ⟨kh P s120, .str s120 639, (r 364)⟩, ⟨kh P s55, .str s55 640, (r 365)⟩, ⟨kh P s5, .str s5 641, .none⟩] 2), #[]⟩
def o367_1 : Obj := ⟨(.type SL.s17162191345867700912x4), none, (.cls ⟨s93, [(r 245)], [(r 367), (r 245), (r 217), (.type SL.s2742458400755230247x6)], 366, s93, true, [], [], false, none, false⟩), #[(some (r 288)), none, (some (.str s93 546)), (some (.str s93 554)), (some (.builtin SL.s11443829558043349243x14)), (some (.bool true))]⟩
def o368_1 : Obj := ⟨(.type SL.s4290257624100764138x5), none, (.fields #[(r 367), (r 367), (r 367)]), #[]⟩
def o369_1 : Obj := ⟨(.type SL.s11030030927630378310x26), none, (.fields #[(.builtin SL.s4860613602091757760x24), (r 367)]), #[]⟩
def o370_1 : Obj := tu #[(r 245)] 0
def o371_1 : Obj := ⟨(.type SL.s11030030927630378310x26), none, (.fields #[(.builtin SL.s10062305145149207511x16), (.type SL.s17162191345867700912x4)]), #[]⟩
def o372_1 (P : Params) : Obj := ⟨(.type SL.s14018661285674007319x4), none, (.dict #[⟨kh P s51, .str s51 651, (.str s4 422)⟩, ⟨kh P s53, .str s53 653, (.str s94 652)⟩, ⟨kh P s54, .str s54 655, (.int 189 654)⟩, ⟨kh P s133, .str s133 663, (r 383)⟩, ⟨kh P s114, .str s114 670, (r 390)⟩, ⟨kh P s115, .str s115 677, (r 397)⟩, ⟨kh P s68, .str s68 684, (r 404)⟩, ⟨kh P s116, .str s116 693, (r 411)⟩, ⟨kh P s117, .str s117 702, (r 418)⟩, ⟨kh P s85, .str s85 710, (r 425)⟩, ⟨kh P s86, .str s86 718, (r 432)⟩, ⟨kh P s118, .str s118 726, (r 439)⟩, ⟨kh P s119, .str s119 734, (r 446)⟩, ⟨kh P s120, .str s120 743, (r 453)⟩, ⟨kh P s55, .str s55 745, (r 454)⟩] 15), #[]⟩
def o373_1 : Obj := tu #[] 0
def o374_1 : Obj := ⟨.none, none, (.fields #[(i 191), (i 4), (r 382), (i 196), (i 4), (r 389), (i 199), (i 4), (r 396), (i 202), (i 4), (r 403), (i 205), (i 4), (r 410), (i 208), (i 4), (r 417), (i 211), (i 4), (r 424), (i 214), (i 4), (r 431), (i 217), (i 4), (r 438), (i 220), (i 4), (r 445), (i 223), (i 4), (r 452)]), #[]⟩
def o375_1 : Obj := co #[(.str s94 646), (.str s94 647), (.str s1 648), (i 189), (i 0), (i 0), (i 0), (i 0), (r 373), (.bool false), (i 181), (r 374), .none, .none, .none, .none, (i 649), (i 189), (.str s1 650)]
def o376_1 : Obj := ⟨(.type SL.s658472552662922059x5), none, .plain, #[(some (r 375)), (some (r 3)), (some (r 372)), none, (some (.str s4 422)), none, (some (r 0))]⟩
def o377_1 : Obj := tu #[] 0
def o378_1 : Obj := ⟨.none, none, (.fields #[]), #[]⟩
def o379_1 : Obj := tu #[(.str s82 659), (.str s134 660)] 0
def o380_1 : Obj := tu #[] 0
def o381_1 : Obj := f0 s133 s135 (L2.inClass (topT 42) 0)
def o382_1 : Obj := co #[(.str s133 656), (.str s135 657), (.str s1 658), (i 191), (i 2), (i 0), (i 0), (i 3), (r 377), (.bool true), (i 181), (r 378), .none, (r 379), (r 380), (r 381), (i 661), (i 191), (.str s1 662)]
def o383_1 : Obj := fo s133 s135 (L2.inClass (topT 42) 0) (.str s4 422) (r 382)
def o384_1 : Obj := tu #[] 0
def o385_1 : Obj := ⟨.none, none, (.fields #[]), #[]⟩
def o386_1 : Obj := tu #[(.str s82 667)] 0
def o387_1 : Obj := tu #[] 0
def o388_1 : Obj := f0 s114 s136 (L2.inClass (topT 42) 1)
def o389_1 : Obj := co #[(.str s114 664), (.str s136 665), (.str s1 666), (i 196), (i 1), (i 0), (i 0), (i 3), (r 384), (.bool true), (i 181), (r 385), .none, (r 386), (r 387), (r 388), (i 668), (i 196), (.str s1 669)]
def o390_1 : Obj := fo s114 s136 (L2.inClass (topT 42) 1) (.str s4 422) (r 389)
def o391_1 : Obj := tu #[] 0
def o392_1 : Obj := ⟨.none, none, (.fields #[]), #[]⟩
def o393_1 : Obj := tu #[(.str s82 674)] 0
def o394_1 : Obj := tu #[] 0
def o395_1 : Obj := f0 s115 s137 (L2.inClass (topT 42) 2)
def o396_1 : Obj := co #[(.str s115 671), (.str s137 672), (.str s1 673), (i 199), (i 1), (i 0), (i 0), (i 3), (r 391), (.bool true), (i 181), (r 392), .none, (r 393), (r 394), (r 395), (i 675), (i 199), (.str s1 676)]
def o397_1 : Obj := fo s115 s137 (L2.inClass (topT 42) 2) (.str s4 422) (r 396)
def o398_1 : Obj := tu #[] 0
def o399_1 : Obj := ⟨.none, none, (.fields #[]), #[]⟩
def o400_1 : Obj := tu #[(.str s82 681)] 0
def o401_1 : Obj := tu #[] 0
def o402_1 : Obj := f0 s68 s138 (L2.inClass (topT 42) 3)
def o403_1 : Obj := co #[(.str s68 678), (.str s138 679), (.str s1 680), (i 202), (i 1), (i 0), (i 0), (i 3), (r 398), (.bool true), (i 181), (r 399), .none, (r 400), (r 401), (r 402), (i 682), (i 202), (.str s1 683)]
def o404_1 : Obj := fo s68 s138 (L2.inClass (topT 42) 3) (.str s4 422) (r 403)
def o405_1 : Obj := tu #[] 0
def o406_1 : Obj := ⟨.none, none, (.fields #[]), #[]⟩
def o407_1 : Obj := tu #[(.str s82 688), (.str s89 689), (.str s124 690)] 0
def o408_1 : Obj := tu #[] 0
def o409_1 : Obj := f0 s116 s139 (L2.inClass (topT 42) 4)
def o410_1 : Obj := co #[(.str s116 685), (.str s139 686), (.str s1 687), (i 205), (i 3), (i 0), (i 0), (i 3), (r 405), (.bool true), (i 181), (r 406), .none, (r 407), (r 408), (r 409), (i 691), (i 205), (.str s1 692)]
def o411_1 : Obj := fo s116 s139 (L2.inClass (topT 42) 4) (.str s4 422) (r 410)
def o412_1 : Obj := tu #[] 0
def o413_1 : Obj := ⟨.none, none, (.fields #[]), #[]⟩
def o414_1 : Obj := tu #[(.str s82 697), (.str s89 698), (.str s124 699)] 0
def o415_1 : Obj := tu #[] 0
def o416_1 : Obj := f0 s117 s140 (L2.inClass (topT 42) 5)
def o417_1 : Obj := co #[(.str s117 694), (.str s140 695), (.str s1 696), (i 208), (i 3), (i 0), (i 0), (i 3), (r 412), (.bool true), (i 181), (r 413), .none, (r 414), (r 415), (r 416), (i 700), (i 208), (.str s1 701)]
def o418_1 : Obj := fo s117 s140 (L2.inClass (topT 42) 5) (.str s4 422) (r 417)
def o419_1 : Obj := tu #[] 0
def o420_1 : Obj := ⟨.none, none, (.fields #[]), #[]⟩
def o421_1 : Obj := tu #[(.str s82 706), (.str s89 707)] 0
def o422_1 : Obj := tu #[] 0
def o423_1 : Obj := f0 s85 s141 (L2.inClass (topT 42) 6)
def o424_1 : Obj := co #[(.str s85 703), (.str s141 704), (.str s1 705), (i 211), (i 2), (i 0), (i 0), (i 3), (r 419), (.bool true), (i 181), (r 420), .none, (r 421), (r 422), (r 423), (i 708), (i 211), (.str s1 709)]
def o425_1 : Obj := fo s85 s141 (L2.inClass (topT 42) 6) (.str s4 422) (r 424)
def o426_1 : Obj := tu #[] 0
def o427_1 : Obj := ⟨.none, none, (.fields #[]), #[]⟩
def o428_1 : Obj := tu #[(.str s82 714), (.str s89 715)] 0
def o429_1 : Obj := tu #[] 0
def o430_1 : Obj := f0 s86 s142 (L2.inClass (topT 42) 7)
def o431_1 : Obj := co #[(.str s86 711), (.str s142 712), (.str s1 713), (i 214), (i 2), (i 0), (i 0), (i 3), (r 426), (.bool true), (i 181), (r 427), .none, (r 428), (r 429), (r 430), (i 716), (i 214), (.str s1 717)]
def o432_1 : Obj := fo s86 s142 (L2.inClass (topT 42) 7) (.str s4 422) (r 431)
def o433_1 : Obj := tu #[] 0
def o434_1 : Obj := ⟨.none, none, (.fields #[]), #[]⟩
def o435_1 : Obj := tu #[(.str s82 722), (.str s60 723)] 0
def o436_1 : Obj := tu #[] 0
def o437_1 : Obj := f0 s118 s143 (L2.inClass (topT 42) 8)
def o438_1 : Obj := co #[(.str s118 719), (.str s143 720), (.str s1 721), (i 217), (i 2), (i 0), (i 0), (i 3), (r 433), (.bool true), (i 181), (r 434), .none, (r 435), (r 436), (r 437), (i 724), (i 217), (.str s1 725)]
def o439_1 : Obj := fo s118 s143 (L2.inClass (topT 42) 8) (.str s4 422) (r 438)
def o440_1 : Obj := tu #[] 0
def o441_1 : Obj := ⟨.none, none, (.fields #[]), #[]⟩
def o442_1 : Obj := tu #[(.str s82 730), (.str s89 731)] 0
def o443_1 : Obj := tu #[] 0
def o444_1 : Obj := f0 s119 s144 (L2.inClass (topT 42) 9)
def o445_1 : Obj := co #[(.str s119 727), (.str s144 728), (.str s1 729), (i 220), (i 2), (i 0), (i 0), (i 3), (r 440), (.bool true), (i 181), (r 441), .none, (r 442), (r 443), (r 444), (i 732), (i 220), (.str s1 733)]
def o446_1 : Obj := fo s119 s144 (L2.inClass (topT 42) 9) (.str s4 422) (r 445)
def o447_1 : Obj := tu #[] 0
def o448_1 : Obj := ⟨.none, none, (.fields #[]), #[]⟩
def o449_1 : Obj := tu #[(.str s82 738), (.str s78 739), (.str s76 740)] 0
def o450_1 : Obj := tu #[] 0
def o451_1 : Obj := f0 s120 s145 (L2.inClass (topT 42) 10)
def o452_1 : Obj := co #[(.str s120 735), (.str s145 736), (.str s1 737), (i 223), (i 2), (i 0), (i 0), (i 3), (r 447), (.bool true), (i 181), (r 448), .none, (r 449), (r 450), (r 451), (i 741), (i 223), (.str s1 742)]
def o453_1 : Obj := fo s120 s145 (L2.inClass (topT 42) 10) (.str s4 422) (r 452)
def o454_1 : Obj := tu #[(.str s134 744)] 0
def o455_1 (P : Params) : Obj := ⟨(.type SL.s14018661285674007319x4), none, (.dict #[⟨kh P s51, .str s51 651, (.str s4 422)⟩, ⟨kh P s54, .str s54 655, (.int 189 654)⟩, ⟨kh P s133, .str s133 663, (r 383)⟩, ⟨kh P s114, .str s114 670, (r 390)⟩, ⟨kh P s115, .str s115 677, (r 397)⟩, ⟨kh P s68, .str s68 684, (r 404)⟩, ⟨kh P s116, .str s116 693, (r 411)⟩, ⟨kh P s117, .str s117 702, (r 418)⟩, ⟨kh P s85, .str s85 710, (r 425)⟩, ⟨kh P s86, .str s86 718, (r 432)⟩, ⟨kh P s118, .str s118 726, (r 439)⟩, ⟨kh P s119, .str s119 734, (r 446)⟩, ⟨kh P s120, .str s120 743, (r 453)⟩, ⟨kh P s55, .str s55 745, (r 454)⟩, ⟨kh P s5, .str s5 746, .none⟩] 2), #[]⟩
def o456_1 : Obj := ⟨(.type SL.s17162191345867700912x4), none, (.cls ⟨s94, [(r 245)], [(r 456), (r 245), (r 217), (.type SL.s2742458400755230247x6)], 455, s94, true, [], [], false, none, false⟩), #[(some (r 370)), none, (some (.str s94 644)), (some (.str s94 652)), (some (.builtin SL.s11443829558043349243x14)), (some (.bool true))]⟩
def o457_1 : Obj := ⟨(.type SL.s4290257624100764138x5), none, (.fields #[(r 456), (r 456), (r 456)]), #[]⟩
def o458_1 : Obj := ⟨(.type SL.s11030030927630378310x26), none, (.fields #[(.builtin SL.s4860613602091757760x24), (r 456)]), #[]⟩
def o459_1 : Obj := tu #[(r 285)] 0
def o460_1 : Obj := ⟨(.type SL.s11030030927630378310x26), none, (.fields #[(.builtin SL.s10062305145149207511x16), (.type SL.s17162191345867700912x4)]), #[]⟩
def o461_1 (P : Params) : Obj := ⟨(.type SL.s14018661285674007319x4), none, (.dict #[⟨kh P s51, .str s51 756, (.str s4 422)⟩, ⟨kh P s53, .str s53 758, (.str s95 757)⟩, ⟨kh P s54, .str s54 760, (.int 228 759)⟩, ⟨kh P s114, .str s114 767, (r 472)⟩, ⟨kh P s115, .str s115 774, (r 479)⟩, ⟨kh P s68, .str s68 781, (r 486)⟩, ⟨kh P s116, .str s116 790, (r 493)⟩, ⟨kh P s117, .str s117 799, (r 500)⟩, ⟨kh P s118, .str s118 807, (r 507)⟩, ⟨kh P s119, .str s119 815, (r 514)⟩, ⟨kh P s120, .str s120 823, (r 521)⟩, ⟨kh P s55, .str s55 824, (r 522)⟩] 12), #[]⟩
def o462_1 : Obj := tu #[] 0
def o463_1 : Obj := ⟨.none, none, (.fields #[(i 230), (i 4), (r 471), (i 233), (i 4), (r 478), (i 236), (i 4), (r 485), (i 239), (i 4), (r 492), (i 242), (i 4), (r 499), (i 247), (i 4), (r 506), (i 250), (i 4), (r 513), (i 253), (i 4), (r 520)]), #[]⟩
def o464_1 : Obj := co #[(.str s95 751), (.str s95 752), (.str s1 753), (i 228), (i 0), (i 0), (i 0), (i 0), (r 462), (.bool false), (i 181), (r 463), .none, .none, .none, .none, (i 754), (i 228), (.str s1 755)]
def o465_1 : Obj := ⟨(.type SL.s658472552662922059x5), none, .plain, #[(some (r 464)), (some (r 3)), (some (r 461)), none, (some (.str s4 422)), none, (some (r 0))]⟩
def o466_1 : Obj := tu #[] 0
def o467_1 : Obj := ⟨.none, none, (.fields #[]), #[]⟩
def o468_1 : Obj := tu #[(.str s82 764)] 0
def o469_1 : Obj := tu #[] 0
def o470_1 : Obj := f0 s114 s146 (L2.inClass (topT 43) 0)
def o471_1 : Obj := co #[(.str s114 761), (.str s146 762), (.str s1 763), (i 230), (i 1), (i 0), (i 0), (i 3), (r 466), (.bool true), (i 181), (r 467), .none, (r 468), (r 469), (r 470), (i 765), (i 230), (.str s1 766)]
def o472_1 : Obj := fo s114 s146 (L2.inClass (topT 43) 0) (.str s4 422) (r 471)
def o473_1 : Obj := tu #[] 0
def o474_1 : Obj := ⟨.none, none, (.fields #[]), #[]⟩
def o475_1 : Obj := tu #[(.str s82 771)] 0
def o476_1 : Obj := tu #[] 0
def o477_1 : Obj := f0 s115 s147 (L2.inClass (topT 43) 1)
def o478_1 : Obj := co #[(.str s115 768), (.str s147 769), (.str s1 770), (i 233), (i 1), (i 0), (i 0), (i 3), (r 473), (.bool true), (i 181), (r 474), .none, (r 475), (r 476), (r 477), (i 772), (i 233), (.str s1 773)]
def o479_1 : Obj := fo s115 s147 (L2.inClass (topT 43) 1) (.str s4 422) (r 478)
def o480_1 : Obj := tu #[] 0
def o481_1 : Obj := ⟨.none, none, (.fields #[]), #[]⟩
def o482_1 : Obj := tu #[(.str s82 778)] 0
def o483_1 : Obj := tu #[] 0
def o484_1 : Obj := f0 s68 s148 (L2.inClass (topT 43) 2)
def o485_1 : Obj := co #[(.str s68 775), (.str s148 776), (.str s1 777), (i 236), (i 1), (i 0), (i 0), (i 3), (r 480), (.bool true), (i 181), (r 481), .none, (r 482), (r 483), (r 484), (i 779), (i 236), (.str s1 780)]
def o486_1 : Obj := fo s68 s148 (L2.inClass (topT 43) 2) (.str s4 422) (r 485)
def o487_1 : Obj := tu #[] 0
def o488_1 : Obj := ⟨.none, none, (.fields #[]), #[]⟩
def o489_1 : Obj := tu #[(.str s82 785), (.str s89 786), (.str s124 787)] 0
def o490_1 : Obj := tu #[] 0
def o491_1 : Obj := f0 s116 s149 (L2.inClass (topT 43) 3)
def o492_1 : Obj := co #[(.str s116 782), (.str s149 783), (.str s1 784), (i 239), (i 3), (i 0), (i 0), (i 3), (r 487), (.bool true), (i 181), (r 488), .none, (r 489), (r 490), (r 491), (i 788), (i 239), (.str s1 789)]
def o493_1 : Obj := fo s116 s149 (L2.inClass (topT 43) 3) (.str s4 422) (r 492)
def o494_1 : Obj := tu #[] 0
def o495_1 : Obj := ⟨.none, none, (.fields #[]), #[]⟩
def o496_1 : Obj := tu #[(.str s82 794), (.str s89 795), (.str s124 796)] 0
def o497_1 : Obj := tu #[] 0
def o498_1 : Obj := f0 s117 s150 (L2.inClass (topT 43) 4)
def o499_1 : Obj := co #[(.str s117 791), (.str s150 792), (.str s1 793), (i 242), (i 3), (i 0), (i 0), (i 3), (r 494), (.bool true), (i 181), (r 495), .none, (r 496), (r 497), (r 498), (i 797), (i 242), (.str s1 798)]
def o500_1 : Obj := fo s117 s150 (L2.inClass (topT 43) 4) (.str s4 422) (r 499)
def o501_1 : Obj := tu #[] 0
def o502_1 : Obj := ⟨.none, none, (.fields #[]), #[]⟩
def o503_1 : Obj := tu #[(.str s82 803), (.str s60 804)] 0
def o504_1 : Obj := tu #[] 0
def o505_1 : Obj := f0 s118 s151 (L2.inClass (topT 43) 5)
def o506_1 : Obj := co #[(.str s118 800), (.str s151 801), (.str s1 802), (i 247), (i 2), (i 0), (i 0), (i 3), (r 501), (.bool true), (i 181), (r 502), .none, (r 503), (r 504), (r 505), (i 805), (i 247), (.str s1 806)]
def o507_1 : Obj := fo s118 s151 (L2.inClass (topT 43) 5) (.str s4 422) (r 506)
def o508_1 : Obj := tu #[] 0
def o509_1 : Obj := ⟨.none, none, (.fields #[]), #[]⟩
def o510_1 : Obj := tu #[(.str s82 811), (.str s89 812)] 0
def o511_1 : Obj := tu #[] 0
def o512_1 : Obj := f0 s119 s152 (L2.inClass (topT 43) 6)
def o513_1 : Obj := co #[(.str s119 808), (.str s152 809), (.str s1 810), (i 250), (i 2), (i 0), (i 0), (i 3), (r 508), (.bool true), (i 181), (r 509), .none, (r 510), (r 511), (r 512), (i 813), (i 250), (.str s1 814)]
def o514_1 : Obj := fo s119 s152 (L2.inClass (topT 43) 6) (.str s4 422) (r 513)
def o515_1 : Obj := tu #[] 0
def o516_1 : Obj := ⟨.none, none, (.fields #[]), #[]⟩
def o517_1 : Obj := tu #[(.str s82 819), (.str s78 820)] 0
def o518_1 : Obj := tu #[] 0
def o519_1 : Obj := f0 s120 s153 (L2.inClass (topT 43) 7)
def o520_1 : Obj := co #[(.str s120 816), (.str s153 817), (.str s1 818), (i 253), (i 2), (i 0), (i 0), (i 3), (r 515), (.bool true), (i 181), (r 516), .none, (r 517), (r 518), (r 519), (i 821), (i 253), (.str s1 822)]
def o521_1 : Obj := fo s120 s153 (L2.inClass (topT 43) 7) (.str s4 422) (r 520)
def o522_1 : Obj := tu #[] 0
def o523_1 (P : Params) : Obj := ⟨(.type SL.s14018661285674007319x4), none, (.dict #[⟨kh P s51, .str s51 756, (.str s4 422)⟩, ⟨kh P s54, .str s54 760, (.int 228 759)⟩, ⟨kh P s114, .str s114 767, (r 472)⟩, ⟨kh P s115, .str s115 774, (r 479)⟩, ⟨kh P s68, .str s68 781, (r 486)⟩, ⟨kh P s116, .str s116 790, (r 493)⟩, ⟨kh P s117, .str s117 799, (r 500)⟩, ⟨kh P s118, .str s118 807, (r 507)⟩, ⟨kh P s119, .str s119 815, (r 514)⟩, ⟨kh P s120, .str s120 823, (r 521)⟩, ⟨kh P s55, .str s55 824, (r 522)⟩, ⟨kh P s5, .str s5 825, .none⟩] 2), #[]⟩
def o524_1 : Obj := ⟨(.type SL.s17162191345867700912x4), none, (.cls ⟨s95, [(r 285)], [(r 524), (r 285), (r 217), (.type SL.s2742458400755230247x6)], 523, s95, true, [], [], false, none, false⟩), #[(some (r 459)), none, (some (.str s95 749)), (some (.str s95 757)), (some (.builtin SL.s11443829558043349243x14)), (some (.bool true))]⟩
def o525_1 : Obj := ⟨(.type SL.s4290257624100764138x5), none, (.fields #[(r 524), (r 524), (r 524)]), #[]⟩
def o526_1 : Obj := ⟨(.type SL.s11030030927630378310x26), none, (.fields #[(.builtin SL.s4860613602091757760x24), (r 524)]), #[]⟩
def o527_1 : Obj := tu #[(r 285)] 0
def o528_1 : Obj := ⟨(.type SL.s11030030927630378310x26), none, (.fields #[(.builtin SL.s10062305145149207511x16), (.type SL.s17162191345867700912x4)]), #[]⟩
def o529_1 (P : Params) : Obj := ⟨(.type SL.s14018661285674007319x4), none, (.dict #[⟨kh P s51, .str s51 835, (.str s4 422)⟩, ⟨kh P s53, .str s53 837, (.str s96 836)⟩, ⟨kh P s54, .str s54 839, (.int 258 838)⟩, ⟨kh P s114, .str s114 846, (r 540)⟩, ⟨kh P s115, .str s115 853, (r 547)⟩, ⟨kh P s68, .str s68 860, (r 554)⟩, ⟨kh P s116, .str s116 869, (r 561)⟩, ⟨kh P s117, .str s117 878, (r 568)⟩, ⟨kh P s118, .str s118 886, (r 575)⟩, ⟨kh P s119, .str s119 894, (r 582)⟩, ⟨kh P s120, .str s120 902, (r 589)⟩, ⟨kh P s55, .str s55 903, (r 590)⟩] 12), #[]⟩
def o530_1 : Obj := tu #[] 0
def o531_1 : Obj := ⟨.none, none, (.fields #[(i 260), (i 4), (r 539), (i 263), (i 4), (r 546), (i 266), (i 4), (r 553), (i 269), (i 4), (r 560), (i 272), (i 4), (r 567), (i 275), (i 4), (r 574), (i 278), (i 4), (r 581), (i 281), (i 4), (r 588)]), #[]⟩
def o532_1 : Obj := co #[(.str s96 830), (.str s96 831), (.str s1 832), (i 258), (i 0), (i 0), (i 0), (i 0), (r 530), (.bool false), (i 181), (r 531), .none, .none, .none, .none, (i 833), (i 258), (.str s1 834)]
def o533_1 : Obj := ⟨(.type SL.s658472552662922059x5), none, .plain, #[(some (r 532)), (some (r 3)), (some (r 529)), none, (some (.str s4 422)), none, (some (r 0))]⟩
def o534_1 : Obj := tu #[] 0
def o535_1 : Obj := ⟨.none, none, (.fields #[]), #[]⟩
def o536_1 : Obj := tu #[(.str s82 843)] 0
def o537_1 : Obj := tu #[] 0
def o538_1 : Obj := f0 s114 s154 (L2.inClass (topT 44) 0)
def o539_1 : Obj := co #[(.str s114 840), (.str s154 841), (.str s1 842), (i 260), (i 1), (i 0), (i 0), (i 3), (r 534), (.bool true), (i 181), (r 535), .none, (r 536), (r 537), (r 538), (i 844), (i 260), (.str s1 845)]
def o540_1 : Obj := fo s114 s154 (L2.inClass (topT 44) 0) (.str s4 422) (r 539)
def o541_1 : Obj := tu #[] 0
def o542_1 : Obj := ⟨.none, none, (.fields #[]), #[]⟩
def o543_1 : Obj := tu #[(.str s82 850)] 0
def o544_1 : Obj := tu #[] 0
def o545_1 : Obj := f0 s115 s155 (L2.inClass (topT 44) 1)
def o546_1 : Obj := co #[(.str s115 847), (.str s155 848), (.str s1 849), (i 263), (i 1), (i 0), (i 0), (i 3), (r 541), (.bool true), (i 181), (r 542), .none, (r 543), (r 544), (r 545), (i 851), (i 263), (.str s1 852)]
def o547_1 : Obj := fo s115 s155 (L2.inClass (topT 44) 1) (.str s4 422) (r 546)
def o548_1 : Obj := tu #[] 0
def o549_1 : Obj := ⟨.none, none, (.fields #[]), #[]⟩
def o550_1 : Obj := tu #[(.str s82 857)] 0
def o551_1 : Obj := tu #[] 0
def o552_1 : Obj := f0 s68 s156 (L2.inClass (topT 44) 2)
def o553_1 : Obj := co #[(.str s68 854), (.str s156 855), (.str s1 856), (i 266), (i 1), (i 0), (i 0), (i 3), (r 548), (.bool true), (i 181), (r 549), .none, (r 550), (r 551), (r 552), (i 858), (i 266), (.str s1 859)]
def o554_1 : Obj := fo s68 s156 (L2.inClass (topT 44) 2) (.str s4 422) (r 553)
def o555_1 : Obj := tu #[] 0
def o556_1 : Obj := ⟨.none, none, (.fields #[]), #[]⟩
def o557_1 : Obj := tu #[(.str s82 864), (.str s89 865), (.str s124 866)] 0
def o558_1 : Obj := tu #[] 0
def o559_1 : Obj := f0 s116 s157 (L2.inClass (topT 44) 3)
def o560_1 : Obj := co #[(.str s116 861), (.str s157 862), (.str s1 863), (i 269), (i 3), (i 0), (i 0), (i 3), (r 555), (.bool true), (i 181), (r 556), .none, (r 557), (r 558), (r 559), (i 867), (i 269), (.str s1 868)]
def o561_1 : Obj := fo s116 s157 (L2.inClass (topT 44) 3) (.str s4 422) (r 560)
def o562_1 : Obj := tu #[] 0
def o563_1 : Obj := ⟨.none, none, (.fields #[]), #[]⟩
def o564_1 : Obj := tu #[(.str s82 873), (.str s89 874), (.str s124 875)] 0
def o565_1 : Obj := tu #[] 0
def o566_1 : Obj := f0 s117 s158 (L2.inClass (topT 44) 4)
def o567_1 : Obj := co #[(.str s117 870), (.str s158 871), (.str s1 872), (i 272), (i 3), (i 0), (i 0), (i 3), (r 562), (.bool true), (i 181), (r 563), .none, (r 564), (r 565), (r 566), (i 876), (i 272), (.str s1 877)]
def o568_1 : Obj := fo s117 s158 (L2.inClass (topT 44) 4) (.str s4 422) (r 567)
def o569_1 : Obj := tu #[] 0
def o570_1 : Obj := ⟨.none, none, (.fields #[]), #[]⟩
def o571_1 : Obj := tu #[(.str s82 882), (.str s60 883)] 0
def o572_1 : Obj := tu #[] 0
def o573_1 : Obj := f0 s118 s159 (L2.inClass (topT 44) 5)
def o574_1 : Obj := co #[(.str s118 879), (.str s159 880), (.str s1 881), (i 275), (i 2), (i 0), (i 0), (i 3), (r 569), (.bool true), (i 181), (r 570), .none, (r 571), (r 572), (r 573), (i 884), (i 275), (.str s1 885)]
def o575_1 : Obj := fo s118 s159 (L2.inClass (topT 44) 5) (.str s4 422) (r 574)
def o576_1 : Obj := tu #[] 0
def o577_1 : Obj := ⟨.none, none, (.fields #[]), #[]⟩
def o578_1 : Obj := tu #[(.str s82 890), (.str s89 891)] 0
def o579_1 : Obj := tu #[] 0
def o580_1 : Obj := f0 s119 s160 (L2.inClass (topT 44) 6)
def o581_1 : Obj := co #[(.str s119 887), (.str s160 888), (.str s1 889), (i 278), (i 2), (i 0), (i 0), (i 3), (r 576), (.bool true), (i 181), (r 577), .none, (r 578), (r 579), (r 580), (i 892), (i 278), (.str s1 893)]
def o582_1 : Obj := fo s119 s160 (L2.inClass (topT 44) 6) (.str s4 422) (r 581)
def o583_1 : Obj := tu #[] 0
def o584_1 : Obj := ⟨.none, none, (.fields #[]), #[]⟩
def o585_1 : Obj := tu #[(.str s82 898), (.str s78 899)] 0
def o586_1 : Obj := tu #[] 0
def o587_1 : Obj := f0 s120 s161 (L2.inClass (topT 44) 7)
def o588_1 : Obj := co #[(.str s120 895), (.str s161 896), (.str s1 897), (i 281), (i 2), (i 0), (i 0), (i 3), (r 583), (.bool true), (i 181), (r 584), .none, (r 585), (r 586), (r 587), (i 900), (i 281), (.str s1 901)]
def o589_1 : Obj := fo s120 s161 (L2.inClass (topT 44) 7) (.str s4 422) (r 588)
def o590_1 : Obj := tu #[] 0
def o591_1 (P : Params) : Obj := ⟨(.type SL.s14018661285674007319x4), none, (.dict #[⟨kh P s51, .str s51 835, (.str s4 422)⟩, ⟨kh P s54, .str s54 839, (.int 258 838)⟩, ⟨kh P s114, .str s114 846, (r 540)⟩, ⟨kh P s115, .str s115 853, (r 547)⟩, ⟨kh P s68, .str s68 860, (r 554)⟩, ⟨kh P s116, .str s116 869, (r 561)⟩, ⟨kh P s117, .str s117 878, (r 568)⟩, ⟨kh P s118, .str s118 886, (r 575)⟩, ⟨kh P s119, .str s119 894, (r 582)⟩, ⟨kh P s120, .str s120 902, (r 589)⟩, ⟨kh P s55, .str s55 903, (r 590)⟩, ⟨kh P s5, .str s5 904, .none⟩] 2), #[]⟩
def o592_1 : Obj := ⟨(.type SL.s17162191345867700912x4), none, (.cls ⟨s96, [(r 285)], [(r 592), (r 285), (r 217), (.type SL.s2742458400755230247x6)], 591, s96, true, [], [], false, none, false⟩), #[(some (r 527)), none, (some (.str s96 828)), (some (.str s96 836)), (some (.builtin SL.s11443829558043349243x14)), (some (.bool true))]⟩
def o593_1 : Obj := ⟨(.type SL.s4290257624100764138x5), none, (.fields #[(r 592), (r 592), (r 592)]), #[]⟩
def o594_1 : Obj := ⟨(.type SL.s11030030927630378310x26), none, (.fields #[(.builtin SL.s4860613602091757760x24), (r 592)]), #[]⟩
def o595_1 : Obj := tu #[] 0
def o596_1 : Obj := ⟨.none, none, (.fields #[]), #[]⟩
def o597_1 : Obj := tu #[(.str s162 912), (.str s163 913), (.str s164 914)] 0
def o598_1 : Obj := tu #[] 0
def o599_1 : Obj := f0 s97 s97 (topT 46)
def o600_1 : Obj := co #[(.str s97 909), (.str s97 910), (.str s1 911), (i 289), (i 2), (i 0), (i 0), (i 3), (r 595), (.bool true), (i 181), (r 596), .none, (r 597), (r 598), (r 599), (i 915), (i 289), (.str s1 916)]
def o601_1 : Obj := fo s97 s97 (topT 46) (.str s92 907) (r 600)
def o602_1 : Obj := tu #[] 0
def o603_1 : Obj := ⟨.none, none, (.fields #[]), #[]⟩
def o604_1 : Obj := tu #[(.str s165 921), (.str s166 922), (.str s167 923)] 0
def o605_1 : Obj := tu #[] 0
def o606_1 : Obj := f0 s98 s98 (topT 47)
def o607_1 : Obj := co #[(.str s98 918), (.str s98 919), (.str s1 920), (i 298), (i 1), (i 0), (i 0), (i 3), (r 602), (.bool true), (i 181), (r 603), .none, (r 604), (r 605), (r 606), (i 924), (i 298), (.str s1 925)]
def o608_1 : Obj := fo s98 s98 (topT 47) (.str s92 907) (r 607)
def o609_1 : Obj := tu #[] 0
def o610_1 : Obj := ⟨.none, none, (.fields #[]), #[]⟩
def o611_1 : Obj := tu #[(.str s168 930), (.str s169 931), (.str s170 932), (.str s171 933)] 0
def o612_1 : Obj := tu #[] 0
def o613_1 : Obj := f0 s99 s99 (topT 48)
def o614_1 : Obj := co #[(.str s99 927), (.str s99 928), (.str s1 929), (i 305), (i 2), (i 0), (i 0), (i 3), (r 609), (.bool true), (i 181), (r 610), .none, (r 611), (r 612), (r 613), (i 934), (i 305), (.str s1 935)]
def o615_1 : Obj := fo s99 s99 (topT 48) (.str s92 907) (r 614)
def o616_1 : Obj := tu #[] 0
def o617_1 : Obj := ⟨.none, none, (.fields #[]), #[]⟩
def o618_1 : Obj := tu #[(.str s172 940), (.str s173 941), (.str s174 942)] 0
def o619_1 : Obj := tu #[] 0
def o620_1 : Obj := f0 s100 s100 (topT 49)
def o621_1 : Obj := co #[(.str s100 937), (.str s100 938), (.str s1 939), (i 312), (i 3), (i 0), (i 0), (i 3), (r 616), (.bool true), (i 181), (r 617), .none, (r 618), (r 619), (r 620), (i 943), (i 312), (.str s1 944)]
def o622_1 : Obj := fo s100 s100 (topT 49) (.str s92 907) (r 621)
def o623_1 : Obj := tu #[] 0
def o624_1 : Obj := ⟨.none, none, (.fields #[]), #[]⟩
def o625_1 : Obj := tu #[(.str s172 949), (.str s173 950), (.str s174 951)] 0
def o626_1 : Obj := tu #[] 0
def o627_1 : Obj := f0 s101 s101 (topT 50)
def o628_1 : Obj := co #[(.str s101 946), (.str s101 947), (.str s1 948), (i 322), (i 3), (i 0), (i 0), (i 3), (r 623), (.bool true), (i 181), (r 624), .none, (r 625), (r 626), (r 627), (i 952), (i 322), (.str s1 953)]
def o629_1 : Obj := fo s101 s101 (topT 50) (.str s92 907) (r 628)
def o630_1 : Obj := tu #[] 0
def o631_1 : Obj := ⟨.none, none, (.fields #[]), #[]⟩
def o632_1 : Obj := tu #[(.str s172 958)] 0
def o633_1 : Obj := tu #[] 0
def o634_1 : Obj := f0 s102 s102 (topT 51)
def o635_1 : Obj := co #[(.str s102 955), (.str s102 956), (.str s1 957), (i 332), (i 1), (i 0), (i 0), (i 3), (r 630), (.bool true), (i 181), (r 631), .none, (r 632), (r 633), (r 634), (i 959), (i 332), (.str s1 960)]
def o636_1 : Obj := fo s102 s102 (topT 51) (.str s92 907) (r 635)
def o637_1 : Obj := tu #[] 0
def o638_1 : Obj := ⟨.none, none, (.fields #[]), #[]⟩
def o639_1 : Obj := tu #[(.str s162 965), (.str s175 966), (.str s176 967)] 0
def o640_1 : Obj := tu #[] 0
def o641_1 : Obj := f0 s103 s103 (topT 52)
def o642_1 : Obj := co #[(.str s103 962), (.str s103 963), (.str s1 964), (i 334), (i 2), (i 0), (i 0), (i 3), (r 637), (.bool true), (i 181), (r 638), .none, (r 639), (r 640), (r 641), (i 968), (i 334), (.str s1 969)]
def o643_1 : Obj := fo s103 s103 (topT 52) (.str s92 907) (r 642)
def o644_1 : Obj := tu #[] 0
def o645_1 : Obj := ⟨.none, none, (.fields #[]), #[]⟩
def o646_1 : Obj := tu #[(.str s172 974)] 0
def o647_1 : Obj := tu #[] 0
def o648_1 : Obj := f0 s104 s104 (topT 53)
def o649_1 : Obj := co #[(.str s104 971), (.str s104 972), (.str s1 973), (i 337), (i 1), (i 0), (i 0), (i 3), (r 644), (.bool true), (i 181), (r 645), .none, (r 646), (r 647), (r 648), (i 975), (i 337), (.str s1 976)]
def o650_1 : Obj := fo s104 s104 (topT 53) (.str s92 907) (r 649)
def o651_1 : Obj := tu #[] 0
def o652_1 : Obj := ⟨.none, none, (.fields #[]), #[]⟩
def o653_1 : Obj := tu #[(.str s162 981), (.str s172 982), (.str s177 983), (.str s178 984)] 0
def o654_1 : Obj := tu #[] 0
def o655_1 : Obj := f0 s105 s105 (topT 54)
def o656_1 : Obj := co #[(.str s105 978), (.str s105 979), (.str s1 980), (i 345), (i 3), (i 0), (i 0), (i 3), (r 651), (.bool true), (i 181), (r 652), .none, (r 653), (r 654), (r 655), (i 985), (i 345), (.str s1 986)]
def o657_1 : Obj := fo s105 s105 (topT 54) (.str s92 907) (r 656)
def o658_1 : Obj := tu #[] 0
def o659_1 : Obj := ⟨.none, none, (.fields #[]), #[]⟩
def o660_1 : Obj := tu #[(.str s162 991), (.str s179 992), (.str s180 993), (.str s181 994), (.str s182 995)] 0
def o661_1 : Obj := tu #[] 0
def o662_1 : Obj := f0 s106 s106 (topT 55)
def o663_1 : Obj := co #[(.str s106 988), (.str s106 989), (.str s1 990), (i 358), (i 1), (i 0), (i 0), (i 3), (r 658), (.bool true), (i 181), (r 659), .none, (r 660), (r 661), (r 662), (i 996), (i 358), (.str s1 997)]
def o664_1 : Obj := fo s106 s106 (topT 55) (.str s92 907) (r 663)
def o665_1 : Obj := tu #[] 0
def o666_1 : Obj := ⟨.none, none, (.fields #[]), #[]⟩
def o667_1 : Obj := tu #[(.str s172 1002), (.str s183 1003), (.str s184 1004), (.str s185 1005), (.str s173 1006), (.str s174 1007)] 0
def o668_1 : Obj := tu #[] 0
def o669_1 : Obj := f0 s107 s107 (topT 56)
def o670_1 : Obj := co #[(.str s107 999), (.str s107 1000), (.str s1 1001), (i 366), (i 3), (i 0), (i 0), (i 3), (r 665), (.bool true), (i 181), (r 666), .none, (r 667), (r 668), (r 669), (i 1008), (i 366), (.str s1 1009)]
def o671_1 : Obj := fo s107 s107 (topT 56) (.str s92 907) (r 670)
def o672_1 : Obj := tu #[] 0
def o673_1 : Obj := ⟨.none, none, (.fields #[]), #[]⟩
def o674_1 : Obj := f0 s108 s108 (topT 57)
def o675_1 : Obj := co #[(.str s108 1011), (.str s108 1012), (.str s1 1013), (i 371), (i 3), (i 0), (i 0), (i 3), (r 672), (.bool true), (i 181), (r 673), .none, .none, .none, (r 674), (i 1014), (i 371), (.str s1 1015)]
def o676_1 : Obj := fo s108 s108 (topT 57) (.str s92 907) (r 675)
def o677_1 : Obj := tu #[] 0
def o678_1 : Obj := ⟨.none, none, (.fields #[]), #[]⟩
def o679_1 : Obj := tu #[(.str s172 1020), (.str s186 1021), (.str s187 1022), (.str s183 1023), (.str s188 1024)] 0
def o680_1 : Obj := tu #[] 0
def o681_1 : Obj := f0 s109 s109 (topT 58)
def o682_1 : Obj := co #[(.str s109 1017), (.str s109 1018), (.str s1 1019), (i 376), (i 3), (i 0), (i 0), (i 3), (r 677), (.bool true), (i 181), (r 678), .none, (r 679), (r 680), (r 681), (i 1025), (i 376), (.str s1 1026)]
def o683_1 : Obj := fo s109 s109 (topT 58) (.str s92 907) (r 682)
def o684_1 : Obj := tu #[] 0
def o685_1 : Obj := ⟨.none, none, (.fields #[]), #[]⟩
def o686_1 : Obj := tu #[(.str s180 1031), (.str s189 1032), (.str s164 1033), (.str s190 1034), (.str s181 1035), (.str s191 1036), (.str s187 1037), (.str s188 1038)] 0
def o687_1 : Obj := tu #[] 0
def o688_1 : Obj := f0 s110 s110 (topT 59)
def o689_1 : Obj := co #[(.str s110 1028), (.str s110 1029), (.str s1 1030), (i 381), (i 2), (i 0), (i 0), (i 3), (r 684), (.bool true), (i 181), (r 685), .none, (r 686), (r 687), (r 688), (i 1039), (i 381), (.str s1 1040)]
def o690_1 : Obj := fo s110 s110 (topT 59) (.str s92 907) (r 689)
def o691_1 : Obj := tu #[] 0
def o692_1 : Obj := ⟨.none, none, (.fields #[]), #[]⟩
def o693_1 : Obj := tu #[(.str s172 1045), (.str s164 1046), (.str s192 1047)] 0
def o694_1 : Obj := tu #[] 0
def o695_1 : Obj := f0 s111 s111 (topT 60)
def o696_1 : Obj := co #[(.str s111 1042), (.str s111 1043), (.str s1 1044), (i 392), (i 3), (i 0), (i 0), (i 3), (r 691), (.bool true), (i 181), (r 692), .none, (r 693), (r 694), (r 695), (i 1048), (i 392), (.str s1 1049)]
def o697_1 : Obj := fo s111 s111 (topT 60) (.str s92 907) (r 696)
def o698_1 : Obj := tu #[] 0
def o699_1 : Obj := ⟨.none, none, (.fields #[]), #[]⟩
def o700_1 : Obj := tu #[(.str s180 1054), (.str s187 1055), (.str s193 1056), (.str s182 1057), (.str s194 1058), (.str s188 1059)] 0
def o701_1 : Obj := tu #[] 0
def o702_1 : Obj := f0 s112 s112 (topT 61)
def o703_1 : Obj := co #[(.str s112 1051), (.str s112 1052), (.str s1 1053), (i 402), (i 2), (i 0), (i 0), (i 3), (r 698), (.bool true), (i 181), (r 699), .none, (r 700), (r 701), (r 702), (i 1060), (i 402), (.str s1 1061)]
def o704_1 : Obj := fo s112 s112 (topT 61) (.str s92 907) (r 703)
def o705_1 : Obj := tu #[] 0
def o706_1 : Obj := ⟨.none, none, (.fields #[]), #[]⟩
def o707_1 : Obj := f0 s113 s113 (topT 62)
def o708_1 : Obj := co #[(.str s113 1063), (.str s113 1064), (.str s1 1065), (i 415), (i 1), (i 0), (i 0), (i 3), (r 705), (.bool true), (i 181), (r 706), .none, .none, .none, (r 707), (i 1066), (i 415), (.str s1 1067)]
def o709_1 : Obj := fo s113 s113 (topT 62) (.str s92 907) (r 708)
def envT : Env := { scope := Fast.tw15133599368059602012.main.scope, locals := mainNs, globals := mainNs, cells := [], code := (r 13), frame := some 14 }
def cT : Code := .body (behindTheImports Fast.tw15133599368059602012) envT
def qP : Pos := ⟨0, 0, 0, 0⟩
def Ha (P : Params) : Heap := ⟨⟨[boot_o_0 P, boot_o_1 P, boot_o_2 P, boot_o_3 P, boot_o_4 P, boot_o_5 P, boot_o_6 P, boot_o_7 P, boot_o_8 P, boot_o_9 P, boot_o_10 P, o11a, o12a, o13a, o14a]⟩, (PySem.Life.mk [] [] [] 0 [] [] false #[] [] 0 false false false 0 [2000, 10, 10] false 0 true [] [] 0 false)⟩
def Sa (w : World) (os : OsState) : Shared := ⟨Ha w.params, ⟨[]⟩, (PySem.Drawn.mk 0 0 0 0), 187, os⟩
def Tb (P : Params) : BT := (nd (boot_o_0 P) (nd (boot_o_1 P) (nd (boot_o_3 P) (lf (boot_o_7 P)) (lf o11a)) (nd (boot_o_5 P) (lf (boot_o_9 P)) (lf o13a))) (nd (boot_o_2 P) (nd (boot_o_4 P) (lf (boot_o_8 P)) (lf o12a)) (nd (boot_o_6 P) (lf (boot_o_10 P)) (lf o14a))))
def Sb (w : World) (os : OsState) : SharedT := ⟨Tb w.params, 15, (PySem.Life.mk [] [] [] 0 [] [] false #[] [] 0 false false false 0 [2000, 10, 10] false 0 true [] [] 0 false), ⟨[]⟩, (PySem.Drawn.mk 0 0 0 0), 187, os⟩
def T0 (P : Params) : BT := (nd (boot_o_0 P) (nd (boot_o_1 P) (nd (o3_0 P) (nd (boot_o_7 P) (nd o15_0 (nd o31_0 (nd o63_0 (nd o127_0 (lf o255_0) nl) (lf o191_0)) (nd o95_0 (nd o159_0 (lf o287_0) nl) (lf o223_0))) (nd o47_0 (nd (o79_0 P) (nd o143_0 (lf o271_0) nl) (lf o207_0)) (nd o111_0 (lf o175_0) (lf o239_0)))) (nd o23_0 (nd o39_0 (nd o71_0 (nd o135_0 (lf o263_0) nl) (lf o199_0)) (nd o103_0 (lf o167_0) (lf o231_0))) (nd (o55_0 P) (nd o87_0 (nd o151_0 (lf o279_0) nl) (lf o215_0)) (nd o119_0 (lf o183_0) (lf o247_0))))) (nd o11a (nd o19_0 (nd o35_0 (nd (o67_0 P) (nd o131_0 (lf o259_0) nl) (lf o195_0)) (nd o99_0 (lf o163_0) (lf o227_0))) (nd o51_0 (nd o83_0 (nd o147_0 (lf o275_0) nl) (lf o211_0)) (nd o115_0 (lf o179_0) (lf o243_0)))) (nd o27_0 (nd (o43_0 P) (nd o75_0 (nd o139_0 (lf o267_0) nl) (lf o203_0)) (nd o107_0 (lf o171_0) (lf o235_0))) (nd o59_0 (nd (o91_0 P) (nd o155_0 (lf o283_0) nl) (lf o219_0)) (nd o123_0 (lf o187_0) (lf o251_0)))))) (nd (boot_o_5 P) (nd (boot_o_9 P) (nd o17_0 (nd o33_0 (nd o65_0 (nd o129_0 (lf o257_0) nl) (lf o193_0)) (nd o97_0 (lf o161_0) (lf o225_0))) (nd (o49_0 P) (nd o81_0 (nd o145_0 (lf o273_0) nl) (lf o209_0)) (nd o113_0 (lf o177_0) (lf o241_0)))) (nd o25_0 (nd o41_0 (nd (o73_0 P) (nd o137_0 (lf o265_0) nl) (lf o201_0)) (nd o105_0 (lf o169_0) (lf o233_0))) (nd o57_0 (nd o89_0 (nd o153_0 (lf o281_0) nl) (lf o217_0)) (nd o121_0 (lf o185_0) (lf o249_0))))) (nd o13a (nd o21_0 (nd (o37_0 P) (nd o69_0 (nd o133_0 (lf o261_0) nl) (lf o197_0)) (nd o101_0 (lf o165_0) (lf o229_0))) (nd o53_0 (nd (o85_0 P) (nd o149_0 (lf o277_0) nl) (lf o213_0)) (nd o117_0 (lf o181_0) (lf o245_0)))) (nd o29_0 (nd o45_0 (nd o77_0 (nd o141_0 (lf o269_0) nl) (lf o205_0)) (nd o109_0 (lf o173_0) (lf o237_0))) (nd (o61_0 P) (nd o93_0 (nd o157_0 (lf o285_0) nl) (lf o221_0)) (nd o125_0 (lf o189_0) (lf o253_0))))))) (nd (boot_o_2 P) (nd (boot_o_4 P) (nd (boot_o_8 P) (nd o16_0 (nd o32_0 (nd o64_0 (nd o128_0 (lf o256_0) nl) (lf o192_0)) (nd o96_0 (lf o160_0) (lf (o224_0 P)))) (nd o48_0 (nd o80_0 (nd o144_0 (lf o272_0) nl) (lf o208_0)) (nd o112_0 (lf o176_0) (lf o240_0)))) (nd (o24_0 P) (nd o40_0 (nd o72_0 (nd o136_0 (lf o264_0) nl) (lf o200_0)) (nd o104_0 (lf o168_0) (lf o232_0))) (nd o56_0 (nd o88_0 (nd o152_0 (lf o280_0) nl) (lf (o216_0 P))) (nd o120_0 (lf o184_0) (lf o248_0))))) (nd o12_0 (nd o20_0 (nd o36_0 (nd o68_0 (nd o132_0 (lf o260_0) nl) (lf o196_0)) (nd o100_0 (lf o164_0) (lf o228_0))) (nd o52_0 (nd o84_0 (nd o148_0 (lf o276_0) nl) (lf o212_0)) (nd o116_0 (lf o180_0) (lf (o244_0 P))))) (nd o28_0 (nd o44_0 (nd o76_0 (nd o140_0 (lf o268_0) nl) (lf o204_0)) (nd o108_0 (lf o172_0) (lf o236_0))) (nd o60_0 (nd o92_0 (nd o156_0 (lf (o284_0 P)) nl) (lf o220_0)) (nd o124_0 (lf o188_0) (lf o252_0)))))) (nd (boot_o_6 P) (nd (boot_o_10 P) (nd o18_0 (nd o34_0 (nd o66_0 (nd o130_0 (lf o258_0) nl) (lf o194_0)) (nd o98_0 (lf o162_0) (lf o226_0))) (nd o50_0 (nd o82_0 (nd o146_0 (lf o274_0) nl) (lf (o210_0 P))) (nd o114_0 (lf o178_0) (lf o242_0)))) (nd o26_0 (nd o42_0 (nd o74_0 (nd o138_0 (lf o266_0) nl) (lf o202_0)) (nd o106_0 (lf o170_0) (lf o234_0))) (nd o58_0 (nd o90_0 (nd o154_0 (lf o282_0) nl) (lf o218_0)) (nd o122_0 (lf o186_0) (lf (o250_0 P)))))) (nd o14a (nd o22_0 (nd o38_0 (nd o70_0 (nd o134_0 (lf o262_0) nl) (lf o198_0)) (nd o102_0 (lf o166_0) (lf o230_0))) (nd o54_0 (nd o86_0 (nd o150_0 (lf o278_0) nl) (lf o214_0)) (nd o118_0 (lf o182_0) (lf o246_0)))) (nd (o30_0 P) (nd o46_0 (nd o78_0 (nd o142_0 (lf o270_0) nl) (lf o206_0)) (nd o110_0 (lf o174_0) (lf o238_0))) (nd o62_0 (nd o94_0 (nd o158_0 (lf o286_0) nl) (lf o222_0)) (nd o126_0 (lf o190_0) (lf o254_0))))))))
def S0 (w : World) (os : OsState) : SharedT := ⟨T0 w.params, 288, (PySem.Life.mk [] [] [] 0 [] [] false #[] [] 0 false false false 0 [2000, 10, 10] false 0 true [] [] 0 false), ⟨[]⟩, (PySem.Drawn.mk 0 0 0 0), 546, os⟩
def T1 (P : Params) : BT := (nd (boot_o_0 P) (nd (boot_o_1 P) (nd (o3_1 P) (nd (boot_o_7 P) (nd o15_0 (nd o31_0 (nd o63_0 (nd o127_0 (nd o255_0 (lf o511_1) nl) (nd o383_1 (lf o639_1) nl)) (nd o191_0 (nd o319_1 (lf o575_1) nl) (nd o447_1 (lf o703_1) nl))) (nd o95_0 (nd o159_0 (nd o287_0 (lf o543_1) nl) (nd o415_1 (lf o671_1) nl)) (nd o223_0 (nd o351_1 (lf o607_1) nl) (lf o479_1)))) (nd o47_0 (nd (o79_0 P) (nd o143_0 (nd o271_0 (lf o527_1) nl) (nd o399_1 (lf o655_1) nl)) (nd o207_0 (nd o335_1 (lf (o591_1 P)) nl) (lf o463_1))) (nd o111_0 (nd o175_0 (nd o303_1 (lf o559_1) nl) (nd o431_1 (lf o687_1) nl)) (nd o239_0 (nd o367_1 (lf o623_1) nl) (lf o495_1))))) (nd o23_0 (nd o39_0 (nd o71_0 (nd o135_0 (nd o263_0 (lf o519_1) nl) (nd o391_1 (lf o647_1) nl)) (nd o199_0 (nd o327_1 (lf o583_1) nl) (lf (o455_1 P)))) (nd o103_0 (nd o167_0 (nd o295_1 (lf o551_1) nl) (nd o423_1 (lf o679_1) nl)) (nd o231_0 (nd o359_1 (lf o615_1) nl) (lf o487_1)))) (nd (o55_0 P) (nd o87_0 (nd o151_0 (nd o279_0 (lf o535_1) nl) (nd o407_1 (lf o663_1) nl)) (nd o215_0 (nd o343_1 (lf o599_1) nl) (lf o471_1))) (nd o119_0 (nd o183_0 (nd o311_1 (lf o567_1) nl) (nd o439_1 (lf o695_1) nl)) (nd o247_0 (nd o375_1 (lf o631_1) nl) (lf o503_1)))))) (nd o11a (nd o19_0 (nd o35_0 (nd (o67_0 P) (nd o131_0 (nd o259_0 (lf o515_1) nl) (nd o387_1 (lf o643_1) nl)) (nd o195_0 (nd o323_1 (lf o579_1) nl) (nd o451_1 (lf o707_1) nl))) (nd o99_0 (nd o163_0 (nd o291_1 (lf o547_1) nl) (nd o419_1 (lf o675_1) nl)) (nd o227_0 (nd o355_1 (lf o611_1) nl) (lf o483_1)))) (nd o51_0 (nd o83_0 (nd o147_0 (nd o275_0 (lf o531_1) nl) (nd o403_1 (lf o659_1) nl)) (nd o211_0 (nd o339_1 (lf o595_1) nl) (lf o467_1))) (nd o115_0 (nd o179_0 (nd o307_1 (lf o563_1) nl) (nd o435_1 (lf o691_1) nl)) (nd o243_0 (nd o371_1 (lf o627_1) nl) (lf o499_1))))) (nd o27_0 (nd (o43_0 P) (nd o75_0 (nd o139_0 (nd o267_0 (lf (o523_1 P)) nl) (nd o395_1 (lf o651_1) nl)) (nd o203_0 (nd o331_1 (lf o587_1) nl) (lf o459_1))) (nd o107_0 (nd o171_0 (nd o299_1 (lf o555_1) nl) (nd o427_1 (lf o683_1) nl)) (nd o235_0 (nd o363_1 (lf o619_1) nl) (lf o491_1)))) (nd o59_0 (nd (o91_0 P) (nd o155_0 (nd o283_0 (lf o539_1) nl) (nd o411_1 (lf o667_1) nl)) (nd o219_0 (nd o347_1 (lf o603_1) nl) (lf o475_1))) (nd o123_0 (nd o187_0 (nd o315_1 (lf o571_1) nl) (nd o443_1 (lf o699_1) nl)) (nd o251_0 (nd o379_1 (lf o635_1) nl) (lf o507_1))))))) (nd (boot_o_5 P) (nd (boot_o_9 P) (nd o17_0 (nd o33_0 (nd o65_0 (nd o129_0 (nd o257_0 (lf o513_1) nl) (nd o385_1 (lf o641_1) nl)) (nd o193_0 (nd o321_1 (lf o577_1) nl) (nd o449_1 (lf o705_1) nl))) (nd o97_0 (nd o161_0 (nd o289_1 (lf o545_1) nl) (nd o417_1 (lf o673_1) nl)) (nd o225_0 (nd o353_1 (lf o609_1) nl) (lf o481_1)))) (nd (o49_0 P) (nd o81_0 (nd o145_0 (nd o273_0 (lf (o529_1 P)) nl) (nd o401_1 (lf o657_1) nl)) (nd o209_0 (nd o337_1 (lf o593_1) nl) (lf o465_1))) (nd o113_0 (nd o177_0 (nd o305_1 (lf o561_1) nl) (nd o433_1 (lf o689_1) nl)) (nd o241_0 (nd o369_1 (lf o625_1) nl) (lf o497_1))))) (nd o25_0 (nd o41_0 (nd (o73_0 P) (nd o137_0 (nd o265_0 (lf o521_1) nl) (nd o393_1 (lf o649_1) nl)) (nd o201_0 (nd o329_1 (lf o585_1) nl) (lf o457_1))) (nd o105_0 (nd o169_0 (nd o297_1 (lf o553_1) nl) (nd o425_1 (lf o681_1) nl)) (nd o233_0 (nd o361_1 (lf o617_1) nl) (lf o489_1)))) (nd o57_0 (nd o89_0 (nd o153_0 (nd o281_0 (lf o537_1) nl) (nd o409_1 (lf o665_1) nl)) (nd o217_0 (nd o345_1 (lf o601_1) nl) (lf o473_1))) (nd o121_0 (nd o185_0 (nd o313_1 (lf o569_1) nl) (nd o441_1 (lf o697_1) nl)) (nd o249_0 (nd o377_1 (lf o633_1) nl) (lf o505_1)))))) (nd o13a (nd o21_0 (nd (o37_0 P) (nd o69_0 (nd o133_0 (nd o261_0 (lf o517_1) nl) (nd o389_1 (lf o645_1) nl)) (nd o197_0 (nd o325_1 (lf o581_1) nl) (nd o453_1 (lf o709_1) nl))) (nd o101_0 (nd o165_0 (nd o293_1 (lf o549_1) nl) (nd o421_1 (lf o677_1) nl)) (nd o229_0 (nd o357_1 (lf o613_1) nl) (lf o485_1)))) (nd o53_0 (nd (o85_0 P) (nd o149_0 (nd o277_0 (lf o533_1) nl) (nd o405_1 (lf o661_1) nl)) (nd o213_0 (nd o341_1 (lf o597_1) nl) (lf o469_1))) (nd o117_0 (nd o181_0 (nd o309_1 (lf o565_1) nl) (nd o437_1 (lf o693_1) nl)) (nd o245_1 (nd o373_1 (lf o629_1) nl) (lf o501_1))))) (nd o29_0 (nd o45_0 (nd o77_0 (nd o141_0 (nd o269_0 (lf o525_1) nl) (nd o397_1 (lf o653_1) nl)) (nd o205_0 (nd o333_1 (lf o589_1) nl) (lf (o461_1 P)))) (nd o109_0 (nd o173_0 (nd o301_1 (lf o557_1) nl) (nd o429_1 (lf o685_1) nl)) (nd o237_0 (nd o365_1 (lf o621_1) nl) (lf o493_1)))) (nd (o61_0 P) (nd o93_0 (nd o157_0 (nd o285_1 (lf o541_1) nl) (nd o413_1 (lf o669_1) nl)) (nd o221_0 (nd o349_1 (lf o605_1) nl) (lf o477_1))) (nd o125_0 (nd o189_0 (nd o317_1 (lf o573_1) nl) (nd o445_1 (lf o701_1) nl)) (nd o253_0 (nd o381_1 (lf o637_1) nl) (lf o509_1)))))))) (nd (boot_o_2 P) (nd (boot_o_4 P) (nd (boot_o_8 P) (nd o16_0 (nd o32_0 (nd o64_0 (nd o128_0 (nd o256_0 (lf o512_1) nl) (nd o384_1 (lf o640_1) nl)) (nd o192_0 (nd o320_1 (lf o576_1) nl) (nd o448_1 (lf o704_1) nl))) (nd o96_0 (nd o160_0 (nd o288_1 (lf o544_1) nl) (nd o416_1 (lf o672_1) nl)) (nd (o224_0 P) (nd o352_1 (lf o608_1) nl) (lf o480_1)))) (nd o48_0 (nd o80_0 (nd o144_0 (nd o272_0 (lf o528_1) nl) (nd o400_1 (lf o656_1) nl)) (nd o208_0 (nd o336_1 (lf o592_1) nl) (lf o464_1))) (nd o112_0 (nd o176_0 (nd o304_1 (lf o560_1) nl) (nd o432_1 (lf o688_1) nl)) (nd o240_0 (nd o368_1 (lf o624_1) nl) (lf o496_1))))) (nd (o24_0 P) (nd o40_0 (nd o72_0 (nd o136_0 (nd o264_0 (lf o520_1) nl) (nd o392_1 (lf o648_1) nl)) (nd o200_0 (nd o328_1 (lf o584_1) nl) (lf o456_1))) (nd o104_0 (nd o168_0 (nd o296_1 (lf o552_1) nl) (nd o424_1 (lf o680_1) nl)) (nd o232_0 (nd o360_1 (lf o616_1) nl) (lf o488_1)))) (nd o56_0 (nd o88_0 (nd o152_0 (nd o280_0 (lf o536_1) nl) (nd o408_1 (lf o664_1) nl)) (nd (o216_0 P) (nd o344_1 (lf o600_1) nl) (lf o472_1))) (nd o120_0 (nd o184_0 (nd o312_1 (lf o568_1) nl) (nd o440_1 (lf o696_1) nl)) (nd o248_0 (nd o376_1 (lf o632_1) nl) (lf o504_1)))))) (nd o12_1 (nd o20_0 (nd o36_0 (nd o68_0 (nd o132_0 (nd o260_0 (lf o516_1) nl) (nd o388_1 (lf o644_1) nl)) (nd o196_0 (nd o324_1 (lf o580_1) nl) (nd o452_1 (lf o708_1) nl))) (nd o100_0 (nd o164_0 (nd o292_1 (lf o548_1) nl) (nd o420_1 (lf o676_1) nl)) (nd o228_0 (nd o356_1 (lf o612_1) nl) (lf o484_1)))) (nd o52_0 (nd o84_0 (nd o148_0 (nd o276_0 (lf o532_1) nl) (nd o404_1 (lf o660_1) nl)) (nd o212_0 (nd o340_1 (lf o596_1) nl) (lf o468_1))) (nd o116_0 (nd o180_0 (nd o308_1 (lf o564_1) nl) (nd o436_1 (lf o692_1) nl)) (nd (o244_0 P) (nd (o372_1 P) (lf o628_1) nl) (lf o500_1))))) (nd o28_0 (nd o44_0 (nd o76_0 (nd o140_0 (nd o268_0 (lf o524_1) nl) (nd o396_1 (lf o652_1) nl)) (nd o204_0 (nd o332_1 (lf o588_1) nl) (lf o460_1))) (nd o108_0 (nd o172_0 (nd o300_1 (lf o556_1) nl) (nd o428_1 (lf o684_1) nl)) (nd o236_0 (nd o364_1 (lf o620_1) nl) (lf o492_1)))) (nd o60_0 (nd o92_0 (nd o156_0 (nd (o284_0 P) (lf o540_1) nl) (nd o412_1 (lf o668_1) nl)) (nd o220_0 (nd o348_1 (lf o604_1) nl) (lf o476_1))) (nd o124_0 (nd o188_0 (nd o316_1 (lf o572_1) nl) (nd o444_1 (lf o700_1) nl)) (nd o252_0 (nd o380_1 (lf o636_1) nl) (lf o508_1))))))) (nd (boot_o_6 P) (nd (boot_o_10 P) (nd o18_0 (nd o34_0 (nd o66_0 (nd o130_0 (nd o258_0 (lf o514_1) nl) (nd o386_1 (lf o642_1) nl)) (nd o194_0 (nd o322_1 (lf o578_1) nl) (nd o450_1 (lf o706_1) nl))) (nd o98_0 (nd o162_0 (nd (o290_1 P) (lf o546_1) nl) (nd o418_1 (lf o674_1) nl)) (nd o226_0 (nd o354_1 (lf o610_1) nl) (lf o482_1)))) (nd o50_0 (nd o82_0 (nd o146_0 (nd o274_0 (lf o530_1) nl) (nd o402_1 (lf o658_1) nl)) (nd (o210_0 P) (nd o338_1 (lf o594_1) nl) (lf o466_1))) (nd o114_0 (nd o178_0 (nd o306_1 (lf o562_1) nl) (nd o434_1 (lf o690_1) nl)) (nd o242_0 (nd o370_1 (lf o626_1) nl) (lf o498_1))))) (nd o26_0 (nd o42_0 (nd o74_0 (nd o138_0 (nd o266_0 (lf o522_1) nl) (nd o394_1 (lf o650_1) nl)) (nd o202_0 (nd o330_1 (lf o586_1) nl) (lf o458_1))) (nd o106_0 (nd o170_0 (nd o298_1 (lf o554_1) nl) (nd o426_1 (lf o682_1) nl)) (nd o234_0 (nd o362_1 (lf o618_1) nl) (lf o490_1)))) (nd o58_0 (nd o90_0 (nd o154_0 (nd o282_0 (lf o538_1) nl) (nd o410_1 (lf o666_1) nl)) (nd o218_0 (nd o346_1 (lf o602_1) nl) (lf o474_1))) (nd o122_0 (nd o186_0 (nd o314_1 (lf o570_1) nl) (nd o442_1 (lf o698_1) nl)) (nd (o250_0 P) (nd o378_1 (lf o634_1) nl) (lf o506_1)))))) (nd o14a (nd o22_0 (nd o38_0 (nd o70_0 (nd o134_0 (nd o262_0 (lf o518_1) nl) (nd o390_1 (lf o646_1) nl)) (nd o198_0 (nd o326_1 (lf o582_1) nl) (lf o454_1))) (nd o102_0 (nd o166_0 (nd o294_1 (lf o550_1) nl) (nd o422_1 (lf o678_1) nl)) (nd o230_0 (nd o358_1 (lf o614_1) nl) (lf o486_1)))) (nd o54_0 (nd o86_0 (nd o150_0 (nd o278_0 (lf o534_1) nl) (nd o406_1 (lf o662_1) nl)) (nd o214_0 (nd o342_1 (lf o598_1) nl) (lf o470_1))) (nd o118_0 (nd o182_0 (nd o310_1 (lf o566_1) nl) (nd o438_1 (lf o694_1) nl)) (nd o246_0 (nd o374_1 (lf o630_1) nl) (lf o502_1))))) (nd (o30_0 P) (nd o46_0 (nd o78_0 (nd o142_0 (nd o270_0 (lf o526_1) nl) (nd o398_1 (lf o654_1) nl)) (nd o206_0 (nd o334_1 (lf o590_1) nl) (lf o462_1))) (nd o110_0 (nd o174_0 (nd o302_1 (lf o558_1) nl) (nd o430_1 (lf o686_1) nl)) (nd o238_0 (nd (o366_1 P) (lf o622_1) nl) (lf o494_1)))) (nd o62_0 (nd o94_0 (nd o158_0 (nd o286_0 (lf o542_1) nl) (nd o414_1 (lf o670_1) nl)) (nd o222_0 (nd o350_1 (lf o606_1) nl) (lf o478_1))) (nd o126_0 (nd o190_0 (nd o318_1 (lf o574_1) nl) (nd o446_1 (lf o702_1) nl)) (nd o254_0 (nd o382_1 (lf o638_1) nl) (lf o510_1)))))))))
def S1 (w : World) (os : OsState) : SharedT := ⟨T1 w.params, 710, (PySem.Life.mk [] [] [] 0 [] [] false #[] [] 0 false false false 0 [2000, 10, 10] false 0 true [] [] 0 false), ⟨[]⟩, (PySem.Drawn.mk 0 0 0 0), 1069, os⟩
def Hf (P : Params) : Heap := ⟨⟨[boot_o_0 P, boot_o_1 P, boot_o_2 P, o3_1 P, boot_o_4 P, boot_o_5 P, boot_o_6 P, boot_o_7 P, boot_o_8 P, boot_o_9 P, boot_o_10 P, o11a, o12_1, o13a, o14a, o15_0, o16_0, o17_0, o18_0, o19_0, o20_0, o21_0, o22_0, o23_0, o24_0 P, o25_0, o26_0, o27_0, o28_0, o29_0, o30_0 P, o31_0, o32_0, o33_0, o34_0, o35_0, o36_0, o37_0 P, o38_0, o39_0, o40_0, o41_0, o42_0, o43_0 P, o44_0, o45_0, o46_0, o47_0, o48_0, o49_0 P, o50_0, o51_0, o52_0, o53_0, o54_0, o55_0 P, o56_0, o57_0, o58_0, o59_0, o60_0, o61_0 P, o62_0, o63_0, o64_0, o65_0, o66_0, o67_0 P, o68_0, o69_0, o70_0, o71_0, o72_0, o73_0 P, o74_0, o75_0, o76_0, o77_0, o78_0, o79_0 P, o80_0, o81_0, o82_0, o83_0, o84_0, o85_0 P, o86_0, o87_0, o88_0, o89_0, o90_0, o91_0 P, o92_0, o93_0, o94_0, o95_0, o96_0, o97_0, o98_0, o99_0, o100_0, o101_0, o102_0, o103_0, o104_0, o105_0, o106_0, o107_0, o108_0, o109_0, o110_0, o111_0, o112_0, o113_0, o114_0, o115_0, o116_0, o117_0, o118_0, o119_0, o120_0, o121_0, o122_0, o123_0, o124_0, o125_0, o126_0, o127_0, o128_0, o129_0, o130_0, o131_0, o132_0, o133_0, o134_0, o135_0, o136_0, o137_0, o138_0, o139_0, o140_0, o141_0, o142_0, o143_0, o144_0, o145_0, o146_0, o147_0, o148_0, o149_0, o150_0, o151_0, o152_0, o153_0, o154_0, o155_0, o156_0, o157_0, o158_0, o159_0, o160_0, o161_0, o162_0, o163_0, o164_0, o165_0, o166_0, o167_0, o168_0, o169_0, o170_0, o171_0, o172_0, o173_0, o174_0, o175_0, o176_0, o177_0, o178_0, o179_0, o180_0, o181_0, o182_0, o183_0, o184_0, o185_0, o186_0, o187_0, o188_0, o189_0, o190_0, o191_0, o192_0, o193_0, o194_0, o195_0, o196_0, o197_0, o198_0, o199_0, o200_0, o201_0, o202_0, o203_0, o204_0, o205_0, o206_0, o207_0, o208_0, o209_0, o210_0 P, o211_0, o212_0, o213_0, o214_0, o215_0, o216_0 P, o217_0, o218_0, o219_0, o220_0, o221_0, o222_0, o223_0, o224_0 P, o225_0, o226_0, o227_0, o228_0, o229_0, o230_0, o231_0, o232_0, o233_0, o234_0, o235_0, o236_0, o237_0, o238_0, o239_0, o240_0, o241_0, o242_0, o243_0, o244_0 P, o245_1, o246_0, o247_0, o248_0, o249_0, o250_0 P, o251_0, o252_0, o253_0, o254_0, o255_0, o256_0, o257_0, o258_0, o259_0, o260_0, o261_0, o262_0, o263_0, o264_0, o265_0, o266_0, o267_0, o268_0, o269_0, o270_0, o271_0, o272_0, o273_0, o274_0, o275_0, o276_0, o277_0, o278_0, o279_0, o280_0, o281_0, o282_0, o283_0, o284_0 P, o285_1, o286_0, o287_0, o288_1, o289_1, o290_1 P, o291_1, o292_1, o293_1, o294_1, o295_1, o296_1, o297_1, o298_1, o299_1, o300_1, o301_1, o302_1, o303_1, o304_1, o305_1, o306_1, o307_1, o308_1, o309_1, o310_1, o311_1, o312_1, o313_1, o314_1, o315_1, o316_1, o317_1, o318_1, o319_1, o320_1, o321_1, o322_1, o323_1, o324_1, o325_1, o326_1, o327_1, o328_1, o329_1, o330_1, o331_1, o332_1, o333_1, o334_1, o335_1, o336_1, o337_1, o338_1, o339_1, o340_1, o341_1, o342_1, o343_1, o344_1, o345_1, o346_1, o347_1, o348_1, o349_1, o350_1, o351_1, o352_1, o353_1, o354_1, o355_1, o356_1, o357_1, o358_1, o359_1, o360_1, o361_1, o362_1, o363_1, o364_1, o365_1, o366_1 P, o367_1, o368_1, o369_1, o370_1, o371_1, o372_1 P, o373_1, o374_1, o375_1, o376_1, o377_1, o378_1, o379_1, o380_1, o381_1, o382_1, o383_1, o384_1, o385_1, o386_1, o387_1, o388_1, o389_1, o390_1, o391_1, o392_1, o393_1, o394_1, o395_1, o396_1, o397_1, o398_1, o399_1, o400_1, o401_1, o402_1, o403_1, o404_1, o405_1, o406_1, o407_1, o408_1, o409_1, o410_1, o411_1, o412_1, o413_1, o414_1, o415_1, o416_1, o417_1, o418_1, o419_1, o420_1, o421_1, o422_1, o423_1, o424_1, o425_1, o426_1, o427_1, o428_1, o429_1, o430_1, o431_1, o432_1, o433_1, o434_1, o435_1, o436_1, o437_1, o438_1, o439_1, o440_1, o441_1, o442_1, o443_1, o444_1, o445_1, o446_1, o447_1, o448_1, o449_1, o450_1, o451_1, o452_1, o453_1, o454_1, o455_1 P, o456_1, o457_1, o458_1, o459_1, o460_1, o461_1 P, o462_1, o463_1, o464_1, o465_1, o466_1, o467_1, o468_1, o469_1, o470_1, o471_1, o472_1, o473_1, o474_1, o475_1, o476_1, o477_1, o478_1, o479_1, o480_1, o481_1, o482_1, o483_1, o484_1, o485_1, o486_1, o487_1, o488_1, o489_1, o490_1, o491_1, o492_1, o493_1, o494_1, o495_1, o496_1, o497_1, o498_1, o499_1, o500_1, o501_1, o502_1, o503_1, o504_1, o505_1, o506_1, o507_1, o508_1, o509_1, o510_1, o511_1, o512_1, o513_1, o514_1, o515_1, o516_1, o517_1, o518_1, o519_1, o520_1, o521_1, o522_1, o523_1 P, o524_1, o525_1, o526_1, o527_1, o528_1, o529_1 P, o530_1, o531_1, o532_1, o533_1, o534_1, o535_1, o536_1, o537_1, o538_1, o539_1, o540_1, o541_1, o542_1, o543_1, o544_1, o545_1, o546_1, o547_1, o548_1, o549_1, o550_1, o551_1, o552_1, o553_1, o554_1, o555_1, o556_1, o557_1, o558_1, o559_1, o560_1, o561_1, o562_1, o563_1, o564_1, o565_1, o566_1, o567_1, o568_1, o569_1, o570_1, o571_1, o572_1, o573_1, o574_1, o575_1, o576_1, o577_1, o578_1, o579_1, o580_1, o581_1, o582_1, o583_1, o584_1, o585_1, o586_1, o587_1, o588_1, o589_1, o590_1, o591_1 P, o592_1, o593_1, o594_1, o595_1, o596_1, o597_1, o598_1, o599_1, o600_1, o601_1, o602_1, o603_1, o604_1, o605_1, o606_1, o607_1, o608_1, o609_1, o610_1, o611_1, o612_1, o613_1, o614_1, o615_1, o616_1, o617_1, o618_1, o619_1, o620_1, o621_1, o622_1, o623_1, o624_1, o625_1, o626_1, o627_1, o628_1, o629_1, o630_1, o631_1, o632_1, o633_1, o634_1, o635_1, o636_1, o637_1, o638_1, o639_1, o640_1, o641_1, o642_1, o643_1, o644_1, o645_1, o646_1, o647_1, o648_1, o649_1, o650_1, o651_1, o652_1, o653_1, o654_1, o655_1, o656_1, o657_1, o658_1, o659_1, o660_1, o661_1, o662_1, o663_1, o664_1, o665_1, o666_1, o667_1, o668_1, o669_1, o670_1, o671_1, o672_1, o673_1, o674_1, o675_1, o676_1, o677_1, o678_1, o679_1, o680_1, o681_1, o682_1, o683_1, o684_1, o685_1, o686_1, o687_1, o688_1, o689_1, o690_1, o691_1, o692_1, o693_1, o694_1, o695_1, o696_1, o697_1, o698_1, o699_1, o700_1, o701_1, o702_1, o703_1, o704_1, o705_1, o706_1, o707_1, o708_1, o709_1]⟩, (PySem.Life.mk [] [] [] 0 [] [] false #[] [] 0 false false false 0 [2000, 10, 10] false 0 true [] [] 0 false)⟩
def Sf (w : World) (os : OsState) : Shared := ⟨Hf w.params, ⟨[]⟩, (PySem.Drawn.mk 0 0 0 0), 1069, os⟩
theorem pre_ (w : World) (os : OsState) : topGo treeTable Fast.tw15133599368059602012 w 11 ((some (r 6))) 12 ⟨boot_heap w.params, ⟨[]⟩, boot_drawn, boot_toks, os⟩ (topStub Fast.tw15133599368059602012) = some (Sa w os, ⟨denote treeTable cT, cT, ⟨0, 0, 0, 0⟩, [topFrame qP]⟩) := by (try rw [Fast.te15667345088766844465]); (try rw [Fast.te14082659384304107361]); (try rw [Fast.te14374325043358763698]); (try rw [Fast.te10110043849684766642]); (try rw [Fast.te14364793385576792824]); (try rw [Fast.te11892475500146522536]); (try rw [Fast.te4187177175401517315]); (try rw [Fast.te5923862056798008813]); (try rw [Fast.te8920871248978507458]); kernel_rfl
theorem block_ (w : World) (os : OsState) : segRun treeTable Fast.tw15133599368059602012 w 11 ((some (r 6))) 1 1 (Sa w os) (blockOf (behindTheImports Fast.tw15133599368059602012) envT cT ⟨0, 0, 0, 0⟩ [topFrame qP]) = some (.next, (Sb w os).abs, cT, ⟨0, 0, 0, 0⟩) := by (try rw [Fast.te15667345088766844465]); (try rw [Fast.te14082659384304107361]); (try rw [Fast.te14374325043358763698]); (try rw [Fast.te10110043849684766642]); (try rw [Fast.te14364793385576792824]); (try rw [Fast.te11892475500146522536]); (try rw [Fast.te4187177175401517315]); (try rw [Fast.te5923862056798008813]); (try rw [Fast.te8920871248978507458]); kernel_rfl
def sts0 : List Stmt := [topT 0, topT 1, topT 2, topT 3, topT 4, topT 5, topT 6, topT 7, topT 8, topT 9, topT 10, topT 11, topT 12, topT 13, topT 14, topT 15, topT 16, topT 17, topT 18, topT 19, topT 20, topT 21, topT 22, topT 23, topT 24, topT 25, topT 26, topT 27, topT 28, topT 29, topT 30, topT 31, topT 32, topT 33, topT 34, topT 35, topT 36, topT 37, topT 38, topT 39, topT 40]
theorem pc0 (w : World) (os : OsState) : segRunT treeTable Fast.tw15133599368059602012 w 11 ((some (r 6))) 1 2723 (Sb w os) (piecesOf sts0 envT cT ⟨0, 0, 0, 0⟩ [topFrame qP]) = some (.next, S0 w os, cT, ⟨133, 0, 145, 16⟩) := by (try rw [Fast.te15667345088766844465]); (try rw [Fast.te14082659384304107361]); (try rw [Fast.te14374325043358763698]); (try rw [Fast.te10110043849684766642]); (try rw [Fast.te14364793385576792824]); (try rw [Fast.te11892475500146522536]); (try rw [Fast.te4187177175401517315]); (try rw [Fast.te5923862056798008813]); (try rw [Fast.te8920871248978507458]); kernel_rfl
def sts1 : List Stmt := [topT 41, topT 42, topT 43, topT 44, topT 45, topT 46, topT 47, topT 48, topT 49, topT 50, topT 51, topT 52, topT 53, topT 54, topT 55, topT 56, topT 57, topT 58, topT 59, topT 60, topT 61, topT 62]
theorem pc1 (w : World) (os : OsState) : segRunT treeTable Fast.tw15133599368059602012 w 11 ((some (r 6))) 1 2629 (S0 w os) (piecesOf sts1 envT cT ⟨133, 0, 145, 16⟩ [topFrame qP]) = some (.next, S1 w os, cT, ⟨415, 0, 440, 15⟩) := by (try rw [Fast.te15667345088766844465]); (try rw [Fast.te14082659384304107361]); (try rw [Fast.te14374325043358763698]); (try rw [Fast.te10110043849684766642]); (try rw [Fast.te14364793385576792824]); (try rw [Fast.te11892475500146522536]); (try rw [Fast.te4187177175401517315]); (try rw [Fast.te5923862056798008813]); (try rw [Fast.te8920871248978507458]); kernel_rfl
theorem fin_ (w : World) (os : OsState) : topRun treeTable Fast.tw15133599368059602012 w 11 ((some (r 6))) 2 (S1 w os).abs ⟨doneF .next, cT, ⟨415, 0, 440, 15⟩, [topFrame qP]⟩ = some (Sf w os) := by (try rw [Fast.te15667345088766844465]); (try rw [Fast.te14082659384304107361]); (try rw [Fast.te14374325043358763698]); (try rw [Fast.te10110043849684766642]); (try rw [Fast.te14364793385576792824]); (try rw [Fast.te11892475500146522536]); (try rw [Fast.te4187177175401517315]); (try rw [Fast.te5923862056798008813]); (try rw [Fast.te8920871248978507458]); kernel_rfl
theorem body_eq : behindTheImports Fast.tw15133599368059602012 = (sts0 ++ (sts1 ++ [])) := by kernel_rfl
theorem run_ (w : World) (os : OsState) : topRun treeTable Fast.tw15133599368059602012 w 11 ((some (r 6))) (12 + (1 + (2723 + (2629 + 2)))) ⟨boot_heap w.params, ⟨[]⟩, boot_drawn, boot_toks, os⟩ (topStub Fast.tw15133599368059602012) = some (Sf w os) := by
  have h := (piece_app (segRun_of (pc0 w os)) (piece_app (segRun_of (pc1 w os)) (piece_nil (fin_ w os))))
  rw [← body_eq] at h
  exact go_top (pre_ w os) (piece_block (block_ w os) h)
def K (P : Params) : Frag := (nat_lit 2, boot_o_2 P) :: (nat_lit 3, o3_1 P) :: (nat_lit 15, o15_0) :: (nat_lit 17, o17_0) :: (nat_lit 18, o18_0) :: (nat_lit 20, o20_0) :: (nat_lit 21, o21_0) :: (nat_lit 22, o22_0) :: (nat_lit 29, o29_0) :: (nat_lit 30, o30_0 P) :: (nat_lit 31, o31_0) :: (nat_lit 32, o32_0) :: (nat_lit 35, o35_0) :: (nat_lit 42, o42_0) :: (nat_lit 43, o43_0 P) :: (nat_lit 44, o44_0) :: (nat_lit 47, o47_0) :: (nat_lit 54, o54_0) :: (nat_lit 55, o55_0 P) :: (nat_lit 56, o56_0) :: (nat_lit 59, o59_0) :: (nat_lit 66, o66_0) :: (nat_lit 67, o67_0 P) :: (nat_lit 68, o68_0) :: (nat_lit 71, o71_0) :: (nat_lit 78, o78_0) :: (nat_lit 79, o79_0 P) :: (nat_lit 80, o80_0) :: (nat_lit 83, o83_0) :: (nat_lit 90, o90_0) :: (nat_lit 91, o91_0 P) :: (nat_lit 92, o92_0) :: (nat_lit 95, o95_0) :: (nat_lit 98, o98_0) :: (nat_lit 99, o99_0) :: (nat_lit 100, o100_0) :: (nat_lit 103, o103_0) :: (nat_lit 104, o104_0) :: (nat_lit 105, o105_0) :: (nat_lit 108, o108_0) :: (nat_lit 109, o109_0) :: (nat_lit 110, o110_0) :: (nat_lit 113, o113_0) :: (nat_lit 114, o114_0) :: (nat_lit 115, o115_0) :: (nat_lit 118, o118_0) :: (nat_lit 119, o119_0) :: (nat_lit 120, o120_0) :: (nat_lit 122, o122_0) :: (nat_lit 123, o123_0) :: (nat_lit 125, o125_0) :: (nat_lit 126, o126_0) :: (nat_lit 127, o127_0) :: (nat_lit 130, o130_0) :: (nat_lit 131, o131_0) :: (nat_lit 132, o132_0) :: (nat_lit 135, o135_0) :: (nat_lit 136, o136_0) :: (nat_lit 137, o137_0) :: (nat_lit 140, o140_0) :: (nat_lit 141, o141_0) :: (nat_lit 142, o142_0) :: (nat_lit 144, o144_0) :: (nat_lit 145, o145_0) :: (nat_lit 147, o147_0) :: (nat_lit 148, o148_0) :: (nat_lit 149, o149_0) :: (nat_lit 151, o151_0) :: (nat_lit 152, o152_0) :: (nat_lit 154, o154_0) :: (nat_lit 155, o155_0) :: (nat_lit 156, o156_0) :: (nat_lit 159, o159_0) :: (nat_lit 160, o160_0) :: (nat_lit 161, o161_0) :: (nat_lit 163, o163_0) :: (nat_lit 164, o164_0) :: (nat_lit 166, o166_0) :: (nat_lit 167, o167_0) :: (nat_lit 168, o168_0) :: (nat_lit 170, o170_0) :: (nat_lit 171, o171_0) :: (nat_lit 173, o173_0) :: (nat_lit 174, o174_0) :: (nat_lit 175, o175_0) :: (nat_lit 177, o177_0) :: (nat_lit 178, o178_0) :: (nat_lit 180, o180_0) :: (nat_lit 181, o181_0) :: (nat_lit 182, o182_0) :: (nat_lit 184, o184_0) :: (nat_lit 185, o185_0) :: (nat_lit 187, o187_0) :: (nat_lit 188, o188_0) :: (nat_lit 189, o189_0) :: (nat_lit 192, o192_0) :: (nat_lit 193, o193_0) :: (nat_lit 194, o194_0) :: (nat_lit 196, o196_0) :: (nat_lit 197, o197_0) :: (nat_lit 199, o199_0) :: (nat_lit 200, o200_0) :: (nat_lit 201, o201_0) :: (nat_lit 203, o203_0) :: (nat_lit 204, o204_0) :: (nat_lit 206, o206_0) :: (nat_lit 207, o207_0) :: (nat_lit 215, o215_0) :: (nat_lit 216, o216_0 P) :: (nat_lit 217, o217_0) :: (nat_lit 218, o218_0) :: (nat_lit 219, o219_0) :: (nat_lit 222, o222_0) :: (nat_lit 229, o229_0) :: (nat_lit 231, o231_0) :: (nat_lit 232, o232_0) :: (nat_lit 234, o234_0) :: (nat_lit 235, o235_0) :: (nat_lit 236, o236_0) :: (nat_lit 238, o238_0) :: (nat_lit 239, o239_0) :: (nat_lit 241, o241_0) :: (nat_lit 242, o242_0) :: (nat_lit 243, o243_0) :: (nat_lit 244, o244_0 P) :: (nat_lit 245, o245_1) :: (nat_lit 248, o248_0) :: (nat_lit 255, o255_0) :: (nat_lit 257, o257_0) :: (nat_lit 258, o258_0) :: (nat_lit 260, o260_0) :: (nat_lit 261, o261_0) :: (nat_lit 262, o262_0) :: (nat_lit 264, o264_0) :: (nat_lit 265, o265_0) :: (nat_lit 267, o267_0) :: (nat_lit 268, o268_0) :: (nat_lit 269, o269_0) :: (nat_lit 271, o271_0) :: (nat_lit 272, o272_0) :: (nat_lit 274, o274_0) :: (nat_lit 275, o275_0) :: (nat_lit 276, o276_0) :: (nat_lit 278, o278_0) :: (nat_lit 279, o279_0) :: (nat_lit 281, o281_0) :: (nat_lit 282, o282_0) :: (nat_lit 283, o283_0) :: (nat_lit 284, o284_0 P) :: (nat_lit 285, o285_1) :: (nat_lit 288, o288_1) :: (nat_lit 295, o295_1) :: (nat_lit 297, o297_1) :: (nat_lit 298, o298_1) :: (nat_lit 300, o300_1) :: (nat_lit 301, o301_1) :: (nat_lit 302, o302_1) :: (nat_lit 304, o304_1) :: (nat_lit 305, o305_1) :: (nat_lit 307, o307_1) :: (nat_lit 308, o308_1) :: (nat_lit 309, o309_1) :: (nat_lit 311, o311_1) :: (nat_lit 312, o312_1) :: (nat_lit 314, o314_1) :: (nat_lit 315, o315_1) :: (nat_lit 316, o316_1) :: (nat_lit 318, o318_1) :: (nat_lit 319, o319_1) :: (nat_lit 321, o321_1) :: (nat_lit 322, o322_1) :: (nat_lit 323, o323_1) :: (nat_lit 325, o325_1) :: (nat_lit 326, o326_1) :: (nat_lit 328, o328_1) :: (nat_lit 329, o329_1) :: (nat_lit 330, o330_1) :: (nat_lit 332, o332_1) :: (nat_lit 333, o333_1) :: (nat_lit 335, o335_1) :: (nat_lit 336, o336_1) :: (nat_lit 337, o337_1) :: (nat_lit 339, o339_1) :: (nat_lit 340, o340_1) :: (nat_lit 342, o342_1) :: (nat_lit 343, o343_1) :: (nat_lit 344, o344_1) :: (nat_lit 346, o346_1) :: (nat_lit 347, o347_1) :: (nat_lit 349, o349_1) :: (nat_lit 350, o350_1) :: (nat_lit 351, o351_1) :: (nat_lit 353, o353_1) :: (nat_lit 354, o354_1) :: (nat_lit 356, o356_1) :: (nat_lit 357, o357_1) :: (nat_lit 358, o358_1) :: (nat_lit 360, o360_1) :: (nat_lit 361, o361_1) :: (nat_lit 363, o363_1) :: (nat_lit 364, o364_1) :: (nat_lit 365, o365_1) :: (nat_lit 366, o366_1 P) :: (nat_lit 367, o367_1) :: (nat_lit 370, o370_1) :: (nat_lit 377, o377_1) :: (nat_lit 379, o379_1) :: (nat_lit 380, o380_1) :: (nat_lit 382, o382_1) :: (nat_lit 383, o383_1) :: (nat_lit 384, o384_1) :: (nat_lit 386, o386_1) :: (nat_lit 387, o387_1) :: (nat_lit 389, o389_1) :: (nat_lit 390, o390_1) :: (nat_lit 391, o391_1) :: (nat_lit 393, o393_1) :: (nat_lit 394, o394_1) :: (nat_lit 396, o396_1) :: (nat_lit 397, o397_1) :: (nat_lit 398, o398_1) :: (nat_lit 400, o400_1) :: (nat_lit 401, o401_1) :: (nat_lit 403, o403_1) :: (nat_lit 404, o404_1) :: (nat_lit 405, o405_1) :: (nat_lit 407, o407_1) :: (nat_lit 408, o408_1) :: (nat_lit 410, o410_1) :: (nat_lit 411, o411_1) :: (nat_lit 412, o412_1) :: (nat_lit 414, o414_1) :: (nat_lit 415, o415_1) :: (nat_lit 417, o417_1) :: (nat_lit 418, o418_1) :: (nat_lit 419, o419_1) :: (nat_lit 421, o421_1) :: (nat_lit 422, o422_1) :: (nat_lit 424, o424_1) :: (nat_lit 425, o425_1) :: (nat_lit 426, o426_1) :: (nat_lit 428, o428_1) :: (nat_lit 429, o429_1) :: (nat_lit 431, o431_1) :: (nat_lit 432, o432_1) :: (nat_lit 433, o433_1) :: (nat_lit 435, o435_1) :: (nat_lit 436, o436_1) :: (nat_lit 438, o438_1) :: (nat_lit 439, o439_1) :: (nat_lit 440, o440_1) :: (nat_lit 442, o442_1) :: (nat_lit 443, o443_1) :: (nat_lit 445, o445_1) :: (nat_lit 446, o446_1) :: (nat_lit 447, o447_1) :: (nat_lit 449, o449_1) :: (nat_lit 450, o450_1) :: (nat_lit 452, o452_1) :: (nat_lit 453, o453_1) :: (nat_lit 454, o454_1) :: (nat_lit 455, o455_1 P) :: (nat_lit 456, o456_1) :: (nat_lit 459, o459_1) :: (nat_lit 466, o466_1) :: (nat_lit 468, o468_1) :: (nat_lit 469, o469_1) :: (nat_lit 471, o471_1) :: (nat_lit 472, o472_1) :: (nat_lit 473, o473_1) :: (nat_lit 475, o475_1) :: (nat_lit 476, o476_1) :: (nat_lit 478, o478_1) :: (nat_lit 479, o479_1) :: (nat_lit 480, o480_1) :: (nat_lit 482, o482_1) :: (nat_lit 483, o483_1) :: (nat_lit 485, o485_1) :: (nat_lit 486, o486_1) :: (nat_lit 487, o487_1) :: (nat_lit 489, o489_1) :: (nat_lit 490, o490_1) :: (nat_lit 492, o492_1) :: (nat_lit 493, o493_1) :: (nat_lit 494, o494_1) :: (nat_lit 496, o496_1) :: (nat_lit 497, o497_1) :: (nat_lit 499, o499_1) :: (nat_lit 500, o500_1) :: (nat_lit 501, o501_1) :: (nat_lit 503, o503_1) :: (nat_lit 504, o504_1) :: (nat_lit 506, o506_1) :: (nat_lit 507, o507_1) :: (nat_lit 508, o508_1) :: (nat_lit 510, o510_1) :: (nat_lit 511, o511_1) :: (nat_lit 513, o513_1) :: (nat_lit 514, o514_1) :: (nat_lit 515, o515_1) :: (nat_lit 517, o517_1) :: (nat_lit 518, o518_1) :: (nat_lit 520, o520_1) :: (nat_lit 521, o521_1) :: (nat_lit 522, o522_1) :: (nat_lit 523, o523_1 P) :: (nat_lit 524, o524_1) :: (nat_lit 527, o527_1) :: (nat_lit 534, o534_1) :: (nat_lit 536, o536_1) :: (nat_lit 537, o537_1) :: (nat_lit 539, o539_1) :: (nat_lit 540, o540_1) :: (nat_lit 541, o541_1) :: (nat_lit 543, o543_1) :: (nat_lit 544, o544_1) :: (nat_lit 546, o546_1) :: (nat_lit 547, o547_1) :: (nat_lit 548, o548_1) :: (nat_lit 550, o550_1) :: (nat_lit 551, o551_1) :: (nat_lit 553, o553_1) :: (nat_lit 554, o554_1) :: (nat_lit 555, o555_1) :: (nat_lit 557, o557_1) :: (nat_lit 558, o558_1) :: (nat_lit 560, o560_1) :: (nat_lit 561, o561_1) :: (nat_lit 562, o562_1) :: (nat_lit 564, o564_1) :: (nat_lit 565, o565_1) :: (nat_lit 567, o567_1) :: (nat_lit 568, o568_1) :: (nat_lit 569, o569_1) :: (nat_lit 571, o571_1) :: (nat_lit 572, o572_1) :: (nat_lit 574, o574_1) :: (nat_lit 575, o575_1) :: (nat_lit 576, o576_1) :: (nat_lit 578, o578_1) :: (nat_lit 579, o579_1) :: (nat_lit 581, o581_1) :: (nat_lit 582, o582_1) :: (nat_lit 583, o583_1) :: (nat_lit 585, o585_1) :: (nat_lit 586, o586_1) :: (nat_lit 588, o588_1) :: (nat_lit 589, o589_1) :: (nat_lit 590, o590_1) :: (nat_lit 591, o591_1 P) :: (nat_lit 592, o592_1) :: (nat_lit 595, o595_1) :: (nat_lit 597, o597_1) :: (nat_lit 598, o598_1) :: (nat_lit 600, o600_1) :: (nat_lit 601, o601_1) :: (nat_lit 602, o602_1) :: (nat_lit 604, o604_1) :: (nat_lit 605, o605_1) :: (nat_lit 607, o607_1) :: (nat_lit 608, o608_1) :: (nat_lit 609, o609_1) :: (nat_lit 611, o611_1) :: (nat_lit 612, o612_1) :: (nat_lit 614, o614_1) :: (nat_lit 615, o615_1) :: (nat_lit 616, o616_1) :: (nat_lit 618, o618_1) :: (nat_lit 619, o619_1) :: (nat_lit 621, o621_1) :: (nat_lit 622, o622_1) :: (nat_lit 623, o623_1) :: (nat_lit 625, o625_1) :: (nat_lit 626, o626_1) :: (nat_lit 628, o628_1) :: (nat_lit 629, o629_1) :: (nat_lit 630, o630_1) :: (nat_lit 632, o632_1) :: (nat_lit 633, o633_1) :: (nat_lit 635, o635_1) :: (nat_lit 636, o636_1) :: (nat_lit 637, o637_1) :: (nat_lit 639, o639_1) :: (nat_lit 640, o640_1) :: (nat_lit 642, o642_1) :: (nat_lit 643, o643_1) :: (nat_lit 644, o644_1) :: (nat_lit 646, o646_1) :: (nat_lit 647, o647_1) :: (nat_lit 649, o649_1) :: (nat_lit 650, o650_1) :: (nat_lit 651, o651_1) :: (nat_lit 653, o653_1) :: (nat_lit 654, o654_1) :: (nat_lit 656, o656_1) :: (nat_lit 657, o657_1) :: (nat_lit 658, o658_1) :: (nat_lit 660, o660_1) :: (nat_lit 661, o661_1) :: (nat_lit 663, o663_1) :: (nat_lit 664, o664_1) :: (nat_lit 665, o665_1) :: (nat_lit 667, o667_1) :: (nat_lit 668, o668_1) :: (nat_lit 670, o670_1) :: (nat_lit 671, o671_1) :: (nat_lit 672, o672_1) :: (nat_lit 675, o675_1) :: (nat_lit 676, o676_1) :: (nat_lit 677, o677_1) :: (nat_lit 679, o679_1) :: (nat_lit 680, o680_1) :: (nat_lit 682, o682_1) :: (nat_lit 683, o683_1) :: (nat_lit 684, o684_1) :: (nat_lit 686, o686_1) :: (nat_lit 687, o687_1) :: (nat_lit 689, o689_1) :: (nat_lit 690, o690_1) :: (nat_lit 691, o691_1) :: (nat_lit 693, o693_1) :: (nat_lit 694, o694_1) :: (nat_lit 696, o696_1) :: (nat_lit 697, o697_1) :: (nat_lit 698, o698_1) :: (nat_lit 700, o700_1) :: (nat_lit 701, o701_1) :: (nat_lit 703, o703_1) :: (nat_lit 704, o704_1) :: (nat_lit 705, o705_1) :: (nat_lit 708, o708_1) :: (nat_lit 709, o709_1) :: []
def KA : List Addr := [2, 3, 15, 17, 18, 20, 21, 22, 29, 30, 31, 32, 35, 42, 43, 44, 47, 54, 55, 56, 59, 66, 67, 68, 71, 78, 79, 80, 83, 90, 91, 92, 95, 98, 99, 100, 103, 104, 105, 108, 109, 110, 113, 114, 115, 118, 119, 120, 122, 123, 125, 126, 127, 130, 131, 132, 135, 136, 137, 140, 141, 142, 144, 145, 147, 148, 149, 151, 152, 154, 155, 156, 159, 160, 161, 163, 164, 166, 167, 168, 170, 171, 173, 174, 175, 177, 178, 180, 181, 182, 184, 185, 187, 188, 189, 192, 193, 194, 196, 197, 199, 200, 201, 203, 204, 206, 207, 215, 216, 217, 218, 219, 222, 229, 231, 232, 234, 235, 236, 238, 239, 241, 242, 243, 244, 245, 248, 255, 257, 258, 260, 261, 262, 264, 265, 267, 268, 269, 271, 272, 274, 275, 276, 278, 279, 281, 282, 283, 284, 285, 288, 295, 297, 298, 300, 301, 302, 304, 305, 307, 308, 309, 311, 312, 314, 315, 316, 318, 319, 321, 322, 323, 325, 326, 328, 329, 330, 332, 333, 335, 336, 337, 339, 340, 342, 343, 344, 346, 347, 349, 350, 351, 353, 354, 356, 357, 358, 360, 361, 363, 364, 365, 366, 367, 370, 377, 379, 380, 382, 383, 384, 386, 387, 389, 390, 391, 393, 394, 396, 397, 398, 400, 401, 403, 404, 405, 407, 408, 410, 411, 412, 414, 415, 417, 418, 419, 421, 422, 424, 425, 426, 428, 429, 431, 432, 433, 435, 436, 438, 439, 440, 442, 443, 445, 446, 447, 449, 450, 452, 453, 454, 455, 456, 459, 466, 468, 469, 471, 472, 473, 475, 476, 478, 479, 480, 482, 483, 485, 486, 487, 489, 490, 492, 493, 494, 496, 497, 499, 500, 501, 503, 504, 506, 507, 508, 510, 511, 513, 514, 515, 517, 518, 520, 521, 522, 523, 524, 527, 534, 536, 537, 539, 540, 541, 543, 544, 546, 547, 548, 550, 551, 553, 554, 555, 557, 558, 560, 561, 562, 564, 565, 567, 568, 569, 571, 572, 574, 575, 576, 578, 579, 581, 582, 583, 585, 586, 588, 589, 590, 591, 592, 595, 597, 598, 600, 601, 602, 604, 605, 607, 608, 609, 611, 612, 614, 615, 616, 618, 619, 621, 622, 623, 625, 626, 628, 629, 630, 632, 633, 635, 636, 637, 639, 640, 642, 643, 644, 646, 647, 649, 650, 651, 653, 654, 656, 657, 658, 660, 661, 663, 664, 665, 667, 668, 670, 671, 672, 675, 676, 677, 679, 680, 682, 683, 684, 686, 687, 689, 690, 691, 693, 694, 696, 697, 698, 700, 701, 703, 704, 705, 708, 709]
theorem KA_eq (P : Params) : KA = (K P).map (·.1) := by kernel_rfl
def topO (i : Nat) : Stmt := PySem.Challenge.pw_weighwalk_k26_single.main.body.getD i (.Pass ⟨0, 0, 0, 0⟩)
theorem top_eq : topT = topO := by unfold topT topO; rw [Fast.te15133599368059602012]
def qT : Program := { Fast.tw15133599368059602012 with main := { Fast.tw15133599368059602012.main with body := [topT 0, topT 2, topT 3, topT 4, topT 5, topT 6, topT 7, topT 9, topT 10, topT 11, topT 13, topT 14, topT 15, topT 16, topT 17, topT 18, topT 19, topT 20, topT 21, topT 23, topT 24, topT 25, topT 27, topT 28, topT 29, topT 30, topT 32, topT 33, topT 34, topT 35, topT 36, topT 37, topT 38, topT 39, topT 40, topT 41, topT 42, topT 43, topT 44, topT 46, topT 47, topT 48, topT 49, topT 50, topT 51, topT 52, topT 53, topT 54, topT 55, topT 56, topT 57, topT 58, topT 59, topT 60, topT 61, topT 62] } }
def qO : Program := { PySem.Challenge.pw_weighwalk_k26_single with main := { PySem.Challenge.pw_weighwalk_k26_single.main with body := [topO 0, topO 2, topO 3, topO 4, topO 5, topO 6, topO 7, topO 9, topO 10, topO 11, topO 13, topO 14, topO 15, topO 16, topO 17, topO 18, topO 19, topO 20, topO 21, topO 23, topO 24, topO 25, topO 27, topO 28, topO 29, topO 30, topO 32, topO 33, topO 34, topO 35, topO 36, topO 37, topO 38, topO 39, topO 40, topO 41, topO 42, topO 43, topO 44, topO 46, topO 47, topO 48, topO 49, topO 50, topO 51, topO 52, topO 53, topO 54, topO 55, topO 56, topO 57, topO 58, topO 59, topO 60, topO 61, topO 62] } }
theorem q_eq : qO = qT := by unfold qO qT; rw [top_eq, Fast.te15133599368059602012]
def recs := RowW.records (OpenRow.toRowW (OpenLaw.row PySem.Challenge.rw_weighwalk_k26_single))
abbrev Xt (q : Program) (s : Shared) : Bool := xlAt q [] s && recOk recs s
abbrev hook : Hook := kHook K KA KA_eq
theorem size_ (w : World) : ((boot_heap w.params).isNs mainGlobals && (⟨[]⟩ : Array GenState).size == 0, (boot_heap w.params).objs.size, (boot_heap w.params).nsMap mainGlobals "__annotations__") = (true, 11, (some (r 6))) := by (try rw [Fast.te15667345088766844465]); (try rw [Fast.te14082659384304107361]); (try rw [Fast.te14374325043358763698]); (try rw [Fast.te10110043849684766642]); (try rw [Fast.te14364793385576792824]); (try rw [Fast.te11892475500146522536]); (try rw [Fast.te4187177175401517315]); (try rw [Fast.te5923862056798008813]); (try rw [Fast.te8920871248978507458]); kernel_rfl
theorem open_ : ∀ w : World, (fencedOpening treeTable Fast.tw15133599368059602012 w 10826).map (fun s => (s.heap, s.gens, s.drawn, s.toks)) = some (boot_heap w.params, ⟨[]⟩, boot_drawn, boot_toks) := boot_open (by kernel_rfl) (by decide) (fun s => by (try rw [Fast.te15667345088766844465]); (try rw [Fast.te14082659384304107361]); (try rw [Fast.te14374325043358763698]); (try rw [Fast.te10110043849684766642]); (try rw [Fast.te14364793385576792824]); (try rw [Fast.te11892475500146522536]); (try rw [Fast.te4187177175401517315]); (try rw [Fast.te5923862056798008813]); (try rw [Fast.te8920871248978507458]); kernel_rfl)
theorem look1 (w : World) (os : OsState) : (staticsOk (importedModules Fast.tw15133599368059602012.main.body) (boot_heap w.params) (Hf w.params) && namesBound Fast.tw15133599368059602012 (Hf w.params) && gensDone (Sf w os) && laidKept (boot_heap w.params) (Hf w.params)) = true := by (try rw [Fast.te15667345088766844465]); (try rw [Fast.te14082659384304107361]); (try rw [Fast.te14374325043358763698]); (try rw [Fast.te10110043849684766642]); (try rw [Fast.te14364793385576792824]); (try rw [Fast.te11892475500146522536]); (try rw [Fast.te4187177175401517315]); (try rw [Fast.te5923862056798008813]); (try rw [Fast.te8920871248978507458]); kernel_rfl
theorem look2 (w : World) (os : OsState) : openSeen qT [] (importedModules Fast.tw15133599368059602012.main.body) (Xt qT) true (Sf w os) = openGood qT [] := by (try rw [Fast.te15667345088766844465]); (try rw [Fast.te14082659384304107361]); (try rw [Fast.te14374325043358763698]); (try rw [Fast.te10110043849684766642]); (try rw [Fast.te14364793385576792824]); (try rw [Fast.te11892475500146522536]); (try rw [Fast.te4187177175401517315]); (try rw [Fast.te5923862056798008813]); (try rw [Fast.te8920871248978507458]); kernel_rfl
theorem look3 (w : World) (os : OsState) : hook.obs (Sf w os) = hook.val w := by kernel_rfl
theorem leftT : LeftO Fast.tw15133599368059602012 qT [] (Xt qT) hook.obs hook.val 10826 := LeftO.of_pieces (H₁ := Hf) open_ size_ run_ (by decide) (fun w => funext fun os => looks_pair (look1 w os) (looks_pair (look2 w os) (look3 w os)))
theorem left : LeftO PySem.Challenge.pw_weighwalk_k26_single qO [] (Xt qO) hook.obs hook.val 10826 := by have h := leftT; rw [← q_eq, ← Fast.te15133599368059602012] at h; exact h
def dO : DefRec := ⟨PySem.Str.ofString "law", L2.defArgs (topO 62), L2.defBody (topO 62), L2.defScope (topO 62), ⟨415, 0, 440, 15⟩⟩
theorem holds_ (said : (OpenLaw.row PySem.Challenge.rw_weighwalk_k26_single).wellSaid = true) (hw : (OpenLaw.row PySem.Challenge.rw_weighwalk_k26_single).toRowW.promised) (hc : WalkO qO [] (XL qO []) (Hook.says hook) (OpenLaw.row PySem.Challenge.rw_weighwalk_k26_single).toRowW dO [] (fun f vs => PySem.call f vs)) : (OpenLaw.row PySem.Challenge.rw_weighwalk_k26_single).Holds :=
  holds_open (r := (OpenLaw.row PySem.Challenge.rw_weighwalk_k26_single)) (q := qO) (loose := []) (Xt := Xt qO) (XP := XL qO []) (Yf := hook.obs) (Ya := hook.val) (YP := hook.says) (d := dO) (kwd := []) (N := 10826) left hook.of hook.keeps (fun s e => xl_of s (Bool.and_eq_true_iff.mp e).1) XL.keeps (by kernel_rfl) (by kernel_rfl) (by kernel_rfl) (fun s e => recFacts_of (Bool.and_eq_true_iff.mp e).2) (by kernel_rfl) said (by decide +kernel) ⟨rfl, rfl, rfl, rfl, rfl, by decide +kernel⟩ hw hc
theorem lk__wall (P : Params) : (K P).lookup 21 = some ⟨(.type SL.s7174869446012820540x8), none, .func (fnOf (PySem.Str.ofString "_wall") (PySem.Str.ofString "_wall") (L2.defArgs (topO 0)) (L2.defBody (topO 0)) (L2.defScope (topO 0)) .none .none .none (.str s2 164) none (r 20) .none), #[]⟩ := by rw [← top_eq]; kernel_rfl
theorem lk_noughts (P : Params) : (K P).lookup 99 = some ⟨(.type SL.s7174869446012820540x8), none, .func (fnOf (PySem.Str.ofString "noughts") (PySem.Str.ofString "noughts") (L2.defArgs (topO 9)) (L2.defBody (topO 9)) (L2.defScope (topO 9)) .none .none .none (.str s57 294) none (r 98) .none), #[]⟩ := by rw [← top_eq]; kernel_rfl
theorem lk_unit (P : Params) : (K P).lookup 104 = some ⟨(.type SL.s7174869446012820540x8), none, .func (fnOf (PySem.Str.ofString "unit") (PySem.Str.ofString "unit") (L2.defArgs (topO 10)) (L2.defBody (topO 10)) (L2.defScope (topO 10)) .none .none .none (.str s57 294) none (r 103) .none), #[]⟩ := by rw [← top_eq]; kernel_rfl
theorem lk_times_row (P : Params) : (K P).lookup 109 = some ⟨(.type SL.s7174869446012820540x8), none, .func (fnOf (PySem.Str.ofString "times_row") (PySem.Str.ofString "times_row") (L2.defArgs (topO 11)) (L2.defBody (topO 11)) (L2.defScope (topO 11)) .none .none .none (.str s57 294) none (r 108) .none), #[]⟩ := by rw [← top_eq]; kernel_rfl
theorem lk_is_letters (P : Params) : (K P).lookup 114 = some ⟨(.type SL.s7174869446012820540x8), none, .func (fnOf (PySem.Str.ofString "is_letters") (PySem.Str.ofString "is_letters") (L2.defArgs (topO 16)) (L2.defBody (topO 16)) (L2.defScope (topO 16)) .none .none .none (.str s58 314) none (r 113) .none), #[]⟩ := by rw [← top_eq]; kernel_rfl
theorem lk_is_word (P : Params) : (K P).lookup 119 = some ⟨(.type SL.s7174869446012820540x8), none, .func (fnOf (PySem.Str.ofString "is_word") (PySem.Str.ofString "is_word") (L2.defArgs (topO 17)) (L2.defBody (topO 17)) (L2.defScope (topO 17)) .none .none .none (.str s58 314) none (r 118) .none), #[]⟩ := by rw [← top_eq]; kernel_rfl
theorem lk_need_word (P : Params) : (K P).lookup 126 = some ⟨(.type SL.s7174869446012820540x8), none, .func (fnOf (PySem.Str.ofString "need_word") (PySem.Str.ofString "need_word") (L2.defArgs (topO 18)) (L2.defBody (topO 18)) (L2.defScope (topO 18)) .none .none .none (.str s58 314) none (r 125) .none), #[]⟩ := by rw [← top_eq]; kernel_rfl
theorem lk_is_row (P : Params) : (K P).lookup 131 = some ⟨(.type SL.s7174869446012820540x8), none, .func (fnOf (PySem.Str.ofString "is_row") (PySem.Str.ofString "is_row") (L2.defArgs (topO 19)) (L2.defBody (topO 19)) (L2.defScope (topO 19)) .none .none .none (.str s58 314) none (r 130) .none), #[]⟩ := by rw [← top_eq]; kernel_rfl
theorem lk_is_table (P : Params) : (K P).lookup 136 = some ⟨(.type SL.s7174869446012820540x8), none, .func (fnOf (PySem.Str.ofString "is_table") (PySem.Str.ofString "is_table") (L2.defArgs (topO 20)) (L2.defBody (topO 20)) (L2.defScope (topO 20)) .none .none .none (.str s58 314) none (r 135) .none), #[]⟩ := by rw [← top_eq]; kernel_rfl
theorem lk_is_machine (P : Params) : (K P).lookup 141 = some ⟨(.type SL.s7174869446012820540x8), none, .func (fnOf (PySem.Str.ofString "is_machine") (PySem.Str.ofString "is_machine") (L2.defArgs (topO 21)) (L2.defBody (topO 21)) (L2.defScope (topO 21)) .none .none .none (.str s58 314) none (r 140) .none), #[]⟩ := by rw [← top_eq]; kernel_rfl
theorem lk_need_few_rooms (P : Params) : (K P).lookup 148 = some ⟨(.type SL.s7174869446012820540x8), none, .func (fnOf (PySem.Str.ofString "need_few_rooms") (PySem.Str.ofString "need_few_rooms") (L2.defArgs (topO 23)) (L2.defBody (topO 23)) (L2.defScope (topO 23)) .none .none .none (.str s62 360) none (r 147) .none), #[]⟩ := by rw [← top_eq]; kernel_rfl
theorem lk_single_row (P : Params) : (K P).lookup 155 = some ⟨(.type SL.s7174869446012820540x8), none, .func (fnOf (PySem.Str.ofString "single_row") (PySem.Str.ofString "single_row") (L2.defArgs (topO 24)) (L2.defBody (topO 24)) (L2.defScope (topO 24)) .none .none .none (.str s62 360) none (r 154) .none), #[]⟩ := by rw [← top_eq]; kernel_rfl
theorem lk_single (P : Params) : (K P).lookup 160 = some ⟨(.type SL.s7174869446012820540x8), none, .func (fnOf (PySem.Str.ofString "single") (PySem.Str.ofString "single") (L2.defArgs (topO 25)) (L2.defBody (topO 25)) (L2.defScope (topO 25)) .none .none .none (.str s62 360) none (r 159) .none), #[]⟩ := by rw [← top_eq]; kernel_rfl
theorem lk_is_whole (P : Params) : (K P).lookup 167 = some ⟨(.type SL.s7174869446012820540x8), none, .func (fnOf (PySem.Str.ofString "is_whole") (PySem.Str.ofString "is_whole") (L2.defArgs (topO 27)) (L2.defBody (topO 27)) (L2.defScope (topO 27)) .none .none .none (.str s67 385) none (r 166) .none), #[]⟩ := by rw [← top_eq]; kernel_rfl
theorem lk_divisor (P : Params) : (K P).lookup 174 = some ⟨(.type SL.s7174869446012820540x8), none, .func (fnOf (PySem.Str.ofString "divisor") (PySem.Str.ofString "divisor") (L2.defArgs (topO 28)) (L2.defBody (topO 28)) (L2.defScope (topO 28)) .none .none .none (.str s67 385) none (r 173) .none), #[]⟩ := by rw [← top_eq]; kernel_rfl
theorem lk_fraction (P : Params) : (K P).lookup 181 = some ⟨(.type SL.s7174869446012820540x8), none, .func (fnOf (PySem.Str.ofString "fraction") (PySem.Str.ofString "fraction") (L2.defArgs (topO 29)) (L2.defBody (topO 29)) (L2.defScope (topO 29)) .none .none .none (.str s67 385) none (r 180) .none), #[]⟩ := by rw [← top_eq]; kernel_rfl
theorem lk_is_prime (P : Params) : (K P).lookup 188 = some ⟨(.type SL.s7174869446012820540x8), none, .func (fnOf (PySem.Str.ofString "is_prime") (PySem.Str.ofString "is_prime") (L2.defArgs (topO 30)) (L2.defBody (topO 30)) (L2.defScope (topO 30)) .none .none .none (.str s67 385) none (r 187) .none), #[]⟩ := by rw [← top_eq]; kernel_rfl
theorem lk_is_written (P : Params) : (K P).lookup 193 = some ⟨(.type SL.s7174869446012820540x8), none, .func (fnOf (PySem.Str.ofString "is_written") (PySem.Str.ofString "is_written") (L2.defArgs (topO 35)) (L2.defBody (topO 35)) (L2.defScope (topO 35)) .none .none .none (.str s4 422) none (r 192) .none), #[]⟩ := by rw [← top_eq]; kernel_rfl
theorem lk_read_whole (P : Params) : (K P).lookup 200 = some ⟨(.type SL.s7174869446012820540x8), none, .func (fnOf (PySem.Str.ofString "read_whole") (PySem.Str.ofString "read_whole") (L2.defArgs (topO 36)) (L2.defBody (topO 36)) (L2.defScope (topO 36)) .none .none .none (.str s4 422) none (r 199) .none), #[]⟩ := by rw [← top_eq]; kernel_rfl
theorem lk_need_text (P : Params) : (K P).lookup 207 = some ⟨(.type SL.s7174869446012820540x8), none, .func (fnOf (PySem.Str.ofString "need_text") (PySem.Str.ofString "need_text") (L2.defArgs (topO 37)) (L2.defBody (topO 37)) (L2.defScope (topO 37)) .none .none .none (.str s4 422) none (r 206) .none), #[]⟩ := by rw [← top_eq]; kernel_rfl
theorem lk_Field_is_field (P : Params) : (K P).lookup 235 = some ⟨(.type SL.s7174869446012820540x8), none, .func (fnOf (PySem.Str.ofString "is_field") (PySem.Str.ofString "Field.is_field") (L2.defArgs (L2.inClass (topO 39) 0)) (L2.defBody (L2.inClass (topO 39) 0)) (L2.defScope (L2.inClass (topO 39) 0)) .none .none .none (.str s4 422) none (r 234) .none), #[]⟩ := by rw [← top_eq]; kernel_rfl
theorem lk_Field_picks (P : Params) : (K P).lookup 242 = some ⟨(.type SL.s7174869446012820540x8), none, .func (fnOf (PySem.Str.ofString "picks") (PySem.Str.ofString "Field.picks") (L2.defArgs (L2.inClass (topO 39) 1)) (L2.defBody (L2.inClass (topO 39) 1)) (L2.defScope (L2.inClass (topO 39) 1)) .none .none .none (.str s4 422) none (r 241) .none), #[]⟩ := by rw [← top_eq]; kernel_rfl
theorem lk_Picking_is_field (P : Params) : (K P).lookup 261 = some ⟨(.type SL.s7174869446012820540x8), none, .func (fnOf (PySem.Str.ofString "is_field") (PySem.Str.ofString "Picking.is_field") (L2.defArgs (L2.inClass (topO 40) 0)) (L2.defBody (L2.inClass (topO 40) 0)) (L2.defScope (L2.inClass (topO 40) 0)) .none .none .none (.str s4 422) none (r 260) .none), #[]⟩ := by rw [← top_eq]; kernel_rfl
theorem lk_Picking_picks (P : Params) : (K P).lookup 268 = some ⟨(.type SL.s7174869446012820540x8), none, .func (fnOf (PySem.Str.ofString "picks") (PySem.Str.ofString "Picking.picks") (L2.defArgs (L2.inClass (topO 40) 1)) (L2.defBody (L2.inClass (topO 40) 1)) (L2.defScope (L2.inClass (topO 40) 1)) .none .none .none (.str s4 422) none (r 267) .none), #[]⟩ := by rw [← top_eq]; kernel_rfl
theorem lk_Picking_minus (P : Params) : (K P).lookup 275 = some ⟨(.type SL.s7174869446012820540x8), none, .func (fnOf (PySem.Str.ofString "minus") (PySem.Str.ofString "Picking.minus") (L2.defArgs (L2.inClass (topO 40) 2)) (L2.defBody (L2.inClass (topO 40) 2)) (L2.defScope (L2.inClass (topO 40) 2)) .none .none .none (.str s4 422) none (r 274) .none), #[]⟩ := by rw [← top_eq]; kernel_rfl
theorem lk_Picking_inverse (P : Params) : (K P).lookup 282 = some ⟨(.type SL.s7174869446012820540x8), none, .func (fnOf (PySem.Str.ofString "inverse") (PySem.Str.ofString "Picking.inverse") (L2.defArgs (L2.inClass (topO 40) 3)) (L2.defBody (L2.inClass (topO 40) 3)) (L2.defScope (L2.inClass (topO 40) 3)) .none .none .none (.str s4 422) none (r 281) .none), #[]⟩ := by rw [← top_eq]; kernel_rfl
theorem lk_Fractions_told (P : Params) : (K P).lookup 301 = some ⟨(.type SL.s7174869446012820540x8), none, .func (fnOf (PySem.Str.ofString "told") (PySem.Str.ofString "Fractions.told") (L2.defArgs (L2.inClass (topO 41) 0)) (L2.defBody (L2.inClass (topO 41) 0)) (L2.defScope (L2.inClass (topO 41) 0)) .none .none .none (.str s4 422) none (r 300) .none), #[]⟩ := by rw [← top_eq]; kernel_rfl
theorem lk_Fractions_nought (P : Params) : (K P).lookup 308 = some ⟨(.type SL.s7174869446012820540x8), none, .func (fnOf (PySem.Str.ofString "nought") (PySem.Str.ofString "Fractions.nought") (L2.defArgs (L2.inClass (topO 41) 1)) (L2.defBody (L2.inClass (topO 41) 1)) (L2.defScope (L2.inClass (topO 41) 1)) .none .none .none (.str s4 422) none (r 307) .none), #[]⟩ := by rw [← top_eq]; kernel_rfl
theorem lk_Fractions_one (P : Params) : (K P).lookup 315 = some ⟨(.type SL.s7174869446012820540x8), none, .func (fnOf (PySem.Str.ofString "one") (PySem.Str.ofString "Fractions.one") (L2.defArgs (L2.inClass (topO 41) 2)) (L2.defBody (L2.inClass (topO 41) 2)) (L2.defScope (L2.inClass (topO 41) 2)) .none .none .none (.str s4 422) none (r 314) .none), #[]⟩ := by rw [← top_eq]; kernel_rfl
theorem lk_Fractions_plus (P : Params) : (K P).lookup 322 = some ⟨(.type SL.s7174869446012820540x8), none, .func (fnOf (PySem.Str.ofString "plus") (PySem.Str.ofString "Fractions.plus") (L2.defArgs (L2.inClass (topO 41) 3)) (L2.defBody (L2.inClass (topO 41) 3)) (L2.defScope (L2.inClass (topO 41) 3)) .none .none .none (.str s4 422) none (r 321) .none), #[]⟩ := by rw [← top_eq]; kernel_rfl
theorem lk_Fractions_times (P : Params) : (K P).lookup 329 = some ⟨(.type SL.s7174869446012820540x8), none, .func (fnOf (PySem.Str.ofString "times") (PySem.Str.ofString "Fractions.times") (L2.defArgs (L2.inClass (topO 41) 4)) (L2.defBody (L2.inClass (topO 41) 4)) (L2.defScope (L2.inClass (topO 41) 4)) .none .none .none (.str s4 422) none (r 328) .none), #[]⟩ := by rw [← top_eq]; kernel_rfl
theorem lk_Fractions_minus (P : Params) : (K P).lookup 336 = some ⟨(.type SL.s7174869446012820540x8), none, .func (fnOf (PySem.Str.ofString "minus") (PySem.Str.ofString "Fractions.minus") (L2.defArgs (L2.inClass (topO 41) 5)) (L2.defBody (L2.inClass (topO 41) 5)) (L2.defScope (L2.inClass (topO 41) 5)) .none .none .none (.str s4 422) none (r 335) .none), #[]⟩ := by rw [← top_eq]; kernel_rfl
theorem lk_Fractions_inverse (P : Params) : (K P).lookup 343 = some ⟨(.type SL.s7174869446012820540x8), none, .func (fnOf (PySem.Str.ofString "inverse") (PySem.Str.ofString "Fractions.inverse") (L2.defArgs (L2.inClass (topO 41) 6)) (L2.defBody (L2.inClass (topO 41) 6)) (L2.defScope (L2.inClass (topO 41) 6)) .none .none .none (.str s4 422) none (r 342) .none), #[]⟩ := by rw [← top_eq]; kernel_rfl
theorem lk_Fractions_is_weight (P : Params) : (K P).lookup 350 = some ⟨(.type SL.s7174869446012820540x8), none, .func (fnOf (PySem.Str.ofString "is_weight") (PySem.Str.ofString "Fractions.is_weight") (L2.defArgs (L2.inClass (topO 41) 7)) (L2.defBody (L2.inClass (topO 41) 7)) (L2.defScope (L2.inClass (topO 41) 7)) .none .none .none (.str s4 422) none (r 349) .none), #[]⟩ := by rw [← top_eq]; kernel_rfl
theorem lk_Fractions_shown (P : Params) : (K P).lookup 357 = some ⟨(.type SL.s7174869446012820540x8), none, .func (fnOf (PySem.Str.ofString "shown") (PySem.Str.ofString "Fractions.shown") (L2.defArgs (L2.inClass (topO 41) 8)) (L2.defBody (L2.inClass (topO 41) 8)) (L2.defScope (L2.inClass (topO 41) 8)) .none .none .none (.str s4 422) none (r 356) .none), #[]⟩ := by rw [← top_eq]; kernel_rfl
theorem lk_Fractions_read (P : Params) : (K P).lookup 364 = some ⟨(.type SL.s7174869446012820540x8), none, .func (fnOf (PySem.Str.ofString "read") (PySem.Str.ofString "Fractions.read") (L2.defArgs (L2.inClass (topO 41) 9)) (L2.defBody (L2.inClass (topO 41) 9)) (L2.defScope (L2.inClass (topO 41) 9)) .none .none .none (.str s4 422) none (r 363) .none), #[]⟩ := by rw [← top_eq]; kernel_rfl
theorem lk_Residues___init__ (P : Params) : (K P).lookup 383 = some ⟨(.type SL.s7174869446012820540x8), none, .func (fnOf (PySem.Str.ofString "__init__") (PySem.Str.ofString "Residues.__init__") (L2.defArgs (L2.inClass (topO 42) 0)) (L2.defBody (L2.inClass (topO 42) 0)) (L2.defScope (L2.inClass (topO 42) 0)) .none .none .none (.str s4 422) none (r 382) .none), #[]⟩ := by rw [← top_eq]; kernel_rfl
theorem lk_Residues_told (P : Params) : (K P).lookup 390 = some ⟨(.type SL.s7174869446012820540x8), none, .func (fnOf (PySem.Str.ofString "told") (PySem.Str.ofString "Residues.told") (L2.defArgs (L2.inClass (topO 42) 1)) (L2.defBody (L2.inClass (topO 42) 1)) (L2.defScope (L2.inClass (topO 42) 1)) .none .none .none (.str s4 422) none (r 389) .none), #[]⟩ := by rw [← top_eq]; kernel_rfl
theorem lk_Residues_nought (P : Params) : (K P).lookup 397 = some ⟨(.type SL.s7174869446012820540x8), none, .func (fnOf (PySem.Str.ofString "nought") (PySem.Str.ofString "Residues.nought") (L2.defArgs (L2.inClass (topO 42) 2)) (L2.defBody (L2.inClass (topO 42) 2)) (L2.defScope (L2.inClass (topO 42) 2)) .none .none .none (.str s4 422) none (r 396) .none), #[]⟩ := by rw [← top_eq]; kernel_rfl
theorem lk_Residues_one (P : Params) : (K P).lookup 404 = some ⟨(.type SL.s7174869446012820540x8), none, .func (fnOf (PySem.Str.ofString "one") (PySem.Str.ofString "Residues.one") (L2.defArgs (L2.inClass (topO 42) 3)) (L2.defBody (L2.inClass (topO 42) 3)) (L2.defScope (L2.inClass (topO 42) 3)) .none .none .none (.str s4 422) none (r 403) .none), #[]⟩ := by rw [← top_eq]; kernel_rfl
theorem lk_Residues_plus (P : Params) : (K P).lookup 411 = some ⟨(.type SL.s7174869446012820540x8), none, .func (fnOf (PySem.Str.ofString "plus") (PySem.Str.ofString "Residues.plus") (L2.defArgs (L2.inClass (topO 42) 4)) (L2.defBody (L2.inClass (topO 42) 4)) (L2.defScope (L2.inClass (topO 42) 4)) .none .none .none (.str s4 422) none (r 410) .none), #[]⟩ := by rw [← top_eq]; kernel_rfl
theorem lk_Residues_times (P : Params) : (K P).lookup 418 = some ⟨(.type SL.s7174869446012820540x8), none, .func (fnOf (PySem.Str.ofString "times") (PySem.Str.ofString "Residues.times") (L2.defArgs (L2.inClass (topO 42) 5)) (L2.defBody (L2.inClass (topO 42) 5)) (L2.defScope (L2.inClass (topO 42) 5)) .none .none .none (.str s4 422) none (r 417) .none), #[]⟩ := by rw [← top_eq]; kernel_rfl
theorem lk_Residues_minus (P : Params) : (K P).lookup 425 = some ⟨(.type SL.s7174869446012820540x8), none, .func (fnOf (PySem.Str.ofString "minus") (PySem.Str.ofString "Residues.minus") (L2.defArgs (L2.inClass (topO 42) 6)) (L2.defBody (L2.inClass (topO 42) 6)) (L2.defScope (L2.inClass (topO 42) 6)) .none .none .none (.str s4 422) none (r 424) .none), #[]⟩ := by rw [← top_eq]; kernel_rfl
theorem lk_Residues_inverse (P : Params) : (K P).lookup 432 = some ⟨(.type SL.s7174869446012820540x8), none, .func (fnOf (PySem.Str.ofString "inverse") (PySem.Str.ofString "Residues.inverse") (L2.defArgs (L2.inClass (topO 42) 7)) (L2.defBody (L2.inClass (topO 42) 7)) (L2.defScope (L2.inClass (topO 42) 7)) .none .none .none (.str s4 422) none (r 431) .none), #[]⟩ := by rw [← top_eq]; kernel_rfl
theorem lk_Residues_is_weight (P : Params) : (K P).lookup 439 = some ⟨(.type SL.s7174869446012820540x8), none, .func (fnOf (PySem.Str.ofString "is_weight") (PySem.Str.ofString "Residues.is_weight") (L2.defArgs (L2.inClass (topO 42) 8)) (L2.defBody (L2.inClass (topO 42) 8)) (L2.defScope (L2.inClass (topO 42) 8)) .none .none .none (.str s4 422) none (r 438) .none), #[]⟩ := by rw [← top_eq]; kernel_rfl
theorem lk_Residues_shown (P : Params) : (K P).lookup 446 = some ⟨(.type SL.s7174869446012820540x8), none, .func (fnOf (PySem.Str.ofString "shown") (PySem.Str.ofString "Residues.shown") (L2.defArgs (L2.inClass (topO 42) 9)) (L2.defBody (L2.inClass (topO 42) 9)) (L2.defScope (L2.inClass (topO 42) 9)) .none .none .none (.str s4 422) none (r 445) .none), #[]⟩ := by rw [← top_eq]; kernel_rfl
theorem lk_Residues_read (P : Params) : (K P).lookup 453 = some ⟨(.type SL.s7174869446012820540x8), none, .func (fnOf (PySem.Str.ofString "read") (PySem.Str.ofString "Residues.read") (L2.defArgs (L2.inClass (topO 42) 10)) (L2.defBody (L2.inClass (topO 42) 10)) (L2.defScope (L2.inClass (topO 42) 10)) .none .none .none (.str s4 422) none (r 452) .none), #[]⟩ := by rw [← top_eq]; kernel_rfl
theorem lk_Costs_told (P : Params) : (K P).lookup 472 = some ⟨(.type SL.s7174869446012820540x8), none, .func (fnOf (PySem.Str.ofString "told") (PySem.Str.ofString "Costs.told") (L2.defArgs (L2.inClass (topO 43) 0)) (L2.defBody (L2.inClass (topO 43) 0)) (L2.defScope (L2.inClass (topO 43) 0)) .none .none .none (.str s4 422) none (r 471) .none), #[]⟩ := by rw [← top_eq]; kernel_rfl
theorem lk_Costs_nought (P : Params) : (K P).lookup 479 = some ⟨(.type SL.s7174869446012820540x8), none, .func (fnOf (PySem.Str.ofString "nought") (PySem.Str.ofString "Costs.nought") (L2.defArgs (L2.inClass (topO 43) 1)) (L2.defBody (L2.inClass (topO 43) 1)) (L2.defScope (L2.inClass (topO 43) 1)) .none .none .none (.str s4 422) none (r 478) .none), #[]⟩ := by rw [← top_eq]; kernel_rfl
theorem lk_Costs_one (P : Params) : (K P).lookup 486 = some ⟨(.type SL.s7174869446012820540x8), none, .func (fnOf (PySem.Str.ofString "one") (PySem.Str.ofString "Costs.one") (L2.defArgs (L2.inClass (topO 43) 2)) (L2.defBody (L2.inClass (topO 43) 2)) (L2.defScope (L2.inClass (topO 43) 2)) .none .none .none (.str s4 422) none (r 485) .none), #[]⟩ := by rw [← top_eq]; kernel_rfl
theorem lk_Costs_plus (P : Params) : (K P).lookup 493 = some ⟨(.type SL.s7174869446012820540x8), none, .func (fnOf (PySem.Str.ofString "plus") (PySem.Str.ofString "Costs.plus") (L2.defArgs (L2.inClass (topO 43) 3)) (L2.defBody (L2.inClass (topO 43) 3)) (L2.defScope (L2.inClass (topO 43) 3)) .none .none .none (.str s4 422) none (r 492) .none), #[]⟩ := by rw [← top_eq]; kernel_rfl
theorem lk_Costs_times (P : Params) : (K P).lookup 500 = some ⟨(.type SL.s7174869446012820540x8), none, .func (fnOf (PySem.Str.ofString "times") (PySem.Str.ofString "Costs.times") (L2.defArgs (L2.inClass (topO 43) 4)) (L2.defBody (L2.inClass (topO 43) 4)) (L2.defScope (L2.inClass (topO 43) 4)) .none .none .none (.str s4 422) none (r 499) .none), #[]⟩ := by rw [← top_eq]; kernel_rfl
theorem lk_Costs_is_weight (P : Params) : (K P).lookup 507 = some ⟨(.type SL.s7174869446012820540x8), none, .func (fnOf (PySem.Str.ofString "is_weight") (PySem.Str.ofString "Costs.is_weight") (L2.defArgs (L2.inClass (topO 43) 5)) (L2.defBody (L2.inClass (topO 43) 5)) (L2.defScope (L2.inClass (topO 43) 5)) .none .none .none (.str s4 422) none (r 506) .none), #[]⟩ := by rw [← top_eq]; kernel_rfl
theorem lk_Costs_shown (P : Params) : (K P).lookup 514 = some ⟨(.type SL.s7174869446012820540x8), none, .func (fnOf (PySem.Str.ofString "shown") (PySem.Str.ofString "Costs.shown") (L2.defArgs (L2.inClass (topO 43) 6)) (L2.defBody (L2.inClass (topO 43) 6)) (L2.defScope (L2.inClass (topO 43) 6)) .none .none .none (.str s4 422) none (r 513) .none), #[]⟩ := by rw [← top_eq]; kernel_rfl
theorem lk_Costs_read (P : Params) : (K P).lookup 521 = some ⟨(.type SL.s7174869446012820540x8), none, .func (fnOf (PySem.Str.ofString "read") (PySem.Str.ofString "Costs.read") (L2.defArgs (L2.inClass (topO 43) 7)) (L2.defBody (L2.inClass (topO 43) 7)) (L2.defScope (L2.inClass (topO 43) 7)) .none .none .none (.str s4 422) none (r 520) .none), #[]⟩ := by rw [← top_eq]; kernel_rfl
theorem lk_Truths_told (P : Params) : (K P).lookup 540 = some ⟨(.type SL.s7174869446012820540x8), none, .func (fnOf (PySem.Str.ofString "told") (PySem.Str.ofString "Truths.told") (L2.defArgs (L2.inClass (topO 44) 0)) (L2.defBody (L2.inClass (topO 44) 0)) (L2.defScope (L2.inClass (topO 44) 0)) .none .none .none (.str s4 422) none (r 539) .none), #[]⟩ := by rw [← top_eq]; kernel_rfl
theorem lk_Truths_nought (P : Params) : (K P).lookup 547 = some ⟨(.type SL.s7174869446012820540x8), none, .func (fnOf (PySem.Str.ofString "nought") (PySem.Str.ofString "Truths.nought") (L2.defArgs (L2.inClass (topO 44) 1)) (L2.defBody (L2.inClass (topO 44) 1)) (L2.defScope (L2.inClass (topO 44) 1)) .none .none .none (.str s4 422) none (r 546) .none), #[]⟩ := by rw [← top_eq]; kernel_rfl
theorem lk_Truths_one (P : Params) : (K P).lookup 554 = some ⟨(.type SL.s7174869446012820540x8), none, .func (fnOf (PySem.Str.ofString "one") (PySem.Str.ofString "Truths.one") (L2.defArgs (L2.inClass (topO 44) 2)) (L2.defBody (L2.inClass (topO 44) 2)) (L2.defScope (L2.inClass (topO 44) 2)) .none .none .none (.str s4 422) none (r 553) .none), #[]⟩ := by rw [← top_eq]; kernel_rfl
theorem lk_Truths_plus (P : Params) : (K P).lookup 561 = some ⟨(.type SL.s7174869446012820540x8), none, .func (fnOf (PySem.Str.ofString "plus") (PySem.Str.ofString "Truths.plus") (L2.defArgs (L2.inClass (topO 44) 3)) (L2.defBody (L2.inClass (topO 44) 3)) (L2.defScope (L2.inClass (topO 44) 3)) .none .none .none (.str s4 422) none (r 560) .none), #[]⟩ := by rw [← top_eq]; kernel_rfl
theorem lk_Truths_times (P : Params) : (K P).lookup 568 = some ⟨(.type SL.s7174869446012820540x8), none, .func (fnOf (PySem.Str.ofString "times") (PySem.Str.ofString "Truths.times") (L2.defArgs (L2.inClass (topO 44) 4)) (L2.defBody (L2.inClass (topO 44) 4)) (L2.defScope (L2.inClass (topO 44) 4)) .none .none .none (.str s4 422) none (r 567) .none), #[]⟩ := by rw [← top_eq]; kernel_rfl
theorem lk_Truths_is_weight (P : Params) : (K P).lookup 575 = some ⟨(.type SL.s7174869446012820540x8), none, .func (fnOf (PySem.Str.ofString "is_weight") (PySem.Str.ofString "Truths.is_weight") (L2.defArgs (L2.inClass (topO 44) 5)) (L2.defBody (L2.inClass (topO 44) 5)) (L2.defScope (L2.inClass (topO 44) 5)) .none .none .none (.str s4 422) none (r 574) .none), #[]⟩ := by rw [← top_eq]; kernel_rfl
theorem lk_Truths_shown (P : Params) : (K P).lookup 582 = some ⟨(.type SL.s7174869446012820540x8), none, .func (fnOf (PySem.Str.ofString "shown") (PySem.Str.ofString "Truths.shown") (L2.defArgs (L2.inClass (topO 44) 6)) (L2.defBody (L2.inClass (topO 44) 6)) (L2.defScope (L2.inClass (topO 44) 6)) .none .none .none (.str s4 422) none (r 581) .none), #[]⟩ := by rw [← top_eq]; kernel_rfl
theorem lk_Truths_read (P : Params) : (K P).lookup 589 = some ⟨(.type SL.s7174869446012820540x8), none, .func (fnOf (PySem.Str.ofString "read") (PySem.Str.ofString "Truths.read") (L2.defArgs (L2.inClass (topO 44) 7)) (L2.defBody (L2.inClass (topO 44) 7)) (L2.defScope (L2.inClass (topO 44) 7)) .none .none .none (.str s4 422) none (r 588) .none), #[]⟩ := by rw [← top_eq]; kernel_rfl
theorem lk__law_next (P : Params) : (K P).lookup 601 = some ⟨(.type SL.s7174869446012820540x8), none, .func (fnOf (PySem.Str.ofString "_law_next") (PySem.Str.ofString "_law_next") (L2.defArgs (topO 46)) (L2.defBody (topO 46)) (L2.defScope (topO 46)) .none .none .none (.str s92 907) none (r 600) .none), #[]⟩ := by rw [← top_eq]; kernel_rfl
theorem lk__law_state (P : Params) : (K P).lookup 608 = some ⟨(.type SL.s7174869446012820540x8), none, .func (fnOf (PySem.Str.ofString "_law_state") (PySem.Str.ofString "_law_state") (L2.defArgs (topO 47)) (L2.defBody (topO 47)) (L2.defScope (topO 47)) .none .none .none (.str s92 907) none (r 607) .none), #[]⟩ := by rw [← top_eq]; kernel_rfl
theorem lk__law_low (P : Params) : (K P).lookup 615 = some ⟨(.type SL.s7174869446012820540x8), none, .func (fnOf (PySem.Str.ofString "_law_low") (PySem.Str.ofString "_law_low") (L2.defArgs (topO 48)) (L2.defBody (topO 48)) (L2.defScope (topO 48)) .none .none .none (.str s92 907) none (r 614) .none), #[]⟩ := by rw [← top_eq]; kernel_rfl
theorem lk__law_plus (P : Params) : (K P).lookup 622 = some ⟨(.type SL.s7174869446012820540x8), none, .func (fnOf (PySem.Str.ofString "_law_plus") (PySem.Str.ofString "_law_plus") (L2.defArgs (topO 49)) (L2.defBody (topO 49)) (L2.defScope (topO 49)) .none .none .none (.str s92 907) none (r 621) .none), #[]⟩ := by rw [← top_eq]; kernel_rfl
theorem lk__law_times (P : Params) : (K P).lookup 629 = some ⟨(.type SL.s7174869446012820540x8), none, .func (fnOf (PySem.Str.ofString "_law_times") (PySem.Str.ofString "_law_times") (L2.defArgs (topO 50)) (L2.defBody (topO 50)) (L2.defScope (topO 50)) .none .none .none (.str s92 907) none (r 628) .none), #[]⟩ := by rw [← top_eq]; kernel_rfl
theorem lk__law_nought (P : Params) : (K P).lookup 636 = some ⟨(.type SL.s7174869446012820540x8), none, .func (fnOf (PySem.Str.ofString "_law_nought") (PySem.Str.ofString "_law_nought") (L2.defArgs (topO 51)) (L2.defBody (topO 51)) (L2.defScope (topO 51)) .none .none .none (.str s92 907) none (r 635) .none), #[]⟩ := by rw [← top_eq]; kernel_rfl
theorem lk__law_sort (P : Params) : (K P).lookup 643 = some ⟨(.type SL.s7174869446012820540x8), none, .func (fnOf (PySem.Str.ofString "_law_sort") (PySem.Str.ofString "_law_sort") (L2.defArgs (topO 52)) (L2.defBody (topO 52)) (L2.defScope (topO 52)) .none .none .none (.str s92 907) none (r 642) .none), #[]⟩ := by rw [← top_eq]; kernel_rfl
theorem lk__law_kind (P : Params) : (K P).lookup 650 = some ⟨(.type SL.s7174869446012820540x8), none, .func (fnOf (PySem.Str.ofString "_law_kind") (PySem.Str.ofString "_law_kind") (L2.defArgs (topO 53)) (L2.defBody (topO 53)) (L2.defScope (topO 53)) .none .none .none (.str s92 907) none (r 649) .none), #[]⟩ := by rw [← top_eq]; kernel_rfl
theorem lk__law_weight (P : Params) : (K P).lookup 657 = some ⟨(.type SL.s7174869446012820540x8), none, .func (fnOf (PySem.Str.ofString "_law_weight") (PySem.Str.ofString "_law_weight") (L2.defArgs (topO 54)) (L2.defBody (topO 54)) (L2.defScope (topO 54)) .none .none .none (.str s92 907) none (r 656) .none), #[]⟩ := by rw [← top_eq]; kernel_rfl
theorem lk__law_letters (P : Params) : (K P).lookup 664 = some ⟨(.type SL.s7174869446012820540x8), none, .func (fnOf (PySem.Str.ofString "_law_letters") (PySem.Str.ofString "_law_letters") (L2.defArgs (topO 55)) (L2.defBody (topO 55)) (L2.defScope (topO 55)) .none .none .none (.str s92 907) none (r 663) .none), #[]⟩ := by rw [← top_eq]; kernel_rfl
theorem lk__law_dot (P : Params) : (K P).lookup 671 = some ⟨(.type SL.s7174869446012820540x8), none, .func (fnOf (PySem.Str.ofString "_law_dot") (PySem.Str.ofString "_law_dot") (L2.defArgs (topO 56)) (L2.defBody (topO 56)) (L2.defScope (topO 56)) .none .none .none (.str s92 907) none (r 670) .none), #[]⟩ := by rw [← top_eq]; kernel_rfl
theorem lk__law_step (P : Params) : (K P).lookup 676 = some ⟨(.type SL.s7174869446012820540x8), none, .func (fnOf (PySem.Str.ofString "_law_step") (PySem.Str.ofString "_law_step") (L2.defArgs (topO 57)) (L2.defBody (topO 57)) (L2.defScope (topO 57)) .none .none .none (.str s92 907) none (r 675) .none), #[]⟩ := by rw [← top_eq]; kernel_rfl
theorem lk__law_weigh (P : Params) : (K P).lookup 683 = some ⟨(.type SL.s7174869446012820540x8), none, .func (fnOf (PySem.Str.ofString "_law_weigh") (PySem.Str.ofString "_law_weigh") (L2.defArgs (topO 58)) (L2.defBody (topO 58)) (L2.defScope (topO 58)) .none .none .none (.str s92 907) none (r 682) .none), #[]⟩ := by rw [← top_eq]; kernel_rfl
theorem lk__law_words (P : Params) : (K P).lookup 690 = some ⟨(.type SL.s7174869446012820540x8), none, .func (fnOf (PySem.Str.ofString "_law_words") (PySem.Str.ofString "_law_words") (L2.defArgs (topO 59)) (L2.defBody (topO 59)) (L2.defScope (topO 59)) .none .none .none (.str s92 907) none (r 689) .none), #[]⟩ := by rw [← top_eq]; kernel_rfl
theorem lk__law_same (P : Params) : (K P).lookup 697 = some ⟨(.type SL.s7174869446012820540x8), none, .func (fnOf (PySem.Str.ofString "_law_same") (PySem.Str.ofString "_law_same") (L2.defArgs (topO 60)) (L2.defBody (topO 60)) (L2.defScope (topO 60)) .none .none .none (.str s92 907) none (r 696) .none), #[]⟩ := by rw [← top_eq]; kernel_rfl
theorem lk__law_near (P : Params) : (K P).lookup 704 = some ⟨(.type SL.s7174869446012820540x8), none, .func (fnOf (PySem.Str.ofString "_law_near") (PySem.Str.ofString "_law_near") (L2.defArgs (topO 61)) (L2.defBody (topO 61)) (L2.defScope (topO 61)) .none .none .none (.str s92 907) none (r 703) .none), #[]⟩ := by rw [← top_eq]; kernel_rfl
theorem lk_law (P : Params) : (K P).lookup 709 = some ⟨(.type SL.s7174869446012820540x8), none, .func (fnOf (PySem.Str.ofString "law") (PySem.Str.ofString "law") (L2.defArgs (topO 62)) (L2.defBody (topO 62)) (L2.defScope (topO 62)) .none .none .none (.str s92 907) none (r 708) .none), #[]⟩ := by rw [← top_eq]; kernel_rfl
end
end H26

set_option maxHeartbeats 4000000
namespace K26
open PySem L2 Mine PyProof.Rows PySem.SeqAt
abbrev Pr : Program := PySem.Challenge.pw_weighwalk_k26_single
theorem tree0 : Pr.given.tree = none := rfl
def top (i : Nat) : Stmt := PySem.Challenge.pw_weighwalk_k26_single.main.body.getD i (.Pass ⟨0, 0, 0, 0⟩)
abbrev s_is_whole : Stmt := top 27
abbrev s_divisor : Stmt := top 28
abbrev s_fraction : Stmt := top 29
abbrev s_is_prime : Stmt := top 30
abbrev s_Fractions_nought : Stmt := inClass (top 41) 1
abbrev s_Fractions_one : Stmt := inClass (top 41) 2
abbrev s_Fractions_times : Stmt := inClass (top 41) 4
abbrev s_Fractions_is_weight : Stmt := inClass (top 41) 7
abbrev s_Residues___init__ : Stmt := inClass (top 42) 0
abbrev s_Residues_nought : Stmt := inClass (top 42) 2
abbrev s_Residues_one : Stmt := inClass (top 42) 3
abbrev s_Residues_times : Stmt := inClass (top 42) 5
abbrev s_Residues_is_weight : Stmt := inClass (top 42) 8
abbrev s_Costs_nought : Stmt := inClass (top 43) 1
abbrev s_Costs_one : Stmt := inClass (top 43) 2
abbrev s_Costs_times : Stmt := inClass (top 43) 4
abbrev s_Costs_is_weight : Stmt := inClass (top 43) 5
abbrev s_Truths_nought : Stmt := inClass (top 44) 1
abbrev s_Truths_one : Stmt := inClass (top 44) 2
abbrev s_Truths_times : Stmt := inClass (top 44) 4
abbrev s_Truths_is_weight : Stmt := inClass (top 44) 5
abbrev s_noughts : Stmt := top 9
abbrev s_unit : Stmt := top 10
abbrev s_times_row : Stmt := top 11
abbrev s_is_letters : Stmt := top 16
abbrev s_is_word : Stmt := top 17
abbrev s_need_word : Stmt := top 18
abbrev s_is_row : Stmt := top 19
abbrev s_is_table : Stmt := top 20
abbrev s_is_machine : Stmt := top 21
abbrev s_need_few_rooms : Stmt := top 23
abbrev s_single_row : Stmt := top 24
abbrev s_single : Stmt := top 25
abbrev s_law_next : Stmt := top 46
abbrev s_law_state : Stmt := top 47
abbrev s_law_low : Stmt := top 48
abbrev s_law_plus : Stmt := top 49
abbrev s_law_times : Stmt := top 50
abbrev s_law_nought : Stmt := top 51
abbrev s_law_dot : Stmt := top 56
abbrev s_law_sort : Stmt := top 52
abbrev s_law_kind : Stmt := top 53
abbrev s_law_weight : Stmt := top 54
abbrev s_law_letters : Stmt := top 55
abbrev s_law_step : Stmt := top 57
abbrev s_law_weigh : Stmt := top 58
abbrev s_law_words : Stmt := top 59
abbrev s_law_same : Stmt := top 60
abbrev s_law_near : Stmt := top 61
abbrev s_law : Stmt := top 62
theorem sc_is_whole : FnScope ["thing"] ["thing"] (defScope s_is_whole) := ⟨rfl, rfl, rfl, by decide +kernel, rfl, by decide +kernel, by decide +kernel⟩
theorem sc_divisor : FnScope ["one", "other", "greatest", "rest", "left"] ["one", "other"] (defScope s_divisor) := ⟨rfl, rfl, rfl, by decide +kernel, rfl, by decide +kernel, by decide +kernel⟩
theorem sc_fraction : FnScope ["top", "bottom", "shared"] ["top", "bottom"] (defScope s_fraction) := ⟨rfl, rfl, rfl, by decide +kernel, rfl, by decide +kernel, by decide +kernel⟩
theorem sc_is_prime : FnScope ["number", "factor"] ["number"] (defScope s_is_prime) := ⟨rfl, rfl, rfl, by decide +kernel, rfl, by decide +kernel, by decide +kernel⟩
theorem sc_Fractions_nought : FnScope ["self"] ["self"] (defScope s_Fractions_nought) := ⟨rfl, rfl, rfl, by decide +kernel, rfl, by decide +kernel, by decide +kernel⟩
theorem sc_Fractions_one : FnScope ["self"] ["self"] (defScope s_Fractions_one) := ⟨rfl, rfl, rfl, by decide +kernel, rfl, by decide +kernel, by decide +kernel⟩
theorem sc_Fractions_times : FnScope ["self", "x", "y"] ["self", "x", "y"] (defScope s_Fractions_times) := ⟨rfl, rfl, rfl, by decide +kernel, rfl, by decide +kernel, by decide +kernel⟩
theorem sc_Fractions_is_weight : FnScope ["self", "thing"] ["self", "thing"] (defScope s_Fractions_is_weight) := ⟨rfl, rfl, rfl, by decide +kernel, rfl, by decide +kernel, by decide +kernel⟩
theorem sc_Residues___init__ : FnScope ["self", "prime"] ["self", "prime"] (defScope s_Residues___init__) := ⟨rfl, rfl, rfl, by decide +kernel, rfl, by decide +kernel, by decide +kernel⟩
theorem sc_Residues_nought : FnScope ["self"] ["self"] (defScope s_Residues_nought) := ⟨rfl, rfl, rfl, by decide +kernel, rfl, by decide +kernel, by decide +kernel⟩
theorem sc_Residues_one : FnScope ["self"] ["self"] (defScope s_Residues_one) := ⟨rfl, rfl, rfl, by decide +kernel, rfl, by decide +kernel, by decide +kernel⟩
theorem sc_Residues_times : FnScope ["self", "x", "y"] ["self", "x", "y"] (defScope s_Residues_times) := ⟨rfl, rfl, rfl, by decide +kernel, rfl, by decide +kernel, by decide +kernel⟩
theorem sc_Residues_is_weight : FnScope ["self", "thing"] ["self", "thing"] (defScope s_Residues_is_weight) := ⟨rfl, rfl, rfl, by decide +kernel, rfl, by decide +kernel, by decide +kernel⟩
theorem sc_Costs_nought : FnScope ["self"] ["self"] (defScope s_Costs_nought) := ⟨rfl, rfl, rfl, by decide +kernel, rfl, by decide +kernel, by decide +kernel⟩
theorem sc_Costs_one : FnScope ["self"] ["self"] (defScope s_Costs_one) := ⟨rfl, rfl, rfl, by decide +kernel, rfl, by decide +kernel, by decide +kernel⟩
theorem sc_Costs_times : FnScope ["self", "x", "y"] ["self", "x", "y"] (defScope s_Costs_times) := ⟨rfl, rfl, rfl, by decide +kernel, rfl, by decide +kernel, by decide +kernel⟩
theorem sc_Costs_is_weight : FnScope ["self", "thing"] ["self", "thing"] (defScope s_Costs_is_weight) := ⟨rfl, rfl, rfl, by decide +kernel, rfl, by decide +kernel, by decide +kernel⟩
theorem sc_Truths_nought : FnScope ["self"] ["self"] (defScope s_Truths_nought) := ⟨rfl, rfl, rfl, by decide +kernel, rfl, by decide +kernel, by decide +kernel⟩
theorem sc_Truths_one : FnScope ["self"] ["self"] (defScope s_Truths_one) := ⟨rfl, rfl, rfl, by decide +kernel, rfl, by decide +kernel, by decide +kernel⟩
theorem sc_Truths_times : FnScope ["self", "x", "y"] ["self", "x", "y"] (defScope s_Truths_times) := ⟨rfl, rfl, rfl, by decide +kernel, rfl, by decide +kernel, by decide +kernel⟩
theorem sc_Truths_is_weight : FnScope ["self", "thing"] ["self", "thing"] (defScope s_Truths_is_weight) := ⟨rfl, rfl, rfl, by decide +kernel, rfl, by decide +kernel, by decide +kernel⟩
theorem sc_noughts : FnScope ["kind", "size"] ["kind", "size"] (defScope s_noughts) := ⟨rfl, rfl, rfl, by decide +kernel, rfl, by decide +kernel, by decide +kernel⟩
theorem sc_unit : FnScope ["kind", "size", "place"] ["kind", "size", "place"] (defScope s_unit) := ⟨rfl, rfl, rfl, by decide +kernel, rfl, by decide +kernel, by decide +kernel⟩
theorem sc_times_row : FnScope ["kind", "by", "row"] ["kind", "by", "row"] (defScope s_times_row) := ⟨rfl, rfl, rfl, by decide +kernel, rfl, by decide +kernel, by decide +kernel⟩
theorem sc_is_letters : FnScope ["thing"] ["thing"] (defScope s_is_letters) := ⟨rfl, rfl, rfl, by decide +kernel, rfl, by decide +kernel, by decide +kernel⟩
theorem sc_is_word : FnScope ["letters", "thing"] ["letters", "thing"] (defScope s_is_word) := ⟨rfl, rfl, rfl, by decide +kernel, rfl, by decide +kernel, by decide +kernel⟩
theorem sc_need_word : FnScope ["letters", "thing"] ["letters", "thing"] (defScope s_need_word) := ⟨rfl, rfl, rfl, by decide +kernel, rfl, by decide +kernel, by decide +kernel⟩
theorem sc_is_row : FnScope ["kind", "size", "thing"] ["kind", "size", "thing"] (defScope s_is_row) := ⟨rfl, rfl, rfl, by decide +kernel, rfl, by decide +kernel, by decide +kernel⟩
theorem sc_is_table : FnScope ["kind", "size", "thing"] ["kind", "size", "thing"] (defScope s_is_table) := ⟨rfl, rfl, rfl, by decide +kernel, rfl, by decide +kernel, by decide +kernel⟩
theorem sc_is_machine : FnScope ["kind", "thing", "start", "tables", "size"] ["kind", "thing"] (defScope s_is_machine) := ⟨rfl, rfl, rfl, by decide +kernel, rfl, by decide +kernel, by decide +kernel⟩
theorem sc_need_few_rooms : FnScope ["count"] ["count"] (defScope s_need_few_rooms) := ⟨rfl, rfl, rfl, by decide +kernel, rfl, by decide +kernel, by decide +kernel⟩
theorem sc_single_row : FnScope ["kind", "letter", "word", "place"] ["kind", "letter", "word", "place"] (defScope s_single_row) := ⟨rfl, rfl, rfl, by decide +kernel, rfl, by decide +kernel, by decide +kernel⟩
theorem sc_single : FnScope ["kind", "letters", "word", "by", "size", "tables", "letter", "start"] ["kind", "letters", "word", "by"] (defScope s_single) := ⟨rfl, rfl, rfl, by decide +kernel, rfl, by decide +kernel, by decide +kernel⟩
theorem sc_law_next : FnScope ["_law_state_here", "_law_many", "_law_found"] ["_law_state_here", "_law_many"] (defScope s_law_next) := ⟨rfl, rfl, rfl, by decide +kernel, rfl, by decide +kernel, by decide +kernel⟩
theorem sc_law_state : FnScope ["_law_script", "_law_seed", "_law_cell"] ["_law_script"] (defScope s_law_state) := ⟨rfl, rfl, rfl, by decide +kernel, rfl, by decide +kernel, by decide +kernel⟩
theorem sc_law_low : FnScope ["_law_top", "_law_bottom", "_law_one", "_law_by"] ["_law_top", "_law_bottom"] (defScope s_law_low) := ⟨rfl, rfl, rfl, by decide +kernel, rfl, by decide +kernel, by decide +kernel⟩
theorem sc_law_plus : FnScope ["_law_sort_here", "_law_x", "_law_y"] ["_law_sort_here", "_law_x", "_law_y"] (defScope s_law_plus) := ⟨rfl, rfl, rfl, by decide +kernel, rfl, by decide +kernel, by decide +kernel⟩
theorem sc_law_times : FnScope ["_law_sort_here", "_law_x", "_law_y"] ["_law_sort_here", "_law_x", "_law_y"] (defScope s_law_times) := ⟨rfl, rfl, rfl, by decide +kernel, rfl, by decide +kernel, by decide +kernel⟩
theorem sc_law_nought : FnScope ["_law_sort_here"] ["_law_sort_here"] (defScope s_law_nought) := ⟨rfl, rfl, rfl, by decide +kernel, rfl, by decide +kernel, by decide +kernel⟩
theorem sc_law_dot : FnScope ["_law_sort_here", "_law_row", "_law_column", "_law_total", "_law_x", "_law_y"] ["_law_sort_here", "_law_row", "_law_column"] (defScope s_law_dot) := ⟨rfl, rfl, rfl, by decide +kernel, rfl, by decide +kernel, by decide +kernel⟩
theorem sc_law_sort : FnScope ["_law_state_here", "_law_way", "_law_prime"] ["_law_state_here", "_law_way"] (defScope s_law_sort) := ⟨rfl, rfl, rfl, by decide +kernel, rfl, by decide +kernel, by decide +kernel⟩
theorem sc_law_kind : FnScope ["_law_sort_here"] ["_law_sort_here"] (defScope s_law_kind) := ⟨rfl, rfl, rfl, by decide +kernel, rfl, by decide +kernel, by decide +kernel⟩
theorem sc_law_weight : FnScope ["_law_state_here", "_law_sort_here", "_law_great", "_law_far"] ["_law_state_here", "_law_sort_here", "_law_great"] (defScope s_law_weight) := ⟨rfl, rfl, rfl, by decide +kernel, rfl, by decide +kernel, by decide +kernel⟩
theorem sc_law_letters : FnScope ["_law_state_here", "_law_pool", "_law_letters_here", "_law_k", "_law_at"] ["_law_state_here"] (defScope s_law_letters) := ⟨rfl, rfl, rfl, by decide +kernel, rfl, by decide +kernel, by decide +kernel⟩
theorem sc_law_step : FnScope ["_law_sort_here", "_law_row", "_law_table", "_law_found", "_law_k"] ["_law_sort_here", "_law_row", "_law_table"] (defScope s_law_step) := ⟨rfl, rfl, rfl, by decide +kernel, rfl, by decide +kernel, by decide +kernel⟩
theorem sc_law_weigh : FnScope ["_law_sort_here", "_law_machine", "_law_word", "_law_row", "_law_letter"] ["_law_sort_here", "_law_machine", "_law_word"] (defScope s_law_weigh) := ⟨rfl, rfl, rfl, by decide +kernel, rfl, by decide +kernel, by decide +kernel⟩
theorem sc_law_words : FnScope ["_law_letters_here", "_law_most", "_law_found", "_law_level", "_law_k", "_law_grown", "_law_word", "_law_letter"] ["_law_letters_here", "_law_most"] (defScope s_law_words) := ⟨rfl, rfl, rfl, by decide +kernel, rfl, by decide +kernel, by decide +kernel⟩
theorem sc_law_same : FnScope ["_law_sort_here", "_law_found", "_law_due"] ["_law_sort_here", "_law_found", "_law_due"] (defScope s_law_same) := ⟨rfl, rfl, rfl, by decide +kernel, rfl, by decide +kernel, by decide +kernel⟩
theorem sc_law_near : FnScope ["_law_letters_here", "_law_word", "_law_near_here", "_law_at", "_law_other", "_law_letter"] ["_law_letters_here", "_law_word"] (defScope s_law_near) := ⟨rfl, rfl, rfl, by decide +kernel, rfl, by decide +kernel, by decide +kernel⟩
theorem sc_law : FnScope ["_law_script", "_law_state_here", "_law_sort_here", "_law_kind_here", "_law_letters_here", "_law_by", "_law_word", "_law_cell", "_law_found", "_law_near_here", "_law_start", "_law_other"] ["_law_script"] (defScope s_law) := ⟨rfl, rfl, rfl, by decide +kernel, rfl, by decide +kernel, by decide +kernel⟩
def sp_whole : Sp := fun vs H Q _ => ∃ i, vs = [.int i] ∧ Q (.bl true) H
def sp_divisor : Sp := fun vs H Q _ => ∃ a b, vs = [.int a, .int b] ∧ Q (.int (dv a b)) H
def sp_fraction : Sp := fun vs H Q _ => ∃ a b, vs = [.int a, .int b] ∧ 0 < b ∧ ∀ v H', Same H H' → IsF H' v (tp a b) (bt a b) → Q v H'
def sp_prime : Sp := fun vs H Q _ => ∃ n, vs = [.int n] ∧ (2 ≤ n ∧ n ≤ 1000000 ∧ isP n = true) ∧ Q (.bl true) H
def sp_init (C : Addr) : Sp := fun vs H Q _ => ∃ x dx n, vs = [.ref x, .int n] ∧ (2 ≤ n ∧ n ≤ 1000000 ∧ isP n = true) ∧ H x = some (.ins C dx []) ∧ Q .non (upd H x (.ins C dx (pfs n)))
structure Adr where
  is_whole : Addr
  d_is_whole : FuncData
  divisor : Addr
  d_divisor : FuncData
  fraction : Addr
  d_fraction : FuncData
  is_prime : Addr
  d_is_prime : FuncData
  Fractions_nought : Addr
  d_Fractions_nought : FuncData
  Fractions_one : Addr
  d_Fractions_one : FuncData
  Fractions_times : Addr
  d_Fractions_times : FuncData
  Fractions_is_weight : Addr
  d_Fractions_is_weight : FuncData
  Residues___init__ : Addr
  d_Residues___init__ : FuncData
  Residues_nought : Addr
  d_Residues_nought : FuncData
  Residues_one : Addr
  d_Residues_one : FuncData
  Residues_times : Addr
  d_Residues_times : FuncData
  Residues_is_weight : Addr
  d_Residues_is_weight : FuncData
  Costs_nought : Addr
  d_Costs_nought : FuncData
  Costs_one : Addr
  d_Costs_one : FuncData
  Costs_times : Addr
  d_Costs_times : FuncData
  Costs_is_weight : Addr
  d_Costs_is_weight : FuncData
  Truths_nought : Addr
  d_Truths_nought : FuncData
  Truths_one : Addr
  d_Truths_one : FuncData
  Truths_times : Addr
  d_Truths_times : FuncData
  Truths_is_weight : Addr
  d_Truths_is_weight : FuncData
  noughts : Addr
  d_noughts : FuncData
  unit : Addr
  d_unit : FuncData
  times_row : Addr
  d_times_row : FuncData
  is_letters : Addr
  d_is_letters : FuncData
  is_word : Addr
  d_is_word : FuncData
  need_word : Addr
  d_need_word : FuncData
  is_row : Addr
  d_is_row : FuncData
  is_table : Addr
  d_is_table : FuncData
  is_machine : Addr
  d_is_machine : FuncData
  need_few_rooms : Addr
  d_need_few_rooms : FuncData
  single_row : Addr
  d_single_row : FuncData
  single : Addr
  d_single : FuncData
  law_next : Addr
  d_law_next : FuncData
  law_state : Addr
  d_law_state : FuncData
  law_low : Addr
  d_law_low : FuncData
  law_plus : Addr
  d_law_plus : FuncData
  law_times : Addr
  d_law_times : FuncData
  law_nought : Addr
  d_law_nought : FuncData
  law_dot : Addr
  d_law_dot : FuncData
  law_sort : Addr
  d_law_sort : FuncData
  law_kind : Addr
  d_law_kind : FuncData
  law_weight : Addr
  d_law_weight : FuncData
  law_letters : Addr
  d_law_letters : FuncData
  law_step : Addr
  d_law_step : FuncData
  law_weigh : Addr
  d_law_weigh : FuncData
  law_words : Addr
  d_law_words : FuncData
  law_same : Addr
  d_law_same : FuncData
  law_near : Addr
  d_law_near : FuncData
  law : Addr
  d_law : FuncData
  Fractions : Addr
  Residues : Addr
  Costs : Addr
  Truths : Addr
structure Txt (K : PySem.W.Frag) (mg : Str → Option Value) (t : Adr) : Prop where
  F_is_whole : Fun K "is_whole" "is_whole" s_is_whole t.is_whole t.d_is_whole
  b_is_whole : Binds K t.d_is_whole ["thing"] []
  m_is_whole : mg "is_whole" = some (.ref t.is_whole)
  F_divisor : Fun K "divisor" "divisor" s_divisor t.divisor t.d_divisor
  b_divisor : Binds K t.d_divisor ["one", "other"] []
  m_divisor : mg "divisor" = some (.ref t.divisor)
  F_fraction : Fun K "fraction" "fraction" s_fraction t.fraction t.d_fraction
  b_fraction : Binds K t.d_fraction ["top", "bottom"] []
  m_fraction : mg "fraction" = some (.ref t.fraction)
  F_is_prime : Fun K "is_prime" "is_prime" s_is_prime t.is_prime t.d_is_prime
  b_is_prime : Binds K t.d_is_prime ["number"] []
  m_is_prime : mg "is_prime" = some (.ref t.is_prime)
  F_Fractions_nought : Fun K "nought" "Fractions.nought" s_Fractions_nought t.Fractions_nought t.d_Fractions_nought
  b_Fractions_nought : Binds K t.d_Fractions_nought ["self"] []
  t_Fractions_nought : Meth K t.Fractions "nought" t.Fractions_nought
  F_Fractions_one : Fun K "one" "Fractions.one" s_Fractions_one t.Fractions_one t.d_Fractions_one
  b_Fractions_one : Binds K t.d_Fractions_one ["self"] []
  t_Fractions_one : Meth K t.Fractions "one" t.Fractions_one
  F_Fractions_times : Fun K "times" "Fractions.times" s_Fractions_times t.Fractions_times t.d_Fractions_times
  b_Fractions_times : Binds K t.d_Fractions_times ["self", "x", "y"] []
  t_Fractions_times : Meth K t.Fractions "times" t.Fractions_times
  F_Fractions_is_weight : Fun K "is_weight" "Fractions.is_weight" s_Fractions_is_weight t.Fractions_is_weight t.d_Fractions_is_weight
  b_Fractions_is_weight : Binds K t.d_Fractions_is_weight ["self", "thing"] []
  t_Fractions_is_weight : Meth K t.Fractions "is_weight" t.Fractions_is_weight
  F_Residues___init__ : Fun K "__init__" "Residues.__init__" s_Residues___init__ t.Residues___init__ t.d_Residues___init__
  b_Residues___init__ : Binds K t.d_Residues___init__ ["self", "prime"] []
  t_Residues___init__ : Meth K t.Residues "__init__" t.Residues___init__
  F_Residues_nought : Fun K "nought" "Residues.nought" s_Residues_nought t.Residues_nought t.d_Residues_nought
  b_Residues_nought : Binds K t.d_Residues_nought ["self"] []
  t_Residues_nought : Meth K t.Residues "nought" t.Residues_nought
  F_Residues_one : Fun K "one" "Residues.one" s_Residues_one t.Residues_one t.d_Residues_one
  b_Residues_one : Binds K t.d_Residues_one ["self"] []
  t_Residues_one : Meth K t.Residues "one" t.Residues_one
  F_Residues_times : Fun K "times" "Residues.times" s_Residues_times t.Residues_times t.d_Residues_times
  b_Residues_times : Binds K t.d_Residues_times ["self", "x", "y"] []
  t_Residues_times : Meth K t.Residues "times" t.Residues_times
  F_Residues_is_weight : Fun K "is_weight" "Residues.is_weight" s_Residues_is_weight t.Residues_is_weight t.d_Residues_is_weight
  b_Residues_is_weight : Binds K t.d_Residues_is_weight ["self", "thing"] []
  t_Residues_is_weight : Meth K t.Residues "is_weight" t.Residues_is_weight
  F_Costs_nought : Fun K "nought" "Costs.nought" s_Costs_nought t.Costs_nought t.d_Costs_nought
  b_Costs_nought : Binds K t.d_Costs_nought ["self"] []
  t_Costs_nought : Meth K t.Costs "nought" t.Costs_nought
  F_Costs_one : Fun K "one" "Costs.one" s_Costs_one t.Costs_one t.d_Costs_one
  b_Costs_one : Binds K t.d_Costs_one ["self"] []
  t_Costs_one : Meth K t.Costs "one" t.Costs_one
  F_Costs_times : Fun K "times" "Costs.times" s_Costs_times t.Costs_times t.d_Costs_times
  b_Costs_times : Binds K t.d_Costs_times ["self", "x", "y"] []
  t_Costs_times : Meth K t.Costs "times" t.Costs_times
  F_Costs_is_weight : Fun K "is_weight" "Costs.is_weight" s_Costs_is_weight t.Costs_is_weight t.d_Costs_is_weight
  b_Costs_is_weight : Binds K t.d_Costs_is_weight ["self", "thing"] []
  t_Costs_is_weight : Meth K t.Costs "is_weight" t.Costs_is_weight
  F_Truths_nought : Fun K "nought" "Truths.nought" s_Truths_nought t.Truths_nought t.d_Truths_nought
  b_Truths_nought : Binds K t.d_Truths_nought ["self"] []
  t_Truths_nought : Meth K t.Truths "nought" t.Truths_nought
  F_Truths_one : Fun K "one" "Truths.one" s_Truths_one t.Truths_one t.d_Truths_one
  b_Truths_one : Binds K t.d_Truths_one ["self"] []
  t_Truths_one : Meth K t.Truths "one" t.Truths_one
  F_Truths_times : Fun K "times" "Truths.times" s_Truths_times t.Truths_times t.d_Truths_times
  b_Truths_times : Binds K t.d_Truths_times ["self", "x", "y"] []
  t_Truths_times : Meth K t.Truths "times" t.Truths_times
  F_Truths_is_weight : Fun K "is_weight" "Truths.is_weight" s_Truths_is_weight t.Truths_is_weight t.d_Truths_is_weight
  b_Truths_is_weight : Binds K t.d_Truths_is_weight ["self", "thing"] []
  t_Truths_is_weight : Meth K t.Truths "is_weight" t.Truths_is_weight
  F_noughts : Fun K "noughts" "noughts" s_noughts t.noughts t.d_noughts
  b_noughts : Binds K t.d_noughts ["kind", "size"] []
  m_noughts : mg "noughts" = some (.ref t.noughts)
  F_unit : Fun K "unit" "unit" s_unit t.unit t.d_unit
  b_unit : Binds K t.d_unit ["kind", "size", "place"] []
  m_unit : mg "unit" = some (.ref t.unit)
  F_times_row : Fun K "times_row" "times_row" s_times_row t.times_row t.d_times_row
  b_times_row : Binds K t.d_times_row ["kind", "by", "row"] []
  m_times_row : mg "times_row" = some (.ref t.times_row)
  F_is_letters : Fun K "is_letters" "is_letters" s_is_letters t.is_letters t.d_is_letters
  b_is_letters : Binds K t.d_is_letters ["thing"] []
  m_is_letters : mg "is_letters" = some (.ref t.is_letters)
  F_is_word : Fun K "is_word" "is_word" s_is_word t.is_word t.d_is_word
  b_is_word : Binds K t.d_is_word ["letters", "thing"] []
  m_is_word : mg "is_word" = some (.ref t.is_word)
  F_need_word : Fun K "need_word" "need_word" s_need_word t.need_word t.d_need_word
  b_need_word : Binds K t.d_need_word ["letters", "thing"] []
  m_need_word : mg "need_word" = some (.ref t.need_word)
  F_is_row : Fun K "is_row" "is_row" s_is_row t.is_row t.d_is_row
  b_is_row : Binds K t.d_is_row ["kind", "size", "thing"] []
  m_is_row : mg "is_row" = some (.ref t.is_row)
  F_is_table : Fun K "is_table" "is_table" s_is_table t.is_table t.d_is_table
  b_is_table : Binds K t.d_is_table ["kind", "size", "thing"] []
  m_is_table : mg "is_table" = some (.ref t.is_table)
  F_is_machine : Fun K "is_machine" "is_machine" s_is_machine t.is_machine t.d_is_machine
  b_is_machine : Binds K t.d_is_machine ["kind", "thing"] []
  m_is_machine : mg "is_machine" = some (.ref t.is_machine)
  F_need_few_rooms : Fun K "need_few_rooms" "need_few_rooms" s_need_few_rooms t.need_few_rooms t.d_need_few_rooms
  b_need_few_rooms : Binds K t.d_need_few_rooms ["count"] []
  m_need_few_rooms : mg "need_few_rooms" = some (.ref t.need_few_rooms)
  F_single_row : Fun K "single_row" "single_row" s_single_row t.single_row t.d_single_row
  b_single_row : Binds K t.d_single_row ["kind", "letter", "word", "place"] []
  m_single_row : mg "single_row" = some (.ref t.single_row)
  F_single : Fun K "single" "single" s_single t.single t.d_single
  b_single : Binds K t.d_single ["kind", "letters", "word", "by"] []
  m_single : mg "single" = some (.ref t.single)
  F_law_next : Fun K "_law_next" "_law_next" s_law_next t.law_next t.d_law_next
  b_law_next : Binds K t.d_law_next ["_law_state_here", "_law_many"] []
  m_law_next : mg "_law_next" = some (.ref t.law_next)
  F_law_state : Fun K "_law_state" "_law_state" s_law_state t.law_state t.d_law_state
  b_law_state : Binds K t.d_law_state ["_law_script"] []
  m_law_state : mg "_law_state" = some (.ref t.law_state)
  F_law_low : Fun K "_law_low" "_law_low" s_law_low t.law_low t.d_law_low
  b_law_low : Binds K t.d_law_low ["_law_top", "_law_bottom"] []
  m_law_low : mg "_law_low" = some (.ref t.law_low)
  F_law_plus : Fun K "_law_plus" "_law_plus" s_law_plus t.law_plus t.d_law_plus
  b_law_plus : Binds K t.d_law_plus ["_law_sort_here", "_law_x", "_law_y"] []
  m_law_plus : mg "_law_plus" = some (.ref t.law_plus)
  F_law_times : Fun K "_law_times" "_law_times" s_law_times t.law_times t.d_law_times
  b_law_times : Binds K t.d_law_times ["_law_sort_here", "_law_x", "_law_y"] []
  m_law_times : mg "_law_times" = some (.ref t.law_times)
  F_law_nought : Fun K "_law_nought" "_law_nought" s_law_nought t.law_nought t.d_law_nought
  b_law_nought : Binds K t.d_law_nought ["_law_sort_here"] []
  m_law_nought : mg "_law_nought" = some (.ref t.law_nought)
  F_law_dot : Fun K "_law_dot" "_law_dot" s_law_dot t.law_dot t.d_law_dot
  b_law_dot : Binds K t.d_law_dot ["_law_sort_here", "_law_row", "_law_column"] []
  m_law_dot : mg "_law_dot" = some (.ref t.law_dot)
  F_law_sort : Fun K "_law_sort" "_law_sort" s_law_sort t.law_sort t.d_law_sort
  b_law_sort : Binds K t.d_law_sort ["_law_state_here", "_law_way"] []
  m_law_sort : mg "_law_sort" = some (.ref t.law_sort)
  F_law_kind : Fun K "_law_kind" "_law_kind" s_law_kind t.law_kind t.d_law_kind
  b_law_kind : Binds K t.d_law_kind ["_law_sort_here"] []
  m_law_kind : mg "_law_kind" = some (.ref t.law_kind)
  F_law_weight : Fun K "_law_weight" "_law_weight" s_law_weight t.law_weight t.d_law_weight
  b_law_weight : Binds K t.d_law_weight ["_law_state_here", "_law_sort_here", "_law_great"] []
  m_law_weight : mg "_law_weight" = some (.ref t.law_weight)
  F_law_letters : Fun K "_law_letters" "_law_letters" s_law_letters t.law_letters t.d_law_letters
  b_law_letters : Binds K t.d_law_letters ["_law_state_here"] []
  m_law_letters : mg "_law_letters" = some (.ref t.law_letters)
  F_law_step : Fun K "_law_step" "_law_step" s_law_step t.law_step t.d_law_step
  b_law_step : Binds K t.d_law_step ["_law_sort_here", "_law_row", "_law_table"] []
  m_law_step : mg "_law_step" = some (.ref t.law_step)
  F_law_weigh : Fun K "_law_weigh" "_law_weigh" s_law_weigh t.law_weigh t.d_law_weigh
  b_law_weigh : Binds K t.d_law_weigh ["_law_sort_here", "_law_machine", "_law_word"] []
  m_law_weigh : mg "_law_weigh" = some (.ref t.law_weigh)
  F_law_words : Fun K "_law_words" "_law_words" s_law_words t.law_words t.d_law_words
  b_law_words : Binds K t.d_law_words ["_law_letters_here", "_law_most"] []
  m_law_words : mg "_law_words" = some (.ref t.law_words)
  F_law_same : Fun K "_law_same" "_law_same" s_law_same t.law_same t.d_law_same
  b_law_same : Binds K t.d_law_same ["_law_sort_here", "_law_found", "_law_due"] []
  m_law_same : mg "_law_same" = some (.ref t.law_same)
  F_law_near : Fun K "_law_near" "_law_near" s_law_near t.law_near t.d_law_near
  b_law_near : Binds K t.d_law_near ["_law_letters_here", "_law_word"] []
  m_law_near : mg "_law_near" = some (.ref t.law_near)
  F_law : Fun K "law" "law" s_law t.law t.d_law
  b_law : Binds K t.d_law ["_law_script"] []
  m_law : mg "law" = some (.ref t.law)
  C_Fractions : Cls K t.Fractions
  m_Fractions : mg "Fractions" = some (.ref t.Fractions)
  M_Fractions : MkO K t.Fractions
  C_Residues : Cls K t.Residues
  m_Residues : mg "Residues" = some (.ref t.Residues)
  M_Residues : Mk K t.Residues t.Residues___init__
  C_Costs : Cls K t.Costs
  m_Costs : mg "Costs" = some (.ref t.Costs)
  M_Costs : MkO K t.Costs
  C_Truths : Cls K t.Truths
  m_Truths : mg "Truths" = some (.ref t.Truths)
  M_Truths : MkO K t.Truths
  z_isinstance : mg "isinstance" = none
  z_int : mg "int" = none
  z_bool : mg "bool" = none
  z_abs : mg "abs" = none
  z_tuple : mg "tuple" = none
  z_len : mg "len" = none
  c_GREATEST_PRIME : ∃ tk, mg "GREATEST_PRIME" = some (Value.int 1000000 tk)
  z_range : mg "range" = none
  z_str : mg "str" = none
  c_MOST_LETTERS : ∃ tk, mg "MOST_LETTERS" = some (Value.int 3 tk)
  z_set : mg "set" = none
  z_all : mg "all" = none
  c_SMALL_LETTERS : ∃ tk, mg "SMALL_LETTERS" = some (Value.str "abcdefghijklmnopqrstuvwxyz" tk)
  c_MOST_ROOMS : ∃ tk, mg "MOST_ROOMS" = some (Value.int 20 tk)
  z_zip : mg "zip" = none
  k_ii : PySem.W.kitOne K (.type "int") (.type "int") = some true
  k_ib : PySem.W.kitOne K (.type "int") (.type "bool") = some false
  k_tt : PySem.W.kitOne K (.type "tuple") (.type "tuple") = some true
  k_bb : PySem.W.kitOne K (.type "bool") (.type "bool") = some true
  nP : NoAttr K t.Residues "prime"
  k_ss : PySem.W.kitOne K (.type "str") (.type "str") = some true
seal L2.PSs L2.PS L2.PE L2.PT L2.PW L2.PA L2.PG L2.PGs L2.PI
section
variable {w : World} {K : PySem.W.Frag} {mg : Str → Option Value} {base : Heap} {t : Adr}
theorem ok_is_whole (T : Txt K mg t) : FnOk Pr w K mg base CX0 1 t.is_whole t.d_is_whole ["thing"] sp_whole := by
  refine T.F_is_whole.ok sc_is_whole (fun vs H Q E h => ?_) (fun cdv A outer s H vs Q E hr h => ?_)
  · obtain ⟨i, rfl, _⟩ := h
    rfl
  · obtain ⟨i, rfl, k⟩ := h
    refine ⟨_, (pss_one (ps_ret (pe_and (pe_callB call_isi (by rfl) T.z_isinstance boot_isinstance (pa_cons (pv 0) (pa_cons (pe_bltn (v := .ty "int") rfl T.z_int boot_int rfl) pa_nil))) (pe_one (pe_not (pe_callB call_isi (by rfl) T.z_isinstance boot_isinstance (pa_cons (pv 0) (pa_cons (pe_bltn (v := .ty "bool") rfl T.z_bool boot_bool rfl) pa_nil)))))))), ?_⟩
    (repeat (first | apply Exists.intro | refine And.intro rfl ?_ | refine And.intro (by with_reducible assumption) ?_ | refine And.intro (SqT.of (by assumption)) ?_ | refine And.intro (SqL.of (by assumption)) ?_ | refine And.intro (TyOf.int _) ?_ | refine And.intro (TyOf.tup (by assumption)) ?_ | refine And.intro T.k_ii ?_ | refine And.intro T.k_ib ?_ | refine And.intro T.k_tt ?_ | refine And.intro T.k_bb ?_ | refine And.intro T.nP ?_ | refine And.intro T.k_ss ?_))
    (try refine iteT ?_)
    (repeat (first | apply Exists.intro | refine And.intro rfl ?_ | refine And.intro (by with_reducible assumption) ?_ | refine And.intro (SqT.of (by assumption)) ?_ | refine And.intro (SqL.of (by assumption)) ?_ | refine And.intro (TyOf.int _) ?_ | refine And.intro (TyOf.tup (by assumption)) ?_ | refine And.intro T.k_ii ?_ | refine And.intro T.k_ib ?_ | refine And.intro T.k_tt ?_ | refine And.intro T.k_bb ?_ | refine And.intro T.nP ?_ | refine And.intro T.k_ss ?_))
    exact k
theorem ok_divisor (T : Txt K mg t) : FnOk Pr w K mg base CX0 1 t.divisor t.d_divisor ["one", "other"] sp_divisor := by
  refine T.F_divisor.ok sc_divisor (fun vs H Q E h => ?_) (fun cdv A outer s H vs Q E hr h => ?_)
  · obtain ⟨a, b, rfl, _⟩ := h
    rfl
  · obtain ⟨a, b, rfl, k⟩ := h
    refine ⟨_, (pss_cons (ps_set (i := 2) sc_divisor.nd rfl (Or.inl rfl) (pe_callB call_abs (by rfl) T.z_abs boot_abs (pa_cons (pv 0) pa_nil))) (pss_cons (ps_set (i := 3) sc_divisor.nd rfl (Or.inl rfl) (pe_callB call_abs (by rfl) T.z_abs boot_abs (pa_cons (pv 1) pa_nil))) (pss_cons (ps_while PassesOwn.never (pt_cmpR op_gt (pv 3) pe_int (nomark _)) (pss_cons (ps_set (i := 4) sc_divisor.nd rfl (Or.inl rfl) (pe_op op_modN (pv 2) (pv 3))) (pss_cons (ps_set (i := 2) sc_divisor.nd rfl (Or.inl rfl) (pv 3)) (pss_one (ps_set (i := 3) sc_divisor.nd rfl (Or.inl rfl) (pv 4)))))) (pss_one (ps_ret (pv 2)))))), ?_⟩
    refine ⟨_, rfl, _, rfl, _, rfl, _, rfl, ?_⟩
    refine ⟨fun m σ H' => ∃ g r l, σ = [some (.int a), some (.int b), some (.int g), some (.int r), l] ∧ m = r.toNat ∧ (0 ≤ g ∧ 0 ≤ r ∧ dv g r = dv a b) ∧ H' = H, ⟨_, _, _, _, rfl, rfl, start1 a b, rfl⟩, ?_⟩
    rintro m σ H' ⟨g, r, l, rfl, rfl, ⟨g0, r0, e⟩, rfl⟩
    (repeat (first | apply Exists.intro | refine And.intro rfl ?_ | refine And.intro (by with_reducible assumption) ?_ | refine And.intro (SqT.of (by assumption)) ?_ | refine And.intro (SqL.of (by assumption)) ?_ | refine And.intro (TyOf.int _) ?_ | refine And.intro (TyOf.tup (by assumption)) ?_ | refine And.intro T.k_ii ?_ | refine And.intro T.k_ib ?_ | refine And.intro T.k_tt ?_ | refine And.intro T.k_bb ?_ | refine And.intro T.nP ?_ | refine And.intro T.k_ss ?_))
    refine iteP (fun hr0 => ?_) (fun hr0 => ?_)
    · refine ⟨fun σ' H'' => ∃ g' r' l', σ' = [some (.int a), some (.int b), some (.int g'), some (.int r'), l'] ∧ r'.toNat < r.toNat ∧ (0 ≤ g' ∧ 0 ≤ r' ∧ dv g' r' = dv a b) ∧ H'' = H', fun σ' H'' ⟨g', r', l', e1, e2, e3, e4⟩ => ⟨_, e2, g', r', l', e1, rfl, e3, e4⟩, ?_⟩
      refine ⟨_, rfl, _, rfl, _, _, rfl, rfl, (show r ≠ 0 by omega), _, rfl, _, rfl, ?_⟩
      exact ⟨_, _, _, rfl, d_less hr0, d_turn e hr0, rfl⟩
    · refine ⟨_, rfl, ?_⟩
      (try dsimp only)
      rw [d_out e g0 r0 hr0]
      exact k
theorem fr_is {a b : Int} (pb : 0 < b) : a.fdiv (dv a b) = tp a b ∧ b.fdiv (dv a b) = bt a b := by
  unfold tp bt
  rw [sg_pos (by omega)]
  exact ⟨rfl, rfl⟩
theorem ok_fraction (T : Txt K mg t) : FnOk Pr w K mg base CX0 36 t.fraction t.d_fraction ["top", "bottom"] sp_fraction := by
  refine T.F_fraction.ok sc_fraction (fun vs H Q E h => ?_) (fun cdv A outer s H vs Q E hr h => ?_)
  · obtain ⟨a, b, rfl, _⟩ := h
    rfl
  · obtain ⟨a, b, rfl, pb, k⟩ := h
    have hd : dv a b ≠ 0 := Int.ne_of_gt (dv_pos (by omega))
    refine ⟨_, (pss_cons (ps_if (PW.pt (pw_or (pt_not (pt_val (pe_call (ok_is_whole T) (hr.mono (by decide)) rfl T.m_is_whole T.F_is_whole.kp T.b_is_whole .nil pass0 (pa_cons (pv 0) pa_nil)))) (pw_or1 (pt_not (pt_val (pe_call (ok_is_whole T) (hr.mono (by decide)) rfl T.m_is_whole T.F_is_whole.kp T.b_is_whole .nil pass0 (pa_cons (pv 1) pa_nil))))))) (pss_one ps_never) pss_nil) (pss_cons (ps_if (pt_cmpR op_eq (pv 1) pe_int (nomark _)) (pss_one ps_never) pss_nil) (pss_cons (ps_set (i := 2) sc_fraction.nd rfl (Or.inl rfl) (pe_call (ok_divisor T) (hr.mono (by decide)) rfl T.m_divisor T.F_divisor.kp T.b_divisor .nil pass0 (pa_cons (pv 0) (pa_cons (pv 1) pa_nil)))) (pss_cons (ps_if (pt_cmpR op_lt (pv 1) pe_int (nomark _)) (pss_one (ps_set (i := 2) sc_fraction.nd rfl (Or.inl rfl) (pe_un un_neg (pv 2)))) pss_nil) (pss_one (ps_ret (pe_tup (pa_cons (pe_op (op_fdivP hr (by decide) tree0) (pv 0) (pv 2)) (pa_cons (pe_op (op_fdivP hr (by decide) tree0) (pv 1) (pv 2)) pa_nil))))))))), ?_⟩
    (repeat (first | apply Exists.intro | refine And.intro rfl ?_ | refine And.intro (by with_reducible assumption) ?_ | refine And.intro (SqT.of (by assumption)) ?_ | refine And.intro (SqL.of (by assumption)) ?_ | refine And.intro (TyOf.int _) ?_ | refine And.intro (TyOf.tup (by assumption)) ?_ | refine And.intro T.k_ii ?_ | refine And.intro T.k_ib ?_ | refine And.intro T.k_tt ?_ | refine And.intro T.k_bb ?_ | refine And.intro T.nP ?_ | refine And.intro T.k_ss ?_))
    (try refine iteF ?_)
    (repeat (first | apply Exists.intro | refine And.intro rfl ?_ | refine And.intro (by with_reducible assumption) ?_ | refine And.intro (SqT.of (by assumption)) ?_ | refine And.intro (SqL.of (by assumption)) ?_ | refine And.intro (TyOf.int _) ?_ | refine And.intro (TyOf.tup (by assumption)) ?_ | refine And.intro T.k_ii ?_ | refine And.intro T.k_ib ?_ | refine And.intro T.k_tt ?_ | refine And.intro T.k_bb ?_ | refine And.intro T.nP ?_ | refine And.intro T.k_ss ?_))
    (try refine iteF ?_)
    (repeat (first | apply Exists.intro | refine And.intro rfl ?_ | refine And.intro (by with_reducible assumption) ?_ | refine And.intro (SqT.of (by assumption)) ?_ | refine And.intro (SqL.of (by assumption)) ?_ | refine And.intro (TyOf.int _) ?_ | refine And.intro (TyOf.tup (by assumption)) ?_ | refine And.intro T.k_ii ?_ | refine And.intro T.k_ib ?_ | refine And.intro T.k_tt ?_ | refine And.intro T.k_bb ?_ | refine And.intro T.nP ?_ | refine And.intro T.k_ss ?_))
    refine iteI (fun h0 => absurd h0 (by omega)) (fun _ => ?_)
    (repeat (first | apply Exists.intro | refine And.intro rfl ?_ | refine And.intro (by with_reducible assumption) ?_ | refine And.intro (SqT.of (by assumption)) ?_ | refine And.intro (SqL.of (by assumption)) ?_ | refine And.intro (TyOf.int _) ?_ | refine And.intro (TyOf.tup (by assumption)) ?_ | refine And.intro T.k_ii ?_ | refine And.intro T.k_ib ?_ | refine And.intro T.k_tt ?_ | refine And.intro T.k_bb ?_ | refine And.intro T.nP ?_ | refine And.intro T.k_ss ?_))
    refine iteP (fun h0 => absurd h0 (by omega)) (fun _ => ?_)
    (repeat (first | apply Exists.intro | refine And.intro rfl ?_ | refine And.intro (by with_reducible assumption) ?_ | refine And.intro (SqT.of (by assumption)) ?_ | refine And.intro (SqL.of (by assumption)) ?_ | refine And.intro (TyOf.int _) ?_ | refine And.intro (TyOf.tup (by assumption)) ?_ | refine And.intro T.k_ii ?_ | refine And.intro T.k_ib ?_ | refine And.intro T.k_tt ?_ | refine And.intro T.k_bb ?_ | refine And.intro T.nP ?_ | refine And.intro T.k_ss ?_))
    refine ⟨(by show 2 ≤ sizeLine; decide), fun p hp => ?_⟩
    refine k _ _ (same_upd hp) ?_
    (try dsimp only)
    rw [(fr_is pb).1, (fr_is pb).2]
    exact IsF.new
theorem ok_is_prime (T : Txt K mg t) : FnOk Pr w K mg base CX0 1 t.is_prime t.d_is_prime ["number"] sp_prime := by
  refine T.F_is_prime.ok sc_is_prime (fun vs H Q E h => ?_) (fun cdv A outer s H vs Q E hr h => ?_)
  · obtain ⟨n, rfl, _⟩ := h
    rfl
  · obtain ⟨n, rfl, ⟨n2, n6, hp⟩, k⟩ := h
    have PP := isP_true hp
    refine ⟨_, (pss_cons (ps_if (pt_cmpR op_lt (pv 0) pe_int (nomark _)) (pss_one (ps_ret pe_bl)) pss_nil) (pss_cons (ps_set (i := 1) sc_is_prime.nd rfl (Or.inl rfl) pe_int) (pss_cons (ps_while PassesOwn.never (pt_cmpR op_le (pe_op op_mul (pv 1) (pv 1)) (pv 0) (nomark _)) (pss_cons (ps_if (pt_cmpR op_eq (pe_op op_modN (pv 0) (pv 1)) pe_int (nomark _)) (pss_one (ps_ret pe_bl)) pss_nil) (pss_one (ps_set (i := 1) sc_is_prime.nd rfl (Or.inl rfl) (pe_op op_add (pv 1) pe_int))))) (pss_one (ps_ret pe_bl))))), ?_⟩
    refine ⟨_, rfl, _, _, rfl, rfl, _, rfl, ?_⟩
    refine iteP (fun h0 => absurd h0 (by omega)) (fun _ => ?_)
    refine ⟨fun m σ H' => ∃ f : Int, σ = [some (.int n), some (.int f)] ∧ m = (n + 2 - f).toNat ∧ (2 ≤ f ∧ f ≤ n + 1) ∧ H' = H, ⟨_, _, rfl, rfl, ⟨by omega, by omega⟩, rfl⟩, ?_⟩
    rintro m σ H' ⟨f, rfl, rfl, ⟨f2, fn⟩, rfl⟩
    have cm : CMul f f := .inl ⟨by omega, by omega⟩
    refine ⟨_, rfl, _, rfl, _, _, rfl, rfl, cm, _, rfl, _, _, rfl, rfl, _, rfl, ?_⟩
    refine iteP (fun h0 => ?_) (fun h0 => ?_)
    · refine ⟨fun σ' H'' => ∃ f' : Int, σ' = [some (.int n), some (.int f')] ∧ (n + 2 - f').toNat < (n + 2 - f).toNat ∧ (2 ≤ f' ∧ f' ≤ n + 1) ∧ H'' = H', fun σ' H'' ⟨f', e1, e2, e3, e4⟩ => ⟨_, e2, f', e1, rfl, e3, e4⟩, ?_⟩
      refine ⟨_, rfl, _, rfl, _, _, rfl, rfl, (show f ≠ 0 by omega), rfl, _, rfl, ?_⟩
      have hs := sq_le f2 h0
      refine iteI (fun h1 => absurd h1 (PP.2 f f2 h0)) (fun _ => ?_)
      refine ⟨_, rfl, _, _, rfl, rfl, ?_⟩
      exact ⟨_, rfl, by omega, ⟨by omega, by omega⟩, rfl⟩
    · exact k
theorem ok_Residues___init__ (T : Txt K mg t) : FnOk Pr w K mg base CX0 2 t.Residues___init__ t.d_Residues___init__ ["self", "prime"] (sp_init t.Residues) := by
  refine T.F_Residues___init__.ok sc_Residues___init__ (fun vs H Q E h => ?_) (fun cdv A outer s H vs Q E hr h => ?_)
  · obtain ⟨x, dx, n, rfl, _⟩ := h
    rfl
  · obtain ⟨x, dx, n, rfl, hn, hx, k⟩ := h
    refine ⟨_, (pss_cons (ps_if (PW.pt (pw_or (pt_not (pt_val (pe_call (ok_is_whole T) (hr.mono (by decide)) rfl T.m_is_whole T.F_is_whole.kp T.b_is_whole .nil pass0 (pa_cons (pv 1) pa_nil)))) (pw_or (pt_cmpR op_gt (pv 1) (pe_glob (v := .int 1000000) rfl T.c_GREATEST_PRIME.choose_spec ⟨_, rfl⟩) (nomark _)) (pw_or1 (pt_not (pt_val (pe_call (ok_is_prime T) (hr.mono (by decide)) rfl T.m_is_prime T.F_is_prime.kp T.b_is_prime .nil pass0 (pa_cons (pv 1) pa_nil)))))))) (pss_one ps_never) pss_nil) (pss_one (ps_fld (pv 0) (pv 1) rfl))), ?_⟩
    refine ⟨_, rfl, _, rfl, _, rfl, ?_⟩
    (try refine iteF ?_)
    refine ⟨_, rfl, _, _, rfl, rfl, _, rfl, ?_⟩
    refine iteP (fun h0 => absurd h0 (by have := hn.2.1; omega)) (fun _ => ?_)
    refine ⟨_, rfl, _, rfl, hn, _, rfl, ?_⟩
    (try refine iteF ?_)
    refine ⟨_, rfl, _, rfl, x, _, dx, _, rfl, hx, T.C_Residues, T.nP, (by show 0 < 1000; decide), ?_⟩
    exact k
theorem ok_Fractions_nought (T : Txt K mg t) : FnOk Pr w K mg base CX0 1 t.Fractions_nought t.d_Fractions_nought ["self"] (spNul t.Fractions [] frSR isFr Fr.zero) := by
  refine T.F_Fractions_nought.ok sc_Fractions_nought (fun vs H Q E h => ?_) (fun cdv A outer s H vs Q E hr h => ?_)
  · obtain ⟨x, rfl, _⟩ := h
    rfl
  · obtain ⟨x, rfl, _, k⟩ := h
    refine ⟨_, (pss_one (ps_ret (pe_tup (pa_cons pe_int (pa_cons pe_int pa_nil))))), ?_⟩
    exact ⟨(by show 2 ≤ sizeLine; decide), fun p hp => k _ _ (same_upd hp) IsF.new⟩
theorem ok_Fractions_times (T : Txt K mg t) : FnOk Pr w K mg base CX0 38 t.Fractions_times t.d_Fractions_times ["self", "x", "y"] (spBin t.Fractions [] frSR isFr Fr.mul) := by
  refine T.F_Fractions_times.ok sc_Fractions_times (fun vs H Q E h => ?_) (fun cdv A outer s H vs Q E hr h => ?_)
  · obtain ⟨k, x, y, a, b, m, n, rfl, _⟩ := h
    rfl
  · obtain ⟨k0, x, y, a, b, m, n, rfl, ⟨_, ⟨px, rfl, hx⟩, ⟨py, rfl, hy⟩, sa, sb, hmn⟩, k⟩ := h
    have sa : a.sz m := sa
    have sb : b.sz n := sb
    have m1 : CMulG a.t b.t := mulG (n := n) sa.1 sb.1 (by omega)
    have m3 : CMulG a.b b.b := mulG (n := n) sa.2 sb.2 (by omega)
    refine ⟨_, (pss_one (ps_ret (pe_call (ok_fraction T) (hr.mono (by decide)) rfl T.m_fraction T.F_fraction.kp T.b_fraction .nil pass0 (pa_cons (pe_op op_mulG (pe_ix ix_tup (pv 1) pe_int (fun _ _ => rfl)) (pe_ix ix_tup (pv 2) pe_int (fun _ _ => rfl))) (pa_cons (pe_op op_mulG (pe_ix ix_tup (pv 1) pe_int (fun _ _ => rfl)) (pe_ix ix_tup (pv 2) pe_int (fun _ _ => rfl))) pa_nil))))), ?_⟩
    (repeat (first | apply Exists.intro | refine And.intro rfl ?_ | refine And.intro (by with_reducible assumption) ?_ | refine And.intro (SqT.of (by assumption)) ?_ | refine And.intro (SqL.of (by assumption)) ?_ | refine And.intro (TyOf.int _) ?_ | refine And.intro (TyOf.tup (by assumption)) ?_ | refine And.intro T.k_ii ?_ | refine And.intro T.k_ib ?_ | refine And.intro T.k_tt ?_ | refine And.intro T.k_bb ?_ | refine And.intro T.nP ?_ | refine And.intro T.k_ss ?_))
    exact ⟨Int.mul_pos a.p b.p, k⟩
theorem ok_Residues_nought (T : Txt K mg t) (p : Int) (hp : 2 ≤ p) : FnOk Pr w K mg base CX0 1 t.Residues_nought t.d_Residues_nought ["self"] (spNul t.Residues (pfs p) (resSR p hp) (isRe p) (resSR p hp).zero) := by
  refine T.F_Residues_nought.ok sc_Residues_nought (fun vs H Q E h => ?_) (fun cdv A outer s H vs Q E hr h => ?_)
  · obtain ⟨x, rfl, _⟩ := h
    rfl
  · obtain ⟨x, rfl, _, k⟩ := h
    refine ⟨_, (pss_one (ps_ret pe_int)), ?_⟩
    exact k _ _ (Same.refl _) rfl
theorem ok_Residues_times (T : Txt K mg t) (p : Int) (hp : 2 ≤ p) (hq : p ≤ 1000000) : FnOk Pr w K mg base CX0 1 t.Residues_times t.d_Residues_times ["self", "x", "y"] (spBin t.Residues (pfs p) (resSR p hp) (isRe p) (resSR p hp).mul) := by
  refine T.F_Residues_times.ok sc_Residues_times (fun vs H Q E h => ?_) (fun cdv A outer s H vs Q E hr h => ?_)
  · obtain ⟨k, x, y, a, b, m, n, rfl, _⟩ := h
    rfl
  · obtain ⟨k0, x, y, a, b, m, n, rfl, ⟨⟨q, dx, rfl, hk⟩, rfl, rfl, sa, sb, hmn⟩, k⟩ := h
    have cm : CMul a.x b.x := .inl ⟨by have := a.h0; omega, by have := a.h1; omega⟩
    refine ⟨_, (pss_one (ps_ret (pe_op op_modN (pe_op op_mul (pv 1) (pv 2)) (pe_fld (pv 0) rfl)))), ?_⟩
    refine ⟨_, rfl, _, rfl, _, _, rfl, rfl, cm, _, rfl, q, _, dx, _, _, rfl, hk, T.C_Residues, T.nP, pfs_prime p, _, _, rfl, rfl, (show p ≠ 0 by omega), ?_⟩
    exact k _ _ (Same.refl _) rfl
theorem ok_Costs_nought (T : Txt K mg t) : FnOk Pr w K mg base CX0 1 t.Costs_nought t.d_Costs_nought ["self"] (spNul t.Costs [] costSR isCo costSR.zero) := by
  refine T.F_Costs_nought.ok sc_Costs_nought (fun vs H Q E h => ?_) (fun cdv A outer s H vs Q E hr h => ?_)
  · obtain ⟨x, rfl, _⟩ := h
    rfl
  · obtain ⟨x, rfl, _, k⟩ := h
    refine ⟨_, (pss_one (ps_ret pe_non)), ?_⟩
    exact k _ _ (Same.refl _) rfl
theorem ok_Costs_times (T : Txt K mg t) : FnOk Pr w K mg base CX0 1 t.Costs_times t.d_Costs_times ["self", "x", "y"] (spBin t.Costs [] costSR isCo costSR.mul) := by
  refine T.F_Costs_times.ok sc_Costs_times (fun vs H Q E h => ?_) (fun cdv A outer s H vs Q E hr h => ?_)
  · obtain ⟨k, x, y, a, b, m, n, rfl, _⟩ := h
    rfl
  · obtain ⟨k0, x, y, a, b, m, n, rfl, ⟨_, rfl, rfl, sa, sb, hmn⟩, k⟩ := h
    refine ⟨_, (pss_cons (ps_if (PW.pt (pw_or (pt_cmpR op_isN (pv 1) pe_non (nomark _)) (pw_or1 (pt_cmpR op_isN (pv 2) pe_non (nomark _))))) (pss_one (ps_ret pe_non)) pss_nil) (pss_one (ps_ret (pe_op op_add (pv 1) (pv 2))))), ?_⟩
    have k' := k (cV (cMul a b)) H (Same.refl _) rfl
    cases a with
    | none =>
      refine ⟨_, rfl, rfl, _, rfl, ?_⟩
      refine iteT ?_
      (try refine iteT ?_)
      exact k'
    | some i =>
      refine ⟨_, rfl, rfl, _, rfl, ?_⟩
      refine iteF ?_
      cases b with
      | none =>
        refine ⟨_, rfl, rfl, _, rfl, ?_⟩
        (try refine iteT ?_)
        exact k'
      | some j =>
        refine ⟨_, rfl, rfl, _, rfl, ?_⟩
        (try refine iteF ?_)
        exact ⟨_, rfl, _, rfl, _, _, rfl, rfl, k'⟩
theorem ok_Truths_nought (T : Txt K mg t) : FnOk Pr w K mg base CX0 1 t.Truths_nought t.d_Truths_nought ["self"] (spNul t.Truths [] truthSR isTr truthSR.zero) := by
  refine T.F_Truths_nought.ok sc_Truths_nought (fun vs H Q E h => ?_) (fun cdv A outer s H vs Q E hr h => ?_)
  · obtain ⟨x, rfl, _⟩ := h
    rfl
  · obtain ⟨x, rfl, _, k⟩ := h
    refine ⟨_, (pss_one (ps_ret pe_bl)), ?_⟩
    exact k _ _ (Same.refl _) rfl
theorem ok_Truths_times (T : Txt K mg t) : FnOk Pr w K mg base CX0 1 t.Truths_times t.d_Truths_times ["self", "x", "y"] (spBin t.Truths [] truthSR isTr truthSR.mul) := by
  refine T.F_Truths_times.ok sc_Truths_times (fun vs H Q E h => ?_) (fun cdv A outer s H vs Q E hr h => ?_)
  · obtain ⟨k, x, y, a, b, m, n, rfl, _⟩ := h
    rfl
  · obtain ⟨k0, x, y, a, b, m, n, rfl, ⟨_, rfl, rfl, sa, sb, hmn⟩, k⟩ := h
    refine ⟨_, (pss_one (ps_ret (pe_and (pv 1) (pe_one (pv 2))))), ?_⟩
    have k' := k (.bl (a && b)) H (Same.refl _) rfl
    cases a with
    | true => exact ⟨_, rfl, _, rfl, iteT ⟨_, rfl, k'⟩⟩
    | false => exact ⟨_, rfl, _, rfl, iteF k'⟩
theorem ok_Fractions_is_weight (T : Txt K mg t) : FnOk Pr w K mg base CX0 2 t.Fractions_is_weight t.d_Fractions_is_weight ["self", "thing"] (spIsW t.Fractions [] frSR isFr) := by
  refine T.F_Fractions_is_weight.ok sc_Fractions_is_weight (fun vs H Q E h => ?_) (fun cdv A outer s H vs Q E hr h => ?_)
  · obtain ⟨k, x, a, rfl, _⟩ := h
    rfl
  · obtain ⟨k0, x, a, rfl, ⟨_, ⟨px, rfl, hx⟩⟩, k⟩ := h
    have hl : LenV K (.ref px) H 2 := .inr ⟨_, SqT.of hx, rfl⟩
    refine ⟨_, (pss_cons (ps_if (PW.pt (pw_or (pt_not (pt_val (pe_callB call_isi (by rfl) T.z_isinstance boot_isinstance (pa_cons (pv 1) (pa_cons (pe_bltn (v := .ty "tuple") rfl T.z_tuple boot_tuple rfl) pa_nil))))) (pw_or1 (pt_cmpR op_ne (pe_callB call_len (by rfl) T.z_len PySem.boot_len (pa_cons (pv 1) pa_nil)) pe_int (nomark _))))) (pss_one (ps_ret pe_bl)) pss_nil) (pss_cons (ps_if (PW.pt (pw_or (pt_not (pt_val (pe_call (ok_is_whole T) (hr.mono (by decide)) rfl T.m_is_whole T.F_is_whole.kp T.b_is_whole .nil pass0 (pa_cons (pe_ix ix_tup (pv 1) pe_int (fun _ _ => rfl)) pa_nil)))) (pw_or1 (pt_not (pt_val (pe_call (ok_is_whole T) (hr.mono (by decide)) rfl T.m_is_whole T.F_is_whole.kp T.b_is_whole .nil pass0 (pa_cons (pe_ix ix_tup (pv 1) pe_int (fun _ _ => rfl)) pa_nil))))))) (pss_one (ps_ret pe_bl)) pss_nil) (pss_one (ps_ret (pe_and (pe_cmpR op_ge (pe_ix ix_tup (pv 1) pe_int (fun _ _ => rfl)) pe_int (nomark _)) (pe_one (pe_cmpR op_eq (pe_call (ok_divisor T) (hr.mono (by decide)) rfl T.m_divisor T.F_divisor.kp T.b_divisor .nil pass0 (pa_cons (pe_ix ix_tup (pv 1) pe_int (fun _ _ => rfl)) (pa_cons (pe_ix ix_tup (pv 1) pe_int (fun _ _ => rfl)) pa_nil))) pe_int (nomark _)))))))), ?_⟩
    refine ⟨_, rfl, _, _, _, _, rfl, TyOf.tup hx, T.k_tt, _, rfl, ?_⟩
    (try refine iteF ?_)
    refine ⟨_, rfl, _, _, rfl, hl, rfl, _, rfl, ?_⟩
    (try dsimp only)
    refine iteNI (fun ne => absurd rfl ne) (fun _ => ?_)
    refine ⟨_, rfl, _, _, _, _, rfl, rfl, SqT.of hx, rfl, _, rfl, _, rfl, ?_⟩
    (try refine iteF ?_)
    refine ⟨_, rfl, _, _, _, _, rfl, rfl, SqT.of hx, rfl, _, rfl, _, rfl, ?_⟩
    (try refine iteF ?_)
    (try refine iteF ?_)
    refine ⟨_, rfl, _, _, _, _, rfl, rfl, SqT.of hx, rfl, _, _, rfl, rfl, _, rfl, ?_⟩
    refine iteP (fun _ => ?_) (fun h0 => absurd a.p (by omega))
    refine ⟨_, rfl, _, _, _, _, rfl, rfl, SqT.of hx, rfl, _, rfl, _, _, _, _, rfl, rfl, SqT.of hx, rfl, _, _, rfl, rfl, ?_⟩
    rw [show decide (V.int (dv a.t a.b) = V.int 1) = true from decI a.l]
    exact k
theorem ok_Residues_is_weight (T : Txt K mg t) (p : Int) (hp : 2 ≤ p) : FnOk Pr w K mg base CX0 2 t.Residues_is_weight t.d_Residues_is_weight ["self", "thing"] (spIsW t.Residues (pfs p) (resSR p hp) (isRe p)) := by
  refine T.F_Residues_is_weight.ok sc_Residues_is_weight (fun vs H Q E h => ?_) (fun cdv A outer s H vs Q E hr h => ?_)
  · obtain ⟨k, x, a, rfl, _⟩ := h
    rfl
  · obtain ⟨k0, x, a, rfl, ⟨⟨q, dx, rfl, hq⟩, rfl⟩, k⟩ := h
    have a0 := a.h0
    have a1 := a.h1
    refine ⟨_, (pss_one (ps_ret (pe_and (pe_call (ok_is_whole T) (hr.mono (by decide)) rfl T.m_is_whole T.F_is_whole.kp T.b_is_whole .nil pass0 (pa_cons (pv 1) pa_nil)) (pe_one (pe_chain op_le op_lt pe_int (pv 1) (pe_fld (pv 0) rfl)))))), ?_⟩
    refine ⟨_, rfl, _, rfl, _, rfl, ?_⟩
    refine iteT ?_
    refine ⟨_, rfl, _, _, rfl, rfl, _, rfl, ?_⟩
    refine iteP (fun _ => ?_) (fun h0 => absurd a0 (by omega))
    refine ⟨_, rfl, q, _, dx, _, _, rfl, hq, T.C_Residues, T.nP, pfs_prime p, _, _, rfl, rfl, ?_⟩
    have e : Q (V.bl (decide (Re.x (p := p) a < p))) H := by rw [decide_eq_true a1]; exact k
    exact e
theorem ok_Costs_is_weight (T : Txt K mg t) : FnOk Pr w K mg base CX0 2 t.Costs_is_weight t.d_Costs_is_weight ["self", "thing"] (spIsW t.Costs [] costSR isCo) := by
  refine T.F_Costs_is_weight.ok sc_Costs_is_weight (fun vs H Q E h => ?_) (fun cdv A outer s H vs Q E hr h => ?_)
  · obtain ⟨k, x, a, rfl, _⟩ := h
    rfl
  · obtain ⟨k0, x, a, rfl, ⟨_, rfl⟩, k⟩ := h
    refine ⟨_, (pss_one (ps_ret (pe_or (pe_cmpR op_isN (pv 1) pe_non (nomark _)) (pe_one (pe_call (ok_is_whole T) (hr.mono (by decide)) rfl T.m_is_whole T.F_is_whole.kp T.b_is_whole .nil pass0 (pa_cons (pv 1) pa_nil)))))), ?_⟩
    cases a with
    | none => exact ⟨_, rfl, rfl, _, rfl, iteT k⟩
    | some i => exact ⟨_, rfl, rfl, _, rfl, iteF ⟨_, rfl, _, rfl, k⟩⟩
theorem ok_Truths_is_weight (T : Txt K mg t) : FnOk Pr w K mg base CX0 2 t.Truths_is_weight t.d_Truths_is_weight ["self", "thing"] (spIsW t.Truths [] truthSR isTr) := by
  refine T.F_Truths_is_weight.ok sc_Truths_is_weight (fun vs H Q E h => ?_) (fun cdv A outer s H vs Q E hr h => ?_)
  · obtain ⟨k, x, a, rfl, _⟩ := h
    rfl
  · obtain ⟨k0, x, a, rfl, ⟨_, rfl⟩, k⟩ := h
    refine ⟨_, (pss_one (ps_ret (pe_callB call_isi (by rfl) T.z_isinstance boot_isinstance (pa_cons (pv 1) (pa_cons (pe_bltn (v := .ty "bool") rfl T.z_bool boot_bool rfl) pa_nil))))), ?_⟩
    exact ⟨_, rfl, _, _, _, _, rfl, TyOf.bl _, T.k_bb, k⟩
theorem ok_Fractions_one (T : Txt K mg t) : FnOk Pr w K mg base CX0 1 t.Fractions_one t.d_Fractions_one ["self"] (spNul t.Fractions [] frSR isFr Fr.one) := by
  refine T.F_Fractions_one.ok sc_Fractions_one (fun vs H Q E h => ?_) (fun cdv A outer s H vs Q E hr h => ?_)
  · obtain ⟨x, rfl, _⟩ := h
    rfl
  · obtain ⟨x, rfl, _, k⟩ := h
    refine ⟨_, (pss_one (ps_ret (pe_tup (pa_cons pe_int (pa_cons pe_int pa_nil))))), ?_⟩
    exact ⟨(by show 2 ≤ sizeLine; decide), fun p hp => k _ _ (same_upd hp) IsF.new⟩
theorem ok_Residues_one (T : Txt K mg t) (p : Int) (hp : 2 ≤ p) : FnOk Pr w K mg base CX0 1 t.Residues_one t.d_Residues_one ["self"] (spNul t.Residues (pfs p) (resSR p hp) (isRe p) (resSR p hp).one) := by
  refine T.F_Residues_one.ok sc_Residues_one (fun vs H Q E h => ?_) (fun cdv A outer s H vs Q E hr h => ?_)
  · obtain ⟨x, rfl, _⟩ := h
    rfl
  · obtain ⟨x, rfl, _, k⟩ := h
    refine ⟨_, (pss_one (ps_ret pe_int)), ?_⟩
    exact k _ _ (Same.refl _) rfl
theorem ok_Costs_one (T : Txt K mg t) : FnOk Pr w K mg base CX0 1 t.Costs_one t.d_Costs_one ["self"] (spNul t.Costs [] costSR isCo costSR.one) := by
  refine T.F_Costs_one.ok sc_Costs_one (fun vs H Q E h => ?_) (fun cdv A outer s H vs Q E hr h => ?_)
  · obtain ⟨x, rfl, _⟩ := h
    rfl
  · obtain ⟨x, rfl, _, k⟩ := h
    refine ⟨_, (pss_one (ps_ret pe_int)), ?_⟩
    exact k _ _ (Same.refl _) rfl
theorem ok_Truths_one (T : Txt K mg t) : FnOk Pr w K mg base CX0 1 t.Truths_one t.d_Truths_one ["self"] (spNul t.Truths [] truthSR isTr truthSR.one) := by
  refine T.F_Truths_one.ok sc_Truths_one (fun vs H Q E h => ?_) (fun cdv A outer s H vs Q E hr h => ?_)
  · obtain ⟨x, rfl, _⟩ := h
    rfl
  · obtain ⟨x, rfl, _, k⟩ := h
    refine ⟨_, (pss_one (ps_ret pe_bl)), ?_⟩
    exact k _ _ (Same.refl _) rfl
/-! the kinds -/
def R_fr (T : Txt K mg t) : KindR Pr w K mg base where
  S := frSR
  C := t.Fractions
  fs := []
  cl := T.C_Fractions
  is := isFr
  same e h := IsF.same e h
  isd h := IsF.is h
  f_times := _
  d_times := _
  t_times := T.t_Fractions_times
  b_times := T.b_Fractions_times
  l_times := rfl
  G_times := (ok_Fractions_times T).mono (by decide)
  f_nought := _
  d_nought := _
  t_nought := T.t_Fractions_nought
  b_nought := T.b_Fractions_nought
  l_nought := rfl
  G_nought := (ok_Fractions_nought T).mono (by decide)
  f_is_weight := _
  d_is_weight := _
  t_is_weight := T.t_Fractions_is_weight
  b_is_weight := T.b_Fractions_is_weight
  l_is_weight := rfl
  G_is_weight := (ok_Fractions_is_weight T).mono (by decide)
  f_one := _
  d_one := _
  t_one := T.t_Fractions_one
  b_one := T.b_Fractions_one
  l_one := rfl
  G_one := (ok_Fractions_one T).mono (by decide)
def R_re (T : Txt K mg t) (p : Int) (hp : 2 ≤ p) (hq : p ≤ 1000000) : KindR Pr w K mg base where
  S := resSR p hp
  C := t.Residues
  fs := pfs p
  cl := T.C_Residues
  is := isRe p
  same _ h := h
  isd {H v x} h := by cases (show v = .int x.x from h); exact .int _
  f_times := _
  d_times := _
  t_times := T.t_Residues_times
  b_times := T.b_Residues_times
  l_times := pfs_no p (by decide +kernel)
  G_times := (ok_Residues_times T p hp hq).mono (by decide)
  f_nought := _
  d_nought := _
  t_nought := T.t_Residues_nought
  b_nought := T.b_Residues_nought
  l_nought := pfs_no p (by decide +kernel)
  G_nought := (ok_Residues_nought T p hp).mono (by decide)
  f_is_weight := _
  d_is_weight := _
  t_is_weight := T.t_Residues_is_weight
  b_is_weight := T.b_Residues_is_weight
  l_is_weight := pfs_no p (by decide +kernel)
  G_is_weight := (ok_Residues_is_weight T p hp).mono (by decide)
  f_one := _
  d_one := _
  t_one := T.t_Residues_one
  b_one := T.b_Residues_one
  l_one := pfs_no p (by decide +kernel)
  G_one := (ok_Residues_one T p hp).mono (by decide)
def R_co (T : Txt K mg t) : KindR Pr w K mg base where
  S := costSR
  C := t.Costs
  fs := []
  cl := T.C_Costs
  is := isCo
  same _ h := h
  isd {H v x} h := by
    cases (show v = cV x from h)
    cases x with
    | none => exact .non
    | some i => exact .int i
  f_times := _
  d_times := _
  t_times := T.t_Costs_times
  b_times := T.b_Costs_times
  l_times := rfl
  G_times := (ok_Costs_times T).mono (by decide)
  f_nought := _
  d_nought := _
  t_nought := T.t_Costs_nought
  b_nought := T.b_Costs_nought
  l_nought := rfl
  G_nought := (ok_Costs_nought T).mono (by decide)
  f_is_weight := _
  d_is_weight := _
  t_is_weight := T.t_Costs_is_weight
  b_is_weight := T.b_Costs_is_weight
  l_is_weight := rfl
  G_is_weight := (ok_Costs_is_weight T).mono (by decide)
  f_one := _
  d_one := _
  t_one := T.t_Costs_one
  b_one := T.b_Costs_one
  l_one := rfl
  G_one := (ok_Costs_one T).mono (by decide)
def R_tr (T : Txt K mg t) : KindR Pr w K mg base where
  S := truthSR
  C := t.Truths
  fs := []
  cl := T.C_Truths
  is := isTr
  same _ h := h
  isd {H v x} h := by cases (show v = .bl x from h); exact .bl x
  f_times := _
  d_times := _
  t_times := T.t_Truths_times
  b_times := T.b_Truths_times
  l_times := rfl
  G_times := (ok_Truths_times T).mono (by decide)
  f_nought := _
  d_nought := _
  t_nought := T.t_Truths_nought
  b_nought := T.b_Truths_nought
  l_nought := rfl
  G_nought := (ok_Truths_nought T).mono (by decide)
  f_is_weight := _
  d_is_weight := _
  t_is_weight := T.t_Truths_is_weight
  b_is_weight := T.b_Truths_is_weight
  l_is_weight := rfl
  G_is_weight := (ok_Truths_is_weight T).mono (by decide)
  f_one := _
  d_one := _
  t_one := T.t_Truths_one
  b_one := T.b_Truths_one
  l_one := rfl
  G_one := (ok_Truths_one T).mono (by decide)
/-- which of the four, with its name and number -/
inductive So (T : Txt K mg t) : KindR Pr w K mg base → Str → Int → Prop
  | fr : So T (R_fr T) "fractions" 0
  | re (p : Int) (hp : 2 ≤ p) (hq : p ≤ 1000000) (hi : isP p = true) : So T (R_re T p hp hq) "residues" p
  | co : So T (R_co T) "costs" 0
  | tr : So T (R_tr T) "truths" 0
def SortAt (H : Hp) (v : V) (nm : Str) (p : Int) : Prop := ∃ q, v = .ref q ∧ H q = some (.tup [.str nm, .int p])
theorem SortAt.same {H H' : Hp} {v : V} {nm : Str} {p : Int} (s : SameT H H') (h : SortAt H v nm p) : SortAt H' v nm p := by
  obtain ⟨q, rfl, e⟩ := h
  exact ⟨q, rfl, s _ _ e⟩
/-! row by column -/
def dotW (S : SR) (x y : Nat → S.W) (n : Nat) : S.W := sm S (fun i => S.mul (x i) (y i)) n
theorem sm_lv {S : SR} {f : Nat → S.W} {k : Nat} : ∀ {n : Nat}, (∀ i, i < n → S.lv k 1 (f i)) → S.lv k n (sm S f n)
  | 0, _ => S.lv_zero k
  | n + 1, h => S.lv_add _ _ _ _ _ (sm_lv fun i hi => h i (Nat.lt_succ_of_lt hi)) (h n (Nat.lt_succ_self n))
theorem dot_sz {S : SR} {x y : Nat → S.W} {m m' n : Nat} (hx : ∀ i, i < n → S.lv m 32 (x i)) (hy : ∀ i, i < n → S.lv m' 32 (y i)) : S.lv (m + m') n (dotW S x y n) := sm_lv fun i hi => S.lv_mul _ _ _ _ (hx i hi) (hy i hi)
theorem wt_sz {R : KindR Pr w K mg base} {x : Nat → R.S.W} {m n : Nat} {ys : List V} {H : Hp} (e : Ents (R.Wt x m) ys n H) : ∀ i, i < n → R.S.lv m 32 (x i) := fun i hi => by
  obtain ⟨_, _, q⟩ := e.2 i hi
  exact q.2
/-! draws -/
def Dr (H : Hp) (a : Addr) : Prop := ∃ x : Int, H a = some (.lst [.int x]) ∨ ∃ d : Int, H a = some (.lst [.int d, .int x])
/-- all but the list at a is as it was -/
def SameX (a : Addr) (H H' : Hp) : Prop := ∀ b o, b ≠ a → H b = some o → H' b = some o
theorem SameX.refl (a : Addr) (H : Hp) : SameX a H H := fun _ _ _ h => h
theorem SameX.trans {a : Addr} {H H1 H2 : Hp} (x : SameX a H H1) (y : SameX a H1 H2) : SameX a H H2 := fun b o n h => y b o n (x b o n h)
theorem SameX.upd {a : Addr} {H : Hp} {o : HO} : SameX a H (upd H a o) := fun b u n h => by rw [upd_ne n]; exact h
theorem SameX.of {a : Addr} {H H' : Hp} (x : Same H H') : SameX a H H' := fun b o _ h => x b o h
def sp_next : Sp := fun vs H Q _ => ∃ (a : Addr) (m : Int), vs = [.ref a, .int m] ∧ (Dr H a ∧ 0 < m ∧ m ≤ 1000000000000000) ∧ ∀ (r : Int) H', SameX a H H' → Dr H' a → 0 ≤ r → r < m → Q (.int r) H'
def sp_state (K : PySem.W.Frag) : Sp := fun vs H Q _ => ∃ (a : Addr) (ns : List Int), vs = [.ref a] ∧ SqL K H a (ns.map V.int) ∧ ns.length ≤ 63 ∧ ∀ b H', H b = none → Same H H' → Dr H' b → Q (.ref b) H'
theorem small_div {m : Int} (h : 0 < m) (h' : m ≤ 1000000000000000) (x : Int) : CDivB x m := by
  refine ⟨by omega, ?_⟩
  have : m.natAbs ≤ 2 ^ 50 := by
    have e : (2 : Nat) ^ 50 = 1125899906842624 := by decide
    omega
  by_cases e : m.natAbs = 0
  · rw [e]; decide
  · rw [Nat.log2_lt e]
    exact Nat.lt_of_le_of_lt this (Nat.pow_lt_pow_right (by decide) (by decide))
theorem ok_law_next (T : Txt K mg t) : FnOk Pr w K mg base CX0 1 t.law_next t.d_law_next ["_law_state_here", "_law_many"] sp_next := by
  refine T.F_law_next.ok sc_law_next (fun vs H Q E h => ?_) (fun cdv A outer s H vs Q E hr h => ?_)
  · obtain ⟨a, m, rfl, _⟩ := h
    rfl
  · obtain ⟨a, m, rfl, ⟨⟨x, hD⟩, m0, m1⟩, k⟩ := h
    refine ⟨_, (pss_cons (ps_if (pt_cmpR op_eq (pe_callB call_len (by rfl) T.z_len PySem.boot_len (pa_cons (pv 0) pa_nil)) pe_int (nomark _)) (pss_cons (ps_set (i := 2) sc_law_next.nd rfl (Or.inl rfl) (pe_op op_modN (pe_ix ix_list (pv 0) pe_int (fun _ _ => rfl)) (pv 1))) (pss_cons (ps_asg (pe_op op_fdivB (pe_ix ix_list (pv 0) pe_int (fun _ _ => rfl)) (pv 1)) (pg_sub (pv 0) pe_int set_list)) (pss_cons (ps_if (pt_cmpR op_eq (pe_ix ix_list (pv 0) pe_int (fun _ _ => rfl)) pe_int (nomark _)) (pss_one (ps_expr (pe_bm PySem.F.plainAttrs_list PySem.F.slot_list_pop PySem.F.type_list_pop mt_popAt (pv 0) (pa_cons pe_int pa_nil)))) pss_nil) (pss_one (ps_ret (pv 2)))))) pss_nil) (pss_cons (ps_asg (pe_op op_modN (pe_op op_add (pe_op op_mul (pe_ix ix_list (pv 0) pe_int (fun _ _ => rfl)) pe_int) pe_int) pe_int) (pg_sub (pv 0) pe_int set_list)) (pss_one (ps_ret (pe_op op_modN (pe_op op_fdivB (pe_ix ix_list (pv 0) pe_int (fun _ _ => rfl)) pe_int) (pv 1)))))), ?_⟩
    rcases hD with hD | ⟨d, hD⟩
    · have lc : LenV K (.ref a) H 1 := .inl ⟨_, SqL.of hD, rfl⟩
      refine ⟨_, rfl, _, _, rfl, lc, rfl, _, rfl, ?_⟩
      refine iteI (fun h => absurd h (by decide)) (fun _ => ?_)
      refine ⟨_, rfl, _, _, _, _, rfl, rfl, SqL.of hD, rfl, _, _, rfl, rfl, .inr ⟨by decide, by decide⟩, _, _, rfl, rfl, _, _, rfl, rfl, (show (2305843009213693951 : Int) ≠ 0 by decide), ?_⟩
      refine ⟨_, rfl, _, _, _, _, rfl, rfl, hD, rfl, ?_⟩
      refine ⟨_, rfl, _, _, _, _, rfl, rfl, SqL.of upd_same, rfl, _, _, rfl, rfl, ⟨by decide, by decide⟩, _, rfl, _, _, rfl, rfl, (show m ≠ 0 by omega), ?_⟩
      exact k _ _ SameX.upd ⟨_, .inl upd_same⟩ (Int.fmod_nonneg_of_pos _ m0) (Int.fmod_lt_of_pos _ m0)
    · have lc : LenV K (.ref a) H 2 := .inl ⟨_, SqL.of hD, rfl⟩
      refine ⟨_, rfl, _, _, rfl, lc, rfl, _, rfl, ?_⟩
      refine iteI (fun _ => ?_) (fun h => absurd rfl h)
      refine ⟨_, rfl, _, _, _, _, rfl, rfl, SqL.of hD, rfl, _, rfl, _, _, rfl, rfl, (show m ≠ 0 by omega), ?_⟩
      refine ⟨_, rfl, _, _, _, _, rfl, rfl, SqL.of hD, rfl, _, rfl, _, _, rfl, rfl, small_div m0 m1 _, ?_⟩
      refine ⟨_, rfl, _, _, _, _, rfl, rfl, hD, rfl, ?_⟩
      refine ⟨_, rfl, _, _, _, _, rfl, rfl, SqL.of upd_same, rfl, rfl, _, rfl, ?_⟩
      refine iteI (fun _ => ?_) (fun _ => ?_)
      · refine ⟨_, rfl, .inl ⟨rfl, _, SqL.of upd_same⟩, _, _, _, _, _, rfl, rfl, upd_same, (by decide), (by decide), rfl, rfl, ?_⟩
        refine ⟨_, rfl, ?_⟩
        exact k _ _ (SameX.upd.trans SameX.upd) ⟨x, .inl upd_same⟩ (Int.fmod_nonneg_of_pos _ m0) (Int.fmod_lt_of_pos _ m0)
      · refine ⟨_, rfl, ?_⟩
        exact k _ _ SameX.upd ⟨x, .inr ⟨_, upd_same⟩⟩ (Int.fmod_nonneg_of_pos _ m0) (Int.fmod_lt_of_pos _ m0)
theorem ok_law_state (T : Txt K mg t) : FnOk Pr w K mg base CX0 1 t.law_state t.d_law_state ["_law_script"] (sp_state K) := by
  refine T.F_law_state.ok sc_law_state (fun vs H Q E h => ?_) (fun cdv A outer s H vs Q E hr h => ?_)
  · obtain ⟨a, ns, rfl, _⟩ := h
    rfl
  · obtain ⟨a, ns, rfl, hS, hlen, k⟩ := h
    refine ⟨_, (pss_cons (ps_set (i := 1) sc_law_state.nd rfl (Or.inl rfl) pe_int) (pss_cons (ps_for PassesOwn.never rfl (pi_list (pe_slice sl_list (pv 0) po_none (po_some pe_int))) (pg_name (i := 2) sc_law_state.nd rfl (Or.inl rfl)) (pss_one (ps_set (i := 1) sc_law_state.nd rfl (Or.inl rfl) (pe_op op_modN (pe_op op_add (pe_op op_add (pe_op op_mul (pv 1) pe_int) (pe_op op_modN (pv 2) (pe_op op_pow pe_int pe_int))) pe_int) pe_int)))) (pss_cons (ps_if (PW.pt (pw_and (pt_cmpR op_gt (pe_callB call_len (by rfl) T.z_len PySem.boot_len (pa_cons (pv 0) pa_nil)) pe_int (nomark _)) (pw_and (pt_cmpR op_gt (pe_ix ix_list (pv 0) pe_int (fun _ _ => rfl)) pe_int (nomark _)) (pw_and1 (pt_cmpR op_eq (pe_op op_modN (pe_ix ix_list (pv 0) pe_int (fun _ _ => rfl)) pe_int) pe_int (nomark _)))))) (pss_one (ps_ret (pe_lst (pa_cons (pe_op op_fdivB (pe_ix ix_list (pv 0) pe_int (fun _ _ => rfl)) pe_int) (pa_cons (pv 1) pa_nil))))) pss_nil) (pss_one (ps_ret (pe_lst (pa_cons (pv 1) pa_nil))))))), ?_⟩
    refine ⟨_, rfl, _, rfl, _, _, rfl, hS, fun c1 hc1 => ?_⟩
    have ec : cutV (ns.map V.int) none (some 200) = (ns.take 200).map V.int := by
      rw [show (200 : Int) = ((200 : Nat) : Int) from rfl, cut_take, List.map_take]
    have s1 := same_upd (o := .lst (cutV (ns.map V.int) none (some 200))) hc1
    have k1 := upd_same (H := H) (a := c1) (o := .lst (cutV (ns.map V.int) none (some 200)))
    have hS1 := s1.seq hS
    clear hc1
    revert s1 k1 hS1
    generalize upd H c1 (.lst (cutV (ns.map V.int) none (some 200))) = H1
    intro s1 k1 hS1
    rw [ec] at k1
    refine ⟨c1, rfl, ⟨_, SqL.of k1⟩, for_list (K := K) (a := c1) (xs := (ns.take 200).map V.int) (fun i σ H' => ∃ (x : Int) (v : Option V), σ = [some (.ref a), some (.int x), v] ∧ H' = H1) ⟨_, _, rfl, rfl⟩ (fun i σ H' _ ⟨_, _, _, e⟩ => e ▸ SqL.of k1) ?_ ?_⟩
    · rintro i y σ H' hi ⟨x, v, rfl, rfl⟩
      obtain ⟨z, rfl⟩ : ∃ z, y = V.int z := by
        rw [List.getElem?_map] at hi
        cases e : (ns.take 200)[i]? with
        | none => rw [e] at hi; cases hi
        | some z => rw [e] at hi; exact ⟨z, (Option.some.inj hi).symm⟩
      refine ⟨_, rfl, _, _, rfl, rfl, .inr ⟨by decide, by decide⟩, _, rfl, _, _, rfl, rfl, ⟨by decide, by decide, by decide⟩, _, _, rfl, rfl, (show ((10 : Int) ^ (30 : Int).toNat) ≠ 0 by decide), _, _, rfl, rfl, _, _, rfl, rfl, _, _, rfl, rfl, (show (2305843009213693951 : Int) ≠ 0 by decide), ?_⟩
      exact ⟨_, _, rfl, rfl⟩
    · rintro σ H' ⟨x, v, rfl, rfl⟩
      have lc : LenV K (.ref a) H' (ns.map V.int).length := .inl ⟨_, hS1, rfl⟩
      rw [List.length_map] at lc
      have last : tSeq tNext (tRet (tLst (tCons (tVar 1) tNil))) { nx := fun _ H'' => Q .non H'', rt := Q } [some (.ref a), some (.int x), v] H' := by
        refine ⟨_, rfl, (by show 1 ≤ sizeLine; decide), fun b hb => ?_⟩
        exact k b _ (s1.free hb) (s1.trans (same_upd hb)) ⟨x, .inl upd_same⟩
      refine ⟨_, rfl, _, _, rfl, lc, _, _, rfl, rfl, _, rfl, ?_⟩
      refine iteP (fun h0 => ?_) (fun _ => ?_)
      · obtain ⟨n0, g0⟩ : ∃ n, ns[0]? = some n := ⟨ns[0]'(by omega), by simp⟩
        have a0 : atI (ns.map V.int) 0 = some (V.int n0) := atI_nat (j := 0) (by rw [List.getElem?_map, g0]; rfl)
        refine ⟨_, rfl, _, _, _, _, rfl, rfl, hS1, a0, _, _, rfl, rfl, _, rfl, ?_⟩
        refine iteP (fun _ => ?_) (fun _ => ?_)
        · refine ⟨_, rfl, _, _, _, _, rfl, rfl, hS1, a0, _, _, rfl, rfl, (show (2 : Int) ≠ 0 by decide), rfl, _, rfl, ?_⟩
          refine iteI (fun _ => ?_) (fun _ => ?_)
          · refine ⟨_, rfl, _, _, _, _, rfl, rfl, hS1, a0, _, _, rfl, rfl, ⟨by decide, by decide⟩, _, rfl, (by show 2 ≤ sizeLine; decide), fun b hb => ?_⟩
            exact k b _ (s1.free hb) (s1.trans (same_upd hb)) ⟨x, .inr ⟨_, upd_same⟩⟩
          · exact last
        · exact last
      · exact last
theorem Dr.same {H H' : Hp} {a : Addr} (e : Same H H') (h : Dr H a) : Dr H' a := by
  obtain ⟨x, h | ⟨d, h⟩⟩ := h
  · exact ⟨x, .inl (e _ _ h)⟩
  · exact ⟨x, .inr ⟨d, e _ _ h⟩⟩
theorem Dr.lst {H : Hp} {a : Addr} (h : Dr H a) : ∃ xs, H a = some (.lst xs) := by
  obtain ⟨x, h | ⟨d, h⟩⟩ := h
  · exact ⟨_, h⟩
  · exact ⟨_, h⟩
theorem SameX.tt {a : Addr} {H H' : Hp} (s : SameX a H H') (d : Dr H a) : SameT H H' := fun p vs h => s p _ (by
  rintro rfl
  obtain ⟨xs, e⟩ := d.lst
  rw [h] at e; cases e) h
theorem KAt.samx {C : Addr} {fs : List (Str × V)} {a : Addr} {H H' : Hp} {k : V} (s : SameX a H H') (d : Dr H a) (h : KAt C fs H k) : KAt C fs H' k := by
  obtain ⟨p, dx, rfl, h⟩ := h
  exact ⟨p, dx, rfl, s p _ (by
    rintro rfl
    obtain ⟨xs, e⟩ := d.lst
    rw [h] at e; cases e) h⟩
theorem SameX.tup {a p : Addr} {H : Hp} {o : HO} (n : H p = none) (d : Dr H a) : SameX a H (L2.upd H p o) ∧ Dr (L2.upd H p o) a := ⟨.of (same_upd n), d.same (same_upd n)⟩
/-! the law's own reckoning -/
def sp_low : Sp := fun vs H Q _ => ∃ a b, vs = [.int a, .int b] ∧ 0 < b ∧ ∀ v H', Same H H' → IsF H' v (tp a b) (bt a b) → Q v H'
theorem ok_law_low (T : Txt K mg t) : FnOk Pr w K mg base CX0 36 t.law_low t.d_law_low ["_law_top", "_law_bottom"] sp_low := by
  refine T.F_law_low.ok sc_law_low (fun vs H Q E h => ?_) (fun cdv A outer s H vs Q E hr h => ?_)
  · obtain ⟨a, b, rfl, _⟩ := h
    rfl
  · obtain ⟨a, b, rfl, pb, k⟩ := h
    have hd : dv b a ≠ 0 := by rw [dv_comm]; exact Int.ne_of_gt (dv_pos (by omega))
    refine ⟨_, (pss_cons (ps_set (i := 2) sc_law_low.nd rfl (Or.inl rfl) (pv 0)) (pss_cons (ps_set (i := 3) sc_law_low.nd rfl (Or.inl rfl) (pv 1)) (pss_cons (ps_while PassesOwn.never (pt_cmpR op_ne (pv 2) pe_int (nomark _)) (pss_one (ps_par (i := 2) (j := 3) rfl sc_law_low.nd rfl rfl (by decide) rfl rfl (pa_cons (pe_op op_modN (pv 3) (pv 2)) (pa_cons (pv 2) pa_nil)) rfl))) (pss_cons (ps_set (i := 3) sc_law_low.nd rfl (Or.inl rfl) (pe_callB call_abs (by rfl) T.z_abs boot_abs (pa_cons (pv 3) pa_nil))) (pss_one (ps_ret (pe_tup (pa_cons (pe_op (op_fdivP hr (by decide) tree0) (pv 0) (pv 3)) (pa_cons (pe_op (op_fdivP hr (by decide) tree0) (pv 1) (pv 3)) pa_nil))))))))), ?_⟩
    refine ⟨_, rfl, _, rfl, ?_⟩
    refine ⟨fun m σ H' => ∃ x y, σ = [some (.int a), some (.int b), some (.int x), some (.int y)] ∧ m = x.natAbs ∧ dv y x = dv b a ∧ H' = H, ⟨_, _, _, rfl, rfl, rfl, rfl⟩, ?_⟩
    rintro m σ H' ⟨x, y, rfl, rfl, e, rfl⟩
    refine ⟨_, rfl, rfl, _, rfl, ?_⟩
    refine iteNI (fun h0 => ?_) (fun h0 => ?_)
    · refine ⟨fun σ' H'' => ∃ x' y', σ' = [some (.int a), some (.int b), some (.int x'), some (.int y')] ∧ x'.natAbs < x.natAbs ∧ dv y' x' = dv b a ∧ H'' = H', fun σ' H'' ⟨x', y', e1, e2, e3, e4⟩ => ⟨_, e2, x', y', e1, rfl, e3, e4⟩, ?_⟩
      refine ⟨_, rfl, _, rfl, _, _, rfl, rfl, h0, _, rfl, _, _, rfl, ?_⟩
      exact ⟨_, _, rfl, fmod_abs_lt _ _ h0, l_turn e, rfl⟩
    · refine ⟨_, rfl, _, rfl, ?_⟩
      (try dsimp only)
      rw [out2 e h0]
      refine ⟨_, rfl, _, rfl, _, _, rfl, rfl, hd, _, rfl, _, rfl, _, _, rfl, rfl, hd, (by show 2 ≤ sizeLine; decide), fun p hp => ?_⟩
      refine k _ _ (same_upd hp) ?_
      (try dsimp only)
      rw [dv_comm b a, (fr_is pb).1, (fr_is pb).2]
      exact IsF.new
def sp_lbin (T : Txt K mg t) (f : ∀ S : SR, S.W → S.W → S.W) : Sp := fun vs H Q _ => ∃ (R : KindR Pr w K mg base), ∃ nm p so x y a b m n, So T R nm p ∧ vs = [so, x, y] ∧
  (SortAt H so nm p ∧ R.is H x a ∧ R.is H y b ∧ R.S.sz m a ∧ R.S.sz n b ∧ m + n ≤ 60000000) ∧ ∀ v H', Same H H' → R.is H' v (f R.S a b) → Q v H'
theorem ok_law_plus (T : Txt K mg t) : FnOk Pr w K mg base CX0 37 t.law_plus t.d_law_plus ["_law_sort_here", "_law_x", "_law_y"] (sp_lbin (w := w) (base := base) T fun S => S.add) := by
  refine T.F_law_plus.ok sc_law_plus (fun vs H Q E h => ?_) (fun cdv A outer s H vs Q E hr h => ?_)
  · obtain ⟨R, nm, p, so, x, y, a, b, m, n, _, rfl, _⟩ := h
    rfl
  · obtain ⟨R, nm, p, so, x, y, a, b, m, n, hS, rfl, ⟨⟨q, rfl, hq⟩, hx, hy, sa, sb, hmn⟩, k⟩ := h
    refine ⟨_, (pss_cons (ps_if (pt_cmpR op_eq (pe_ix ix_tup (pv 0) pe_int (fun _ _ => rfl)) pe_str (nomark _)) (pss_one (ps_ret (pe_call (ok_law_low T) (hr.mono (by decide)) rfl T.m_law_low T.F_law_low.kp T.b_law_low .nil pass0 (pa_cons (pe_op op_add (pe_op op_mulG (pe_ix ix_tup (pv 1) pe_int (fun _ _ => rfl)) (pe_ix ix_tup (pv 2) pe_int (fun _ _ => rfl))) (pe_op op_mulG (pe_ix ix_tup (pv 2) pe_int (fun _ _ => rfl)) (pe_ix ix_tup (pv 1) pe_int (fun _ _ => rfl)))) (pa_cons (pe_op op_mulG (pe_ix ix_tup (pv 1) pe_int (fun _ _ => rfl)) (pe_ix ix_tup (pv 2) pe_int (fun _ _ => rfl))) pa_nil))))) pss_nil) (pss_cons (ps_if (pt_cmpR op_eq (pe_ix ix_tup (pv 0) pe_int (fun _ _ => rfl)) pe_str (nomark _)) (pss_one (ps_ret (pe_op op_modN (pe_op op_add (pv 1) (pv 2)) (pe_ix ix_tup (pv 0) pe_int (fun _ _ => rfl))))) pss_nil) (pss_cons (ps_if (pt_cmpR op_eq (pe_ix ix_tup (pv 0) pe_int (fun _ _ => rfl)) pe_str (nomark _)) (pss_one (ps_ret (pe_or (pv 1) (pe_one (pv 2))))) pss_nil) (pss_cons (ps_if (PW.pt (pw_or (pt_cmpR op_isN (pv 1) pe_non (nomark _)) (pw_or1 (PW.pt (pw_and (pt_cmpR op_notN (pv 2) pe_non (nomark _)) (pw_and1 (pt_cmpR op_lt (pv 2) (pv 1) (nomark _)))))))) (pss_one (ps_ret (pv 2))) pss_nil) (pss_one (ps_ret (pv 1))))))), ?_⟩
    cases hS with
    | fr =>
      obtain ⟨px, rfl, hx⟩ := hx
      obtain ⟨py, rfl, hy⟩ := hy
      have sa : a.sz m := sa
      have sb : b.sz n := sb
      refine ⟨_, rfl, _, _, _, _, rfl, rfl, SqT.of hq, rfl, rfl, _, rfl, ?_⟩
      rw [show decide (V.str ("fractions" : Str) = V.str ("fractions" : Str)) = true by decide +kernel]
      refine iteT ?_
      refine ⟨_, rfl, _, _, _, _, rfl, rfl, SqT.of hx, rfl, _, rfl, _, _, _, _, rfl, rfl, SqT.of hy, rfl, _, _, rfl, rfl, mulG (n := n) sa.1 sb.2 (by omega), _, rfl, _, _, _, _, rfl, rfl, SqT.of hy, rfl, _, rfl, _, _, _, _, rfl, rfl, SqT.of hx, rfl, _, _, rfl, rfl, mulG (n := m) sb.1 sa.2 (by omega), _, _, rfl, rfl, ?_⟩
      refine ⟨_, rfl, _, _, _, _, rfl, rfl, SqT.of hx, rfl, _, rfl, _, _, _, _, rfl, rfl, SqT.of hy, rfl, _, _, rfl, rfl, mulG (n := n) sa.2 sb.2 (by omega), _, _, rfl, Int.mul_pos a.p b.p, fun v H' s' f' => k v H' s' f'⟩
    | re p hp hq' hi =>
      cases (show x = .int a.x from hx)
      cases (show y = .int b.x from hy)
      refine ⟨_, rfl, _, _, _, _, rfl, rfl, SqT.of hq, rfl, rfl, _, rfl, ?_⟩
      rw [show decide (V.str ("residues" : Str) = V.str ("fractions" : Str)) = false by decide +kernel]
      refine iteF ?_
      refine ⟨_, rfl, _, _, _, _, rfl, rfl, SqT.of hq, rfl, rfl, _, rfl, ?_⟩
      rw [show decide (V.str ("residues" : Str) = V.str ("residues" : Str)) = true by decide +kernel]
      refine iteT ?_
      refine ⟨_, rfl, _, rfl, _, _, rfl, rfl, _, rfl, _, _, _, _, rfl, rfl, SqT.of hq, rfl, _, _, rfl, rfl, (show p ≠ 0 by omega), ?_⟩
      exact k _ _ (Same.refl _) rfl
    | tr =>
      cases (show x = .bl a from hx)
      cases (show y = .bl b from hy)
      refine ⟨_, rfl, _, _, _, _, rfl, rfl, SqT.of hq, rfl, rfl, _, rfl, ?_⟩
      rw [show decide (V.str ("truths" : Str) = V.str ("fractions" : Str)) = false by decide +kernel]
      refine iteF ?_
      refine ⟨_, rfl, _, _, _, _, rfl, rfl, SqT.of hq, rfl, rfl, _, rfl, ?_⟩
      rw [show decide (V.str ("truths" : Str) = V.str ("residues" : Str)) = false by decide +kernel]
      refine iteF ?_
      refine ⟨_, rfl, _, _, _, _, rfl, rfl, SqT.of hq, rfl, rfl, _, rfl, ?_⟩
      rw [show decide (V.str ("truths" : Str) = V.str ("truths" : Str)) = true by decide +kernel]
      refine iteT ?_
      have k' := k (.bl (a || b)) H (Same.refl _) rfl
      cases a with
      | true => exact ⟨_, rfl, _, rfl, iteT k'⟩
      | false => exact ⟨_, rfl, _, rfl, iteF ⟨_, rfl, k'⟩⟩
    | co =>
      cases (show x = cV a from hx)
      cases (show y = cV b from hy)
      refine ⟨_, rfl, _, _, _, _, rfl, rfl, SqT.of hq, rfl, rfl, _, rfl, ?_⟩
      rw [show decide (V.str ("costs" : Str) = V.str ("fractions" : Str)) = false by decide +kernel]
      refine iteF ?_
      refine ⟨_, rfl, _, _, _, _, rfl, rfl, SqT.of hq, rfl, rfl, _, rfl, ?_⟩
      rw [show decide (V.str ("costs" : Str) = V.str ("residues" : Str)) = false by decide +kernel]
      refine iteF ?_
      refine ⟨_, rfl, _, _, _, _, rfl, rfl, SqT.of hq, rfl, rfl, _, rfl, ?_⟩
      rw [show decide (V.str ("costs" : Str) = V.str ("truths" : Str)) = false by decide +kernel]
      refine iteF ?_
      have k' := k (cV (cAdd a b)) H (Same.refl _) rfl
      cases a with
      | none =>
        refine ⟨_, rfl, rfl, _, rfl, ?_⟩
        refine iteT ?_
        exact ⟨_, rfl, k'⟩
      | some i =>
        refine ⟨_, rfl, rfl, _, rfl, ?_⟩
        refine iteF ?_
        cases b with
        | none =>
          refine ⟨_, rfl, rfl, _, rfl, ?_⟩
          (try refine iteF ?_)
          (try refine iteF ?_)
          exact ⟨_, rfl, k'⟩
        | some j =>
          refine ⟨_, rfl, rfl, _, rfl, ?_⟩
          (try refine iteT ?_)
          refine ⟨_, rfl, _, rfl, _, _, rfl, rfl, _, rfl, ?_⟩
          have k' : Q (.int (if j < i then j else i)) H := k'
          refine iteP (fun h0 => ?_) (fun h0 => ?_)
          · rw [if_pos h0] at k'
            exact ⟨_, rfl, k'⟩
          · rw [if_neg h0] at k'
            exact ⟨_, rfl, k'⟩
theorem ok_law_times (T : Txt K mg t) : FnOk Pr w K mg base CX0 37 t.law_times t.d_law_times ["_law_sort_here", "_law_x", "_law_y"] (sp_lbin (w := w) (base := base) T fun S => S.mul) := by
  refine T.F_law_times.ok sc_law_times (fun vs H Q E h => ?_) (fun cdv A outer s H vs Q E hr h => ?_)
  · obtain ⟨R, nm, p, so, x, y, a, b, m, n, _, rfl, _⟩ := h
    rfl
  · obtain ⟨R, nm, p, so, x, y, a, b, m, n, hS, rfl, ⟨⟨q, rfl, hq⟩, hx, hy, sa, sb, hmn⟩, k⟩ := h
    refine ⟨_, (pss_cons (ps_if (pt_cmpR op_eq (pe_ix ix_tup (pv 0) pe_int (fun _ _ => rfl)) pe_str (nomark _)) (pss_one (ps_ret (pe_call (ok_law_low T) (hr.mono (by decide)) rfl T.m_law_low T.F_law_low.kp T.b_law_low .nil pass0 (pa_cons (pe_op op_mulG (pe_ix ix_tup (pv 1) pe_int (fun _ _ => rfl)) (pe_ix ix_tup (pv 2) pe_int (fun _ _ => rfl))) (pa_cons (pe_op op_mulG (pe_ix ix_tup (pv 1) pe_int (fun _ _ => rfl)) (pe_ix ix_tup (pv 2) pe_int (fun _ _ => rfl))) pa_nil))))) pss_nil) (pss_cons (ps_if (pt_cmpR op_eq (pe_ix ix_tup (pv 0) pe_int (fun _ _ => rfl)) pe_str (nomark _)) (pss_one (ps_ret (pe_op op_modN (pe_op op_mul (pv 1) (pv 2)) (pe_ix ix_tup (pv 0) pe_int (fun _ _ => rfl))))) pss_nil) (pss_cons (ps_if (pt_cmpR op_eq (pe_ix ix_tup (pv 0) pe_int (fun _ _ => rfl)) pe_str (nomark _)) (pss_one (ps_ret (pe_and (pv 1) (pe_one (pv 2))))) pss_nil) (pss_cons (ps_if (PW.pt (pw_or (pt_cmpR op_isN (pv 1) pe_non (nomark _)) (pw_or1 (pt_cmpR op_isN (pv 2) pe_non (nomark _))))) (pss_one (ps_ret pe_non)) pss_nil) (pss_one (ps_ret (pe_op op_add (pv 1) (pv 2)))))))), ?_⟩
    cases hS with
    | fr =>
      obtain ⟨px, rfl, hx⟩ := hx
      obtain ⟨py, rfl, hy⟩ := hy
      have sa : a.sz m := sa
      have sb : b.sz n := sb
      refine ⟨_, rfl, _, _, _, _, rfl, rfl, SqT.of hq, rfl, rfl, _, rfl, ?_⟩
      rw [show decide (V.str ("fractions" : Str) = V.str ("fractions" : Str)) = true by decide +kernel]
      refine iteT ?_
      refine ⟨_, rfl, _, _, _, _, rfl, rfl, SqT.of hx, rfl, _, rfl, _, _, _, _, rfl, rfl, SqT.of hy, rfl, _, _, rfl, rfl, mulG (n := n) sa.1 sb.1 (by omega), ?_⟩
      refine ⟨_, rfl, _, _, _, _, rfl, rfl, SqT.of hx, rfl, _, rfl, _, _, _, _, rfl, rfl, SqT.of hy, rfl, _, _, rfl, rfl, mulG (n := n) sa.2 sb.2 (by omega), _, _, rfl, Int.mul_pos a.p b.p, fun v H' s' f' => k v H' s' f'⟩
    | re p hp hq' hi =>
      cases (show x = .int a.x from hx)
      cases (show y = .int b.x from hy)
      have cm : CMul a.x b.x := .inl ⟨by have := a.h0; omega, by have := a.h1; omega⟩
      refine ⟨_, rfl, _, _, _, _, rfl, rfl, SqT.of hq, rfl, rfl, _, rfl, ?_⟩
      rw [show decide (V.str ("residues" : Str) = V.str ("fractions" : Str)) = false by decide +kernel]
      refine iteF ?_
      refine ⟨_, rfl, _, _, _, _, rfl, rfl, SqT.of hq, rfl, rfl, _, rfl, ?_⟩
      rw [show decide (V.str ("residues" : Str) = V.str ("residues" : Str)) = true by decide +kernel]
      refine iteT ?_
      refine ⟨_, rfl, _, rfl, _, _, rfl, rfl, cm, _, rfl, _, _, _, _, rfl, rfl, SqT.of hq, rfl, _, _, rfl, rfl, (show p ≠ 0 by omega), ?_⟩
      exact k _ _ (Same.refl _) rfl
    | tr =>
      cases (show x = .bl a from hx)
      cases (show y = .bl b from hy)
      refine ⟨_, rfl, _, _, _, _, rfl, rfl, SqT.of hq, rfl, rfl, _, rfl, ?_⟩
      rw [show decide (V.str ("truths" : Str) = V.str ("fractions" : Str)) = false by decide +kernel]
      refine iteF ?_
      refine ⟨_, rfl, _, _, _, _, rfl, rfl, SqT.of hq, rfl, rfl, _, rfl, ?_⟩
      rw [show decide (V.str ("truths" : Str) = V.str ("residues" : Str)) = false by decide +kernel]
      refine iteF ?_
      refine ⟨_, rfl, _, _, _, _, rfl, rfl, SqT.of hq, rfl, rfl, _, rfl, ?_⟩
      rw [show decide (V.str ("truths" : Str) = V.str ("truths" : Str)) = true by decide +kernel]
      refine iteT ?_
      have k' := k (.bl (a && b)) H (Same.refl _) rfl
      cases a with
      | true => exact ⟨_, rfl, _, rfl, iteT ⟨_, rfl, k'⟩⟩
      | false => exact ⟨_, rfl, _, rfl, iteF k'⟩
    | co =>
      cases (show x = cV a from hx)
      cases (show y = cV b from hy)
      refine ⟨_, rfl, _, _, _, _, rfl, rfl, SqT.of hq, rfl, rfl, _, rfl, ?_⟩
      rw [show decide (V.str ("costs" : Str) = V.str ("fractions" : Str)) = false by decide +kernel]
      refine iteF ?_
      refine ⟨_, rfl, _, _, _, _, rfl, rfl, SqT.of hq, rfl, rfl, _, rfl, ?_⟩
      rw [show decide (V.str ("costs" : Str) = V.str ("residues" : Str)) = false by decide +kernel]
      refine iteF ?_
      refine ⟨_, rfl, _, _, _, _, rfl, rfl, SqT.of hq, rfl, rfl, _, rfl, ?_⟩
      rw [show decide (V.str ("costs" : Str) = V.str ("truths" : Str)) = false by decide +kernel]
      refine iteF ?_
      have k' := k (cV (cMul a b)) H (Same.refl _) rfl
      cases a with
      | none =>
        refine ⟨_, rfl, rfl, _, rfl, ?_⟩
        (try refine iteT ?_)
        (try refine iteT ?_)
        exact k'
      | some i =>
        refine ⟨_, rfl, rfl, _, rfl, ?_⟩
        refine iteF ?_
        cases b with
        | none =>
          refine ⟨_, rfl, rfl, _, rfl, ?_⟩
          (try refine iteT ?_)
          exact k'
        | some j =>
          refine ⟨_, rfl, rfl, _, rfl, ?_⟩
          (try refine iteF ?_)
          exact ⟨_, rfl, _, rfl, _, _, rfl, rfl, k'⟩
def nts (p1 : Addr) : List (Key × V) := [(Sum.inr "fractions", .ref p1), (Sum.inr "residues", .int 0), (Sum.inr "costs", .non), (Sum.inr "truths", .bl false)]
theorem nts_fr (p1 : Addr) : valV (mergeK [] (nts p1)) (Sum.inr "fractions") = some (.ref p1) := by kernel_rfl
theorem nts_re (p1 : Addr) : valV (mergeK [] (nts p1)) (Sum.inr "residues") = some (.int 0) := by kernel_rfl
theorem nts_co (p1 : Addr) : valV (mergeK [] (nts p1)) (Sum.inr "costs") = some .non := by kernel_rfl
theorem nts_tr (p1 : Addr) : valV (mergeK [] (nts p1)) (Sum.inr "truths") = some (.bl false) := by kernel_rfl
def sp_lnought (T : Txt K mg t) : Sp := fun vs H Q _ => ∃ (R : KindR Pr w K mg base), ∃ nm p so, So T R nm p ∧ vs = [so] ∧ SortAt H so nm p ∧ ∀ v H', Same H H' → R.is H' v R.S.zero → Q v H'
theorem ok_law_nought (T : Txt K mg t) : FnOk Pr w K mg base CX0 1 t.law_nought t.d_law_nought ["_law_sort_here"] (sp_lnought (w := w) (base := base) T) := by
  refine T.F_law_nought.ok sc_law_nought (fun vs H Q E h => ?_) (fun cdv A outer s H vs Q E hr h => ?_)
  · obtain ⟨R, nm, p, so, _, rfl, _⟩ := h
    rfl
  · obtain ⟨R, nm, p, so, hS, rfl, ⟨q, rfl, hq⟩, k⟩ := h
    refine ⟨_, (pss_one (ps_ret (pe_dget (hu_of hr) (pe_disp (pps_cons pe_str (pe_tup (pa_cons pe_int (pa_cons pe_int pa_nil))) (pps_cons pe_str pe_int (pps_cons pe_str pe_non (pps_cons pe_str pe_bl pps_nil)))) rfl rfl (fun h => by cases h) (by decide)) (pe_ix ix_tup (pv 0) pe_int (fun _ _ => rfl)) (fun _ _ => rfl)))), ?_⟩
    intro d nd
    refine ⟨(by show 2 ≤ sizeLine; decide), fun p1 n1 => ?_⟩
    have s1 := same_upd (o := .dK []) nd
    have s2 := same_upd (o := .tup [.int 0, .int 1]) n1
    have nd1 : p1 ≠ d := fun e => by rw [e, upd_same] at n1; cases n1
    have s3 : Same H (upd (upd (upd H d (.dK [])) p1 (.tup [.int 0, .int 1])) d (.dK (mergeK [] (nts p1)))) := fun b o e => by
      rw [upd_ne (ne_of_none e nd)]
      exact (s1.trans s2) _ _ e
    refine ⟨s2 _ _ upd_same, nts p1, rfl, (by show 4 ≤ 15; decide), ?_⟩
    refine ⟨_, rfl, _, _, _, _, rfl, rfl, SqT.of (s3 _ _ hq), rfl, ?_⟩
    have g := DGet.k (H := upd (upd (upd H d (.dK [])) p1 (.tup [.int 0, .int 1])) d (.dK (mergeK [] (nts p1)))) (k := Sum.inr nm) upd_same
    cases hS with
    | fr =>
      rw [nts_fr] at g
      exact ⟨_, _, rfl, g, k _ _ s3 ⟨p1, rfl, by rw [upd_ne nd1, upd_same]; rfl⟩⟩
    | re p hp hq' hi =>
      rw [nts_re] at g
      exact ⟨_, _, rfl, g, k _ _ s3 rfl⟩
    | co =>
      rw [nts_co] at g
      exact ⟨_, _, rfl, g, k _ _ s3 rfl⟩
    | tr =>
      rw [nts_tr] at g
      exact ⟨_, _, rfl, g, k _ _ s3 rfl⟩
theorem nine9 {r : Int} (h0 : 0 ≤ r) (h1 : r < 9) : ∃ p : Int, atI ([2, 3, 5, 7, 11, 13, 101, 65537, 999983].map V.int) r = some (V.int p) ∧ 2 ≤ p ∧ p ≤ 1000000 ∧ isP p = true := by
  rcases (by omega : r = 0 ∨ r = 1 ∨ r = 2 ∨ r = 3 ∨ r = 4 ∨ r = 5 ∨ r = 6 ∨ r = 7 ∨ r = 8) with rfl | rfl | rfl | rfl | rfl | rfl | rfl | rfl | rfl
  · exact ⟨2, rfl, by decide, by decide, p2⟩
  · exact ⟨3, rfl, by decide, by decide, p3⟩
  · exact ⟨5, rfl, by decide, by decide, p5⟩
  · exact ⟨7, rfl, by decide, by decide, p7⟩
  · exact ⟨11, rfl, by decide, by decide, p11⟩
  · exact ⟨13, rfl, by decide, by decide, p13⟩
  · exact ⟨101, rfl, by decide, by decide, p101⟩
  · exact ⟨65537, rfl, by decide, by decide, p65537⟩
  · exact ⟨999983, rfl, by decide, by decide, p999983⟩
def sp_sort (T : Txt K mg t) : Sp := fun vs H Q _ => ∃ (a : Addr) (wy : Int), vs = [.ref a, .int wy] ∧ (Dr H a ∧ 0 ≤ wy ∧ wy < 4) ∧ ∀ (R : KindR Pr w K mg base) nm p v H', So T R nm p → SortAt H' v nm p → SameX a H H' → Dr H' a → Q v H'
theorem ok_law_sort (T : Txt K mg t) : FnOk Pr w K mg base CX0 2 t.law_sort t.d_law_sort ["_law_state_here", "_law_way"] (sp_sort (w := w) (base := base) T) := by
  refine T.F_law_sort.ok sc_law_sort (fun vs H Q E h => ?_) (fun cdv A outer s H vs Q E hr h => ?_)
  · obtain ⟨a, wy, rfl, _⟩ := h
    rfl
  · obtain ⟨a, wy, rfl, ⟨hD, w0, w4⟩, k⟩ := h
    refine ⟨_, (pss_cons (ps_set (i := 2) sc_law_sort.nd rfl (Or.inl rfl) (pe_ix ix_list (pe_lst (pa_cons pe_int (pa_cons pe_int (pa_cons pe_int (pa_cons pe_int (pa_cons pe_int (pa_cons pe_int (pa_cons pe_int (pa_cons pe_int (pa_cons pe_int pa_nil)))))))))) (pe_call (ok_law_next T) (hr.mono (by decide)) rfl T.m_law_next T.F_law_next.kp T.b_law_next .nil pass0 (pa_cons (pv 0) (pa_cons pe_int pa_nil))) (fun _ _ => rfl))) (pss_one (ps_ret (pe_ix ix_list (pe_lst (pa_cons (pe_tup (pa_cons pe_str (pa_cons pe_int pa_nil))) (pa_cons (pe_tup (pa_cons pe_str (pa_cons (pv 2) pa_nil))) (pa_cons (pe_tup (pa_cons pe_str (pa_cons pe_int pa_nil))) (pa_cons (pe_tup (pa_cons pe_str (pa_cons pe_int pa_nil))) pa_nil))))) (pv 1) (fun _ _ => rfl))))), ?_⟩
    refine ⟨(by show 9 ≤ sizeLine; decide), fun l0 h0 => ?_⟩
    have e0 := same_upd (o := .lst ([2, 3, 5, 7, 11, 13, 101, 65537, 999983].map V.int)) h0
    have la : l0 ≠ a := fun e => by obtain ⟨xs, z⟩ := hD.lst; rw [← e, h0] at z; cases z
    refine ⟨_, rfl, a, 9, rfl, ⟨hD.same e0, by decide, by decide⟩, fun r H1 s1 d1 r0 r1 => ?_⟩
    obtain ⟨p, ap, hp⟩ := nine9 r0 r1
    refine ⟨_, _, _, _, rfl, rfl, SqL.of (s1 _ _ la upd_same), ap, ?_⟩
    have q1 : SameX a H H1 := (SameX.of e0).trans s1
    refine ⟨(by show 2 ≤ sizeLine; decide), fun p1 n1 => ⟨_, rfl, (by show 2 ≤ sizeLine; decide), fun p2 n2 => ⟨(by show 2 ≤ sizeLine; decide), fun p3 n3 => ⟨(by show 2 ≤ sizeLine; decide), fun p4 n4 => ⟨(by show 4 ≤ sizeLine; decide), fun l nl => ?_⟩⟩⟩⟩⟩
    have t1 := same_upd (o := .tup [.str "fractions", .int 0]) n1
    have t2 := same_upd (o := .tup [.str "residues", .int p]) n2
    have t3 := same_upd (o := .tup [.str "costs", .int 0]) n3
    have t4 := same_upd (o := .tup [.str "truths", .int 0]) n4
    have t5 := same_upd (o := .lst [V.ref p1, .ref p2, .ref p3, .ref p4]) nl
    have tt := (((t1.trans t2).trans t3).trans t4).trans t5
    have q2 := q1.trans (.of tt)
    have d2 := d1.same tt
    rcases (by omega : wy = 0 ∨ wy = 1 ∨ wy = 2 ∨ wy = 3) with rfl | rfl | rfl | rfl
    · exact ⟨_, rfl, _, _, _, _, rfl, rfl, SqL.of upd_same, rfl, k _ _ _ _ _ .fr ⟨p1, rfl, (((t2.trans t3).trans t4).trans t5) _ _ upd_same⟩ q2 d2⟩
    · exact ⟨_, rfl, _, _, _, _, rfl, rfl, SqL.of upd_same, rfl, k _ _ _ _ _ (.re p hp.1 hp.2.1 hp.2.2) ⟨p2, rfl, ((t3.trans t4).trans t5) _ _ upd_same⟩ q2 d2⟩
    · exact ⟨_, rfl, _, _, _, _, rfl, rfl, SqL.of upd_same, rfl, k _ _ _ _ _ .co ⟨p3, rfl, (t4.trans t5) _ _ upd_same⟩ q2 d2⟩
    · exact ⟨_, rfl, _, _, _, _, rfl, rfl, SqL.of upd_same, rfl, k _ _ _ _ _ .tr ⟨p4, rfl, t5 _ _ upd_same⟩ q2 d2⟩
def sp_kind (T : Txt K mg t) : Sp := fun vs H Q _ => ∃ (R : KindR Pr w K mg base), ∃ nm p so, So T R nm p ∧ vs = [so] ∧ SortAt H so nm p ∧ ∀ v H', Same H H' → KAt R.C R.fs H' v → Q v H'
theorem ok_law_kind (T : Txt K mg t) : FnOk Pr w K mg base CX0 4 t.law_kind t.d_law_kind ["_law_sort_here"] (sp_kind (w := w) (base := base) T) := by
  refine T.F_law_kind.ok sc_law_kind (fun vs H Q E h => ?_) (fun cdv A outer s H vs Q E hr h => ?_)
  · obtain ⟨R, nm, p, so, _, rfl, _⟩ := h
    rfl
  · obtain ⟨R, nm, p, so, hS, rfl, ⟨q, rfl, hq⟩, k⟩ := h
    refine ⟨_, (pss_cons (ps_if (pt_cmpR op_eq (pe_ix ix_tup (pv 0) pe_int (fun _ _ => rfl)) pe_str (nomark _)) (pss_one (ps_ret (pe_makeO T.M_Fractions rfl T.m_Fractions))) pss_nil) (pss_cons (ps_if (pt_cmpR op_eq (pe_ix ix_tup (pv 0) pe_int (fun _ _ => rfl)) pe_str (nomark _)) (pss_one (ps_ret (pe_make T.M_Residues (ok_Residues___init__ T) (hr.mono (by decide)) rfl T.m_Residues T.b_Residues___init__ .nil pass0 (pa_cons (pe_ix ix_tup (pv 0) pe_int (fun _ _ => rfl)) pa_nil)))) pss_nil) (pss_cons (ps_if (pt_cmpR op_eq (pe_ix ix_tup (pv 0) pe_int (fun _ _ => rfl)) pe_str (nomark _)) (pss_one (ps_ret (pe_makeO T.M_Costs rfl T.m_Costs))) pss_nil) (pss_one (ps_ret (pe_makeO T.M_Truths rfl T.m_Truths)))))), ?_⟩
    cases hS with
    | fr =>
      refine ⟨_, rfl, _, _, _, _, rfl, rfl, SqT.of hq, rfl, rfl, _, rfl, ?_⟩
      rw [show decide (V.str ("fractions" : Str) = V.str ("fractions" : Str)) = true by decide +kernel]
      refine iteT ?_
      intro x dx nx ndx nex
      exact k _ _ (same_made nx ndx) ⟨_, _, rfl, upd_same⟩
    | re p hp hq' hi =>
      refine ⟨_, rfl, _, _, _, _, rfl, rfl, SqT.of hq, rfl, rfl, _, rfl, ?_⟩
      rw [show decide (V.str ("residues" : Str) = V.str ("fractions" : Str)) = false by decide +kernel]
      refine iteF ?_
      refine ⟨_, rfl, _, _, _, _, rfl, rfl, SqT.of hq, rfl, rfl, _, rfl, ?_⟩
      rw [show decide (V.str ("residues" : Str) = V.str ("residues" : Str)) = true by decide +kernel]
      refine iteT ?_
      refine ⟨_, rfl, _, _, _, _, rfl, rfl, SqT.of hq, rfl, fun x dx nx ndx nex => ⟨x, dx, _, rfl, ⟨hp, hq', hi⟩, upd_same, rfl, ?_⟩⟩
      rw [upd_upd]
      exact k _ _ (same_made nx ndx) ⟨_, _, rfl, upd_same⟩
    | co =>
      refine ⟨_, rfl, _, _, _, _, rfl, rfl, SqT.of hq, rfl, rfl, _, rfl, ?_⟩
      rw [show decide (V.str ("costs" : Str) = V.str ("fractions" : Str)) = false by decide +kernel]
      refine iteF ?_
      refine ⟨_, rfl, _, _, _, _, rfl, rfl, SqT.of hq, rfl, rfl, _, rfl, ?_⟩
      rw [show decide (V.str ("costs" : Str) = V.str ("residues" : Str)) = false by decide +kernel]
      refine iteF ?_
      refine ⟨_, rfl, _, _, _, _, rfl, rfl, SqT.of hq, rfl, rfl, _, rfl, ?_⟩
      rw [show decide (V.str ("costs" : Str) = V.str ("costs" : Str)) = true by decide +kernel]
      refine iteT ?_
      intro x dx nx ndx nex
      exact k _ _ (same_made nx ndx) ⟨_, _, rfl, upd_same⟩
    | tr =>
      refine ⟨_, rfl, _, _, _, _, rfl, rfl, SqT.of hq, rfl, rfl, _, rfl, ?_⟩
      rw [show decide (V.str ("truths" : Str) = V.str ("fractions" : Str)) = false by decide +kernel]
      refine iteF ?_
      refine ⟨_, rfl, _, _, _, _, rfl, rfl, SqT.of hq, rfl, rfl, _, rfl, ?_⟩
      rw [show decide (V.str ("truths" : Str) = V.str ("residues" : Str)) = false by decide +kernel]
      refine iteF ?_
      refine ⟨_, rfl, _, _, _, _, rfl, rfl, SqT.of hq, rfl, rfl, _, rfl, ?_⟩
      rw [show decide (V.str ("truths" : Str) = V.str ("costs" : Str)) = false by decide +kernel]
      refine iteF ?_
      intro x dx nx ndx nex
      exact k _ _ (same_made nx ndx) ⟨_, _, rfl, upd_same⟩
def sp_ldot (T : Txt K mg t) : Sp := fun vs H Q _ => ∃ (R : KindR Pr w K mg base), ∃ nm p so row col n x y m m', So T R nm p ∧ vs = [so, row, col] ∧ (SortAt H so nm p ∧ R.Seq n x m row H ∧ R.Seq n y m' col H ∧ n ≤ 32 ∧ m + m' ≤ 100000) ∧
  ∀ v H', Same H H' → R.is H' v (dotW R.S x y n) → R.S.lv (m + m') 32 (dotW R.S x y n) → Q v H'
theorem ok_law_dot (T : Txt K mg t) : FnOk Pr w K mg base CX0 41 t.law_dot t.d_law_dot ["_law_sort_here", "_law_row", "_law_column"] (sp_ldot (w := w) (base := base) T) := by
  refine T.F_law_dot.ok sc_law_dot (fun vs H Q E h => ?_) (fun cdv A outer s H vs Q E hr h => ?_)
  · obtain ⟨R, nm, p, so, row, col, n, x, y, m, m', _, rfl, _⟩ := h
    rfl
  · obtain ⟨R, nm, pp, so, row, col, n, x, y, m, m', hS, rfl, ⟨hso, ⟨S1, xs, o1, v1, w1, e1⟩, ⟨S2, ys, o2, v2, w2, e2⟩, hz⟩, k⟩ := h
    refine ⟨_, (pss_cons (ps_set (i := 3) sc_law_dot.nd rfl (Or.inl rfl) (pe_call (ok_law_nought T) (hr.mono (by decide)) rfl T.m_law_nought T.F_law_nought.kp T.b_law_nought .nil pass0 (pa_cons (pv 0) pa_nil))) (pss_cons (ps_for PassesOwn.never rfl (pi_zip rfl T.z_zip (pa_cons (pv 1) (pa_cons (pv 2) pa_nil))) (pg_tup rfl (pgs_cons (pg_name (i := 4) sc_law_dot.nd rfl (Or.inl rfl)) (pgs_cons (pg_name (i := 5) sc_law_dot.nd rfl (Or.inl rfl)) pgs_nil))) (pss_one (ps_set (i := 3) sc_law_dot.nd rfl (Or.inl rfl) (pe_call (ok_law_plus T) (hr.mono (by decide)) rfl T.m_law_plus T.F_law_plus.kp T.b_law_plus .nil pass0 (pa_cons (pv 0) (pa_cons (pv 3) (pa_cons (pe_call (ok_law_times T) (hr.mono (by decide)) rfl T.m_law_times T.F_law_times.kp T.b_law_times .nil pass0 (pa_cons (pv 0) (pa_cons (pv 4) (pa_cons (pv 5) pa_nil)))) pa_nil))))))) (pss_one (ps_ret (pv 3))))), ?_⟩
    refine ⟨_, rfl, R, nm, pp, _, hS, rfl, hso, fun z H1 s1 f1 => ?_⟩
    refine ⟨_, rfl, _, rfl, S1, S2, _, _, xs, ys, rfl, o1, o2, (w1 _ s1).1, (w2 _ s1).1, for_zip (K := K) (xs := xs) (ys := ys) (fun i σ H2 => ∃ tot v4 v5, σ = [some so, some row, some col, some tot, v4, v5] ∧ Same H H2 ∧ R.is H2 tot (dotW R.S x y i)) (by rw [e1.1, e2.1]) ⟨_, _, _, rfl, s1, f1⟩ (fun i σ H2 _ ⟨_, _, _, _, q, _⟩ => ⟨(w1 _ q).1, (w2 _ q).1⟩) ?_ ?_⟩
    · rintro i u v p σ H2 hu hv np ⟨tot, v4, v5, rfl, q, f⟩
      obtain ⟨hi, pu⟩ := e1.at hu
      obtain ⟨_, pv⟩ := e2.at hv
      have sp := same_upd (o := .tup [u, v]) np
      have q2 := q.trans sp
      refine ⟨p, _, rfl, SqT.of upd_same, rfl, _, _, rfl, _, _, rfl, rfl, ?_⟩
      refine ⟨_, rfl, _, rfl, _, rfl, _, rfl, _, rfl, R, nm, pp, _, _, _, _, _, 100 * m, 100 * m', hS, rfl, ⟨hso.same q2.t, R.same q2.t pu.1, R.same q2.t pv.1, R.S.lv_sz _ _ _ (by decide) pu.2, R.S.lv_sz _ _ _ (by decide) pv.2, by omega⟩, fun pr H3 s3 f3 => ?_⟩
      have q3 := q2.trans s3
      refine ⟨R, nm, pp, _, _, _, _, _, 100 * (m + m'), 100 * (m + m'), hS, rfl, ⟨hso.same q3.t, R.same (sp.trans s3).t f, f3, R.S.lv_sz _ _ _ (by omega) (dot_sz (fun j hj => wt_sz e1 j (Nat.lt_trans hj hi)) (fun j hj => wt_sz e2 j (Nat.lt_trans hj hi))), R.S.lv_sz _ _ _ (by decide) (R.S.lv_mul _ _ _ _ pu.2 pv.2), by omega⟩, fun tt H4 s4 f4 => ?_⟩
      exact ⟨_, _, _, rfl, q3.trans s4, f4⟩
    · rintro σ H2 ⟨tot, v4, v5, rfl, q, f⟩
      rw [e1.1] at f
      exact ⟨_, rfl, k _ _ q f (R.S.lv_mono _ _ _ _ hz.1 (dot_sz (wt_sz e1) (wt_sz e2)))⟩
theorem wt_z1 {f r : Int} (h : f.natAbs ≤ 10 ^ 26) (h0 : 0 ≤ r) (h1 : r < 9) : (f + r - 4).natAbs ≤ 2 ^ 90 := by
  have e1 : (10 : Nat) ^ 26 = 100000000000000000000000000 := by decide
  have e2 : (2 : Nat) ^ 90 = 1237940039285380274899124224 := by decide
  rw [e1] at h
  rw [e2]
  omega
theorem wt_z2 {r : Int} (h0 : 0 ≤ r) (h1 : r < 4) : (1 + r).natAbs ≤ 2 ^ 90 := by
  have e2 : (2 : Nat) ^ 90 = 1237940039285380274899124224 := by decide
  rw [e2]
  omega
theorem wt_far {r u : Int} (h0 : 0 ≤ r) (h1 : r < 10 ^ (13 : Int).toNat) (u0 : 0 ≤ u) (u1 : u < 2) : (r * 10 ^ (13 : Int).toNat * (1 - 2 * u)).natAbs ≤ 10 ^ 26 := by
  have e : (10 : Int) ^ (13 : Int).toNat = 10000000000000 := by decide
  have e1 : (10 : Nat) ^ 26 = 100000000000000000000000000 := by decide
  rw [e] at h1 ⊢
  rw [e1]
  rcases (by omega : u = 0 ∨ u = 1) with rfl | rfl <;> omega
def sp_lweight (T : Txt K mg t) : Sp := fun vs H Q _ => ∃ (R : KindR Pr w K mg base), ∃ nm p, ∃ (a : Addr), ∃ so g, So T R nm p ∧ vs = [.ref a, so, .bl g] ∧ (Dr H a ∧ SortAt H so nm p) ∧ ∀ v H' x, SameX a H H' → Dr H' a → R.is H' v x → R.S.lv 1 32 x → Q v H'
theorem ok_law_weight (T : Txt K mg t) : FnOk Pr w K mg base CX0 37 t.law_weight t.d_law_weight ["_law_state_here", "_law_sort_here", "_law_great"] (sp_lweight (w := w) (base := base) T) := by
  refine T.F_law_weight.ok sc_law_weight (fun vs H Q E h => ?_) (fun cdv A outer s H vs Q E hr h => ?_)
  · obtain ⟨R, nm, p, a, so, g, _, rfl, _⟩ := h
    rfl
  · obtain ⟨R, nm, p, a, so, g, hS, rfl, ⟨hD, ⟨q, rfl, hq⟩⟩, k⟩ := h
    refine ⟨_, (pss_cons (ps_if (pt_cmpR op_eq (pe_call (ok_law_next T) (hr.mono (by decide)) rfl T.m_law_next T.F_law_next.kp T.b_law_next .nil pass0 (pa_cons (pv 0) (pa_cons pe_int pa_nil))) pe_int (nomark _)) (pss_one (ps_ret (pe_call (ok_law_nought T) (hr.mono (by decide)) rfl T.m_law_nought T.F_law_nought.kp T.b_law_nought .nil pass0 (pa_cons (pv 1) pa_nil)))) pss_nil) (pss_cons (ps_set (i := 3) sc_law_weight.nd rfl (Or.inl rfl) pe_int) (pss_cons (ps_if (PW.pt (pw_and (pt_val (pv 2)) (pw_and1 (pt_cmpR op_eq (pe_call (ok_law_next T) (hr.mono (by decide)) rfl T.m_law_next T.F_law_next.kp T.b_law_next .nil pass0 (pa_cons (pv 0) (pa_cons pe_int pa_nil))) pe_int (nomark _))))) (pss_one (ps_set (i := 3) sc_law_weight.nd rfl (Or.inl rfl) (pe_op op_mul (pe_op op_mul (pe_call (ok_law_next T) (hr.mono (by decide)) rfl T.m_law_next T.F_law_next.kp T.b_law_next .nil pass0 (pa_cons (pv 0) (pa_cons (pe_op op_pow pe_int pe_int) pa_nil))) (pe_op op_pow pe_int pe_int)) (pe_op op_sub pe_int (pe_op op_mul pe_int (pe_call (ok_law_next T) (hr.mono (by decide)) rfl T.m_law_next T.F_law_next.kp T.b_law_next .nil pass0 (pa_cons (pv 0) (pa_cons pe_int pa_nil)))))))) pss_nil) (pss_cons (ps_if (pt_cmpR op_eq (pe_ix ix_tup (pv 1) pe_int (fun _ _ => rfl)) pe_str (nomark _)) (pss_one (ps_ret (pe_call (ok_law_low T) (hr.mono (by decide)) rfl T.m_law_low T.F_law_low.kp T.b_law_low .nil pass0 (pa_cons (pe_op op_sub (pe_op op_add (pv 3) (pe_call (ok_law_next T) (hr.mono (by decide)) rfl T.m_law_next T.F_law_next.kp T.b_law_next .nil pass0 (pa_cons (pv 0) (pa_cons pe_int pa_nil)))) pe_int) (pa_cons (pe_op op_add pe_int (pe_call (ok_law_next T) (hr.mono (by decide)) rfl T.m_law_next T.F_law_next.kp T.b_law_next .nil pass0 (pa_cons (pv 0) (pa_cons pe_int pa_nil)))) pa_nil))))) pss_nil) (pss_cons (ps_if (pt_cmpR op_eq (pe_ix ix_tup (pv 1) pe_int (fun _ _ => rfl)) pe_str (nomark _)) (pss_one (ps_ret (pe_call (ok_law_next T) (hr.mono (by decide)) rfl T.m_law_next T.F_law_next.kp T.b_law_next .nil pass0 (pa_cons (pv 0) (pa_cons (pe_ix ix_tup (pv 1) pe_int (fun _ _ => rfl)) pa_nil))))) pss_nil) (pss_cons (ps_if (pt_cmpR op_eq (pe_ix ix_tup (pv 1) pe_int (fun _ _ => rfl)) pe_str (nomark _)) (pss_one (ps_ret (pe_op op_sub (pe_op op_add (pv 3) (pe_call (ok_law_next T) (hr.mono (by decide)) rfl T.m_law_next T.F_law_next.kp T.b_law_next .nil pass0 (pa_cons (pv 0) (pa_cons pe_int pa_nil)))) pe_int))) pss_nil) (pss_one (ps_ret (pe_cmpR op_eq (pe_call (ok_law_next T) (hr.mono (by decide)) rfl T.m_law_next T.F_law_next.kp T.b_law_next .nil pass0 (pa_cons (pv 0) (pa_cons pe_int pa_nil))) pe_int (nomark _)))))))))), ?_⟩
    refine ⟨_, rfl, a, 4, rfl, ⟨hD, by decide, by decide⟩, fun r0 H0 s0 d0 a0 b0 => ⟨rfl, _, rfl, ?_⟩⟩
    have hq0 := s0.tt hD _ _ hq
    refine iteI (fun _ => ?_) (fun _ => ?_)
    · refine ⟨_, rfl, R, nm, p, _, hS, rfl, ⟨q, rfl, hq0⟩, fun v H' s' f' => ?_⟩
      exact k v H' _ (s0.trans (.of s')) (d0.same s') f' (R.S.lv_mono _ 0 _ _ (by decide) (R.S.lv_zero 1))
    · cases g with
      | false =>
        refine ⟨_, rfl, _, rfl, ?_⟩
        refine iteF ?_
        have q1 := s0
        have d1 := d0
        have hq1 := hq0
        cases hS with
        | fr =>
          refine ⟨_, rfl, _, _, _, _, rfl, rfl, SqT.of hq1, rfl, rfl, _, rfl, ?_⟩
          rw [show decide (V.str ("fractions" : Str) = V.str ("fractions" : Str)) = true by decide +kernel]
          refine iteT ?_
          refine ⟨_, rfl, _, rfl, a, 9, rfl, ⟨d1, by decide, by decide⟩, fun r2 H2 s2 d2 a2 b2 => ?_⟩
          have q2 := q1.trans s2
          refine ⟨_, _, rfl, rfl, _, _, rfl, rfl, _, rfl, a, 4, rfl, ⟨d2, by decide, by decide⟩, fun r3 H3 s3 d3 a3 b3 => ?_⟩
          have q3 := q2.trans s3
          refine ⟨_, _, rfl, rfl, _, _, rfl, (show (0 : Int) < 1 + r3 by omega), fun v H4 s4 f4 => ?_⟩
          exact k v H4 (Fr.of _ _ (show (0 : Int) < 1 + r3 by omega)) (q3.trans (.of s4)) (d3.same s4) f4 (Fr.lv_drawn _ (by omega) (wt_z1 (by decide) a2 b2))
        | re p hp hq' hi =>
          refine ⟨_, rfl, _, _, _, _, rfl, rfl, SqT.of hq1, rfl, rfl, _, rfl, ?_⟩
          rw [show decide (V.str ("residues" : Str) = V.str ("fractions" : Str)) = false by decide +kernel]
          refine iteF ?_
          refine ⟨_, rfl, _, _, _, _, rfl, rfl, SqT.of hq1, rfl, rfl, _, rfl, ?_⟩
          rw [show decide (V.str ("residues" : Str) = V.str ("residues" : Str)) = true by decide +kernel]
          refine iteT ?_
          refine ⟨_, rfl, _, rfl, _, _, _, _, rfl, rfl, SqT.of hq1, rfl, a, _, rfl, ⟨d1, by omega, by omega⟩, fun r2 H2 s2 d2 a2 b2 => ?_⟩
          exact k _ _ ⟨r2, a2, b2⟩ (q1.trans s2) d2 rfl trivial
        | co =>
          refine ⟨_, rfl, _, _, _, _, rfl, rfl, SqT.of hq1, rfl, rfl, _, rfl, ?_⟩
          rw [show decide (V.str ("costs" : Str) = V.str ("fractions" : Str)) = false by decide +kernel]
          refine iteF ?_
          refine ⟨_, rfl, _, _, _, _, rfl, rfl, SqT.of hq1, rfl, rfl, _, rfl, ?_⟩
          rw [show decide (V.str ("costs" : Str) = V.str ("residues" : Str)) = false by decide +kernel]
          refine iteF ?_
          refine ⟨_, rfl, _, _, _, _, rfl, rfl, SqT.of hq1, rfl, rfl, _, rfl, ?_⟩
          rw [show decide (V.str ("costs" : Str) = V.str ("costs" : Str)) = true by decide +kernel]
          refine iteT ?_
          refine ⟨_, rfl, _, rfl, a, 9, rfl, ⟨d1, by decide, by decide⟩, fun r2 H2 s2 d2 a2 b2 => ⟨_, _, rfl, rfl, _, _, rfl, rfl, ?_⟩⟩
          exact k _ _ (some (0 + r2 - 2)) (q1.trans s2) d2 rfl trivial
        | tr =>
          refine ⟨_, rfl, _, _, _, _, rfl, rfl, SqT.of hq1, rfl, rfl, _, rfl, ?_⟩
          rw [show decide (V.str ("truths" : Str) = V.str ("fractions" : Str)) = false by decide +kernel]
          refine iteF ?_
          refine ⟨_, rfl, _, _, _, _, rfl, rfl, SqT.of hq1, rfl, rfl, _, rfl, ?_⟩
          rw [show decide (V.str ("truths" : Str) = V.str ("residues" : Str)) = false by decide +kernel]
          refine iteF ?_
          refine ⟨_, rfl, _, _, _, _, rfl, rfl, SqT.of hq1, rfl, rfl, _, rfl, ?_⟩
          rw [show decide (V.str ("truths" : Str) = V.str ("costs" : Str)) = false by decide +kernel]
          refine iteF ?_
          refine ⟨_, rfl, a, 2, rfl, ⟨d1, by decide, by decide⟩, fun r2 H2 s2 d2 a2 b2 => ⟨rfl, ?_⟩⟩
          exact k _ _ (decide (V.int r2 = V.int 0)) (q1.trans s2) d2 rfl trivial
      | true =>
        refine ⟨_, rfl, _, rfl, ?_⟩
        refine iteT ?_
        refine ⟨_, rfl, a, 3, rfl, ⟨d0, by decide, by decide⟩, fun r9 H9 s9 d9 a9 b9 => ⟨rfl, _, rfl, ?_⟩⟩
        have hq9 := s9.tt d0 _ _ hq0
        refine iteI (fun _ => ?_) (fun _ => ?_)
        · refine ⟨_, rfl, _, _, rfl, rfl, ⟨by decide, by decide, by decide⟩, a, _, rfl, ⟨d9, by decide, by decide⟩, fun r8 H8 s8 d8 a8 b8 => ?_⟩
          have p13 : r8 < 10000000000000 := b8
          refine ⟨_, _, rfl, rfl, ⟨by decide, by decide, by decide⟩, _, _, rfl, rfl, .inl ⟨by omega, by omega⟩, ?_⟩
          refine ⟨_, rfl, a, 2, rfl, ⟨d8, by decide, by decide⟩, fun r7 H7 s7 d7 a7 b7 => ?_⟩
          have q1 := ((s0.trans s9).trans s8).trans s7
          have d1 := d7
          have hq1 := s7.tt d8 _ _ (s8.tt d9 _ _ hq9)
          have fb := wt_far a8 b8 a7 b7
          refine ⟨_, _, rfl, rfl, .inl ⟨by omega, by omega⟩, _, _, rfl, rfl, _, _, rfl, rfl, .inr ⟨by omega, by omega⟩, ?_⟩
          (try dsimp only)
          revert fb
          generalize r8 * 10 ^ (13 : Int).toNat * (1 - 2 * r7) = far
          intro fb
          cases hS with
          | fr =>
            refine ⟨_, rfl, _, _, _, _, rfl, rfl, SqT.of hq1, rfl, rfl, _, rfl, ?_⟩
            rw [show decide (V.str ("fractions" : Str) = V.str ("fractions" : Str)) = true by decide +kernel]
            refine iteT ?_
            refine ⟨_, rfl, _, rfl, a, 9, rfl, ⟨d1, by decide, by decide⟩, fun r2 H2 s2 d2 a2 b2 => ?_⟩
            have q2 := q1.trans s2
            refine ⟨_, _, rfl, rfl, _, _, rfl, rfl, _, rfl, a, 4, rfl, ⟨d2, by decide, by decide⟩, fun r3 H3 s3 d3 a3 b3 => ?_⟩
            have q3 := q2.trans s3
            refine ⟨_, _, rfl, rfl, _, _, rfl, (show (0 : Int) < 1 + r3 by omega), fun v H4 s4 f4 => ?_⟩
            exact k v H4 (Fr.of _ _ (show (0 : Int) < 1 + r3 by omega)) (q3.trans (.of s4)) (d3.same s4) f4 (Fr.lv_drawn _ (by omega) (wt_z1 fb a2 b2))
          | re p hp hq' hi =>
            refine ⟨_, rfl, _, _, _, _, rfl, rfl, SqT.of hq1, rfl, rfl, _, rfl, ?_⟩
            rw [show decide (V.str ("residues" : Str) = V.str ("fractions" : Str)) = false by decide +kernel]
            refine iteF ?_
            refine ⟨_, rfl, _, _, _, _, rfl, rfl, SqT.of hq1, rfl, rfl, _, rfl, ?_⟩
            rw [show decide (V.str ("residues" : Str) = V.str ("residues" : Str)) = true by decide +kernel]
            refine iteT ?_
            refine ⟨_, rfl, _, rfl, _, _, _, _, rfl, rfl, SqT.of hq1, rfl, a, _, rfl, ⟨d1, by omega, by omega⟩, fun r2 H2 s2 d2 a2 b2 => ?_⟩
            exact k _ _ ⟨r2, a2, b2⟩ (q1.trans s2) d2 rfl trivial
          | co =>
            refine ⟨_, rfl, _, _, _, _, rfl, rfl, SqT.of hq1, rfl, rfl, _, rfl, ?_⟩
            rw [show decide (V.str ("costs" : Str) = V.str ("fractions" : Str)) = false by decide +kernel]
            refine iteF ?_
            refine ⟨_, rfl, _, _, _, _, rfl, rfl, SqT.of hq1, rfl, rfl, _, rfl, ?_⟩
            rw [show decide (V.str ("costs" : Str) = V.str ("residues" : Str)) = false by decide +kernel]
            refine iteF ?_
            refine ⟨_, rfl, _, _, _, _, rfl, rfl, SqT.of hq1, rfl, rfl, _, rfl, ?_⟩
            rw [show decide (V.str ("costs" : Str) = V.str ("costs" : Str)) = true by decide +kernel]
            refine iteT ?_
            refine ⟨_, rfl, _, rfl, a, 9, rfl, ⟨d1, by decide, by decide⟩, fun r2 H2 s2 d2 a2 b2 => ⟨_, _, rfl, rfl, _, _, rfl, rfl, ?_⟩⟩
            exact k _ _ (some (far + r2 - 2)) (q1.trans s2) d2 rfl trivial
          | tr =>
            refine ⟨_, rfl, _, _, _, _, rfl, rfl, SqT.of hq1, rfl, rfl, _, rfl, ?_⟩
            rw [show decide (V.str ("truths" : Str) = V.str ("fractions" : Str)) = false by decide +kernel]
            refine iteF ?_
            refine ⟨_, rfl, _, _, _, _, rfl, rfl, SqT.of hq1, rfl, rfl, _, rfl, ?_⟩
            rw [show decide (V.str ("truths" : Str) = V.str ("residues" : Str)) = false by decide +kernel]
            refine iteF ?_
            refine ⟨_, rfl, _, _, _, _, rfl, rfl, SqT.of hq1, rfl, rfl, _, rfl, ?_⟩
            rw [show decide (V.str ("truths" : Str) = V.str ("costs" : Str)) = false by decide +kernel]
            refine iteF ?_
            refine ⟨_, rfl, a, 2, rfl, ⟨d1, by decide, by decide⟩, fun r2 H2 s2 d2 a2 b2 => ⟨rfl, ?_⟩⟩
            exact k _ _ (decide (V.int r2 = V.int 0)) (q1.trans s2) d2 rfl trivial
        · have q1 := s0.trans s9
          have d1 := d9
          have hq1 := hq9
          cases hS with
          | fr =>
            refine ⟨_, rfl, _, _, _, _, rfl, rfl, SqT.of hq1, rfl, rfl, _, rfl, ?_⟩
            rw [show decide (V.str ("fractions" : Str) = V.str ("fractions" : Str)) = true by decide +kernel]
            refine iteT ?_
            refine ⟨_, rfl, _, rfl, a, 9, rfl, ⟨d1, by decide, by decide⟩, fun r2 H2 s2 d2 a2 b2 => ?_⟩
            have q2 := q1.trans s2
            refine ⟨_, _, rfl, rfl, _, _, rfl, rfl, _, rfl, a, 4, rfl, ⟨d2, by decide, by decide⟩, fun r3 H3 s3 d3 a3 b3 => ?_⟩
            have q3 := q2.trans s3
            refine ⟨_, _, rfl, rfl, _, _, rfl, (show (0 : Int) < 1 + r3 by omega), fun v H4 s4 f4 => ?_⟩
            exact k v H4 (Fr.of _ _ (show (0 : Int) < 1 + r3 by omega)) (q3.trans (.of s4)) (d3.same s4) f4 (Fr.lv_drawn _ (by omega) (wt_z1 (by decide) a2 b2))
          | re p hp hq' hi =>
            refine ⟨_, rfl, _, _, _, _, rfl, rfl, SqT.of hq1, rfl, rfl, _, rfl, ?_⟩
            rw [show decide (V.str ("residues" : Str) = V.str ("fractions" : Str)) = false by decide +kernel]
            refine iteF ?_
            refine ⟨_, rfl, _, _, _, _, rfl, rfl, SqT.of hq1, rfl, rfl, _, rfl, ?_⟩
            rw [show decide (V.str ("residues" : Str) = V.str ("residues" : Str)) = true by decide +kernel]
            refine iteT ?_
            refine ⟨_, rfl, _, rfl, _, _, _, _, rfl, rfl, SqT.of hq1, rfl, a, _, rfl, ⟨d1, by omega, by omega⟩, fun r2 H2 s2 d2 a2 b2 => ?_⟩
            exact k _ _ ⟨r2, a2, b2⟩ (q1.trans s2) d2 rfl trivial
          | co =>
            refine ⟨_, rfl, _, _, _, _, rfl, rfl, SqT.of hq1, rfl, rfl, _, rfl, ?_⟩
            rw [show decide (V.str ("costs" : Str) = V.str ("fractions" : Str)) = false by decide +kernel]
            refine iteF ?_
            refine ⟨_, rfl, _, _, _, _, rfl, rfl, SqT.of hq1, rfl, rfl, _, rfl, ?_⟩
            rw [show decide (V.str ("costs" : Str) = V.str ("residues" : Str)) = false by decide +kernel]
            refine iteF ?_
            refine ⟨_, rfl, _, _, _, _, rfl, rfl, SqT.of hq1, rfl, rfl, _, rfl, ?_⟩
            rw [show decide (V.str ("costs" : Str) = V.str ("costs" : Str)) = true by decide +kernel]
            refine iteT ?_
            refine ⟨_, rfl, _, rfl, a, 9, rfl, ⟨d1, by decide, by decide⟩, fun r2 H2 s2 d2 a2 b2 => ⟨_, _, rfl, rfl, _, _, rfl, rfl, ?_⟩⟩
            exact k _ _ (some (0 + r2 - 2)) (q1.trans s2) d2 rfl trivial
          | tr =>
            refine ⟨_, rfl, _, _, _, _, rfl, rfl, SqT.of hq1, rfl, rfl, _, rfl, ?_⟩
            rw [show decide (V.str ("truths" : Str) = V.str ("fractions" : Str)) = false by decide +kernel]
            refine iteF ?_
            refine ⟨_, rfl, _, _, _, _, rfl, rfl, SqT.of hq1, rfl, rfl, _, rfl, ?_⟩
            rw [show decide (V.str ("truths" : Str) = V.str ("residues" : Str)) = false by decide +kernel]
            refine iteF ?_
            refine ⟨_, rfl, _, _, _, _, rfl, rfl, SqT.of hq1, rfl, rfl, _, rfl, ?_⟩
            rw [show decide (V.str ("truths" : Str) = V.str ("costs" : Str)) = false by decide +kernel]
            refine iteF ?_
            refine ⟨_, rfl, a, 2, rfl, ⟨d1, by decide, by decide⟩, fun r2 H2 s2 d2 a2 b2 => ⟨rfl, ?_⟩⟩
            exact k _ _ (decide (V.int r2 = V.int 0)) (q1.trans s2) d2 rfl trivial
/-- a text by its signs -/
def tx (l : List Nat) : Str := ⟨l.toArray⟩
def vT (l : List Nat) : V := .str (tx l)
theorem tx_app (a b : List Nat) : tx a ++ tx b = tx (a ++ b) := by
  show (⟨a.toArray ++ b.toArray⟩ : Str) = ⟨(a ++ b).toArray⟩
  simp
theorem tx_len (a : List Nat) : (tx a).length = a.length := by
  show a.toArray.size = a.length
  simp
theorem three {l : List Nat} (h1 : 1 ≤ l.length) (h3 : l.length ≤ 3) : (∃ a, l = [a]) ∨ (∃ a b, l = [a, b]) ∨ ∃ a b c, l = [a, b, c] := by
  match l, h1, h3 with
  | [a], _, _ => exact .inl ⟨a, rfl⟩
  | [a, b], _, _ => exact .inr (.inl ⟨a, b, rfl⟩)
  | [a, b, c], _, _ => exact .inr (.inr ⟨a, b, c, rfl⟩)
theorem occ1 (a x : Nat) (h : x = a) : Builtin.Str.occurrences (tx [a]) (tx [x]) 0 (tx [a]).length 1 = [0] := by
  subst h
  simp [Builtin.Str.occurrences, Builtin.Str.subAt, tx, Str.length, List.range']
theorem occ2 (a b x : Nat) (n : a ≠ b) (h : x = a ∨ x = b) : Builtin.Str.occurrences (tx [a, b]) (tx [x]) 0 (tx [a, b]).length 1 = [List.idxOf x [a, b]] := by
  rcases h with rfl | rfl
  · simp [Builtin.Str.occurrences, Builtin.Str.subAt, tx, Str.length, List.range', List.idxOf_cons]
  · simp [Builtin.Str.occurrences, Builtin.Str.subAt, tx, Str.length, List.range', List.idxOf_cons, n, beq_false_of_ne n]
theorem occ3 (a b c x : Nat) (n : (a ≠ b ∧ a ≠ c) ∧ b ≠ c) (h : x = a ∨ x = b ∨ x = c) : Builtin.Str.occurrences (tx [a, b, c]) (tx [x]) 0 (tx [a, b, c]).length 1 = [List.idxOf x [a, b, c]] := by
  rcases h with rfl | rfl | rfl
  · simp [Builtin.Str.occurrences, Builtin.Str.subAt, tx, Str.length, List.range', List.idxOf_cons]
  · simp [Builtin.Str.occurrences, Builtin.Str.subAt, tx, Str.length, List.range', List.idxOf_cons, n.1.1, beq_false_of_ne n.1.1]
  · simp [Builtin.Str.occurrences, Builtin.Str.subAt, tx, Str.length, List.range', List.idxOf_cons, n.1.2, n.2, beq_false_of_ne n.1.2, beq_false_of_ne n.2]
structure LOk (l : List Nat) : Prop where
  h1 : 1 ≤ l.length
  h3 : l.length ≤ 3
  nd : l.Nodup
  as : ∀ c ∈ l, c < 128
theorem occ_of {l : List Nat} (h : LOk l) {x : Nat} (hx : x ∈ l) : Builtin.Str.occurrences (tx l) (tx [x]) 0 (tx l).length 1 = [l.idxOf x] := by
  have nd := h.nd
  rcases three h.h1 h.h3 with ⟨a, rfl⟩ | ⟨a, b, rfl⟩ | ⟨a, b, c, rfl⟩
  · have : x = a := by simpa using hx
    rw [occ1 a x this, this]; simp
  · exact occ2 a b x (by simpa using nd) (by simpa using hx)
  · exact occ3 a b c x (by simpa [not_or] using nd) (by simpa using hx)
/-! letters drawn -/
structure Pool (p l : List Nat) (i : Nat) : Prop where
  nd : (p ++ l).Nodup
  pl : p.length = 26 - i
  ll : l.length = i
  az : ∀ c ∈ p ++ l, 97 ≤ c ∧ c ≤ 122
def azs : List Nat := [97, 98, 99, 100, 101, 102, 103, 104, 105, 106, 107, 108, 109, 110, 111, 112, 113, 114, 115, 116, 117, 118, 119, 120, 121, 122]
theorem az_is : (Str.ofString "abcdefghijklmnopqrstuvwxyz") = tx azs := by decide +kernel
theorem em_is : (Str.ofString "") = tx [] := by decide +kernel
theorem Pool.start : Pool azs [] 0 := ⟨by decide, by decide, rfl, by decide⟩
theorem Pool.turn {p l : List Nat} {i j : Nat} {c : Nat} (h : Pool p l i) (hi : i ≤ 20) (hc : p[j]? = some c) : Pool (p.take j ++ p.drop (j + 1)) (l ++ [c]) (i + 1) := by
  have hj : j < p.length := (List.getElem?_eq_some_iff.mp hc).1
  have e : p = p.take j ++ c :: p.drop (j + 1) := by
    have : p[j] = c := (List.getElem?_eq_some_iff.mp hc).2
    rw [← this, List.getElem_cons_drop_succ_eq_drop hj, List.take_append_drop]
  have pm : ((p.take j ++ p.drop (j + 1)) ++ (l ++ [c])).Perm (p ++ l) := by
    conv => rhs; rw [e]
    have h1 : ((p.take j ++ p.drop (j + 1)) ++ (l ++ [c])).Perm ((l ++ [c]) ++ (p.take j ++ p.drop (j + 1))) := List.perm_append_comm
    have h2 : (p.take j ++ c :: p.drop (j + 1)).Perm (c :: (p.take j ++ p.drop (j + 1))) := List.perm_middle
    have h3 : (p.take j ++ c :: p.drop (j + 1) ++ l).Perm (c :: (p.take j ++ p.drop (j + 1)) ++ l) := h2.append_right l
    have h4 : (c :: (p.take j ++ p.drop (j + 1)) ++ l).Perm (l ++ c :: (p.take j ++ p.drop (j + 1))) := List.perm_append_comm
    have h5 : (l ++ [c]) ++ (p.take j ++ p.drop (j + 1)) = l ++ c :: (p.take j ++ p.drop (j + 1)) := by simp
    rw [h5] at h1
    exact h1.trans (h4.symm.trans h3.symm)
  refine ⟨pm.nodup_iff.mpr h.nd, ?_, ?_, fun x hx => h.az x (pm.mem_iff.mp hx)⟩
  · rw [List.length_append, List.length_take, List.length_drop]
    have := h.pl
    omega
  · rw [List.length_append, h.ll]; rfl
theorem sl_to {p : List Nat} {q : Int} (h0 : 0 ≤ q) (h1 : q ≤ p.length) : Txt.slice (tx p) none (some q) = tx (p.take q.toNat) := by
  have e := PyProof.Rows.slice_closes_toL (x := tx p) (j := q) h0 (by rw [tx_len]; exact h1)
  rw [beq_iff_eq] at e
  rw [e]
  show (⟨_⟩ : Str) = ⟨_⟩
  simp [tx]
theorem sl_from {p : List Nat} {q : Int} (h0 : 0 ≤ q) (h1 : q ≤ p.length) : Txt.slice (tx p) (some q) none = tx (p.drop q.toNat) := by
  rw [PyProof.Rows.slice_from_eq (x := tx p) (b := p.length) h0 (by rw [tx_len]; exact h1) (by rw [tx_len])]
  show (⟨_⟩ : Str) = ⟨_⟩
  have e : ((p.drop q.toNat).take ((p.length : Int) - q).toNat) = p.drop q.toNat := List.take_of_length_le (by rw [List.length_drop]; omega)
  simp only [tx, List.toList_toArray, e]
def sp_letters : Sp := fun vs H Q _ => ∃ (a : Addr), vs = [.ref a] ∧ Dr H a ∧ ∀ (p l : List Nat) (i : Nat) H', SameX a H H' → Dr H' a → Pool p l i → 1 ≤ i → i ≤ 3 → Q (vT l) H'
theorem ok_law_letters (T : Txt K mg t) : FnOk Pr w K mg base CX0 2 t.law_letters t.d_law_letters ["_law_state_here"] sp_letters := by
  refine T.F_law_letters.ok sc_law_letters (fun vs H Q E h => ?_) (fun cdv A outer s H vs Q E hr h => ?_)
  · obtain ⟨a, rfl, _⟩ := h
    rfl
  · obtain ⟨a, rfl, hD, k⟩ := h
    have szl : (1000 : Nat) < sizeLine := small1000 (Nat.le_refl _)
    refine ⟨_, (pss_cons (ps_set (i := 1) sc_law_letters.nd rfl (Or.inl rfl) pe_str) (pss_cons (ps_set (i := 2) sc_law_letters.nd rfl (Or.inl rfl) pe_str) (pss_cons (ps_for PassesOwn.never rfl (pi_range1 rfl T.z_range (pa_cons (pe_op op_add pe_int (pe_call (ok_law_next T) (hr.mono (by decide)) rfl T.m_law_next T.F_law_next.kp T.b_law_next .nil pass0 (pa_cons (pv 0) (pa_cons pe_int pa_nil)))) pa_nil)) (pg_name (i := 3) sc_law_letters.nd rfl (Or.inl rfl)) (pss_cons (ps_set (i := 4) sc_law_letters.nd rfl (Or.inl rfl) (pe_call (ok_law_next T) (hr.mono (by decide)) rfl T.m_law_next T.F_law_next.kp T.b_law_next .nil pass0 (pa_cons (pv 0) (pa_cons (pe_callB call_len (by rfl) T.z_len PySem.boot_len (pa_cons (pv 1) pa_nil)) pa_nil)))) (pss_cons (ps_set (i := 2) sc_law_letters.nd rfl (Or.inl rfl) (pe_op op_add_str (pv 2) (pe_ix ix_str (pv 1) (pv 4) (fun _ _ => rfl)))) (pss_one (ps_set (i := 1) sc_law_letters.nd rfl (Or.inl rfl) (pe_op op_add_str (pe_slice sl_str (pv 1) po_none (po_some (pv 4))) (pe_slice sl_str (pv 1) (po_some (pe_op op_add (pv 4) pe_int)) po_none))))))) (pss_one (ps_ret (pv 2)))))), ?_⟩
    refine ⟨_, rfl, _, _, rfl, ⟨hD, by decide, by decide⟩, fun r H1 s1 D1 r0 r3 => ?_⟩
    refine ⟨_, _, rfl, rfl, _, rfl, (by omega), (by omega), for_range (lo := 0) (n := (1 + r).toNat)
      (fun i σ H' => ∃ p l v3 v4, σ = [some (.ref a), some (vT p), some (vT l), v3, v4] ∧ SameX a H H' ∧ Dr H' a ∧ Pool p l i)
      ⟨azs, [], _, _, (by rw [vT, vT, ← az_is, ← em_is]; rfl), s1, D1, Pool.start⟩ ?_ ?_⟩
    · rintro i σ H' hi ⟨p, l, v3, v4, rfl, q, D, G⟩
      have hp := G.pl
      have hll := G.ll
      have lp : LenV K (vT p) H' (tx p).length := ⟨by rw [tx_len]; omega, rfl⟩
      rw [tx_len] at lp
      refine ⟨_, rfl, _, rfl, _, _, rfl, lp, _, _, rfl, ⟨D, by omega, by omega⟩, fun z H2 s2 D2 z0 z1 => ?_⟩
      obtain ⟨c, hc⟩ : ∃ c, p[z.toNat]? = some c := ⟨p[z.toNat]'(by omega), by simp⟩
      have ac : atI (tx p).cps.toList z = some c := by
        have e : z = ((z.toNat : Nat) : Int) := by omega
        rw [e]
        exact atI_nat (by show p.toArray.toList[z.toNat]? = some c; simpa using hc)
      refine ⟨_, rfl, _, rfl, _, rfl, _, _, _, rfl, rfl, (by rw [tx_len]; omega), ac, _, _, rfl, rfl, (by show (tx l).length + 1 ≤ _; rw [tx_len]; omega), ?_⟩
      refine ⟨_, rfl, _, rfl, _, rfl, _, rfl, (by rw [tx_len]; omega), _, rfl, _, rfl, _, _, rfl, rfl, _, rfl, _, rfl, (by rw [tx_len]; omega), _, _, rfl, rfl, ?_, ?_⟩
      · rw [sl_to z0 (by omega), sl_from (by omega) (by omega), tx_len, tx_len, List.length_take, List.length_drop]; omega
      · have e1 : tx l ++ (⟨#[c]⟩ : Str) = tx (l ++ [c]) := tx_app l [c]
        have e2 : (z + 1).toNat = z.toNat + 1 := by omega
        rw [sl_to z0 (by omega), sl_from (by omega) (by omega), tx_app, e2]
        exact ⟨_, _, _, _, (by rw [e1]; rfl), q.trans s2, D2, G.turn (by omega) hc⟩
    · rintro σ H' ⟨p, l, v3, v4, rfl, q, D, G⟩
      refine ⟨_, rfl, ?_⟩
      exact k p l _ H' q D G (by omega) (by omega)
theorem Pool.ok {p l : List Nat} {i : Nat} (G : Pool p l i) (h1 : 1 ≤ i) (h3 : i ≤ 3) : LOk l := by
  have e := G.ll
  refine ⟨by omega, by omega, (List.nodup_append.mp G.nd).2.1, fun c hc => ?_⟩
  have := (G.az c (List.mem_append_right _ hc)).2
  omega
/-! held against one another -/
def sp_same (T : Txt K mg t) : Sp := fun vs H Q _ => ∃ (R : KindR Pr w K mg base), ∃ nm p so u v a, So T R nm p ∧ vs = [so, u, v] ∧ (SortAt H so nm p ∧ R.is H u a ∧ R.is H v a) ∧ Q (.bl true) H
theorem ok_law_same (T : Txt K mg t) : FnOk Pr w K mg base CX0 1 t.law_same t.d_law_same ["_law_sort_here", "_law_found", "_law_due"] (sp_same (w := w) (base := base) T) := by
  refine T.F_law_same.ok sc_law_same (fun vs H Q E h => ?_) (fun cdv A outer s H vs Q E hr h => ?_)
  · obtain ⟨R, nm, p, so, u, v, a, _, rfl, _⟩ := h
    rfl
  · obtain ⟨R, nm, p, so, u, v, a, hS, rfl, ⟨⟨q, rfl, hq⟩, hu, hv⟩, k⟩ := h
    refine ⟨_, (pss_cons (ps_if (pt_cmpR op_eq (pe_ix ix_tup (pv 0) pe_int (fun _ _ => rfl)) pe_str (nomark _)) (pss_one (ps_ret (pe_and (pe_callB call_isi (by rfl) T.z_isinstance boot_isinstance (pa_cons (pv 1) (pa_cons (pe_bltn (v := .ty "bool") rfl T.z_bool boot_bool rfl) pa_nil))) (pe_one (pe_cmpR (op_eqD hr.units) (pv 1) (pv 2) (nomark _)))))) pss_nil) (pss_cons (ps_if (PW.pt (pw_or (pt_cmpR op_isN (pv 2) pe_non (nomark _)) (pw_or1 (pt_cmpR op_isN (pv 1) pe_non (nomark _))))) (pss_one (ps_ret (pe_and (pe_cmpR op_isN (pv 2) pe_non (nomark _)) (pe_one (pe_cmpR op_isN (pv 1) pe_non (nomark _)))))) pss_nil) (pss_cons (ps_if (pt_cmpR op_eq (pe_ix ix_tup (pv 0) pe_int (fun _ _ => rfl)) pe_str (nomark _)) (pss_cons (ps_if (PW.pt (pw_or (pt_not (pt_val (pe_callB call_isi (by rfl) T.z_isinstance boot_isinstance (pa_cons (pv 1) (pa_cons (pe_bltn (v := .ty "tuple") rfl T.z_tuple boot_tuple rfl) pa_nil))))) (pw_or (pt_cmpR op_ne (pe_callB call_len (by rfl) T.z_len PySem.boot_len (pa_cons (pv 1) pa_nil)) pe_int (nomark _)) (pw_or (pt_val (pe_callB call_isi (by rfl) T.z_isinstance boot_isinstance (pa_cons (pe_ix ix_tup (pv 1) pe_int (fun _ _ => rfl)) (pa_cons (pe_bltn (v := .ty "bool") rfl T.z_bool boot_bool rfl) pa_nil)))) (pw_or1 (pt_val (pe_callB call_isi (by rfl) T.z_isinstance boot_isinstance (pa_cons (pe_ix ix_tup (pv 1) pe_int (fun _ _ => rfl)) (pa_cons (pe_bltn (v := .ty "bool") rfl T.z_bool boot_bool rfl) pa_nil))))))))) (pss_one (ps_ret pe_bl)) pss_nil) (pss_one (ps_ret (pe_and (pe_callB call_isi (by rfl) T.z_isinstance boot_isinstance (pa_cons (pe_ix ix_tup (pv 1) pe_int (fun _ _ => rfl)) (pa_cons (pe_bltn (v := .ty "int") rfl T.z_int boot_int rfl) pa_nil))) (pe_and (pe_callB call_isi (by rfl) T.z_isinstance boot_isinstance (pa_cons (pe_ix ix_tup (pv 1) pe_int (fun _ _ => rfl)) (pa_cons (pe_bltn (v := .ty "int") rfl T.z_int boot_int rfl) pa_nil))) (pe_one (pe_cmpR (op_eqD hr.units) (pv 1) (pv 2) (nomark _)))))))) pss_nil) (pss_one (ps_ret (pe_and (pe_callB call_isi (by rfl) T.z_isinstance boot_isinstance (pa_cons (pv 1) (pa_cons (pe_bltn (v := .ty "int") rfl T.z_int boot_int rfl) pa_nil))) (pe_and (pe_not (pe_callB call_isi (by rfl) T.z_isinstance boot_isinstance (pa_cons (pv 1) (pa_cons (pe_bltn (v := .ty "bool") rfl T.z_bool boot_bool rfl) pa_nil)))) (pe_one (pe_cmpR (op_eqD hr.units) (pv 1) (pv 2) (nomark _)))))))))), ?_⟩
    cases hS with
    | tr =>
      refine ⟨_, rfl, _, _, _, _, rfl, rfl, SqT.of hq, rfl, rfl, _, rfl, ?_⟩
      rw [show decide (V.str ("truths" : Str) = V.str ("truths" : Str)) = true by decide +kernel]
      refine iteT ?_
      have hu' := hu
      cases (show u = .bl a from hu)
      refine ⟨_, rfl, _, _, _, _, rfl, TyOf.bl _, T.k_bb, _, rfl, ?_⟩
      refine iteT ?_
      exact ⟨_, rfl, _, rfl, (R_tr (w := w) (base := base) T).eqD hu' hv rfl k⟩
    | fr =>
      have hu' := hu
      have hv' := hv
      obtain ⟨pu, rfl, hu⟩ := hu
      obtain ⟨pv, rfl, hv⟩ := hv
      have hl : LenV K (.ref pu) H 2 := .inr ⟨_, SqT.of hu, rfl⟩
      refine ⟨_, rfl, _, _, _, _, rfl, rfl, SqT.of hq, rfl, rfl, _, rfl, ?_⟩
      rw [show decide (V.str ("fractions" : Str) = V.str ("truths" : Str)) = false by decide +kernel]
      refine iteF ?_
      refine ⟨_, rfl, rfl, _, rfl, ?_⟩
      refine iteF ?_
      refine ⟨_, rfl, rfl, _, rfl, ?_⟩
      (try refine iteF ?_)
      (try refine iteF ?_)
      refine ⟨_, rfl, _, _, _, _, rfl, rfl, SqT.of hq, rfl, rfl, _, rfl, ?_⟩
      rw [show decide (V.str ("fractions" : Str) = V.str ("fractions" : Str)) = true by decide +kernel]
      refine iteT ?_
      refine ⟨_, rfl, _, _, _, _, rfl, TyOf.tup hu, T.k_tt, _, rfl, ?_⟩
      (try refine iteF ?_)
      refine ⟨_, rfl, _, _, rfl, hl, rfl, _, rfl, ?_⟩
      (try dsimp only)
      refine iteNI (fun ne => absurd rfl ne) (fun _ => ?_)
      refine ⟨_, rfl, _, _, _, _, rfl, rfl, SqT.of hu, rfl, _, _, _, _, rfl, TyOf.int _, T.k_ib, _, rfl, ?_⟩
      refine iteF ?_
      refine ⟨_, rfl, _, _, _, _, rfl, rfl, SqT.of hu, rfl, _, _, _, _, rfl, TyOf.int _, T.k_ib, _, rfl, ?_⟩
      (try refine iteF ?_)
      (try refine iteF ?_)
      refine ⟨_, rfl, _, _, _, _, rfl, rfl, SqT.of hu, rfl, _, _, _, _, rfl, TyOf.int _, T.k_ii, _, rfl, ?_⟩
      refine iteT ?_
      refine ⟨_, rfl, _, _, _, _, rfl, rfl, SqT.of hu, rfl, _, _, _, _, rfl, TyOf.int _, T.k_ii, _, rfl, ?_⟩
      refine iteT ?_
      exact ⟨_, rfl, _, rfl, (R_fr (w := w) (base := base) T).eqD hu' hv' rfl k⟩
    | re p hp hq' hi =>
      have hu' := hu
      have hv' := hv
      cases (show u = .int a.x from hu)
      cases (show v = .int a.x from hv)
      refine ⟨_, rfl, _, _, _, _, rfl, rfl, SqT.of hq, rfl, rfl, _, rfl, ?_⟩
      rw [show decide (V.str ("residues" : Str) = V.str ("truths" : Str)) = false by decide +kernel]
      refine iteF ?_
      refine ⟨_, rfl, rfl, _, rfl, ?_⟩
      refine iteF ?_
      refine ⟨_, rfl, rfl, _, rfl, ?_⟩
      (try refine iteF ?_)
      (try refine iteF ?_)
      refine ⟨_, rfl, _, _, _, _, rfl, rfl, SqT.of hq, rfl, rfl, _, rfl, ?_⟩
      rw [show decide (V.str ("residues" : Str) = V.str ("fractions" : Str)) = false by decide +kernel]
      refine iteF ?_
      refine ⟨_, rfl, _, _, _, _, rfl, TyOf.int _, T.k_ii, _, rfl, ?_⟩
      refine iteT ?_
      refine ⟨_, rfl, _, _, _, _, rfl, TyOf.int _, T.k_ib, _, rfl, ?_⟩
      refine ⟨_, rfl, ?_⟩
      refine iteT ?_
      exact ⟨_, rfl, _, rfl, (R_re (w := w) (base := base) T p hp hq').eqD hu' hv' rfl k⟩
    | co =>
      have hu' := hu
      have hv' := hv
      cases (show u = cV a from hu)
      cases (show v = cV a from hv)
      refine ⟨_, rfl, _, _, _, _, rfl, rfl, SqT.of hq, rfl, rfl, _, rfl, ?_⟩
      rw [show decide (V.str ("costs" : Str) = V.str ("truths" : Str)) = false by decide +kernel]
      refine iteF ?_
      cases a with
      | none =>
        refine ⟨_, rfl, rfl, _, rfl, ?_⟩
        refine iteT ?_
        (try refine iteT ?_)
        refine ⟨_, rfl, rfl, _, rfl, ?_⟩
        refine iteT ?_
        exact ⟨_, rfl, rfl, k⟩
      | some i =>
        refine ⟨_, rfl, rfl, _, rfl, ?_⟩
        refine iteF ?_
        refine ⟨_, rfl, rfl, _, rfl, ?_⟩
        (try refine iteF ?_)
        (try refine iteF ?_)
        refine ⟨_, rfl, _, _, _, _, rfl, rfl, SqT.of hq, rfl, rfl, _, rfl, ?_⟩
        rw [show decide (V.str ("costs" : Str) = V.str ("fractions" : Str)) = false by decide +kernel]
        refine iteF ?_
        refine ⟨_, rfl, _, _, _, _, rfl, TyOf.int _, T.k_ii, _, rfl, ?_⟩
        refine iteT ?_
        refine ⟨_, rfl, _, _, _, _, rfl, TyOf.int _, T.k_ib, _, rfl, ?_⟩
        refine ⟨_, rfl, ?_⟩
        refine iteT ?_
        exact ⟨_, rfl, _, rfl, (R_co (w := w) (base := base) T).eqD hu' hv' rfl k⟩
/-! machines -/
def Mach (R : KindR Pr w K mg base) (l : List Nat) (n : Nat) (st : Nat → R.S.W) (tb : Nat → Nat → Nat → R.S.W) (en : Nat → R.S.W) (m : Nat) (v : V) (H : Hp) : Prop :=
  ∃ p sv tv ev, v = .ref p ∧ H p = some (.tup [vT l, sv, tv, ev]) ∧ R.Row n st m sv H ∧ TupOf (fun j u H => R.Tab n n (tb j) m u H) l.length tv H ∧ R.Row n en m ev H
theorem Mach.same {R : KindR Pr w K mg base} {l : List Nat} {n : Nat} {st : Nat → R.S.W} {tb : Nat → Nat → Nat → R.S.W} {en : Nat → R.S.W} {m : Nat} {v : V} {H H' : Hp} (s : SameT H H') (h : Mach R l n st tb en m v H) : Mach R l n st tb en m v H' := by
  obtain ⟨p, sv, tv, ev, rfl, hp, h1, h2, h3⟩ := h
  exact ⟨p, sv, tv, ev, rfl, s _ _ hp, KindR.Row.same s h1, h2.mono s fun _ _ _ q => KindR.Tab.same s q, KindR.Row.same s h3⟩
def wdx (l ws : List Nat) (k : Nat) : Nat := l.idxOf (ws.getD k 0)
theorem wdx_at {l ws : List Nat} {k c : Nat} (h : ws[k]? = some c) : wdx l ws k = l.idxOf c := by
  unfold wdx
  rw [List.getD_eq_getElem?_getD, h]; rfl
structure WOk (l ws : List Nat) (z : Nat) : Prop where
  lo : LOk l
  al : ∀ c ∈ ws, c ∈ l
  le : ws.length ≤ z
theorem WOk.asc {l ws : List Nat} {z : Nat} (W : WOk l ws z) : (tx ws).cps.all (· < 128) = true := by
  show ws.toArray.all (· < 128) = true
  simp only [List.all_toArray, List.all_eq_true, decide_eq_true_eq]
  exact fun c hc => W.lo.as c (W.al c hc)
theorem WOk.mem {l ws : List Nat} {z k c : Nat} (W : WOk l ws z) (h : ws[k]? = some c) : c ∈ l := W.al c (List.mem_of_getElem? h)
theorem tx_get {ws : List Nat} {k c : Nat} (h : (tx ws).cps[k]? = some c) : ws[k]? = some c := by
  have : ws.toArray[k]? = some c := h
  simpa using this
theorem tx_at {ws : List Nat} {k : Nat} (h : k < ws.length) : ∃ c, (tx ws).cps[k]? = some c ∧ ws[k]? = some c := ⟨ws[k], by show ws.toArray[k]? = _; simp [h], by simp [h]⟩
theorem idx_lt {l : List Nat} {c : Nat} (h : c ∈ l) : l.idxOf c < l.length := List.idxOf_lt_length_iff.mpr h
theorem sameT_lst {H : Hp} {a : Addr} {xs : List V} {o : HO} (h : H a = some (.lst xs)) : SameT H (upd H a o) := fun b vs hb => by
  rw [upd_ne (by rintro rfl; rw [h] at hb; cases hb)]; exact hb
theorem same_at {H H1 : Hp} {a : Addr} {o : HO} (s : Same H H1) (n : H a = none) : Same H (upd H1 a o) := fun b u hb => by
  rw [upd_ne (ne_of_none hb n)]; exact s _ _ hb
def sp_is_word : Sp := fun vs H Q _ => ∃ l ws z, vs = [vT l, vT ws] ∧ (WOk l ws z ∧ z ≤ 1000) ∧ ∀ H', Same H H' → Q (.bl true) H'
theorem ok_is_word (T : Txt K mg t) : FnOk Pr w K mg base CX0 1 t.is_word t.d_is_word ["letters", "thing"] sp_is_word := by
  refine T.F_is_word.ok sc_is_word (fun vs H Q E h => ?_) (fun cdv A outer s H vs Q E hr h => ?_)
  · obtain ⟨l, ws, z, rfl, _⟩ := h
    rfl
  · obtain ⟨l, ws, z, rfl, ⟨W, hz⟩, k⟩ := h
    have wz := W.le
    refine ⟨_, (pss_one (ps_ret (pe_and (pe_callB call_isi (by rfl) T.z_isinstance boot_isinstance (pa_cons (pv 1) (pa_cons (pe_bltn (v := .ty "str") rfl T.z_str boot_str rfl) pa_nil))) (pe_one (pe_callB (call_all rfl) (by rfl) T.z_all boot_all (pa_cons (pe_comp (xs := ["sign"]) rfl (show CompOk ["letters", "thing"] (defScope s_is_word) _ from ⟨rfl, by decide +kernel, by decide +kernel, by decide +kernel, by decide +kernel, by decide +kernel⟩) (pi_str (pv 1)) (fun _ _ _ _ _ => (pg_name (i := 2) (by show List.Nodup (["letters", "thing", "sign"] : List Str); decide +kernel) rfl (Or.inl rfl))) (fun _ _ _ _ _ => (pe_cmpR op_in_str (pv 2) (pv 0) (by with_unfolding_all rfl)))) pa_nil)))))), ?_⟩
    refine ⟨_, rfl, _, _, _, _, rfl, TyOf.str _, T.k_ss, _, rfl, ?_⟩
    refine iteT ?_
    refine ⟨_, rfl, _, rfl, W.asc, comp_go (n := ws.length) (fun j ys H2 => ys = (List.replicate j true).map V.bl ∧ H2 = H) (by omega) ⟨rfl, rfl⟩ (fun j ys H2 q => by rw [q.1]; simp) ?_ ?_ ?_⟩
    · rintro j ys H2 hj ⟨rfl, rfl⟩
      refine ⟨(by show j < ws.toArray.size; simpa using hj), fun y H' hy => ?_⟩
      obtain ⟨rfl, c, hc, rfl⟩ := hy
      have o := occ_of W.lo (W.mem (tx_get hc))
      refine ⟨⟨[some _], rfl, rfl⟩, _, rfl, _, rfl, _, _, rfl, rfl, ?_, rfl⟩
      have e : (!(Builtin.Str.occurrences (tx l) (tx [c]) 0 (tx l).length 1).isEmpty) = true := by rw [o]; rfl
      show _ ++ [V.bl (!(Builtin.Str.occurrences (tx l) (tx [c]) 0 (tx l).length 1).isEmpty)] = _
      rw [e, List.replicate_succ', List.map_append]; rfl
    · rintro ys H2 ⟨rfl, rfl⟩
      show ws.toArray.size ≤ _
      simp
    · rintro ys H2 p ⟨rfl, rfl⟩ np
      refine ⟨p, List.replicate ws.length true, rfl, SqL.of upd_same, ?_⟩
      have e : (List.replicate ws.length true).all id = true := by rw [List.all_eq_true]; exact fun b hb => (List.mem_replicate.mp hb).2
      show Q (.bl ((List.replicate ws.length true).all id)) _
      rw [e]
      exact k _ (same_upd np)
def sp_need_word : Sp := fun vs H Q _ => ∃ l ws z, vs = [vT l, vT ws] ∧ (WOk l ws z ∧ z ≤ 1000) ∧ ∀ H', Same H H' → Q .non H'
theorem ok_need_word (T : Txt K mg t) : FnOk Pr w K mg base CX0 2 t.need_word t.d_need_word ["letters", "thing"] sp_need_word := by
  refine T.F_need_word.ok sc_need_word (fun vs H Q E h => ?_) (fun cdv A outer s H vs Q E hr h => ?_)
  · obtain ⟨l, ws, z, rfl, _⟩ := h
    rfl
  · obtain ⟨l, ws, z, rfl, W, k⟩ := h
    refine ⟨_, (pss_one (ps_if (pt_not (pt_val (pe_call (ok_is_word T) (hr.mono (by decide)) rfl T.m_is_word T.F_is_word.kp T.b_is_word .nil pass0 (pa_cons (pv 0) (pa_cons (pv 1) pa_nil))))) (pss_one ps_never) pss_nil)), ?_⟩
    refine ⟨_, rfl, _, rfl, l, ws, z, rfl, W, fun H' s' => ⟨_, rfl, ?_⟩⟩
    (try refine iteF ?_)
    exact k _ s'
/-! what is a machine: the good way -/
theorem small_in {c : Nat} (h : 97 ≤ c ∧ c ≤ 122) : (!(Builtin.Str.occurrences (Str.ofString "abcdefghijklmnopqrstuvwxyz") (tx [c]) 0 (Str.ofString "abcdefghijklmnopqrstuvwxyz").length 1).isEmpty) = true := by
  obtain ⟨k, rfl⟩ : ∃ k, c = 97 + k := ⟨c - 97, by omega⟩
  have hk : k < 26 := by omega
  have : ∀ k : Fin 26, (!(Builtin.Str.occurrences (Str.ofString "abcdefghijklmnopqrstuvwxyz") (tx [97 + k.val]) 0 (Str.ofString "abcdefghijklmnopqrstuvwxyz").length 1).isEmpty) = true := by decide +kernel
  exact this ⟨k, hk⟩
theorem LOk.asc' {l : List Nat} (L : LOk l) : (tx l).cps.all (· < 128) = true := by
  show l.toArray.all (· < 128) = true
  simp only [List.all_toArray, List.all_eq_true, decide_eq_true_eq]
  exact fun c hc => L.as c hc
structure AZ (l : List Nat) : Prop where
  lo : LOk l
  az : ∀ c ∈ l, 97 ≤ c ∧ c ≤ 122
def sp_is_letters : Sp := fun vs H Q _ => ∃ l, vs = [vT l] ∧ AZ l ∧ ∀ H', Same H H' → Q (.bl true) H'
theorem ok_is_letters (T : Txt K mg t) : FnOk Pr w K mg base CX0 1 t.is_letters t.d_is_letters ["thing"] sp_is_letters := by
  refine T.F_is_letters.ok sc_is_letters (fun vs H Q E h => ?_) (fun cdv A outer s H vs Q E hr h => ?_)
  · obtain ⟨l, rfl, _⟩ := h
    rfl
  · obtain ⟨l, rfl, Z, k⟩ := h
    have L := Z.lo
    have l1 := L.h1
    have l3 := L.h3
    have sl : 1000 < sizeLine := by decide
    have ll : ∀ H, LenV K (vT l) H l.length := fun H => ⟨by rw [tx_len]; omega, (tx_len l).symm⟩
    refine ⟨_, (pss_cons (ps_if (PW.pt (pw_or (pt_not (pt_val (pe_callB call_isi (by rfl) T.z_isinstance boot_isinstance (pa_cons (pv 0) (pa_cons (pe_bltn (v := .ty "str") rfl T.z_str boot_str rfl) pa_nil))))) (pw_or1 (pt_not (pt_chain op_le op_le pe_int (pe_callB call_len (by rfl) T.z_len PySem.boot_len (pa_cons (pv 0) pa_nil)) (pe_glob (v := .int 3) rfl T.c_MOST_LETTERS.choose_spec ⟨_, rfl⟩)))))) (pss_one (ps_ret pe_bl)) pss_nil) (pss_one (ps_ret (pe_and (pe_cmpR op_eq (pe_lenset rfl rfl T.z_len rfl T.z_set (pa_cons (pv 0) pa_nil)) (pe_callB call_len (by rfl) T.z_len PySem.boot_len (pa_cons (pv 0) pa_nil)) (nomark _)) (pe_one (pe_callB (call_all rfl) (by rfl) T.z_all boot_all (pa_cons (pe_comp (xs := ["sign"]) rfl (show CompOk ["thing"] (defScope s_is_letters) _ from ⟨rfl, by decide +kernel, by decide +kernel, by decide +kernel, by decide +kernel, by decide +kernel⟩) (pi_str (pv 0)) (fun _ _ _ _ _ => (pg_name (i := 1) (by show List.Nodup (["thing", "sign"] : List Str); decide +kernel) rfl (Or.inl rfl))) (fun _ _ _ _ _ => (pe_cmpR op_in_str (pv 1) (pe_glob (v := .str "abcdefghijklmnopqrstuvwxyz") rfl T.c_SMALL_LETTERS.choose_spec ⟨_, rfl⟩) (by with_unfolding_all rfl)))) pa_nil))))))), ?_⟩
    refine ⟨_, rfl, _, _, _, _, rfl, TyOf.str _, T.k_ss, _, rfl, ?_⟩
    (try refine iteF ?_)
    refine ⟨_, rfl, _, _, rfl, ll _, _, _, rfl, rfl, _, rfl, ?_⟩
    refine iteP (fun _ => ?_) (fun h0 => absurd h0 (by omega))
    refine ⟨_, _, rfl, rfl, _, rfl, ?_⟩
    rw [show decide ((l.length : Int) ≤ 3) = true from decide_eq_true (by omega)]
    (try refine iteF ?_)
    (try refine iteF ?_)
    refine ⟨_, rfl, _, rfl, (show (tx l).cps.toList.Nodup by show l.toArray.toList.Nodup; simpa using L.nd), (by rw [tx_len]; omega), _, rfl, _, _, rfl, ll _, rfl, _, rfl, ?_⟩
    rw [show decide (V.int (((tx l).length : Nat) : Int) = V.int ((l.length : Nat) : Int)) = true from decI (by rw [tx_len])]
    refine iteT ?_
    refine ⟨_, rfl, _, rfl, L.asc', comp_go (n := l.length) (fun j ys H2 => ys = (List.replicate j true).map V.bl ∧ H2 = H) (by omega) ⟨rfl, rfl⟩ (fun j ys H2 q => by rw [q.1]; simp) ?_ ?_ ?_⟩
    · rintro j ys H2 hj ⟨rfl, rfl⟩
      refine ⟨(by show j < l.toArray.size; simpa using hj), fun y H' hy => ?_⟩
      obtain ⟨rfl, c, hc, rfl⟩ := hy
      have hc : l.toArray[j]? = some c := hc
      have hc : l[j]? = some c := by simpa using hc
      have e := small_in (Z.az c (List.mem_of_getElem? hc))
      refine ⟨⟨[some _], rfl, rfl⟩, _, rfl, _, _, rfl, rfl, ?_, rfl⟩
      show _ ++ [V.bl (!(Builtin.Str.occurrences (Str.ofString "abcdefghijklmnopqrstuvwxyz") (tx [c]) 0 (Str.ofString "abcdefghijklmnopqrstuvwxyz").length 1).isEmpty)] = _
      rw [e, List.replicate_succ', List.map_append]; rfl
    · rintro ys H2 ⟨rfl, rfl⟩
      show l.toArray.size ≤ _
      simp
    · rintro ys H2 p ⟨rfl, rfl⟩ np
      refine ⟨p, List.replicate l.length true, rfl, SqL.of upd_same, ?_⟩
      have e : (List.replicate l.length true).all id = true := by rw [List.all_eq_true]; exact fun b hb => (List.mem_replicate.mp hb).2
      show Q (.bl ((List.replicate l.length true).all id)) _
      rw [e]
      exact k _ (same_upd np)
theorem all_true (n : Nat) : (List.replicate n true).all id = true := by rw [List.all_eq_true]; exact fun b hb => (List.mem_replicate.mp hb).2
def sp_is_row (w : World) (K : PySem.W.Frag) (mg : Str → Option Value) (base : Heap) : Sp := fun vs H Q _ => ∃ (R : KindR Pr w K mg base), ∃ kv v n, ∃ (z : Int), ∃ x m, vs = [kv, .int z, v] ∧ (KAt R.C R.fs H kv ∧ R.Row n x m v H ∧ n ≤ 1000 ∧ z = n) ∧ ∀ H', Same H H' → Q (.bl true) H'
theorem ok_is_row (T : Txt K mg t) : FnOk Pr w K mg base CX0 41 t.is_row t.d_is_row ["kind", "size", "thing"] (sp_is_row w K mg base) := by
  refine T.F_is_row.ok sc_is_row (fun vs H Q E h => ?_) (fun cdv A outer s H vs Q E hr h => ?_)
  · obtain ⟨R, kv, v, n, z, x, m, rfl, _⟩ := h
    rfl
  · obtain ⟨R, kv, v, n, z, x, m, rfl, ⟨⟨kp, dx, rfl, hk⟩, hr', hn, rfl⟩, k⟩ := h
    have hl := hr'.len (K := K)
    obtain ⟨p, us, rfl, hp, e⟩ := hr'
    refine ⟨_, (pss_cons (ps_if (PW.pt (pw_or (pt_not (pt_val (pe_callB call_isi (by rfl) T.z_isinstance boot_isinstance (pa_cons (pv 2) (pa_cons (pe_bltn (v := .ty "tuple") rfl T.z_tuple boot_tuple rfl) pa_nil))))) (pw_or1 (pt_cmpR op_ne (pe_callB call_len (by rfl) T.z_len PySem.boot_len (pa_cons (pv 2) pa_nil)) (pv 1) (nomark _))))) (pss_one (ps_ret pe_bl)) pss_nil) (pss_one (ps_ret (pe_callB (call_all rfl) (by rfl) T.z_all boot_all (pa_cons (pe_comp (xs := ["x"]) rfl (show CompOk ["kind", "size", "thing"] (defScope s_is_row) _ from ⟨rfl, by decide +kernel, by decide +kernel, by decide +kernel, by decide +kernel, by decide +kernel⟩) (pi_tup (pv 2)) (fun _ _ _ _ _ => (pg_name (i := 3) (by show List.Nodup (["kind", "size", "thing", "x"] : List Str); decide +kernel) rfl (Or.inl rfl))) (fun _ _ _ _ _ => (pe_meth (pv 0) R.cl R.t_is_weight R.G_is_weight (hr.mono (by decide)) R.b_is_weight .nil pass0 (pa_cons (pv 3) pa_nil)))) pa_nil))))), ?_⟩
    refine ⟨_, rfl, _, _, _, _, rfl, TyOf.tup hp, T.k_tt, _, rfl, ?_⟩
    (try refine iteF ?_)
    refine ⟨_, rfl, _, _, rfl, hl, _, rfl, rfl, _, rfl, ?_⟩
    (try dsimp only)
    refine iteNI (fun ne => absurd rfl ne) (fun _ => ?_)
    refine ⟨_, rfl, p, rfl, ⟨_, SqT.of hp⟩, comp_go (n := n) (fun j ys H2 => ys = (List.replicate j true).map V.bl ∧ H2 = H) hn ⟨rfl, rfl⟩ (fun j ys H2 q => by rw [q.1]; simp) ?_ ?_ ?_⟩
    · rintro j ys H2 hj ⟨rfl, rfl⟩
      obtain ⟨u, eu, pu⟩ := e.2 j hj
      refine ⟨⟨_, _, SqT.of hp, eu⟩, fun y H' hy => ?_⟩
      obtain ⟨rfl, hy⟩ := hy
      have := hy _ (SqT.of hp)
      rw [eu] at this
      cases this
      refine ⟨⟨[some _], rfl, rfl⟩, _, rfl, _, _, _, rfl, hk, R.l_is_weight, _, rfl, _, _, _, rfl, ⟨⟨_, _, rfl, hk⟩, pu.1⟩, ?_, rfl⟩
      rw [List.replicate_succ', List.map_append]; rfl
    · rintro ys H2 ⟨rfl, rfl⟩
      exact ⟨_, SqT.of hp, by rw [e.1]; exact Nat.le_refl _⟩
    · rintro ys H2 q ⟨rfl, rfl⟩ nq
      refine ⟨q, List.replicate n true, rfl, SqL.of upd_same, ?_⟩
      show Q (.bl ((List.replicate n true).all id)) _
      rw [all_true]
      exact k _ (same_upd nq)
def sp_is_table (w : World) (K : PySem.W.Frag) (mg : Str → Option Value) (base : Heap) : Sp := fun vs H Q _ => ∃ (R : KindR Pr w K mg base), ∃ kv v n, ∃ (z : Int), ∃ x m, vs = [kv, .int z, v] ∧ (KAt R.C R.fs H kv ∧ R.Tab n n x m v H ∧ n ≤ 1000 ∧ z = n) ∧ ∀ H', Same H H' → Q (.bl true) H'
theorem ok_is_table (T : Txt K mg t) : FnOk Pr w K mg base CX0 42 t.is_table t.d_is_table ["kind", "size", "thing"] (sp_is_table w K mg base) := by
  refine T.F_is_table.ok sc_is_table (fun vs H Q E h => ?_) (fun cdv A outer s H vs Q E hr h => ?_)
  · obtain ⟨R, kv, v, n, z, x, m, rfl, _⟩ := h
    rfl
  · obtain ⟨R, kv, v, n, z, x, m, rfl, ⟨hk, hr', hn, rfl⟩, k⟩ := h
    have hl := hr'.len (K := K)
    obtain ⟨p, us, rfl, hp, e⟩ := hr'
    refine ⟨_, (pss_cons (ps_if (PW.pt (pw_or (pt_not (pt_val (pe_callB call_isi (by rfl) T.z_isinstance boot_isinstance (pa_cons (pv 2) (pa_cons (pe_bltn (v := .ty "tuple") rfl T.z_tuple boot_tuple rfl) pa_nil))))) (pw_or1 (pt_cmpR op_ne (pe_callB call_len (by rfl) T.z_len PySem.boot_len (pa_cons (pv 2) pa_nil)) (pv 1) (nomark _))))) (pss_one (ps_ret pe_bl)) pss_nil) (pss_one (ps_ret (pe_callB (call_all rfl) (by rfl) T.z_all boot_all (pa_cons (pe_comp (xs := ["row"]) rfl (show CompOk ["kind", "size", "thing"] (defScope s_is_table) _ from ⟨rfl, by decide +kernel, by decide +kernel, by decide +kernel, by decide +kernel, by decide +kernel⟩) (pi_tup (pv 2)) (fun _ _ _ _ _ => (pg_name (i := 3) (by show List.Nodup (["kind", "size", "thing", "row"] : List Str); decide +kernel) rfl (Or.inl rfl))) (fun _ _ _ _ _ => (pe_call (ok_is_row (w := w) (base := base) T) (hr.mono (by decide)) rfl T.m_is_row T.F_is_row.kp T.b_is_row .nil pass0 (pa_cons (pv 0) (pa_cons (pv 1) (pa_cons (pv 3) pa_nil)))))) pa_nil))))), ?_⟩
    refine ⟨_, rfl, _, _, _, _, rfl, TyOf.tup hp, T.k_tt, _, rfl, ?_⟩
    (try refine iteF ?_)
    refine ⟨_, rfl, _, _, rfl, hl, _, rfl, rfl, _, rfl, ?_⟩
    (try dsimp only)
    refine iteNI (fun ne => absurd rfl ne) (fun _ => ?_)
    refine ⟨_, rfl, p, rfl, ⟨_, SqT.of hp⟩, comp_go (n := n) (fun j ys H2 => ys = (List.replicate j true).map V.bl ∧ Same H H2) hn ⟨rfl, Same.refl _⟩ (fun j ys H2 q => by rw [q.1]; simp) ?_ ?_ ?_⟩
    · rintro j ys H2 hj ⟨rfl, q⟩
      obtain ⟨u, eu, pu⟩ := e.2 j hj
      refine ⟨⟨_, _, SqT.of (q _ _ hp), eu⟩, fun y H' hy => ?_⟩
      obtain ⟨rfl, hy⟩ := hy
      have := hy _ (SqT.of (q _ _ hp))
      rw [eu] at this
      cases this
      refine ⟨⟨[some _], rfl, rfl⟩, _, rfl, _, rfl, _, rfl, R, _, _, n, _, _, m, rfl, ⟨hk.same q, KindR.Row.same q.t pu, hn, rfl⟩, fun H3 s3 => ⟨?_, q.trans s3⟩⟩
      rw [List.replicate_succ', List.map_append]; rfl
    · rintro ys H2 ⟨rfl, q⟩
      exact ⟨_, SqT.of (q _ _ hp), by rw [e.1]; exact Nat.le_refl _⟩
    · rintro ys H2 l ⟨rfl, q⟩ nq
      refine ⟨l, List.replicate n true, rfl, SqL.of upd_same, ?_⟩
      show Q (.bl ((List.replicate n true).all id)) _
      rw [all_true]
      exact k _ (q.trans (same_upd nq))
/-- a machine whose start, tables and end have levels of their own -/
def MachM (R : KindR Pr w K mg base) (l : List Nat) (n : Nat) (st : Nat → R.S.W) (tb : Nat → Nat → Nat → R.S.W) (en : Nat → R.S.W) (_ : Nat) (v : V) (H : Hp) : Prop :=
  ∃ p sv tv ev m1 m2 m3, v = .ref p ∧ H p = some (.tup [vT l, sv, tv, ev]) ∧ R.Row n st m1 sv H ∧ TupOf (fun j u H => R.Tab n n (tb j) m2 u H) l.length tv H ∧ R.Row n en m3 ev H
def sp_is_machine (w : World) (K : PySem.W.Frag) (mg : Str → Option Value) (base : Heap) : Sp := fun vs H Q _ => ∃ (R : KindR Pr w K mg base), ∃ kv v l n st tb en m, vs = [kv, v] ∧ (KAt R.C R.fs H kv ∧ MachM R l n st tb en m v H ∧ AZ l ∧ n ≤ 20) ∧ ∀ H', Same H H' → Q (.bl true) H'
theorem ok_is_machine (T : Txt K mg t) : FnOk Pr w K mg base CX0 43 t.is_machine t.d_is_machine ["kind", "thing"] (sp_is_machine w K mg base) := by
  refine T.F_is_machine.ok sc_is_machine (fun vs H Q E h => ?_) (fun cdv A outer s H vs Q E hr h => ?_)
  · obtain ⟨R, kv, v, l, n, st, tb, en, m, rfl, _⟩ := h
    rfl
  · obtain ⟨R, kv, v, l, n, st, tb, en, m, rfl, ⟨hk, ⟨p, sv, tv, ev, m1, m2, m3, rfl, hp, h1, h2, h3⟩, Z, hn⟩, k⟩ := h
    have l3 := Z.lo.h3
    have sl : 1000 < sizeLine := by decide
    have hl : LenV K (.ref p) H 4 := .inr ⟨_, SqT.of hp, rfl⟩
    refine ⟨_, (pss_cons (ps_if (PW.pt (pw_or (pt_not (pt_val (pe_callB call_isi (by rfl) T.z_isinstance boot_isinstance (pa_cons (pv 1) (pa_cons (pe_bltn (v := .ty "tuple") rfl T.z_tuple boot_tuple rfl) pa_nil))))) (pw_or (pt_cmpR op_ne (pe_callB call_len (by rfl) T.z_len PySem.boot_len (pa_cons (pv 1) pa_nil)) pe_int (nomark _)) (pw_or1 (pt_not (pt_val (pe_call (ok_is_letters T) (hr.mono (by decide)) rfl T.m_is_letters T.F_is_letters.kp T.b_is_letters .nil pass0 (pa_cons (pe_ix ix_tup (pv 1) pe_int (fun _ _ => rfl)) pa_nil)))))))) (pss_one (ps_ret pe_bl)) pss_nil) (pss_cons (ps_set (i := 2) sc_is_machine.nd rfl (Or.inl rfl) (pe_ix ix_tup (pv 1) pe_int (fun _ _ => rfl))) (pss_cons (ps_set (i := 3) sc_is_machine.nd rfl (Or.inl rfl) (pe_ix ix_tup (pv 1) pe_int (fun _ _ => rfl))) (pss_cons (ps_if (PW.pt (pw_or (pt_not (pt_val (pe_callB call_isi (by rfl) T.z_isinstance boot_isinstance (pa_cons (pv 2) (pa_cons (pe_bltn (v := .ty "tuple") rfl T.z_tuple boot_tuple rfl) pa_nil))))) (pw_or1 (pt_cmpR op_gt (pe_callB call_len (by rfl) T.z_len PySem.boot_len (pa_cons (pv 2) pa_nil)) (pe_glob (v := .int 20) rfl T.c_MOST_ROOMS.choose_spec ⟨_, rfl⟩) (nomark _))))) (pss_one (ps_ret pe_bl)) pss_nil) (pss_cons (ps_if (PW.pt (pw_or (pt_not (pt_val (pe_callB call_isi (by rfl) T.z_isinstance boot_isinstance (pa_cons (pv 3) (pa_cons (pe_bltn (v := .ty "tuple") rfl T.z_tuple boot_tuple rfl) pa_nil))))) (pw_or1 (pt_cmpR op_ne (pe_callB call_len (by rfl) T.z_len PySem.boot_len (pa_cons (pv 3) pa_nil)) (pe_callB call_len (by rfl) T.z_len PySem.boot_len (pa_cons (pe_ix ix_tup (pv 1) pe_int (fun _ _ => rfl)) pa_nil)) (nomark _))))) (pss_one (ps_ret pe_bl)) pss_nil) (pss_cons (ps_set (i := 4) sc_is_machine.nd rfl (Or.inr rfl) (pe_callB call_len (by rfl) T.z_len PySem.boot_len (pa_cons (pv 2) pa_nil))) (pss_cons (ps_if (PW.pt (pw_or (pt_not (pt_val (pe_call (ok_is_row T) (hr.mono (by decide)) rfl T.m_is_row T.F_is_row.kp T.b_is_row .nil pass0 (pa_cons (pv 0) (pa_cons (pv 4) (pa_cons (pv 2) pa_nil)))))) (pw_or1 (pt_not (pt_val (pe_call (ok_is_row T) (hr.mono (by decide)) rfl T.m_is_row T.F_is_row.kp T.b_is_row .nil pass0 (pa_cons (pv 0) (pa_cons (pv 4) (pa_cons (pe_ix ix_tup (pv 1) pe_int (fun _ _ => rfl)) pa_nil))))))))) (pss_one (ps_ret pe_bl)) pss_nil) (pss_one (ps_ret (pe_callB (call_all rfl) (by rfl) T.z_all boot_all (pa_cons (pe_comp (xs := ["table"]) rfl (show CompOk ["kind", "thing", "start", "tables", "size"] (defScope s_is_machine) _ from ⟨rfl, by decide +kernel, by decide +kernel, by decide +kernel, by decide +kernel, by decide +kernel⟩) (pi_tup (pv 3)) (fun _ _ _ _ _ => (pg_name (i := 5) (by show List.Nodup (["kind", "thing", "start", "tables", "size", "table"] : List Str); decide +kernel) rfl (Or.inl rfl))) (fun _ _ _ _ _ => (pe_call (ok_is_table (w := w) (base := base) T) (hr.mono (by decide)) rfl T.m_is_table T.F_is_table.kp T.b_is_table .nil pass0 (pa_cons (pv 0) (pa_cons (pv 4) (pa_cons (pv 5) pa_nil)))))) pa_nil))))))))))), ?_⟩
    refine ⟨_, rfl, _, _, _, _, rfl, TyOf.tup hp, T.k_tt, _, rfl, ?_⟩
    (try refine iteF ?_)
    refine ⟨_, rfl, _, _, rfl, hl, rfl, _, rfl, ?_⟩
    (try dsimp only)
    refine iteNI (fun ne => absurd rfl ne) (fun _ => ?_)
    refine ⟨_, rfl, _, _, _, _, rfl, rfl, SqT.of hp, rfl, l, rfl, Z, fun H1 s1 => ⟨_, rfl, ?_⟩⟩
    (try refine iteF ?_)
    (try refine iteF ?_)
    refine ⟨_, rfl, _, _, _, _, rfl, rfl, SqT.of (s1 _ _ hp), rfl, ?_⟩
    refine ⟨_, rfl, _, _, _, _, rfl, rfl, SqT.of (s1 _ _ hp), rfl, ?_⟩
    have ls := (KindR.Row.same s1.t h1).len (K := K)
    obtain ⟨sp, ss, rfl, hsp, es⟩ := id h1
    obtain ⟨tp, ts, rfl, htp, et⟩ := id h2
    have lt : LenV K (.ref tp) H1 l.length := .inr ⟨_, SqT.of (s1 _ _ htp), et.1.symm⟩
    refine ⟨_, rfl, _, _, _, _, rfl, TyOf.tup (s1 _ _ hsp), T.k_tt, _, rfl, ?_⟩
    (try refine iteF ?_)
    refine ⟨_, rfl, _, _, rfl, ls, _, _, rfl, rfl, _, rfl, ?_⟩
    refine iteP (fun h0 => absurd h0 (by omega)) (fun _ => ?_)
    refine ⟨_, rfl, _, _, _, _, rfl, TyOf.tup (s1 _ _ htp), T.k_tt, _, rfl, ?_⟩
    (try refine iteF ?_)
    refine ⟨_, rfl, _, _, rfl, lt, _, rfl, _, _, _, _, rfl, rfl, SqT.of (s1 _ _ hp), rfl, _, _, rfl, (show LenV K (vT l) H1 l.length from ⟨by rw [tx_len]; omega, (tx_len l).symm⟩), rfl, _, rfl, ?_⟩
    (try dsimp only)
    refine iteNI (fun ne => absurd rfl ne) (fun _ => ?_)
    refine ⟨_, rfl, _, _, rfl, ls, ?_⟩
    refine ⟨_, rfl, _, rfl, _, rfl, R, _, _, n, _, _, m1, rfl, ⟨hk.same s1, KindR.Row.same s1.t h1, by omega, rfl⟩, fun H2 s2 => ⟨_, rfl, ?_⟩⟩
    have s2' := s1.trans s2
    (try refine iteF ?_)
    refine ⟨_, rfl, _, rfl, _, rfl, _, _, _, _, rfl, rfl, SqT.of (s2' _ _ hp), rfl, R, _, _, n, _, _, m3, rfl, ⟨hk.same s2', KindR.Row.same s2'.t h3, by omega, rfl⟩, fun H3 s3 => ⟨_, rfl, ?_⟩⟩
    have s3' := s2'.trans s3
    (try refine iteF ?_)
    (try refine iteF ?_)
    refine ⟨_, rfl, tp, rfl, ⟨_, SqT.of (s3' _ _ htp)⟩, comp_go (n := l.length) (fun j ys H4 => ys = (List.replicate j true).map V.bl ∧ Same H H4) (by omega) ⟨rfl, s3'⟩ (fun j ys H2 q => by rw [q.1]; simp) ?_ ?_ ?_⟩
    · rintro j ys H4 hj ⟨rfl, q⟩
      obtain ⟨u, eu, pu⟩ := et.2 j hj
      refine ⟨⟨_, _, SqT.of (q _ _ htp), eu⟩, fun y H' hy => ?_⟩
      obtain ⟨rfl, hy⟩ := hy
      have := hy _ (SqT.of (q _ _ htp))
      rw [eu] at this
      cases this
      refine ⟨⟨[some _], rfl, rfl⟩, _, rfl, _, rfl, _, rfl, R, _, _, n, _, _, m2, rfl, ⟨hk.same q, KindR.Tab.same q.t pu, by omega, rfl⟩, fun H5 s5 => ⟨?_, q.trans s5⟩⟩
      rw [List.replicate_succ', List.map_append]; rfl
    · rintro ys H4 ⟨rfl, q⟩
      exact ⟨_, SqT.of (q _ _ htp), by rw [et.1]; exact Nat.le_refl _⟩
    · rintro ys H4 q ⟨rfl, qs⟩ nq
      refine ⟨q, List.replicate l.length true, rfl, SqL.of upd_same, ?_⟩
      show Q (.bl ((List.replicate l.length true).all id)) _
      rw [all_true]
      exact k _ (qs.trans (same_upd nq))
/-! rows made of rows -/
theorem Ents.app {Pd : Nat → V → Hp → Prop} {xs ys : List V} {n k : Nat} {H : Hp} (h1 : Ents Pd xs n H) (h2 : Ents (fun j => Pd (n + j)) ys k H) : Ents Pd (xs ++ ys) (n + k) H :=
  ⟨by rw [List.length_append, h1.1, h2.1], fun j hj => by
    by_cases hn : j < n
    · obtain ⟨u, e, q⟩ := h1.2 j hn
      exact ⟨u, by rw [List.getElem?_append_left (by rw [h1.1]; exact hn)]; exact e, q⟩
    · obtain ⟨u, e, q⟩ := h2.2 (j - n) (by omega)
      rw [show n + (j - n) = j by omega] at q
      exact ⟨u, by rw [List.getElem?_append_right (by rw [h1.1]; omega), h1.1]; exact e, q⟩⟩
theorem lv_ups {S : SR} {c : Nat} {x : S.W} {k : Nat} : ∀ {d : Nat}, S.lv k c x → S.lv (k + d) c x
  | 0, h => h
  | d + 1, h => S.lv_up _ _ _ (lv_ups h)
theorem Row.up {R : KindR Pr w K mg base} {n m m' : Nat} {x : Nat → R.S.W} {v : V} {H : Hp} (h : m ≤ m') (r : R.Row n x m v H) : R.Row n x m' v H := by
  obtain ⟨d, rfl⟩ : ∃ d, m' = m + d := ⟨m' - m, by omega⟩
  exact r.mono (SameT.refl _) fun _ _ _ q => ⟨q.1, lv_ups q.2⟩
theorem Tab.up {R : KindR Pr w K mg base} {k n m m' : Nat} {x : Nat → Nat → R.S.W} {v : V} {H : Hp} (h : m ≤ m') (r : R.Tab k n x m v H) : R.Tab k n x m' v H := r.mono (SameT.refl _) fun _ _ _ q => Row.up h q
theorem Row.congr {R : KindR Pr w K mg base} {n m : Nat} {x y : Nat → R.S.W} {v : V} {H : Hp} (h : ∀ i, i < n → x i = y i) (r : R.Row n x m v H) : R.Row n y m v H :=
  r.mono (SameT.refl _) fun j _ hj q => ⟨by rw [← h j hj]; exact q.1, by rw [← h j hj]; exact q.2⟩
def sp_noughts (w : World) (K : PySem.W.Frag) (mg : Str → Option Value) (base : Heap) : Sp := fun vs H Q _ => ∃ (R : KindR Pr w K mg base), ∃ kv, ∃ (z : Int), ∃ (n m : Nat), vs = [kv, .int z] ∧ (KAt R.C R.fs H kv ∧ n ≤ 1000 ∧ z = n) ∧
  ∀ v H', Same H H' → R.Row n (fun _ => R.S.zero) m v H' → Q v H'
theorem ok_noughts (T : Txt K mg t) : FnOk Pr w K mg base CX0 41 t.noughts t.d_noughts ["kind", "size"] (sp_noughts w K mg base) := by
  refine T.F_noughts.ok sc_noughts (fun vs H Q E h => ?_) (fun cdv A outer s H vs Q E hr h => ?_)
  · obtain ⟨R, kv, z, n, m, rfl, _⟩ := h
    rfl
  · obtain ⟨R, kv, z, n, m, rfl, ⟨⟨kp, dx, rfl, hk⟩, hn, rfl⟩, k⟩ := h
    refine ⟨_, (pss_one (ps_ret (pe_callTy call_tuple_of (by rfl) T.z_tuple boot_tuple (pa_cons (pe_comp (xs := ["place"]) rfl (show CompOk ["kind", "size"] (defScope s_noughts) _ from ⟨rfl, by decide +kernel, by decide +kernel, by decide +kernel, by decide +kernel, by decide +kernel⟩) (pi_range1 rfl T.z_range (pa_cons (pv 1) pa_nil)) (fun _ _ _ _ _ => (pg_name (i := 2) (by show List.Nodup (["kind", "size", "place"] : List Str); decide +kernel) rfl (Or.inl rfl))) (fun _ _ _ _ _ => (pe_meth0 (pv 0) R.cl R.t_nought R.G_nought (hr.mono (by decide)) R.b_nought .nil pass0))) pa_nil)))), ?_⟩
    refine ⟨_, rfl, _, rfl, (by omega), (by omega), comp_go (n := n) (fun j ys H2 => Same H H2 ∧ Ents (R.Wt (fun _ => R.S.zero) m) ys j H2) hn ⟨Same.refl _, Ents.nil⟩ (fun j ys H2 q => q.2.1) ?_ ?_ ?_⟩
    · rintro j ys H2 hj ⟨q, e⟩
      refine ⟨(show j < (n : Int).toNat by omega), fun y H' hy => ?_⟩
      obtain ⟨rfl, rfl⟩ := hy
      refine ⟨⟨[some _], rfl, rfl⟩, _, rfl, _, _, _, rfl, q _ _ hk, R.l_nought, _, rfl, ⟨_, _, rfl, q _ _ hk⟩, fun v H3 s3 f3 => ?_⟩
      exact ⟨q.trans s3, (e.mono fun _ _ _ z => KindR.Wt.same s3.t z).snoc ⟨f3, R.S.lv_mono _ _ _ _ (by decide) (R.S.lv_zero _)⟩⟩
    · rintro ys H2 ⟨q, e⟩
      show (n : Int).toNat ≤ n
      omega
    · rintro ys H2 l ⟨q, e⟩ nl
      have s1' := same_upd (o := .lst ys) nl
      refine ⟨l, ys, rfl, .inl ⟨SqL.of upd_same, fun l2 n2 => ?_⟩⟩
      have s2 := same_upd (o := .tup ys) n2
      exact k _ _ (q.trans (s1'.trans s2)) ⟨l2, ys, rfl, upd_same, e.mono fun _ _ _ z => KindR.Wt.same (s1'.trans s2).t z⟩
def sp_times_row (w : World) (K : PySem.W.Frag) (mg : Str → Option Value) (base : Heap) : Sp := fun vs H Q _ => ∃ (R : KindR Pr w K mg base), ∃ kv bv row n b x j m, vs = [kv, bv, row] ∧ (KAt R.C R.fs H kv ∧ R.is H bv b ∧ R.S.lv j 32 b ∧ R.Row n x m row H ∧ n ≤ 1000 ∧ j + m ≤ 100000) ∧
  ∀ v H', Same H H' → R.Row n (fun i => R.S.mul b (x i)) (j + m) v H' → Q v H'
theorem ok_times_row (T : Txt K mg t) : FnOk Pr w K mg base CX0 41 t.times_row t.d_times_row ["kind", "by", "row"] (sp_times_row w K mg base) := by
  refine T.F_times_row.ok sc_times_row (fun vs H Q E h => ?_) (fun cdv A outer s H vs Q E hr h => ?_)
  · obtain ⟨R, kv, bv, row, n, b, x, j, m, rfl, _⟩ := h
    rfl
  · obtain ⟨R, kv, bv, row, n, b, x, jl, m, rfl, ⟨⟨kp, dx, rfl, hk⟩, hb, lb, ⟨p, us, rfl, hp, ent⟩, hn, hz⟩, k⟩ := h
    refine ⟨_, (pss_one (ps_ret (pe_callTy call_tuple_of (by rfl) T.z_tuple boot_tuple (pa_cons (pe_comp (xs := ["x"]) rfl (show CompOk ["kind", "by", "row"] (defScope s_times_row) _ from ⟨rfl, by decide +kernel, by decide +kernel, by decide +kernel, by decide +kernel, by decide +kernel⟩) (pi_tup (pv 2)) (fun _ _ _ _ _ => (pg_name (i := 3) (by show List.Nodup (["kind", "by", "row", "x"] : List Str); decide +kernel) rfl (Or.inl rfl))) (fun _ _ _ _ _ => (pe_meth (pv 0) R.cl R.t_times R.G_times (hr.mono (by decide)) R.b_times .nil pass0 (pa_cons (pv 1) (pa_cons (pv 3) pa_nil))))) pa_nil)))), ?_⟩
    refine ⟨_, rfl, p, rfl, ⟨_, SqT.of hp⟩, comp_go (n := n) (fun j ys H2 => Same H H2 ∧ Ents (R.Wt (fun i => R.S.mul b (x i)) (jl + m)) ys j H2) hn ⟨Same.refl _, Ents.nil⟩ (fun j ys H2 q => q.2.1) ?_ ?_ ?_⟩
    · rintro j ys H2 hj ⟨q, e⟩
      obtain ⟨u, eu, pu⟩ := ent.2 j hj
      refine ⟨⟨_, _, SqT.of (q _ _ hp), eu⟩, fun y H' hy => ?_⟩
      obtain ⟨rfl, hy⟩ := hy
      have := hy _ (SqT.of (q _ _ hp))
      rw [eu] at this
      cases this
      refine ⟨⟨[some _], rfl, rfl⟩, _, rfl, _, _, _, rfl, q _ _ hk, R.l_times, _, rfl, _, rfl, _, _, _, _, _, 100 * jl, 100 * m, rfl, ⟨⟨_, _, rfl, q _ _ hk⟩, R.same q.t hb, R.same q.t pu.1, R.S.lv_sz _ _ _ (by decide) lb, R.S.lv_sz _ _ _ (by decide) pu.2, by omega⟩, fun v H3 s3 f3 => ?_⟩
      exact ⟨q.trans s3, (e.mono fun _ _ _ z => KindR.Wt.same s3.t z).snoc ⟨f3, R.S.lv_mono _ _ _ _ (by decide) (R.S.lv_mul _ _ _ _ lb pu.2)⟩⟩
    · rintro ys H2 ⟨q, e⟩
      exact ⟨_, SqT.of (q _ _ hp), by rw [ent.1]; exact Nat.le_refl _⟩
    · rintro ys H2 l ⟨q, e⟩ nl
      have s1' := same_upd (o := .lst ys) nl
      refine ⟨l, ys, rfl, .inl ⟨SqL.of upd_same, fun l2 n2 => ?_⟩⟩
      have s2 := same_upd (o := .tup ys) n2
      exact k _ _ (q.trans (s1'.trans s2)) ⟨l2, ys, rfl, upd_same, e.mono fun _ _ _ z => KindR.Wt.same (s1'.trans s2).t z⟩
/-! machines whose start, tables and end have levels of their own -/
def MachG (R : KindR Pr w K mg base) (l : List Nat) (n : Nat) (st : Nat → R.S.W) (tb : Nat → Nat → Nat → R.S.W) (en : Nat → R.S.W) (m1 m2 m3 : Nat) (v : V) (H : Hp) : Prop :=
  ∃ p sv tv ev, v = .ref p ∧ H p = some (.tup [vT l, sv, tv, ev]) ∧ R.Row n st m1 sv H ∧ TupOf (fun j u H => R.Tab n n (tb j) m2 u H) l.length tv H ∧ R.Row n en m3 ev H
theorem MachG.same {R : KindR Pr w K mg base} {l : List Nat} {n : Nat} {st : Nat → R.S.W} {tb : Nat → Nat → Nat → R.S.W} {en : Nat → R.S.W} {m1 m2 m3 : Nat} {v : V} {H H' : Hp} (s : SameT H H') (h : MachG R l n st tb en m1 m2 m3 v H) : MachG R l n st tb en m1 m2 m3 v H' := by
  obtain ⟨p, sv, tv, ev, rfl, hp, h1, h2, h3⟩ := h
  exact ⟨p, sv, tv, ev, rfl, s _ _ hp, KindR.Row.same s h1, h2.mono s fun _ _ _ q => KindR.Tab.same s q, KindR.Row.same s h3⟩
theorem MachG.m {R : KindR Pr w K mg base} {l : List Nat} {n : Nat} {st : Nat → R.S.W} {tb : Nat → Nat → Nat → R.S.W} {en : Nat → R.S.W} {m1 m2 m3 : Nat} {v : V} {H : Hp} (h : MachG R l n st tb en m1 m2 m3 v H) : MachM R l n st tb en 0 v H := by
  obtain ⟨p, sv, tv, ev, a, b, c, d, e⟩ := h
  exact ⟨p, sv, tv, ev, m1, m2, m3, a, b, c, d, e⟩
theorem Mach.g {R : KindR Pr w K mg base} {l : List Nat} {n : Nat} {st : Nat → R.S.W} {tb : Nat → Nat → Nat → R.S.W} {en : Nat → R.S.W} {m : Nat} {v : V} {H : Hp} (h : Mach R l n st tb en m v H) : MachG R l n st tb en m m m v H := h
/-- what a word weighs -/
def wgh (S : SR) (l : List Nat) (n : Nat) (st : Nat → S.W) (tb : Nat → Nat → Nat → S.W) (en : Nat → S.W) (ws : List Nat) : S.W := dotW S (ahd S n st tb (wdx l ws) ws.length) en n
theorem if0 (n : Nat) : (if n = 0 then 0 else n) = n := by split <;> omega
structure MOk (n : Nat) (l ws : List Nat) : Prop where
  W : WOk l ws 100
  nn : n ≤ 32
theorem lv_turn {i m1 m2 : Nat} : m1 + i * m2 + m2 = m1 + (i + 1) * m2 := by rw [Nat.succ_mul, Nat.add_assoc]
theorem lv_le {i m2 : Nat} (h : i ≤ 100) : i * m2 ≤ 100 * m2 := Nat.mul_le_mul_right m2 h
/-! machines of machines -/
def sp_few : Sp := fun vs H Q _ => ∃ (z : Int), vs = [.int z] ∧ z ≤ 20 ∧ Q .non H
theorem ok_need_few_rooms (T : Txt K mg t) : FnOk Pr w K mg base CX0 1 t.need_few_rooms t.d_need_few_rooms ["count"] sp_few := by
  refine T.F_need_few_rooms.ok sc_need_few_rooms (fun vs H Q E h => ?_) (fun cdv A outer s H vs Q E hr h => ?_)
  · obtain ⟨z, rfl, _⟩ := h
    rfl
  · obtain ⟨z, rfl, hz, k⟩ := h
    refine ⟨_, (pss_one (ps_if (pt_cmpR op_gt (pv 0) (pe_glob (v := .int 20) rfl T.c_MOST_ROOMS.choose_spec ⟨_, rfl⟩) (nomark _)) (pss_one ps_never) pss_nil)), ?_⟩
    refine ⟨_, rfl, _, _, rfl, rfl, _, rfl, ?_⟩
    refine iteP (fun h0 => absurd h0 (by omega)) (fun _ => ?_)
    exact k
/-! weighed by the law -/
def sp_lstep (T : Txt K mg t) : Sp := fun vs H Q _ => ∃ (R : KindR Pr w K mg base), ∃ nm p so row tb n x A m m', So T R nm p ∧ vs = [so, row, tb] ∧ (SortAt H so nm p ∧ R.Seq n x m row H ∧ R.Tab n n A m' tb H ∧ n ≤ 32 ∧ m + m' ≤ 100000) ∧
  ∀ v H', Same H H' → R.Row n (fun j => dotW R.S x (fun i => A i j) n) (m + m') v H' → Q v H'
theorem ok_law_step (T : Txt K mg t) : FnOk Pr w K mg base CX0 42 t.law_step t.d_law_step ["_law_sort_here", "_law_row", "_law_table"] (sp_lstep (w := w) (base := base) T) := by
  refine T.F_law_step.ok sc_law_step (fun vs H Q E h => ?_) (fun cdv A outer s H vs Q E hr h => ?_)
  · obtain ⟨R, nm, p, so, row, tb, n, x, A, m, m', _, rfl, _⟩ := h
    rfl
  · obtain ⟨R, nm, pp, so, row, tb, n, x, B, m, m', hS, rfl, ⟨hso, hx, ⟨p, rows, rfl, hp, ent⟩, hn, hz⟩, k⟩ := h
    have z1000 : 1000 < sizeLine := by decide
    refine ⟨_, (pss_cons (ps_set (i := 3) sc_law_step.nd rfl (Or.inl rfl) (pe_lst pa_nil)) (pss_cons (ps_for PassesOwn.never rfl (pi_range1 rfl T.z_range (pa_cons (pe_callB call_len (by rfl) T.z_len PySem.boot_len (pa_cons (pv 1) pa_nil)) pa_nil)) (pg_name (i := 4) sc_law_step.nd rfl (Or.inr rfl)) (pss_one (ps_expr (pe_bm PySem.F.plainAttrs_list PySem.F.slot_list_append PySem.F.type_list_append mt_append (pv 3) (pa_cons (pe_call (ok_law_dot T) (hr.mono (by decide)) rfl T.m_law_dot T.F_law_dot.kp T.b_law_dot .nil pass0 (pa_cons (pv 0) (pa_cons (pv 1) (pa_cons (pe_comp (xs := ["_law_line"]) rfl (show CompOk ["_law_sort_here", "_law_row", "_law_table", "_law_found", "_law_k"] (defScope s_law_step) _ from ⟨rfl, by decide +kernel, by decide +kernel, by decide +kernel, by decide +kernel, by decide +kernel⟩) (pi_tup (pv 2)) (fun _ _ _ _ _ => (pg_name (i := 5) (by show List.Nodup (["_law_sort_here", "_law_row", "_law_table", "_law_found", "_law_k", "_law_line"] : List Str); decide +kernel) rfl (Or.inl rfl))) (fun _ _ _ _ _ => (pe_ix (show IxR _ (rIxT K) from ix_tup) (pv 5) (pv 4) (fun _ _ => rfl)))) pa_nil)))) pa_nil))))) (pss_one (ps_ret (pe_callTy call_tuple_of (by rfl) T.z_tuple boot_tuple (pa_cons (pv 3) pa_nil)))))), ?_⟩
    refine ⟨(by show 0 ≤ sizeLine; decide), fun fl nf => ?_⟩
    have s0 := same_upd (o := .lst []) nf
    refine ⟨_, rfl, _, n, rfl, (KindR.Seq.same s0 hx).len, _, rfl, (by omega), (by omega), for_range (lo := 0) (n := (n : Int).toNat) (fun i σ H2 => ∃ v5 ys, σ = [some so, some row, some (.ref p), some (.ref fl), v5] ∧ Same H H2 ∧ H2 fl = some (.lst ys) ∧ Ents (R.Wt (fun j => dotW R.S x (fun i => B i j) n) (m + m')) ys i H2) ⟨_, _, rfl, s0, upd_same, Ents.nil⟩ ?_ ?_⟩
    · rintro i σ H2 hi ⟨v5, ys, rfl, q, hf, e⟩
      have hi : i < n := by omega
      refine ⟨_, rfl, .inl ⟨rfl, _, SqL.of hf⟩, _, rfl, _, rfl, _, rfl, p, rfl, ⟨_, SqT.of (q _ _ hp)⟩, comp_go (n := n) (fun j zs H3 => Ents (R.Wt (fun j => B j i) m') zs j H2 ∧ H3 = H2) (by omega) ⟨Ents.nil, rfl⟩ (fun j zs H3 c => c.1.1) ?_ ?_ ?_⟩
      · rintro j zs H3 hj ⟨c, rfl⟩
        obtain ⟨u, eu, pu⟩ := ent.2 j hj
        refine ⟨⟨_, _, SqT.of (q _ _ hp), eu⟩, fun y H' hy => ?_⟩
        obtain ⟨rfl, hy⟩ := hy
        have := hy _ (SqT.of (q _ _ hp))
        rw [eu] at this
        cases this
        obtain ⟨r, cs, rfl, hr', ec⟩ := KindR.Row.same q.t pu
        obtain ⟨z, ez, pz⟩ := ec.2 i hi
        refine ⟨⟨[some (.ref r)], rfl, rfl⟩, _, rfl, _, rfl, _, _, _, _, rfl, rfl, SqT.of hr', (show atI cs (0 + (i : Int)) = some z by rw [Int.zero_add]; exact atI_nat ez), ?_⟩
        exact ⟨c.snoc pz, rfl⟩
      · rintro zs H3 ⟨c, rfl⟩
        exact ⟨_, SqT.of (q _ _ hp), by rw [ent.1]; exact Nat.le_refl _⟩
      · rintro zs H3 l ⟨c, rfl⟩ nl
        have s1 := same_upd (o := .lst zs) nl
        have q1 := q.trans s1
        refine ⟨R, nm, pp, _, _, _, n, x, (fun j => B j i), m, m', hS, rfl, ⟨hso.same q1.t, KindR.Seq.same q1 hx, SeqOf.list upd_same (c.mono fun _ _ _ w' => KindR.Wt.same s1.t w'), hn, hz⟩, fun v H4 s4 f4 z4 => ?_⟩
        have hf4 := (s1.trans s4) _ _ hf
        refine ⟨_, _, _, rfl, rfl, hf4, (by rw [e.1]; omega), ?_⟩
        have st := sameT_lst (o := .lst (ys ++ [v])) hf4
        exact ⟨_, _, rfl, same_at (q1.trans s4) nf, upd_same, ((e.mono fun _ _ _ w' => KindR.Wt.same (s1.trans s4).t w').snoc ⟨f4, z4⟩).mono fun _ _ _ w' => KindR.Wt.same st w'⟩
    · rintro σ H2 ⟨v5, ys, rfl, q, hf, e⟩
      have en : (n : Int).toNat = n := by omega
      rw [en] at e
      refine ⟨_, rfl, fl, ys, rfl, .inl ⟨SqL.of hf, fun l2 n2 => ?_⟩⟩
      have s2 := same_upd (o := .tup ys) n2
      exact k _ _ (q.trans s2) ⟨l2, ys, rfl, upd_same, e.mono fun _ _ _ z => KindR.Wt.same s2.t z⟩
def sp_lweigh (T : Txt K mg t) : Sp := fun vs H Q _ => ∃ (R : KindR Pr w K mg base), ∃ nm p so mv l n st tb en ws m1 m2 m3, So T R nm p ∧ vs = [so, mv, vT ws] ∧ (SortAt H so nm p ∧ MachG R l n st tb en m1 m2 m3 mv H ∧ MOk n l ws ∧ m1 + 100 * m2 + m3 ≤ 50000) ∧
  ∀ v H', Same H H' → R.is H' v (wgh R.S l n st tb en ws) → R.S.lv (m1 + ws.length * m2 + m3) 32 (wgh R.S l n st tb en ws) → Q v H'
theorem ok_law_weigh (T : Txt K mg t) : FnOk Pr w K mg base CX0 43 t.law_weigh t.d_law_weigh ["_law_sort_here", "_law_machine", "_law_word"] (sp_lweigh (w := w) (base := base) T) := by
  refine T.F_law_weigh.ok sc_law_weigh (fun vs H Q E h => ?_) (fun cdv A outer s H vs Q E hr h => ?_)
  · obtain ⟨R, nm, p, so, mv, l, n, st, tb, en, ws, m1, m2, m3, _, rfl, _⟩ := h
    rfl
  · obtain ⟨R, nm, pp, so, mv, l, n, st, tb, en, ws, m1, m2, m3, hS, rfl, ⟨hso, hm, M, hz⟩, k⟩ := h
    have W := M.W
    have wz := W.le
    have hn := M.nn
    obtain ⟨p, sv, tv, ev, rfl, hp, h1, ⟨tp, ts, rfl, htp, et⟩, h3⟩ := hm
    refine ⟨_, (pss_cons (ps_set (i := 3) sc_law_weigh.nd rfl (Or.inl rfl) (pe_ix ix_tup (pv 1) pe_int (fun _ _ => rfl))) (pss_cons (ps_for PassesOwn.never rfl (pi_str (pv 2)) (pg_name (i := 4) sc_law_weigh.nd rfl (Or.inl rfl)) (pss_one (ps_set (i := 3) sc_law_weigh.nd rfl (Or.inl rfl) (pe_call (ok_law_step T) (hr.mono (by decide)) rfl T.m_law_step T.F_law_step.kp T.b_law_step .nil pass0 (pa_cons (pv 0) (pa_cons (pv 3) (pa_cons (pe_ix ix_tup (pe_ix ix_tup (pv 1) pe_int (fun _ _ => rfl)) (pe_bm PySem.F.plainAttrs_str PySem.F.slot_str_index PySem.F.type_str_index mt_indexS (pe_ix ix_tup (pv 1) pe_int (fun _ _ => rfl)) (pa_cons (pv 4) pa_nil)) (fun _ _ => rfl)) pa_nil))))))) (pss_one (ps_ret (pe_call (ok_law_dot T) (hr.mono (by decide)) rfl T.m_law_dot T.F_law_dot.kp T.b_law_dot .nil pass0 (pa_cons (pv 0) (pa_cons (pv 3) (pa_cons (pe_ix ix_tup (pv 1) pe_int (fun _ _ => rfl)) pa_nil)))))))), ?_⟩
    refine ⟨_, rfl, _, _, _, _, rfl, rfl, SqT.of hp, rfl, ?_⟩
    refine ⟨_, rfl, _, rfl, W.asc, for_it (n := ws.length) (fun i σ H2 => ∃ rv v4, σ = [some so, some (.ref p), some (vT ws), some rv, v4] ∧ Same H H2 ∧ R.Row n (ahd R.S n st tb (wdx l ws) i) (m1 + i * m2) rv H2) ⟨_, _, rfl, Same.refl _, by rw [Nat.zero_mul]; exact h1⟩ ?_ ?_⟩
    · rintro i σ H2 hi ⟨rv, v4, rfl, q, hrow⟩
      refine ⟨(by show i < ws.toArray.size; simpa using hi), fun x H' hy => ?_⟩
      obtain ⟨rfl, c, hc, rfl⟩ := hy
      have hc := tx_get hc
      have li := lv_le (i := i) (m2 := m2) (by omega)
      have cl := W.mem hc
      obtain ⟨tbv, etb, ptb⟩ := et.2 _ (idx_lt cl)
      refine ⟨_, rfl, _, rfl, _, rfl, _, _, _, _, rfl, rfl, SqT.of (q _ _ hp), rfl, _, rfl, _, _, _, _, rfl, rfl, SqT.of (q _ _ hp), rfl, rfl, _, rfl, _, _, _, _, rfl, rfl, occ_of W.lo cl, _, _, _, _, rfl, rfl, SqT.of (q _ _ htp), atI_nat etb, ?_⟩
      refine ⟨R, nm, pp, _, _, _, n, _, _, m1 + i * m2, m2, hS, rfl, ⟨hso.same q.t, hrow.seq, KindR.Tab.same q.t ptb, hn, by omega⟩, fun v H3 s3 r3 => ?_⟩
      refine ⟨_, _, rfl, q.trans s3, ?_⟩
      have r4 := r3
      rw [lv_turn, ← wdx_at hc] at r4
      exact r4
    · rintro σ H2 ⟨rv, v4, rfl, q, hrow⟩
      have li := lv_le (m2 := m2) wz
      refine ⟨(by show ws.toArray.size ≤ _; simp), _, rfl, _, rfl, _, rfl, _, _, _, _, rfl, rfl, SqT.of (q _ _ hp), rfl, R, nm, pp, _, _, _, n, _, en, m1 + ws.length * m2, m3, hS, rfl, ⟨hso.same q.t, hrow.seq, (KindR.Row.same q.t h3).seq, hn, by omega⟩, fun v2 H3 s3 f3 z3 => ?_⟩
      exact k _ _ (q.trans s3) f3 z3
theorem LOk.asc {l : List Nat} (L : LOk l) : (tx l).cps.all (· < 128) = true := L.asc'
/-! the words asked -/
structure Wds (l : List Nat) (z : Nat) (wss : List (List Nat)) : Prop where
  al : ∀ ws ∈ wss, (∀ c ∈ ws, c ∈ l) ∧ ws.length ≤ z
theorem Wds.up {l : List Nat} {z z' : Nat} {wss : List (List Nat)} (h : Wds l z wss) (e : z ≤ z') : Wds l z' wss := ⟨fun ws hw => ⟨(h.al ws hw).1, Nat.le_trans (h.al ws hw).2 e⟩⟩
theorem Wds.app {l : List Nat} {z : Nat} {a b : List (List Nat)} (h : Wds l z a) (h' : Wds l z b) : Wds l z (a ++ b) := ⟨fun ws hw => by
  rcases List.mem_append.mp hw with q | q
  · exact h.al ws q
  · exact h'.al ws q⟩
theorem Wds.one {l ws : List Nat} {z : Nat} (h : (∀ c ∈ ws, c ∈ l) ∧ ws.length ≤ z) : Wds l z [ws] := ⟨fun u hu => by rw [List.mem_singleton.mp hu]; exact h⟩
def sp_lwords : Sp := fun vs H Q _ => ∃ l, ∃ (q : Nat), ∃ (z : Int), vs = [vT l, .int z] ∧ (LOk l ∧ q ≤ 6 ∧ z = q) ∧ ∀ p H' wss, Same H H' → H' p = some (.lst (wss.map vT)) → Wds l q wss → 1 ≤ wss.length → wss.length ≤ 5000 → H p = none → Q (.ref p) H'
theorem none_back {H H' : Hp} {a : Addr} (s : Same H H') (n : H' a = none) : H a = none := by
  cases e : H a with
  | none => rfl
  | some o => rw [s _ _ e] at n; cases n
theorem pow34 (i : Nat) : 3 ^ i ≤ 4 ^ i := Nat.pow_le_pow_left (by decide) i
theorem pow4 {i : Nat} (h : i ≤ 6) : 4 ^ i ≤ 4096 := Nat.pow_le_pow_right (n := 4) (by decide) h
theorem pow3 {i : Nat} (h : i ≤ 6) : 3 ^ i ≤ 729 := Nat.pow_le_pow_right (n := 3) (by decide) h
theorem ok_law_words (T : Txt K mg t) : FnOk Pr w K mg base CX0 1 t.law_words t.d_law_words ["_law_letters_here", "_law_most"] sp_lwords := by
  refine T.F_law_words.ok sc_law_words (fun vs H Q E h => ?_) (fun cdv A outer s H vs Q E hr h => ?_)
  · obtain ⟨l, q, z, rfl, _⟩ := h
    rfl
  · obtain ⟨l, q, z, rfl, ⟨L, hq, rfl⟩, k⟩ := h
    have sl : 10000 < sizeLine := by decide
    have l3 := L.h3
    have l1 := L.h1
    refine ⟨_, (pss_cons (ps_set (i := 2) sc_law_words.nd rfl (Or.inl rfl) (pe_lst (pa_cons pe_str pa_nil))) (pss_cons (ps_set (i := 3) sc_law_words.nd rfl (Or.inl rfl) (pe_lst (pa_cons pe_str pa_nil))) (pss_cons (ps_for PassesOwn.never rfl (pi_range1 rfl T.z_range (pa_cons (pv 1) pa_nil)) (pg_name (i := 4) sc_law_words.nd rfl (Or.inl rfl)) (pss_cons (ps_set (i := 5) sc_law_words.nd rfl (Or.inl rfl) (pe_lst pa_nil)) (pss_cons (ps_for PassesOwn.never rfl (pi_list (pv 3)) (pg_name (i := 6) sc_law_words.nd rfl (Or.inl rfl)) (pss_one (ps_for PassesOwn.never rfl (pi_str (pv 0)) (pg_name (i := 7) sc_law_words.nd rfl (Or.inl rfl)) (pss_one (ps_expr (pe_bm PySem.F.plainAttrs_list PySem.F.slot_list_append PySem.F.type_list_append mt_append (pv 5) (pa_cons (pe_op op_add_str (pv 6) (pv 7)) pa_nil))))))) (pss_cons (ps_set (i := 3) sc_law_words.nd rfl (Or.inl rfl) (pv 5)) (pss_one (ps_set (i := 2) sc_law_words.nd rfl (Or.inl rfl) (pe_op op_cat (pv 2) (pv 3)))))))) (pss_one (ps_ret (pv 2)))))), ?_⟩
    have em : V.str (Str.ofString "") = vT [] := by rw [em_is]; rfl
    refine ⟨(by show 1 ≤ sizeLine; decide), fun f0 nf => ?_⟩
    have s0 := same_upd (o := .lst [V.str (Str.ofString "")]) nf
    have h0 : upd H f0 (.lst [V.str (Str.ofString "")]) f0 = some (.lst [V.str (Str.ofString "")]) := upd_same
    revert s0 h0
    generalize upd H f0 (.lst [V.str (Str.ofString "")]) = H0
    intro s0 h0
    refine ⟨(by show 1 ≤ sizeLine; decide), fun g0 ng => ?_⟩
    have s1 := same_upd (o := .lst [V.str (Str.ofString "")]) ng
    have h1 : upd H0 g0 (.lst [V.str (Str.ofString "")]) g0 = some (.lst [V.str (Str.ofString "")]) := upd_same
    revert s1 h1
    generalize upd H0 g0 (.lst [V.str (Str.ofString "")]) = H1
    intro s1 h1
    have h0 := s1 _ _ h0
    rw [em] at h0 h1
    refine ⟨_, rfl, _, rfl, (by omega), (by omega), for_range (lo := 0) (n := (q : Int).toNat) (fun i σ H2 => ∃ fp lp wf wl v4 v5 v6 v7, σ = [some (vT l), some (.int q), some (.ref fp), some (.ref lp), v4, v5, v6, v7] ∧ Same H H2 ∧ H fp = none ∧ H2 fp = some (.lst (wf.map vT)) ∧ H2 lp = some (.lst (wl.map vT)) ∧ Wds l i wf ∧ Wds l i wl ∧ 1 ≤ wf.length ∧ wf.length ≤ 4 ^ i ∧ wl.length ≤ 3 ^ i) ⟨f0, g0, [[]], [[]], _, _, _, _, rfl, s0.trans s1, nf, h0, h1, Wds.one ⟨by simp, by simp⟩, Wds.one ⟨by simp, by simp⟩, by simp, by simp, by simp⟩ ?_ ?_⟩
    · rintro i σ H2 hi ⟨fp, lp, wf, wl, v4, v5, v6, v7, rfl, q2, nfp, hf, hl, W1, W2, z1, z4, z3⟩
      have hi : i < q := by omega
      have p3 := pow3 (i := i) (by omega)
      have p4 := pow4 (i := i) (by omega)
      refine ⟨(by show 0 ≤ sizeLine; decide), fun gp ng => ?_⟩
      have s3 := same_upd (o := .lst []) ng
      refine ⟨_, rfl, lp, rfl, ⟨_, SqL.of (s3 _ _ hl)⟩, for_list (K := K) (a := lp) (xs := wl.map vT) (fun j σ H3 => ∃ gs v6 v7, σ = [some (vT l), some (.int q), some (.ref fp), some (.ref lp), some (.int (0 + (i : Int))), some (.ref gp), v6, v7] ∧ Same H2 H3 ∧ H3 gp = some (.lst (gs.map vT)) ∧ Wds l (i + 1) gs ∧ gs.length = j * l.length) ⟨[], _, _, rfl, s3, upd_same, ⟨by simp⟩, by simp⟩ (fun j σ H3 _ ⟨_, _, _, _, x, _⟩ => SqL.of (x _ _ hl)) ?_ ?_⟩
      · rintro j y σ H3 hj ⟨gs, v6, v7, rfl, q3, hg, W3, zg⟩
        obtain ⟨ws, ew, rfl⟩ : ∃ ws, wl[j]? = some ws ∧ y = vT ws := by
          rw [List.getElem?_map] at hj
          cases e : wl[j]? with
          | none => rw [e] at hj; cases hj
          | some z => rw [e] at hj; exact ⟨z, rfl, (Option.some.inj hj).symm⟩
        have jl : j < wl.length := (List.getElem?_eq_some_iff.mp ew).1
        have Ww := W2.al ws (List.mem_of_getElem? ew)
        refine ⟨_, rfl, _, rfl, L.asc, for_it (n := l.length) (fun m σ H4 => ∃ gs v7, σ = [some (vT l), some (.int q), some (.ref fp), some (.ref lp), some (.int (0 + (i : Int))), some (.ref gp), some (vT ws), v7] ∧ Same H2 H4 ∧ H4 gp = some (.lst (gs.map vT)) ∧ Wds l (i + 1) gs ∧ gs.length = j * l.length + m) ⟨gs, _, rfl, q3, hg, W3, zg⟩ ?_ ?_⟩
        · rintro m σ H4 hm ⟨gs, v7, rfl, q4, hg, W3, zg⟩
          refine ⟨(by show m < l.toArray.size; simpa using hm), fun x H' hy => ?_⟩
          obtain ⟨rfl, c, hc, rfl⟩ := hy
          have hc := tx_get hc
          have jm : j * l.length ≤ 729 * 3 := Nat.mul_le_mul (by omega) l3
          refine ⟨_, rfl, .inl ⟨rfl, _, SqL.of hg⟩, _, rfl, _, rfl, _, _, rfl, rfl, (by show (tx ws).length + (tx [c]).length ≤ _; rw [tx_len, tx_len]; simp; omega), ?_⟩
          refine ⟨_, _, _, rfl, rfl, hg, (by rw [List.length_map, zg]; omega), ?_⟩
          refine ⟨gs ++ [ws ++ [c]], _, rfl, same_at q4 ng, ?_, W3.app (Wds.one ⟨fun c' hc' => ?_, by rw [List.length_append]; have := Ww.2; simp; omega⟩), by rw [List.length_append, zg]; rfl⟩
          · rw [upd_same, List.map_append]
            show some (HO.lst (gs.map vT ++ [V.str (tx ws ++ tx [c])])) = _
            rw [tx_app]; rfl
          · rcases List.mem_append.mp hc' with h | h
            · exact Ww.1 c' h
            · rw [List.mem_singleton.mp h]; exact List.mem_of_getElem? hc
        · rintro σ H4 ⟨gs, v7, rfl, q4, hg, W3, zg⟩
          exact ⟨(by show l.toArray.size ≤ _; simp), gs, _, _, rfl, q4, hg, W3, by rw [zg, Nat.succ_mul]⟩
      · rintro σ H3 ⟨gs, v6, v7, rfl, q3, hg, W3, zg⟩
        rw [List.length_map] at zg
        have zg3 : gs.length ≤ 3 ^ (i + 1) := by
          rw [zg, Nat.pow_succ]
          exact Nat.mul_le_mul z3 l3
        have p34 := pow34 i
        have e4 : 4 ^ (i + 1) = 4 ^ i * 4 := Nat.pow_succ ..
        have e3 : 3 ^ (i + 1) = 3 ^ i * 3 := Nat.pow_succ ..
        refine ⟨_, rfl, ?_⟩
        refine ⟨_, rfl, _, rfl, _, _, wf.map vT, gs.map vT, rfl, rfl, q3 _ _ hf, hg, (by rw [List.length_map, List.length_map]; omega), fun np nn => ?_⟩
        have s5 := same_upd (o := .lst (wf.map vT ++ gs.map vT)) nn
        exact ⟨np, gp, wf ++ gs, gs, _, _, _, _, rfl, (q2.trans q3).trans s5, none_back (q2.trans q3) nn, by rw [upd_same, List.map_append], s5 _ _ hg, (W1.up (Nat.le_succ _)).app W3, W3, by rw [List.length_append]; omega, by rw [List.length_append]; omega, zg3⟩
    · rintro σ H2 ⟨fp, lp, wf, wl, v4, v5, v6, v7, rfl, q2, nfp, hf, hl, W1, W2, z1, z4, z3⟩
      have en : (q : Int).toNat = q := by omega
      rw [en] at W1 z4
      have p4 := pow4 hq
      exact ⟨_, rfl, k _ _ _ q2 hf W1 z1 (by omega) nfp⟩
--UNIT
/-! a row with one at one place -/
def unitW (S : SR) (p : Nat) : Nat → S.W := fun i => if i = p then S.one else S.zero
theorem unitW_lv {S : SR} {p i : Nat} : S.lv 1 32 (unitW S p i) := by
  unfold unitW
  split
  · exact S.lv_mono _ _ _ _ (by decide) S.lv_one
  · exact S.lv_mono _ _ _ _ (by decide) (S.lv_zero _)
def sp_unit (w : World) (K : PySem.W.Frag) (mg : Str → Option Value) (base : Heap) : Sp := fun vs H Q _ => ∃ (R : KindR Pr w K mg base), ∃ kv, ∃ (z zp : Int), ∃ (n p : Nat), vs = [kv, .int z, .int zp] ∧ (KAt R.C R.fs H kv ∧ n ≤ 1000 ∧ z = n ∧ zp = p) ∧
  ∀ v H', Same H H' → R.Row n (unitW R.S p) 1 v H' → Q v H'
theorem ok_unit (T : Txt K mg t) : FnOk Pr w K mg base CX0 41 t.unit t.d_unit ["kind", "size", "place"] (sp_unit w K mg base) := by
  refine T.F_unit.ok sc_unit (fun vs H Q E h => ?_) (fun cdv A outer s H vs Q E hr h => ?_)
  · obtain ⟨R, kv, z, zp, n, p, rfl, _⟩ := h
    rfl
  · obtain ⟨R, kv, z, zp, n, p, rfl, ⟨⟨kp, dx, rfl, hk⟩, hn, rfl, rfl⟩, k⟩ := h
    refine ⟨_, (pss_one (ps_ret (pe_callTy call_tuple_of (by rfl) T.z_tuple boot_tuple (pa_cons (pe_comp (xs := ["other"]) rfl (show CompOk ["kind", "size", "place"] (defScope s_unit) _ from ⟨rfl, by decide +kernel, by decide +kernel, by decide +kernel, by decide +kernel, by decide +kernel⟩) (pi_range1 rfl T.z_range (pa_cons (pv 1) pa_nil)) (fun _ _ _ _ _ => (pg_name (i := 3) (by show List.Nodup (["kind", "size", "place", "other"] : List Str); decide +kernel) rfl (Or.inl rfl))) (fun _ _ _ _ _ => (pe_ifExp (pt_cmpR op_eq (pv 3) (pv 2) (nomark _)) (pe_meth0 (pv 0) R.cl R.t_one R.G_one (hr.mono (by decide)) R.b_one .nil pass0) (pe_meth0 (pv 0) R.cl R.t_nought R.G_nought (hr.mono (by decide)) R.b_nought .nil pass0)))) pa_nil)))), ?_⟩
    refine ⟨_, rfl, _, rfl, (by omega), (by omega), comp_go (n := n) (fun j ys H2 => Same H H2 ∧ Ents (R.Wt (unitW R.S p) 1) ys j H2) hn ⟨Same.refl _, Ents.nil⟩ (fun j ys H2 q => q.2.1) ?_ ?_ ?_⟩
    · rintro j ys H2 hj ⟨q, e⟩
      refine ⟨(show j < (n : Int).toNat by omega), fun y H' hy => ?_⟩
      obtain ⟨rfl, rfl⟩ := hy
      have lv : R.S.lv 1 32 (unitW R.S p j) := unitW_lv
      refine ⟨⟨[some _], rfl, rfl⟩, _, rfl, _, rfl, rfl, _, rfl, ?_⟩
      refine iteI (fun e0 => ?_) (fun e0 => ?_)
      · have e1 : unitW R.S p j = R.S.one := if_pos (by omega)
        refine ⟨_, rfl, _, _, _, rfl, q _ _ hk, R.l_one, _, rfl, ⟨_, _, rfl, q _ _ hk⟩, fun v H3 s3 f3 => ?_⟩
        exact ⟨q.trans s3, (e.mono fun _ _ _ z => KindR.Wt.same s3.t z).snoc ⟨by rw [e1]; exact f3, lv⟩⟩
      · have e1 : unitW R.S p j = R.S.zero := if_neg (by omega)
        refine ⟨_, rfl, _, _, _, rfl, q _ _ hk, R.l_nought, _, rfl, ⟨_, _, rfl, q _ _ hk⟩, fun v H3 s3 f3 => ?_⟩
        exact ⟨q.trans s3, (e.mono fun _ _ _ z => KindR.Wt.same s3.t z).snoc ⟨by rw [e1]; exact f3, lv⟩⟩
    · rintro ys H2 ⟨q, e⟩
      show (n : Int).toNat ≤ n
      omega
    · rintro ys H2 l ⟨q, e⟩ nl
      have s1' := same_upd (o := .lst ys) nl
      refine ⟨l, ys, rfl, .inl ⟨SqL.of upd_same, fun l2 n2 => ?_⟩⟩
      have s2 := same_upd (o := .tup ys) n2
      exact k _ _ (q.trans (s1'.trans s2)) ⟨l2, ys, rfl, upd_same, e.mono fun _ _ _ z => KindR.Wt.same (s1'.trans s2).t z⟩
/-! the machine of one word -/
def srow (S : SR) (W : List Nat) (c i : Nat) : Nat → S.W := fun j => if W[i]? = some c ∧ j = i + 1 then S.one else S.zero
def sp_single_row (w : World) (K : PySem.W.Frag) (mg : Str → Option Value) (base : Heap) : Sp := fun vs H Q _ => ∃ (R : KindR Pr w K mg base), ∃ kv c W, ∃ (z : Int), ∃ (i : Nat), vs = [kv, vT [c], vT W, .int z] ∧ (KAt R.C R.fs H kv ∧ W.length ≤ 100 ∧ z = i) ∧
  ∀ v H', Same H H' → R.Row (W.length + 1) (srow R.S W c i) 1 v H' → Q v H'
theorem ok_single_row (T : Txt K mg t) : FnOk Pr w K mg base CX0 42 t.single_row t.d_single_row ["kind", "letter", "word", "place"] (sp_single_row w K mg base) := by
  refine T.F_single_row.ok sc_single_row (fun vs H Q E h => ?_) (fun cdv A outer s H vs Q E hr h => ?_)
  · obtain ⟨R, kv, c, W, z, i, rfl, _⟩ := h
    rfl
  · obtain ⟨R, kv, c, W, z, i, rfl, ⟨hk, hW, rfl⟩, k⟩ := h
    have sl : 1000 < sizeLine := by decide
    have lw : ∀ H, LenV K (vT W) H W.length := fun H => ⟨by rw [tx_len]; omega, (tx_len W).symm⟩
    refine ⟨_, (pss_cons (ps_if (PW.pt (pw_and (pt_cmpR op_lt (pv 3) (pe_callB call_len (by rfl) T.z_len PySem.boot_len (pa_cons (pv 2) pa_nil)) (nomark _)) (pw_and1 (pt_cmpR op_eq (pe_ix ix_str (pv 2) (pv 3) (fun _ _ => rfl)) (pv 1) (nomark _))))) (pss_one (ps_ret (pe_call (ok_unit T) (hr.mono (by decide)) rfl T.m_unit T.F_unit.kp T.b_unit .nil pass0 (pa_cons (pv 0) (pa_cons (pe_op op_add (pe_callB call_len (by rfl) T.z_len PySem.boot_len (pa_cons (pv 2) pa_nil)) pe_int) (pa_cons (pe_op op_add (pv 3) pe_int) pa_nil)))))) pss_nil) (pss_one (ps_ret (pe_call (ok_noughts T) (hr.mono (by decide)) rfl T.m_noughts T.F_noughts.kp T.b_noughts .nil pass0 (pa_cons (pv 0) (pa_cons (pe_op op_add (pe_callB call_len (by rfl) T.z_len PySem.boot_len (pa_cons (pv 2) pa_nil)) pe_int) pa_nil)))))), ?_⟩
    have none_ : W[i]? ≠ some c → ∀ v H', Same H H' → R.Row (W.length + 1) (fun _ => R.S.zero) 1 v H' → Q v H' := fun h v H' s' r => k v H' s' (Row.congr (fun j _ => by unfold srow; rw [if_neg (fun z => h z.1)]) r)
    refine ⟨_, rfl, _, rfl, _, _, rfl, lw _, _, _, rfl, rfl, _, rfl, ?_⟩
    refine iteP (fun h0 => ?_) (fun h0 => ?_)
    · have hi : i < W.length := by omega
      obtain ⟨c', hc⟩ : ∃ c', W[i]? = some c' := ⟨W[i], by simp [hi]⟩
      have ac : atI (tx W).cps.toList (i : Int) = some c' := atI_nat (by show W.toArray.toList[_]? = _; simpa using hc)
      refine ⟨_, rfl, _, rfl, _, _, _, rfl, rfl, (by rw [tx_len]; omega), ac, _, rfl, rfl, _, rfl, ?_⟩
      by_cases ecc : c' = c
      · subst ecc
        rw [show decide (V.str (⟨#[c']⟩ : Str) = vT [c']) = true from decide_eq_true rfl]
        refine iteT ?_
        refine ⟨_, rfl, _, rfl, _, _, rfl, lw _, _, _, rfl, rfl, _, rfl, _, _, rfl, rfl, R, _, _, _, W.length + 1, i + 1, rfl, ⟨hk, by omega, by omega, by omega⟩, fun v H' s' r => k v H' s' (Row.congr (fun j _ => ?_) r)⟩
        unfold unitW srow
        by_cases hj : j = i + 1
        · rw [if_pos hj, if_pos ⟨hc, hj⟩]
        · rw [if_neg hj, if_neg fun z => hj z.2]
      · rw [show decide (V.str (⟨#[c']⟩ : Str) = vT [c]) = false from decide_eq_false fun z => ecc (by have := congrArg (fun v => match v with | V.str s => s.cps.toList | _ => []) z; simpa [tx, vT] using this)]
        refine iteF ?_
        refine ⟨_, rfl, _, rfl, _, _, rfl, lw _, _, _, rfl, rfl, R, _, _, W.length + 1, 1, rfl, ⟨hk, by omega, by omega⟩, none_ fun z => ecc (by rw [hc] at z; exact Option.some.inj z)⟩
    · refine ⟨_, rfl, _, rfl, _, _, rfl, lw _, _, _, rfl, rfl, R, _, _, W.length + 1, 1, rfl, ⟨hk, by omega, by omega⟩, none_ fun z => ?_⟩
      have := (List.getElem?_eq_some_iff.mp z).1
      omega
def sp_single (w : World) (K : PySem.W.Frag) (mg : Str → Option Value) (base : Heap) : Sp := fun vs H Q _ => ∃ (R : KindR Pr w K mg base), ∃ kv l W bv b j, vs = [kv, vT l, vT W, bv] ∧ (KAt R.C R.fs H kv ∧ WOk l W 100 ∧ W.length ≤ 19 ∧ R.is H bv b ∧ R.S.lv j 32 b ∧ j ≤ 1000) ∧
  ∀ v H', Same H H' → MachG R l (W.length + 1) (fun i => R.S.mul b (unitW R.S 0 i)) (fun c i => srow R.S W (l.getD c 0) i) (unitW R.S W.length) (j + 1) 1 1 v H' → Q v H'
theorem ok_single (T : Txt K mg t) : FnOk Pr w K mg base CX0 44 t.single t.d_single ["kind", "letters", "word", "by"] (sp_single w K mg base) := by
  refine T.F_single.ok sc_single (fun vs H Q E h => ?_) (fun cdv A outer s H vs Q E hr h => ?_)
  · obtain ⟨R, kv, l, W, bv, b, j, rfl, _⟩ := h
    rfl
  · obtain ⟨R, kv, l, W, bv, b, jl, rfl, ⟨hk, O, h19, hb, lb, hj⟩, k⟩ := h
    have L := O.lo
    have l3 := L.h3
    have sl : 1000 < sizeLine := by decide
    have lw : ∀ H, LenV K (vT W) H W.length := fun H => ⟨by rw [tx_len]; omega, (tx_len W).symm⟩
    refine ⟨_, (pss_cons (ps_expr (pe_call (ok_need_word T) (hr.mono (by decide)) rfl T.m_need_word T.F_need_word.kp T.b_need_word .nil pass0 (pa_cons (pv 1) (pa_cons (pv 2) pa_nil)))) (pss_cons (ps_set (i := 4) sc_single.nd rfl (Or.inl rfl) (pe_op op_add (pe_callB call_len (by rfl) T.z_len PySem.boot_len (pa_cons (pv 2) pa_nil)) pe_int)) (pss_cons (ps_expr (pe_call (ok_need_few_rooms T) (hr.mono (by decide)) rfl T.m_need_few_rooms T.F_need_few_rooms.kp T.b_need_few_rooms .nil pass0 (pa_cons (pv 4) pa_nil))) (pss_cons (ps_set (i := 5) sc_single.nd rfl (Or.inl rfl) (pe_lst pa_nil)) (pss_cons (ps_for PassesOwn.never rfl (pi_str (pv 1)) (pg_name (i := 6) sc_single.nd rfl (Or.inr rfl)) (pss_one (ps_expr (pe_bm PySem.F.plainAttrs_list PySem.F.slot_list_append PySem.F.type_list_append mt_append (pv 5) (pa_cons (pe_callTy call_tuple_of (by rfl) T.z_tuple boot_tuple (pa_cons (pe_comp (xs := ["place"]) rfl (show CompOk ["kind", "letters", "word", "by", "size", "tables", "letter", "start"] (defScope s_single) _ from ⟨rfl, by decide +kernel, by decide +kernel, by decide +kernel, by decide +kernel, by decide +kernel⟩) (pi_range1 rfl T.z_range (pa_cons (pv 4) pa_nil)) (fun _ _ _ _ _ => (pg_name (i := 8) (by show List.Nodup (["kind", "letters", "word", "by", "size", "tables", "letter", "start", "place"] : List Str); decide +kernel) rfl (Or.inl rfl))) (fun _ _ _ _ _ => (pe_call (ok_single_row (w := w) (base := base) T) (hr.mono (by decide)) rfl T.m_single_row T.F_single_row.kp T.b_single_row .nil pass0 (pa_cons (pv 0) (pa_cons (pv 6) (pa_cons (pv 2) (pa_cons (pv 8) pa_nil))))))) pa_nil)) pa_nil))))) (pss_cons (ps_set (i := 7) sc_single.nd rfl (Or.inl rfl) (pe_call (ok_times_row T) (hr.mono (by decide)) rfl T.m_times_row T.F_times_row.kp T.b_times_row .nil pass0 (pa_cons (pv 0) (pa_cons (pv 3) (pa_cons (pe_call (ok_unit T) (hr.mono (by decide)) rfl T.m_unit T.F_unit.kp T.b_unit .nil pass0 (pa_cons (pv 0) (pa_cons (pv 4) (pa_cons pe_int pa_nil)))) pa_nil))))) (pss_one (ps_ret (pe_tup (pa_cons (pv 1) (pa_cons (pv 7) (pa_cons (pe_callTy call_tuple_of (by rfl) T.z_tuple boot_tuple (pa_cons (pv 5) pa_nil)) (pa_cons (pe_call (ok_unit T) (hr.mono (by decide)) rfl T.m_unit T.F_unit.kp T.b_unit .nil pass0 (pa_cons (pv 0) (pa_cons (pv 4) (pa_cons (pe_callB call_len (by rfl) T.z_len PySem.boot_len (pa_cons (pv 2) pa_nil)) pa_nil)))) pa_nil))))))))))))), ?_⟩
    refine ⟨_, rfl, _, rfl, l, W, 100, rfl, ⟨O, by decide⟩, fun H1 s1 => ?_⟩
    refine ⟨_, rfl, _, _, rfl, lw _, _, _, rfl, rfl, ?_⟩
    show gName 4 (.int ((W.length : Int) + 1)) [some kv, some (vT l), some (vT W), some bv, none, none, none, none] H1 _
    refine ⟨_, rfl, _, rfl, (by omega), ?_⟩
    refine ⟨(by show 0 ≤ sizeLine; decide), fun fl nf => ?_⟩
    have s2 := same_upd (o := .lst []) nf
    refine ⟨_, rfl, _, rfl, L.asc, for_it (n := l.length) (fun i σ H2 => ∃ v6 ys, σ = [some kv, some (vT l), some (vT W), some bv, some (.int ((W.length : Int) + 1)), some (.ref fl), v6, none] ∧ Same H1 H2 ∧ H2 fl = some (.lst ys) ∧ Ents (fun c u H => R.Tab (W.length + 1) (W.length + 1) (fun i => srow R.S W (l.getD c 0) i) 1 u H) ys i H2) ⟨_, [], rfl, s2, upd_same, Ents.nil⟩ ?_ ?_⟩
    · rintro i σ H2 hi ⟨v6, ys, rfl, q, hf, e⟩
      refine ⟨(by show i < l.toArray.size; simpa using hi), fun x H' hy => ?_⟩
      obtain ⟨rfl, c, hc, rfl⟩ := hy
      have hc := tx_get hc
      have ec : l.getD i 0 = c := by rw [List.getD_eq_getElem?_getD, hc]; rfl
      have q1 := s1.trans q
      refine ⟨_, rfl, .inl ⟨rfl, _, SqL.of hf⟩, _, rfl, _, rfl, (by omega), (by omega), comp_go (n := W.length + 1) (fun b zs H3 => Same H' H3 ∧ Ents (fun b u H => R.Row (W.length + 1) (srow R.S W c b) 1 u H) zs b H3) (by omega) ⟨Same.refl _, Ents.nil⟩ (fun b zs H3 c => c.2.1) ?_ ?_ ?_⟩
      · rintro b' zs H3 hb' ⟨q3, cc⟩
        refine ⟨(show b' < ((W.length : Int) + 1).toNat by omega), fun y H'' hy => ?_⟩
        obtain ⟨rfl, rfl⟩ := hy
        refine ⟨⟨[some _], rfl, rfl⟩, _, rfl, _, rfl, _, rfl, _, rfl, R, _, c, W, _, b', rfl, ⟨hk.same (q1.trans q3), by omega, by omega⟩, fun v H4 s4 r4 => ?_⟩
        exact ⟨q3.trans s4, (cc.mono fun _ _ _ z => KindR.Row.same s4.t z).snoc r4⟩
      · rintro zs H3 ⟨q3, cc⟩
        show ((W.length : Int) + 1).toNat ≤ W.length + 1
        omega
      · rintro zs H3 lp ⟨q3, cc⟩ nl
        have s4 := same_upd (o := .lst zs) nl
        refine ⟨lp, zs, rfl, .inl ⟨SqL.of upd_same, fun l2 n2 => ?_⟩⟩
        have s5 := same_upd (o := .tup zs) n2
        have s45 := s4.trans s5
        have q5 := q3.trans s45
        have hf5 := q5 _ _ hf
        refine ⟨_, _, _, rfl, rfl, hf5, (by rw [e.1]; omega), ?_⟩
        have st := sameT_lst (o := .lst (ys ++ [.ref l2])) hf5
        refine ⟨_, _, rfl, same_at (q.trans q5) nf, upd_same, ((e.mono fun _ _ _ w' => KindR.Tab.same q5.t w').snoc ?_).mono fun _ _ _ w' => KindR.Tab.same st w'⟩
        rw [ec]
        exact ⟨l2, zs, rfl, upd_same, cc.mono fun _ _ _ z => KindR.Row.same s45.t z⟩
    · rintro σ H2 ⟨v6, ys, rfl, q, hf, e⟩
      have q1 := s1.trans q
      refine ⟨(by show l.toArray.size ≤ _; simp), _, rfl, _, rfl, _, rfl, _, rfl, R, _, _, _, W.length + 1, 0, rfl, ⟨hk.same q1, by omega, by omega, rfl⟩, fun uv H3 s3 r3 => ?_⟩
      have q3 := q1.trans s3
      refine ⟨R, _, _, _, W.length + 1, b, _, jl, 1, rfl, ⟨hk.same q3, R.same q3.t hb, lb, r3, by omega, by omega⟩, fun sv H4 s4 r4 => ?_⟩
      have q4 := q3.trans s4
      show gName 7 sv [some kv, some (vT l), some (vT W), some bv, some (.int ((W.length : Int) + 1)), some (.ref fl), v6, none] H4 _
      have hf4 := (s3.trans s4) _ _ hf
      refine ⟨_, rfl, _, rfl, _, rfl, fl, ys, rfl, .inl ⟨SqL.of hf4, fun p5 n5 => ?_⟩⟩
      have s5 := same_upd (o := .tup ys) n5
      have hp5 : upd H4 p5 (.tup ys) p5 = some (.tup ys) := upd_same
      have q5 := q4.trans s5
      refine ⟨_, rfl, _, rfl, _, rfl, _, _, rfl, lw _, R, _, _, _, W.length + 1, W.length, rfl, ⟨hk.same q5, by omega, by omega, rfl⟩, fun ev H6 s6 r6 => ?_⟩
      refine ⟨(by show 4 ≤ sizeLine; decide), fun p9 n9 => ?_⟩
      have s9 := same_upd (o := .tup [vT l, sv, V.ref p5, ev]) n9
      have s69 := s6.trans s9
      exact k _ _ (q5.trans s69) ⟨p9, _, _, _, rfl, upd_same, KindR.Row.same (s5.trans s69).t r4, ⟨p5, ys, rfl, s69 _ _ hp5, e.mono fun _ _ _ z => KindR.Tab.same ((s3.trans s4).trans (s5.trans s69)).t z⟩, KindR.Row.same s9.t r6⟩
/-! what it weighs -/
theorem ahd_single {S : SR} {l ws W : List Nat} {b : S.W} (L : LOk l) (hw : ∀ c ∈ ws, c ∈ l) : ∀ k, k ≤ ws.length → ∀ j, ahd S (W.length + 1) (fun i => S.mul b (unitW S 0 i)) (fun c i => srow S W (l.getD c 0) i) (wdx l ws) k j = if j = k ∧ ws.take k = W.take k ∧ k ≤ W.length then b else S.zero
  | 0, _, j => by
    show S.mul b (if j = 0 then S.one else S.zero) = _
    by_cases h : j = 0
    · rw [if_pos h, if_pos ⟨h, by simp, by omega⟩, S.mul_one]
    · rw [if_neg h, if_neg fun z => h z.1, S.mul_zero]
  | k + 1, hk, j => by
    have ih := ahd_single (W := W) (b := b) L hw k (by omega)
    obtain ⟨c, hc⟩ : ∃ c, ws[k]? = some c := ⟨ws[k], by simp⟩
    have cl := hw c (List.mem_of_getElem? hc)
    have ec : l.getD (wdx l ws k) 0 = c := by
      rw [wdx_at hc, List.getD_eq_getElem?_getD, List.getElem?_eq_getElem (idx_lt cl), List.getElem_idxOf]; rfl
    show sm S (fun i => S.mul (ahd S (W.length + 1) (fun i => S.mul b (unitW S 0 i)) (fun c i => srow S W (l.getD c 0) i) (wdx l ws) k i) (srow S W (l.getD (wdx l ws k) 0) i j)) (W.length + 1) = _
    rw [ec]
    have tk : ws.take (k + 1) = ws.take k ++ [c] := by rw [List.take_add_one, hc]; rfl
    by_cases hA : ws.take k = W.take k ∧ k ≤ W.length
    · rw [sm_congr (g := fun i => if k = i then S.mul b (srow S W c i j) else S.zero) fun i _ => by
        rw [ih i]
        by_cases h : i = k
        · rw [if_pos ⟨h, hA⟩, if_pos h.symm]
        · rw [if_neg fun z => h z.1, if_neg (fun z => h z.symm), zero_mul], sm_pick' _ _ _ (by omega)]
      unfold srow
      by_cases h : W[k]? = some c ∧ j = k + 1
      · rw [if_pos h, if_pos ⟨h.2, by rw [tk, List.take_add_one, h.1, hA.1]; rfl, (List.getElem?_eq_some_iff.mp h.1).1⟩, S.mul_one]
      · rw [if_neg h, if_neg, S.mul_zero]
        rintro ⟨h1, h2, h3⟩
        refine h ⟨?_, h1⟩
        obtain ⟨d, hd⟩ : ∃ d, W[k]? = some d := ⟨W[k], by simp⟩
        rw [tk, List.take_add_one, hd, hA.1] at h2
        have := List.append_cancel_left h2
        rw [hd]
        have e : [c] = [d] := this
        cases e; rfl
    · rw [sm_congr (g := fun _ => S.zero) fun i _ => by rw [ih i, if_neg fun z => hA z.2, zero_mul], sm_zero, if_neg]
      rintro ⟨h1, h2, h3⟩
      refine hA ⟨?_, by omega⟩
      have := congrArg (List.take k) h2
      rw [List.take_take, List.take_take, Nat.min_eq_left (by omega)] at this
      exact this
theorem wgh_single {S : SR} {l ws W : List Nat} {b : S.W} (L : LOk l) (hw : ∀ c ∈ ws, c ∈ l) : wgh S l (W.length + 1) (fun i => S.mul b (unitW S 0 i)) (fun c i => srow S W (l.getD c 0) i) (unitW S W.length) ws = if ws = W then b else S.zero := by
  unfold wgh dotW
  rw [sm_congr (g := fun i => if W.length = i then ahd S (W.length + 1) (fun i => S.mul b (unitW S 0 i)) (fun c i => srow S W (l.getD c 0) i) (wdx l ws) ws.length i else S.zero) fun i _ => by
    unfold unitW
    by_cases h : i = W.length
    · rw [if_pos h, if_pos h.symm, S.mul_one]
    · rw [if_neg h, if_neg (fun z => h z.symm), S.mul_zero], sm_pick' _ _ _ (by omega), ahd_single L hw _ (Nat.le_refl _)]
  by_cases h : ws = W
  · subst h
    rw [if_pos ⟨rfl, rfl, Nat.le_refl _⟩, if_pos rfl]
  · rw [if_neg h, if_neg]
    rintro ⟨h1, h2, h3⟩
    rw [List.take_length, ← h1, List.take_length] at h2
    exact h h2
--LAW
theorem SqL.samx {H H' : Hp} {a b : Addr} {xs : List V} (h : SqL K H b xs) (n : H a = none) (s : SameX a H H') : SqL K H' b xs := by
  rcases h with (h | ⟨o, h⟩) | h
  · exact .inl (.inl (s _ _ (ne_of_none h n) h))
  · exact .inl (.inr ⟨o, s _ _ (ne_of_none h n) h⟩)
  · exact .inr h
theorem Pool.z {p l : List Nat} {i : Nat} (G : Pool p l i) (i1 : 1 ≤ i) (i3 : i ≤ 3) : AZ l := ⟨G.ok i1 i3, fun c hc => G.az c (List.mem_append_right _ hc)⟩
theorem wss_at {wss : List (List Nat)} {i : Nat} {y : V} (h : (wss.map vT)[i]? = some y) : ∃ ws, ws ∈ wss ∧ y = vT ws := by
  rw [List.getElem?_map] at h
  cases e : wss[i]? with
  | none => rw [e] at h; cases h
  | some z => rw [e] at h; exact ⟨z, List.mem_of_getElem? e, (Option.some.inj h).symm⟩
def sp_law (K : PySem.W.Frag) : Sp := fun vs H Q _ => ∃ (a : Addr) (ns : List Int), vs = [.ref a] ∧ SqL K H a (ns.map V.int) ∧ ns.length ≤ 63 ∧ ∀ H', Q (.bl true) H'
theorem six_at {l : List Nat} (L : LOk l) : ∃ q : Nat, q ≤ 6 ∧ atI [V.int 6, V.int 3, V.int 2] ((l.length : Int) - 1) = some (V.int (q : Int)) := by
  have h1 := L.h1
  have h3 := L.h3
  rcases (show l.length = 1 ∨ l.length = 2 ∨ l.length = 3 by omega) with e | e | e <;> rw [e]
  · exact ⟨6, by decide, rfl⟩
  · exact ⟨3, by decide, rfl⟩
  · exact ⟨2, by decide, rfl⟩
/-! words near a word -/
def Nr (H : Hp) (np : Addr) (l : List Nat) (m : Nat) (H2 : Hp) : Prop := ∃ wss : List (List Nat), Same H H2 ∧ H2 np = some (.lst (wss.map vT)) ∧ Wds l 25 wss ∧ wss.length ≤ m
theorem Nr.put {H H2 : Hp} {np : Addr} {l us : List Nat} {m : Nat} {ys : List V} (N : Nr H np l m H2) (n : H np = none) (u : (∀ c ∈ us, c ∈ l) ∧ us.length ≤ 25) (h : H2 np = some (.lst ys)) : Nr H np l (m + 1) (upd H2 np (.lst (ys ++ [V.str (tx us)]))) := by
  obtain ⟨wss, s, e, W, z⟩ := N
  rw [e] at h
  cases h
  exact ⟨wss ++ [us], same_at s n, by rw [upd_same, List.map_append]; rfl, W.app (Wds.one u), by rw [List.length_append]; exact Nat.add_le_add_right z 1⟩
theorem mem_at {l W : List Nat} {i c : Nat} (hW : ∀ c ∈ W, c ∈ l) (h : W[i]? = some c) : c ∈ l := hW c (List.mem_of_getElem? h)
theorem mem_app {l a b : List Nat} (ha : ∀ c ∈ a, c ∈ l) (hb : ∀ c ∈ b, c ∈ l) : ∀ c ∈ a ++ b, c ∈ l := fun c hc => by
  rcases List.mem_append.mp hc with h | h
  · exact ha c h
  · exact hb c h
theorem mem_one {l : List Nat} {d : Nat} (h : d ∈ l) : ∀ c ∈ [d], c ∈ l := fun c hc => by rw [List.mem_singleton.mp hc]; exact h
def sp_near : Sp := fun vs H Q _ => ∃ l W, vs = [vT l, vT W] ∧ (LOk l ∧ (∀ c ∈ W, c ∈ l) ∧ W.length ≤ 19) ∧ ∀ p H' wss, Same H H' → H' p = some (.lst (wss.map vT)) → Wds l 25 wss → wss.length ≤ 6000 → Q (.ref p) H'
theorem ok_law_near (T : Txt K mg t) : FnOk Pr w K mg base CX0 2 t.law_near t.d_law_near ["_law_letters_here", "_law_word"] sp_near := by
  refine T.F_law_near.ok sc_law_near (fun vs H Q E h => ?_) (fun cdv A outer s H vs Q E hr h => ?_)
  · obtain ⟨l, W, rfl, _⟩ := h
    rfl
  · obtain ⟨l, W, rfl, ⟨L, hW, w19⟩, k⟩ := h
    have sl : 10000 < sizeLine := by decide
    have l3 := L.h3
    have l1 := L.h1
    have lw : ∀ H, LenV K (vT W) H W.length := fun H => ⟨by rw [tx_len]; omega, (tx_len W).symm⟩
    have ll : ∀ H, LenV K (vT l) H l.length := fun H => ⟨by rw [tx_len]; omega, (tx_len l).symm⟩
    refine ⟨_, (pss_cons (ps_set (i := 2) sc_law_near.nd rfl (Or.inl rfl) (pe_call (ok_law_words T) (hr.mono (by decide)) rfl T.m_law_words T.F_law_words.kp T.b_law_words .nil pass0 (pa_cons (pv 0) (pa_cons (pe_ix ix_list (pe_lst (pa_cons pe_int (pa_cons pe_int (pa_cons pe_int pa_nil)))) (pe_op op_sub (pe_callB call_len (by rfl) T.z_len PySem.boot_len (pa_cons (pv 0) pa_nil)) pe_int) (fun _ _ => rfl)) pa_nil)))) (pss_cons (ps_for PassesOwn.never rfl (pi_range1 rfl T.z_range (pa_cons (pe_callB call_len (by rfl) T.z_len PySem.boot_len (pa_cons (pv 1) pa_nil)) pa_nil)) (pg_name (i := 3) sc_law_near.nd rfl (Or.inl rfl)) (pss_cons (ps_expr (pe_bm PySem.F.plainAttrs_list PySem.F.slot_list_append PySem.F.type_list_append mt_append (pv 2) (pa_cons (pe_slice sl_str (pv 1) po_none (po_some (pv 3))) pa_nil))) (pss_cons (ps_expr (pe_bm PySem.F.plainAttrs_list PySem.F.slot_list_append PySem.F.type_list_append mt_append (pv 2) (pa_cons (pe_slice sl_str (pv 1) (po_some (pe_op op_add (pv 3) pe_int)) po_none) pa_nil))) (pss_cons (ps_expr (pe_bm PySem.F.plainAttrs_list PySem.F.slot_list_append PySem.F.type_list_append mt_append (pv 2) (pa_cons (pe_op op_add_str (pe_slice sl_str (pv 1) po_none (po_some (pv 3))) (pe_slice sl_str (pv 1) (po_some (pe_op op_add (pv 3) pe_int)) po_none)) pa_nil))) (pss_cons (ps_expr (pe_bm PySem.F.plainAttrs_list PySem.F.slot_list_append PySem.F.type_list_append mt_append (pv 2) (pa_cons (pe_op op_add_str (pe_op op_add_str (pe_slice sl_str (pv 1) po_none (po_some (pv 3))) (pe_ix ix_str (pv 1) (pv 3) (fun _ _ => rfl))) (pe_slice sl_str (pv 1) (po_some (pv 3)) po_none)) pa_nil))) (pss_cons (ps_set (i := 4) sc_law_near.nd rfl (Or.inl rfl) (pe_ix ix_str (pv 0) (pe_op op_modN (pe_op op_add (pe_bm PySem.F.plainAttrs_str PySem.F.slot_str_index PySem.F.type_str_index mt_indexS (pv 0) (pa_cons (pe_ix ix_str (pv 1) (pv 3) (fun _ _ => rfl)) pa_nil)) pe_int) (pe_callB call_len (by rfl) T.z_len PySem.boot_len (pa_cons (pv 0) pa_nil))) (fun _ _ => rfl))) (pss_one (ps_expr (pe_bm PySem.F.plainAttrs_list PySem.F.slot_list_append PySem.F.type_list_append mt_append (pv 2) (pa_cons (pe_op op_add_str (pe_op op_add_str (pe_slice sl_str (pv 1) po_none (po_some (pv 3))) (pv 4)) (pe_slice sl_str (pv 1) (po_some (pe_op op_add (pv 3) pe_int)) po_none)) pa_nil)))))))))) (pss_cons (ps_for PassesOwn.never rfl (pi_str (pv 0)) (pg_name (i := 5) sc_law_near.nd rfl (Or.inl rfl)) (pss_cons (ps_expr (pe_bm PySem.F.plainAttrs_list PySem.F.slot_list_append PySem.F.type_list_append mt_append (pv 2) (pa_cons (pe_op op_add_str (pv 1) (pv 5)) pa_nil))) (pss_one (ps_expr (pe_bm PySem.F.plainAttrs_list PySem.F.slot_list_append PySem.F.type_list_append mt_append (pv 2) (pa_cons (pe_op op_add_str (pv 5) (pv 1)) pa_nil)))))) (pss_one (ps_ret (pv 2)))))), ?_⟩
    obtain ⟨q6, q6l, e6⟩ := six_at L
    refine ⟨_, rfl, (by show 3 ≤ sizeLine; decide), fun sp nsp => ?_⟩
    have t3 := same_upd (o := .lst [V.int 6, V.int 3, V.int 2]) nsp
    have hs3 : upd H sp (.lst [V.int 6, V.int 3, V.int 2]) sp = some (.lst [V.int 6, V.int 3, V.int 2]) := upd_same
    revert t3 hs3
    generalize upd H sp (.lst [V.int 6, V.int 3, V.int 2]) = H1
    intro t3 hs3
    refine ⟨_, rfl, _, _, rfl, ll _, _, _, rfl, rfl, _, _, _, _, rfl, rfl, SqL.of hs3, e6, ?_⟩
    refine ⟨l, q6, _, rfl, ⟨L, q6l, rfl⟩, fun np H2 wss s2 hw W0 w1 w5 nn => ?_⟩
    have nn := none_back t3 nn
    have N0 : Nr H np l 5000 H2 := ⟨wss, t3.trans s2, hw, W0.up (by omega), w5⟩
    clear s2 hw W0 w1 w5 t3 hs3 nsp
    show gName 2 (.ref np) [some (vT l), some (vT W), none, none, none, none] H2 _
    refine ⟨_, rfl, _, _, rfl, lw _, _, rfl, (by omega), (by omega), for_range (lo := 0) (n := (W.length : Int).toNat) (fun i σ H3 => ∃ v3 v4, σ = [some (vT l), some (vT W), some (.ref np), v3, v4, none] ∧ Nr H np l (5000 + 5 * i) H3) ⟨_, _, rfl, N0⟩ ?_ ?_⟩
    · rintro i σ H3 hi ⟨v3, v4, rfl, N⟩
      have hi : i < W.length := by omega
      have i0 : ((0 : Int) + (i : Int)).toNat = i := by omega
      have i1 : ((0 : Int) + (i : Int) + 1).toNat = i + 1 := by omega
      obtain ⟨c, hc⟩ : ∃ c, W[i]? = some c := ⟨W[i], by simp [hi]⟩
      have cl := mem_at hW hc
      have ac : atI (tx W).cps.toList (0 + (i : Int)) = some c := by rw [Int.zero_add]; exact atI_nat (by show W.toArray.toList[_]? = _; simpa using hc)
      have mt : ∀ c ∈ W.take i, c ∈ l := fun c hc => hW c (List.mem_of_mem_take hc)
      have md : ∀ c ∈ W.drop i, c ∈ l := fun c hc => hW c (List.mem_of_mem_drop hc)
      have md1 : ∀ c ∈ W.drop (i + 1), c ∈ l := fun c hc => hW c (List.mem_of_mem_drop hc)
      have et : Txt.slice (tx W) none (some (0 + (i : Int))) = tx (W.take i) := by rw [sl_to (by omega) (by omega), i0]
      have ed : Txt.slice (tx W) (some (0 + (i : Int))) none = tx (W.drop i) := by rw [sl_from (by omega) (by omega), i0]
      have ed1 : Txt.slice (tx W) (some (0 + (i : Int) + 1)) none = tx (W.drop (i + 1)) := by rw [sl_from (by omega) (by omega), i1]
      have zt : (W.take i).length = i := by rw [List.length_take]; omega
      have zd : (W.drop i).length = W.length - i := List.length_drop
      have zd1 : (W.drop (i + 1)).length = W.length - (i + 1) := List.length_drop
      have zW : (tx W).length ≤ sizeLine := by rw [tx_len]; omega
      -- 1
      obtain ⟨w1, s1, h1, g1, z1⟩ := id N
      refine ⟨_, rfl, .inl ⟨rfl, _, SqL.of h1⟩, _, rfl, _, rfl, _, rfl, _, rfl, zW, ?_⟩
      rw [et]
      refine ⟨_, _, _, rfl, rfl, h1, (by rw [List.length_map]; omega), ?_⟩
      have N := N.put (us := W.take i) nn ⟨mt, by omega⟩ h1
      revert N
      generalize upd H3 np (.lst (w1.map vT ++ [V.str (tx (W.take i))])) = H4
      intro N
      clear s1 h1 z1 g1 w1
      -- 2
      obtain ⟨w1, s1, h1, g1, z1⟩ := id N
      refine ⟨_, rfl, .inl ⟨rfl, _, SqL.of h1⟩, _, rfl, _, rfl, _, _, rfl, rfl, _, rfl, _, rfl, zW, ?_⟩
      rw [ed1]
      refine ⟨_, _, _, rfl, rfl, h1, (by rw [List.length_map]; omega), ?_⟩
      have N := N.put (us := W.drop (i + 1)) nn ⟨md1, by omega⟩ h1
      revert N
      generalize upd H4 np (.lst (w1.map vT ++ [V.str (tx (W.drop (i + 1)))])) = H5
      intro N
      clear s1 h1 z1 g1 w1
      -- 3
      obtain ⟨w1, s1, h1, g1, z1⟩ := id N
      refine ⟨_, rfl, .inl ⟨rfl, _, SqL.of h1⟩, _, rfl, _, rfl, _, rfl, _, rfl, zW, ?_⟩
      rw [et]
      refine ⟨_, rfl, _, rfl, _, _, rfl, rfl, _, rfl, _, rfl, zW, ?_⟩
      rw [ed1]
      refine ⟨_, _, rfl, rfl, (by rw [tx_len, tx_len]; omega), ?_⟩
      rw [tx_app]
      refine ⟨_, _, _, rfl, rfl, h1, (by rw [List.length_map]; omega), ?_⟩
      have N := N.put (us := W.take i ++ W.drop (i + 1)) nn ⟨mem_app mt md1, by rw [List.length_append]; omega⟩ h1
      revert N
      generalize upd H5 np (.lst (w1.map vT ++ [V.str (tx (W.take i ++ W.drop (i + 1)))])) = H6
      intro N
      clear s1 h1 z1 g1 w1
      -- 4
      obtain ⟨w1, s1, h1, g1, z1⟩ := id N
      refine ⟨_, rfl, .inl ⟨rfl, _, SqL.of h1⟩, _, rfl, _, rfl, _, rfl, _, rfl, zW, ?_⟩
      rw [et]
      refine ⟨_, rfl, _, rfl, _, _, _, rfl, rfl, zW, ac, _, _, rfl, rfl, (by show (tx (W.take i)).length + 1 ≤ _; rw [tx_len]; omega), ?_⟩
      rw [show tx (W.take i) ++ (⟨#[c]⟩ : Str) = tx (W.take i ++ [c]) from tx_app _ [c]]
      refine ⟨_, rfl, _, rfl, _, rfl, _, rfl, zW, ?_⟩
      rw [ed]
      refine ⟨_, _, rfl, rfl, (by rw [tx_len, tx_len, List.length_append]; show _ + 1 + _ ≤ _; omega), ?_⟩
      rw [tx_app]
      refine ⟨_, _, _, rfl, rfl, h1, (by rw [List.length_map]; omega), ?_⟩
      have N := N.put (us := W.take i ++ [c] ++ W.drop i) nn ⟨mem_app (mem_app mt (mem_one cl)) md, by rw [List.length_append, List.length_append]; show _ + 1 + _ ≤ _; omega⟩ h1
      revert N
      generalize upd H6 np (.lst (w1.map vT ++ [V.str (tx (W.take i ++ [c] ++ W.drop i))])) = H7
      intro N
      clear s1 h1 z1 g1 w1
      -- 5
      have f0 := Int.fmod_nonneg_of_pos ((l.idxOf c : Int) + 1) (show (0 : Int) < l.length by omega)
      have f1 := Int.fmod_lt_of_pos ((l.idxOf c : Int) + 1) (show (0 : Int) < l.length by omega)
      obtain ⟨z, ez, z0, zl⟩ : ∃ z, ((l.idxOf c : Int) + 1).fmod (l.length : Int) = z ∧ 0 ≤ z ∧ z < l.length := ⟨_, rfl, f0, f1⟩
      obtain ⟨o, ho⟩ : ∃ o, l[z.toNat]? = some o := ⟨l[z.toNat]'(by omega), by simp⟩
      have ol : o ∈ l := List.mem_of_getElem? ho
      have ao : atI (tx l).cps.toList (((l.idxOf c : Int) + 1).fmod (l.length : Int)) = some o := by
        have e : z = ((z.toNat : Nat) : Int) := by omega
        rw [ez, e]
        exact atI_nat (by show l.toArray.toList[_]? = _; simpa using ho)
      have oc : Builtin.Str.occurrences (tx l) ⟨#[c]⟩ 0 (tx l).length 1 = [l.idxOf c] := occ_of L cl
      refine ⟨_, rfl, _, rfl, rfl, _, rfl, _, rfl, _, _, _, rfl, rfl, zW, ac, _, _, _, _, rfl, rfl, oc, _, _, rfl, rfl, _, rfl, _, _, rfl, ll _, _, _, rfl, rfl, (show (l.length : Int) ≠ 0 by omega), _, _, _, rfl, rfl, (by rw [tx_len]; omega), ao, ?_⟩
      show gName 4 (vT [o]) [some (vT l), some (vT W), some (.ref np), some (.int (0 + (i : Int))), v4, none] H7 _
      obtain ⟨w1, s1, h1, g1, z1⟩ := id N
      refine ⟨_, rfl, .inl ⟨rfl, _, SqL.of h1⟩, _, rfl, _, rfl, _, rfl, _, rfl, zW, ?_⟩
      rw [et]
      refine ⟨_, rfl, _, _, rfl, rfl, (by rw [tx_len, tx_len]; show _ + 1 ≤ _; omega), ?_⟩
      rw [tx_app]
      refine ⟨_, rfl, _, rfl, _, _, rfl, rfl, _, rfl, _, rfl, zW, ?_⟩
      rw [ed1]
      refine ⟨_, _, rfl, rfl, (by rw [tx_len, tx_len, List.length_append]; show _ + 1 + _ ≤ _; omega), ?_⟩
      rw [tx_app]
      refine ⟨_, _, _, rfl, rfl, h1, (by rw [List.length_map]; omega), ?_⟩
      have N := N.put (us := W.take i ++ [o] ++ W.drop (i + 1)) nn ⟨mem_app (mem_app mt (mem_one ol)) md1, by rw [List.length_append, List.length_append]; show _ + 1 + _ ≤ _; omega⟩ h1
      exact ⟨_, _, rfl, N⟩
    · rintro σ H3 ⟨v3, v4, rfl, N⟩
      have N : Nr H np l 5100 H3 := by
        obtain ⟨wss, a, b, c, d⟩ := N
        exact ⟨wss, a, b, c, by omega⟩
      refine ⟨_, rfl, _, rfl, L.asc, for_it (n := l.length) (fun i σ H3 => ∃ v5, σ = [some (vT l), some (vT W), some (.ref np), v3, v4, v5] ∧ Nr H np l (5100 + 2 * i) H3) ⟨_, rfl, N⟩ ?_ ?_⟩
      · rintro i σ H4 hi ⟨v5, rfl, N⟩
        refine ⟨(by show i < l.toArray.size; simpa using hi), fun x H' hy => ?_⟩
        obtain ⟨rfl, c, hc, rfl⟩ := hy
        have hc := tx_get hc
        have cl : c ∈ l := List.mem_of_getElem? hc
        obtain ⟨w1, s1, h1, g1, z1⟩ := id N
        refine ⟨_, rfl, .inl ⟨rfl, _, SqL.of h1⟩, _, rfl, _, rfl, _, _, rfl, rfl, (by show (tx W).length + (tx [c]).length ≤ _; rw [tx_len, tx_len]; show _ + 1 ≤ _; omega), ?_⟩
        rw [show tx W ++ (⟨#[c]⟩ : Str) = tx (W ++ [c]) from tx_app _ [c]]
        refine ⟨_, _, _, rfl, rfl, h1, (by rw [List.length_map]; omega), ?_⟩
        have N := N.put (us := W ++ [c]) nn ⟨mem_app hW (mem_one cl), by rw [List.length_append]; show _ + 1 ≤ _; omega⟩ h1
        revert N
        generalize upd H' np (.lst (w1.map vT ++ [V.str (tx (W ++ [c]))])) = H5
        intro N
        clear s1 h1 z1 g1 w1
        obtain ⟨w1, s1, h1, g1, z1⟩ := id N
        refine ⟨_, rfl, .inl ⟨rfl, _, SqL.of h1⟩, _, rfl, _, rfl, _, _, rfl, rfl, (by show (tx [c]).length + (tx W).length ≤ _; rw [tx_len, tx_len]; show 1 + _ ≤ _; omega), ?_⟩
        rw [show (⟨#[c]⟩ : Str) ++ tx W = tx ([c] ++ W) from tx_app [c] _]
        refine ⟨_, _, _, rfl, rfl, h1, (by rw [List.length_map]; omega), ?_⟩
        have N := N.put (us := [c] ++ W) nn ⟨mem_app (mem_one cl) hW, by rw [List.length_append]; show 1 + _ ≤ _; omega⟩ h1
        exact ⟨_, rfl, N⟩
      · rintro σ H4 ⟨v5, rfl, N⟩
        obtain ⟨wss, s1, h1, W1, z1⟩ := N
        exact ⟨(by show l.toArray.size ≤ _; simp), _, rfl, k _ _ wss s1 h1 W1 (by omega)⟩
--REST
theorem slice_far (p : List Nat) (q : Int) (h : (p.length : Int) ≤ q) : Txt.slice (tx p) none (some q) = tx p := by
  have e : Builtin.Str.strSliceIndices none (some q) 1 (tx p).length = Builtin.Str.strSliceIndices none (some (p.length : Int)) 1 (tx p).length := by
    unfold Builtin.Str.strSliceIndices
    rw [tx_len]
    simp only [show ((1 : Int) > 0) = True from by simp, if_true]
    rw [if_neg (by omega), if_neg (by omega), Int.min_eq_right h, Int.min_self]
  have f := sl_to (p := p) (q := p.length) (by omega) (by omega)
  rw [Int.toNat_natCast, List.take_length] at f
  have e2 : Txt.slice (tx p) none (some q) = Txt.slice (tx p) none (some (p.length : Int)) := by
    unfold Txt.slice
    rw [e]
  rw [e2, f]
theorem sl_any (p : List Nat) {q : Int} (h : 0 ≤ q) : Txt.slice (tx p) none (some q) = tx (p.take q.toNat) := by
  by_cases h1 : q ≤ p.length
  · exact sl_to h h1
  · rw [slice_far p q (by omega), List.take_of_length_le (by omega)]
/-- a comprehension with a test: so many turns -/
theorem comp_goI {J : It} {n k : Nat} {g : TG} {tc : TT} {te : TE} {σ : L2.St} {Q : VK} {H1 : Hp} (Pv : Nat → List V → Hp → Prop) (hn : n ≤ 10000) (h0 : Pv 0 [] H1) (hl : ∀ i ys H, Pv i ys H → ys.length ≤ i)
    (hgo : ∀ i ys H, i < n → Pv i ys H → J.go i H ∧ ∀ x H', J.yld i H x H' → g x (σ ++ List.replicate k none) H' fun σ2 H2 => (∃ zs, σ2 = σ ++ zs ∧ zs.length = k) ∧ tc σ2 H2 fun b H3 => if b = true then te σ2 H3 fun v H4 => Pv (i + 1) (ys ++ [v]) H4 else Pv (i + 1) ys H3)
    (hstop : ∀ ys H, Pv n ys H → J.stop n H) (hend : ∀ ys H p, Pv n ys H → H p = none → Q (.ref p) (upd H p (.lst ys))) :
    CTailI J k g tc te σ Q H1 := by
  have z : 10000 < sizeLine := by decide
  refine ⟨fun i m ys H => m = n - i ∧ i ≤ n ∧ Pv i ys H, ⟨n, rfl, Nat.zero_le _, h0⟩, ?_⟩
  rintro i m ys H ⟨rfl, hi, p⟩
  have yl := hl i ys H p
  by_cases hlt : i < n
  · obtain ⟨a, b⟩ := hgo i ys H hlt p
    refine .inr ⟨a, by omega, fun x H' y => ?_⟩
    have c := b x H' y
    have e1 : ∀ ys H3, (∃ m', m' < n - i ∧ m' = n - (i + 1) ∧ i + 1 ≤ n ∧ Pv (i + 1) ys H3) = Pv (i + 1) ys H3 := fun ys H3 => propext ⟨fun ⟨_, _, _, _, q⟩ => q, fun q => ⟨_, by omega, rfl, hlt, q⟩⟩
    simp only [e1]
    exact c
  · have e : i = n := by omega
    subst e
    exact .inl ⟨hstop ys H p, by omega, fun q nq => hend ys H q p nq⟩
theorem ok_law (T : Txt K mg t) : FnOk Pr w K mg base CX0 50 t.law t.d_law ["_law_script"] (sp_law K) := by
  refine T.F_law.ok sc_law (fun vs H Q E h => ?_) (fun cdv A outer s H vs Q E hr h => ?_)
  · obtain ⟨a, ns, rfl, _⟩ := h
    rfl
  · obtain ⟨a0, ns, rfl, hS0, hlen, k⟩ := h
    have sl : 10000 < sizeLine := by decide
    refine ⟨_, (pss_cons (ps_set (i := 1) sc_law.nd rfl (Or.inl rfl) (pe_call (ok_law_state T) (hr.mono (by decide)) rfl T.m_law_state T.F_law_state.kp T.b_law_state .nil pass0 (pa_cons (pv 0) pa_nil))) (pss_cons (ps_set (i := 2) sc_law.nd rfl (Or.inl rfl) (pe_call (ok_law_sort T) (hr.mono (by decide)) rfl T.m_law_sort T.F_law_sort.kp T.b_law_sort .nil pass0 (pa_cons (pv 1) (pa_cons (pe_call (ok_law_next T) (hr.mono (by decide)) rfl T.m_law_next T.F_law_next.kp T.b_law_next .nil pass0 (pa_cons (pv 1) (pa_cons pe_int pa_nil))) pa_nil)))) (pss_cons (ps_set (i := 3) sc_law.nd rfl (Or.inl rfl) (pe_call (ok_law_kind T) (hr.mono (by decide)) rfl T.m_law_kind T.F_law_kind.kp T.b_law_kind .nil pass0 (pa_cons (pv 2) pa_nil))) (pss_cons (ps_set (i := 4) sc_law.nd rfl (Or.inl rfl) (pe_call (ok_law_letters T) (hr.mono (by decide)) rfl T.m_law_letters T.F_law_letters.kp T.b_law_letters .nil pass0 (pa_cons (pv 1) pa_nil))) (pss_cons (ps_set (i := 5) sc_law.nd rfl (Or.inl rfl) (pe_call (ok_law_weight T) (hr.mono (by decide)) rfl T.m_law_weight T.F_law_weight.kp T.b_law_weight .nil pass0 (pa_cons (pv 1) (pa_cons (pv 2) (pa_cons (pe_cmpR op_eq (pe_call (ok_law_next T) (hr.mono (by decide)) rfl T.m_law_next T.F_law_next.kp T.b_law_next .nil pass0 (pa_cons (pv 1) (pa_cons pe_int pa_nil))) pe_int (nomark _)) pa_nil))))) (pss_cons (ps_set (i := 6) sc_law.nd rfl (Or.inr rfl) pe_str) (pss_cons (ps_for PassesOwn.never rfl (pi_list (pe_slice sl_list (pv 0) po_none (po_some pe_int))) (pg_name (i := 7) sc_law.nd rfl (Or.inl rfl)) (pss_one (ps_set (i := 6) sc_law.nd rfl (Or.inr rfl) (pe_op op_add_str (pv 6) (pe_ix ix_str (pv 4) (pe_op op_modN (pe_op op_add (pv 7) (pe_call (ok_law_next T) (hr.mono (by decide)) rfl T.m_law_next T.F_law_next.kp T.b_law_next .nil pass0 (pa_cons (pv 1) (pa_cons pe_int pa_nil)))) (pe_callB call_len (by rfl) T.z_len PySem.boot_len (pa_cons (pv 4) pa_nil))) (fun _ _ => rfl)))))) (pss_cons (ps_if (pt_cmpR op_eq (pe_ix ix_tup (pv 2) pe_int (fun _ _ => rfl)) pe_str (nomark _)) (pss_one (ps_set (i := 6) sc_law.nd rfl (Or.inr rfl) (pe_slice sl_str (pv 6) po_none (po_some pe_int)))) pss_nil) (pss_cons (ps_if (pt_cmpR op_eq (pe_call (ok_law_next T) (hr.mono (by decide)) rfl T.m_law_next T.F_law_next.kp T.b_law_next .nil pass0 (pa_cons (pv 1) (pa_cons pe_int pa_nil))) pe_int (nomark _)) (pss_one (ps_set (i := 6) sc_law.nd rfl (Or.inr rfl) (pe_slice sl_str (pv 6) po_none (po_some (pe_call (ok_law_next T) (hr.mono (by decide)) rfl T.m_law_next T.F_law_next.kp T.b_law_next .nil pass0 (pa_cons (pv 1) (pa_cons pe_int pa_nil))))))) pss_nil) (pss_cons (ps_set (i := 8) sc_law.nd rfl (Or.inl rfl) (pe_call (ok_single T) (hr.mono (by decide)) rfl T.m_single T.F_single.kp T.b_single .nil pass0 (pa_cons (pv 3) (pa_cons (pv 4) (pa_cons (pv 6) (pa_cons (pv 5) pa_nil)))))) (pss_cons (ps_if (PW.pt (pw_or (pt_cmpR op_isnotBB (pe_call (ok_is_machine T) (hr.mono (by decide)) rfl T.m_is_machine T.F_is_machine.kp T.b_is_machine .nil pass0 (pa_cons (pv 3) (pa_cons (pv 8) pa_nil))) pe_bl (nomark _)) (pw_or (pt_cmpR op_ne (pe_ix ix_tup (pv 8) pe_int (fun _ _ => rfl)) (pv 4) (nomark _)) (pw_or1 (pt_cmpR op_ne (pe_callB call_len (by rfl) T.z_len PySem.boot_len (pa_cons (pe_ix ix_tup (pv 8) pe_int (fun _ _ => rfl)) pa_nil)) (pe_op op_add (pe_callB call_len (by rfl) T.z_len PySem.boot_len (pa_cons (pv 6) pa_nil)) pe_int) (nomark _)))))) (pss_one (ps_ret pe_bl)) pss_nil) (pss_cons (ps_if (pt_not (pt_val (pe_call (ok_law_same T) (hr.mono (by decide)) rfl T.m_law_same T.F_law_same.kp T.b_law_same .nil pass0 (pa_cons (pv 2) (pa_cons (pe_call (ok_law_weigh T) (hr.mono (by decide)) rfl T.m_law_weigh T.F_law_weigh.kp T.b_law_weigh .nil pass0 (pa_cons (pv 2) (pa_cons (pv 8) (pa_cons (pv 6) pa_nil)))) (pa_cons (pv 5) pa_nil)))))) (pss_one (ps_ret pe_bl)) pss_nil) (pss_cons (ps_hideA 11 "#1" (by decide) (ps_setCI (i₀ := 9) (xs := ["_law_other"]) (by show List.Nodup (["_law_script", "_law_state_here", "_law_sort_here", "_law_kind_here", "_law_letters_here", "_law_by", "_law_word", "_law_cell", "_law_found", "_law_near_here", "_law_start", "#1"] : List Str); decide +kernel) rfl (Or.inl rfl) rfl (show CompOk ["_law_script", "_law_state_here", "_law_sort_here", "_law_kind_here", "_law_letters_here", "_law_by", "_law_word", "_law_cell", "_law_found", "_law_near_here", "_law_start", "#1"] (defScope s_law) _ from ⟨rfl, by decide +kernel, by decide +kernel, by decide +kernel, by decide +kernel, by decide +kernel⟩) (pi_list (pe_call (ok_law_near T) (hr.mono (by decide)) rfl T.m_law_near T.F_law_near.kp T.b_law_near .nil pass0 (pa_cons (pv 4) (pa_cons (pv 6) pa_nil)))) (fun _ _ _ _ _ => (pg_name (i := 12) (by show List.Nodup (["_law_script", "_law_state_here", "_law_sort_here", "_law_kind_here", "_law_letters_here", "_law_by", "_law_word", "_law_cell", "_law_found", "_law_near_here", "_law_start", "#1", "_law_other"] : List Str); decide +kernel) rfl (Or.inl rfl))) (fun _ _ _ _ _ => (pt_cmpR op_ne (pv 12) (pv 6) (nomark _))) (fun _ _ _ _ _ => (pv 12)))) (pss_cons (ps_set (i := 10) sc_law.nd rfl (Or.inl rfl) pe_int) (pss_cons (ps_if (pt_cmpR op_gt (pe_callB call_len (by rfl) T.z_len PySem.boot_len (pa_cons (pv 6) pa_nil)) pe_int (nomark _)) (pss_one (ps_set (i := 10) sc_law.nd rfl (Or.inl rfl) (pe_op op_add pe_int (pe_call (ok_law_next T) (hr.mono (by decide)) rfl T.m_law_next T.F_law_next.kp T.b_law_next .nil pass0 (pa_cons (pv 1) (pa_cons pe_int pa_nil)))))) pss_nil) (pss_cons (ps_for PassesOwn.never rfl (pi_list (pe_slst (pv 9) (pv 10) (pe_op op_add pe_int (pv 10)))) (pg_name (i := 11) sc_law.nd rfl (Or.inl rfl)) (pss_one (ps_if (pt_not (pt_val (pe_call (ok_law_same T) (hr.mono (by decide)) rfl T.m_law_same T.F_law_same.kp T.b_law_same .nil pass0 (pa_cons (pv 2) (pa_cons (pe_call (ok_law_weigh T) (hr.mono (by decide)) rfl T.m_law_weigh T.F_law_weigh.kp T.b_law_weigh .nil pass0 (pa_cons (pv 2) (pa_cons (pv 8) (pa_cons (pv 11) pa_nil)))) (pa_cons (pe_call (ok_law_nought T) (hr.mono (by decide)) rfl T.m_law_nought T.F_law_nought.kp T.b_law_nought .nil pass0 (pa_cons (pv 2) pa_nil)) pa_nil)))))) (pss_one (ps_ret pe_bl)) pss_nil))) (pss_one (ps_ret pe_bl)))))))))))))))))), ?_⟩
    refine ⟨_, rfl, a0, ns, rfl, hS0, hlen, fun a H1 na s1 d1 => ?_⟩
    refine ⟨_, rfl, _, rfl, a, 4, rfl, ⟨d1, by decide, by decide⟩, fun r2 H2 s2 d2 u2 w2 => ⟨a, r2, rfl, ⟨d2, u2, w2⟩, fun R nm p so H3 hS hso s3 d3 => ?_⟩⟩
    refine ⟨_, rfl, R, nm, p, _, hS, rfl, hso, fun kv H4 s4 hk => ?_⟩
    have d4 := d3.same s4
    have hso4 := hso.same s4.t
    have x4 : SameX a H H4 := (((SameX.of s1).trans s2).trans s3).trans (.of s4)
    clear hso d1 d2 d3 s1 s2 s3 s4 u2 w2
    show gName 3 kv [some (.ref a0), some (.ref a), some so, none, none, none, none, none, none, none, none, none] H4 _
    refine ⟨_, rfl, a, rfl, d4, fun pl l il H5 s5 d5 G i1 i3 => ?_⟩
    have Z := G.z i1 i3
    have L := Z.lo
    have ll := L.h3
    have l1 := L.h1
    have hso5 := hso4.same (s5.tt d4)
    have hk5 := KAt.samx s5 d4 hk
    have x5 := x4.trans s5
    clear s5 hso4 hk d4 x4
    show gName 4 (vT l) [some (.ref a0), some (.ref a), some so, some kv, none, none, none, none, none, none, none, none] H5 _
    refine ⟨_, rfl, _, rfl, _, rfl, a, 2, rfl, ⟨d5, by decide, by decide⟩, fun r6 H6 s6 d6 u6 w6 => ⟨rfl, ?_⟩⟩
    generalize decide (V.int r6 = V.int 0) = g
    refine ⟨R, nm, p, a, so, g, hS, rfl, ⟨d6, hso5.same (s6.tt d5)⟩, fun bv H7 b s7 d7 hb7 lb => ?_⟩
    show gName 5 bv [some (.ref a0), some (.ref a), some so, some kv, some (vT l), none, none, none, none, none, none, none] H7 _
    have s67 := s6.trans s7
    have hso7 := hso5.same (s67.tt d5)
    have hk7 := KAt.samx s67 d5 hk5
    have x7 := x5.trans s67
    have hS7 := SqL.samx hS0 na x7
    clear s6 s7 s67 hso5 hk5 d5 d6 x5 x7 u6 w6
    refine ⟨_, rfl, _, rfl, _, _, rfl, hS7, fun c1 hc1 => ?_⟩
    have ec : cutV (ns.map V.int) none (some 19) = (ns.take 19).map V.int := by
      rw [show (19 : Int) = ((19 : Nat) : Int) from rfl, cut_take, List.map_take]
    have t1 := same_upd (o := .lst (cutV (ns.map V.int) none (some 19))) hc1
    have k1 := upd_same (H := H7) (a := c1) (o := .lst (cutV (ns.map V.int) none (some 19)))
    have ca : c1 ≠ a := fun e => by obtain ⟨xs, z⟩ := d7.lst; rw [← e, hc1] at z; cases z
    rw [ec] at k1
    clear hc1
    revert t1 k1
    rw [ec]
    generalize upd H7 c1 (.lst ((ns.take 19).map V.int)) = H8
    intro t1 k1
    have d8 := d7.same t1
    have hso8 := hso7.same t1.t
    have hk8 := hk7.same t1
    have hb8 := R.same t1.t hb7
    clear d7 hso7 hk7 hb7 hS7 t1
    refine ⟨c1, rfl, ⟨_, SqL.of k1⟩, for_list (K := K) (a := c1) (xs := (ns.take 19).map V.int) (fun i σ H2 => ∃ ws v7, σ = [some (.ref a0), some (.ref a), some so, some kv, some (vT l), some bv, some (vT ws), v7, none, none, none, none] ∧ SameX a H8 H2 ∧ Dr H2 a ∧ (∀ c ∈ ws, c ∈ l) ∧ ws.length = i) ⟨[], _, (by rw [show vT [] = V.str (Str.ofString "") by rw [em_is]; rfl]; rfl), SameX.refl _ _, d8, by simp, rfl⟩ (fun i σ H2 _ ⟨_, _, _, x, _⟩ => SqL.of (x _ _ ca k1)) ?_ ?_⟩
    · rintro i y σ H2 hi ⟨ws, v8, rfl, q, D, hw, hl⟩
      obtain ⟨zc, rfl⟩ : ∃ z, y = V.int z := by
        rw [List.getElem?_map] at hi
        cases e : (ns.take 19)[i]? with
        | none => rw [e] at hi; cases hi
        | some z => rw [e] at hi; exact ⟨z, (Option.some.inj hi).symm⟩
      have il : i < 19 := by
        have := (List.getElem?_eq_some_iff.mp hi).1
        rw [List.length_map, List.length_take] at this
        omega
      have ll' : ∀ H, LenV K (vT l) H l.length := fun H => ⟨by rw [tx_len]; omega, (tx_len l).symm⟩
      refine ⟨_, rfl, _, rfl, _, rfl, _, rfl, a, 3, rfl, ⟨D, by decide, by decide⟩, fun r H3 s3 D3 u3 w3 => ⟨_, _, rfl, rfl, _, rfl, _, _, rfl, ll' _, _, _, rfl, rfl, (show (l.length : Int) ≠ 0 by omega), ?_⟩⟩
      have f0 := Int.fmod_nonneg_of_pos (zc + r) (show (0 : Int) < l.length by omega)
      have f1 := Int.fmod_lt_of_pos (zc + r) (show (0 : Int) < l.length by omega)
      obtain ⟨z, ez, z0, z1⟩ : ∃ z, (zc + r).fmod (l.length : Int) = z ∧ 0 ≤ z ∧ z < l.length := ⟨_, rfl, f0, f1⟩
      obtain ⟨c0, hc⟩ : ∃ c, l[z.toNat]? = some c := ⟨l[z.toNat]'(by omega), by simp⟩
      have ac : atI (tx l).cps.toList ((zc + r).fmod (l.length : Int)) = some c0 := by
        have e : z = ((z.toNat : Nat) : Int) := by omega
        rw [ez, e]
        exact atI_nat (by show l.toArray.toList[_]? = _; simpa using hc)
      refine ⟨_, _, _, rfl, rfl, (by rw [tx_len]; omega), ac, _, _, rfl, rfl, (by show (tx ws).length + 1 ≤ _; rw [tx_len]; omega), ?_⟩
      have e1 : tx ws ++ (⟨#[c0]⟩ : Str) = tx (ws ++ [c0]) := tx_app ws [c0]
      refine ⟨ws ++ [c0], _, (by rw [e1]; rfl), q.trans s3, D3, fun c hc' => ?_, by rw [List.length_append, hl]; rfl⟩
      rcases List.mem_append.mp hc' with h | h
      · exact hw c h
      · rw [List.mem_singleton.mp h]; exact List.mem_of_getElem? hc
    · rintro σ H9 ⟨ws, v7, rfl, q9, d9, hw, hl⟩
      have w19 : ws.length ≤ 19 := by rw [hl, List.length_map, List.length_take]; omega
      have hso := hso8.same (q9.tt d8)
      have hk := KAt.samx q9 d8 hk8
      have hb := R.same (q9.tt d8) hb8
      clear q9 hso8 hk8 hb8 d8 hl k1 ca
      obtain ⟨q, eq, hq⟩ := id hso
      subst eq
      refine ⟨_, rfl, _, _, _, _, rfl, rfl, SqT.of hq, rfl, rfl, _, rfl, ?_⟩
      generalize decide (V.str nm = V.str (Str.ofString "fractions")) = bb
      refine (fun (key : ∀ (us : List Nat), (∀ c ∈ us, c ∈ l) → us.length ≤ 19 → (?F : L2.St → Hp → Prop) [some (.ref a0), some (.ref a), some (.ref q), some kv, some (vT l), some bv, some (vT us), v7, none, none, none, none] H9) => ?main) ?rest
      case main =>
        cases bb with
        | false =>
          refine iteF ?_
          exact key ws hw w19
        | true =>
          refine iteT ?_
          refine ⟨_, rfl, _, rfl, _, rfl, (by rw [tx_len]; omega), ?_⟩
          rw [sl_any ws (by decide)]
          exact key (ws.take 9) (fun c hc => hw c (List.mem_of_mem_take hc)) (by rw [List.length_take]; omega)
      case rest =>
      intro us hu u19
      clear hw w19
      refine ⟨_, rfl, a, 4, rfl, ⟨d9, by decide, by decide⟩, fun r10 H10 s10 d10 u10 w10 => ⟨rfl, _, rfl, ?_⟩⟩
      refine (fun (key2 : ∀ (W : List Nat) (H11 : Hp), SameX a H9 H11 → Dr H11 a → (∀ c ∈ W, c ∈ l) → W.length ≤ 19 → (?F2 : L2.St → Hp → Prop) [some (.ref a0), some (.ref a), some (.ref q), some kv, some (vT l), some bv, some (vT W), v7, none, none, none, none] H11) => ?main2) ?rest2
      case main2 =>
        refine iteI (fun _ => ?_) (fun _ => ?_)
        · refine ⟨_, rfl, _, rfl, a, 3, rfl, ⟨d10, by decide, by decide⟩, fun r11 H11 s11 d11 u11 w11 => ⟨_, rfl, _, rfl, (by rw [tx_len]; omega), ?_⟩⟩
          rw [sl_any us u11]
          exact key2 (us.take r11.toNat) _ (s10.trans s11) d11 (fun c hc => hu c (List.mem_of_mem_take hc)) (by rw [List.length_take]; omega)
        · exact key2 us _ s10 d10 hu u19
      case rest2 =>
      intro W H11 s11 d11 hW w19
      have hso := hso.same (s11.tt d9)
      have hk := KAt.samx s11 d9 hk
      have hb := R.same (s11.tt d9) hb
      clear s10 s11 d9 d10 hu u19 u10 w10 hq
      have O : WOk l W 100 := ⟨L, hW, by omega⟩
      refine ⟨_, rfl, _, rfl, _, rfl, _, rfl, R, _, l, W, _, b, 1, rfl, ⟨hk, O, w19, hb, lb, by decide⟩, fun fv H12 s12 hf => ?_⟩
      show gName 8 fv [some (.ref a0), some (.ref a), some (.ref q), some kv, some (vT l), some bv, some (vT W), v7, none, none, none, none] H12 _
      refine ⟨_, rfl, _, rfl, R, _, _, l, W.length + 1, _, _, _, 0, rfl, ⟨hk.same s12, hf.m, Z, by omega⟩, fun H13 s13 => ⟨_, _, rfl, rfl, _, rfl, ?_⟩⟩
      (try refine iteF ?_)
      have s13' := s12.trans s13
      have lw : ∀ H, LenV K (vT W) H W.length := fun H => ⟨by rw [tx_len]; omega, (tx_len W).symm⟩
      obtain ⟨fp, svf, tvf, evf, rfl, hfp, af, _, _⟩ := id (hf.same s13.t)
      refine ⟨_, rfl, _, _, _, _, rfl, rfl, SqT.of hfp, rfl, _, rfl, rfl, _, rfl, ?_⟩
      rw [show (!decide (vT l = vT l)) = false by rw [decide_eq_true rfl]; rfl]
      (try refine iteF ?_)
      refine ⟨_, rfl, _, _, _, _, rfl, rfl, SqT.of hfp, rfl, _, _, rfl, af.len, _, rfl, _, _, rfl, lw _, _, _, rfl, rfl, rfl, _, rfl, ?_⟩
      (try dsimp only)
      refine iteNI (fun ne => absurd (by omega) ne) (fun _ => ?_)
      have hf := hf.same s13.t
      have hso := hso.same s13'.t
      have hb := R.same s13'.t hb
      have d13 := d11.same s13'
      clear s12 s13 s13' hk hfp af d11
      have MO : ∀ us : List Nat, (∀ c ∈ us, c ∈ l) → us.length ≤ 25 → MOk (W.length + 1) l us := fun us h z => ⟨⟨L, h, by omega⟩, by omega⟩
      refine ⟨_, rfl, _, rfl, _, rfl, _, rfl, R, nm, p, _, _, l, W.length + 1, _, _, _, W, 1 + 1, 1, 1, hS, rfl, ⟨hso, hf, MO W hW (by omega), by decide⟩, fun v H14 s14 f14 _ => ?_⟩
      rw [wgh_single L hW, if_pos rfl] at f14
      refine ⟨_, rfl, R, nm, p, _, _, _, _, hS, rfl, ⟨hso.same s14.t, f14, R.same s14.t hb⟩, _, rfl, ?_⟩
      (try refine iteF ?_)
      have hf := hf.same s14.t
      have hso := hso.same s14.t
      have d14 := d13.same s14
      clear s14 d13 hb f14
      refine ⟨rfl, _, rfl, _, rfl, l, W, rfl, ⟨L, hW, w19⟩, fun np H15 wss s15 hn W15 z15 => ?_⟩
      have hf := hf.same s15.t
      have hso := hso.same s15.t
      have d15 := d14.same s15
      clear s15 d14
      refine ⟨np, rfl, ⟨_, SqL.of hn⟩, comp_goI (n := wss.length) (fun i ys H2 => H2 = H15 ∧ ∃ uss : List (List Nat), ys = uss.map vT ∧ uss.length ≤ i ∧ ∀ us ∈ uss, (∀ c ∈ us, c ∈ l) ∧ us.length ≤ 25 ∧ us ≠ W) (by omega) ⟨rfl, [], rfl, Nat.le_refl _, by simp⟩ (fun i ys H2 ⟨_, uss, e, z, _⟩ => by rw [e, List.length_map]; exact z) ?_ ?_ ?_⟩
      · rintro i ys H2 hi ⟨rfl, uss, rfl, zu, hu⟩
        have ew : (wss.map vT)[i]? = some (vT wss[i]) := by simp [hi]
        refine ⟨⟨_, _, SqL.of hn, ew⟩, fun y H' hy => ?_⟩
        obtain ⟨rfl, hy⟩ := hy
        have := hy _ (SqL.of hn)
        rw [ew] at this
        cases this
        have ww := W15.al wss[i] (List.getElem_mem _)
        refine ⟨⟨[some _], rfl, rfl⟩, _, rfl, _, rfl, rfl, _, rfl, ?_⟩
        by_cases e : wss[i] = W
        · rw [show (!decide (vT wss[i] = vT W)) = false by rw [e, decide_eq_true rfl]; rfl]
          (try refine iteF ?_)
          exact ⟨rfl, uss, rfl, by omega, hu⟩
        · rw [show (!decide (vT wss[i] = vT W)) = true by
            rw [decide_eq_false fun z => e (by have := congrArg (fun v => match v with | V.str s => s.cps.toList | _ => []) z; simpa [tx, vT] using this)]; rfl]
          (try refine iteT ?_)
          refine ⟨_, rfl, rfl, uss ++ [wss[i]], by rw [List.map_append]; rfl, by rw [List.length_append]; show _ + 1 ≤ _; omega, fun us h => ?_⟩
          rcases List.mem_append.mp h with h | h
          · exact hu us h
          · rw [List.mem_singleton.mp h]; exact ⟨ww.1, ww.2, e⟩
      · rintro ys H2 ⟨rfl, _⟩
        exact ⟨_, SqL.of hn, by rw [List.length_map]; exact Nat.le_refl _⟩
      · rintro ys H2 yp ⟨rfl, uss, rfl, zu, hu⟩ ny
        have ya : yp ≠ a := fun e => by
          obtain ⟨xs, zz⟩ := d15.lst
          rw [← e, ny] at zz
          cases zz
        have t2 := same_upd (o := .lst (uss.map vT)) ny
        have hy2 : upd H2 yp (.lst (uss.map vT)) yp = some (.lst (uss.map vT)) := upd_same
        revert t2 hy2
        generalize upd H2 yp (.lst (uss.map vT)) = H16
        intro t2 hy2
        have hf := hf.same t2.t
        have hso := hso.same t2.t
        have d16 := d15.same t2
        clear t2 d15 hn
        show gName 9 (.ref yp) [some (.ref a0), some (.ref a), some (.ref q), some kv, some (vT l), some bv, some (vT W), v7, some (.ref fp), none, none, none] H16 _
        refine ⟨_, rfl, _, _, rfl, lw _, _, _, rfl, rfl, _, rfl, ?_⟩
        refine (fun (key3 : ∀ (z : Int) (H17 : Hp), 0 ≤ z → SameX a H16 H17 → Dr H17 a → (?F3 : L2.St → Hp → Prop) [some (.ref a0), some (.ref a), some (.ref q), some kv, some (vT l), some bv, some (vT W), v7, some (.ref fp), some (.ref yp), some (.int z), none] H17) => ?main3) ?rest3
        case main3 =>
          refine iteP (fun _ => ?_) (fun _ => ?_)
          · refine ⟨_, rfl, a, 8, rfl, ⟨d16, by decide, by decide⟩, fun r17 H17 s17 d17 u17 w17 => ⟨_, _, rfl, rfl, ?_⟩⟩
            exact key3 (6 + r17) _ (by omega) s17 d17
          · exact key3 0 _ (by decide) (SameX.refl _ _) d16
        case rest3 =>
        intro z H17 z0 s17 d17
        have hy17 := s17 _ _ ya hy2
        have hf := hf.same (s17.tt d16)
        have hso := hso.same (s17.tt d16)
        clear s17 d16 d17 hy2 ny
        refine ⟨_, rfl, _, rfl, _, rfl, _, _, rfl, rfl, _, _, _, _, rfl, rfl, rfl, SqL.of hy17, (by omega), fun xp ys nx hys => ?_⟩
        have t4 := same_upd (o := .lst ys) nx
        have hx4 : upd H17 xp (.lst ys) xp = some (.lst ys) := upd_same
        revert t4 hx4
        generalize upd H17 xp (.lst ys) = H18
        intro t4 hx4
        have hf := hf.same t4.t
        have hso := hso.same t4.t
        refine ⟨xp, rfl, ⟨_, SqL.of hx4⟩, for_list (K := K) (a := xp) (xs := ys) (fun i σ H2 => ∃ v11, σ = [some (.ref a0), some (.ref a), some (.ref q), some kv, some (vT l), some bv, some (vT W), v7, some (.ref fp), some (.ref yp), some (.int z), v11] ∧ Same H18 H2) ⟨_, rfl, Same.refl _⟩ (fun i σ H2 _ ⟨_, _, x⟩ => SqL.of (x _ _ hx4)) ?_ ?_⟩
        · rintro i y σ H2 hi ⟨v11, rfl, q2⟩
          obtain ⟨ws', mw, rfl⟩ := List.mem_map.mp (hys y (List.mem_of_getElem? hi))
          obtain ⟨m1, m2, m3⟩ := hu ws' mw
          refine ⟨_, rfl, _, rfl, _, rfl, _, rfl, R, nm, p, _, _, l, W.length + 1, _, _, _, ws', 1 + 1, 1, 1, hS, rfl, ⟨hso.same q2.t, hf.same q2.t, MO ws' m1 m2, by decide⟩, fun v H3 s3 f3 _ => ?_⟩
          rw [wgh_single L m1, if_neg m3] at f3
          have q3 := q2.trans s3
          refine ⟨_, rfl, R, nm, p, _, hS, rfl, hso.same q3.t, fun v4 H4 s4 f4 => ?_⟩
          have q4 := q3.trans s4
          refine ⟨R, nm, p, _, _, _, _, hS, rfl, ⟨hso.same q4.t, R.same s4.t f3, f4⟩, _, rfl, ?_⟩
          (try refine iteF ?_)
          exact ⟨_, rfl, q4⟩
        · rintro σ H2 ⟨v11, rfl, q⟩
          exact k _
theorem law_binds (T : Txt K mg t) : ∀ (s : Shared) (u : Value), BindsTo s t.d_law ⟨[u], []⟩ [("_law_script", u)] := by
  obtain ⟨oc, od, kV, doc, pm, an, cdv, ct, osl, e, _, _⟩ := T.F_law.ex
  rw [e]
  exact fun s u => .of_eq rfl
end
abbrev FD (n q : Str) (s : Stmt) (c d e : Value) (v : Option Addr) (g j : Value) : FuncData := PySem.W.fnOf n q (defArgs s) (defBody s) (defScope s) .none c d e v g j
abbrev NS (K : PySem.W.Frag) (x : Str) (a : Addr) : Prop := PySem.W.nsIn K mainGlobals x = some (some (.ref a))
abbrev HL (K : PySem.W.Frag) (a : Addr) (b : Value) (u : Option Addr) (d : FuncData) (w : Array (Option Value)) : Prop := K.lookup a = some ⟨b, u, .func d, w⟩
abbrev KI (K : PySem.W.Frag) (a : Addr) : Prop := PySem.W.keepIn K (.ref a) = true
theorem txt_mk {K : PySem.W.Frag} {h : Heap} {mg : Str → Option Value} (X : K.In h) (G : h.Ns mainGlobals mg) {A0 A1 A2 A3 A4 A5 A6 A7 A8 A9 A10 A11 A12 A13 A14 A15 A16 A17 A18 A19 A20 A21 A22 A23 A24 A25 A26 A27 A28 A29 A30 A31 A32 A33 A34 A35 A36 A37 A38 A39 A40 A41 A42 A43 A44 A45 A46 A47 A48 A49 A50 A51 A52 A53 : Addr} {b0 c0 d0 e0 g0 j0 b1 c1 d1 e1 g1 j1 b2 c2 d2 e2 g2 j2 b3 c3 d3 e3 g3 j3 b4 c4 d4 e4 g4 j4 b5 c5 d5 e5 g5 j5 b6 c6 d6 e6 g6 j6 b7 c7 d7 e7 g7 j7 b8 c8 d8 e8 g8 j8 b9 c9 d9 e9 g9 j9 b10 c10 d10 e10 g10 j10 b11 c11 d11 e11 g11 j11 b12 c12 d12 e12 g12 j12 b13 c13 d13 e13 g13 j13 b14 c14 d14 e14 g14 j14 b15 c15 d15 e15 g15 j15 b16 c16 d16 e16 g16 j16 b17 c17 d17 e17 g17 j17 b18 c18 d18 e18 g18 j18 b19 c19 d19 e19 g19 j19 b20 c20 d20 e20 g20 j20 b21 c21 d21 e21 g21 j21 b22 c22 d22 e22 g22 j22 b23 c23 d23 e23 g23 j23 b24 c24 d24 e24 g24 j24 b25 c25 d25 e25 g25 j25 b26 c26 d26 e26 g26 j26 b27 c27 d27 e27 g27 j27 b28 c28 d28 e28 g28 j28 b29 c29 d29 e29 g29 j29 b30 c30 d30 e30 g30 j30 b31 c31 d31 e31 g31 j31 b32 c32 d32 e32 g32 j32 b33 c33 d33 e33 g33 j33 b34 c34 d34 e34 g34 j34 b35 c35 d35 e35 g35 j35 b36 c36 d36 e36 g36 j36 b37 c37 d37 e37 g37 j37 b38 c38 d38 e38 g38 j38 b39 c39 d39 e39 g39 j39 b40 c40 d40 e40 g40 j40 b41 c41 d41 e41 g41 j41 b42 c42 d42 e42 g42 j42 b43 c43 d43 e43 g43 j43 b44 c44 d44 e44 g44 j44 b45 c45 d45 e45 g45 j45 b46 c46 d46 e46 g46 j46 b47 c47 d47 e47 g47 j47 b48 c48 d48 e48 g48 j48 b49 c49 d49 e49 g49 j49 : Value} {u0 v0 u1 v1 u2 v2 u3 v3 u4 v4 u5 v5 u6 v6 u7 v7 u8 v8 u9 v9 u10 v10 u11 v11 u12 v12 u13 v13 u14 v14 u15 v15 u16 v16 u17 v17 u18 v18 u19 v19 u20 v20 u21 v21 u22 v22 u23 v23 u24 v24 u25 v25 u26 v26 u27 v27 u28 v28 u29 v29 u30 v30 u31 v31 u32 v32 u33 v33 u34 v34 u35 v35 u36 v36 u37 v37 u38 v38 u39 v39 u40 v40 u41 v41 u42 v42 u43 v43 u44 v44 u45 v45 u46 v46 u47 v47 u48 v48 u49 v49 : Option Addr} {w0 w1 w2 w3 w4 w5 w6 w7 w8 w9 w10 w11 w12 w13 w14 w15 w16 w17 w18 w19 w20 w21 w22 w23 w24 w25 w26 w27 w28 w29 w30 w31 w32 w33 w34 w35 w36 w37 w38 w39 w40 w41 w42 w43 w44 w45 w46 w47 w48 w49 : Array (Option Value)}
 (N0 : NS K "Fractions" A0)
 (pg0 : PySem.W.plainGet K A0 Str.empty = true)
 (hd0 : PySem.W.hasDictIn K A0 = true)
 (po0 : PySem.W.plainOver K A0 = true)
 (sa0 : PySem.W.findIn K (.ref A0) "__setattr__" = some (some (.builtin "object.__setattr__")))
 (mk0 : PySem.W.makesIn K A0 = true)
 (kp0 : KI K A0)
 (in0 : PySem.W.findIn K (.ref A0) "__init__" = some (some (.builtin "object.__init__")))
 (N1 : NS K "Residues" A1)
 (pg1 : PySem.W.plainGet K A1 Str.empty = true)
 (hd1 : PySem.W.hasDictIn K A1 = true)
 (po1 : PySem.W.plainOver K A1 = true)
 (sa1 : PySem.W.findIn K (.ref A1) "__setattr__" = some (some (.builtin "object.__setattr__")))
 (mk1 : PySem.W.makesIn K A1 = true)
 (kp1 : KI K A1)
 (N2 : NS K "Costs" A2)
 (pg2 : PySem.W.plainGet K A2 Str.empty = true)
 (hd2 : PySem.W.hasDictIn K A2 = true)
 (po2 : PySem.W.plainOver K A2 = true)
 (sa2 : PySem.W.findIn K (.ref A2) "__setattr__" = some (some (.builtin "object.__setattr__")))
 (mk2 : PySem.W.makesIn K A2 = true)
 (kp2 : KI K A2)
 (in2 : PySem.W.findIn K (.ref A2) "__init__" = some (some (.builtin "object.__init__")))
 (N3 : NS K "Truths" A3)
 (pg3 : PySem.W.plainGet K A3 Str.empty = true)
 (hd3 : PySem.W.hasDictIn K A3 = true)
 (po3 : PySem.W.plainOver K A3 = true)
 (sa3 : PySem.W.findIn K (.ref A3) "__setattr__" = some (some (.builtin "object.__setattr__")))
 (mk3 : PySem.W.makesIn K A3 = true)
 (kp3 : KI K A3)
 (in3 : PySem.W.findIn K (.ref A3) "__init__" = some (some (.builtin "object.__init__")))
 (n0 : NS K "is_whole" A4)
 (l0 : HL K A4 b0 u0 (FD "is_whole" "is_whole" s_is_whole c0 d0 e0 v0 g0 j0) w0)
 (q0 : PySem.W.codeIn K g0 "is_whole" = true)
 (k0 : KI K A4)
 (n1 : NS K "divisor" A5)
 (l1 : HL K A5 b1 u1 (FD "divisor" "divisor" s_divisor c1 d1 e1 v1 g1 j1) w1)
 (q1 : PySem.W.codeIn K g1 "divisor" = true)
 (k1 : KI K A5)
 (n2 : NS K "fraction" A6)
 (l2 : HL K A6 b2 u2 (FD "fraction" "fraction" s_fraction c2 d2 e2 v2 g2 j2) w2)
 (q2 : PySem.W.codeIn K g2 "fraction" = true)
 (k2 : KI K A6)
 (n3 : NS K "is_prime" A7)
 (l3 : HL K A7 b3 u3 (FD "is_prime" "is_prime" s_is_prime c3 d3 e3 v3 g3 j3) w3)
 (q3 : PySem.W.codeIn K g3 "is_prime" = true)
 (k3 : KI K A7)
 (n4 : PySem.W.findIn K (.ref A0) "nought" = some (some (.ref A8)))
 (i4 : PySem.W.isFn K (.ref A8) = true)
 (l4 : HL K A8 b4 u4 (FD "nought" "Fractions.nought" s_Fractions_nought c4 d4 e4 v4 g4 j4) w4)
 (q4 : PySem.W.codeIn K g4 "Fractions.nought" = true)
 (k4 : KI K A8)
 (n5 : PySem.W.findIn K (.ref A0) "one" = some (some (.ref A9)))
 (i5 : PySem.W.isFn K (.ref A9) = true)
 (l5 : HL K A9 b5 u5 (FD "one" "Fractions.one" s_Fractions_one c5 d5 e5 v5 g5 j5) w5)
 (q5 : PySem.W.codeIn K g5 "Fractions.one" = true)
 (k5 : KI K A9)
 (n6 : PySem.W.findIn K (.ref A0) "times" = some (some (.ref A10)))
 (i6 : PySem.W.isFn K (.ref A10) = true)
 (l6 : HL K A10 b6 u6 (FD "times" "Fractions.times" s_Fractions_times c6 d6 e6 v6 g6 j6) w6)
 (q6 : PySem.W.codeIn K g6 "Fractions.times" = true)
 (k6 : KI K A10)
 (n7 : PySem.W.findIn K (.ref A0) "is_weight" = some (some (.ref A11)))
 (i7 : PySem.W.isFn K (.ref A11) = true)
 (l7 : HL K A11 b7 u7 (FD "is_weight" "Fractions.is_weight" s_Fractions_is_weight c7 d7 e7 v7 g7 j7) w7)
 (q7 : PySem.W.codeIn K g7 "Fractions.is_weight" = true)
 (k7 : KI K A11)
 (n8 : PySem.W.findIn K (.ref A1) "__init__" = some (some (.ref A12)))
 (i8 : PySem.W.isFn K (.ref A12) = true)
 (l8 : HL K A12 b8 u8 (FD "__init__" "Residues.__init__" s_Residues___init__ c8 d8 e8 v8 g8 j8) w8)
 (q8 : PySem.W.codeIn K g8 "Residues.__init__" = true)
 (k8 : KI K A12)
 (n9 : PySem.W.findIn K (.ref A1) "nought" = some (some (.ref A13)))
 (i9 : PySem.W.isFn K (.ref A13) = true)
 (l9 : HL K A13 b9 u9 (FD "nought" "Residues.nought" s_Residues_nought c9 d9 e9 v9 g9 j9) w9)
 (q9 : PySem.W.codeIn K g9 "Residues.nought" = true)
 (k9 : KI K A13)
 (n10 : PySem.W.findIn K (.ref A1) "one" = some (some (.ref A14)))
 (i10 : PySem.W.isFn K (.ref A14) = true)
 (l10 : HL K A14 b10 u10 (FD "one" "Residues.one" s_Residues_one c10 d10 e10 v10 g10 j10) w10)
 (q10 : PySem.W.codeIn K g10 "Residues.one" = true)
 (k10 : KI K A14)
 (n11 : PySem.W.findIn K (.ref A1) "times" = some (some (.ref A15)))
 (i11 : PySem.W.isFn K (.ref A15) = true)
 (l11 : HL K A15 b11 u11 (FD "times" "Residues.times" s_Residues_times c11 d11 e11 v11 g11 j11) w11)
 (q11 : PySem.W.codeIn K g11 "Residues.times" = true)
 (k11 : KI K A15)
 (n12 : PySem.W.findIn K (.ref A1) "is_weight" = some (some (.ref A16)))
 (i12 : PySem.W.isFn K (.ref A16) = true)
 (l12 : HL K A16 b12 u12 (FD "is_weight" "Residues.is_weight" s_Residues_is_weight c12 d12 e12 v12 g12 j12) w12)
 (q12 : PySem.W.codeIn K g12 "Residues.is_weight" = true)
 (k12 : KI K A16)
 (n13 : PySem.W.findIn K (.ref A2) "nought" = some (some (.ref A17)))
 (i13 : PySem.W.isFn K (.ref A17) = true)
 (l13 : HL K A17 b13 u13 (FD "nought" "Costs.nought" s_Costs_nought c13 d13 e13 v13 g13 j13) w13)
 (q13 : PySem.W.codeIn K g13 "Costs.nought" = true)
 (k13 : KI K A17)
 (n14 : PySem.W.findIn K (.ref A2) "one" = some (some (.ref A18)))
 (i14 : PySem.W.isFn K (.ref A18) = true)
 (l14 : HL K A18 b14 u14 (FD "one" "Costs.one" s_Costs_one c14 d14 e14 v14 g14 j14) w14)
 (q14 : PySem.W.codeIn K g14 "Costs.one" = true)
 (k14 : KI K A18)
 (n15 : PySem.W.findIn K (.ref A2) "times" = some (some (.ref A19)))
 (i15 : PySem.W.isFn K (.ref A19) = true)
 (l15 : HL K A19 b15 u15 (FD "times" "Costs.times" s_Costs_times c15 d15 e15 v15 g15 j15) w15)
 (q15 : PySem.W.codeIn K g15 "Costs.times" = true)
 (k15 : KI K A19)
 (n16 : PySem.W.findIn K (.ref A2) "is_weight" = some (some (.ref A20)))
 (i16 : PySem.W.isFn K (.ref A20) = true)
 (l16 : HL K A20 b16 u16 (FD "is_weight" "Costs.is_weight" s_Costs_is_weight c16 d16 e16 v16 g16 j16) w16)
 (q16 : PySem.W.codeIn K g16 "Costs.is_weight" = true)
 (k16 : KI K A20)
 (n17 : PySem.W.findIn K (.ref A3) "nought" = some (some (.ref A21)))
 (i17 : PySem.W.isFn K (.ref A21) = true)
 (l17 : HL K A21 b17 u17 (FD "nought" "Truths.nought" s_Truths_nought c17 d17 e17 v17 g17 j17) w17)
 (q17 : PySem.W.codeIn K g17 "Truths.nought" = true)
 (k17 : KI K A21)
 (n18 : PySem.W.findIn K (.ref A3) "one" = some (some (.ref A22)))
 (i18 : PySem.W.isFn K (.ref A22) = true)
 (l18 : HL K A22 b18 u18 (FD "one" "Truths.one" s_Truths_one c18 d18 e18 v18 g18 j18) w18)
 (q18 : PySem.W.codeIn K g18 "Truths.one" = true)
 (k18 : KI K A22)
 (n19 : PySem.W.findIn K (.ref A3) "times" = some (some (.ref A23)))
 (i19 : PySem.W.isFn K (.ref A23) = true)
 (l19 : HL K A23 b19 u19 (FD "times" "Truths.times" s_Truths_times c19 d19 e19 v19 g19 j19) w19)
 (q19 : PySem.W.codeIn K g19 "Truths.times" = true)
 (k19 : KI K A23)
 (n20 : PySem.W.findIn K (.ref A3) "is_weight" = some (some (.ref A24)))
 (i20 : PySem.W.isFn K (.ref A24) = true)
 (l20 : HL K A24 b20 u20 (FD "is_weight" "Truths.is_weight" s_Truths_is_weight c20 d20 e20 v20 g20 j20) w20)
 (q20 : PySem.W.codeIn K g20 "Truths.is_weight" = true)
 (k20 : KI K A24)
 (n21 : NS K "noughts" A25)
 (l21 : HL K A25 b21 u21 (FD "noughts" "noughts" s_noughts c21 d21 e21 v21 g21 j21) w21)
 (q21 : PySem.W.codeIn K g21 "noughts" = true)
 (k21 : KI K A25)
 (n22 : NS K "unit" A26)
 (l22 : HL K A26 b22 u22 (FD "unit" "unit" s_unit c22 d22 e22 v22 g22 j22) w22)
 (q22 : PySem.W.codeIn K g22 "unit" = true)
 (k22 : KI K A26)
 (n23 : NS K "times_row" A27)
 (l23 : HL K A27 b23 u23 (FD "times_row" "times_row" s_times_row c23 d23 e23 v23 g23 j23) w23)
 (q23 : PySem.W.codeIn K g23 "times_row" = true)
 (k23 : KI K A27)
 (n24 : NS K "is_letters" A28)
 (l24 : HL K A28 b24 u24 (FD "is_letters" "is_letters" s_is_letters c24 d24 e24 v24 g24 j24) w24)
 (q24 : PySem.W.codeIn K g24 "is_letters" = true)
 (k24 : KI K A28)
 (n25 : NS K "is_word" A29)
 (l25 : HL K A29 b25 u25 (FD "is_word" "is_word" s_is_word c25 d25 e25 v25 g25 j25) w25)
 (q25 : PySem.W.codeIn K g25 "is_word" = true)
 (k25 : KI K A29)
 (n26 : NS K "need_word" A30)
 (l26 : HL K A30 b26 u26 (FD "need_word" "need_word" s_need_word c26 d26 e26 v26 g26 j26) w26)
 (q26 : PySem.W.codeIn K g26 "need_word" = true)
 (k26 : KI K A30)
 (n27 : NS K "is_row" A31)
 (l27 : HL K A31 b27 u27 (FD "is_row" "is_row" s_is_row c27 d27 e27 v27 g27 j27) w27)
 (q27 : PySem.W.codeIn K g27 "is_row" = true)
 (k27 : KI K A31)
 (n28 : NS K "is_table" A32)
 (l28 : HL K A32 b28 u28 (FD "is_table" "is_table" s_is_table c28 d28 e28 v28 g28 j28) w28)
 (q28 : PySem.W.codeIn K g28 "is_table" = true)
 (k28 : KI K A32)
 (n29 : NS K "is_machine" A33)
 (l29 : HL K A33 b29 u29 (FD "is_machine" "is_machine" s_is_machine c29 d29 e29 v29 g29 j29) w29)
 (q29 : PySem.W.codeIn K g29 "is_machine" = true)
 (k29 : KI K A33)
 (n30 : NS K "need_few_rooms" A34)
 (l30 : HL K A34 b30 u30 (FD "need_few_rooms" "need_few_rooms" s_need_few_rooms c30 d30 e30 v30 g30 j30) w30)
 (q30 : PySem.W.codeIn K g30 "need_few_rooms" = true)
 (k30 : KI K A34)
 (n31 : NS K "single_row" A35)
 (l31 : HL K A35 b31 u31 (FD "single_row" "single_row" s_single_row c31 d31 e31 v31 g31 j31) w31)
 (q31 : PySem.W.codeIn K g31 "single_row" = true)
 (k31 : KI K A35)
 (n32 : NS K "single" A36)
 (l32 : HL K A36 b32 u32 (FD "single" "single" s_single c32 d32 e32 v32 g32 j32) w32)
 (q32 : PySem.W.codeIn K g32 "single" = true)
 (k32 : KI K A36)
 (n33 : NS K "_law_next" A37)
 (l33 : HL K A37 b33 u33 (FD "_law_next" "_law_next" s_law_next c33 d33 e33 v33 g33 j33) w33)
 (q33 : PySem.W.codeIn K g33 "_law_next" = true)
 (k33 : KI K A37)
 (n34 : NS K "_law_state" A38)
 (l34 : HL K A38 b34 u34 (FD "_law_state" "_law_state" s_law_state c34 d34 e34 v34 g34 j34) w34)
 (q34 : PySem.W.codeIn K g34 "_law_state" = true)
 (k34 : KI K A38)
 (n35 : NS K "_law_low" A39)
 (l35 : HL K A39 b35 u35 (FD "_law_low" "_law_low" s_law_low c35 d35 e35 v35 g35 j35) w35)
 (q35 : PySem.W.codeIn K g35 "_law_low" = true)
 (k35 : KI K A39)
 (n36 : NS K "_law_plus" A40)
 (l36 : HL K A40 b36 u36 (FD "_law_plus" "_law_plus" s_law_plus c36 d36 e36 v36 g36 j36) w36)
 (q36 : PySem.W.codeIn K g36 "_law_plus" = true)
 (k36 : KI K A40)
 (n37 : NS K "_law_times" A41)
 (l37 : HL K A41 b37 u37 (FD "_law_times" "_law_times" s_law_times c37 d37 e37 v37 g37 j37) w37)
 (q37 : PySem.W.codeIn K g37 "_law_times" = true)
 (k37 : KI K A41)
 (n38 : NS K "_law_nought" A42)
 (l38 : HL K A42 b38 u38 (FD "_law_nought" "_law_nought" s_law_nought c38 d38 e38 v38 g38 j38) w38)
 (q38 : PySem.W.codeIn K g38 "_law_nought" = true)
 (k38 : KI K A42)
 (n39 : NS K "_law_dot" A43)
 (l39 : HL K A43 b39 u39 (FD "_law_dot" "_law_dot" s_law_dot c39 d39 e39 v39 g39 j39) w39)
 (q39 : PySem.W.codeIn K g39 "_law_dot" = true)
 (k39 : KI K A43)
 (n40 : NS K "_law_sort" A44)
 (l40 : HL K A44 b40 u40 (FD "_law_sort" "_law_sort" s_law_sort c40 d40 e40 v40 g40 j40) w40)
 (q40 : PySem.W.codeIn K g40 "_law_sort" = true)
 (k40 : KI K A44)
 (n41 : NS K "_law_kind" A45)
 (l41 : HL K A45 b41 u41 (FD "_law_kind" "_law_kind" s_law_kind c41 d41 e41 v41 g41 j41) w41)
 (q41 : PySem.W.codeIn K g41 "_law_kind" = true)
 (k41 : KI K A45)
 (n42 : NS K "_law_weight" A46)
 (l42 : HL K A46 b42 u42 (FD "_law_weight" "_law_weight" s_law_weight c42 d42 e42 v42 g42 j42) w42)
 (q42 : PySem.W.codeIn K g42 "_law_weight" = true)
 (k42 : KI K A46)
 (n43 : NS K "_law_letters" A47)
 (l43 : HL K A47 b43 u43 (FD "_law_letters" "_law_letters" s_law_letters c43 d43 e43 v43 g43 j43) w43)
 (q43 : PySem.W.codeIn K g43 "_law_letters" = true)
 (k43 : KI K A47)
 (n44 : NS K "_law_step" A48)
 (l44 : HL K A48 b44 u44 (FD "_law_step" "_law_step" s_law_step c44 d44 e44 v44 g44 j44) w44)
 (q44 : PySem.W.codeIn K g44 "_law_step" = true)
 (k44 : KI K A48)
 (n45 : NS K "_law_weigh" A49)
 (l45 : HL K A49 b45 u45 (FD "_law_weigh" "_law_weigh" s_law_weigh c45 d45 e45 v45 g45 j45) w45)
 (q45 : PySem.W.codeIn K g45 "_law_weigh" = true)
 (k45 : KI K A49)
 (n46 : NS K "_law_words" A50)
 (l46 : HL K A50 b46 u46 (FD "_law_words" "_law_words" s_law_words c46 d46 e46 v46 g46 j46) w46)
 (q46 : PySem.W.codeIn K g46 "_law_words" = true)
 (k46 : KI K A50)
 (n47 : NS K "_law_same" A51)
 (l47 : HL K A51 b47 u47 (FD "_law_same" "_law_same" s_law_same c47 d47 e47 v47 g47 j47) w47)
 (q47 : PySem.W.codeIn K g47 "_law_same" = true)
 (k47 : KI K A51)
 (n48 : NS K "_law_near" A52)
 (l48 : HL K A52 b48 u48 (FD "_law_near" "_law_near" s_law_near c48 d48 e48 v48 g48 j48) w48)
 (q48 : PySem.W.codeIn K g48 "_law_near" = true)
 (k48 : KI K A52)
 (n49 : NS K "law" A53)
 (l49 : HL K A53 b49 u49 (FD "law" "law" s_law c49 d49 e49 v49 g49 j49) w49)
 (q49 : PySem.W.codeIn K g49 "law" = true)
 (k49 : KI K A53)
 (z_isinstance : PySem.W.nsIn K mainGlobals "isinstance" = some none)
 (z_int : PySem.W.nsIn K mainGlobals "int" = some none)
 (z_bool : PySem.W.nsIn K mainGlobals "bool" = some none)
 (z_abs : PySem.W.nsIn K mainGlobals "abs" = some none)
 (z_tuple : PySem.W.nsIn K mainGlobals "tuple" = some none)
 (z_len : PySem.W.nsIn K mainGlobals "len" = some none)
 {tk_c_GREATEST_PRIME : Tok}
 (c_GREATEST_PRIME : PySem.W.nsIn K mainGlobals "GREATEST_PRIME" = some (some (.int 1000000 tk_c_GREATEST_PRIME)))
 (z_range : PySem.W.nsIn K mainGlobals "range" = some none)
 (z_str : PySem.W.nsIn K mainGlobals "str" = some none)
 {tk_c_MOST_LETTERS : Tok}
 (c_MOST_LETTERS : PySem.W.nsIn K mainGlobals "MOST_LETTERS" = some (some (.int 3 tk_c_MOST_LETTERS)))
 (z_set : PySem.W.nsIn K mainGlobals "set" = some none)
 (z_all : PySem.W.nsIn K mainGlobals "all" = some none)
 {tk_c_SMALL_LETTERS : Tok}
 (c_SMALL_LETTERS : PySem.W.nsIn K mainGlobals "SMALL_LETTERS" = some (some (.str "abcdefghijklmnopqrstuvwxyz" tk_c_SMALL_LETTERS)))
 {tk_c_MOST_ROOMS : Tok}
 (c_MOST_ROOMS : PySem.W.nsIn K mainGlobals "MOST_ROOMS" = some (some (.int 20 tk_c_MOST_ROOMS)))
 (z_zip : PySem.W.nsIn K mainGlobals "zip" = some none)
 (k_ii : PySem.W.kitOne K (.type "int") (.type "int") = some true)
 (k_ib : PySem.W.kitOne K (.type "int") (.type "bool") = some false)
 (k_tt : PySem.W.kitOne K (.type "tuple") (.type "tuple") = some true)
 (k_bb : PySem.W.kitOne K (.type "bool") (.type "bool") = some true)
 (nP : PySem.W.findIn K (.ref A1) "prime" = some none)
 (k_ss : PySem.W.kitOne K (.type "str") (.type "str") = some true)
 : ∃ t : Adr, Txt K mg t :=
 ⟨{ is_whole := A4, d_is_whole := FD "is_whole" "is_whole" s_is_whole c0 d0 e0 v0 g0 j0, divisor := A5, d_divisor := FD "divisor" "divisor" s_divisor c1 d1 e1 v1 g1 j1, fraction := A6, d_fraction := FD "fraction" "fraction" s_fraction c2 d2 e2 v2 g2 j2, is_prime := A7, d_is_prime := FD "is_prime" "is_prime" s_is_prime c3 d3 e3 v3 g3 j3, Fractions_nought := A8, d_Fractions_nought := FD "nought" "Fractions.nought" s_Fractions_nought c4 d4 e4 v4 g4 j4, Fractions_one := A9, d_Fractions_one := FD "one" "Fractions.one" s_Fractions_one c5 d5 e5 v5 g5 j5, Fractions_times := A10, d_Fractions_times := FD "times" "Fractions.times" s_Fractions_times c6 d6 e6 v6 g6 j6, Fractions_is_weight := A11, d_Fractions_is_weight := FD "is_weight" "Fractions.is_weight" s_Fractions_is_weight c7 d7 e7 v7 g7 j7, Residues___init__ := A12, d_Residues___init__ := FD "__init__" "Residues.__init__" s_Residues___init__ c8 d8 e8 v8 g8 j8, Residues_nought := A13, d_Residues_nought := FD "nought" "Residues.nought" s_Residues_nought c9 d9 e9 v9 g9 j9, Residues_one := A14, d_Residues_one := FD "one" "Residues.one" s_Residues_one c10 d10 e10 v10 g10 j10, Residues_times := A15, d_Residues_times := FD "times" "Residues.times" s_Residues_times c11 d11 e11 v11 g11 j11, Residues_is_weight := A16, d_Residues_is_weight := FD "is_weight" "Residues.is_weight" s_Residues_is_weight c12 d12 e12 v12 g12 j12, Costs_nought := A17, d_Costs_nought := FD "nought" "Costs.nought" s_Costs_nought c13 d13 e13 v13 g13 j13, Costs_one := A18, d_Costs_one := FD "one" "Costs.one" s_Costs_one c14 d14 e14 v14 g14 j14, Costs_times := A19, d_Costs_times := FD "times" "Costs.times" s_Costs_times c15 d15 e15 v15 g15 j15, Costs_is_weight := A20, d_Costs_is_weight := FD "is_weight" "Costs.is_weight" s_Costs_is_weight c16 d16 e16 v16 g16 j16, Truths_nought := A21, d_Truths_nought := FD "nought" "Truths.nought" s_Truths_nought c17 d17 e17 v17 g17 j17, Truths_one := A22, d_Truths_one := FD "one" "Truths.one" s_Truths_one c18 d18 e18 v18 g18 j18, Truths_times := A23, d_Truths_times := FD "times" "Truths.times" s_Truths_times c19 d19 e19 v19 g19 j19, Truths_is_weight := A24, d_Truths_is_weight := FD "is_weight" "Truths.is_weight" s_Truths_is_weight c20 d20 e20 v20 g20 j20, noughts := A25, d_noughts := FD "noughts" "noughts" s_noughts c21 d21 e21 v21 g21 j21, unit := A26, d_unit := FD "unit" "unit" s_unit c22 d22 e22 v22 g22 j22, times_row := A27, d_times_row := FD "times_row" "times_row" s_times_row c23 d23 e23 v23 g23 j23, is_letters := A28, d_is_letters := FD "is_letters" "is_letters" s_is_letters c24 d24 e24 v24 g24 j24, is_word := A29, d_is_word := FD "is_word" "is_word" s_is_word c25 d25 e25 v25 g25 j25, need_word := A30, d_need_word := FD "need_word" "need_word" s_need_word c26 d26 e26 v26 g26 j26, is_row := A31, d_is_row := FD "is_row" "is_row" s_is_row c27 d27 e27 v27 g27 j27, is_table := A32, d_is_table := FD "is_table" "is_table" s_is_table c28 d28 e28 v28 g28 j28, is_machine := A33, d_is_machine := FD "is_machine" "is_machine" s_is_machine c29 d29 e29 v29 g29 j29, need_few_rooms := A34, d_need_few_rooms := FD "need_few_rooms" "need_few_rooms" s_need_few_rooms c30 d30 e30 v30 g30 j30, single_row := A35, d_single_row := FD "single_row" "single_row" s_single_row c31 d31 e31 v31 g31 j31, single := A36, d_single := FD "single" "single" s_single c32 d32 e32 v32 g32 j32, law_next := A37, d_law_next := FD "_law_next" "_law_next" s_law_next c33 d33 e33 v33 g33 j33, law_state := A38, d_law_state := FD "_law_state" "_law_state" s_law_state c34 d34 e34 v34 g34 j34, law_low := A39, d_law_low := FD "_law_low" "_law_low" s_law_low c35 d35 e35 v35 g35 j35, law_plus := A40, d_law_plus := FD "_law_plus" "_law_plus" s_law_plus c36 d36 e36 v36 g36 j36, law_times := A41, d_law_times := FD "_law_times" "_law_times" s_law_times c37 d37 e37 v37 g37 j37, law_nought := A42, d_law_nought := FD "_law_nought" "_law_nought" s_law_nought c38 d38 e38 v38 g38 j38, law_dot := A43, d_law_dot := FD "_law_dot" "_law_dot" s_law_dot c39 d39 e39 v39 g39 j39, law_sort := A44, d_law_sort := FD "_law_sort" "_law_sort" s_law_sort c40 d40 e40 v40 g40 j40, law_kind := A45, d_law_kind := FD "_law_kind" "_law_kind" s_law_kind c41 d41 e41 v41 g41 j41, law_weight := A46, d_law_weight := FD "_law_weight" "_law_weight" s_law_weight c42 d42 e42 v42 g42 j42, law_letters := A47, d_law_letters := FD "_law_letters" "_law_letters" s_law_letters c43 d43 e43 v43 g43 j43, law_step := A48, d_law_step := FD "_law_step" "_law_step" s_law_step c44 d44 e44 v44 g44 j44, law_weigh := A49, d_law_weigh := FD "_law_weigh" "_law_weigh" s_law_weigh c45 d45 e45 v45 g45 j45, law_words := A50, d_law_words := FD "_law_words" "_law_words" s_law_words c46 d46 e46 v46 g46 j46, law_same := A51, d_law_same := FD "_law_same" "_law_same" s_law_same c47 d47 e47 v47 g47 j47, law_near := A52, d_law_near := FD "_law_near" "_law_near" s_law_near c48 d48 e48 v48 g48 j48, law := A53, d_law := FD "law" "law" s_law c49 d49 e49 v49 g49 j49, Fractions := A0, Residues := A1, Costs := A2, Truths := A3 },
   { F_is_whole := fun_mk (st := s_is_whole) l0 q0 k0,
     b_is_whole := (fun_mk (st := s_is_whole) l0 q0 k0).binds (ps := ["thing"]) fun _ _ _ _ _ _ us hl => match us, hl with | [_], _ => rfl,
     m_is_whole := PySem.W.mg_of X G n0,
     F_divisor := fun_mk (st := s_divisor) l1 q1 k1,
     b_divisor := (fun_mk (st := s_divisor) l1 q1 k1).binds (ps := ["one", "other"]) fun _ _ _ _ _ _ us hl => match us, hl with | [_, _], _ => rfl,
     m_divisor := PySem.W.mg_of X G n1,
     F_fraction := fun_mk (st := s_fraction) l2 q2 k2,
     b_fraction := (fun_mk (st := s_fraction) l2 q2 k2).binds (ps := ["top", "bottom"]) fun _ _ _ _ _ _ us hl => match us, hl with | [_, _], _ => rfl,
     m_fraction := PySem.W.mg_of X G n2,
     F_is_prime := fun_mk (st := s_is_prime) l3 q3 k3,
     b_is_prime := (fun_mk (st := s_is_prime) l3 q3 k3).binds (ps := ["number"]) fun _ _ _ _ _ _ us hl => match us, hl with | [_], _ => rfl,
     m_is_prime := PySem.W.mg_of X G n3,
     F_Fractions_nought := fun_mk (st := s_Fractions_nought) l4 q4 k4,
     b_Fractions_nought := (fun_mk (st := s_Fractions_nought) l4 q4 k4).binds (ps := ["self"]) fun _ _ _ _ _ _ us hl => match us, hl with | [_], _ => rfl,
     t_Fractions_nought := ⟨n4, i4, k4⟩,
     F_Fractions_one := fun_mk (st := s_Fractions_one) l5 q5 k5,
     b_Fractions_one := (fun_mk (st := s_Fractions_one) l5 q5 k5).binds (ps := ["self"]) fun _ _ _ _ _ _ us hl => match us, hl with | [_], _ => rfl,
     t_Fractions_one := ⟨n5, i5, k5⟩,
     F_Fractions_times := fun_mk (st := s_Fractions_times) l6 q6 k6,
     b_Fractions_times := (fun_mk (st := s_Fractions_times) l6 q6 k6).binds (ps := ["self", "x", "y"]) fun _ _ _ _ _ _ us hl => match us, hl with | [_, _, _], _ => rfl,
     t_Fractions_times := ⟨n6, i6, k6⟩,
     F_Fractions_is_weight := fun_mk (st := s_Fractions_is_weight) l7 q7 k7,
     b_Fractions_is_weight := (fun_mk (st := s_Fractions_is_weight) l7 q7 k7).binds (ps := ["self", "thing"]) fun _ _ _ _ _ _ us hl => match us, hl with | [_, _], _ => rfl,
     t_Fractions_is_weight := ⟨n7, i7, k7⟩,
     F_Residues___init__ := fun_mk (st := s_Residues___init__) l8 q8 k8,
     b_Residues___init__ := (fun_mk (st := s_Residues___init__) l8 q8 k8).binds (ps := ["self", "prime"]) fun _ _ _ _ _ _ us hl => match us, hl with | [_, _], _ => rfl,
     t_Residues___init__ := ⟨n8, i8, k8⟩,
     F_Residues_nought := fun_mk (st := s_Residues_nought) l9 q9 k9,
     b_Residues_nought := (fun_mk (st := s_Residues_nought) l9 q9 k9).binds (ps := ["self"]) fun _ _ _ _ _ _ us hl => match us, hl with | [_], _ => rfl,
     t_Residues_nought := ⟨n9, i9, k9⟩,
     F_Residues_one := fun_mk (st := s_Residues_one) l10 q10 k10,
     b_Residues_one := (fun_mk (st := s_Residues_one) l10 q10 k10).binds (ps := ["self"]) fun _ _ _ _ _ _ us hl => match us, hl with | [_], _ => rfl,
     t_Residues_one := ⟨n10, i10, k10⟩,
     F_Residues_times := fun_mk (st := s_Residues_times) l11 q11 k11,
     b_Residues_times := (fun_mk (st := s_Residues_times) l11 q11 k11).binds (ps := ["self", "x", "y"]) fun _ _ _ _ _ _ us hl => match us, hl with | [_, _, _], _ => rfl,
     t_Residues_times := ⟨n11, i11, k11⟩,
     F_Residues_is_weight := fun_mk (st := s_Residues_is_weight) l12 q12 k12,
     b_Residues_is_weight := (fun_mk (st := s_Residues_is_weight) l12 q12 k12).binds (ps := ["self", "thing"]) fun _ _ _ _ _ _ us hl => match us, hl with | [_, _], _ => rfl,
     t_Residues_is_weight := ⟨n12, i12, k12⟩,
     F_Costs_nought := fun_mk (st := s_Costs_nought) l13 q13 k13,
     b_Costs_nought := (fun_mk (st := s_Costs_nought) l13 q13 k13).binds (ps := ["self"]) fun _ _ _ _ _ _ us hl => match us, hl with | [_], _ => rfl,
     t_Costs_nought := ⟨n13, i13, k13⟩,
     F_Costs_one := fun_mk (st := s_Costs_one) l14 q14 k14,
     b_Costs_one := (fun_mk (st := s_Costs_one) l14 q14 k14).binds (ps := ["self"]) fun _ _ _ _ _ _ us hl => match us, hl with | [_], _ => rfl,
     t_Costs_one := ⟨n14, i14, k14⟩,
     F_Costs_times := fun_mk (st := s_Costs_times) l15 q15 k15,
     b_Costs_times := (fun_mk (st := s_Costs_times) l15 q15 k15).binds (ps := ["self", "x", "y"]) fun _ _ _ _ _ _ us hl => match us, hl with | [_, _, _], _ => rfl,
     t_Costs_times := ⟨n15, i15, k15⟩,
     F_Costs_is_weight := fun_mk (st := s_Costs_is_weight) l16 q16 k16,
     b_Costs_is_weight := (fun_mk (st := s_Costs_is_weight) l16 q16 k16).binds (ps := ["self", "thing"]) fun _ _ _ _ _ _ us hl => match us, hl with | [_, _], _ => rfl,
     t_Costs_is_weight := ⟨n16, i16, k16⟩,
     F_Truths_nought := fun_mk (st := s_Truths_nought) l17 q17 k17,
     b_Truths_nought := (fun_mk (st := s_Truths_nought) l17 q17 k17).binds (ps := ["self"]) fun _ _ _ _ _ _ us hl => match us, hl with | [_], _ => rfl,
     t_Truths_nought := ⟨n17, i17, k17⟩,
     F_Truths_one := fun_mk (st := s_Truths_one) l18 q18 k18,
     b_Truths_one := (fun_mk (st := s_Truths_one) l18 q18 k18).binds (ps := ["self"]) fun _ _ _ _ _ _ us hl => match us, hl with | [_], _ => rfl,
     t_Truths_one := ⟨n18, i18, k18⟩,
     F_Truths_times := fun_mk (st := s_Truths_times) l19 q19 k19,
     b_Truths_times := (fun_mk (st := s_Truths_times) l19 q19 k19).binds (ps := ["self", "x", "y"]) fun _ _ _ _ _ _ us hl => match us, hl with | [_, _, _], _ => rfl,
     t_Truths_times := ⟨n19, i19, k19⟩,
     F_Truths_is_weight := fun_mk (st := s_Truths_is_weight) l20 q20 k20,
     b_Truths_is_weight := (fun_mk (st := s_Truths_is_weight) l20 q20 k20).binds (ps := ["self", "thing"]) fun _ _ _ _ _ _ us hl => match us, hl with | [_, _], _ => rfl,
     t_Truths_is_weight := ⟨n20, i20, k20⟩,
     F_noughts := fun_mk (st := s_noughts) l21 q21 k21,
     b_noughts := (fun_mk (st := s_noughts) l21 q21 k21).binds (ps := ["kind", "size"]) fun _ _ _ _ _ _ us hl => match us, hl with | [_, _], _ => rfl,
     m_noughts := PySem.W.mg_of X G n21,
     F_unit := fun_mk (st := s_unit) l22 q22 k22,
     b_unit := (fun_mk (st := s_unit) l22 q22 k22).binds (ps := ["kind", "size", "place"]) fun _ _ _ _ _ _ us hl => match us, hl with | [_, _, _], _ => rfl,
     m_unit := PySem.W.mg_of X G n22,
     F_times_row := fun_mk (st := s_times_row) l23 q23 k23,
     b_times_row := (fun_mk (st := s_times_row) l23 q23 k23).binds (ps := ["kind", "by", "row"]) fun _ _ _ _ _ _ us hl => match us, hl with | [_, _, _], _ => rfl,
     m_times_row := PySem.W.mg_of X G n23,
     F_is_letters := fun_mk (st := s_is_letters) l24 q24 k24,
     b_is_letters := (fun_mk (st := s_is_letters) l24 q24 k24).binds (ps := ["thing"]) fun _ _ _ _ _ _ us hl => match us, hl with | [_], _ => rfl,
     m_is_letters := PySem.W.mg_of X G n24,
     F_is_word := fun_mk (st := s_is_word) l25 q25 k25,
     b_is_word := (fun_mk (st := s_is_word) l25 q25 k25).binds (ps := ["letters", "thing"]) fun _ _ _ _ _ _ us hl => match us, hl with | [_, _], _ => rfl,
     m_is_word := PySem.W.mg_of X G n25,
     F_need_word := fun_mk (st := s_need_word) l26 q26 k26,
     b_need_word := (fun_mk (st := s_need_word) l26 q26 k26).binds (ps := ["letters", "thing"]) fun _ _ _ _ _ _ us hl => match us, hl with | [_, _], _ => rfl,
     m_need_word := PySem.W.mg_of X G n26,
     F_is_row := fun_mk (st := s_is_row) l27 q27 k27,
     b_is_row := (fun_mk (st := s_is_row) l27 q27 k27).binds (ps := ["kind", "size", "thing"]) fun _ _ _ _ _ _ us hl => match us, hl with | [_, _, _], _ => rfl,
     m_is_row := PySem.W.mg_of X G n27,
     F_is_table := fun_mk (st := s_is_table) l28 q28 k28,
     b_is_table := (fun_mk (st := s_is_table) l28 q28 k28).binds (ps := ["kind", "size", "thing"]) fun _ _ _ _ _ _ us hl => match us, hl with | [_, _, _], _ => rfl,
     m_is_table := PySem.W.mg_of X G n28,
     F_is_machine := fun_mk (st := s_is_machine) l29 q29 k29,
     b_is_machine := (fun_mk (st := s_is_machine) l29 q29 k29).binds (ps := ["kind", "thing"]) fun _ _ _ _ _ _ us hl => match us, hl with | [_, _], _ => rfl,
     m_is_machine := PySem.W.mg_of X G n29,
     F_need_few_rooms := fun_mk (st := s_need_few_rooms) l30 q30 k30,
     b_need_few_rooms := (fun_mk (st := s_need_few_rooms) l30 q30 k30).binds (ps := ["count"]) fun _ _ _ _ _ _ us hl => match us, hl with | [_], _ => rfl,
     m_need_few_rooms := PySem.W.mg_of X G n30,
     F_single_row := fun_mk (st := s_single_row) l31 q31 k31,
     b_single_row := (fun_mk (st := s_single_row) l31 q31 k31).binds (ps := ["kind", "letter", "word", "place"]) fun _ _ _ _ _ _ us hl => match us, hl with | [_, _, _, _], _ => rfl,
     m_single_row := PySem.W.mg_of X G n31,
     F_single := fun_mk (st := s_single) l32 q32 k32,
     b_single := (fun_mk (st := s_single) l32 q32 k32).binds (ps := ["kind", "letters", "word", "by"]) fun _ _ _ _ _ _ us hl => match us, hl with | [_, _, _, _], _ => rfl,
     m_single := PySem.W.mg_of X G n32,
     F_law_next := fun_mk (st := s_law_next) l33 q33 k33,
     b_law_next := (fun_mk (st := s_law_next) l33 q33 k33).binds (ps := ["_law_state_here", "_law_many"]) fun _ _ _ _ _ _ us hl => match us, hl with | [_, _], _ => rfl,
     m_law_next := PySem.W.mg_of X G n33,
     F_law_state := fun_mk (st := s_law_state) l34 q34 k34,
     b_law_state := (fun_mk (st := s_law_state) l34 q34 k34).binds (ps := ["_law_script"]) fun _ _ _ _ _ _ us hl => match us, hl with | [_], _ => rfl,
     m_law_state := PySem.W.mg_of X G n34,
     F_law_low := fun_mk (st := s_law_low) l35 q35 k35,
     b_law_low := (fun_mk (st := s_law_low) l35 q35 k35).binds (ps := ["_law_top", "_law_bottom"]) fun _ _ _ _ _ _ us hl => match us, hl with | [_, _], _ => rfl,
     m_law_low := PySem.W.mg_of X G n35,
     F_law_plus := fun_mk (st := s_law_plus) l36 q36 k36,
     b_law_plus := (fun_mk (st := s_law_plus) l36 q36 k36).binds (ps := ["_law_sort_here", "_law_x", "_law_y"]) fun _ _ _ _ _ _ us hl => match us, hl with | [_, _, _], _ => rfl,
     m_law_plus := PySem.W.mg_of X G n36,
     F_law_times := fun_mk (st := s_law_times) l37 q37 k37,
     b_law_times := (fun_mk (st := s_law_times) l37 q37 k37).binds (ps := ["_law_sort_here", "_law_x", "_law_y"]) fun _ _ _ _ _ _ us hl => match us, hl with | [_, _, _], _ => rfl,
     m_law_times := PySem.W.mg_of X G n37,
     F_law_nought := fun_mk (st := s_law_nought) l38 q38 k38,
     b_law_nought := (fun_mk (st := s_law_nought) l38 q38 k38).binds (ps := ["_law_sort_here"]) fun _ _ _ _ _ _ us hl => match us, hl with | [_], _ => rfl,
     m_law_nought := PySem.W.mg_of X G n38,
     F_law_dot := fun_mk (st := s_law_dot) l39 q39 k39,
     b_law_dot := (fun_mk (st := s_law_dot) l39 q39 k39).binds (ps := ["_law_sort_here", "_law_row", "_law_column"]) fun _ _ _ _ _ _ us hl => match us, hl with | [_, _, _], _ => rfl,
     m_law_dot := PySem.W.mg_of X G n39,
     F_law_sort := fun_mk (st := s_law_sort) l40 q40 k40,
     b_law_sort := (fun_mk (st := s_law_sort) l40 q40 k40).binds (ps := ["_law_state_here", "_law_way"]) fun _ _ _ _ _ _ us hl => match us, hl with | [_, _], _ => rfl,
     m_law_sort := PySem.W.mg_of X G n40,
     F_law_kind := fun_mk (st := s_law_kind) l41 q41 k41,
     b_law_kind := (fun_mk (st := s_law_kind) l41 q41 k41).binds (ps := ["_law_sort_here"]) fun _ _ _ _ _ _ us hl => match us, hl with | [_], _ => rfl,
     m_law_kind := PySem.W.mg_of X G n41,
     F_law_weight := fun_mk (st := s_law_weight) l42 q42 k42,
     b_law_weight := (fun_mk (st := s_law_weight) l42 q42 k42).binds (ps := ["_law_state_here", "_law_sort_here", "_law_great"]) fun _ _ _ _ _ _ us hl => match us, hl with | [_, _, _], _ => rfl,
     m_law_weight := PySem.W.mg_of X G n42,
     F_law_letters := fun_mk (st := s_law_letters) l43 q43 k43,
     b_law_letters := (fun_mk (st := s_law_letters) l43 q43 k43).binds (ps := ["_law_state_here"]) fun _ _ _ _ _ _ us hl => match us, hl with | [_], _ => rfl,
     m_law_letters := PySem.W.mg_of X G n43,
     F_law_step := fun_mk (st := s_law_step) l44 q44 k44,
     b_law_step := (fun_mk (st := s_law_step) l44 q44 k44).binds (ps := ["_law_sort_here", "_law_row", "_law_table"]) fun _ _ _ _ _ _ us hl => match us, hl with | [_, _, _], _ => rfl,
     m_law_step := PySem.W.mg_of X G n44,
     F_law_weigh := fun_mk (st := s_law_weigh) l45 q45 k45,
     b_law_weigh := (fun_mk (st := s_law_weigh) l45 q45 k45).binds (ps := ["_law_sort_here", "_law_machine", "_law_word"]) fun _ _ _ _ _ _ us hl => match us, hl with | [_, _, _], _ => rfl,
     m_law_weigh := PySem.W.mg_of X G n45,
     F_law_words := fun_mk (st := s_law_words) l46 q46 k46,
     b_law_words := (fun_mk (st := s_law_words) l46 q46 k46).binds (ps := ["_law_letters_here", "_law_most"]) fun _ _ _ _ _ _ us hl => match us, hl with | [_, _], _ => rfl,
     m_law_words := PySem.W.mg_of X G n46,
     F_law_same := fun_mk (st := s_law_same) l47 q47 k47,
     b_law_same := (fun_mk (st := s_law_same) l47 q47 k47).binds (ps := ["_law_sort_here", "_law_found", "_law_due"]) fun _ _ _ _ _ _ us hl => match us, hl with | [_, _, _], _ => rfl,
     m_law_same := PySem.W.mg_of X G n47,
     F_law_near := fun_mk (st := s_law_near) l48 q48 k48,
     b_law_near := (fun_mk (st := s_law_near) l48 q48 k48).binds (ps := ["_law_letters_here", "_law_word"]) fun _ _ _ _ _ _ us hl => match us, hl with | [_, _], _ => rfl,
     m_law_near := PySem.W.mg_of X G n48,
     F_law := fun_mk (st := s_law) l49 q49 k49,
     b_law := (fun_mk (st := s_law) l49 q49 k49).binds (ps := ["_law_script"]) fun _ _ _ _ _ _ us hl => match us, hl with | [_], _ => rfl,
     m_law := PySem.W.mg_of X G n49,
     C_Fractions := ⟨pg0, hd0, po0, sa0⟩,
     m_Fractions := PySem.W.mg_of X G N0,
     M_Fractions := ⟨mk0, in0, kp0⟩,
     C_Residues := ⟨pg1, hd1, po1, sa1⟩,
     m_Residues := PySem.W.mg_of X G N1,
     M_Residues := ⟨mk1, n8, i8, kp1⟩,
     C_Costs := ⟨pg2, hd2, po2, sa2⟩,
     m_Costs := PySem.W.mg_of X G N2,
     M_Costs := ⟨mk2, in2, kp2⟩,
     C_Truths := ⟨pg3, hd3, po3, sa3⟩,
     m_Truths := PySem.W.mg_of X G N3,
     M_Truths := ⟨mk3, in3, kp3⟩,
     z_isinstance := PySem.W.mg_none_of X G z_isinstance,
     z_int := PySem.W.mg_none_of X G z_int,
     z_bool := PySem.W.mg_none_of X G z_bool,
     z_abs := PySem.W.mg_none_of X G z_abs,
     z_tuple := PySem.W.mg_none_of X G z_tuple,
     z_len := PySem.W.mg_none_of X G z_len,
     c_GREATEST_PRIME := ⟨_, PySem.W.mg_of X G c_GREATEST_PRIME⟩,
     z_range := PySem.W.mg_none_of X G z_range,
     z_str := PySem.W.mg_none_of X G z_str,
     c_MOST_LETTERS := ⟨_, PySem.W.mg_of X G c_MOST_LETTERS⟩,
     z_set := PySem.W.mg_none_of X G z_set,
     z_all := PySem.W.mg_none_of X G z_all,
     c_SMALL_LETTERS := ⟨_, PySem.W.mg_of X G c_SMALL_LETTERS⟩,
     c_MOST_ROOMS := ⟨_, PySem.W.mg_of X G c_MOST_ROOMS⟩,
     z_zip := PySem.W.mg_none_of X G z_zip,
     k_ii := k_ii,
     k_ib := k_ib,
     k_tt := k_tt,
     k_bb := k_bb,
     nP := nP,
     k_ss := k_ss }⟩
end K26
open PySem PySem.W PyProof.Rows
set_option maxRecDepth 100000 in
set_option maxHeartbeats 0 in
theorem PySem.Challenge.cw_weighwalk_k26_single_holds : PySem.Challenge.rw_weighwalk_k26_single.Holds := by
  w_on; o_law
  refine H26.holds_ (by assumption) ?hw ?hc
  (case hw => w_witness2)
  unfold H26.hook
  k_fill
  refine L2.walk_ofK (l := PySem.Challenge.rw_weighwalk_k26_single) (n := 63) (k := 50) (x := "_law_script") (CX := L2.CX0) (sp := K26.sp_law) rfl (by decide) rfl ⟨rfl, by decide, by decide⟩ (by decide +kernel) (fun w h Y => PySem.W.kIn_of Y) ?F ?S ?C
  case F =>
    intro w mg fa h KX G hmg
    have T : ∃ t, K26.Txt (L2.KOf KX) mg t := by
      dsimp only [L2.KOf]
      refine' K26.txt_mk KX G ?N0 ?pg0 ?hd0 ?po0 ?sa0 ?mk0 ?kp0 ?in0 ?N1 ?pg1 ?hd1 ?po1 ?sa1 ?mk1 ?kp1 ?N2 ?pg2 ?hd2 ?po2 ?sa2 ?mk2 ?kp2 ?in2 ?N3 ?pg3 ?hd3 ?po3 ?sa3 ?mk3 ?kp3 ?in3 ?n0 ?l0 ?q0 ?k0 ?n1 ?l1 ?q1 ?k1 ?n2 ?l2 ?q2 ?k2 ?n3 ?l3 ?q3 ?k3 ?n4 ?i4 ?l4 ?q4 ?k4 ?n5 ?i5 ?l5 ?q5 ?k5 ?n6 ?i6 ?l6 ?q6 ?k6 ?n7 ?i7 ?l7 ?q7 ?k7 ?n8 ?i8 ?l8 ?q8 ?k8 ?n9 ?i9 ?l9 ?q9 ?k9 ?n10 ?i10 ?l10 ?q10 ?k10 ?n11 ?i11 ?l11 ?q11 ?k11 ?n12 ?i12 ?l12 ?q12 ?k12 ?n13 ?i13 ?l13 ?q13 ?k13 ?n14 ?i14 ?l14 ?q14 ?k14 ?n15 ?i15 ?l15 ?q15 ?k15 ?n16 ?i16 ?l16 ?q16 ?k16 ?n17 ?i17 ?l17 ?q17 ?k17 ?n18 ?i18 ?l18 ?q18 ?k18 ?n19 ?i19 ?l19 ?q19 ?k19 ?n20 ?i20 ?l20 ?q20 ?k20 ?n21 ?l21 ?q21 ?k21 ?n22 ?l22 ?q22 ?k22 ?n23 ?l23 ?q23 ?k23 ?n24 ?l24 ?q24 ?k24 ?n25 ?l25 ?q25 ?k25 ?n26 ?l26 ?q26 ?k26 ?n27 ?l27 ?q27 ?k27 ?n28 ?l28 ?q28 ?k28 ?n29 ?l29 ?q29 ?k29 ?n30 ?l30 ?q30 ?k30 ?n31 ?l31 ?q31 ?k31 ?n32 ?l32 ?q32 ?k32 ?n33 ?l33 ?q33 ?k33 ?n34 ?l34 ?q34 ?k34 ?n35 ?l35 ?q35 ?k35 ?n36 ?l36 ?q36 ?k36 ?n37 ?l37 ?q37 ?k37 ?n38 ?l38 ?q38 ?k38 ?n39 ?l39 ?q39 ?k39 ?n40 ?l40 ?q40 ?k40 ?n41 ?l41 ?q41 ?k41 ?n42 ?l42 ?q42 ?k42 ?n43 ?l43 ?q43 ?k43 ?n44 ?l44 ?q44 ?k44 ?n45 ?l45 ?q45 ?k45 ?n46 ?l46 ?q46 ?k46 ?n47 ?l47 ?q47 ?k47 ?n48 ?l48 ?q48 ?k48 ?n49 ?l49 ?q49 ?k49 ?z_isinstance ?z_int ?z_bool ?z_abs ?z_tuple ?z_len ?c_GREATEST_PRIME ?z_range ?z_str ?c_MOST_LETTERS ?z_set ?z_all ?c_SMALL_LETTERS ?c_MOST_ROOMS ?z_zip ?k_ii ?k_ib ?k_tt ?k_bb ?nP ?k_ss
      (case N0 => show _ = _; k_is)
      (case pg0 => show _ = _; k_is)
      (case hd0 => show _ = _; k_is)
      (case po0 => show _ = _; k_is)
      (case sa0 => show _ = _; k_is)
      (case mk0 => show _ = _; k_is)
      (case kp0 => show _ = _; k_is)
      (case in0 => show _ = _; k_is)
      (case N1 => show _ = _; k_is)
      (case pg1 => show _ = _; k_is)
      (case hd1 => show _ = _; k_is)
      (case po1 => show _ = _; k_is)
      (case sa1 => show _ = _; k_is)
      (case mk1 => show _ = _; k_is)
      (case kp1 => show _ = _; k_is)
      (case N2 => show _ = _; k_is)
      (case pg2 => show _ = _; k_is)
      (case hd2 => show _ = _; k_is)
      (case po2 => show _ = _; k_is)
      (case sa2 => show _ = _; k_is)
      (case mk2 => show _ = _; k_is)
      (case kp2 => show _ = _; k_is)
      (case in2 => show _ = _; k_is)
      (case N3 => show _ = _; k_is)
      (case pg3 => show _ = _; k_is)
      (case hd3 => show _ = _; k_is)
      (case po3 => show _ = _; k_is)
      (case sa3 => show _ = _; k_is)
      (case mk3 => show _ = _; k_is)
      (case kp3 => show _ = _; k_is)
      (case in3 => show _ = _; k_is)
      (case n0 => show _ = _; k_is)
      (case l0 => exact H26.lk_is_whole _)
      (case q0 => show _ = _; k_is)
      (case k0 => show _ = _; k_is)
      (case n1 => show _ = _; k_is)
      (case l1 => exact H26.lk_divisor _)
      (case q1 => show _ = _; k_is)
      (case k1 => show _ = _; k_is)
      (case n2 => show _ = _; k_is)
      (case l2 => exact H26.lk_fraction _)
      (case q2 => show _ = _; k_is)
      (case k2 => show _ = _; k_is)
      (case n3 => show _ = _; k_is)
      (case l3 => exact H26.lk_is_prime _)
      (case q3 => show _ = _; k_is)
      (case k3 => show _ = _; k_is)
      (case n4 => show _ = _; k_is)
      (case i4 => show _ = _; k_is)
      (case l4 => exact H26.lk_Fractions_nought _)
      (case q4 => show _ = _; k_is)
      (case k4 => show _ = _; k_is)
      (case n5 => show _ = _; k_is)
      (case i5 => show _ = _; k_is)
      (case l5 => exact H26.lk_Fractions_one _)
      (case q5 => show _ = _; k_is)
      (case k5 => show _ = _; k_is)
      (case n6 => show _ = _; k_is)
      (case i6 => show _ = _; k_is)
      (case l6 => exact H26.lk_Fractions_times _)
      (case q6 => show _ = _; k_is)
      (case k6 => show _ = _; k_is)
      (case n7 => show _ = _; k_is)
      (case i7 => show _ = _; k_is)
      (case l7 => exact H26.lk_Fractions_is_weight _)
      (case q7 => show _ = _; k_is)
      (case k7 => show _ = _; k_is)
      (case n8 => show _ = _; k_is)
      (case i8 => show _ = _; k_is)
      (case l8 => exact H26.lk_Residues___init__ _)
      (case q8 => show _ = _; k_is)
      (case k8 => show _ = _; k_is)
      (case n9 => show _ = _; k_is)
      (case i9 => show _ = _; k_is)
      (case l9 => exact H26.lk_Residues_nought _)
      (case q9 => show _ = _; k_is)
      (case k9 => show _ = _; k_is)
      (case n10 => show _ = _; k_is)
      (case i10 => show _ = _; k_is)
      (case l10 => exact H26.lk_Residues_one _)
      (case q10 => show _ = _; k_is)
      (case k10 => show _ = _; k_is)
      (case n11 => show _ = _; k_is)
      (case i11 => show _ = _; k_is)
      (case l11 => exact H26.lk_Residues_times _)
      (case q11 => show _ = _; k_is)
      (case k11 => show _ = _; k_is)
      (case n12 => show _ = _; k_is)
      (case i12 => show _ = _; k_is)
      (case l12 => exact H26.lk_Residues_is_weight _)
      (case q12 => show _ = _; k_is)
      (case k12 => show _ = _; k_is)
      (case n13 => show _ = _; k_is)
      (case i13 => show _ = _; k_is)
      (case l13 => exact H26.lk_Costs_nought _)
      (case q13 => show _ = _; k_is)
      (case k13 => show _ = _; k_is)
      (case n14 => show _ = _; k_is)
      (case i14 => show _ = _; k_is)
      (case l14 => exact H26.lk_Costs_one _)
      (case q14 => show _ = _; k_is)
      (case k14 => show _ = _; k_is)
      (case n15 => show _ = _; k_is)
      (case i15 => show _ = _; k_is)
      (case l15 => exact H26.lk_Costs_times _)
      (case q15 => show _ = _; k_is)
      (case k15 => show _ = _; k_is)
      (case n16 => show _ = _; k_is)
      (case i16 => show _ = _; k_is)
      (case l16 => exact H26.lk_Costs_is_weight _)
      (case q16 => show _ = _; k_is)
      (case k16 => show _ = _; k_is)
      (case n17 => show _ = _; k_is)
      (case i17 => show _ = _; k_is)
      (case l17 => exact H26.lk_Truths_nought _)
      (case q17 => show _ = _; k_is)
      (case k17 => show _ = _; k_is)
      (case n18 => show _ = _; k_is)
      (case i18 => show _ = _; k_is)
      (case l18 => exact H26.lk_Truths_one _)
      (case q18 => show _ = _; k_is)
      (case k18 => show _ = _; k_is)
      (case n19 => show _ = _; k_is)
      (case i19 => show _ = _; k_is)
      (case l19 => exact H26.lk_Truths_times _)
      (case q19 => show _ = _; k_is)
      (case k19 => show _ = _; k_is)
      (case n20 => show _ = _; k_is)
      (case i20 => show _ = _; k_is)
      (case l20 => exact H26.lk_Truths_is_weight _)
      (case q20 => show _ = _; k_is)
      (case k20 => show _ = _; k_is)
      (case n21 => show _ = _; k_is)
      (case l21 => exact H26.lk_noughts _)
      (case q21 => show _ = _; k_is)
      (case k21 => show _ = _; k_is)
      (case n22 => show _ = _; k_is)
      (case l22 => exact H26.lk_unit _)
      (case q22 => show _ = _; k_is)
      (case k22 => show _ = _; k_is)
      (case n23 => show _ = _; k_is)
      (case l23 => exact H26.lk_times_row _)
      (case q23 => show _ = _; k_is)
      (case k23 => show _ = _; k_is)
      (case n24 => show _ = _; k_is)
      (case l24 => exact H26.lk_is_letters _)
      (case q24 => show _ = _; k_is)
      (case k24 => show _ = _; k_is)
      (case n25 => show _ = _; k_is)
      (case l25 => exact H26.lk_is_word _)
      (case q25 => show _ = _; k_is)
      (case k25 => show _ = _; k_is)
      (case n26 => show _ = _; k_is)
      (case l26 => exact H26.lk_need_word _)
      (case q26 => show _ = _; k_is)
      (case k26 => show _ = _; k_is)
      (case n27 => show _ = _; k_is)
      (case l27 => exact H26.lk_is_row _)
      (case q27 => show _ = _; k_is)
      (case k27 => show _ = _; k_is)
      (case n28 => show _ = _; k_is)
      (case l28 => exact H26.lk_is_table _)
      (case q28 => show _ = _; k_is)
      (case k28 => show _ = _; k_is)
      (case n29 => show _ = _; k_is)
      (case l29 => exact H26.lk_is_machine _)
      (case q29 => show _ = _; k_is)
      (case k29 => show _ = _; k_is)
      (case n30 => show _ = _; k_is)
      (case l30 => exact H26.lk_need_few_rooms _)
      (case q30 => show _ = _; k_is)
      (case k30 => show _ = _; k_is)
      (case n31 => show _ = _; k_is)
      (case l31 => exact H26.lk_single_row _)
      (case q31 => show _ = _; k_is)
      (case k31 => show _ = _; k_is)
      (case n32 => show _ = _; k_is)
      (case l32 => exact H26.lk_single _)
      (case q32 => show _ = _; k_is)
      (case k32 => show _ = _; k_is)
      (case n33 => show _ = _; k_is)
      (case l33 => exact H26.lk__law_next _)
      (case q33 => show _ = _; k_is)
      (case k33 => show _ = _; k_is)
      (case n34 => show _ = _; k_is)
      (case l34 => exact H26.lk__law_state _)
      (case q34 => show _ = _; k_is)
      (case k34 => show _ = _; k_is)
      (case n35 => show _ = _; k_is)
      (case l35 => exact H26.lk__law_low _)
      (case q35 => show _ = _; k_is)
      (case k35 => show _ = _; k_is)
      (case n36 => show _ = _; k_is)
      (case l36 => exact H26.lk__law_plus _)
      (case q36 => show _ = _; k_is)
      (case k36 => show _ = _; k_is)
      (case n37 => show _ = _; k_is)
      (case l37 => exact H26.lk__law_times _)
      (case q37 => show _ = _; k_is)
      (case k37 => show _ = _; k_is)
      (case n38 => show _ = _; k_is)
      (case l38 => exact H26.lk__law_nought _)
      (case q38 => show _ = _; k_is)
      (case k38 => show _ = _; k_is)
      (case n39 => show _ = _; k_is)
      (case l39 => exact H26.lk__law_dot _)
      (case q39 => show _ = _; k_is)
      (case k39 => show _ = _; k_is)
      (case n40 => show _ = _; k_is)
      (case l40 => exact H26.lk__law_sort _)
      (case q40 => show _ = _; k_is)
      (case k40 => show _ = _; k_is)
      (case n41 => show _ = _; k_is)
      (case l41 => exact H26.lk__law_kind _)
      (case q41 => show _ = _; k_is)
      (case k41 => show _ = _; k_is)
      (case n42 => show _ = _; k_is)
      (case l42 => exact H26.lk__law_weight _)
      (case q42 => show _ = _; k_is)
      (case k42 => show _ = _; k_is)
      (case n43 => show _ = _; k_is)
      (case l43 => exact H26.lk__law_letters _)
      (case q43 => show _ = _; k_is)
      (case k43 => show _ = _; k_is)
      (case n44 => show _ = _; k_is)
      (case l44 => exact H26.lk__law_step _)
      (case q44 => show _ = _; k_is)
      (case k44 => show _ = _; k_is)
      (case n45 => show _ = _; k_is)
      (case l45 => exact H26.lk__law_weigh _)
      (case q45 => show _ = _; k_is)
      (case k45 => show _ = _; k_is)
      (case n46 => show _ = _; k_is)
      (case l46 => exact H26.lk__law_words _)
      (case q46 => show _ = _; k_is)
      (case k46 => show _ = _; k_is)
      (case n47 => show _ = _; k_is)
      (case l47 => exact H26.lk__law_same _)
      (case q47 => show _ = _; k_is)
      (case k47 => show _ = _; k_is)
      (case n48 => show _ = _; k_is)
      (case l48 => exact H26.lk__law_near _)
      (case q48 => show _ = _; k_is)
      (case k48 => show _ = _; k_is)
      (case n49 => show _ = _; k_is)
      (case l49 => exact H26.lk_law _)
      (case q49 => show _ = _; k_is)
      (case k49 => show _ = _; k_is)
      (case z_isinstance => show _ = _; k_is)
      (case z_int => show _ = _; k_is)
      (case z_bool => show _ = _; k_is)
      (case z_abs => show _ = _; k_is)
      (case z_tuple => show _ = _; k_is)
      (case z_len => show _ = _; k_is)
      (case c_GREATEST_PRIME => show _ = _; k_is)
      (case z_range => show _ = _; k_is)
      (case z_str => show _ = _; k_is)
      (case c_MOST_LETTERS => show _ = _; k_is)
      (case z_set => show _ = _; k_is)
      (case z_all => show _ = _; k_is)
      (case c_SMALL_LETTERS => show _ = _; k_is)
      (case c_MOST_ROOMS => show _ = _; k_is)
      (case z_zip => show _ = _; k_is)
      (case k_ii => kit_is)
      (case k_ib => kit_is)
      (case k_tt => kit_is)
      (case k_bb => kit_is)
      (case nP => k_is)
      (case k_ss => kit_is)
    obtain ⟨t, T⟩ := T
    have e0 := hmg.symm.trans T.m_law
    cases e0
    exact ⟨_, K26.law_binds T, fun base kb nb => K26.ok_law T⟩
  case S => exact fun K H a ns hl hO hS => ⟨a, ns, rfl, hS, hl, fun _ => rfl⟩
  case C => exact fun _ _ _ _ z => z
