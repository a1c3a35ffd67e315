import PyProof.Rows.All
import Wide.All
import OpenK.AllK
import Wide.FinOn
import Lean
import PyProof.EqAt
import PyProof.EqKinds
import PyProof.TupleCall
import KE.KRevIter
import PyProof.ListRange
import PyProof.AutoSeq1
import PySem.Challenge.RW_weighwalk_k33_inverse
set_option Elab.async false
set_option linter.all false
set_option maxRecDepth 100000
namespace L2
open PySem PySem.Spec PyProof.Rows

abbrev Key := Sum Int Str
def keyIs : Key → Value → Bool
  | .inl k, v => Value.isInt k v
  | .inr x, v => Value.isStrOf x v
def keyH (w : World) : Key → Int
  | .inl k => hashInt k
  | .inr x => hashStr w x
theorem keyIs_shape : ∀ {k : Key} {v : Value}, keyIs k v = true → (∃ i t, k = Sum.inl i ∧ v = Value.int i t) ∨ (∃ x t, k = Sum.inr x ∧ v = Value.str x t)
  | .inl i, v, h => by
    obtain ⟨t, e⟩ := Value.isInt_shape (k := i) (v := v) h
    exact .inl ⟨i, t, rfl, e⟩
  | .inr x, v, h => by
    obtain ⟨t, e⟩ := Value.isStrOf_shape (x := x) (v := v) h
    exact .inr ⟨x, t, rfl, e⟩
theorem key_ll (a b : Int) : decide ((Sum.inl a : Key) = Sum.inl b) = (a == b) := by
  by_cases e : a = b
  · subst e; simp
  · have h : ¬ (Sum.inl a : Key) = Sum.inl b := fun q => e (Sum.inl.inj q)
    rw [decide_eq_false h]
    exact (beq_eq_false_iff_ne.mpr e).symm
theorem key_rr (a b : Str) : decide ((Sum.inr a : Key) = Sum.inr b) = decide (a = b) := by
  by_cases e : a = b
  · subst e; simp
  · have h : ¬ (Sum.inr a : Key) = Sum.inr b := fun q => e (Sum.inr.inj q)
    rw [decide_eq_false h, decide_eq_false e]
theorem key_lr (a : Int) (b : Str) : decide ((Sum.inl a : Key) = Sum.inr b) = false := decide_eq_false (fun q => nomatch q)
theorem key_rl (a : Str) (b : Int) : decide ((Sum.inr a : Key) = Sum.inl b) = false := decide_eq_false (fun q => nomatch q)

def mixKind (prog : Program) (w : World) : PySem.KeyKind prog w Key where
  is := keyIs
  hash := keyH w
  inj := fun v a b ha hb => by
    rcases keyIs_shape ha with ⟨i, t, rfl, rfl⟩ | ⟨x, t, rfl, rfl⟩
    · rcases keyIs_shape hb with ⟨j, u, rfl, e⟩ | ⟨y, u, rfl, e⟩
      · injection e with e1 _; rw [e1]
      · exact nomatch e
    · rcases keyIs_shape hb with ⟨j, u, rfl, e⟩ | ⟨y, u, rfl, e⟩
      · exact nomatch e
      · injection e with e1 _; rw [e1]
  byValue := fun k v h => by
    rcases keyIs_shape h with ⟨i, t, rfl, rfl⟩ | ⟨x, t, rfl, rfl⟩ <;> rfl
  pyHash := fun hv h => by
    rcases keyIs_shape hv with ⟨i, t, rfl, rfl⟩ | ⟨x, t, rfl, rfl⟩
    · exact wpAny_pyHash_int h
    · exact wpAny_pyHash_str h
  eqBool := fun hu hv h => by
    rcases keyIs_shape hu with ⟨i, t, rfl, rfl⟩ | ⟨x, t, rfl, rfl⟩
    · rcases keyIs_shape hv with ⟨j, u, rfl, rfl⟩ | ⟨y, u, rfl, rfl⟩
      · rw [key_ll] at h; exact wpAny_eqBool_int h
      · rw [key_lr] at h; exact SeqAt.EqAt.int_str i t y u _ _ _ _ h
    · rcases keyIs_shape hv with ⟨j, u, rfl, rfl⟩ | ⟨y, u, rfl, rfl⟩
      · rw [key_rl] at h; exact SeqAt.EqAt.str_int x t j u _ _ _ _ h
      · rw [key_rr] at h; exact wpAny_eqBool_str h
  «strs» := fun k x t v h => by
    rcases keyIs_shape h with ⟨i, u, rfl, e⟩ | ⟨y, u, rfl, e⟩
    · exact nomatch e
    · injection e with e1 _
      subst e1
      cases v <;> rfl

end L2

namespace L2
open PySem PySem.Spec PyProof.Rows

inductive V where
  | non | bl (b : Bool) | int (i : Int) | str (x : Str) | byt (b : Array UInt8) | flt (b : UInt64) | ref (a : Addr) | ty (n : String)
  deriving DecidableEq

def RelV : V → Value → Prop
  | .non, u => u = Value.none
  | .bl b, u => u = Value.bool b
  | .int i, u => ∃ t, u = Value.int i t
  | .str x, u => ∃ t, u = Value.str x t
  | .byt b, u => ∃ t, u = Value.bytes b t
  | .flt b, u => ∃ t, u = Value.float b t
  | .ref a, u => u = Value.ref a
  | .ty n, u => u = Value.type n

abbrev Vals : List V → List Value → Prop := Paired RelV
theorem Vals.length {xs : List V} {us : List Value} (r : Vals xs us) : xs.length = us.length := Paired.length r
theorem Vals.get : ∀ {xs : List V} {us : List Value} {i : Nat} {x : V}, Vals xs us → xs[i]? = some x → ∃ u, us[i]? = some u ∧ RelV x u
  | _, _, _, _, .nil, e => by simp at e
  | _, _, 0, _, .cons r _, e => by simp at e; subst e; exact ⟨_, rfl, r⟩
  | _, _, i + 1, x, .cons _ t, e => by
    obtain ⟨u, h1, h2⟩ := Vals.get (i := i) (x := x) t (by simpa using e)
    exact ⟨u, by simpa using h1, h2⟩
theorem Vals.set {x : V} {u : Value} (r : RelV x u) : ∀ {xs : List V} {us : List Value} (i : Nat), Vals xs us → Vals (xs.set i x) (us.set i u)
  | _, _, _, .nil => .nil
  | _, _, 0, .cons _ t => .cons r t
  | _, _, i + 1, .cons q t => .cons q (Vals.set r i t)
theorem Vals.append : ∀ {xs ys : List V} {us ws : List Value}, Vals xs us → Vals ys ws → Vals (xs ++ ys) (us ++ ws)
  | _, _, _, _, .nil, s => s
  | _, _, _, _, .cons r t, s => .cons r (Vals.append t s)
theorem Vals.take : ∀ {xs : List V} {us : List Value} (n : Nat), Vals xs us → Vals (xs.take n) (us.take n)
  | _, _, 0, _ => .nil
  | _, _, _ + 1, .nil => .nil
  | _, _, n + 1, .cons r t => .cons r (Vals.take n t)
theorem Vals.drop : ∀ {xs : List V} {us : List Value} (n : Nat), Vals xs us → Vals (xs.drop n) (us.drop n)
  | _, _, 0, r => r
  | _, _, _ + 1, .nil => .nil
  | _, _, n + 1, .cons _ t => Vals.drop n t
theorem Vals.none_of : ∀ {xs : List V} {us : List Value} {i : Nat}, Vals xs us → xs[i]? = none → us[i]? = none := fun {xs us i} r e => by
  have h1 := r.length
  have h2 : xs.length ≤ i := List.getElem?_eq_none_iff.mp e
  exact List.getElem?_eq_none_iff.mpr (by omega)

def RelO : Option V → Option Value → Prop
  | some v, some u => RelV v u
  | none, none => True
  | _, _ => False
def KV {κ : Type} : List (κ × V) → List (κ × Value) → Prop := Paired fun (p : κ × V) (q : κ × Value) => p.1 = q.1 ∧ RelV p.2 q.2

def kV : Key → V
  | .inl i => .int i
  | .inr x => .str x

inductive HO where
  /-- a list -/
  | lst (xs : List V)
  /-- a tuple (never changes) -/
  | tup (xs : List V)
  /-- a dict whose keys are ints and texts; one whose keys are tuples of ints and texts (the empty one is both) -/
  | dK (kvs : List (Key × V)) | dT (kvs : List (List Key × V))
  /-- a set of ints: its members, its size -/
  | set (S : Int → Bool) (n : Nat)
  /-- an instance of the class at C, its dict at dx, its attributes -/
  | ins (C dx : Addr) (fs : List (Str × V))
  /-- the dict of the instance at x -/
  | own (x : Addr)
  /-- the dict of an exception -/
  | xd (fs : List (Str × V))
  /-- a bound method, f of x -/
  | met (f x : Addr)
  /-- a range object lo, lo + 1, .. below hi -/
  | rng (lo hi : Int)
  /-- a thing that is known to the object (the script; a dict while a loop walks it): read, never written while it is so -/
  | frz (o : Obj) (u : HO)
  /-- a code object's table -/
  | tbl (ps : Array Value)
  /-- any other thing, by what is true of its one object (a def of one's own: SetO a S n := HO.ext fun h => ..) -/
  | ext (φ : Heap → Prop)

abbrev Hp := Addr → Option HO
def upd (H : Hp) (a : Addr) (o : HO) : Hp := fun b => if b = a then some o else H b
theorem upd_same {H : Hp} {a : Addr} {o : HO} : upd H a o a = some o := by unfold upd; rw [if_pos rfl]
theorem upd_ne {H : Hp} {a b : Addr} {o : HO} (h : b ≠ a) : upd H a o b = H b := by unfold upd; rw [if_neg h]
theorem ne_of_none {H : Hp} {a b : Addr} {o : HO} (h : H a = some o) (h' : H b = none) : a ≠ b := by
  intro e; subst e; rw [h] at h'; cases h'

section
variable (P : Program) (w : World)
def ObjOk (H : Hp) (h : Heap) (a : Addr) : HO → Prop
  | .lst xs => xs.length ≤ sizeLine ∧ ∃ (its : List Value) (n : Nat), Vals xs its ∧ h.get? a = some { cls := .type "list", data := .seq its.toArray n }
  | .tup xs => xs.length ≤ sizeLine ∧ ∃ its : List Value, Vals xs its ∧ IsTup h a its.toArray
  | .dK kvs => kvs.length ≤ sizeLine ∧ (a == sysModules) = false ∧ ∃ vs, KV kvs vs ∧ h.DictOf (mixKind P w) a vs
  | .dT kvs => kvs.length ≤ sizeLine ∧ (a == sysModules) = false ∧ ∃ xs : List (List Key × Addr × Value),
      Paired (fun (p : List Key × V) (q : List Key × Addr × Value) => p.1 = q.1 ∧ H q.2.1 = some (.tup (p.1.map kV)) ∧ RelV p.2 q.2.2) kvs xs ∧
      ∃ o es ep, h.get? a = some o ∧ o.ExactDict ∧ o.data = .dict es ep ∧ es.toList = xs.map (entryOfKey (tupleKind (mixKind P w))) ∧ (xs.map (·.1)).Nodup
  | .set S n => h.SetOf (intKind P w) a S n
  | .ins C dx fs => H dx = some (.own a) ∧ fs.length ≤ 1000 ∧ dx ≠ a ∧ h.get? a = some (PySem.W.instObj C dx) ∧
      ∃ mA, h.Ns1 dx mA ∧ (∀ f, RelO (fs.lookup f) (mA f)) ∧ PySem.Within mA (fs.map (·.1))
  | .own _ => ∃ o, h.get? a = some o
  | .xd fs => ∃ mA, h.Ns1 a mA ∧ ∀ f, RelO (fs.lookup f) (mA f)
  | .rng lo hi => ∃ t u v, h.get? a = some { cls := .type "range", data := .fields #[.int lo t, .int hi u, .int 1 v] }
  | .frz o u => h.get? a = some o ∧ ObjOk H h a u
  | .tbl ps => h.get? a = some { cls := .none, data := .fields ps }
  | .met f x => h.get? a = some (PySem.W.methodObj (.ref f) (.ref x))
  | .ext φ => φ h ∧ (∃ o, h.get? a = some o) ∧ ∀ h1 h2 : Heap, φ h1 → (∀ o, h1.get? a = some o → h2.get? a = some o) → φ h2
def HOk (H : Hp) (h : Heap) : Prop := ∀ a o, H a = some o → ObjOk P w H h a o
end

section
variable {P : Program} {w : World} {H H' : Hp} {h h' : Heap} {a : Addr} {o : HO}
theorem ObjOk.lt (x : ObjOk P w H h a o) : a < h.objs.size := by
  cases o with
  | lst xs => obtain ⟨_, _, _, _, e⟩ := x; exact Heap.lt_size e
  | tup xs => obtain ⟨_, _, _, p⟩ := x; exact p.lt
  | dK kvs => obtain ⟨_, _, _, _, o, _, _, e, _⟩ := x; exact Heap.lt_size e
  | dT kvs => obtain ⟨_, _, _, _, o, _, _, e, _⟩ := x; exact Heap.lt_size e
  | set S n => obtain ⟨o, _, _, _, e, _⟩ := x; exact Heap.lt_size e
  | ins C dx fs => obtain ⟨_, _, _, e, _⟩ := x; exact Heap.lt_size e
  | own y => obtain ⟨_, e⟩ := x; exact Heap.lt_size e
  | xd fs => obtain ⟨_, ⟨_, _, _, e, _⟩, _⟩ := x; exact Heap.lt_size e
  | rng lo hi => obtain ⟨_, _, _, e⟩ := x; exact Heap.lt_size e
  | frz ob u => obtain ⟨e, _⟩ := x; exact Heap.lt_size e
  | tbl ps => exact Heap.lt_size (show h.get? a = some _ from x)
  | met f y => exact Heap.lt_size (show h.get? a = some _ from x)
  | ext φ => obtain ⟨_, ⟨_, e⟩, _⟩ := x; exact Heap.lt_size e
theorem Paired.mapP {α β : Type} {F G : α → β → Prop} : ∀ {l₁ : List α} {l₂ : List β}, Paired F l₁ l₂ → (∀ a b, F a b → G a b) → Paired G l₁ l₂
  | _, _, .nil, _ => .nil
  | _, _, .cons r t, f => .cons (f _ _ r) (Paired.mapP t f)
theorem ObjOk.stay (x : ObjOk P w H h a o) (k : ∀ b u, (b = a ∨ H b = some (.own a)) → h.get? b = some u → h'.get? b = some u)
    (ho : ∀ b, H b = some (.own a) → H' b = some (.own a)) (ht : ∀ b xs, H b = some (.tup xs) → H' b = some (.tup xs)) : ObjOk P w H' h' a o := by
  induction o with
  | lst xs => obtain ⟨z, its, n, r, e⟩ := x; exact ⟨z, its, n, r, k _ _ (.inl rfl) e⟩
  | tup xs => obtain ⟨z, its, r, ob, e, c⟩ := x; exact ⟨z, its, r, ob, k _ _ (.inl rfl) e, c⟩
  | dK kvs => obtain ⟨z, y, vs, r, ob, es, ep, e, c⟩ := x; exact ⟨z, y, vs, r, ob, es, ep, k _ _ (.inl rfl) e, c⟩
  | dT kvs =>
    obtain ⟨z, y, xs, r, ob, es, ep, e, c⟩ := x
    exact ⟨z, y, xs, Paired.mapP r fun p q z => ⟨z.1, ht _ _ z.2.1, z.2.2⟩, ob, es, ep, k _ _ (.inl rfl) e, c⟩
  | set S n => obtain ⟨ob, es, ep, t, e, c⟩ := x; exact ⟨ob, es, ep, t, k _ _ (.inl rfl) e, c⟩
  | ins C dx fs =>
    obtain ⟨d, z, ne, e, mA, ⟨od, es, ep, e2, c⟩, r⟩ := x
    exact ⟨ho _ d, z, ne, k _ _ (.inl rfl) e, mA, ⟨od, es, ep, k _ _ (.inr d) e2, c⟩, r⟩
  | own y => obtain ⟨ob, e⟩ := x; exact ⟨ob, k _ _ (.inl rfl) e⟩
  | xd fs => obtain ⟨mA, ⟨od, es, ep, e, c⟩, r⟩ := x; exact ⟨mA, ⟨od, es, ep, k _ _ (.inl rfl) e, c⟩, r⟩
  | rng lo hi => obtain ⟨t, u, v, e⟩ := x; exact ⟨t, u, v, k _ _ (.inl rfl) e⟩
  | frz ob u ih => obtain ⟨e, q⟩ := x; exact ⟨k _ _ (.inl rfl) e, ih q⟩
  | tbl ps =>
    have e : h.get? a = some { cls := .none, data := .fields ps } := x
    show h'.get? a = some { cls := .none, data := .fields ps }
    exact k a _ (.inl rfl) e
  | met f y =>
    have e : h.get? a = some (PySem.W.methodObj (.ref f) (.ref y)) := x
    show h'.get? a = some (PySem.W.methodObj (.ref f) (.ref y))
    exact k a _ (.inl rfl) e
  | ext φ => obtain ⟨p, ⟨o, e⟩, st⟩ := x; exact ⟨st _ _ p fun o q => k _ _ (.inl rfl) q, ⟨o, k _ _ (.inl rfl) e⟩, st⟩
theorem HOk.lt (x : HOk P w H h) (e : H a = some o) : a < h.objs.size := (x a o e).lt
theorem HOk.fresh (x : HOk P w H h) (e : h.objs.size ≤ a) : H a = none := by
  cases q : H a with
  | none => rfl
  | some u => exact absurd (Nat.lt_of_lt_of_le (x.lt q) e) (Nat.lt_irrefl _)
theorem HOk.kept (x : HOk P w H h) (k : ∀ b u, h.get? b = some u → h'.get? b = some u) : HOk P w H h' := fun a o e =>
  (x a o e).stay (fun b u _ q => k b u q) (fun _ q => q) fun _ _ q => q
theorem HOk.laid (x : HOk P w H h) (k : ∀ b u, h.get? b = some u → h'.get? b = some u) (hp : h.objs.size ≤ a) (new : ObjOk P w (upd H a o) h' a o) : HOk P w (upd H a o) h' := fun b u e => by
  have hn := x.fresh hp
  by_cases hb : b = a
  · subst hb; rw [upd_same] at e; cases e; exact new
  · rw [upd_ne hb] at e
    exact (x b u e).stay (fun c v _ q => k c v q) (fun c q => by rw [upd_ne (ne_of_none q hn)]; exact q) fun c xs q => by rw [upd_ne (ne_of_none q hn)]; exact q
end

def Rd (H : Hp) (a : Addr) (u : HO) : Prop := H a = some u ∨ ∃ o, H a = some (.frz o u)
theorem Rd.of {H : Hp} {a : Addr} {u : HO} (h : H a = some u) : Rd H a u := .inl h
theorem Rd.ok {P : Program} {w : World} {H : Hp} {h : Heap} {a : Addr} {u : HO} (r : Rd H a u) (x : HOk P w H h) : ObjOk P w H h a u := by
  rcases r with r | ⟨o, r⟩
  · exact x a u r
  · obtain ⟨_, q⟩ := x a _ r
    exact q
def Mut : Option HO → Prop
  | some (.lst _) => True
  | some (.dK _) => True
  | some (.dT _) => True
  | some (.set _ _) => True
  | some (.ins _ _ _) => True
  | some (.ext _) => True
  | _ => False
section
variable {P : Program} {w : World} {H : Hp} {h h' : Heap} {x e : Addr} {o' : HO}
theorem HOk.write (ok : HOk P w H h) (mu : Mut (H x)) (he : e = x ∨ H e = some (.own x)) (k : ∀ b u, b ≠ e → h.get? b = some u → h'.get? b = some u) (heo : ∃ u, h'.get? e = some u)
    (new : ObjOk P w (upd H x o') h' x o') : HOk P w (upd H x o') h' := fun b u q => by
  have nown : ∀ c y, H c = some (.own y) → c ≠ x := fun c y r z => by subst z; rw [r] at mu; exact mu
  have ntup : ∀ c xs, H c = some (.tup xs) → c ≠ x := fun c xs r z => by subst z; rw [r] at mu; exact mu
  by_cases hb : b = x
  · subst hb; rw [upd_same] at q; cases q; exact new
  · rw [upd_ne hb] at q
    by_cases hbe : b = e
    · have q' : H b = some (.own x) := by
        rcases he with z | z
        · exact absurd (hbe.trans z) hb
        · rw [hbe]; exact z
      rw [q] at q'; cases q'
      obtain ⟨v, hv⟩ := heo
      exact ⟨v, by rw [hbe]; exact hv⟩
    · refine (ok b u q).stay (fun c v hc r => k c v ?_ r) (fun c r => by rw [upd_ne (nown c b r)]; exact r) fun c xs r => by rw [upd_ne (ntup c xs r)]; exact r
      rcases hc with rfl | hc
      · exact hbe
      · rintro rfl
        rcases he with z | z
        · exact nown c b hc z
        · rw [hc] at z; cases z; exact hb rfl
end

structure Un (fs ex : List Addr) (H H' : Hp) (h h' : Heap) : Prop where
  keep : ∀ b o, h.get? b = some o → H b = none → b ∉ fs → b ∉ ex → h'.get? b = some o
  slot : ∀ b o, h.get? b = some o → H b = none → b ∈ fs → b ∉ ex → ∃ sl, h'.get? b = some { o with slots := sl }
  free : ∀ b o, h.get? b = some o → H b = none → b ∉ ex → H' b = none
  there : ∀ b o, h.get? b = some o → b ∉ ex → ∃ o', h'.get? b = some o'
  tups : ∀ b xs, H b = some (.tup xs) → H' b = some (.tup xs)
  frzs : ∀ b o u, H b = some (.frz o u) → H' b = some (.frz o u)
  tbls : ∀ b ps, H b = some (.tbl ps) → ∃ more, H' b = some (.tbl (ps ++ more))
section
variable {fs fs' ex ex' : List Addr} {H H1 H2 : Hp} {h h1 h2 h' : Heap} {a x e : Addr} {o : HO}
theorem Un.any (u : Un fs ex H H1 h h1) {b : Addr} {ob : Obj} (q : h.get? b = some ob) (n : H b = none) (hx : b ∉ ex) : ∃ sl, h1.get? b = some { ob with slots := sl } := by
  by_cases hb : b ∈ fs
  · exact u.slot b ob q n hb hx
  · exact ⟨ob.slots, u.keep b ob q n hb hx⟩
theorem Un.trans (a : Un fs ex H H1 h h1) (b : Un fs ex H1 H2 h1 h2) : Un fs ex H H2 h h2 where
  keep := fun c ob q n hc hx => b.keep c ob (a.keep c ob q n hc hx) (a.free c ob q n hx) hc hx
  slot := fun c ob q n hc hx => by
    obtain ⟨sl, e1⟩ := a.slot c ob q n hc hx
    obtain ⟨sl', e2⟩ := b.slot c _ e1 (a.free c ob q n hx) hc hx
    exact ⟨sl', e2⟩
  free := fun c ob q n hx => by
    obtain ⟨o', e1⟩ := a.there c ob q hx
    exact b.free c o' e1 (a.free c ob q n hx) hx
  there := fun c ob q hx => by
    obtain ⟨o', e1⟩ := a.there c ob q hx
    exact b.there c o' e1 hx
  tups := fun c xs q => b.tups c xs (a.tups c xs q)
  frzs := fun c ob xs q => b.frzs c ob xs (a.frzs c ob xs q)
  tbls := fun c ps q => by
    obtain ⟨m1, e1⟩ := a.tbls c ps q
    obtain ⟨m2, e2⟩ := b.tbls c _ e1
    exact ⟨m1 ++ m2, by rw [e2, Array.append_assoc]⟩
theorem Un.kept (k : ∀ b u, h.get? b = some u → h'.get? b = some u) : Un fs ex H H h h' :=
  ⟨fun b ob q _ _ _ => k b ob q, fun b ob q _ _ _ => ⟨ob.slots, k b ob q⟩, fun _ _ _ n _ => n, fun b ob q _ => ⟨ob, k b ob q⟩, fun _ _ q => q, fun _ _ _ q => q, fun _ ps q => ⟨#[], by rw [q]; simp⟩⟩
theorem Un.refl : Un fs ex H H h h := Un.kept fun _ _ q => q
theorem Un.laid (k : ∀ b u, h.get? b = some u → h'.get? b = some u) (hp : h.objs.size ≤ a) (hn : H a = none) : Un fs ex H (upd H a o) h h' where
  keep := fun b u q _ _ _ => k b u q
  slot := fun b u q _ _ _ => ⟨u.slots, k b u q⟩
  free := fun b u q n _ => by rw [upd_ne (Nat.ne_of_lt (Nat.lt_of_lt_of_le (Heap.lt_size q) hp))]; exact n
  there := fun b u q _ => ⟨u, k b u q⟩
  tups := fun b xs q => by rw [upd_ne (ne_of_none q hn)]; exact q
  frzs := fun b u xs q => by rw [upd_ne (ne_of_none q hn)]; exact q
  tbls := fun b ps q => ⟨#[], by rw [upd_ne (ne_of_none q hn), q]; simp⟩
theorem Un.write (mu : Mut (H x)) (he : e = x ∨ H e = some (.own x)) (k : ∀ b u, b ≠ e → h.get? b = some u → h'.get? b = some u) (heo : ∃ u, h'.get? e = some u) : Un fs ex H (upd H x o) h h' := by
  have hx : ∀ b, H b = none → b ≠ x := fun b n z => by subst z; rw [n] at mu; exact mu
  have hb : ∀ b, H b = none → b ≠ e := fun b n z => by
    subst z
    rcases he with r | r
    · exact hx b n r
    · rw [n] at r; cases r
  have hm : ∀ b u, H b = some u → ¬ Mut (some u) → b ≠ x := fun b u q nm z => by subst z; rw [q] at mu; exact nm mu
  refine ⟨fun b u q n _ _ => k b u (hb b n) q, fun b u q n _ _ => ⟨u.slots, k b u (hb b n) q⟩, fun b u q n _ => by rw [upd_ne (hx b n)]; exact n, fun b u q _ => ?_,
    fun b xs q => by rw [upd_ne (hm b _ q fun z => z)]; exact q, fun b u xs q => by rw [upd_ne (hm b _ q fun z => z)]; exact q, fun b ps q => ⟨#[], by rw [upd_ne (hm b _ q fun z => z), q]; simp⟩⟩
  by_cases hbe : b = e
  · subst hbe; exact heo
  · exact ⟨u, k b u hbe q⟩
theorem Un.mono (u : Un fs ex H H1 h h1) (hs : ∀ b ∈ fs, b ∈ fs') (hx : ∀ b ∈ ex, b ∈ ex') : Un fs' ex' H H1 h h1 :=
  ⟨fun b ob q n hb he => u.keep b ob q n (fun z => hb (hs b z)) fun z => he (hx b z), fun _ _ q n _ he => u.any q n fun z => he (hx _ z), fun b ob q n he => u.free b ob q n fun z => he (hx b z), fun b ob q he => u.there b ob q fun z => he (hx b z), u.tups, u.frzs, u.tbls⟩
end

def trk (h : Heap) (H : Hp) : List Addr := (List.range h.objs.size).filter fun a => (H a).isSome
def hidT (h : Heap) (H : Hp) : Heap := PySem.W.hideAll h (trk h H)
theorem hidT_size (h : Heap) (H : Hp) : (hidT h H).objs.size = h.objs.size := PySem.W.hideAll_size _ _
theorem hidT_get {h : Heap} {H : Hp} {b : Addr} {o : Obj} (e : h.get? b = some o) (n : H b = none) : (hidT h H).get? b = some o :=
  PySem.W.hideAll_get _ e fun hm => by
    have q : (H b).isSome = true := (List.mem_filter.mp hm).2
    rw [n] at q; simp at q
theorem of_hidT {h : Heap} {H : Hp} {b : Addr} {o : Obj} (e : (hidT h H).get? b = some o) : h.get? b = some o ∧ H b = none := by
  have e' : h.get? b = some o := PySem.W.of_hideAll (trk h H) e
  refine ⟨e', ?_⟩
  cases q : H b with
  | none => rfl
  | some x =>
    have hm : b ∈ trk h H := List.mem_filter.mpr ⟨List.mem_range.mpr (Heap.lt_size e'), by simp [q]⟩
    have z : (hidT h H).get? b = none := PySem.W.hideAll_none (trk h H) hm
    rw [z] at e; cases e

def allNews (g h : Heap) (L : Addr) : List (Addr × Obj) := (List.range h.objs.size).filterMap fun a => if a = L ∨ (g.get? a).isSome = true then none else (h.get? a).map fun o => (a, o)
def rest (g h : Heap) (L d : Addr) : List (Addr × Obj) := (allNews g h L).filter fun p => decide (p.1 ≠ d)
end L2

namespace L2
open PySem PySem.Spec PyProof.Rows

structure Mod (K : PySem.W.Frag) (mg : Str → Option Value) (base : Heap) : Prop where
  kin : K.In base
  glob : base.Ns mainGlobals mg
  blt : ∃ mb, base.Ns builtinsNs mb ∧ ∀ x : Str, x ≠ "__name__" → mb x = bootBuiltins x
  nolimit : base.NoLimit
  seer : base.NoSeer

structure Cx where
  prog : Program
  w : World
  K : PySem.W.Frag
  mg : Str → Option Value
  base : Heap
  A : Around
  N : List Str
  s₀ : Shared
  H₀ : Hp
  env : Env
  outer : List Env
  stack : List Env
  ex : List Addr
  fn : Str → Bool
  calm : Bool
  pn : List (Addr × Obj)
  xe : Value → Shared → Prop
def frs (l : List Env) : List Addr := l.filterMap (·.frame)
abbrev Cx.fs (X : Cx) : List Addr := frs X.outer

def Vis (sc : Scope) (x : Str) : Prop := sc.names.lookup x = some .local ∨ sc.names.lookup x = some .cell ∨ sc.names.lookup x = some .free
def Loc (sc : Scope) (x : Str) : Prop := sc.names.lookup x = some .local ∨ sc.names.lookup x = some .cell
def Look (env : Env) (h : Heap) (m : Str → Option Value) (x : Str) (u : Value) : Prop :=
  (env.kindOf x = some .local ∧ m x = some u) ∨ ((env.kindOf x = some .cell ∨ env.kindOf x = some .free) ∧ ∃ c, env.cells.lookup x = some c ∧ h.IsCell c (some u))

structure Cx.Ok (X : Cx) : Prop where
  mod : Mod X.K X.mg X.base
  kind : X.env.scope.kind = .function
  glob : X.env.globals = mainGlobals
  blt : X.env.builtins = builtinsNs
  above : X.s₀.heap.objs.size ≤ X.env.locals
  inj : ∀ x y c, X.env.cells.lookup x = some c → X.env.cells.lookup y = some c → x = y
  has : ∀ x, (X.env.kindOf x = some .cell ∨ X.env.kindOf x = some .free) → ∃ c, X.env.cells.lookup x = some c
  cab : ∀ x c, X.fn x = true → X.env.cells.lookup x = some c → X.s₀.heap.objs.size ≤ c
  hd : X.calm = true → X.A.handled = none
  frames : X.A.frames = some X.stack
  stk : X.stack = X.outer ∨ (X.stack = X.env :: X.outer ∧ X.env.frame = some X.env.locals)
  exf : ∀ b ∈ X.ex, b ≠ X.env.locals ∧ ∀ x c, X.env.cells.lookup x = some c → c ≠ b
  bs : ∀ b o, X.base.get? b = some o → X.s₀.heap.get? b = some o ∧ X.H₀ b = none
  bsz : X.base.objs.size ≤ X.s₀.heap.objs.size
  noex : ∀ b o, X.base.get? b = some o → b ∉ X.ex
  exfs : ∀ b ∈ X.ex, b ∉ X.fs
  funs : X.s₀.heap.FunFrames X.base X.outer
  frf : ∀ b ∈ X.fs, X.H₀ b = none

structure Inv (X : Cx) (pins : List (Addr × Obj)) (σ : List (Option V)) (H : Hp) (s : Shared) : Prop where
  ok : X.Ok
  os : s.os = X.s₀.os
  bare : AllBare s.gens
  base : Un X.fs X.ex X.H₀ H X.s₀.heap s.heap
  loc : ∃ m, s.heap.Ns X.env.locals m ∧ ∀ (i : Nat) (x : Str) (v : V), X.N[i]? = some x → σ[i]? = some (some v) → Vis X.env.scope x → ∃ u, RelV v u ∧ Look X.env s.heap m x u
  cell : ∀ x c, X.env.cells.lookup x = some c → ∃ v, s.heap.IsCell c v
  free : H X.env.locals = none
  freeC : ∀ x c, X.env.cells.lookup x = some c → H c = none
  pin : ∀ p ∈ X.pn ++ pins, s.heap.get? p.1 = some p.2 ∧ H p.1 = none ∧ p.1 ≠ X.env.locals ∧ p.1 ∉ X.fs ∧ ∀ v, p.2.data ≠ .cell v
  hok : HOk X.prog X.w H s.heap
  len : σ.length = X.N.length

section
variable {X : Cx} {pins : List (Addr × Obj)} {σ : List (Option V)} {H H' : Hp} {s : Shared} {h' : Heap}

theorem Cx.Ok.nofr (ok : X.Ok) {b : Addr} {o : Obj} (e : X.base.get? b = some o) : b ∉ X.fs := fun hb => by
  have := (ok.funs.mem hb).1
  rw [e] at this; cases this
theorem Inv.bs (I : Inv X pins σ H s) : ∀ b o, X.base.get? b = some o → s.heap.get? b = some o ∧ H b = none := fun b o e =>
  ⟨I.base.keep b o (I.ok.bs b o e).1 (I.ok.bs b o e).2 (I.ok.nofr e) (I.ok.noex b o e), I.base.free b o (I.ok.bs b o e).1 (I.ok.bs b o e).2 (I.ok.noex b o e)⟩
theorem Inv.bk (I : Inv X pins σ H s) : ∀ b o, X.base.get? b = some o → s.heap.get? b = some o := fun b o e => (I.bs b o e).1
theorem Inv.mod (I : Inv X pins σ H s) : Mod X.K X.mg X.base := I.ok.mod
theorem Inv.kIn (I : Inv X pins σ H s) : X.K.In s.heap := I.ok.mod.kin.keeps I.bk
theorem Inv.nolimit (I : Inv X pins σ H s) : s.heap.NoLimit := I.ok.mod.nolimit.keeps I.bk
theorem Inv.fr (I : Inv X pins σ H s) : ∃ m, Fr X.base X.env.locals s.heap m :=
  let ⟨m, hn, _⟩ := I.loc
  ⟨m, hn, I.bk, Nat.le_trans I.ok.bsz I.ok.above⟩
theorem Inv.lt (I : Inv X pins σ H s) : X.env.locals < s.heap.objs.size := let ⟨_, hn, _⟩ := I.loc; hn.lt
theorem Inv.sz (I : Inv X pins σ H s) : X.s₀.heap.objs.size ≤ s.heap.objs.size := Nat.le_trans I.ok.above (Nat.le_of_lt I.lt)
theorem Inv.nofs (I : Inv X pins σ H s) {a : Addr} (h : s.heap.objs.size ≤ a) : a ∉ X.fs := fun hb => by
  obtain ⟨_, o, ho, _⟩ := I.ok.funs.mem hb
  exact absurd (Nat.lt_of_lt_of_le (Heap.lt_size ho) (Nat.le_trans I.sz h)) (Nat.lt_irrefl _)
theorem Inv.cne (I : Inv X pins σ H s) : ∀ x c, X.env.cells.lookup x = some c → c ≠ X.env.locals := fun x c e z => by
  obtain ⟨v, o, ho, hd⟩ := I.cell x c e
  obtain ⟨m, ⟨o', es, ep, ho', hd', _⟩, _⟩ := I.loc
  rw [z, ho'] at ho; cases ho; rw [hd'] at hd; cases hd
theorem Inv.funs (I : Inv X pins σ H s) : s.heap.FunFrames X.base X.outer := by
  have all : ∀ (l : List Env), (∀ b ∈ frs l, b ∈ X.fs) → X.s₀.heap.FunFrames X.base l → s.heap.FunFrames X.base l := by
    intro l
    induction l with
    | nil => intro _ _; trivial
    | cons env r ih =>
      intro hs hl
      obtain ⟨hk, ⟨L, o, hf, hn, ho, hd⟩, hr⟩ := hl
      have hL : L ∈ X.fs := hs L (by unfold frs; rw [List.filterMap_cons, hf]; exact List.mem_cons_self)
      obtain ⟨sl, e⟩ := I.base.slot L o ho (I.ok.frf L hL) hL fun z => I.ok.exfs L z hL
      exact ⟨hk, ⟨L, _, hf, hn, e, hd⟩, ih (fun b hb => hs b (by unfold frs; rw [List.filterMap_cons, hf]; exact List.mem_cons_of_mem _ hb)) hr⟩
  exact all X.outer (fun _ hb => hb) I.ok.funs

theorem Inv.stack (I : Inv X pins σ H s) : s.heap.FunFrames X.base X.stack := by
  rcases I.ok.stk with e | ⟨e, hf⟩
  · rw [e]; exact I.funs
  · rw [e]
    obtain ⟨m, hn, _⟩ := I.loc
    refine .cons (by rw [I.ok.kind]; decide) hf hn ?_ I.funs
    exact Heap.get?_none_of_le (Nat.le_trans I.ok.bsz I.ok.above)
theorem Inv.stkSub (I : Inv X pins σ H s) : ∀ b ∈ frs X.stack, b ∈ X.env.locals :: X.fs := fun b hb => by
  rcases I.ok.stk with e | ⟨e, hf⟩
  · rw [e] at hb; exact List.mem_cons_of_mem _ hb
  · rw [e] at hb
    unfold frs at hb
    rw [List.filterMap_cons, hf] at hb
    exact hb
theorem Inv.stkFree (I : Inv X pins σ H s) : ∀ b ∈ frs X.stack, H b = none := fun b hb => by
  rcases List.mem_cons.mp (I.stkSub b hb) with e | hb
  · rw [e]; exact I.free
  · obtain ⟨_, o, ho, _⟩ := I.ok.funs.mem hb
    exact I.base.free b o ho (I.ok.frf b hb) fun z => I.ok.exfs b z hb

theorem Inv.step {g' : Array GenState} {t' : Nat} {d' : Drawn} {ch : List Addr} (I : Inv X pins σ H s)
    (hch : ∀ b ∈ ch, (b ∈ X.ex ∨ X.s₀.heap.objs.size ≤ b) ∧ b ≠ X.env.locals ∧ (∀ x c, X.env.cells.lookup x = some c → c ≠ b) ∧ ∀ p ∈ X.pn ++ pins, p.1 ≠ b)
    (keep : ∀ b o, b ≠ X.env.locals → b ∉ X.fs → b ∉ ch → s.heap.get? b = some o → H b = none → h'.get? b = some o)
    (slot : ∀ b o, b ≠ X.env.locals → b ∈ X.fs → b ∉ ch → s.heap.get? b = some o → H b = none → ∃ sl, h'.get? b = some { o with slots := sl }) (free : ∀ b o, b ∉ ch → s.heap.get? b = some o → H b = none → H' b = none)
    (there : ∀ b o, b ∉ ch → s.heap.get? b = some o → ∃ o', h'.get? b = some o')
    (tups : ∀ b xs, H b = some (.tup xs) → H' b = some (.tup xs)) (frzs : ∀ b o u, H b = some (.frz o u) → H' b = some (.frz o u)) (tbls : ∀ b ps, H b = some (.tbl ps) → ∃ more, H' b = some (.tbl (ps ++ more)))
    (ns : ∀ m, s.heap.Ns X.env.locals m → h'.Ns X.env.locals m) (hok : HOk X.prog X.w H' h') (hg : AllBare g') :
    Inv X pins σ H' { s with heap := h', gens := g', drawn := d', toks := t' } := by
  have neL : ∀ b o, X.s₀.heap.get? b = some o → b ≠ X.env.locals := fun b o e => Nat.ne_of_lt (Nat.lt_of_lt_of_le (Heap.lt_size e) I.ok.above)
  have neC : ∀ b o, X.s₀.heap.get? b = some o → b ∉ X.ex → b ∉ ch := fun b o e hx hb => by
    rcases (hch b hb).1 with z | z
    · exact hx z
    · exact absurd (Nat.lt_of_lt_of_le (Heap.lt_size e) z) (Nat.lt_irrefl _)
  have cellK : ∀ x c, X.env.cells.lookup x = some c → ∀ v, s.heap.IsCell c v → h'.IsCell c v := fun x c e v ⟨o, ho, hd⟩ => by
    have nch : c ∉ ch := fun z => (hch c z).2.2.1 x c e rfl
    by_cases hc : c ∈ X.fs
    · obtain ⟨sl, q⟩ := slot c o (I.cne x c e) hc nch ho (I.freeC x c e)
      exact ⟨_, q, hd⟩
    · exact ⟨o, keep c o (I.cne x c e) hc nch ho (I.freeC x c e), hd⟩
  refine ⟨I.ok, I.os, hg, ⟨fun b o e n hb hx => ?_, fun b o e n hb hx => ?_, fun b o e n hx => ?_, fun b o e hx => ?_, fun b xs e => tups b xs (I.base.tups b xs e), fun b o xs e => frzs b o xs (I.base.frzs b o xs e), fun b ps e => ?_⟩, ?_, fun x c e => ?_, ?_, fun x c e => ?_, fun p hp => ?_, hok, I.len⟩
  · exact keep b o (neL b o e) hb (neC b o e hx) (I.base.keep b o e n hb hx) (I.base.free b o e n hx)
  · obtain ⟨sl, e1⟩ := I.base.slot b o e n hb hx
    obtain ⟨sl', e2⟩ := slot b _ (neL b o e) hb (neC b o e hx) e1 (I.base.free b o e n hx)
    exact ⟨sl', e2⟩
  · obtain ⟨o', e1⟩ := I.base.there b o e hx
    exact free b o' (neC b o e hx) e1 (I.base.free b o e n hx)
  · obtain ⟨o', e1⟩ := I.base.there b o e hx
    exact there b o' (neC b o e hx) e1
  · obtain ⟨m1, e1⟩ := I.base.tbls b ps e
    obtain ⟨m2, e2⟩ := tbls b _ e1
    exact ⟨m1 ++ m2, by rw [e2, Array.append_assoc]⟩
  · obtain ⟨m, hn, hl⟩ := I.loc
    refine ⟨m, ns m hn, fun i x v e1 e2 e3 => ?_⟩
    obtain ⟨u, r, l⟩ := hl i x v e1 e2 e3
    refine ⟨u, r, ?_⟩
    rcases l with l | ⟨k, c, e, z⟩
    · exact .inl l
    · exact .inr ⟨k, c, e, cellK x c e _ z⟩
  · obtain ⟨v, z⟩ := I.cell x c e
    exact ⟨v, cellK x c e v z⟩
  · obtain ⟨m, ⟨o, _, _, ho, _⟩, _⟩ := I.loc
    exact free _ o (fun z => (hch _ z).2.1 rfl) ho I.free
  · obtain ⟨v, o, ho, hd⟩ := I.cell x c e
    exact free c o (fun z => (hch c z).2.2.1 x c e rfl) ho (I.freeC x c e)
  · obtain ⟨e, n, ne, nf, d⟩ := I.pin p hp
    have nch : p.1 ∉ ch := fun z => (hch p.1 z).2.2.2 p hp rfl
    exact ⟨keep p.1 p.2 ne nf nch e n, free p.1 p.2 nch e n, ne, nf, d⟩
theorem Inv.un {t' : Nat} (I : Inv X pins σ H s) (u : Un X.fs [] H H' s.heap h') (hok : HOk X.prog X.w H' h') : Inv X pins σ H' { s with heap := h', toks := t' } := by
  obtain ⟨m, ⟨o, es, ep, ho, r⟩, _⟩ := id I.loc
  obtain ⟨sl, hL⟩ := u.any ho I.free (by simp)
  exact I.step (g' := s.gens) (d' := s.drawn) (ch := []) (fun _ z => nomatch z) (fun b o _ hb _ e n => u.keep b o e n hb (by simp)) (fun b o _ hb _ e n => u.slot b o e n hb (by simp)) (fun b o _ e n => u.free b o e n (by simp)) (fun b o _ e => u.there b o e (by simp)) u.tups u.frzs u.tbls (fun m' hm => by
    obtain ⟨o', es', ep', ho', r'⟩ := hm
    rw [ho] at ho'; cases ho'
    exact ⟨_, es', ep', hL, r'⟩) hok I.bare
theorem Inv.call {g' : Array GenState} {t' : Nat} {d' : Drawn} {ch : List Addr} (I : Inv X pins σ H s) (u : Un (frs X.stack) ch H H' s.heap h') (hok : HOk X.prog X.w H' h') (hg : AllBare g')
    (hch : ∀ b ∈ ch, (b ∈ X.ex ∨ X.s₀.heap.objs.size ≤ b) ∧ b ≠ X.env.locals ∧ (∀ x c, X.env.cells.lookup x = some c → c ≠ b) ∧ ∀ p ∈ X.pn ++ pins, p.1 ≠ b) :
    Inv X pins σ H' { s with heap := h', gens := g', drawn := d', toks := t' } := by
  obtain ⟨m, ⟨o, es, ep, ho, r⟩, _⟩ := id I.loc
  obtain ⟨sl, hL⟩ := u.any ho I.free fun z => (hch _ z).2.1 rfl
  exact I.step (ch := ch) hch (fun b o hL hb hc e n => u.keep b o e n (fun z => (List.mem_cons.mp (I.stkSub b z)).elim hL hb) hc) (fun b o _ _ hc e n => u.any e n hc) (fun b o hc e n => u.free b o e n hc) (fun b o hc e => u.there b o e hc) u.tups u.frzs u.tbls (fun m' hm => by
    obtain ⟨o', es', ep', ho', r'⟩ := hm
    rw [ho] at ho'; cases ho'
    exact ⟨_, es', ep', hL, r'⟩) hok hg
theorem Inv.turned {t' : Nat} {it : Addr} (I : Inv X pins σ H s) (k : ∀ b o, b ≠ it → s.heap.get? b = some o → h'.get? b = some o) (hn : H it = none) (hL : it ≠ X.env.locals)
    (h1 : it ∈ X.ex ∨ X.s₀.heap.objs.size ≤ it) (h2 : ∀ x c, X.env.cells.lookup x = some c → c ≠ it) (h3 : ∀ p ∈ X.pn ++ pins, p.1 ≠ it) : Inv X pins σ H { s with heap := h', toks := t' } := by
  have nit : ∀ b u, H b = some u → b ≠ it := fun b u e z => by rw [z, hn] at e; cases e
  refine I.step (g' := s.gens) (d' := s.drawn) (ch := [it]) (fun b hb => ?_) (fun b o _ _ hc e _ => k b o (fun z => hc (by simp [z])) e) (fun b o _ _ hc e _ => ⟨o.slots, k b o (fun z => hc (by simp [z])) e⟩) (fun _ _ _ _ n => n)
    (fun b o hc e => ⟨o, k b o (fun z => hc (by simp [z])) e⟩) (fun _ _ e => e) (fun _ _ _ e => e) (fun b ps e => ⟨#[], by rw [e]; simp⟩) (fun m hm => ?_) (fun b u e => ?_) I.bare
  · have e : b = it := by simpa using hb
    subst e
    exact ⟨h1, hL, h2, h3⟩
  · obtain ⟨o, es, ep, ho, r⟩ := hm
    exact ⟨o, es, ep, k _ o (Ne.symm hL) ho, r⟩
  · refine (I.hok b u e).stay (fun c v hc q => k c v ?_ q) (fun _ q => q) fun _ _ q => q
    rcases hc with z | z
    · rw [z]; exact nit b u e
    · exact nit c _ z
theorem Inv.tok (I : Inv X pins σ H s) (t : Nat) : Inv X pins σ H { s with toks := t } := I.un (h' := s.heap) (t' := t) Un.refl I.hok
theorem Inv.kept {t' : Nat} (I : Inv X pins σ H s) (k : ∀ b u, s.heap.get? b = some u → h'.get? b = some u) : Inv X pins σ H { s with heap := h', toks := t' } := I.un (Un.kept k) (I.hok.kept k)
theorem Inv.laid {a : Addr} {o : HO} {t' : Nat} (I : Inv X pins σ H s) (k : ∀ b u, s.heap.get? b = some u → h'.get? b = some u) (hp : s.heap.objs.size ≤ a) (new : ObjOk X.prog X.w (upd H a o) h' a o) :
    Inv X pins σ (upd H a o) { s with heap := h', toks := t' } := I.un (Un.laid k hp (I.hok.fresh hp)) (I.hok.laid k hp new)
theorem Inv.write {x e : Addr} {o : HO} {t' : Nat} (I : Inv X pins σ H s) (mu : Mut (H x)) (he : e = x ∨ H e = some (.own x)) (k : ∀ b u, b ≠ e → s.heap.get? b = some u → h'.get? b = some u) (heo : ∃ u, h'.get? e = some u)
    (new : ObjOk X.prog X.w (upd H x o) h' x o) : Inv X pins σ (upd H x o) { s with heap := h', toks := t' } := I.un (Un.write mu he k heo) (I.hok.write mu he k heo new)
theorem Inv.weak {σ' : List (Option V)} (I : Inv X pins σ H s) (hl : σ'.length = σ.length) (w : ∀ (i : Nat) v, σ'[i]? = some (some v) → σ[i]? = some (some v)) : Inv X pins σ' H s :=
  ⟨I.ok, I.os, I.bare, I.base, let ⟨m, hn, hl'⟩ := I.loc; ⟨m, hn, fun i x v e1 e2 e3 => hl' i x v e1 (w i v e2) e3⟩, I.cell, I.free, I.freeC, I.pin, I.hok, hl.trans I.len⟩
theorem Inv.pins_of {pins' : List (Addr × Obj)} (I : Inv X pins σ H s) (h : ∀ p ∈ pins', s.heap.get? p.1 = some p.2 ∧ H p.1 = none ∧ p.1 ≠ X.env.locals ∧ p.1 ∉ X.fs ∧ ∀ v, p.2.data ≠ .cell v) : Inv X pins' σ H s :=
  ⟨I.ok, I.os, I.bare, I.base, I.loc, I.cell, I.free, I.freeC, fun p hp => (List.mem_append.mp hp).elim (fun z => I.pin p (List.mem_append_left _ z)) (h p), I.hok, I.len⟩

theorem nodup_ix {N : List Str} (hN : N.Nodup) {i j : Nat} {x : Str} (a : N[i]? = some x) (b : N[j]? = some x) : i = j := by
  obtain ⟨h1, e1⟩ := List.getElem?_eq_some_iff.mp a
  obtain ⟨h2, e2⟩ := List.getElem?_eq_some_iff.mp b
  exact (List.getElem_inj hN).mp (e1.trans e2.symm)

theorem store_ok2 {M : Model} {A : Around} {E : Value → Shared → Prop} {i : Nat} {x : Str} {v : V} {u : Value} {Q : Unit → Shared → Prop} (I : Inv X pins σ H s) (hN : X.N.Nodup) (hi : X.N[i]? = some x) (hx : Loc X.env.scope x) (r : RelV v u)
    (h : ∀ s', Inv X pins (σ.set i (some v)) H s' → (∃ a, Heap.SameBut a s.heap s'.heap ∧ (a = X.env.locals ∨ X.env.cells.lookup x = some a)) → Q () s') (hf : X.fn x = true ∨ X.env.scope.names.lookup x = some .local := by first | exact .inl rfl | exact .inr rfl | assumption) : wpAny M A (storeName X.env x u) Q E s := by
  obtain ⟨m, hn, hl⟩ := id I.loc
  have hcls : (X.env.scope.kind == .class || (X.env.scope.kind == .module && X.env.locals != X.env.globals)) = false := by rw [I.ok.kind]; rfl
  have hiσ : i < σ.length := by rw [I.len]; exact (List.getElem?_eq_some_iff.mp hi).1
  have cne := I.cne
  have tracked : ∀ {a : Addr} {h' : Heap}, (∃ o, s.heap.get? a = some o ∧ H a = none) → Heap.SameBut a s.heap h' → HOk X.prog X.w H h' := fun {a h'} ha hs b ob e => by
    obtain ⟨_, _, hfree⟩ := ha
    refine (I.hok b ob e).stay (fun c w' hc q => (hs.2 c ?_).trans q) (fun _ q => q) fun _ _ q => q
    rintro rfl
    rcases hc with rfl | hc
    · rw [hfree] at e; cases e
    · rw [hfree] at hc; cases hc
  rcases hx with hk | hk
  · refine wpAny_storeName_local hk hn (fun h' hn' hs => ?_) hcls
    obtain ⟨oL, _, _, hoL, _⟩ := id hn
    refine h _ ⟨I.ok, I.os, I.bare, ⟨fun b o e n hb hx => ?_, fun b o e n hb hx => ?_, I.base.free, fun b o e hx => ?_, I.base.tups, I.base.frzs, I.base.tbls⟩, ⟨_, hn', fun j y v' e1 e2 e3 => ?_⟩, fun y c e => ?_, I.free, I.freeC, fun p hp => ?_, tracked ⟨oL, hoL, I.free⟩ hs, by simpa using I.len⟩ ⟨_, hs, .inl rfl⟩
    · exact (hs.2 b (Nat.ne_of_lt (Nat.lt_of_lt_of_le (Heap.lt_size e) I.ok.above))).trans (I.base.keep b o e n hb hx)
    · obtain ⟨sl, e1⟩ := I.base.slot b o e n hb hx
      exact ⟨sl, (hs.2 b (Nat.ne_of_lt (Nat.lt_of_lt_of_le (Heap.lt_size e) I.ok.above))).trans e1⟩
    · obtain ⟨o', e1⟩ := I.base.there b o e hx
      exact ⟨o', (hs.2 b (Nat.ne_of_lt (Nat.lt_of_lt_of_le (Heap.lt_size e) I.ok.above))).trans e1⟩
    · by_cases hj : j = i
      · subst hj
        rw [hi] at e1; cases e1
        rw [List.getElem?_set_self hiσ] at e2
        cases e2
        exact ⟨u, r, .inl ⟨hk, by simp⟩⟩
      · rw [List.getElem?_set_ne (Ne.symm hj)] at e2
        obtain ⟨u', r', q⟩ := hl j y v' e1 e2 e3
        refine ⟨u', r', ?_⟩
        rcases q with ⟨k, e⟩ | ⟨k, c, e, z⟩
        · refine .inl ⟨k, ?_⟩
          have : y ≠ x := fun e => hj (nodup_ix hN e1 (e ▸ hi))
          simp [this, e]
        · exact .inr ⟨k, c, e, z.sameBut hs (cne y c e)⟩
    · obtain ⟨w', z⟩ := I.cell y c e
      exact ⟨w', z.sameBut hs (cne y c e)⟩
    · obtain ⟨e, n, ne, nf, d⟩ := I.pin p hp
      exact ⟨(hs.2 p.1 ne).trans e, n, ne, nf, d⟩
  · have hfn : X.fn x = true := by
      rcases hf with z | z
      · exact z
      · rw [z] at hk; cases hk
    obtain ⟨c, hc⟩ := I.ok.has x (.inl hk)
    obtain ⟨w', z⟩ := I.cell x c hc
    refine wpAny_storeName_cell I.ok.kind hk hc z (fun h' hc' hs => ?_)
    obtain ⟨oc, hoc, hocd⟩ := id z
    refine h { s with heap := h' } ⟨I.ok, I.os, I.bare, ⟨fun b o e n hb hx => ?_, fun b o e n hb hx => ?_, I.base.free, fun b o e hx => ?_, I.base.tups, I.base.frzs, I.base.tbls⟩, ⟨m, hn.sameBut hs (Ne.symm (cne x c hc)), fun j y v' e1 e2 e3 => ?_⟩, fun y c' e => ?_, I.free, I.freeC, fun p hp => ?_, tracked ⟨oc, hoc, I.freeC x c hc⟩ hs, by simpa using I.len⟩ ⟨c, hs, .inr hc⟩
    · exact (hs.2 b (Nat.ne_of_lt (Nat.lt_of_lt_of_le (Heap.lt_size e) (I.ok.cab x c hfn hc)))).trans (I.base.keep b o e n hb hx)
    · obtain ⟨sl, e1⟩ := I.base.slot b o e n hb hx
      exact ⟨sl, (hs.2 b (Nat.ne_of_lt (Nat.lt_of_lt_of_le (Heap.lt_size e) (I.ok.cab x c hfn hc)))).trans e1⟩
    · obtain ⟨o', e1⟩ := I.base.there b o e hx
      exact ⟨o', (hs.2 b (Nat.ne_of_lt (Nat.lt_of_lt_of_le (Heap.lt_size e) (I.ok.cab x c hfn hc)))).trans e1⟩
    · by_cases hj : j = i
      · subst hj
        rw [hi] at e1; cases e1
        rw [List.getElem?_set_self hiσ] at e2
        cases e2
        exact ⟨u, r, .inr ⟨.inl hk, c, hc, hc'⟩⟩
      · rw [List.getElem?_set_ne (Ne.symm hj)] at e2
        obtain ⟨u', r', q⟩ := hl j y v' e1 e2 e3
        refine ⟨u', r', ?_⟩
        rcases q with q | ⟨k, c', e, z'⟩
        · exact .inl q
        · refine .inr ⟨k, c', e, z'.sameBut hs ?_⟩
          rintro rfl
          exact hj (nodup_ix hN e1 (I.ok.inj _ _ _ e hc ▸ hi))
    · by_cases hcc : c' = c
      · subst hcc; exact ⟨_, hc'⟩
      · obtain ⟨w2, z2⟩ := I.cell y c' e
        exact ⟨w2, z2.sameBut hs hcc⟩
    · obtain ⟨e, n, ne, nf, d⟩ := I.pin p hp
      refine ⟨(hs.2 p.1 ?_).trans e, n, ne, nf, d⟩
      intro q
      rw [q, hoc] at e
      have q' : oc = p.2 := Option.some.inj e
      exact d w' (by rw [← q']; exact hocd)
theorem store_ok {M : Model} {A : Around} {E : Value → Shared → Prop} {i : Nat} {x : Str} {v : V} {u : Value} {Q : Unit → Shared → Prop} (I : Inv X pins σ H s) (hN : X.N.Nodup) (hi : X.N[i]? = some x) (hx : Loc X.env.scope x) (r : RelV v u)
    (h : ∀ s', Inv X pins (σ.set i (some v)) H s' → Q () s') (hf : X.fn x = true ∨ X.env.scope.names.lookup x = some .local := by first | exact .inl rfl | exact .inr rfl | assumption) : wpAny M A (storeName X.env x u) Q E s :=
  store_ok2 I hN hi hx r (fun s' I' _ => h s' I') hf
theorem Inv.call' {s' : Shared} {ch : List Addr} (I : Inv X pins σ H s) (ho : s'.os = s.os) (u : Un (frs X.stack) ch H H' s.heap s'.heap) (hok : HOk X.prog X.w H' s'.heap) (hg : AllBare s'.gens)
    (hch : ∀ b ∈ ch, (b ∈ X.ex ∨ X.s₀.heap.objs.size ≤ b) ∧ b ≠ X.env.locals ∧ (∀ x c, X.env.cells.lookup x = some c → c ≠ b) ∧ ∀ p ∈ X.pn ++ pins, p.1 ≠ b) : Inv X pins σ H' s' := by
  obtain ⟨h', g', d', t', o'⟩ := s'
  have e : o' = s.os := ho
  subst e
  exact I.call (g' := g') (t' := t') (d' := d') u hok hg hch
end

abbrev XK := Value → Option Addr → Hp → Prop
abbrev St := List (Option V)
abbrev VK := V → Hp → Prop
abbrev TE := St → Hp → VK → Prop
abbrev TT := St → Hp → (Bool → Hp → Prop) → Prop
abbrev TA := St → Hp → (List V → Hp → Prop) → Prop
structure Ends where
  nx : St → Hp → Prop
  rt : VK
  bk : St → Hp → Prop := fun _ _ => False
  ct : St → Hp → Prop := fun _ _ => False
abbrev TS := Ends → St → Hp → Prop

def EP (X : Cx) (pins : List (Addr × Obj)) (σ : St) (Q : VK) (u : Value) (s' : Shared) : Prop := ∃ v H', Inv X pins σ H' s' ∧ RelV v u ∧ Q v H'
def TP (X : Cx) (pins : List (Addr × Obj)) (σ : St) (Q : Bool → Hp → Prop) (b : Bool) (s' : Shared) : Prop := ∃ H', Inv X pins σ H' s' ∧ Q b H'
def AP (X : Cx) (pins : List (Addr × Obj)) (σ : St) (Q : List V → Hp → Prop) (us : List Value) (s' : Shared) : Prop := ∃ vs H', Inv X pins σ H' s' ∧ Vals vs us ∧ Q vs H'
def SP (X : Cx) (pins : List (Addr × Obj)) (D : Ends) (f : Flow) (s' : Shared) : Prop :=
  match f with
  | .next => ∃ σ' H', Inv X pins σ' H' s' ∧ D.nx σ' H'
  | .brk => ∃ σ' H', Inv X pins σ' H' s' ∧ D.bk σ' H'
  | .cont => ∃ σ' H', Inv X pins σ' H' s' ∧ D.ct σ' H'
  | .ret u => ∃ v σ' H', Inv X pins σ' H' s' ∧ RelV v u ∧ D.rt v H'

def PE (X : Cx) (e : Expr) (t : TE) : Prop :=
  ∀ (pins : List (Addr × Obj)) (s : Shared) (σ : St) (H : Hp) (Q : VK), Inv X pins σ H s → t σ H Q → wpAny (model X.prog X.w) X.A (eval e X.env) (EP X pins σ Q) X.xe s
def PT (X : Cx) (e : Expr) (t : TT) : Prop :=
  ∀ (pins : List (Addr × Obj)) (s : Shared) (σ : St) (H : Hp) (Q : Bool → Hp → Prop), Inv X pins σ H s → t σ H Q → wpAny (model X.prog X.w) X.A (isTrue e X.env (eval e X.env)) (TP X pins σ Q) X.xe s
def PW (X : Cx) (e : Expr) (t : TT) : Prop :=
  ∀ (whole : Sem Value) (pins : List (Addr × Obj)) (s : Shared) (σ : St) (H : Hp) (Q : Bool → Hp → Prop), Inv X pins σ H s → t σ H Q → wpAny (model X.prog X.w) X.A (isTrue e X.env whole) (TP X pins σ Q) X.xe s
theorem PW.pt {X : Cx} {e : Expr} {t : TT} (h : PW X e t) : PT X e t := h _
def PA (X : Cx) (es : List Expr) (t : TA) : Prop :=
  ∀ (pos : Pos) (pins : List (Addr × Obj)) (s : Shared) (σ : St) (H : Hp) (Q : List V → Hp → Prop), Inv X pins σ H s → t σ H Q → wpAny (model X.prog X.w) X.A (spliced (backTo pos (starEach es X.env))) (AP X pins σ Q) X.xe s
def PS (X : Cx) (st : Stmt) (t : TS) : Prop :=
  ∀ (pins : List (Addr × Obj)) (s : Shared) (σ : St) (H : Hp) (D : Ends), Inv X pins σ H s → t D σ H → wpAny (model X.prog X.w) X.A (exec st X.env) (SP X pins D) X.xe s
def PSs (X : Cx) (st : List Stmt) (t : TS) : Prop :=
  ∀ (pins : List (Addr × Obj)) (s : Shared) (σ : St) (H : Hp) (D : Ends), Inv X pins σ H s → t D σ H → wpAny (model X.prog X.w) X.A (execs st X.env) (SP X pins D) X.xe s
theorem thn {α : Type} {t : Sem α} {Q Q' : α → Shared → Prop} {M : Model} {A : Around} {E : Value → Shared → Prop} {s : Shared} (h : wpAny M A t Q E s) (hQ : ∀ a s, Q a s → Q' a s) : wpAny M A t Q' E s := wpAny_mono h hQ fun _ _ x => x
end L2

namespace L2
open PySem PySem.Spec PyProof.Rows
section
variable {X : Cx}


def tVar (i : Nat) : TE := fun σ H Q => ∃ v, σ[i]? = some (some v) ∧ Q v H
def tC (v : V) : TE := fun _ H Q => Q v H
theorem pe_var {i : Nat} {x : Str} {pos : Pos} (hN : X.N[i]? = some x) (hv : Vis X.env.scope x) (hd : (x == ("__debug__" : Str)) = false := by decide) (hcd : (x == ("__classdict__" : Str)) = false := by decide) : PE X (.Name x pos) (tVar i) := by
  intro pins s σ H Q I h
  obtain ⟨v, e, h⟩ := h
  obtain ⟨m, hn, hl⟩ := I.loc
  obtain ⟨u, r, l⟩ := hl i x v hN e hv
  have fin : EP X pins σ Q u s := ⟨v, H, I, r, h⟩
  rcases l with ⟨hk, hm⟩ | ⟨hk, c, hc, hcell⟩
  · exact wpAny_Name (wpAny_loadName_local I.ok.kind hk hn hm fin) hd
  · rcases hk with hk | hk
    · exact wpAny_Name (wpAny_loadName_cell I.ok.kind hk hc hcell fin) hd
    · exact wpAny_Name (wpAny_loadName_free I.ok.kind hk hc hcell fin hcd) hd
theorem pe_int {i j pos} : PE X (.Constant (.int i) j pos) (tC (.int i)) := fun _ _ _ H _ I h => wpAny_Constant_int ⟨.int i, H, I.tok _, ⟨_, rfl⟩, h⟩
theorem pe_bl {b j pos} : PE X (.Constant (.bool b) j pos) (tC (.bl b)) := fun _ _ _ H _ I h => Constant_bool ⟨.bl b, H, I, rfl, h⟩
theorem pe_non {j pos} : PE X (.Constant .none j pos) (tC .non) := fun _ _ _ H _ I h => Constant_none ⟨.non, H, I, rfl, h⟩
theorem pe_str {x j pos} : PE X (.Constant (.str x) j pos) (tC (.str x)) := fun _ _ _ H _ I h => Calls.Constant_str ⟨.str x, H, I.tok _, ⟨_, rfl⟩, h⟩

def Gl (X : Cx) (x : Str) : Prop := X.env.kindOf x = some .globalImplicit
theorem ld_glob {E : Value → Shared → Prop} {pins : List (Addr × Obj)} {s : Shared} {σ : St} {H : Hp} {x : Str} {u : Value} {pos : Pos} {Q : Value → Shared → Prop} (I : Inv X pins σ H s) (hg : Gl X x) (hm : X.mg x = some u) (h : Q u s)
    (hd : (x == ("__debug__" : Str)) = false := by decide) : wpAny (model X.prog X.w) X.A (eval (.Name x pos) X.env) Q E s :=
  Calls.Name_function_global I.ok.kind hg (Calls.loadGlobal_global (by rw [I.ok.glob]; exact I.mod.glob.keeps I.bk) hm h) hd
theorem ld_blt {E : Value → Shared → Prop} {pins : List (Addr × Obj)} {s : Shared} {σ : St} {H : Hp} {x : Str} {u : Value} {pos : Pos} {Q : Value → Shared → Prop} (I : Inv X pins σ H s) (hg : Gl X x) (hm : X.mg x = none) (hv : bootBuiltins x = some u) (h : Q u s)
    (hn : x ≠ "__name__" := by decide) (hd : (x == ("__debug__" : Str)) = false := by decide) : wpAny (model X.prog X.w) X.A (eval (.Name x pos) X.env) Q E s := by
  obtain ⟨mb, h1, h2⟩ := I.mod.blt
  exact Calls.Name_function_global I.ok.kind hg (Calls.loadGlobal_builtin (by rw [I.ok.glob]; exact I.mod.glob.keeps I.bk) hm (by rw [I.ok.blt]; exact h1.keeps I.bk) ((h2 x hn).trans hv) h) hd
theorem pe_glob {x : Str} {v : V} {u : Value} {pos : Pos} (hg : Gl X x) (hm : X.mg x = some u) (r : RelV v u) (hd : (x == ("__debug__" : Str)) = false := by decide) : PE X (.Name x pos) (tC v) :=
  fun _ _ _ H _ I h => ld_glob I hg hm ⟨v, H, I, r, h⟩ hd
theorem pe_bltn {x : Str} {v : V} {u : Value} {pos : Pos} (hg : Gl X x) (hm : X.mg x = none) (hv : bootBuiltins x = some u) (r : RelV v u) (hn : x ≠ "__name__" := by decide) (hd : (x == ("__debug__" : Str)) = false := by decide) : PE X (.Name x pos) (tC v) :=
  fun _ _ _ H _ I h => ld_blt I hg hm hv ⟨v, H, I, r, h⟩ hn hd

variable {a b : Expr} {ta tb : TE} {pos : Pos}

def tB (t : TE) : TT := fun σ H Q => t σ H fun x H1 => ∃ c, x = .bl c ∧ Q c H1
theorem pt_val {e : Expr} {t : TE} (h : PE X e t) (he : ∀ whole, isTrue e X.env whole = (do let v ← whole; standAt e.pos; holding [v] (truthy v)) := by intro _; rfl) : PT X e (tB t) := by
  intro pins s σ H Q I hw
  refine isTrue_plain (thn (h pins s σ H _ I hw) fun v s1 ⟨x, H1, I1, r1, q1⟩ => ?_) (he _)
  obtain ⟨d, rfl, q⟩ := q1
  cases r1
  exact wpAny_truthy_bool ⟨H1, I1, q⟩

variable {tA tB' : TT} {rest : List Expr}
def tAnd (t u : TT) : TT := fun σ H Q => t σ H fun c H1 => if c = true then u σ H1 Q else Q false H1
def tOr (t u : TT) : TT := fun σ H Q => t σ H fun c H1 => if c = true then Q true H1 else u σ H1 Q
def tNot (t : TT) : TT := fun σ H Q => t σ H fun c H1 => Q (!c) H1
theorem pw_and1 (ha : PT X a tA) : PW X (.BoolOp .And [a] pos) tA := by
  intro wh pins s σ H Q I h
  refine isTrue_and (thn (ha pins s σ H Q I h) fun c s1 e => ?_)
  cases c with
  | true => exact isTrue_and_nil e
  | false => exact e
theorem pw_or1 (ha : PT X a tA) : PW X (.BoolOp .Or [a] pos) tA := by
  intro wh pins s σ H Q I h
  refine isTrue_or (thn (ha pins s σ H Q I h) fun c s1 e => ?_)
  cases c with
  | false => exact isTrue_or_nil e
  | true => exact e
theorem pw_and (ha : PT X a tA) (hb : PW X (.BoolOp .And (b :: rest) pos) tB') : PW X (.BoolOp .And (a :: b :: rest) pos) (tAnd tA tB') := by
  intro wh pins s σ H Q I h
  refine isTrue_and (thn (ha pins s σ H _ I h) fun c s1 ⟨H1, I1, q1⟩ => ?_)
  cases c with
  | true => exact hb wh pins s1 σ H1 Q I1 q1
  | false => exact ⟨H1, I1, q1⟩
theorem pw_or (ha : PT X a tA) (hb : PW X (.BoolOp .Or (b :: rest) pos) tB') : PW X (.BoolOp .Or (a :: b :: rest) pos) (tOr tA tB') := by
  intro wh pins s σ H Q I h
  refine isTrue_or (thn (ha pins s σ H _ I h) fun c s1 ⟨H1, I1, q1⟩ => ?_)
  cases c with
  | true => exact ⟨H1, I1, q1⟩
  | false => exact hb wh pins s1 σ H1 Q I1 q1
theorem pt_not (ha : PT X a tA) : PT X (.UnaryOp .Not a pos) (tNot tA) := by
  intro pins s σ H Q I h
  exact isTrue_not (ha pins s σ H (fun c H1 => Q (!c) H1) I h)
def tAndV (ta tb : TE) : TE := fun σ H Q => ta σ H fun x H1 => ∃ c, x = .bl c ∧ if c = true then tb σ H1 Q else Q (.bl false) H1
def tNotV (ta : TE) : TE := fun σ H Q => ta σ H fun x H1 => ∃ c, x = .bl c ∧ Q (.bl (!c)) H1
theorem pe_one {op} {t : TE} (h : PE X a t) : PE X (.BoolOp op [a] pos) t := fun pins s σ H Q I hw => BoolOp_one (h pins s σ H Q I hw)
theorem pe_and (ha : PE X a ta) (hb : PE X (.BoolOp .And (b :: rest) pos) tb) : PE X (.BoolOp .And (a :: b :: rest) pos) (tAndV ta tb) := by
  intro pins s σ H Q I h
  refine BoolOp_and (thn (ha pins s σ H _ I h) fun v s1 ⟨x, H1, I1, r1, q1⟩ => ?_)
  obtain ⟨c, rfl, q1⟩ := q1
  cases r1
  refine wpAny_truthy_bool ?_
  cases c with
  | true => exact hb pins s1 σ H1 Q I1 q1
  | false => exact ⟨.bl false, H1, I1, rfl, q1⟩
theorem pe_not (ha : PE X a ta) : PE X (.UnaryOp .Not a pos) (tNotV ta) := by
  intro pins s σ H Q I h
  refine UnaryOp_ (thn (ha pins s σ H _ I h) fun v s1 ⟨x, H1, I1, r1, q1⟩ => ?_)
  obtain ⟨c, rfl, q1⟩ := q1
  cases r1
  exact not_of (wpAny_truthy_bool ⟨.bl (!c), H1, I1, rfl, q1⟩)
def tIf (t : TT) (ta tb : TE) : TE := fun σ H Q => t σ H fun c H1 => if c = true then ta σ H1 Q else tb σ H1 Q
theorem pe_ifExp {c : Expr} (hc : PT X c tA) (ha : PE X a ta) (hb : PE X b tb) : PE X (.IfExp c a b pos) (tIf tA ta tb) := by
  intro pins s σ H Q I h
  refine wpAny_IfExp (thn (hc pins s σ H _ I h) fun d s1 ⟨H1, I1, q1⟩ => ?_)
  cases d with
  | true => exact ha pins s1 σ H1 Q I1 q1
  | false => exact hb pins s1 σ H1 Q I1 q1
end
end L2

namespace L2
open PySem PySem.Spec PyProof.Rows

def SqL (K : PySem.W.Frag) (H : Hp) (a : Addr) (xs : List V) : Prop :=
  Rd H a (.lst xs) ∨
    ∃ (o : Obj) (its : Array Value) (n : Nat), K.lookup a = some o ∧ o.cls = .type "list" ∧ o.dict = none ∧ o.data = .seq its n ∧ its.size ≤ sizeLine ∧ Vals xs its.toList
def SqT (K : PySem.W.Frag) (H : Hp) (a : Addr) (xs : List V) : Prop :=
  Rd H a (.tup xs) ∨
    ∃ (o : Obj) (its : Array Value) (n : Nat), K.lookup a = some o ∧ o.cls = .type "tuple" ∧ o.data = .seq its n ∧ its.size ≤ sizeLine ∧ Vals xs its.toList
def absV : Value → Option V
  | .none => some .non
  | .bool b => some (.bl b)
  | .int i _ => some (.int i)
  | .str x _ => some (.str x)
  | .bytes b _ => some (.byt b)
  | .float b _ => some (.flt b)
  | .ref a => some (.ref a)
  | .type n => some (.ty n)
  | _ => none
theorem RelV.abs {x : V} {u : Value} (r : RelV x u) : absV u = some x := by
  cases x with
  | non => cases r; rfl
  | bl _ => cases r; rfl
  | int _ => obtain ⟨t, rfl⟩ := r; rfl
  | str _ => obtain ⟨t, rfl⟩ := r; rfl
  | byt _ => obtain ⟨t, rfl⟩ := r; rfl
  | flt _ => obtain ⟨t, rfl⟩ := r; rfl
  | ref _ => cases r; rfl
  | ty _ => cases r; rfl
theorem RelV.inj {x y : V} {u : Value} (r : RelV x u) (q : RelV y u) : x = y := Option.some.inj (r.abs.symm.trans q.abs)
theorem Vals.inj : ∀ {xs ys : List V} {us : List Value}, Vals xs us → Vals ys us → xs = ys
  | _, _, _, .nil, .nil => rfl
  | _, _, _, .cons r t, .cons r' t' => by rw [r.inj r', Vals.inj t t']
section
variable {X : Cx} {pins : List (Addr × Obj)} {σ : St} {H : Hp} {s : Shared} {a : Addr} {xs ys : List V}
theorem SqL.of {K : PySem.W.Frag} (h : H a = some (.lst xs)) : SqL K H a xs := .inl (.inl h)
theorem SqT.of {K : PySem.W.Frag} (h : H a = some (.tup xs)) : SqT K H a xs := .inl (.inl h)
theorem Inv.list (I : Inv X pins σ H s) (h : SqL X.K H a xs) : ∃ its : List Value, Vals xs its ∧ PlainL s.heap a its.toArray ∧ xs.length ≤ sizeLine := by
  rcases h with h | ⟨o, its, n, hk, hc, hd, hs, hz, r⟩
  · obtain ⟨z, its, n, r, e⟩ := h.ok I.hok
    exact ⟨its, r, ⟨_, n, e, rfl, rfl, rfl⟩, z⟩
  · refine ⟨its.toList, r, ⟨o, n, I.kIn a o hk, hc, hd, by simpa using hs⟩, ?_⟩
    have e := r.length
    simp only [Array.length_toList] at e
    omega
theorem Inv.tuple (I : Inv X pins σ H s) (h : SqT X.K H a xs) : ∃ its : List Value, Vals xs its ∧ IsTup s.heap a its.toArray ∧ xs.length ≤ sizeLine := by
  rcases h with h | ⟨o, its, n, hk, hc, hs, hz, r⟩
  · obtain ⟨z, its, r, p⟩ := h.ok I.hok
    exact ⟨its, r, p, z⟩
  · refine ⟨its.toList, r, ⟨o, I.kIn a o hk, hc, n, by simpa using hs⟩, ?_⟩
    have e := r.length
    simp only [Array.length_toList] at e
    omega
theorem Inv.list_inj (I : Inv X pins σ H s) (h : SqL X.K H a xs) (h' : SqL X.K H a ys) : xs = ys := by
  obtain ⟨its, r, ⟨o, n, e, _, _, d⟩, _⟩ := I.list h
  obtain ⟨its', r', ⟨o', n', e', _, _, d'⟩, _⟩ := I.list h'
  rw [e] at e'; cases e'
  rw [d] at d'
  injection d' with d1 _
  have : its = its' := by simpa using congrArg Array.toList d1
  subst this
  exact r.inj r'
theorem Inv.tuple_inj (I : Inv X pins σ H s) (h : SqT X.K H a xs) (h' : SqT X.K H a ys) : xs = ys := by
  obtain ⟨its, r, ⟨o, e, _, n, d⟩, _⟩ := I.tuple h
  obtain ⟨its', r', ⟨o', e', _, n', d'⟩, _⟩ := I.tuple h'
  rw [e] at e'; cases e'
  rw [d] at d'
  injection d' with d1 _
  have : its = its' := by simpa using congrArg Array.toList d1
  subst this
  exact r.inj r'
end

abbrev Cx.wish (X : Cx) (E : Value → Shared → Prop) : Cx := { X with xe := E }
abbrev Cx.nox (X : Cx) : Cx := X.wish fun _ _ => False
theorem Cx.Ok.wish {X : Cx} (ok : X.Ok) (E : Value → Shared → Prop) : (X.wish E).Ok :=
  ⟨ok.mod, ok.kind, ok.glob, ok.blt, ok.above, ok.inj, ok.has, ok.cab, ok.hd, ok.frames, ok.stk, ok.exf, ok.bs, ok.bsz, ok.noex, ok.exfs, ok.funs, ok.frf⟩
theorem Cx.Ok.unwish {X : Cx} {E : Value → Shared → Prop} (ok : (X.wish E).Ok) : X.Ok :=
  ⟨ok.mod, ok.kind, ok.glob, ok.blt, ok.above, ok.inj, ok.has, ok.cab, ok.hd, ok.frames, ok.stk, ok.exf, ok.bs, ok.bsz, ok.noex, ok.exfs, ok.funs, ok.frf⟩
section
variable {X : Cx} {pins : List (Addr × Obj)} {σ : St} {H : Hp} {s : Shared} {E : Value → Shared → Prop}
theorem Inv.wish (I : Inv X pins σ H s) (E : Value → Shared → Prop) : Inv (X.wish E) pins σ H s := ⟨I.ok.wish E, I.os, I.bare, I.base, I.loc, I.cell, I.free, I.freeC, I.pin, I.hok, I.len⟩
theorem Inv.unwish (I : Inv (X.wish E) pins σ H s) : Inv X pins σ H s := ⟨I.ok.unwish, I.os, I.bare, I.base, I.loc, I.cell, I.free, I.freeC, I.pin, I.hok, I.len⟩
theorem SP.unwish {D : Ends} {f : Flow} {s' : Shared} (h : SP (X.wish E) pins D f s') : SP X pins D f s' := by
  cases f with
  | next => obtain ⟨σ', H', I, q⟩ := h; exact ⟨σ', H', I.unwish, q⟩
  | brk => obtain ⟨σ', H', I, q⟩ := h; exact ⟨σ', H', I.unwish, q⟩
  | cont => obtain ⟨σ', H', I, q⟩ := h; exact ⟨σ', H', I.unwish, q⟩
  | ret u => obtain ⟨v, σ', H', I, r, q⟩ := h; exact ⟨v, σ', H', I.unwish, r, q⟩
theorem PE.nox {e : Expr} {t : TE} (h : PE X.nox e t) : PE X e t := fun pins s σ H Q I hw =>
  wpAny_mono (h pins s σ H Q (I.wish _) hw) (fun _ _ ⟨v, H', I', r, q⟩ => ⟨v, H', I'.unwish, r, q⟩) fun _ _ z => False.elim z
theorem PT.nox {e : Expr} {t : TT} (h : PT X.nox e t) : PT X e t := fun pins s σ H Q I hw =>
  wpAny_mono (h pins s σ H Q (I.wish _) hw) (fun _ _ ⟨H', I', q⟩ => ⟨H', I'.unwish, q⟩) fun _ _ z => False.elim z
theorem PSs.nox {st : List Stmt} {t : TS} (h : PSs X.nox st t) : PSs X st t := fun pins s σ H D I hw =>
  wpAny_mono (h pins s σ H D (I.wish _) hw) (fun _ _ q => q.unwish) fun _ _ z => False.elim z
end

section
variable {X : Cx} {st : Stmt} {rest : List Stmt} {t u : TS} {e : Expr} {te : TE} {pos : Pos}
def tNext : TS := fun D σ H => D.nx σ H
def tSeq (t u : TS) : TS := fun D σ H => t { D with nx := u D } σ H
theorem pss_nil : PSs X [] tNext := fun _ _ σ H _ I h => wpAny_execs_nil ⟨σ, H, I, h⟩
theorem pss_cons (h1 : PS X st t) (h2 : PSs X rest u) : PSs X (st :: rest) (tSeq t u) := by
  intro pins s σ H D I h
  refine wpAny_execs_cons (thn (h1 pins s σ H { D with nx := u D } I h) fun f s1 q => ?_)
  cases f with
  | next =>
    obtain ⟨σ', H', I', q⟩ := q
    exact h2 pins s1 σ' H' D I' q
  | ret v => exact q
  | brk => exact q
  | cont => exact q
theorem pss_one (h1 : PS X st t) : PSs X [st] t := by
  intro pins s σ H D I h
  refine wpAny_execs_cons (thn (h1 pins s σ H D I h) fun f s1 q => ?_)
  cases f with
  | next => exact wpAny_execs_nil q
  | ret v => exact q
  | brk => exact q
  | cont => exact q
theorem Inv.quiet {pins : List (Addr × Obj)} {σ : St} {H : Hp} {s : Shared} (I : Inv X pins σ H s) : interactive X.env = false := by simp [interactive, I.ok.kind]
def tDrop (te : TE) : TS := fun D σ H => te σ H fun _ H1 => D.nx σ H1
theorem ps_expr (he : PE X e te) (hs : swapsWith e none pos.line X.env = pure false := by rfl) : PS X (.Expr e pos) (tDrop te) := by
  intro pins s σ H D I h
  exact wpAny_Expr_any (thn (he pins s σ H _ I h) fun v s1 ⟨x, H1, I1, r1, q1⟩ => ⟨σ, H1, I1, q1⟩) I.quiet hs
def tRet (te : TE) : TS := fun D σ H => te σ H D.rt
theorem ps_ret (he : PE X e te) : PS X (.Return (some e) pos) (tRet te) := by
  intro pins s σ H D I h
  exact wpAny_Return_some (thn (he pins s σ H _ I h) fun v s1 ⟨x, H1, I1, r1, q1⟩ => ⟨x, σ, H1, I1, r1, q1⟩)
def tIfS (c : TT) (t u : TS) : TS := fun D σ H => c σ H fun b H1 => if b = true then t D σ H1 else u D σ H1
theorem ps_if {c : Expr} {a b : List Stmt} {tc : TT} (hc : PT X c tc) (ha : PSs X a t) (hb : PSs X b u) : PS X (.If c a b pos) (tIfS tc t u) := by
  intro pins s σ H D I h
  refine wpAny_If (thn (hc pins s σ H _ I h) fun d s1 ⟨H1, I1, q1⟩ => ?_)
  cases d with
  | true => exact ha pins s1 σ H1 D I1 q1
  | false => exact hb pins s1 σ H1 D I1 q1
def tNever : TS := fun _ _ _ => False
theorem ps_never : PS X st tNever := fun _ _ _ _ _ _ h => h.elim
end

abbrev TG := V → St → Hp → (St → Hp → Prop) → Prop
abbrev TGs := List V → St → Hp → (St → Hp → Prop) → Prop
def PG (X : Cx) (target : Expr) (t : TG) : Prop :=
  ∀ (pins : List (Addr × Obj)) (s : Shared) (σ : St) (H : Hp) (v : V) (u : Value) (Q : St → Hp → Prop), Inv X pins σ H s → RelV v u → t v σ H Q →
    wpAny (model X.prog X.w) X.A (assign target X.env u) (fun _ s' => ∃ σ' H', Inv X pins σ' H' s' ∧ Q σ' H') X.xe s
def PGs (X : Cx) (ts : List Expr) (t : TGs) : Prop :=
  ∀ (pins : List (Addr × Obj)) (s : Shared) (σ : St) (H : Hp) (vs : List V) (us : List Value) (Q : St → Hp → Prop), Inv X pins σ H s → Vals vs us → t vs σ H Q →
    wpAny (model X.prog X.w) X.A (assignInOrder ((assignEach ts X.env).map (·.2)) us) (fun _ s' => ∃ σ' H', Inv X pins σ' H' s' ∧ Q σ' H') X.xe s
abbrev TSet := V → V → V → Hp → (Hp → Prop) → Prop
def PSet (X : Cx) (t : TSet) : Prop :=
  ∀ (pins : List (Addr × Obj)) (s : Shared) (σ : St) (H : Hp) (o i v : V) (ov iv u : Value) (Q : Hp → Prop), Inv X pins σ H s → RelV o ov → RelV i iv → RelV v u → t o i v H Q →
    wpAny (model X.prog X.w) X.A (setItem ov iv u) (fun _ s' => ∃ H', Inv X pins σ H' s' ∧ Q H') X.xe s
section
variable {X : Cx} {pos : Pos}
def gName (i : Nat) : TG := fun v σ H Q => Q (σ.set i (some v)) H
theorem pg_name {i : Nat} {x : Str} (hN : X.N.Nodup) (hi : X.N[i]? = some x) (hx : Loc X.env.scope x) (hf : X.fn x = true ∨ X.env.scope.names.lookup x = some .local := by first | exact .inl rfl | exact .inr rfl | assumption) : PG X (.Name x pos) (gName i) := by
  intro pins s σ H v u Q I r h
  exact wpAny_assign_Name (store_ok I hN hi hx r (fun s' I' => ⟨_, H, I', h⟩) hf)
def gNil : TGs := fun vs σ H Q => vs = [] ∧ Q σ H
def gCons (t : TG) (u : TGs) : TGs := fun vs σ H Q => ∃ v r, vs = v :: r ∧ t v σ H fun σ' H' => u r σ' H' Q
theorem pgs_nil : PGs X [] gNil := by
  intro pins s σ H vs us Q I r h
  obtain ⟨e, h⟩ := h
  subst e
  cases r
  exact assignInOrder_nil ⟨σ, H, I, h⟩
theorem pgs_cons {e : Expr} {es : List Expr} {t : TG} {u : TGs} (h1 : PG X e t) (h2 : PGs X es u)
    (hs : (assignEach (e :: es) X.env).map (·.2) = assign e X.env :: (assignEach es X.env).map (·.2) := by rfl) : PGs X (e :: es) (gCons t u) := by
  intro pins s σ H vs us Q I r h
  obtain ⟨v, vr, e1, h⟩ := h
  subst e1
  cases r with
  | cons r rr =>
    rw [hs]
    refine assignInOrder_cons (thn (h1 pins s σ H _ _ _ I r h) fun _ s1 ⟨σ1, H1, I1, q1⟩ => ?_)
    exact h2 pins s1 σ1 H1 _ _ Q I1 rr q1
def gTup (K : PySem.W.Frag) (n : Nat) (t : TGs) : TG := fun v σ H Q => ∃ a xs, v = .ref a ∧ SqT K H a xs ∧ xs.length = n ∧ t xs σ H Q
theorem pg_tup {es : List Expr} {k : Nat} {t : TGs} {n : Nat} (hc : X.calm = true) (h : PGs X es t)
    (hn : (assignEach es X.env).length = n := by rfl) (hst : (assignEach es X.env).findIdx? (·.1) = none := by rfl) : PG X (.Tuple es k pos) (gTup X.K n t) := by
  intro pins s σ H v u Q I r hw
  obtain ⟨a, xs, e1, hq, hl, hw⟩ := hw
  subst e1
  cases r
  obtain ⟨its, rv, ht, hz⟩ := I.tuple hq
  refine assign_Tuple_tuple (I.ok.hd hc) ht (by simp [hn, ← hl, rv.length]) hst fun h' hx => ?_
  have I1 : Inv X pins σ H { s with heap := h' } := I.kept (t' := s.toks) fun b o e => hx b o (Nat.ne_of_lt (Heap.lt_size e)) e
  exact h pins _ σ H xs _ Q I1 (by simpa using rv) hw
def gSub (to ti : TE) (t : TSet) : TG := fun v σ H Q => to σ H fun o H1 => ti σ H1 fun i H2 => t o i v H2 fun H3 => Q σ H3
theorem pg_sub {o i : Expr} {to ti : TE} {t : TSet} (ho : PE X o to) (hi : PE X i ti) (hs : PSet X t)
    (ha : ∀ v, assign (.Subscript o i pos) X.env v = (do
      let ov ← holding [v] (eval o X.env)
      let iv ← holding [v, ov] (eval i X.env)
      standAt pos
      holding [v, ov, iv] (setItem ov iv v)
      release [v, ov, iv] []) := by intro _; rfl) : PG X (.Subscript o i pos) (gSub to ti t) := by
  intro pins s σ H v u Q I r h
  rw [ha]
  refine wpAny_bind (wpAny_holding (thn (ho pins s σ H _ I h) fun ov s1 ⟨x, H1, I1, r1, q1⟩ => ?_))
  refine wpAny_bind (wpAny_holding (thn (hi pins s1 σ H1 _ I1 q1) fun iv s2 ⟨y, H2, I2, r2, q2⟩ => ?_))
  refine wpAny_bind (wpAny_standAt (wpAny_bind (wpAny_holding (thn (hs pins s2 σ H2 x y v ov iv u _ I2 r1 r2 r q2) fun _ s3 ⟨H3, I3, q3⟩ => ?_))))
  exact wpAny_release ⟨σ, H3, I3, q3⟩
def tAsg (te : TE) (g : TG) : TS := fun D σ H => te σ H fun x H1 => g x σ H1 D.nx
theorem ps_asg {tg e : Expr} {te : TE} {g : TG} (he : PE X e te) (hg : PG X tg g) (hs : swapsWithSole [tg] e pos.line X.env = pure false := by rfl) (hw : swappedStores [tg] e X.env = pure none := by rfl)
    (h1 : (assignEach [tg] X.env).map (·.2) = [assign tg X.env] := by rfl) : PS X (.Assign [tg] e pos) (tAsg te g) := by
  intro pins s σ H D I h
  refine wpAny_Assign_stores (thn (he pins s σ H _ I h) fun v s1 ⟨x, H1, I1, r1, q1⟩ => ?_) hs hw
  rw [h1]
  exact thn (hg pins s1 σ H1 x v _ I1 r1 q1) fun _ s2 q => q
theorem ps_set {i : Nat} {x : Str} {e : Expr} {te : TE} {pos' : Pos} (hN : X.N.Nodup) (hi : X.N[i]? = some x) (hx : Loc X.env.scope x) (he : PE X e te) (hs : swapsWith e (some (.Name x pos')) pos.line X.env = pure false := by rfl) (hf : X.fn x = true ∨ X.env.scope.names.lookup x = some .local := by first | exact .inl rfl | exact .inr rfl | assumption) :
    PS X (.Assign [.Name x pos'] e pos) (tAsg te (gName i)) := by
  intro pins s σ H D I h
  refine wpAny_Assign_Name (thn (he pins s σ H _ I h) fun v s1 ⟨y, H1, I1, r1, q1⟩ => ?_) hs
  exact store_ok I1 hN hi hx r1 (fun s2 I2 => ⟨_, H1, I2, q1⟩) hf
def tPar (i j : Nat) (ta : TA) : TS := fun D σ H => ta σ H fun vs H1 => ∃ v w, vs = [v, w] ∧ D.nx ((σ.set i (some v)).set j (some w)) H1
theorem ps_par {i j : Nat} {x y : Str} {a b : Expr} {ta : TA} {px py pt : Pos} {kt k2 pt2} (hc : X.calm = true) (hN : X.N.Nodup) (hi : X.N[i]? = some x) (hj : X.N[j]? = some y) (hij : i ≠ j)
    (hx : X.env.scope.names.lookup x = some .local) (hy : X.env.scope.names.lookup y = some .local) (ha : PA X [a, b] ta)
    (hw : swappedStores [.Tuple [.Name x px, .Name y py] kt pt] (.Tuple [a, b] k2 pt2) X.env = pure (some [x, y]))
    (hs : swapsWithSole [.Tuple [.Name x px, .Name y py] kt pt] (.Tuple [a, b] k2 pt2) pos.line X.env = pure false := by rfl) :
    PS X (.Assign [.Tuple [.Name x px, .Name y py] kt pt] (.Tuple [a, b] k2 pt2) pos) (tPar i j ta) := by
  intro pins s σ H D I h
  rw [exec_Assign_arm]
  refine wpAny_bind (wpAny_standAt ?_)
  rw [hs]
  refine wpAny_bind (wpAny_pure ?_)
  rw [if_neg (by decide)]
  refine wpAny_bind (Tuple_ (thn (ha _ pins s σ H _ I h) fun us s1 ⟨vs, H1, I1, r1, q1⟩ => ?_))
  obtain ⟨v, w, e1, q1⟩ := q1
  subst e1
  obtain ⟨u1, u2, rfl, rv, rw'⟩ : ∃ u1 u2, us = [u1, u2] ∧ RelV v u1 ∧ RelV w u2 := by
    cases r1 with
    | cons p q =>
      cases q with
      | cons p' q' =>
        cases q'
        exact ⟨_, _, rfl, p, p'⟩
  refine wpAny_newObj_type ?_ (by show 2 ≤ sizeLine; decide)
  have I2 : Inv X pins σ H1 { s1 with heap := s1.heap.push { cls := .type "tuple", data := .seq [u1, u2].toArray } } := I1.kept (t' := s1.toks) fun b o e => Heap.get?_push_of_some _ e
  rw [hw]
  refine wpAny_bind (wpAny_pure ?_)
  show wpAny (model X.prog X.w) X.A (do rule "assign.swapped-stores"; let items ← unpackItems (.ref s1.heap.objs.size) 2 none; assignInOrder [fun v => bindName X.env y v, fun v => bindName X.env x v] items.reverse; pure Flow.next) _ _ _
  refine wpAny_bind (wpAny_rule (wpAny_bind (unpackItems_tuple (items := #[u1, u2]) (I.ok.hd hc) (IsTup.new s1.heap _) fun h' hx' => ?_)))
  have I3 := I2.kept (h' := h') (t' := s1.toks) fun b o e => hx' b o (Nat.ne_of_lt (Heap.lt_size e)) e
  show wpAny _ _ (assignInOrder [fun v => bindName X.env y v, fun v => bindName X.env x v] [u2, u1] >>= fun _ => pure Flow.next) _ _ _
  refine wpAny_bind (assignInOrder_cons (wpAny_bindName (store_ok I3 hN hj (.inl hy) rw' (fun s2 I4 => ?_) (.inr hy))))
  refine assignInOrder_cons (wpAny_bindName (store_ok I4 hN hi (.inl hx) rv (fun s3 I5 => assignInOrder_nil (wpAny_pure ?_)) (.inr hx)))
  rw [List.set_comm _ _ (Ne.symm hij)] at I5
  exact ⟨_, H1, I5, q1⟩
end

section
variable {X : Cx} {pos : Pos}
def tWhile (c : TT) (tb : TS) : TS := fun D σ H => ∃ W : Nat → St → Hp → Prop, (∃ m, W m σ H) ∧ ∀ m σ H, W m σ H →
  c σ H fun b H1 => if b = true then ∃ N : St → Hp → Prop, (∀ σ' H', N σ' H' → ∃ m', m' < m ∧ W m' σ' H') ∧ tb { D with nx := N, ct := N, bk := D.nx } σ H1 else D.nx σ H1
theorem ps_while {c : Expr} {body : List Stmt} {tc : TT} {tb : TS} (hp : PassesOwn (model X.prog X.w) X.A X.env X.xe) (hc : PT X c tc) (hb : PSs X body tb) : PS X (.While c body [] pos) (tWhile tc tb) := by
  intro pins s σ H D I h
  obtain ⟨W, ⟨m0, w0⟩, turn⟩ := h
  refine wpAny_While (codeAny_whileLoop (fun n s' => ∃ σ' H', Inv X pins σ' H' s' ∧ W n σ' H') ?_ m0 ⟨σ, H, I, w0⟩)
  rintro n s1 ⟨σ1, H1, I1, w1⟩
  refine wpAny_passesOwn hp (thn (hc pins s1 σ1 H1 _ I1 (turn n σ1 H1 w1)) fun b s2 ⟨H2, I2, q2⟩ => ?_)
  cases b with
  | true =>
    obtain ⟨N, hN, q2⟩ := q2
    rw [if_pos rfl]
    refine wpAny_passesOwn hp (thn (hb pins s2 σ1 H2 _ I2 q2) fun f s3 q3 => ?_)
    cases f with
    | next =>
      obtain ⟨σ3, H3, I3, n3⟩ := q3
      obtain ⟨m', hm, w3⟩ := hN σ3 H3 n3
      exact ⟨m', hm, σ3, H3, I3, w3⟩
    | cont =>
      obtain ⟨σ3, H3, I3, n3⟩ := q3
      obtain ⟨m', hm, w3⟩ := hN σ3 H3 n3
      exact ⟨m', hm, σ3, H3, I3, w3⟩
    | brk => exact q3
    | ret v => exact q3
  | false =>
    rw [if_neg Bool.false_ne_true]
    exact wpAny_execs_nil ⟨σ1, H2, I2, q2⟩
end

structure It where
  go : Nat → Hp → Prop
  yld : Nat → Hp → V → Hp → Prop
  stop : Nat → Hp → Prop
def FpOk (X : Cx) (pins : List (Addr × Obj)) (H : Hp) (b : Addr) : Prop :=
  H b = none ∧ b ≠ X.env.locals ∧ b ∉ X.fs ∧ (b ∈ X.ex ∨ X.s₀.heap.objs.size ≤ b) ∧ (∀ x c, X.env.cells.lookup x = some c → c ≠ b) ∧ ∀ p ∈ X.pn ++ pins, p.1 ≠ b
theorem Inv.fpOk {X : Cx} {pins : List (Addr × Obj)} {σ : St} {H H' : Hp} {s : Shared} {b : Addr} (I : Inv X pins σ H s) (hb : s.heap.objs.size ≤ b) (hn : H' b = none) : FpOk X pins H' b := by
  refine ⟨hn, Nat.ne_of_gt (Nat.lt_of_lt_of_le I.lt hb), I.nofs hb, .inr (Nat.le_trans I.sz hb), fun x c e z => ?_, fun p hp z => ?_⟩
  · obtain ⟨v, q⟩ := I.cell x c e
    exact absurd (Nat.lt_of_lt_of_le q.lt (by rw [z]; exact hb)) (Nat.lt_irrefl _)
  · exact absurd (Nat.lt_of_lt_of_le (Heap.lt_size (I.pin p hp).1) (by rw [z]; exact hb)) (Nat.lt_irrefl _)
structure Turn (P : Program) (w : World) (K : PySem.W.Frag) (tg : Expr) (J : It) (fp : List Addr) (it : Addr) (tn : Nat → Heap → Prop) : Prop where
  mem : it ∈ fp
  obj : ∀ i h, tn i h → ∀ b ∈ fp, ∃ o, h.get? b = some o ∧ ∀ v, o.data ≠ .cell v
  keep : ∀ i h h', tn i h → (∀ b ∈ fp, ∀ o, h.get? b = some o → h'.get? b = some o) → tn i h'
  item : ∀ (X : Cx), X.prog = P → X.w = w → X.K = K → X.calm = true → ∀ (i : Nat) (pins : List (Addr × Obj)) (s : Shared) (σ : St) (H : Hp) (E : Value → Shared → Prop), Inv X pins σ H s → (∀ b ∈ fp, FpOk X pins H b) → tn i s.heap → J.go i H →
    wpAny (model P w) X.A (pyNext (.ref it)) (fun r s1 => ∃ u, r = some u ∧
      wpAny (model P w) X.A (letOwnedTupleGo tg (.ref it) u) (fun _ s2 => ∃ x H', Inv X pins σ H' s2 ∧ RelV x u ∧ J.yld i H x H' ∧ tn (i + 1) s2.heap ∧ ∀ b ∈ fp, H' b = none) E s1) E s
  done : ∀ (X : Cx), X.prog = P → X.w = w → X.K = K → X.calm = true → ∀ (i : Nat) (pins : List (Addr × Obj)) (s : Shared) (σ : St) (H : Hp) (E : Value → Shared → Prop), Inv X pins σ H s → (∀ b ∈ fp, FpOk X pins H b) → tn i s.heap → J.stop i H →
    wpAny (model P w) X.A (pyNext (.ref it)) (fun r s1 => r = none ∧ Inv X pins σ H s1) E s
  self : ∀ (A : Around) (i : Nat) (s : Shared) (Q : Value → Shared → Prop) (E : Value → Shared → Prop), tn i s.heap → Q (.ref it) s → wpAny (model P w) A (pyIter (.ref it)) Q E s
abbrev TI := St → Hp → (It → Hp → Prop) → Prop
def PIE (X : Cx) (pins : List (Addr × Obj)) (σ : St) (tg : Expr) (R : It → Hp → Prop) (itv : Value) (s2 : Shared) : Prop :=
  ∃ (it : Addr) (fp : List Addr) (tn : Nat → Heap → Prop) (J : It) (H' : Hp), itv = .ref it ∧ Inv X pins σ H' s2 ∧ Turn X.prog X.w X.K tg J fp it tn ∧ tn 0 s2.heap ∧ (∀ b ∈ fp, FpOk X pins H' b) ∧ R J H'
def PI (X : Cx) (tg iter : Expr) (wi : TI) : Prop :=
  ∀ (pins : List (Addr × Obj)) (s : Shared) (σ : St) (H : Hp) (R : It → Hp → Prop), Inv X pins σ H s → wi σ H R →
    wpAny (model X.prog X.w) X.A (eval iter X.env) (fun v s1 => wpAny (model X.prog X.w) X.A (pyIter v) (PIE X pins σ tg R) X.xe s1) X.xe s

theorem go_of {M : Model} {A : Around} {E : Value → Shared → Prop} {s : Shared} {tg : Expr} {it : Addr} {u : Value} {o : Obj} {n : String} {vs : Array Value} {Q : Unit → Shared → Prop} (ho : s.heap.get? it = some o) (hc : o.cls = .type n) (hd : o.data = .fields vs)
    (hn : ["enumerate", "zip", "dict_itemiterator", "dict_reverseitemiterator", "odict_iterator", "itertools.zip_longest", "itertools.pairwise"].contains n = false) (hQ : Q () s) : wpAny M A (letOwnedTupleGo tg (.ref it) u) Q E s := by
  unfold letOwnedTupleGo
  cases tg <;> first
    | exact wpAny_pure hQ
    | (cases u <;> first
        | exact wpAny_pure hQ
        | (refine wpAny_bind (wpAny_load ho ?_)
           rw [hc, hd]
           show wpAny M A (if (["enumerate", "zip", "dict_itemiterator", "dict_reverseitemiterator", "odict_iterator", "itertools.zip_longest", "itertools.pairwise"].contains n && vs[0]? == some (rawInt _)) = true then _ else _) Q E s
           rw [if_neg (by intro h; rw [hn, Bool.false_and] at h; cases h)]
           exact wpAny_pure hQ))

def Itl (K : PySem.W.Frag) (a : Addr) : It :=
  ⟨fun i H => ∃ xs x, SqL K H a xs ∧ xs[i]? = some x, fun i H x H' => H' = H ∧ ∀ xs, SqL K H a xs → xs[i]? = some x, fun i H => ∃ xs, SqL K H a xs ∧ xs.length ≤ i⟩
def Itt (K : PySem.W.Frag) (a : Addr) : It :=
  ⟨fun i H => ∃ xs x, SqT K H a xs ∧ xs[i]? = some x, fun i H x H' => H' = H ∧ ∀ xs, SqT K H a xs → xs[i]? = some x, fun i H => ∃ xs, SqT K H a xs ∧ xs.length ≤ i⟩
def Itr (lo : Int) (n : Nat) : It := ⟨fun i _ => i < n, fun i H x H' => H' = H ∧ x = .int (lo + i), fun i _ => n ≤ i⟩
theorem turn_list {P : Program} {w : World} {K : PySem.W.Frag} {tg : Expr} (a it : Addr) : Turn P w K tg (Itl K a) [it] it (fun i h => h.IsListIter it a i) where
  mem := by simp
  obj := fun i h st b hb => by
    have e : b = it := by simpa using hb
    subst e
    obtain ⟨o, e, c, d⟩ := st
    exact ⟨o, e, fun v z => by rw [d] at z; cases z⟩
  keep := fun i h h' st k => st.at fun o e => k it (by simp) o e
  item := by
    intro X hP hw hK hc i pins s σ H E I hf st hg
    subst hP hw hK
    obtain ⟨xs, x, hq, hx⟩ := hg
    obtain ⟨its, rv, p, hz⟩ := I.list hq
    obtain ⟨u, hu, ru⟩ := rv.get hx
    obtain ⟨f0, f1, f2, f3, f4, f5⟩ := hf it (by simp)
    refine wpAny_pyNext_list_item st p.isList (x := u) (by simpa using hu) fun h' st' sb => ?_
    have I1 : Inv X pins σ H { s with heap := h' } := I.turned (t' := s.toks) (fun b o hb e => (sb.2 b hb).trans e) f0 f1 f3 f4 f5
    obtain ⟨o, e, c, d⟩ := id st'
    exact ⟨u, rfl, go_of (s := { s with heap := h' }) e c d (by decide) ⟨x, H, I1, ru, ⟨rfl, fun ys hy => by rw [I.list_inj hy hq]; exact hx⟩, st', fun b hb => (hf b hb).1⟩⟩
  done := by
    intro X hP hw hK hc i pins s σ H E I hf st hg
    subst hP hw hK
    obtain ⟨xs, hq, hx⟩ := hg
    obtain ⟨its, rv, p, hz⟩ := I.list hq
    obtain ⟨f0, f1, f2, f3, f4, f5⟩ := hf it (by simp)
    have hl := rv.length
    exact wpAny_pyNext_list_end (I.ok.hd hc) st p.isList (by simp; omega) fun h' eb => ⟨rfl, I.turned (t' := s.toks) (fun b o hb e => eb b o hb e) f0 f1 f3 f4 f5⟩
  self := fun _ _ _ _ _ st h => wpAny_pyIter_listiter st h
theorem turn_tuple {P : Program} {w : World} {K : PySem.W.Frag} {tg : Expr} (a it : Addr) : Turn P w K tg (Itt K a) [it] it (fun i h => h.IsTupleIter it a i) where
  mem := by simp
  obj := fun i h st b hb => by
    have e : b = it := by simpa using hb
    subst e
    obtain ⟨o, e, c, d⟩ := st
    exact ⟨o, e, fun v z => by rw [d] at z; cases z⟩
  keep := fun i h h' st k => st.at fun o e => k it (by simp) o e
  item := by
    intro X hP hw hK hc i pins s σ H E I hf st hg
    subst hP hw hK
    obtain ⟨xs, x, hq, hx⟩ := hg
    obtain ⟨its, rv, p, hz⟩ := I.tuple hq
    obtain ⟨u, hu, ru⟩ := rv.get hx
    obtain ⟨f0, f1, f2, f3, f4, f5⟩ := hf it (by simp)
    refine wpAny_pyNext_tuple_item st (show s.heap.IsTuple a its.toArray from p) (x := u) (by simpa using hu) fun h' st' sb => ?_
    have I1 : Inv X pins σ H { s with heap := h' } := I.turned (t' := s.toks) (fun b o hb e => (sb.2 b hb).trans e) f0 f1 f3 f4 f5
    obtain ⟨o, e, c, d⟩ := id st'
    exact ⟨u, rfl, go_of (s := { s with heap := h' }) e c d (by decide) ⟨x, H, I1, ru, ⟨rfl, fun ys hy => by rw [I.tuple_inj hy hq]; exact hx⟩, st', fun b hb => (hf b hb).1⟩⟩
  done := by
    intro X hP hw hK hc i pins s σ H E I hf st hg
    subst hP hw hK
    obtain ⟨xs, hq, hx⟩ := hg
    obtain ⟨its, rv, p, hz⟩ := I.tuple hq
    obtain ⟨f0, f1, f2, f3, f4, f5⟩ := hf it (by simp)
    have hl := rv.length
    exact wpAny_pyNext_tuple_end (I.ok.hd hc) st (show s.heap.IsTuple a its.toArray from p) (by simp; omega) fun h' eb => ⟨rfl, I.turned (t' := s.toks) (fun b o hb e => eb b o hb e) f0 f1 f3 f4 f5⟩
  self := fun _ _ _ _ _ st h => wpAny_pyIter_tupleiter st h
theorem turn_range {P : Program} {w : World} {K : PySem.W.Frag} {tg : Expr} (it : Addr) (lo : Int) (n : Nat) : Turn P w K tg (Itr lo n) [it] it (fun i h => IsRangeIter h it (lo + (i : Nat) * 1) ((n : Int) - (i : Nat)) 1) where
  mem := by simp
  obj := fun i h st b hb => by
    have e : b = it := by simpa using hb
    subst e
    exact ⟨_, st, fun v z => by
      have z' : Data.fields _ = Data.cell v := z
      cases z'⟩
  keep := fun i h h' st k => k it (by simp) _ st
  item := by
    intro X hP hw hK hc i pins s σ H E I hf st hg
    subst hP hw hK
    obtain ⟨f0, f1, f2, f3, f4, f5⟩ := hf it (by simp)
    have W := Walks.range (prog := X.prog) (w := X.w) (I.ok.hd hc) it lo 1 n
    refine W.item i s _ _ hg st fun v h' tk hv st' kk => ?_
    obtain ⟨t, rfl⟩ := hv
    have I1 : Inv X pins σ H { s with heap := h', toks := tk } := I.turned (fun b o hb e => kk b o (by simpa using hb) e) f0 f1 f3 f4 f5
    refine ⟨_, rfl, go_of (s := { s with heap := h', toks := tk }) (n := "range_iterator") st' rfl rfl (by decide) ⟨.int (lo + i), H, I1, ⟨t, ?_⟩, ⟨rfl, rfl⟩, st', fun b hb => (hf b hb).1⟩⟩
    rw [Int.mul_one]
  done := by
    intro X hP hw hK hc i pins s σ H E I hf st hg
    subst hP hw hK
    obtain ⟨f0, f1, f2, f3, f4, f5⟩ := hf it (by simp)
    exact wpAny_pyNext_range_end (I.ok.hd hc) st (by have : n ≤ i := hg; omega) fun h' eb => ⟨rfl, I.turned (t' := s.toks) (fun b o hb e => eb b o hb e) f0 f1 f3 f4 f5⟩
  self := fun _ _ _ _ _ st h => wpAny_pyIter_rangeiter st h
end L2

namespace L2
open PySem PySem.Spec PyProof.Rows
section
variable {X : Cx} {tg : Expr}
def iList (K : PySem.W.Frag) (tl : TE) : TI := fun σ H R => tl σ H fun x H1 => ∃ a, x = .ref a ∧ (∃ xs, SqL K H1 a xs) ∧ R (Itl K a) H1
def iTup (K : PySem.W.Frag) (tl : TE) : TI := fun σ H R => tl σ H fun x H1 => ∃ a, x = .ref a ∧ (∃ xs, SqT K H1 a xs) ∧ R (Itt K a) H1
theorem pi_list {l : Expr} {tl : TE} (hl : PE X l tl) : PI X tg l (iList X.K tl) := by
  intro pins s σ H R I h
  refine thn (hl pins s σ H _ I h) fun v s1 ⟨x, H1, I1, r1, q1⟩ => ?_
  obtain ⟨a, e, ⟨xs, hq⟩, q⟩ := q1
  subst e
  cases r1
  obtain ⟨its, rv, p, hz⟩ := I1.list hq
  refine wpAny_pyIter_list p.isList ?_
  refine ⟨s1.heap.objs.size, [s1.heap.objs.size], _, _, H1, rfl, I1.kept (t' := s1.toks) fun b o e => Heap.get?_push_of_some _ e, turn_list a _, ⟨_, Heap.get?_push_size _ rfl, rfl, rfl⟩, fun b hb => ?_, q⟩
  have e : b = s1.heap.objs.size := by simpa using hb
  subst e
  exact I1.fpOk (Nat.le_refl _) (I1.hok.fresh (Nat.le_refl _))
theorem pi_tup {l : Expr} {tl : TE} (hl : PE X l tl) : PI X tg l (iTup X.K tl) := by
  intro pins s σ H R I h
  refine thn (hl pins s σ H _ I h) fun v s1 ⟨x, H1, I1, r1, q1⟩ => ?_
  obtain ⟨a, e, ⟨xs, hq⟩, q⟩ := q1
  subst e
  cases r1
  obtain ⟨its, rv, p, hz⟩ := I1.tuple hq
  refine wpAny_pyIter_tuple (show s1.heap.IsTuple a its.toArray from p) ?_
  refine ⟨s1.heap.objs.size, [s1.heap.objs.size], _, _, H1, rfl, I1.kept (t' := s1.toks) fun b o e => Heap.get?_push_of_some _ e, turn_tuple a _, ⟨_, Heap.get?_push_size _ rfl, rfl, rfl⟩, fun b hb => ?_, q⟩
  have e : b = s1.heap.objs.size := by simpa using hb
  subst e
  exact I1.fpOk (Nat.le_refl _) (I1.hok.fresh (Nat.le_refl _))
theorem range_it {pins : List (Addr × Obj)} {σ : St} {H : Hp} {s : Shared} {R : It → Hp → Prop} {E : Value → Shared → Prop} {lo hi : Int} {t u v : Tok} {tk : Nat} (I : Inv X pins σ H s) (h1 : -(2 ^ 62) ≤ lo) (h2 : lo < 2 ^ 62) (h3 : -(2 ^ 62) ≤ hi) (h4 : hi < 2 ^ 62)
    (q : R (Itr lo (hi - lo).toNat) H) : wpAny (model X.prog X.w) X.A (pyIter (.ref s.heap.objs.size)) (PIE X pins σ tg R) E { s with heap := s.heap.push { cls := .type "range", data := .fields #[.int lo t, .int hi u, .int 1 v] }, toks := tk } := by
  refine wpAny_pyIter_range (IsRange.new ..) (small_one h1 h2 h3 h4) ?_
  have I1 : Inv X pins σ H { s with heap := s.heap.push { cls := .type "range", data := .fields #[.int lo t, .int hi u, .int 1 v] }, toks := tk } := I.kept fun b o e => Heap.get?_push_of_some _ e
  refine ⟨(s.heap.push { cls := .type "range", data := .fields #[.int lo t, .int hi u, .int 1 v] }).objs.size, [(s.heap.push { cls := .type "range", data := .fields #[.int lo t, .int hi u, .int 1 v] }).objs.size], _, _, H, rfl,
    I1.kept (t' := tk) fun b o e => Heap.get?_push_of_some _ e, turn_range _ lo (hi - lo).toNat, ?_, fun b hb => ?_, q⟩
  · have e1 : lo + ((0 : Nat) : Int) * 1 = lo := by simp
    have e2 : (((hi - lo).toNat : Nat) : Int) - ((0 : Nat) : Int) = Builtin.Range.rangeSize lo hi 1 := by rw [rangeSize_one]; split <;> omega
    show IsRangeIter _ _ (lo + ((0 : Nat) : Int) * 1) ((((hi - lo).toNat : Nat) : Int) - ((0 : Nat) : Int)) 1
    rw [e1, e2]
    exact Heap.get?_push_size _ rfl
  · have e : b = (s.heap.push { cls := .type "range", data := .fields #[.int lo t, .int hi u, .int 1 v] }).objs.size := by simpa using hb
    subst e
    exact I1.fpOk (Nat.le_refl _) (I1.hok.fresh (Nat.le_refl _))
def iRng1 (ta : TA) : TI := fun σ H R => ta σ H fun vs H1 => ∃ j : Int, vs = [.int j] ∧ -(2 ^ 62) ≤ j ∧ j < 2 ^ 62 ∧ R (Itr 0 j.toNat) H1
theorem pi_range1 {a : Expr} {ta : TA} {p pos : Pos} (hg : Gl X "range") (hm : X.mg "range" = none) (ha : PA X [a] ta) (hs : starEach [a] X.env = [(false, eval a X.env)] := by rfl) : PI X tg (.Call (.Name "range" p) [a] [] pos) (iRng1 ta) := by
  intro pins s σ H R I h
  refine Call_ (ld_blt I hg hm boot_range (PyProof.Rows.callWith_type1 (thn (ha pos pins s σ H _ I h) fun us s1 ⟨vs, H1, I1, r1, q1⟩ => ?_) hs rfl))
  obtain ⟨j, e, q1, q2, q⟩ := q1
  subst e
  cases r1 with
  | cons r rr =>
    cases rr
    obtain ⟨t, rfl⟩ := r
    exact call_range_1 (range_it I1 (by omega) (by omega) q1 q2 (by simpa using q))

def tFor (wi : TI) (g : TG) (tb : TS) : TS := fun D σ H => wi σ H fun J H1 => ∃ W : Nat → Nat → St → Hp → Prop, (∃ m, W 0 m σ H1) ∧ ∀ i m σ H, W i m σ H →
  (J.stop i H ∧ D.nx σ H) ∨ (J.go i H ∧ ∃ N : St → Hp → Prop, (∀ σ' H', N σ' H' → ∃ m', m' < m ∧ W (i + 1) m' σ' H') ∧ ∀ x H', J.yld i H x H' → g x σ H' fun σ2 H2 => tb { D with nx := N, ct := N, bk := D.nx } σ2 H2)
def pinsAt (fp : List Addr) (h : Heap) : List (Addr × Obj) := fp.filterMap fun b => (h.get? b).map fun o => (b, o)
theorem mem_pinsAt {fp : List Addr} {h : Heap} {b : Addr} {o : Obj} (hb : b ∈ fp) (e : h.get? b = some o) : (b, o) ∈ pinsAt fp h := List.mem_filterMap.mpr ⟨b, hb, by rw [e]; rfl⟩
theorem of_pinsAt {fp : List Addr} {h : Heap} {p : Addr × Obj} (hp : p ∈ pinsAt fp h) : p.1 ∈ fp ∧ h.get? p.1 = some p.2 := by
  obtain ⟨b, hb, e⟩ := List.mem_filterMap.mp hp
  cases q : h.get? b with
  | none => rw [q] at e; cases e
  | some o =>
    rw [q] at e
    have e' : (b, o) = p := Option.some.inj e
    subst e'
    exact ⟨hb, q⟩
theorem Inv.pinned {pins : List (Addr × Obj)} {σ : St} {H : Hp} {s : Shared} {fp : List Addr} (I : Inv X pins σ H s) (hf : ∀ b ∈ fp, FpOk X pins H b) (ho : ∀ b ∈ fp, ∃ o, s.heap.get? b = some o ∧ ∀ v, o.data ≠ .cell v) : Inv X (pins ++ pinsAt fp s.heap) σ H s :=
  I.pins_of fun p hp => (List.mem_append.mp hp).elim (fun z => I.pin p (List.mem_append_right _ z)) fun z => by
    obtain ⟨hb, e⟩ := of_pinsAt z
    obtain ⟨f0, f1, f2, _⟩ := hf p.1 hb
    obtain ⟨o, e', d⟩ := ho p.1 hb
    rw [e] at e'; cases e'
    exact ⟨e, f0, f1, f2, d⟩
theorem Inv.unpinned {pins pl : List (Addr × Obj)} {σ : St} {H : Hp} {s : Shared} (I : Inv X (pins ++ pl) σ H s) : Inv X pins σ H s := I.pins_of fun p hp => I.pin p (List.mem_append_right _ (List.mem_append_left _ hp))
theorem ps_for {iter : Expr} {body : List Stmt} {wi : TI} {g : TG} {tb : TS} {pos : Pos} (hp : PassesOwn (model X.prog X.w) X.A X.env X.xe) (hc : X.calm = true) (hi : PI X tg iter wi) (hg : PG X tg g) (hb : PSs X body tb)
    (hs : ∀ x, foldedSetIterable iter X.env x = pure x := by intro _; rfl) : PS X (.For tg iter body [] pos) (tFor wi g tb) := by
  intro pins s σ H D I h
  refine wpAny_For (thn (hi pins s σ H _ I h) fun v s1 h1 => thn h1 fun itv s2 h2 => ?_) hs
  obtain ⟨it, fp, tn, J, H2, e, I2, T, st2, f2, W, ⟨m0, w0⟩, turn⟩ := h2
  subst e
  -- what stays true of the iterator's objects through the loop
  have stat : ∀ {H' : Hp}, (∀ b ∈ fp, H' b = none) → ∀ b ∈ fp, FpOk X pins H' b := fun hn b hb => ⟨hn b hb, (f2 b hb).2⟩
  refine codeAny_forLoop_any (fun n s' => ∃ i σ' H', Inv X pins σ' H' s' ∧ tn i s'.heap ∧ (∀ b ∈ fp, H' b = none) ∧ W i n σ' H') ?_ m0 ⟨0, σ, H2, I2, st2, fun b hb => (f2 b hb).1, w0⟩
  rintro n s3 ⟨i, σ3, H3, I3, st3, fr3, w3⟩
  rcases turn i n σ3 H3 w3 with ⟨stop, qn⟩ | ⟨go, N, hN, step⟩
  · refine wpAny_passesOwn hp (thn (T.done X rfl rfl rfl hc i pins s3 σ3 H3 X.xe I3 (stat fr3) st3 stop) fun r s4 ⟨hr, I4⟩ => ?_)
    subst hr
    exact wpAny_execs_nil ⟨σ3, H3, I4, qn⟩
  · refine wpAny_passesOwn hp (thn (T.item X rfl rfl rfl hc i pins s3 σ3 H3 X.xe I3 (stat fr3) st3 go) fun r s4 ⟨u, hr, h4⟩ => ?_)
    subst hr
    refine wpAny_passesOwn hp (thn h4 fun _ s5 ⟨x, H5, I5, r5, y5, st5, fr5⟩ => ?_)
    have I5' := I5.pinned (stat fr5) (T.obj _ _ st5)
    refine wpAny_passesOwn hp (thn (hg _ s5 σ3 H5 x u _ I5' r5 (step x H5 y5)) fun _ s6 ⟨σ6, H6, I6, q6⟩ => ?_)
    refine wpAny_passesOwn hp (thn (hb _ s6 σ6 H6 _ I6 q6) fun f s7 q7 => ?_)
    have again : ∀ {σ7 : St} {H7 : Hp}, Inv X (pins ++ pinsAt fp s5.heap) σ7 H7 s7 → N σ7 H7 → ∃ m, m < n ∧ ∃ i σ' H', Inv X pins σ' H' s7 ∧ tn i s7.heap ∧ (∀ b ∈ fp, H' b = none) ∧ W i m σ' H' := fun {σ7 H7} I7 n7 => by
      obtain ⟨m', hm, w7⟩ := hN σ7 H7 n7
      refine ⟨m', hm, i + 1, σ7, H7, I7.unpinned, T.keep _ _ _ st5 fun b hb o e => (I7.pin (b, o) (List.mem_append_right _ (List.mem_append_right _ (mem_pinsAt hb e)))).1, fun b hb => ?_, w7⟩
      obtain ⟨o, e, d⟩ := T.obj _ _ st5 b hb
      exact (I7.pin (b, o) (List.mem_append_right _ (List.mem_append_right _ (mem_pinsAt hb e)))).2.1
    cases f with
    | next => obtain ⟨σ7, H7, I7, n7⟩ := q7; exact again I7 n7
    | cont => obtain ⟨σ7, H7, I7, n7⟩ := q7; exact again I7 n7
    | brk => obtain ⟨σ7, H7, I7, q7⟩ := q7; exact ⟨σ7, H7, I7.unpinned, q7⟩
    | ret v => obtain ⟨x7, σ7, H7, I7, r7, q7⟩ := q7; exact ⟨x7, σ7, H7, I7.unpinned, r7, q7⟩
end

theorem for_list {K : PySem.W.Frag} {a : Addr} {xs : List V} {g : TG} {tb : TS} {D : Ends} {σ : St} {H : Hp} (Pv : Nat → St → Hp → Prop) (h0 : Pv 0 σ H) (hl : ∀ i σ H, i ≤ xs.length → Pv i σ H → SqL K H a xs)
    (hs : ∀ i x σ H, xs[i]? = some x → Pv i σ H → g x σ H fun σ2 H2 => tb { D with nx := Pv (i + 1), ct := Pv (i + 1), bk := D.nx } σ2 H2) (hd : ∀ σ H, Pv xs.length σ H → D.nx σ H) :
    ∃ W : Nat → Nat → St → Hp → Prop, (∃ m, W 0 m σ H) ∧ ∀ i m σ H, W i m σ H →
      ((Itl K a).stop i H ∧ D.nx σ H) ∨ ((Itl K a).go i H ∧ ∃ N : St → Hp → Prop, (∀ σ' H', N σ' H' → ∃ m', m' < m ∧ W (i + 1) m' σ' H') ∧ ∀ x H', (Itl K a).yld i H x H' → g x σ H' fun σ2 H2 => tb { D with nx := N, ct := N, bk := D.nx } σ2 H2) := by
  refine ⟨fun i m σ H => m = xs.length - i ∧ i ≤ xs.length ∧ Pv i σ H, ⟨xs.length, by simp, Nat.zero_le _, h0⟩, ?_⟩
  rintro i m σ H ⟨rfl, hi, p⟩
  have q := hl i σ H hi p
  by_cases hlt : i < xs.length
  · refine .inr ⟨⟨xs, xs[i], q, by simp [hlt]⟩, Pv (i + 1), fun σ' H' p' => ⟨xs.length - (i + 1), by omega, rfl, hlt, p'⟩, fun x H' y => ?_⟩
    obtain ⟨e, y⟩ := y
    subst e
    exact hs i x σ _ (y xs q) p
  · have e : i = xs.length := by omega
    subst e
    exact .inl ⟨⟨xs, q, Nat.le_refl _⟩, hd σ H p⟩
theorem for_range {lo : Int} {n : Nat} {g : TG} {tb : TS} {D : Ends} {σ : St} {H : Hp} (Pv : Nat → St → Hp → Prop) (h0 : Pv 0 σ H)
    (hs : ∀ i σ H, i < n → Pv i σ H → g (.int (lo + i)) σ H fun σ2 H2 => tb { D with nx := Pv (i + 1), ct := Pv (i + 1), bk := D.nx } σ2 H2) (hd : ∀ σ H, Pv n σ H → D.nx σ H) :
    ∃ W : Nat → Nat → St → Hp → Prop, (∃ m, W 0 m σ H) ∧ ∀ i m σ H, W i m σ H →
      ((Itr lo n).stop i H ∧ D.nx σ H) ∨ ((Itr lo n).go i H ∧ ∃ N : St → Hp → Prop, (∀ σ' H', N σ' H' → ∃ m', m' < m ∧ W (i + 1) m' σ' H') ∧ ∀ x H', (Itr lo n).yld i H x H' → g x σ H' fun σ2 H2 => tb { D with nx := N, ct := N, bk := D.nx } σ2 H2) := by
  refine ⟨fun i m σ H => m = n - i ∧ i ≤ n ∧ Pv i σ H, ⟨n, by simp, Nat.zero_le _, h0⟩, ?_⟩
  rintro i m σ H ⟨rfl, hi, p⟩
  by_cases hlt : i < n
  · refine .inr ⟨hlt, Pv (i + 1), fun σ' H' p' => ⟨n - (i + 1), by omega, rfl, hlt, p'⟩, fun x H' y => ?_⟩
    obtain ⟨e, y⟩ := y
    subst e y
    exact hs i σ _ hlt p
  · have e : i = n := by omega
    subst e
    exact .inl ⟨Nat.le_refl _, hd σ H p⟩
end L2

namespace L2
open PySem PySem.Spec PyProof.Rows

abbrev R2 := V → V → Hp → VK → Prop
def OpR (X : Cx) (f : Value → Value → Sem Value) (r : R2) : Prop :=
  ∀ (pins : List (Addr × Obj)) (s : Shared) (σ : St) (H : Hp) (x y : V) (v u : Value) (Q : VK), Inv X pins σ H s → RelV x v → RelV y u → r x y H Q →
    wpAny (model X.prog X.w) X.A (f v u) (EP X pins σ Q) X.xe s
def UnR (X : Cx) (f : Value → Sem Value) (r : V → Hp → VK → Prop) : Prop :=
  ∀ (pins : List (Addr × Obj)) (s : Shared) (σ : St) (H : Hp) (x : V) (v : Value) (Q : VK), Inv X pins σ H s → RelV x v → r x H Q →
    wpAny (model X.prog X.w) X.A (f v) (EP X pins σ Q) X.xe s
def CallR (X : Cx) (f : Value) (r : List V → Hp → VK → Prop) : Prop :=
  ∀ (pins : List (Addr × Obj)) (s : Shared) (σ : St) (H : Hp) (xs : List V) (us : List Value) (Q : VK), Inv X pins σ H s → Vals xs us → r xs H Q →
    wpAny (model X.prog X.w) X.A (call f us) (EP X pins σ Q) X.xe s

def tOp (r : R2) (ta tb : TE) : TE := fun σ H Q => ta σ H fun x H1 => tb σ H1 fun y H2 => r x y H2 Q
def tUn (r : V → Hp → VK → Prop) (ta : TE) : TE := fun σ H Q => ta σ H fun x H1 => r x H1 Q
def rI (C : Int → Int → Prop) (g : Int → Int → V) : R2 := fun x y H Q => ∃ i j, x = .int i ∧ y = .int j ∧ C i j ∧ Q (g i j) H
def rI0 (g : Int → Int → V) : R2 := fun x y H Q => ∃ i j, x = .int i ∧ y = .int j ∧ Q (g i j) H
def rU (g : Int → V) : V → Hp → VK → Prop := fun x H Q => ∃ i, x = .int i ∧ Q (g i) H

section
variable {X : Cx} {a b c : Expr} {ta tb tc : TE} {pos : Pos}

theorem binT (ha : PE X a ta) (hb : PE X b tb) {pins : List (Addr × Obj)} {s : Shared} {σ : St} {H : Hp} {R : V → V → Hp → Prop} (I : Inv X pins σ H s)
    (h : ta σ H fun x H1 => tb σ H1 fun y H2 => R x y H2) {Q : Value → Shared → Prop} {f : Value → Value → Sem Value}
    (hf : ∀ v u s2 x y H2, Inv X pins σ H2 s2 → RelV x v → RelV y u → R x y H2 → wpAny (model X.prog X.w) X.A (f v u) Q X.xe s2) :
    wpAny (model X.prog X.w) X.A (eval a X.env) (fun v s₁ => wpAny (model X.prog X.w) X.A (eval b X.env) (fun u s₂ => wpAny (model X.prog X.w) X.A (f v u) Q X.xe s₂) X.xe s₁) X.xe s := by
  refine thn (ha pins s σ H _ I h) fun v s1 ⟨x, H1, I1, r1, q1⟩ => ?_
  refine thn (hb pins s1 σ H1 _ I1 q1) fun u s2 ⟨y, H2, I2, r2, q2⟩ => ?_
  exact hf v u s2 x y H2 I2 r1 r2 q2

theorem pe_op {op : Operator} {r : R2} (ho : OpR X (binaryOp op) r) (ha : PE X a ta) (hb : PE X b tb) : PE X (.BinOp a op b pos) (tOp r ta tb) := by
  intro pins s σ H Q I h
  exact wpAny_BinOp (binT ha hb I h fun v u s2 x y H2 I2 rx ry q => ho pins s2 σ H2 x y v u Q I2 rx ry q)
theorem pe_un {op : UnaryOp} {r : V → Hp → VK → Prop} (ho : UnR X (unaryOp op) r) (ha : PE X a ta) : PE X (.UnaryOp op a pos) (tUn r ta) := by
  intro pins s σ H Q I h
  exact UnaryOp_ (thn (ha pins s σ H _ I h) fun v s1 ⟨x, H1, I1, r1, q1⟩ => ho pins s1 σ H1 x v Q I1 r1 q1)

theorem opI {f : Value → Value → Sem Value} {C : Int → Int → Prop} {g : Int → Int → Int}
    (rule : ∀ (i j : Int) (t u : Tok) (s : Shared) (Q : Value → Shared → Prop) (E : Value → Shared → Prop), C i j → Q (.int (g i j) s.toks) { s with toks := s.toks + 1 } → wpAny (model X.prog X.w) X.A (f (.int i t) (.int j u)) Q E s) :
    OpR X f (rI C fun i j => .int (g i j)) := by
  intro pins s σ H x y v u Q I rx ry h
  obtain ⟨i, j, rfl, rfl, hc, q⟩ := h
  obtain ⟨t, rfl⟩ := rx
  obtain ⟨t', rfl⟩ := ry
  exact rule i j t t' s _ _ hc ⟨.int (g i j), H, I.tok _, ⟨_, rfl⟩, q⟩
theorem opI0 {f : Value → Value → Sem Value} {g : Int → Int → Int}
    (rule : ∀ (i j : Int) (t u : Tok) (s : Shared) (Q : Value → Shared → Prop) (E : Value → Shared → Prop), Q (.int (g i j) s.toks) { s with toks := s.toks + 1 } → wpAny (model X.prog X.w) X.A (f (.int i t) (.int j u)) Q E s) :
    OpR X f (rI0 fun i j => .int (g i j)) := by
  intro pins s σ H x y v u Q I rx ry h
  obtain ⟨i, j, rfl, rfl, q⟩ := h
  obtain ⟨t, rfl⟩ := rx
  obtain ⟨t', rfl⟩ := ry
  exact rule i j t t' s _ _ ⟨.int (g i j), H, I.tok _, ⟨_, rfl⟩, q⟩
theorem opB0 {f : Value → Value → Sem Value} {g : Int → Int → Bool}
    (rule : ∀ (i j : Int) (t u : Tok) (s : Shared) (Q : Value → Shared → Prop) (E : Value → Shared → Prop), Q (.bool (g i j)) s → wpAny (model X.prog X.w) X.A (f (.int i t) (.int j u)) Q E s) :
    OpR X f (rI0 fun i j => .bl (g i j)) := by
  intro pins s σ H x y v u Q I rx ry h
  obtain ⟨i, j, rfl, rfl, q⟩ := h
  obtain ⟨t, rfl⟩ := rx
  obtain ⟨t', rfl⟩ := ry
  exact rule i j t t' s _ _ ⟨.bl (g i j), H, I, rfl, q⟩

def CPow (i j : Int) : Prop := 0 ≤ j ∧ j ≤ 1000000 ∧ i.natAbs < 2 ^ 64
def CMul (i j : Int) : Prop := (-(2 ^ 64) < i ∧ i < 2 ^ 64) ∨ (-(2 ^ 64) < j ∧ j < 2 ^ 64)
theorem CMul.ok {i j : Int} (h : CMul i j) : IntMulOk i j := by
  rcases h with ⟨h1, h2⟩ | ⟨h1, h2⟩
  · exact .of_left (intBits_le_64 h1 h2)
  · exact .of_right (intBits_le_64 h1 h2)

theorem op_add : OpR X (binaryOp .Add) (rI0 fun i j => .int (i + j)) := opI0 fun _ _ _ _ _ _ _ q => add_int q
theorem op_sub : OpR X (binaryOp .Sub) (rI0 fun i j => .int (i - j)) := opI0 fun _ _ _ _ _ _ _ q => sub_int q
theorem op_mul : OpR X (binaryOp .Mult) (rI CMul fun i j => .int (i * j)) := opI fun _ _ _ _ _ _ _ hc q => mul_int q hc.ok
theorem op_modN : OpR X (binaryOp .Mod) (rI (fun _ j => j ≠ 0) fun i j => .int (i.fmod j)) := opI fun _ _ _ _ _ _ _ hc q => mod_int' hc q
theorem op_pow : OpR X (binaryOp .Pow) (rI CPow fun i j => .int (i ^ j.toNat)) := opI fun _ _ _ _ _ _ _ hc q => pow_int_small hc.1 hc.2.1 hc.2.2 q


theorem unI {f : Value → Sem Value} {g : Int → Int}
    (rule : ∀ (i : Int) (t : Tok) (s : Shared) (Q : Value → Shared → Prop) (E : Value → Shared → Prop), Q (.int (g i) s.toks) { s with toks := s.toks + 1 } → wpAny (model X.prog X.w) X.A (f (.int i t)) Q E s) :
    UnR X f (rU fun i => .int (g i)) := by
  intro pins s σ H x v Q I rx h
  obtain ⟨i, rfl, q⟩ := h
  obtain ⟨t, rfl⟩ := rx
  exact rule i t s _ _ ⟨.int (g i), H, I.tok _, ⟨_, rfl⟩, q⟩
theorem un_neg : UnR X (unaryOp .USub) (rU fun i => .int (-i)) := unI fun _ _ _ _ _ q => neg_int q

end

def scal : V → V → Bool
  | .non, .non => true | .non, .int _ => true | .int _, .non => true | .non, .bl _ => true | .bl _, .non => true | .non, .str _ => true | .str _, .non => true
  | .int _, .int _ => true | .bl _, .bl _ => true | .str _, .str _ => true | .byt _, .byt _ => true
  | .int _, .str _ => true | .str _, .int _ => true | .bl _, .str _ => true | .str _, .bl _ => true
  | _, _ => false
def rEq : R2 := fun x y H Q => scal x y = true ∧ Q (.bl (decide (x = y))) H
def rNe : R2 := fun x y H Q => scal x y = true ∧ Q (.bl (!decide (x = y))) H

theorem dec_int {i j : Int} : decide (V.int i = V.int j) = (i == j) := by
  rw [Bool.eq_iff_iff]
  simp
theorem dec_bl {i j : Bool} : decide (V.bl i = V.bl j) = (i == j) := by
  rw [Bool.eq_iff_iff]
  simp
theorem dec_str {i j : Str} : decide (V.str i = V.str j) = (i == j) := by
  rw [Bool.eq_iff_iff]
  simp
theorem dec_byt {i j : Array UInt8} : decide (V.byt i = V.byt j) = (i.toList == j.toList) := by
  rw [Bool.eq_iff_iff]
  cases i
  cases j
  simp

section
variable {X : Cx} {a b c : Expr} {ta tb tc : TE} {pos : Pos}
theorem fin_bl {pins : List (Addr × Obj)} {σ : St} {H : Hp} {s : Shared} {Q : VK} {k k' : Bool} (I : Inv X pins σ H s) (q : Q (.bl k) H) (e : k = k') : EP X pins σ Q (.bool k') s := by
  subst e
  exact ⟨.bl k, H, I, rfl, q⟩
theorem op_eq : OpR X (compareOp .Eq) rEq := by
  intro pins s σ H x y v u Q I rx ry h
  obtain ⟨hs, q⟩ := h
  cases x with
  | non =>
    cases rx
    cases y with
    | non => cases ry; exact PySem.EqNone.eq_none_none (fin_bl I q (by simp))
    | bl j => cases ry; exact PySem.EqNone.eq_none_bool (fin_bl I q (by simp))
    | int j => obtain ⟨t', rfl⟩ := ry; exact PySem.EqNone.eq_none_int (fin_bl I q (by simp))
    | str j => obtain ⟨t', rfl⟩ := ry; exact PySem.EqNone.eq_none_str (fin_bl I q (by simp))
    | _ => exact absurd (show false = true from hs) Bool.false_ne_true
  | bl i =>
    cases rx
    cases y with
    | non => cases ry; exact PySem.EqNone.eq_bool_none (fin_bl I q (by simp))
    | bl j => cases ry; exact eq_bool (fin_bl I q dec_bl)
    | str j => obtain ⟨t', rfl⟩ := ry; exact PySem.EqMixed.eq_bool_str (fin_bl I q (by simp))
    | _ => exact absurd (show false = true from hs) Bool.false_ne_true
  | int i =>
    obtain ⟨t, rfl⟩ := rx
    cases y with
    | non => cases ry; exact PySem.EqNone.eq_int_none (fin_bl I q (by simp))
    | int j => obtain ⟨t', rfl⟩ := ry; exact eq_int (fin_bl I q dec_int)
    | str j => obtain ⟨t', rfl⟩ := ry; exact PySem.EqMixed.eq_int_str (fin_bl I q (by simp))
    | _ => exact absurd (show false = true from hs) Bool.false_ne_true
  | str i =>
    obtain ⟨t, rfl⟩ := rx
    cases y with
    | non => cases ry; exact PySem.EqNone.eq_str_none (fin_bl I q (by simp))
    | bl j => cases ry; exact PySem.EqMixed.eq_str_bool (fin_bl I q (by simp))
    | int j => obtain ⟨t', rfl⟩ := ry; exact PySem.EqMixed.eq_str_int (fin_bl I q (by simp))
    | str j => obtain ⟨t', rfl⟩ := ry; exact eq_str (fin_bl I q dec_str)
    | _ => exact absurd (show false = true from hs) Bool.false_ne_true
  | byt i =>
    obtain ⟨t, rfl⟩ := rx
    cases y with
    | byt j => obtain ⟨t', rfl⟩ := ry; exact PySem.W.eq_bytes (fin_bl I q dec_byt)
    | _ => exact absurd (show false = true from hs) Bool.false_ne_true
  | _ => cases y <;> exact absurd (show false = true from hs) Bool.false_ne_true
theorem op_ne : OpR X (compareOp .NotEq) rNe := by
  intro pins s σ H x y v u Q I rx ry h
  obtain ⟨hs, q⟩ := h
  cases x with
  | non =>
    cases rx
    cases y with
    | non => cases ry; exact PySem.EqNone.ne_none_none (fin_bl I q (by simp))
    | bl j => cases ry; exact PySem.EqNone.ne_none_bool (fin_bl I q (by simp))
    | int j => obtain ⟨t', rfl⟩ := ry; exact PySem.EqNone.ne_none_int (fin_bl I q (by simp))
    | str j => obtain ⟨t', rfl⟩ := ry; exact PySem.EqNone.ne_none_str (fin_bl I q (by simp))
    | _ => exact absurd (show false = true from hs) Bool.false_ne_true
  | bl i =>
    cases rx
    cases y with
    | non => cases ry; exact PySem.EqNone.ne_bool_none (fin_bl I q (by simp))
    | bl j => cases ry; exact ne_bool (fin_bl I q (congrArg not dec_bl))
    | str j => obtain ⟨t', rfl⟩ := ry; exact PySem.EqMixed.ne_bool_str (fin_bl I q (by simp))
    | _ => exact absurd (show false = true from hs) Bool.false_ne_true
  | int i =>
    obtain ⟨t, rfl⟩ := rx
    cases y with
    | non => cases ry; exact PySem.EqNone.ne_int_none (fin_bl I q (by simp))
    | int j => obtain ⟨t', rfl⟩ := ry; exact ne_int (fin_bl I q (congrArg not dec_int))
    | str j => obtain ⟨t', rfl⟩ := ry; exact PySem.EqMixed.ne_int_str (fin_bl I q (by simp))
    | _ => exact absurd (show false = true from hs) Bool.false_ne_true
  | str i =>
    obtain ⟨t, rfl⟩ := rx
    cases y with
    | non => cases ry; exact PySem.EqNone.ne_str_none (fin_bl I q (by simp))
    | bl j => cases ry; exact PySem.EqMixed.ne_str_bool (fin_bl I q (by simp))
    | int j => obtain ⟨t', rfl⟩ := ry; exact PySem.EqMixed.ne_str_int (fin_bl I q (by simp))
    | str j => obtain ⟨t', rfl⟩ := ry; exact ne_str (fin_bl I q (congrArg not dec_str))
    | _ => exact absurd (show false = true from hs) Bool.false_ne_true
  | byt i =>
    obtain ⟨t, rfl⟩ := rx
    cases y with
    | byt j => obtain ⟨t', rfl⟩ := ry; exact PySem.W.ne_bytes (fin_bl I q (congrArg not dec_byt))
    | _ => exact absurd (show false = true from hs) Bool.false_ne_true
  | _ => cases y <;> exact absurd (show false = true from hs) Bool.false_ne_true

theorem op_lt : OpR X (compareOp .Lt) (rI0 fun i j => .bl (decide (i < j))) := opB0 fun _ _ _ _ _ _ _ q => lt_int q
theorem op_le : OpR X (compareOp .LtE) (rI0 fun i j => .bl (decide (i ≤ j))) := opB0 fun _ _ _ _ _ _ _ q => le_int q
theorem op_gt : OpR X (compareOp .Gt) (rI0 fun i j => .bl (decide (j < i))) := opB0 fun _ _ _ _ _ _ _ q => gt_int q

theorem op_isN : OpR X (compareOp .Is) (fun x y H Q => y = .non ∧ Q (.bl (decide (x = .non))) H) := by
  intro pins s σ H x y v u Q I rx ry h
  obtain ⟨rfl, q⟩ := h
  cases ry
  refine is_none_gen (fin_bl I q ?_)
  cases x <;> first
    | (cases rx; rfl)
    | (obtain ⟨t, rfl⟩ := rx; rfl)
theorem op_notN : OpR X (compareOp .IsNot) (fun x y H Q => y = .non ∧ Q (.bl (!decide (x = .non))) H) := by
  intro pins s σ H x y v u Q I rx ry h
  obtain ⟨rfl, q⟩ := h
  cases ry
  refine isnot_none_gen (fin_bl I q ?_)
  cases x <;> first
    | (cases rx; rfl)
    | (obtain ⟨t, rfl⟩ := rx; rfl)


theorem OpR.or {f : Value → Value → Sem Value} {r r' : R2} (h : OpR X f r) (h' : OpR X f r') : OpR X f (fun x y H Q => r x y H Q ∨ r' x y H Q) := by
  intro pins s σ H x y v u Q I rx ry q
  rcases q with q | q
  · exact h pins s σ H x y v u Q I rx ry q
  · exact h' pins s σ H x y v u Q I rx ry q

theorem nomark (b : Expr) {op : CmpOp} (h : op ≠ .In := by decide) (h2 : op ≠ .NotIn := by decide) : behindInMarks op b = false := by
  have e1 : (op == CmpOp.In) = false := by cases op <;> first | rfl | exact absurd rfl h
  have e2 : (op == CmpOp.NotIn) = false := by cases op <;> first | rfl | exact absurd rfl h2
  cases b <;> simp [behindInMarks, e1, e2]
theorem pe_cmpR {op : CmpOp} {r : R2} (ho : OpR X (compareOp op) r) (ha : PE X a ta) (hb : PE X b tb) (hm : behindInMarks op b = false) : PE X (.Compare a [op] [b] pos) (tOp r ta tb) := by
  intro pins s σ H Q I h
  exact wpAny_Compare1 (binT ha hb I h fun v u s2 x y H2 I2 rx ry q => ho pins s2 σ H2 x y v u Q I2 rx ry q) hm
def tTest (t : TE) : TT := fun σ H Q => t σ H fun x H' => ∃ k, x = .bl k ∧ Q k H'
theorem pt_cmpR {op : CmpOp} {r : R2} (ho : OpR X (compareOp op) r) (ha : PE X a ta) (hb : PE X b tb) (hm : behindInMarks op b = false) : PT X (.Compare a [op] [b] pos) (tTest (tOp r ta tb)) := by
  intro pins s σ H Q I h
  refine wpAny_isTrue_Compare1 (thn (ha pins s σ H _ I h) fun v s1 ⟨x, H1, I1, r1, q1⟩ => thn (hb pins s1 σ H1 _ I1 q1) fun u s2 ⟨y, H2, I2, r2, q2⟩ =>
    thn (ho pins s2 σ H2 x y v u _ I2 r1 r2 q2) fun c s3 ⟨z, H3, I3, r3, k, e, q3⟩ => ?_) hm
  subst e
  cases r3
  exact wpAny_truthy_bool ⟨H3, I3, q3⟩
def tChain (r r' : R2) (ta tb tc : TE) : TE := fun σ H Q => ta σ H fun x H1 => tb σ H1 fun y H2 => r x y H2 fun z H3 => ∃ k, z = .bl k ∧
  (if k = true then tc σ H3 fun w' H4 => r' y w' H4 Q else Q (.bl false) H3)
theorem pe_chain {op op' : CmpOp} {r r' : R2} (ho : OpR X (compareOp op) r) (ho' : OpR X (compareOp op') r') (ha : PE X a ta) (hb : PE X b tb) (hc : PE X c tc)
    (hm : lastMarks [op, op'] [b, c] = false := by with_unfolding_all rfl) : PE X (.Compare a [op, op'] [b, c] pos) (tChain r r' ta tb tc) := by
  intro pins s σ H Q I h
  refine Compare_chain (thn (ha pins s σ H _ I h) fun v s1 ⟨x, H1, I1, r1, q1⟩ => chain_link (thn (hb pins s1 σ H1 _ I1 q1) fun u s2 ⟨y, H2, I2, r2, q2⟩ =>
    thn (ho pins s2 σ H2 x y v u _ I2 r1 r2 q2) fun d s3 ⟨z, H3, I3, r3, k, e, q3⟩ => ?_)) hm
  subst e
  cases r3
  refine wpAny_truthy_bool ?_
  cases k with
  | false => exact ite_ff ⟨.bl false, H3, I3, rfl, q3⟩
  | true => exact ite_tt (chain_last (thn (hc pins s3 σ H3 _ I3 q3) fun w' s4 ⟨z', H4, I4, r4, q4⟩ => ho' pins s4 σ H4 y z' u w' Q I4 r2 r4 q4))

theorem line63 : (sizeLine : Nat) < 2 ^ 63 := by rw [sizeLine_eq]; decide



theorem vals1 {x : V} {us : List Value} (r : Vals [x] us) : ∃ u, us = [u] ∧ RelV x u := by
  cases r with
  | cons r1 r2 => cases r2; exact ⟨_, rfl, r1⟩
theorem call_abs : CallR X (.builtin "abs") (fun xs H Q => ∃ i, xs = [.int i] ∧ Q (.int (if i < 0 then -i else i)) H) := by
  intro pins s σ H xs us Q I r h
  obtain ⟨i, rfl, q⟩ := h
  obtain ⟨u, rfl, t, rfl⟩ := vals1 r
  exact call_abs_int fun u tk => ⟨.int (if i < 0 then -i else i), H, I.tok _, ⟨_, rfl⟩, q⟩
theorem call_int1 : CallR X (.type "int") (fun xs H Q => (∃ i, xs = [.int i] ∧ Q (.int i) H) ∨ ∃ k, xs = [.bl k] ∧ Q (.int (if k then 1 else 0)) H) := by
  intro pins s σ H xs us Q I r h
  rcases h with ⟨i, rfl, q⟩ | ⟨k, rfl, q⟩
  · obtain ⟨u, rfl, t, rfl⟩ := vals1 r
    exact call_int_int ⟨.int i, H, I, ⟨_, rfl⟩, q⟩
  · obtain ⟨u, rfl, r1⟩ := vals1 r
    cases r1
    exact call_int_bool ⟨.int (if k then 1 else 0), H, I.tok _, ⟨_, rfl⟩, q⟩
def LenV (K : PySem.W.Frag) (x : V) (H : Hp) (n : Nat) : Prop :=
  match x with
  | .str y => y.length ≤ sizeLine ∧ n = y.length
  | .byt y => y.size ≤ sizeLine ∧ n = y.size
  | .ref p => (∃ xs, SqL K H p xs ∧ n = xs.length) ∨ ∃ xs, SqT K H p xs ∧ n = xs.length
  | _ => False
theorem call_len : CallR X (.builtin "len") (fun xs H Q => ∃ x n, xs = [x] ∧ LenV X.K x H n ∧ Q (.int n) H) := by
  intro pins s σ H xs us Q I r h
  obtain ⟨x, n, rfl, e, q⟩ := h
  obtain ⟨u, rfl, rx⟩ := vals1 r
  have hl := line63
  have hs : sizeLine = 16777216 := sizeLine_eq
  cases x with
  | str y =>
    obtain ⟨t, rfl⟩ := rx
    obtain ⟨hy, e'⟩ : y.length ≤ sizeLine ∧ n = y.length := e
    subst e'
    exact len_str (by omega) ⟨.int _, H, I.tok _, ⟨_, rfl⟩, q⟩
  | byt y =>
    obtain ⟨t, rfl⟩ := rx
    obtain ⟨hy, e'⟩ : y.size ≤ sizeLine ∧ n = y.size := e
    subst e'
    exact PySem.W.len_bytes (by omega) ⟨.int _, H, I.tok _, ⟨_, rfl⟩, q⟩
  | ref p =>
    cases rx
    have e' : (∃ xs, SqL X.K H p xs ∧ n = xs.length) ∨ ∃ xs, SqT X.K H p xs ∧ n = xs.length := e
    rcases e' with ⟨xs, hx, e'⟩ | ⟨xs, hx, e'⟩
    · subst e'
      obtain ⟨its, r', pl, hz⟩ := I.list hx
      have hlen := r'.length
      exact Calls.call_len_list pl.isList (by simp only [List.size_toArray]; omega) ⟨.int xs.length, H, I.tok _, ⟨_, by simp only [List.size_toArray]; rw [hlen]⟩, q⟩
    · subst e'
      obtain ⟨its, r', pl, hz⟩ := I.tuple hx
      have hlen := r'.length
      exact len_tuple pl (by simp only [List.size_toArray]; omega) ⟨.int xs.length, H, I.tok _, ⟨_, by simp only [List.size_toArray]; rw [hlen]⟩, q⟩
  | _ => exact (show False from e).elim
end
end L2

namespace L2
open PySem PySem.Spec PyProof.Rows

structure ObjM (h : Heap) (x dx C : Addr) (mA : Str → Option Value) : Prop where
  obj : h.get? x = some (PySem.W.instObj C dx)
  ns : h.Ns1 dx mA
  ne : dx ≠ x

theorem lookIn_ns {h : Heap} {dx : Addr} {mA : Str → Option Value} (n : h.Ns1 dx mA) : ∃ od, h.get? dx = some od ∧ ∀ name, PySem.W.lookIn name od = some (mA name) := by
  obtain ⟨o, es, ep, ho, hd, hk, _, hm⟩ := n
  refine ⟨o, ho, fun name => ?_⟩
  have e := hm name
  unfold nsFind findBy at e
  rw [← Array.find?_toList] at e
  unfold PySem.W.lookIn
  rw [hd]
  dsimp only
  split
  · rename_i y q
    rw [q] at e
    exact congrArg some e
  · rename_i q
    rw [q] at e
    have a : es.toList.any (·.refKey) = false := by
      rw [List.any_eq_false]
      intro y hy
      obtain ⟨z, t, hkey⟩ := hk y (Array.mem_toList_iff.mp hy)
      simp [DictEntry.refKey, hkey]
    have a' : ¬ es.toList.any (·.refKey) = true := by rw [a]; exact Bool.false_ne_true
    rw [if_neg a']
    exact congrArg some e

theorem ObjM.look {h : Heap} {x dx C : Addr} {mA : Str → Option Value} (I : ObjM h x dx C mA) : ∃ od, PySem.W.InstAt h x (PySem.W.instObj C dx) C (some od) ∧ ∀ name, PySem.W.lookIn name od = some (mA name) :=
  let ⟨od, ho, hl⟩ := lookIn_ns I.ns
  ⟨od, ⟨I.obj, rfl, rfl, ho⟩, hl⟩

section
variable {prog : Program} {w : World} {A : Around} {E : Value → Shared → Prop} {s : Shared} {K : PySem.W.Frag} {x dx C f : Addr} {mA : Str → Option Value} {name : Str} {v : Value}

theorem get_map {expr : Bool} {Q : Value → Shared → Prop} (X : K.In s.heap) (I : ObjM s.heap x dx C mA) (hg : PySem.W.plainGet K C name = true) (hh : PySem.W.hasDictIn K C = true)
    (ha : PySem.W.findIn K (.ref C) name = some none) (hv : mA name = some v) (hv' : PySem.W.handedIn v = true) (h : Q v { s with toks := s.toks + 1 }) :
    wpAny (model prog w) A (getAttr (.ref x) name expr) Q E s := by
  obtain ⟨od, J, hl⟩ := I.look
  exact PySem.W.get_value X J (PySem.W.plainGet_of hg).1 (PySem.W.findObj_own hh ha rfl (by rw [hl, hv])) hv' h


theorem get_meth {pl : Sem Bool} {Q : Value × List Value → Shared → Prop} (X : K.In s.heap) (I : ObjM s.heap x dx C mA) (hg : PySem.W.plainGet K C name = true)
    (hf : PySem.W.findIn K (.ref C) name = some (some (.ref f))) (ht : PySem.W.isFn K (.ref f) = true) (hv : mA name = none) (h : Q (.ref f, [.ref x]) s) :
    wpAny (model prog w) A (getMethod (.ref x) name pl) Q E s := by
  obtain ⟨od, J, hl⟩ := I.look
  exact PySem.W.method_fn X J (PySem.W.plainGet_of hg).1 (PySem.W.plainGet_of hg).2 hf (beq_iff_eq.mp ht) (by show (PySem.W.lookIn name od).map (·.isSome) = some false; rw [hl, hv]; rfl) h

theorem set_map {ns : List Str} {Q : Unit → Shared → Prop} (X : K.In s.heap) (I : ObjM s.heap x dx C mA)
    (hs : PySem.W.findIn K (.ref C) "__setattr__" = some (some (.builtin "object.__setattr__"))) (hp : PySem.W.plainOver K C = true) (ht : PySem.W.takerIn K C name = some none) (hh : PySem.W.hasDictIn K C = true)
    (hw : PySem.Within mA ns) (hsz : ns.length ≤ sizeLine)
    (h : ∀ h', ObjM h' x dx C (fun y => if y = name then some v else mA y) → Heap.SameBut dx s.heap h' → Q () { s with heap := h', toks := s.toks + 2 }) :
    wpAny (model prog w) A (setAttr (.ref x) name v) Q E s := by
  obtain ⟨od, J, hl⟩ := I.look
  refine PySem.W.set_plain X J hs (PySem.W.osa_open (s := { s with toks := s.toks + 1 }) (r := none) X J hp ht fun b => ?_)
  obtain ⟨cd, hc, hd'⟩ := PySem.W.any_some hh
  have hx : s.heap.get? x = some ⟨.ref C, some dx, .plain, #[]⟩ := I.obj
  refine wpAny_bind (wpAny_pure (wpAny_bind (wpAny_bind (wpAny_loadPart hx (wpAny_bind (PySem.W.Looks.here (s := { s with toks := s.toks + 1 }) (PySem.W.looks_clsIn X hc) ?_))))))
  rw [hd']
  refine wpAny_pure (a := some dx) (wpAny_bind (wpAny_pure (wpAny_bind ?_)))
  refine wpAny_nsSet1 (s := { s with toks := s.toks + 1 }) I.ns fun h' hn2 hs2 => ?_
  obtain ⟨oD, esD, epD, hoD, hdD, hcD⟩ := hn2.count (PySem.Within.cons name v hw)
  refine wpAny_bind (wpAny_lookBehind hoD (by rw [hdD]; exact pastItsLine_dict (Nat.le_trans hcD (by rw [List.length_cons]; omega))) ?_)
  exact wpAny_pure (h _ ⟨(hs2.2 _ (Ne.symm I.ne)).trans I.obj, hn2, I.ne⟩ hs2)

theorem make_map {R : Result → Shared → Prop} {vs : List Value} {kw : List (Str × Value)} (X : K.In s.heap) (hm : PySem.W.makesIn K C = true)
    (hi : PySem.W.findIn K (.ref C) "__init__" = some (some (.ref f))) (hf : PySem.W.typeIn K (.ref f) = some (.type "function"))
    (h : codeAny (model prog w) (A.under (.builtin "type.__call__" ⟨.ref C :: vs, kw⟩)) (.call (.ref f) ⟨.ref (s.heap.objs.size + 1) :: vs, kw⟩) (PySem.W.InitBack (s.heap.objs.size + 1) R)
      { s with heap := (s.heap.push PySem.W.emptyDict).push (PySem.W.instObj C s.heap.objs.size) }) :
    codeAny (model prog w) A (.call (.ref C) ⟨vs, kw⟩) R s := by
  obtain ⟨hh, g, d, t, os⟩ := s
  exact PySem.W.make_core (PySem.W.makes_of X hm) (PySem.W.looks_findIn X hi) (fun self => PySem.W.bind_fn X self hf) (.inl rfl) h
theorem make_map0 {R : Result → Shared → Prop} (X : K.In s.heap) (hm : PySem.W.makesIn K C = true)
    (hi : PySem.W.findIn K (.ref C) "__init__" = some (some (.builtin "object.__init__")))
    (hb : ∀ self, PySem.W.Looks (model prog w) s.heap (bindSpecial (.builtin "object.__init__") self) (.builtin "object.__init__", [self]))
    (h : codeAny (model prog w) (A.under (.builtin "type.__call__" ⟨[.ref C], []⟩)) (.call (.builtin "object.__init__") ⟨[.ref (s.heap.objs.size + 1)], []⟩) (PySem.W.InitBack (s.heap.objs.size + 1) R)
      { s with heap := (s.heap.push PySem.W.emptyDict).push (PySem.W.instObj C s.heap.objs.size) }) :
    codeAny (model prog w) A (.call (.ref C) ⟨[], []⟩) R s := by
  obtain ⟨hh, g, d, t, os⟩ := s
  exact PySem.W.make_core (PySem.W.makes_of X hm) (PySem.W.looks_findIn X hi) hb (.inr ⟨rfl, rfl⟩) h
end

def putF (f : Str) (v : V) : List (Str × V) → List (Str × V)
  | [] => [(f, v)]
  | (g, x) :: r => if g = f then (g, v) :: r else (g, x) :: putF f v r
theorem lookup_putF (f g : Str) (v : V) : ∀ fs : List (Str × V), (putF f v fs).lookup g = if g = f then some v else fs.lookup g
  | [] => by
    show List.lookup g [(f, v)] = _
    by_cases h : g = f
    · have hb : (g == f) = true := beq_iff_eq.mpr h
      simp only [List.lookup, hb, if_pos h]
    · have hb : (g == f) = false := beq_eq_false_iff_ne.mpr h
      simp only [List.lookup, hb, if_neg h]
  | (k, x) :: r => by
    have ih := lookup_putF f g v r
    rw [show putF f v ((k, x) :: r) = (if k = f then (k, v) :: r else (k, x) :: putF f v r) from rfl]
    by_cases hk : k = f
    · rw [if_pos hk]
      by_cases h : g = k
      · have hb : (g == k) = true := beq_iff_eq.mpr h
        simp only [List.lookup, hb, if_pos (h.trans hk)]
      · have hb : (g == k) = false := beq_eq_false_iff_ne.mpr h
        simp only [List.lookup, hb, if_neg (fun e : g = f => h (e.trans hk.symm))]
    · rw [if_neg hk]
      by_cases h : g = k
      · have hb : (g == k) = true := beq_iff_eq.mpr h
        simp only [List.lookup, hb, if_neg (fun e : g = f => hk (h.symm.trans e))]
      · have hb : (g == k) = false := beq_eq_false_iff_ne.mpr h
        simp only [List.lookup, hb]
        exact ih
theorem keys_putF (f : Str) (v : V) : ∀ fs : List (Str × V), f ∈ (putF f v fs).map (·.1) ∧ ∀ g, g ∈ fs.map (·.1) → g ∈ (putF f v fs).map (·.1)
  | [] => ⟨by simp [putF], fun g h => by simp at h⟩
  | (k, x) :: r => by
    obtain ⟨i1, i2⟩ := keys_putF f v r
    rw [show putF f v ((k, x) :: r) = (if k = f then (k, v) :: r else (k, x) :: putF f v r) from rfl]
    by_cases hk : k = f
    · rw [if_pos hk]
      subst hk
      exact ⟨by simp, fun g h => by simpa using h⟩
    · rw [if_neg hk]
      refine ⟨?_, fun g h => ?_⟩
      · rw [List.map_cons]
        exact List.mem_cons_of_mem _ i1
      · rw [List.map_cons] at h ⊢
        rcases List.mem_cons.mp h with e | e
        · exact List.mem_cons.mpr (.inl e)
        · exact List.mem_cons_of_mem _ (i2 g e)
theorem length_putF (f : Str) (v : V) : ∀ fs : List (Str × V), (putF f v fs).length ≤ fs.length + 1
  | [] => by simp [putF]
  | (k, x) :: r => by
    have ih := length_putF f v r
    rw [show putF f v ((k, x) :: r) = (if k = f then (k, v) :: r else (k, x) :: putF f v r) from rfl]
    by_cases hk : k = f
    · rw [if_pos hk, List.length_cons, List.length_cons]; omega
    · rw [if_neg hk, List.length_cons, List.length_cons]; omega

theorem RelO.some_of {v : V} {o : Option Value} (r : RelO (some v) o) : ∃ u, o = some u ∧ RelV v u := by
  cases o with
  | none => exact (show False from r).elim
  | some u => exact ⟨u, rfl, r⟩
theorem RelO.none_of {o : Option Value} (r : RelO none o) : o = none := by
  cases o with
  | none => rfl
  | some u => exact (show False from r).elim
theorem handed_of {v : V} {u : Value} (r : RelV v u) : PySem.W.handedIn u = true := by
  cases v with
  | non => cases (show u = Value.none from r); rfl
  | bl b => cases (show u = Value.bool b from r); rfl
  | int i => obtain ⟨t, e⟩ := (show ∃ t, u = Value.int i t from r); cases e; rfl
  | str x => obtain ⟨t, e⟩ := (show ∃ t, u = Value.str x t from r); cases e; rfl
  | byt b => obtain ⟨t, e⟩ := (show ∃ t, u = Value.bytes b t from r); cases e; rfl
  | flt b => obtain ⟨t, e⟩ := (show ∃ t, u = Value.float b t from r); cases e; rfl
  | ref a => cases (show u = Value.ref a from r); rfl
  | ty n => cases (show u = Value.type n from r); rfl

section
variable {P : Program} {w : World} {H H' : Hp} {h h' : Heap} {a C dx : Addr} {fs fs' : List (Str × V)}
theorem ins_get (hok : HOk P w H h) (e : H a = some (.ins C dx fs)) : ∃ mA, ObjM h a dx C mA ∧ (∀ f, RelO (fs.lookup f) (mA f)) ∧ PySem.Within mA (fs.map (·.1)) ∧ fs.length ≤ 1000 ∧ H dx = some (.own a) := by
  obtain ⟨d, z, ne, ob, mA, n, r, q⟩ := (show ObjOk P w H h a (.ins C dx fs) from hok a _ e)
  exact ⟨mA, ⟨ob, n, ne⟩, r, q, z, d⟩
end

structure Cls (K : PySem.W.Frag) (C : Addr) : Prop where
  pg : PySem.W.plainGet K C Str.empty = true
  hd : PySem.W.hasDictIn K C = true
  po : PySem.W.plainOver K C = true
  sa : PySem.W.findIn K (.ref C) "__setattr__" = some (some (.builtin "object.__setattr__"))
theorem Cls.get {K : PySem.W.Frag} {C : Addr} (c : Cls K C) (f : Str) : PySem.W.plainGet K C f = true := c.pg
def NoAttr (K : PySem.W.Frag) (C : Addr) (f : Str) : Prop := PySem.W.findIn K (.ref C) f = some none
theorem NoAttr.taker {K : PySem.W.Frag} {C : Addr} {f : Str} (n : NoAttr K C f) : PySem.W.takerIn K C f = some none := by
  unfold PySem.W.takerIn
  rw [show PySem.W.findIn K (.ref C) f = some none from n]
  rfl
structure Con (K : PySem.W.Frag) (C : Addr) (f : Str) (v : V) (u : Value) : Prop where
  at_ : PySem.W.findIn K (.ref C) f = some (some u)
  rel : RelV v u
  get : PySem.W.specialIn K u "__get__" = some none
  cp : PySem.W.copiedNames.contains f = false
structure Meth (K : PySem.W.Frag) (C : Addr) (m : Str) (f : Addr) : Prop where
  at_ : PySem.W.findIn K (.ref C) m = some (some (.ref f))
  fn : PySem.W.isFn K (.ref f) = true
  kp : PySem.W.keepIn K (.ref f) = true

section
variable {X : Cx} {pins : List (Addr × Obj)} {σ : St} {H : Hp} {s : Shared} {a C dx : Addr} {fs : List (Str × V)} {f : Str} {v : V} {A : Around} {E : Value → Shared → Prop}

theorem getattr_ok {b : Bool} {Q : Value → Shared → Prop} (I : Inv X pins σ H s) (e : H a = some (.ins C dx fs)) (c : Cls X.K C) (n : NoAttr X.K C f) (l : fs.lookup f = some v)
    (h : ∀ u s', Inv X pins σ H s' → RelV v u → Q u s') : wpAny (model X.prog X.w) A (getAttr (.ref a) f b) Q E s := by
  obtain ⟨mA, O, r, _, _, _⟩ := ins_get I.hok e
  obtain ⟨u, hu, ru⟩ := RelO.some_of (v := v) (o := mA f) (by rw [← l]; exact r f)
  exact get_map I.kIn O (c.get f) c.hd n hu (handed_of ru) (h u _ (I.tok _) ru)


theorem getmeth_ok {m : Str} {g : Addr} {pl : Sem Bool} {Q : Value × List Value → Shared → Prop} (I : Inv X pins σ H s) (e : H a = some (.ins C dx fs)) (c : Cls X.K C) (k : Meth X.K C m g) (l : fs.lookup m = none)
    (h : Q (.ref g, [.ref a]) s) : wpAny (model X.prog X.w) A (getMethod (.ref a) m pl) Q E s := by
  obtain ⟨mA, O, r, _, _, _⟩ := ins_get I.hok e
  have hn : mA m = none := RelO.none_of (by rw [← l]; exact r m)
  exact get_meth I.kIn O (c.get m) k.at_ k.fn hn h

theorem setattr_ok {y : V} {u : Value} {Q : Unit → Shared → Prop} (I : Inv X pins σ H s) (e : H a = some (.ins C dx fs)) (c : Cls X.K C) (n : NoAttr X.K C f) (hl : fs.length < 1000) (ry : RelV y u)
    (h : ∀ s', Inv X pins σ (upd H a (.ins C dx (putF f y fs))) s' → Q () s') : wpAny (model X.prog X.w) A (setAttr (.ref a) f u) Q E s := by
  obtain ⟨mA, O, r, wi, _, ho⟩ := ins_get I.hok e
  have hz : (fs.map (·.1)).length ≤ sizeLine := by rw [List.length_map, sizeLine_eq]; omega
  refine set_map I.kIn O c.sa c.po n.taker c.hd wi hz fun h' O' sb => h _ ?_
  have hd : ∃ o, h'.get? dx = some o := let ⟨o, _, _, e', _⟩ := O'.ns; ⟨o, e'⟩
  refine I.write (x := a) (e := dx) (by rw [e]; exact True.intro) (.inr ho) (fun b q hb z => (sb.2 b hb).trans z) hd ?_
  refine ⟨by rw [upd_ne O.ne]; exact ho, ?_, O.ne, O'.obj, _, O'.ns, fun g => ?_, fun g hg => ?_⟩
  · have := length_putF f y fs; omega
  · show RelO ((putF f y fs).lookup g) (if g = f then some u else mA g)
    rw [lookup_putF]
    by_cases q : g = f
    · rw [if_pos q, if_pos q]; exact ry
    · rw [if_neg q, if_neg q]; exact r g
  · by_cases q : g = f
    · rw [q]; exact (keys_putF f y fs).1
    · refine (keys_putF f y fs).2 g (wi g fun z => hg ?_)
      show (if g = f then some u else mA g) = none
      rw [if_neg q]; exact z

theorem Inv.made (I : Inv X pins σ H s) : Inv X pins σ (upd (upd H s.heap.objs.size (.own (s.heap.objs.size + 1))) (s.heap.objs.size + 1) (.ins C s.heap.objs.size []))
    { s with heap := (s.heap.push PySem.W.emptyDict).push (PySem.W.instObj C s.heap.objs.size) } := by
  have e1 : (s.heap.push PySem.W.emptyDict).get? s.heap.objs.size = some PySem.W.emptyDict := Heap.get?_push_size s.heap rfl
  have e2 : ((s.heap.push PySem.W.emptyDict).push (PySem.W.instObj C s.heap.objs.size)).get? (s.heap.objs.size + 1) = some (PySem.W.instObj C s.heap.objs.size) := by
    have := Heap.get?_push_size (s.heap.push PySem.W.emptyDict) (o := PySem.W.instObj C s.heap.objs.size) rfl
    rwa [Heap.size_push] at this
  have e3 : (s.heap.push PySem.W.emptyDict).Ns s.heap.objs.size (fun _ => none) := ⟨PySem.W.emptyDict, #[], _, e1, rfl, (fun e he => absurd he (by simp)), fun _ => rfl⟩
  have I1 := I.laid (a := s.heap.objs.size) (o := .own (s.heap.objs.size + 1)) (h' := s.heap.push PySem.W.emptyDict) (t' := s.toks) (fun b u q => Heap.get?_push_of_some _ q) (Nat.le_refl _) ⟨_, e1⟩
  refine I1.laid (a := s.heap.objs.size + 1) (o := .ins C s.heap.objs.size []) (t' := s.toks) (fun b u q => Heap.get?_push_of_some _ q) (Nat.le_of_eq (Heap.size_push _ _)) ?_
  have ne : s.heap.objs.size ≠ s.heap.objs.size + 1 := Nat.ne_of_lt (Nat.lt_succ_self _)
  refine ⟨by rw [upd_ne ne, upd_same], Nat.zero_le _, ne, e2, fun _ => none, (Heap.Ns1.of_empty e3).at fun o q => Heap.get?_push_of_some _ q, fun _ => True.intro, fun y hy => absurd rfl hy⟩

theorem attr_of {prog : Program} {w : World} {env : Env} {e : Expr} {f : Str} {pos : Pos} {s : Shared} {Q : Value → Shared → Prop} (hb : attributeBase e f env (eval e env) = eval e env)
    (h : wpAny (model prog w) A (eval e env) (fun o s₁ => wpAny (model prog w) A (getAttr o f true) Q E s₁) E s) : wpAny (model prog w) A (eval (.Attribute e f pos) env) Q E s :=
  Attribute_any_ h (by rw [arm_eval_Attribute, hb])
end

def tFld (K : PySem.W.Frag) (ta : TE) (f : Str) : TE := fun σ H Q => ta σ H fun x H1 => ∃ a C dx fs v, x = .ref a ∧ H1 a = some (.ins C dx fs) ∧ Cls K C ∧ NoAttr K C f ∧ fs.lookup f = some v ∧ Q v H1
def sFld (K : PySem.W.Frag) (ta tv : TE) (f : Str) : TS := fun D σ H => tv σ H fun y H1 => ta σ H1 fun x H2 => ∃ a C dx fs, x = .ref a ∧ H2 a = some (.ins C dx fs) ∧ Cls K C ∧ NoAttr K C f ∧ fs.length < 1000 ∧
  D.nx σ (upd H2 a (.ins C dx (putF f y fs)))

section
variable {X : Cx} {o e value : Expr} {f : Str} {pos pos' tpos : Pos} {ta tv : TE}
theorem pe_fld (he : PE X e ta) (hb : attributeBase e f X.env (eval e X.env) = eval e X.env) : PE X (.Attribute e f pos) (tFld X.K ta f) := by
  intro pins s σ H Q I h
  refine attr_of hb (thn (he pins s σ H _ I h) fun u s1 ⟨x, H1, I1, rx, a, C, dx, fs, v, ex, ea, c, n, l, q⟩ => ?_)
  subst ex
  obtain rfl : u = Value.ref a := rx
  exact getattr_ok I1 ea c n l fun u' s2 I2 ru => ⟨v, H1, I2, ru, q⟩
theorem ps_fld (ha : PE X o ta) (hv : PE X value tv) (hs : swapsWith value (some (.Attribute o f pos')) pos.line X.env = pure false) : PS X (.Assign [.Attribute o f pos'] value pos) (sFld X.K ta tv f) := by
  intro pins s σ H D I h
  refine plainObj_wpAny_Assign_Attribute (thn (hv pins s σ H _ I h) fun u s1 ⟨y, H1, I1, ry, q⟩ => thn (ha pins s1 σ H1 _ I1 q) fun ov s2 ⟨x, H2, I2, rx, a, C, dx, fs, ex, ea, c, n, l, q2⟩ => ?_) hs
  subst ex
  obtain rfl : ov = Value.ref a := rx
  exact setattr_ok I2 ea c n l ry fun s3 I3 => ⟨σ, _, I3, q2⟩

end

section
variable {X : Cx} {pins : List (Addr × Obj)} {σ : St} {H : Hp} {s : Shared} {A : Around} {E : Value → Shared → Prop} {Q : Value → Shared → Prop} {c : Value} {b : Bool}
inductive TyOf (K : PySem.W.Frag) (H : Hp) : V → Value → Prop where
  | non : TyOf K H .non (.type "NoneType")
  | bl (x : Bool) : TyOf K H (.bl x) (.type "bool")
  | int (i : Int) : TyOf K H (.int i) (.type "int")
  | str (x : Str) : TyOf K H (.str x) (.type "str")
  | flt (x : UInt64) : TyOf K H (.flt x) (.type "float")
  | lst {a : Addr} {xs : List V} (e : H a = some (.lst xs)) : TyOf K H (.ref a) (.type "list")
  | frz {a : Addr} {o : Obj} {xs : List V} (e : H a = some (.frz o (.lst xs))) : TyOf K H (.ref a) (.type "list")
  | tup {a : Addr} {xs : List V} (e : H a = some (.tup xs)) : TyOf K H (.ref a) (.type "tuple")
  | dK {a : Addr} {kvs : List (Key × V)} (e : H a = some (.dK kvs)) : TyOf K H (.ref a) (.type "dict")
  | dT {a : Addr} {kvs : List (List Key × V)} (e : H a = some (.dT kvs)) : TyOf K H (.ref a) (.type "dict")
  | ins {a C dx : Addr} {fs : List (Str × V)} (e : H a = some (.ins C dx fs)) (cl : Cls K C) (ha : PySem.W.findIn K (.ref C) "__class__" = some (some (.builtin "object.__class__")))
      (hn : PySem.W.specialIn K (.builtin "object.__class__") "__get__" = some (some (.builtin "getset_descriptor.__get__"))) (htk : PySem.W.takesIn K (.builtin "object.__class__") = some true)
      (hm : PySem.W.mroIn K C (.type "object") = some true) : TyOf K H (.ref a) (.ref C)
theorem isinst_ok {x : V} {u t : Value} (I : Inv X pins σ H s) (rx : RelV x u) (ty : TyOf X.K H x t) (e : PySem.W.kitOne X.K t c = some b) (h : ∀ tk, Q (.bool b) { s with toks := tk }) :
    wpAny (model X.prog X.w) A (call (.builtin "isinstance") [u, c]) Q E s := by
  cases ty with
  | non => cases (show u = Value.none from rx); exact PySem.W.kia_one PySem.W.kitx_none I.kIn True.intro e (fun z => nomatch z) h
  | bl y => cases (show u = Value.bool y from rx); exact PySem.W.kia_one PySem.W.kitx_bool I.kIn True.intro e (fun z => nomatch z) h
  | int i => obtain ⟨t, q⟩ := (show ∃ t, u = Value.int i t from rx); cases q; exact PySem.W.kia_one PySem.W.kitx_int I.kIn True.intro e (fun z => nomatch z) h
  | str y => obtain ⟨t, q⟩ := (show ∃ t, u = Value.str y t from rx); cases q; exact PySem.W.kia_one PySem.W.kitx_str I.kIn True.intro e (fun z => nomatch z) h
  | flt y => obtain ⟨t, q⟩ := (show ∃ t, u = Value.float y t from rx); cases q; exact PySem.W.kia_one PySem.W.kitx_float I.kIn True.intro e (fun z => nomatch z) h
  | @lst a xs ea =>
    cases (show u = Value.ref a from rx)
    obtain ⟨_, _, n, _, h1⟩ := (show ObjOk X.prog X.w H s.heap a (.lst xs) from I.hok a _ ea)
    exact PySem.W.kia_one PySem.W.kitx_list I.kIn ⟨_, h1, rfl⟩ e (fun z => nomatch z) h
  | @frz a ob xs ea =>
    cases (show u = Value.ref a from rx)
    obtain ⟨_, _, _, n, _, h1⟩ := (show ObjOk X.prog X.w H s.heap a (.frz ob (.lst xs)) from I.hok a _ ea)
    exact PySem.W.kia_one PySem.W.kitx_list I.kIn ⟨_, h1, rfl⟩ e (fun z => nomatch z) h
  | @tup a xs ea =>
    cases (show u = Value.ref a from rx)
    obtain ⟨_, _, _, p⟩ := (show ObjOk X.prog X.w H s.heap a (.tup xs) from I.hok a _ ea)
    obtain ⟨o, h1, h2, _⟩ := p
    exact PySem.W.kia_one PySem.W.kitx_tuple I.kIn ⟨o, h1, h2⟩ e (fun z => nomatch z) h
  | @dK a kvs ea =>
    cases (show u = Value.ref a from rx)
    obtain ⟨_, _, vs, _, p⟩ := (show ObjOk X.prog X.w H s.heap a (.dK kvs) from I.hok a _ ea)
    obtain ⟨o, es, ep, h1, h2, _⟩ := p
    exact PySem.W.kia_one PySem.W.kitx_dict I.kIn ⟨o, h1, h2.1⟩ e (fun z => nomatch z) h
  | @dT a kvs ea =>
    cases (show u = Value.ref a from rx)
    obtain ⟨_, _, xs, _, o, es, ep, h1, h2, _⟩ := (show ObjOk X.prog X.w H s.heap a (.dT kvs) from I.hok a _ ea)
    exact PySem.W.kia_one PySem.W.kitx_dict I.kIn ⟨o, h1, h2.1⟩ e (fun z => nomatch z) h
  | @ins a C dx fs ea cl ha hn htk hm =>
    cases (show u = Value.ref a from rx)
    obtain ⟨mA, O, _⟩ := ins_get I.hok ea
    obtain ⟨od, J, _⟩ := O.look
    exact PySem.W.kia_one (PySem.W.kitx_own (cl.get _) cl.hd ha hn htk hm) I.kIn J e (fun z => nomatch z) h
end
end L2

namespace L2
open PySem PySem.Spec PyProof.Rows

structure Room (k : Nat) (A : Around) : Prop where
  hd : A.handled = none
  dp : A.depth + 3 * k + 5 < recursionLimit
  un : A.units + 16 * k + 200 < cLine
theorem Room.mono {j k : Nat} {A : Around} (r : Room k A) (h : j ≤ k) : Room j A := ⟨r.hd, by have := r.dp; omega, by have := r.un; omega⟩
theorem Room.deeper {k : Nat} {A : Around} (r : Room (k + 1) A) (env : Env) : Room k (A.deeper env) :=
  ⟨r.hd, by have := r.dp; show A.depth + 1 + 3 * k + 5 < _; omega, by have := r.un; show A.units + 3 + 16 * k + 200 < _; omega⟩
theorem Room.in1 {k : Nat} {A : Around} (r : Room (k + 1) A) : Room k A.in1 :=
  ⟨r.hd, by have := r.dp; show A.depth + 3 * k + 5 < _; omega, by have := r.un; show A.units + 1 + 16 * k + 200 < _; omega⟩
theorem make_depth {A : Around} {C : Addr} {us : List Value} {kw : List (Str × Value)} : (A.under (.builtin "type.__call__" ⟨.ref C :: us, kw⟩)).depth = A.depth + 1 := by
  first | rfl | simp [Around.under, Code.weight, Code.isCreation, Code.isGuard, Code.isCaller, Code.frames, Code.isFrame, guardIds]
theorem make_units {A : Around} {C : Addr} {us : List Value} {kw : List (Str × Value)} : (A.under (.builtin "type.__call__" ⟨.ref C :: us, kw⟩)).units = A.units + 1 := by
  first | rfl | simp [Around.under, Code.cUnits, Code.frames, Code.isFrame]
theorem Room.make {k : Nat} {A : Around} (r : Room (k + 1) A) (C : Addr) (us : List Value) (kw : List (Str × Value)) : Room k (A.under (.builtin "type.__call__" ⟨.ref C :: us, kw⟩)) :=
  ⟨r.hd, by have := r.dp; rw [make_depth]; omega, by have := r.un; rw [make_units]; omega⟩
theorem Room.depth {k : Nat} {A : Around} (r : Room k A) : A.depth < recursionLimit := by have := r.dp; omega
theorem Room.units {k : Nat} {A : Around} (r : Room k A) : A.units + 64 < cLine := by have := r.un; omega

def tNil : TA := fun _ H Q => Q [] H
def tCons (ta : TE) (tr : TA) : TA := fun σ H Q => ta σ H fun x H1 => tr σ H1 fun xs H2 => Q (x :: xs) H2
section
variable {X : Cx} {e : Expr} {es : List Expr} {te : TE} {t : TA} {pos : Pos}
theorem pa_nil : PA X [] tNil := fun _ _ _ _ H Q I h => Calls.spliced_nil ⟨[], H, I, .nil, h⟩
theorem pa_cons (ha : PE X e te) (hr : PA X es t) (hs : starEach (e :: es) X.env = (false, eval e X.env) :: starEach es X.env := by rfl) : PA X (e :: es) (tCons te t) := by
  intro pos pins s σ H Q I h
  rw [hs]
  show wpAny _ _ (spliced ((false, eval e X.env) :: backTo pos (starEach es X.env))) _ _ s
  refine Calls.spliced_cons (thn (ha pins s σ H _ I h) fun u s1 ⟨x, H1, I1, r1, q1⟩ => ?_)
  exact thn (hr pos pins s1 σ H1 _ I1 q1) fun us s2 ⟨xs, H2, I2, r2, q2⟩ => ⟨x :: xs, H2, I2, .cons r1 r2, q2⟩

def tTup (t : TA) : TE := fun σ H Q => t σ H fun xs H1 => xs.length ≤ sizeLine ∧ ∀ p, H1 p = none → Q (.ref p) (upd H1 p (.tup xs))
def tLst (t : TA) : TE := fun σ H Q => t σ H fun xs H1 => xs.length ≤ sizeLine ∧ ∀ p, H1 p = none → Q (.ref p) (upd H1 p (.lst xs))
theorem pe_tup {x1} (h : PA X es t) : PE X (.Tuple es x1 pos) (tTup t) := by
  intro pins s σ H Q I hq
  refine wpAny_Tuple_spliced (thn (h pos pins s σ H _ I hq) fun us s1 ⟨xs, H1, I1, r, z, q⟩ => ⟨by rw [← r.length]; exact z, ?_⟩)
  have hf : H1 s1.heap.objs.size = none := I1.hok.fresh (Nat.le_refl _)
  refine ⟨.ref s1.heap.objs.size, upd H1 s1.heap.objs.size (.tup xs), I1.laid (t' := s1.toks) (fun b u e => Heap.get?_push_of_some _ e) (Nat.le_refl _) ?_, rfl, q _ hf⟩
  exact ⟨z, us, r, ⟨_, Heap.get?_push_size _ rfl, rfl, _, rfl⟩⟩
theorem pe_lst (h : PA X es t) : PE X (.List es pos) (tLst t) := by
  intro pins s σ H Q I hq
  refine wpAny_List_spliced (thn (h pos pins s σ H _ I hq) fun us s1 ⟨xs, H1, I1, r, z, q⟩ => ⟨by rw [← r.length]; exact z, ?_⟩)
  have hf : H1 s1.heap.objs.size = none := I1.hok.fresh (Nat.le_refl _)
  refine ⟨.ref s1.heap.objs.size, upd H1 s1.heap.objs.size (.lst xs), I1.laid (t' := s1.toks) (fun b u e => Heap.get?_push_of_some _ e) (Nat.le_refl _) ?_, rfl, q _ hf⟩
  exact ⟨z, us, 0, r, Heap.get?_push_size _ rfl⟩
end

abbrev Sp := List V → Hp → VK → XK → Prop
abbrev CXT := List Env → Hp → Shared → XK → Value → Shared → Prop

structure Env0 (P : Program) (w : World) (K : PySem.W.Frag) (mg : Str → Option Value) (base : Heap) (A : Around) (outer : List Env) (s : Shared) (H : Hp) : Prop where
  frames : A.frames = some outer
  mod : Mod K mg base
  bs : ∀ b o, base.get? b = some o → s.heap.get? b = some o ∧ H b = none
  bsz : base.objs.size ≤ s.heap.objs.size
  funs : s.heap.FunFrames base outer
  frf : ∀ b ∈ frs outer, H b = none
  hok : HOk P w H s.heap
  bare : AllBare s.gens
def CE (outer : List Env) (P : Program) (w : World) (H : Hp) (s : Shared) (Q : VK) (u : Value) (s' : Shared) : Prop :=
  ∃ v H', s'.os = s.os ∧ AllBare s'.gens ∧ Un (frs outer) [] H H' s.heap s'.heap ∧ HOk P w H' s'.heap ∧ RelV v u ∧ Q v H'
def CR (CX : CXT) (outer : List Env) (P : Program) (w : World) (H : Hp) (s : Shared) (Q : VK) (E : XK) (r : Result) (s' : Shared) : Prop :=
  match r with
  | .ok (.ret u) => CE outer P w H s Q u s'
  | .ok _ => False
  | .error e => CX outer H s E e s'
structure FnOk (P : Program) (w : World) (K : PySem.W.Frag) (mg : Str → Option Value) (base : Heap) (CX : CXT) (k : Nat) (f : Addr) (fd : FuncData) (ps : List Str) (sp : Sp) : Prop where
  len : ∀ vs H Q E, sp vs H Q E → vs.length = ps.length
  run : ∀ (A : Around) (outer : List Env) (s : Shared) (H : Hp) (args : Args) (us : List Value) (vs : List V) (Q : VK) (E : XK), Room k A → Env0 P w K mg base A outer s H → BindsTo s fd args (ps.zip us) → Vals vs us → sp vs H Q E →
    codeAny (model P w) A (.call (.ref f) args) (CR CX outer P w H s Q E) s
theorem FnOk.mono {P : Program} {w : World} {K : PySem.W.Frag} {mg : Str → Option Value} {base : Heap} {CX : CXT} {j k : Nat} {f : Addr} {fd : FuncData} {ps : List Str} {sp : Sp} (F : FnOk P w K mg base CX j f fd ps sp) (h : j ≤ k) :
    FnOk P w K mg base CX k f fd ps sp := ⟨F.len, fun A outer s H args us vs Q E hr => F.run A outer s H args us vs Q E (hr.mono h)⟩
theorem FnOk.imp {P : Program} {w : World} {K : PySem.W.Frag} {mg : Str → Option Value} {base : Heap} {CX : CXT} {k : Nat} {f : Addr} {fd : FuncData} {ps : List Str} {sp sp' : Sp} (F : FnOk P w K mg base CX k f fd ps sp)
    (h : ∀ vs H Q E, sp' vs H Q E → sp vs H Q E) : FnOk P w K mg base CX k f fd ps sp' :=
  ⟨fun vs H Q E q => F.len vs H Q E (h _ _ _ _ q), fun A outer s H args us vs Q E hr he hb hv hs => F.run A outer s H args us vs Q E hr he hb hv (h _ _ _ _ hs)⟩

theorem Env0.make {P : Program} {w : World} {K : PySem.W.Frag} {mg : Str → Option Value} {base : Heap} {A : Around} {outer : List Env} {s : Shared} {H : Hp} (e : Env0 P w K mg base A outer s H) (C : Addr) (us : List Value) (kw : List (Str × Value)) :
    Env0 P w K mg base (A.under (.builtin "type.__call__" ⟨.ref C :: us, kw⟩)) outer s H := ⟨by first | exact e.frames | (simpa [Around.under, Code.envs, Code.isFrame, pushEnvs] using e.frames), e.mod, e.bs, e.bsz, e.funs, e.frf, e.hok, e.bare⟩
theorem Env0.in1 {P : Program} {w : World} {K : PySem.W.Frag} {mg : Str → Option Value} {base : Heap} {A : Around} {outer : List Env} {s : Shared} {H : Hp} (e : Env0 P w K mg base A outer s H) :
    Env0 P w K mg base A.in1 outer s H := ⟨e.frames, e.mod, e.bs, e.bsz, e.funs, e.frf, e.hok, e.bare⟩

section
variable {X : Cx} {pins : List (Addr × Obj)} {σ : St} {H : Hp} {s s' : Shared}
theorem Inv.env0 (I : Inv X pins σ H s) : Env0 X.prog X.w X.K X.mg X.base X.A X.stack s H :=
  ⟨I.ok.frames, I.ok.mod, I.bs, Nat.le_trans I.ok.bsz I.sz, I.stack, I.stkFree, I.hok, I.bare⟩
theorem Inv.after {Q : VK} {u : Value} (I : Inv X pins σ H s) (h : CE X.stack X.prog X.w H s Q u s') : EP X pins σ Q u s' := by
  obtain ⟨v, H', os, bare, un, hok, r, q⟩ := h
  obtain ⟨hh, g, d, t, os'⟩ := s'
  obtain rfl : os' = s.os := os
  exact ⟨v, H', I.call (h' := hh) (g' := g) (d' := d) (t' := t) (ch := []) un hok bare (fun b z => absurd z (by simp)), r, q⟩
end

def tCall (sp : Sp) (dvs : List V) (E : XK) (t : TA) : TE := fun σ H Q => t σ H fun vs H1 => sp (vs ++ dvs) H1 Q E
def tMeth (C : Addr) (m : Str) (sp : Sp) (dvs : List V) (E : XK) (ta : TE) (t : TA) : TE := fun σ H Q => ta σ H fun x H1 => ∃ a dx fs, x = .ref a ∧ H1 a = some (.ins C dx fs) ∧ fs.lookup m = none ∧
  t σ H1 fun vs H2 => sp (x :: (vs ++ dvs)) H2 Q E
def tMake (C : Addr) (sp : Sp) (dvs : List V) (E : XK) (t : TA) : TE := fun σ H Q => t σ H fun vs H1 => ∀ x dx, H1 x = none → H1 dx = none → dx ≠ x →
  sp (.ref x :: (vs ++ dvs)) (upd (upd H1 dx (.own x)) x (.ins C dx [])) (fun v H2 => v = .non ∧ Q (.ref x) H2) E

def Binds (K : PySem.W.Frag) (fd : FuncData) (ps : List Str) (ds : List Value) : Prop :=
  ∀ (s : Shared) (us : List Value), K.In s.heap → (us ++ ds).length = ps.length → BindsTo s fd ⟨us, []⟩ (ps.zip (us ++ ds))
theorem Binds.all {K : PySem.W.Frag} {fd : FuncData} {ps : List Str} (h : ∀ us : List Value, us.length = ps.length → bindArgs fd ⟨us, []⟩ = pure (ps.zip us)) : Binds K fd ps [] := fun s us _ hl => by
  rw [List.append_nil] at hl ⊢
  exact .of_eq (h us hl)

def Passes (CX : CXT) (X : Cx) (E : XK) : Prop := ∀ (pins : List (Addr × Obj)) (σ : St) (H : Hp) (s : Shared) (e : Value) (s' : Shared), Inv X pins σ H s → CX X.stack H s E e s' → X.xe e s'

section
variable {X : Cx} {CX : CXT} {k : Nat} {f C : Addr} {fd : FuncData} {ps : List Str} {sp : Sp} {dvs : List V} {ds : List Value} {E : XK} {x m : Str} {p pos apos : Pos} {e o : Expr} {es : List Expr} {ta : TE} {t : TA}

theorem run_fn {pins : List (Addr × Obj)} {σ : St} {H : Hp} {s : Shared} {Q : VK} {us : List Value} {vs : List V} (F : FnOk X.prog X.w X.K X.mg X.base CX k f fd ps sp) (hr : Room k X.A) (hb : Binds X.K fd ps ds) (hd : Vals dvs ds) (hx : Passes CX X E)
    (I : Inv X pins σ H s) (r : Vals vs us) (h : sp (vs ++ dvs) H Q E) : wpAny (model X.prog X.w) X.A (call (.ref f) us) (EP X pins σ Q) X.xe s := by
  have r2 : Vals (vs ++ dvs) (us ++ ds) := r.append hd
  have hl : (us ++ ds).length = ps.length := by rw [← r2.length]; exact F.len _ _ _ _ h
  refine wpAny_call (codeAny_mono (F.run X.A X.stack s H ⟨us, []⟩ (us ++ ds) (vs ++ dvs) Q E hr I.env0 (hb s us I.kIn hl) r2 h) fun r s' hq => ?_)
  cases r with
  | error e => exact hx pins σ H s e s' I hq
  | ok fl =>
    cases fl with
    | ret u => exact I.after hq
    | next => exact False.elim hq
    | brk => exact False.elim hq
    | cont => exact False.elim hq

theorem pe_call (F : FnOk X.prog X.w X.K X.mg X.base CX k f fd ps sp) (hr : Room k X.A) (hg : Gl X x) (hm : X.mg x = some (.ref f)) (hk : PySem.W.keepIn X.K (.ref f) = true) (hb : Binds X.K fd ps ds) (hd : Vals dvs ds) (hx : Passes CX X E)
    (ha : PA X (e :: es) t) (hdb : (x == ("__debug__" : Str)) = false := by decide) (he : starEach (e :: es) X.env = (false, eval e X.env) :: starEach es X.env := by rfl) (hpl : (backTo pos (starEach es X.env)).any (·.1) = false := by rfl) :
    PE X (.Call (.Name x p) (e :: es) [] pos) (tCall sp dvs E t) := by
  intro pins s σ H Q I h
  refine wpAny_Call_Name_kw (ld_glob I hg hm ?_ hdb)
  refine PySem.W.callWith_K (h₀ := X.base) I.ok.mod.kin hk (thn (ha pos pins s σ H _ I h) fun us s1 ⟨vs, H1, I1, r, q⟩ => ⟨I1.kIn, ?_⟩) he hpl
  exact run_fn F hr hb hd hx I1 r q

theorem pe_meth {pl : Sem Bool} (he : PE X o ta) (c : Cls X.K C) (hm : Meth X.K C m f) (F : FnOk X.prog X.w X.K X.mg X.base CX k f fd ps sp) (hr : Room k X.A) (hb : Binds X.K fd ps ds) (hd : Vals dvs ds) (hx : Passes CX X E) (ha : PA X (e :: es) t)
    (hst : starEach (e :: es) X.env = (false, eval e X.env) :: starEach es X.env := by rfl) (hpl : (backTo pos (starEach es X.env)).any (·.1) = false := by rfl)
    (ht : eval (.Call (.Attribute o m apos) (e :: es) [] pos) X.env = (do
      let ov ← eval o X.env
      standAt apos.atName
      let (f, first) ← holding [ov] (getMethod ov m pl)
      callWith pos f first (backTo pos (starEach (e :: es) X.env)) (backToKw pos (keywordEach [] X.env))) := by rfl) :
    PE X (.Call (.Attribute o m apos) (e :: es) [] pos) (tMeth C m sp dvs E ta t) := by
  intro pins s σ H Q I h
  refine PySem.W.methodCall_KW (pl := pl) (thn (he pins s σ H _ I h) fun u s1 ⟨x, H1, I1, rx, a, dx, fs, ex, ea, l, q⟩ => ?_) ht
  subst ex
  obtain rfl : u = Value.ref a := rx
  refine getmeth_ok I1 ea c hm l ?_
  refine PySem.W.callWith_K (first := [.ref a]) (h₀ := X.base) I.ok.mod.kin hm.kp (thn (ha pos pins s1 σ H1 _ I1 q) fun us s2 ⟨vs, H2, I2, r, q2⟩ => ⟨I2.kIn, ?_⟩) hst hpl
  exact run_fn (us := .ref a :: us) (vs := .ref a :: vs) F hr hb hd hx I2 (.cons rfl r) q2
theorem pe_meth0 {pl : Sem Bool} (he : PE X o ta) (c : Cls X.K C) (hm : Meth X.K C m f) (F : FnOk X.prog X.w X.K X.mg X.base CX k f fd ps sp) (hr : Room k X.A) (hb : Binds X.K fd ps ds) (hd : Vals dvs ds) (hx : Passes CX X E)
    (ht : eval (.Call (.Attribute o m apos) [] [] pos) X.env = (do
      let ov ← eval o X.env
      standAt apos.atName
      let (f, first) ← holding [ov] (getMethod ov m pl)
      callWith pos f first (backTo pos (starEach [] X.env)) (backToKw pos (keywordEach [] X.env))) := by rfl) :
    PE X (.Call (.Attribute o m apos) [] [] pos) (tMeth C m sp dvs E ta tNil) := by
  intro pins s σ H Q I h
  refine PySem.W.methodCall_KW (pl := pl) (thn (he pins s σ H _ I h) fun u s1 ⟨x, H1, I1, rx, a, dx, fs, ex, ea, l, q⟩ => ?_) ht
  subst ex
  obtain rfl : u = Value.ref a := rx
  refine getmeth_ok I1 ea c hm l ?_
  exact PySem.W.callWith_K0 (first := [.ref a]) I1.kIn hm.kp (run_fn (us := [.ref a]) (vs := [.ref a]) F hr hb hd hx I1 (.cons rfl .nil) q)

structure Mk (K : PySem.W.Frag) (C f : Addr) : Prop where
  makes : PySem.W.makesIn K C = true
  init : PySem.W.findIn K (.ref C) "__init__" = some (some (.ref f))
  fn : PySem.W.isFn K (.ref f) = true
  kp : PySem.W.keepIn K (.ref C) = true

theorem run_make {pins : List (Addr × Obj)} {σ : St} {H : Hp} {s : Shared} {Q : VK} {us : List Value} {vs : List V} (M : Mk X.K C f) (F : FnOk X.prog X.w X.K X.mg X.base CX k f fd ps sp) (hr : Room (k + 1) X.A) (hb : Binds X.K fd ps ds) (hd : Vals dvs ds)
    (hx : Passes CX X E) (I : Inv X pins σ H s) (r : Vals vs us)
    (h : ∀ x dx, H x = none → H dx = none → dx ≠ x → sp (.ref x :: (vs ++ dvs)) (upd (upd H dx (.own x)) x (.ins C dx [])) (fun v H2 => v = .non ∧ Q (.ref x) H2) E) :
    wpAny (model X.prog X.w) X.A (call (.ref C) us) (EP X pins σ Q) X.xe s := by
  have hq := h (s.heap.objs.size + 1) s.heap.objs.size (I.hok.fresh (Nat.le_succ _)) (I.hok.fresh (Nat.le_refl _)) (Nat.ne_of_lt (Nat.lt_succ_self _))
  have I2 := Inv.made (C := C) I
  have r2 : Vals (V.ref (s.heap.objs.size + 1) :: (vs ++ dvs)) (Value.ref (s.heap.objs.size + 1) :: (us ++ ds)) := .cons rfl (r.append hd)
  have hl : (Value.ref (s.heap.objs.size + 1) :: us ++ ds).length = ps.length := by
    have e := r2.length
    rw [F.len _ _ _ _ hq] at e
    exact e.symm
  refine wpAny_call (make_map (f := f) I.kIn M.makes M.init (beq_iff_eq.mp M.fn) (codeAny_mono (F.run _ X.stack _ _ ⟨Value.ref (s.heap.objs.size + 1) :: us, []⟩ (Value.ref (s.heap.objs.size + 1) :: (us ++ ds)) _ _ E (hr.make C us [])
    (I2.env0.make C us []) (hb _ (Value.ref (s.heap.objs.size + 1) :: us) I2.kIn hl) r2 hq) fun r s' hq' => ?_))
  cases r with
  | error e => exact hx pins σ _ _ e s' I2 hq'
  | ok fl =>
    cases fl with
    | ret u =>
      obtain ⟨v, H', I3, rv, ev, q3⟩ := I2.after hq'
      subst ev
      exact ⟨rv, ⟨V.ref (s.heap.objs.size + 1), H', I3, rfl, q3⟩⟩
    | next => exact False.elim hq'
    | brk => exact False.elim hq'
    | cont => exact False.elim hq'
theorem pe_make (M : Mk X.K C f) (F : FnOk X.prog X.w X.K X.mg X.base CX k f fd ps sp) (hr : Room (k + 1) X.A) (hg : Gl X x) (hm : X.mg x = some (.ref C)) (hb : Binds X.K fd ps ds) (hd : Vals dvs ds) (hx : Passes CX X E)
    (ha : PA X (e :: es) t) (hdb : (x == ("__debug__" : Str)) = false := by decide) (he : starEach (e :: es) X.env = (false, eval e X.env) :: starEach es X.env := by rfl) (hpl : (backTo pos (starEach es X.env)).any (·.1) = false := by rfl) :
    PE X (.Call (.Name x p) (e :: es) [] pos) (tMake C sp dvs E t) := by
  intro pins s σ H Q I h
  refine wpAny_Call_Name_kw (ld_glob I hg hm ?_ hdb)
  refine PySem.W.callWith_K (h₀ := X.base) I.ok.mod.kin M.kp (thn (ha pos pins s σ H _ I h) fun us s1 ⟨vs, H1, I1, r, q⟩ => ⟨I1.kIn, ?_⟩) he hpl
  exact run_make M F hr hb hd hx I1 r q
end

section
variable {X : Cx} {CX : CXT} {k : Nat} {f C : Addr} {fd : FuncData} {ps ks : List Str} {sp : Sp} {E : XK} {x m : Str} {p pos apos kpos : Pos} {e o : Expr} {es : List Expr} {kws : List Keyword} {te ta : TE} {t tk : TA} {nm : Option Str}

structure KBinds (K : PySem.W.Frag) (fd : FuncData) (ps ks : List Str) (g : List Value → List Value → List Value) (gV : List V → List V → List V) : Prop where
  to : ∀ (s : Shared) (us ws : List Value), K.In s.heap → (g us ws).length = ps.length → BindsTo s fd ⟨us, ks.zip ws⟩ (ps.zip (g us ws))
  rel : ∀ {vs : List V} {us : List Value} {zs : List V} {ws : List Value}, Vals vs us → Vals zs ws → Vals (gV vs zs) (g us ws)
variable {g : List Value → List Value → List Value} {gV : List V → List V → List V}
end

structure FnScope (N P : List Str) (sc : Scope) : Prop where
  kind : sc.kind = .function
  co : sc.isCoroutine = false
  gen : sc.isGenerator = false
  nd : N.Nodup
  pre : N.take P.length = P
  par : ∀ x ∈ P, sc.names.lookup x = some .local ∨ sc.names.lookup x = some .cell
  nofree : ∀ y ∈ sc.names, y.2 ≠ .free

theorem bindL_out {kindOf : Str → Option NameKind} {x : Str} : ∀ {binds : List (Str × Value)} {m : Str → Option Value}, (∀ v, (x, v) ∉ binds) → bindL kindOf binds m x = m x
  | [], _, _ => rfl
  | (n, v) :: r, m, h => by
    unfold bindL
    rw [bindL_out fun w hw => h w (List.mem_cons_of_mem _ hw)]
    split
    · have : x ≠ n := by rintro rfl; exact h v List.mem_cons_self
      simp [this]
    · rfl
theorem bindC_out {kindOf : Str → Option NameKind} {x : Str} : ∀ {binds : List (Str × Value)} {m : Str → Option Value}, (∀ v, (x, v) ∉ binds) → bindC kindOf binds m x = m x
  | [], _, _ => rfl
  | (n, v) :: r, m, h => by
    unfold bindC
    rw [bindC_out fun w hw => h w (List.mem_cons_of_mem _ hw)]
    split
    · rfl
    · have : x ≠ n := by rintro rfl; exact h v List.mem_cons_self
      simp [this]
theorem bindL_get {kindOf : Str → Option NameKind} {x : Str} {v : Value} : ∀ {P : List Str} {vs : List Value} {i : Nat} {m : Str → Option Value}, P.Nodup → P[i]? = some x → vs[i]? = some v → kindOf x = some .local →
    bindL kindOf (P.zip vs) m x = some v
  | [], _, _, _, _, h, _, _ => by simp at h
  | _ :: _, [], _, _, _, _, h, _ => by simp at h
  | p :: P, w :: vs, 0, m, nd, h1, h2, hk => by
    simp at h1 h2; subst h1; subst h2
    show bindL kindOf ((p, w) :: P.zip vs) m p = _
    unfold bindL
    rw [bindL_out fun v hv => (List.nodup_cons.mp nd).1 (List.of_mem_zip hv).1, if_pos hk]
    simp
  | p :: P, w :: vs, i + 1, m, nd, h1, h2, hk => by
    show bindL kindOf ((p, w) :: P.zip vs) m x = _
    unfold bindL
    exact bindL_get (i := i) (List.nodup_cons.mp nd).2 (by simpa using h1) (by simpa using h2) hk
theorem bindC_get {kindOf : Str → Option NameKind} {x : Str} {v : Value} : ∀ {P : List Str} {vs : List Value} {i : Nat} {m : Str → Option Value}, P.Nodup → P[i]? = some x → vs[i]? = some v → kindOf x ≠ some .local →
    bindC kindOf (P.zip vs) m x = some v
  | [], _, _, _, _, h, _, _ => by simp at h
  | _ :: _, [], _, _, _, _, h, _ => by simp at h
  | p :: P, w :: vs, 0, m, nd, h1, h2, hk => by
    simp at h1 h2; subst h1; subst h2
    show bindC kindOf ((p, w) :: P.zip vs) m p = _
    unfold bindC
    rw [bindC_out fun v hv => (List.nodup_cons.mp nd).1 (List.of_mem_zip hv).1, if_neg hk]
    simp
  | p :: P, w :: vs, i + 1, m, nd, h1, h2, hk => by
    show bindC kindOf ((p, w) :: P.zip vs) m x = _
    unfold bindC
    exact bindC_get (i := i) (List.nodup_cons.mp nd).2 (by simpa using h1) (by simpa using h2) hk

def start (N : List Str) (vs : List V) : St := vs.map some ++ List.replicate (N.length - vs.length) none

def cxOf (CX : CXT) (P : Program) (w : World) (K : PySem.W.Frag) (mg : Str → Option Value) (base : Heap) (N : List Str) (qual : Str) (scope : Scope) (f : Addr) (cd : Value) (A : Around) (outer : List Env) (s : Shared) (H : Hp) (E : XK) : Cx where
  prog := P
  w := w
  K := K
  mg := mg
  base := base
  A := A.deeper (envOfC qual scope s.heap.objs.size f cd)
  N := N
  s₀ := s
  H₀ := H
  env := envOfC qual scope s.heap.objs.size f cd
  outer := outer
  stack := envOfC qual scope s.heap.objs.size f cd :: outer
  ex := []
  calm := true
  fn := fun _ => true
  pn := []
  xe := fun e s' => wpAny (model P w) (A.deeper (envOfC qual scope s.heap.objs.size f cd)) (leaving (envOfC qual scope s.heap.objs.size f cd) e) (fun _ s'' => CX outer H s E e s'') (fun e' s'' => CX outer H s E e' s'') s'

theorem cell_has {sc : Scope} {n : Nat} {x : Str} (h : sc.names.lookup x = some .cell) : ∃ c, (cellsFrom n sc.names []).lookup x = some c := by
  have q := PySem.W.cellsFrom_some sc.names n [] (.inl h)
  exact Option.isSome_iff_exists.mp q

theorem inv_start {CX : CXT} {P : Program} {w : World} {K : PySem.W.Frag} {mg : Str → Option Value} {base : Heap} {N ps : List Str} {qual : Str} {scope : Scope} {f : Addr} {cd : Value} {A : Around} {outer : List Env} {s s1 : Shared} {H : Hp} {E : XK} {us : List Value} {vs : List V}
    (S : FnScope N ps scope) (hd : A.handled = none) (e0 : Env0 P w K mg base A outer s H) (hl : vs.length = ps.length) (r : Vals vs us)
    (x : InCallC s s.heap.objs.size (bindL (envOfC qual scope s.heap.objs.size f cd).kindOf (ps.zip us) fun _ => none) (cellsFrom (s.heap.objs.size + 1) scope.names []) (bindC (envOfC qual scope s.heap.objs.size f cd).kindOf (ps.zip us) fun _ => none) s1) :
    Inv (cxOf CX P w K mg base N qual scope f cd A outer s H E) [] (start N vs) H s1 := by
  have hpl : ps.length ≤ N.length := by have := congrArg List.length S.pre; rw [List.length_take] at this; omega
  obtain ⟨h1, tk, rfl, hk⟩ := x.done
  have noA : ∀ b : Addr, b ∉ (cxOf CX P w K mg base N qual scope f cd A outer s H E).ex := fun b z => absurd (show b ∈ ([] : List Addr) from z) (by simp)
  refine ⟨⟨e0.mod, S.kind, rfl, rfl, Nat.le_refl _, fun y z c h1 h2 => ?_, fun y hy => ?_, fun y c _ h => ?_, fun _ => hd, Around.frames_deeper e0.frames, .inr ⟨rfl, rfl⟩, fun b z => absurd z (noA b), e0.bs, e0.bsz, fun b _ _ => noA b, fun b z => absurd z (noA b), e0.funs, e0.frf⟩,
    rfl, e0.bare, Un.kept hk, ⟨_, x.toInCall.ns, fun i y v h1 h2 h3 => ?_⟩, fun y c h => ⟨_, x.cell y c h⟩, e0.hok.fresh (Nat.le_refl _), fun y c h => ?_, fun p hp => absurd (show p ∈ ([] : List (Addr × Obj)) from hp) (by simp), e0.hok.kept hk, ?_⟩
  · exact name_of_addr x.apart (PySem.mem_of_lookup h1) (PySem.mem_of_lookup h2)
  · have hy : scope.names.lookup y = some .cell ∨ scope.names.lookup y = some .free := hy
    rcases hy with hy | hy
    · exact cell_has hy
    · exact absurd rfl (S.nofree _ (PySem.mem_of_lookup hy))
  · exact Nat.le_of_lt (x.above y c (PySem.mem_of_lookup h))
  · have hi : i < vs.length := by
      unfold start at h2
      by_cases hi : i < vs.length
      · exact hi
      · rw [List.getElem?_append_right (by simpa using hi)] at h2
        rw [List.getElem?_replicate] at h2
        split at h2 <;> cases h2
    have ha : vs[i]? = some v := by
      unfold start at h2
      rw [List.getElem?_append_left (by simpa using hi), List.getElem?_map] at h2
      cases e : vs[i]? with
      | none => rw [e] at h2; cases h2
      | some a => rw [e] at h2; cases h2; rfl
    obtain ⟨u, hu, rv⟩ := r.get ha
    have hp : ps[i]? = some y := by
      rw [← S.pre, List.getElem?_take_of_lt (by omega)]; exact h1
    have ndP : ps.Nodup := by rw [← S.pre]; exact S.nd.sublist (List.take_sublist _ _)
    refine ⟨u, rv, ?_⟩
    rcases S.par y (List.mem_of_getElem? hp) with k | k
    · exact .inl ⟨k, bindL_get ndP hp hu k⟩
    · obtain ⟨c, e⟩ := cell_has (n := s.heap.objs.size + 1) k
      refine .inr ⟨.inl k, c, e, ?_⟩
      have q := x.cell y c e
      rw [bindC_get ndP hp hu (by show scope.names.lookup y ≠ _; rw [k]; decide)] at q
      exact q
  · exact e0.hok.fresh (Nat.le_of_lt (x.above y c (PySem.mem_of_lookup h)))
  · unfold start
    show _ = N.length
    rw [List.length_append, List.length_map, List.length_replicate]
    omega

theorem fn_of {CX : CXT} {P : Program} {w : World} {K : PySem.W.Frag} {mg : Str → Option Value} {base : Heap} {k : Nat} {f : Addr} {name qual : Str} {params : Arguments} {body : List Stmt} {scope : Scope} {dV kV doc pm cdv ct oc : Value} {an od : Option Addr}
    {osl : Array (Option Value)} {N ps : List Str} {sp : Sp} (lk : K.lookup f = some ⟨oc, od, .func (PySem.W.fnOf name qual params body scope dV kV doc pm an cdv ct), osl⟩) (hcd : PySem.W.codeIn K cdv qual = true) (S : FnScope N ps scope)
    (len : ∀ vs H Q E, sp vs H Q E → vs.length = ps.length)
    (hbody : ∀ (A : Around) (outer : List Env) (s : Shared) (H : Hp) (vs : List V) (Q : VK) (E : XK), Room k (A.deeper (envOfC qual scope s.heap.objs.size f cdv)) → sp vs H Q E →
      ∃ t, PSs (cxOf CX P w K mg base N qual scope f cdv A outer s H E) body t ∧ t { nx := fun _ H' => Q .non H', rt := Q } (start N vs) H) :
    FnOk P w K mg base CX (k + 1) f (PySem.W.fnOf name qual params body scope dV kV doc pm an cdv ct) ps sp := by
  refine ⟨len, fun A outer s H args us vs Q E hr e0 hb r hsp => ?_⟩
  have hl := len _ _ _ _ hsp
  have KX : K.In s.heap := e0.mod.kin.keeps fun b o e => (e0.bs b o e).1
  have lim : s.heap.NoLimit := e0.mod.nolimit.keeps fun b o e => (e0.bs b o e).1
  have hkind : ∀ y ∈ ps.zip us, scope.names.lookup y.1 = some .local ∨ (scope.names.lookup y.1 = some .cell ∧ ((cellsFrom (s.heap.objs.size + 1) scope.names []).lookup y.1).isSome = true) := fun ⟨n, v⟩ hy => by
    rcases S.par n (List.of_mem_zip hy).1 with q | q
    · exact .inl q
    · exact .inr ⟨q, PySem.W.cellsFrom_some _ _ _ (.inl q)⟩
  refine codeAny_call_function hr.depth (KX _ _ lk) rfl S.co S.gen rfl (PySem.W.codeRec_of KX hcd) (hb _ _ _ _ ?_)
  refine wpAny_newFunctionEnv_cells S.kind hkind fun env he s1 x => ?_
  subst he
  refine ⟨lim.keeps x.toInCall.keep, codeAny_func ?_⟩
  obtain ⟨t, ht, hq⟩ := hbody A outer s H vs Q E (hr.deeper _) hsp
  have I : Inv (cxOf CX P w K mg base N qual scope f cdv A outer s H E) [] (start N vs) H s1 := inv_start S hr.hd e0 hl r x
  refine wpAny_mono (ht [] s1 (start N vs) H _ I hq) (fun fl s' hs => ?_) fun e s' hs => hs
  have fin : ∀ {σ' : St} {H' : Hp} {v : V} {u : Value}, Inv (cxOf CX P w K mg base N qual scope f cdv A outer s H E) [] σ' H' s' → RelV v u → Q v H' → CE outer P w H s Q u s' :=
    fun {σ' H' v u} J rv q => ⟨v, H', J.os, J.bare, J.base, J.hok, rv, q⟩
  cases fl with
  | ret u =>
    obtain ⟨v, σ', H', J, rv, q⟩ := hs
    exact fin J rv q
  | next =>
    obtain ⟨σ', H', J, q⟩ := hs
    exact fin (v := V.non) (u := Value.none) J rfl q
  | brk =>
    obtain ⟨_, _, _, q⟩ := hs
    exact False.elim q
  | cont =>
    obtain ⟨_, _, _, q⟩ := hs
    exact False.elim q
end L2

namespace L2
open PySem PySem.Spec PyProof.Rows
section
variable {X : Cx} {x : Str} {p pos : Pos} {e : Expr} {es : List Expr} {t : TA} {id T : String} {r : List V → Hp → VK → Prop}

def tCB (r : List V → Hp → VK → Prop) (t : TA) : TE := fun σ H Q => t σ H fun vs H1 => r vs H1 Q
theorem pe_callB (hc : CallR X (.builtin id) r) (hg : Gl X x) (hm : X.mg x = none) (hv : bootBuiltins x = some (.builtin id)) (ha : PA X (e :: es) t) (hn : x ≠ "__name__" := by decide) (hdb : (x == ("__debug__" : Str)) = false := by decide)
    (he : starEach (e :: es) X.env = (false, eval e X.env) :: starEach es X.env := by rfl) (hpl : (backTo pos (starEach es X.env)).any (·.1) = false := by rfl) : PE X (.Call (.Name x p) (e :: es) [] pos) (tCB r t) := by
  intro pins s σ H Q I h
  refine wpAny_Call_Name_kw (ld_blt I hg hm hv ?_ hn hdb)
  exact PyProof.Rows.callWith_builtin1 (thn (ha pos pins s σ H _ I h) fun us s1 ⟨vs, H1, I1, r1, q1⟩ => hc pins s1 σ H1 vs us Q I1 r1 q1) he hpl
theorem pe_callTy (hc : CallR X (.type T) r) (hg : Gl X x) (hm : X.mg x = none) (hv : bootBuiltins x = some (.type T)) (ha : PA X (e :: es) t) (hn : x ≠ "__name__" := by decide) (hdb : (x == ("__debug__" : Str)) = false := by decide)
    (he : starEach (e :: es) X.env = (false, eval e X.env) :: starEach es X.env := by rfl) (hpl : (backTo pos (starEach es X.env)).any (·.1) = false := by rfl) : PE X (.Call (.Name x p) (e :: es) [] pos) (tCB r t) := by
  intro pins s σ H Q I h
  refine wpAny_Call_Name_kw (ld_blt I hg hm hv ?_ hn hdb)
  exact PyProof.Rows.callWith_type1 (thn (ha pos pins s σ H _ I h) fun us s1 ⟨vs, H1, I1, r1, q1⟩ => hc pins s1 σ H1 vs us Q I1 r1 q1) he hpl
end
end L2

namespace HT
open PySem PyProof.Rows



section
open PySem.SeqAt
open PySem.AutoSeq1 (wpAny_loadPart')
open PySem.MeetsSeq PySem.MeetsSeq2 PySem.MeetsSeq3

end

section
variable {prog : Program} {w : World} {A : Around} {E : Value → Shared → Prop} {s : Shared}


theorem cat_tup {t b : Addr} {vs ws : List Value} {Q : Value → Shared → Prop} (ht : IsTup s.heap t vs.toArray) (hb : IsTup s.heap b ws.toArray) (hv : vs ≠ [])
    (h1 : ws = [] → Q (.ref t) s) (h2 : ws ≠ [] → Q (.ref s.heap.objs.size) { s with heap := s.heap.push { cls := .type "tuple", data := .seq (vs ++ ws).toArray } })
    (hsz : vs.length + ws.length ≤ sizeLine) : wpAny (model prog w) A (binaryOp .Add (.ref t) (.ref b)) Q E s := by
  obtain ⟨⟨cls, dd, data, sl⟩, ho, hc, n, hd⟩ := id ht
  obtain ⟨⟨cls2, dd2, data2, sl2⟩, ho2, hc2, n2, hd2⟩ := id hb
  simp only at hc hd hc2 hd2
  subst hc hd hc2 hd2
  have e : vs.toArray ++ ws.toArray = (vs ++ ws).toArray := by simp
  by_cases hw : ws = []
  · exact concat_meets ⟨_, ho, rfl⟩ ⟨_, ho2, rfl⟩ noFill_tuple_add seq_tuple_add PySem.F.slot_tuple_add PySem.F.entry_tuple_add (PySem.F.args_tuple_add_2 _ _)
      (tuple_addW1 t b vs.toArray ws.toArray n n2 dd dd2 sl sl2 (by simpa using hv) (by simp [hw])) ⟨ho, ho2, h1 hw⟩
  · refine concat_meets ⟨_, ho, rfl⟩ ⟨_, ho2, rfl⟩ noFill_tuple_add seq_tuple_add PySem.F.slot_tuple_add PySem.F.entry_tuple_add (PySem.F.args_tuple_add_2 _ _)
      (tuple_addW2 t b vs.toArray ws.toArray n n2 dd dd2 sl sl2 (by simpa using hv) (by simpa using hw) (by rw [List.size_toArray, List.size_toArray]; exact hsz)) ⟨ho, ho2, ?_⟩
    rw [e]
    exact h2 hw

def sIx (n d : Nat) : Option Int → Nat
  | none => d
  | some v => if v < 0 then (v + (n : Int)).toNat else min v.toNat n
theorem sIx_none (n d : Nat) : sIx n d none = d := rfl
theorem sIx_nat (n d k : Nat) : sIx n d (some (k : Int)) = min k n := by
  show (if (k : Int) < 0 then ((k : Int) + (n : Int)).toNat else min (k : Int).toNat n) = min k n
  rw [if_neg (by omega), Int.toNat_natCast]
theorem sIx_le (n d : Nat) (hd : d ≤ n) (o : Option Int) : sIx n d o ≤ n := by
  cases o with
  | none => exact hd
  | some v =>
    show (if v < 0 then (v + (n : Int)).toNat else min v.toNat n) ≤ n
    by_cases hv : v < 0
    · rw [if_pos hv]; omega
    · rw [if_neg hv]; exact Nat.min_le_right _ _
theorem clip_eq (v : Int) (n d : Nat) : (if v < 0 then max (v + (n : Int)) 0 else min v (n : Int)) = ((sIx n d (some v) : Nat) : Int) := by
  show (if v < 0 then max (v + (n : Int)) 0 else min v (n : Int)) = (((if v < 0 then (v + (n : Int)).toNat else min v.toNat n) : Nat) : Int)
  by_cases hv : v < 0
  · simp only [if_pos hv]; omega
  · simp only [if_neg hv]; omega
theorem adjust_gen (lo hi : Option Int) (n : Nat) : Builtin.Slice.sliceAdjust lo hi 1 (n : Int) = (((sIx n 0 lo : Nat) : Int), ((sIx n n hi : Nat) : Int)) := by
  have h1 : ¬ ((1 : Int) < 0) := by omega
  unfold Builtin.Slice.sliceAdjust
  simp only [h1, if_false]
  refine Prod.ext ?_ ?_
  · cases lo with
    | none => rfl
    | some v => exact clip_eq v n 0
  · cases hi with
    | none => rfl
    | some v => exact clip_eq v n n
theorem places_gen (i j : Nat) : Builtin.Slice.slicePlaces (i : Int) (j : Int) 1 = j - i := by
  unfold Builtin.Slice.slicePlaces
  have h1 : (1 : Int) > 0 := by omega
  simp only [h1, if_true, Int.ediv_one]
  split <;> omega
theorem slicePart_ {v : Value} {o : Option Int} {Q : Option Int → Shared → Prop} (p : IsPart v o) (h : Q o s) : wpAny (model prog w) A (Builtin.Slice.slicePartIndex v) Q E s := by
  cases p with
  | none => exact slicePart_none h
  | int i t => exact slicePart_int h
theorem sliceApplied_gen {sl : Addr} {vl vu : Value} {lo hi : Option Int} {n : Nat} {Q : Int × Int × Nat → Shared → Prop} (hs : s.heap.IsSliceOf sl vl vu .none) (pl : IsPart vl lo) (pu : IsPart vu hi)
    (h : Q (((sIx n 0 lo : Nat) : Int), 1, sIx n n hi - sIx n 0 lo) s) : wpAny (model prog w) A (Builtin.Slice.sliceApplied (.ref sl) (pure (n : Int))) Q E s := by
  obtain ⟨os, hos, hcs, hds⟩ := id hs
  unfold Builtin.Slice.sliceApplied Builtin.Slice.sliceFields
  refine wpAny_bind (wpAny_bind (wpAny_field hos hds (x := vl) rfl (wpAny_bind (wpAny_field hos hds (x := vu) rfl (wpAny_bind (wpAny_field hos hds (x := .none) rfl (wpAny_pure ?_)))))))
  refine wpAny_bind (slicePart_none ?_)
  show wpAny _ _ (if ((1 : Int) == 0) = true then _ else _) _ _ s
  rw [if_neg (by decide)]
  refine wpAny_bind (slicePart_ pl (wpAny_bind (slicePart_ pu (wpAny_bind (wpAny_pure ?_)))))
  show wpAny _ _ (match Builtin.Slice.sliceAdjust lo hi 1 (n : Int) with | (lo, hi) => pure (lo, (1 : Int), Builtin.Slice.slicePlaces lo hi 1)) _ _ s
  rw [adjust_gen lo hi n]
  show wpAny _ _ (pure (((sIx n 0 lo : Nat) : Int), (1 : Int), Builtin.Slice.slicePlaces ((sIx n 0 lo : Nat) : Int) ((sIx n n hi : Nat) : Int) 1)) _ _ s
  rw [places_gen]
  exact wpAny_pure h
theorem pick_gen (xs : Array Value) (i k : Nat) : ((List.range k).filterMap fun (m : Nat) => xs[((i : Int) + (m : Int) * 1).toNat]?).toArray = ((xs.toList.drop i).take k).toArray := by
  have e : (fun (m : Nat) => xs[((i : Int) + (m : Int) * 1).toNat]?) = fun m => xs[i + m]? := by
    funext m
    have : ((i : Int) + (m : Int) * 1).toNat = i + m := by omega
    rw [this]
  rw [e]
  have := pick_run xs i k
  rw [List.filterMap_map] at this
  have e2 : ((fun x => xs[x]?) ∘ fun x => i + x) = fun m => xs[i + m]? := rfl
  rw [e2] at this
  rw [this]

theorem getItem_tuple_cut {t sl : Addr} {items : Array Value} {vl vu : Value} {lo hi : Option Int} {Q : Value → Shared → Prop} (ht : IsTup s.heap t items) (hs : s.heap.IsSliceOf sl vl vu .none) (pl : IsPart vl lo) (pu : IsPart vu hi)
    (hw : ¬ (sIx items.size 0 lo = 0 ∧ sIx items.size items.size hi = items.size))
    (h : Q (.ref s.heap.objs.size) { s with heap := s.heap.push { cls := .type "tuple", data := .seq ((items.toList.drop (sIx items.size 0 lo)).take (sIx items.size items.size hi - sIx items.size 0 lo)).toArray } })
    (hsz : items.size ≤ sizeLine) : wpAny (model prog w) A (getItem (.ref t) (.ref sl)) Q E s := by
  have htake : sizeOk (.seq ((items.toList.drop (sIx items.size 0 lo)).take (sIx items.size items.size hi - sIx items.size 0 lo)).toArray) := by
    show ((items.toList.drop (sIx items.size 0 lo)).take (sIx items.size items.size hi - sIx items.size 0 lo)).toArray.size ≤ sizeLine
    rw [List.size_toArray, List.length_take, List.length_drop, Array.length_toList]
    omega
  have hj : sIx items.size items.size hi ≤ items.size := sIx_le _ _ (Nat.le_refl _) hi
  obtain ⟨os, hos, hcs, hds⟩ := id hs
  have hTs : s.TypeIs (.ref sl) "slice" := ⟨os, hos, hcs⟩
  unfold getItem
  try with_reducible refine wpAny_holding ?_
  first | refine wpAny_bind (wpAny_pure ?_) | skip
  refine wpAny_bind (wpAny_sequenceKey ht.typeIs (by decide) ?_)
  refine wpAny_bind (wpAny_callSpecial?_slot (name := Str.ofString "__getitem__") ht.typeIs PyProof.Rows.slot_tuple_getitem
    (wpAny_call_entry PyProof.Rows.slot_tuple_getitem ht.typeIs entry_tuple_getitem ?_ (args_tuple_getitem _ _)))
  show wpAny _ _ (Builtin.Tuple.tupleItemsOf (.ref t) >>= _) _ _ s
  refine wpAny_bind (tupleItemsOf_ ht ?_)
  refine wpAny_bind (wpAny_typeOf hTs ?_)
  rw [if_pos (by decide)]
  refine wpAny_bind (sliceApplied_gen hs pl pu ?_)
  have hno : ¬ ((((sIx items.size 0 lo : Nat) : Int) == 0 && (1 : Int) == 1 && (sIx items.size items.size hi - sIx items.size 0 lo) == items.size) = true) := by
    intro q
    rw [Bool.and_eq_true, Bool.and_eq_true] at q
    have q1 : ((sIx items.size 0 lo : Nat) : Int) = 0 := eq_of_beq q.1.1
    have q2 : sIx items.size items.size hi - sIx items.size 0 lo = items.size := eq_of_beq q.2
    exact hw ⟨by omega, by omega⟩
  show wpAny _ _ (if (((sIx items.size 0 lo : Nat) : Int) == 0 && (1 : Int) == 1 && (sIx items.size items.size hi - sIx items.size 0 lo) == items.size) = true then _ else _) _ _ s
  rw [if_neg hno, pick_gen]
  first
    | exact wpAny_bind (m := Builtin.Tuple.tupleExact _) (wpAny_newObj_type (wpAny_pure ⟨_, rfl, wpAny_pure h⟩) htake)
    | exact wpAny_bind (m := Builtin.Tuple.tupleExact _) (wpAny_newObj_type (wpAny_bind (wpAny_pure (wpAny_pure ⟨_, rfl, wpAny_pure h⟩))) htake)
    | exact wpAny_bind (wpAny_bind (m := Builtin.Tuple.tupleExact _) (wpAny_newObj_type (wpAny_pure (wpAny_pure ⟨_, rfl, wpAny_pure h⟩)) htake))
    | exact wpAny_bind (wpAny_bind (m := Builtin.Tuple.tupleExact _) (wpAny_newObj_type (wpAny_pure ⟨_, rfl, wpAny_pure h⟩) htake))
end
end HT

namespace L2
open PySem PySem.Spec PyProof.Rows

abbrev TO := St → Hp → (Option Int → Hp → Prop) → Prop
def PO (X : Cx) (e : Option Expr) (t : TO) : Prop :=
  ∀ (pins : List (Addr × Obj)) (s : Shared) (σ : St) (H : Hp) (Q : Option Int → Hp → Prop), Inv X pins σ H s → t σ H Q →
    wpAny (model X.prog X.w) X.A (evalPart e X.env) (fun u s' => ∃ o H', Inv X pins σ H' s' ∧ IsPart u o ∧ Q o H') X.xe s
def tNoPart : TO := fun _ H Q => Q none H
def tPart (t : TE) : TO := fun σ H Q => t σ H fun x H1 => ∃ i, x = .int i ∧ Q (some i) H1


section
variable {X : Cx} {e : Expr} {te : TE} {lo hi : Option Expr} {tl th : TO} {pos p2 : Pos}

theorem po_none : PO X none tNoPart := by
  intro pins s σ H Q I h
  rw [evalPart_none]
  exact wpAny_pure ⟨none, H, I, .none, h⟩
theorem po_some (h : PE X e te) : PO X (some e) (tPart te) := by
  intro pins s σ H Q I hw
  rw [evalPart_some]
  refine thn (h pins s σ H _ I hw) fun u s1 ⟨x, H1, I1, r1, q1⟩ => ?_
  obtain ⟨i, rfl, q⟩ := q1
  obtain ⟨t, rfl⟩ := r1
  exact ⟨some i, H1, I1, .int i t, q⟩

def SlR (X : Cx) (r : V → Option Int → Option Int → Hp → VK → Prop) : Prop :=
  ∀ (pins : List (Addr × Obj)) (s : Shared) (σ : St) (H : Hp) (x : V) (v vl vu : Value) (lo hi : Option Int) (sl : Addr) (Q : VK), Inv X pins σ H s → RelV x v → s.heap.IsSliceOf sl vl vu .none → IsPart vl lo → IsPart vu hi → r x lo hi H Q →
    ∃ T id, typeLookup (.type T) "__getitem__" = pure (some (.builtin id)) ∧ s.TypeIs v T ∧ wpAny (model X.prog X.w) X.A (getItem v (.ref sl)) (EP X pins σ Q) X.xe s
theorem SlR.or {r r' : V → Option Int → Option Int → Hp → VK → Prop} (h : SlR X r) (h' : SlR X r') : SlR X (fun x lo hi H Q => r x lo hi H Q ∨ r' x lo hi H Q) := by
  intro pins s σ H x v vl vu lo hi sl Q I rx hs pl pu q
  rcases q with q | q
  · exact h pins s σ H x v vl vu lo hi sl Q I rx hs pl pu q
  · exact h' pins s σ H x v vl vu lo hi sl Q I rx hs pl pu q
def tSl (r : V → Option Int → Option Int → Hp → VK → Prop) (te : TE) (tl th : TO) : TE := fun σ H Q => te σ H fun x H1 => tl σ H1 fun l H2 => th σ H2 fun u H3 => r x l u H3 Q
theorem pe_slice {r : V → Option Int → Option Int → Hp → VK → Prop} (hr : SlR X r) (he : PE X e te) (hl : PO X lo tl) (hu : PO X hi th) : PE X (.Subscript e (.Slice lo hi none p2) pos) (tSl r te tl th) := by
  intro pins s σ H Q I h
  refine Subscript_ (thn (he pins s σ H _ I h) fun v s1 ⟨x, H1, I1, r1, q1⟩ => ?_)
  refine wpAny_Slice (thn (hl pins s1 σ H1 _ I1 q1) fun vl s2 ⟨l, H2, I2, pl, q2⟩ => thn (hu pins s2 σ H2 _ I2 q2) fun vu s3 ⟨u, H3, I3, pu, q3⟩ => ?_)
  rw [evalPart_none]
  refine wpAny_pure ?_
  have I4 : Inv X pins σ H3 { s3 with heap := s3.heap.push { cls := .type "slice", data := .fields #[vl, vu, .none] } } := I3.kept (t' := s3.toks) fun b ob q => Heap.get?_push_of_some _ q
  obtain ⟨T, id, hT, ht, hg⟩ := hr pins { s3 with heap := s3.heap.push { cls := .type "slice", data := .fields #[vl, vu, .none] } } σ H3 x v vl vu l u s3.heap.objs.size Q I4 r1 (Heap.IsSliceOf.new ..) pl pu q3
  show wpAny (model X.prog X.w) X.A (subscriptTail e (.Slice lo hi none p2) v (.ref s3.heap.objs.size)) (EP X pins σ Q) X.xe { s3 with heap := s3.heap.push { cls := .type "slice", data := .fields #[vl, vu, .none] } }
  exact tail_any (ops := [.ref s3.heap.objs.size, v]) ht hT hg (by with_unfolding_all rfl)

def cutV (xs : List V) (lo hi : Option Int) : List V := (xs.drop (HT.sIx xs.length 0 lo)).take (HT.sIx xs.length xs.length hi - HT.sIx xs.length 0 lo)
theorem cutV_length (xs : List V) (lo hi : Option Int) : (cutV xs lo hi).length ≤ xs.length := by
  unfold cutV
  rw [List.length_take, List.length_drop]
  omega
def rSlT (K : PySem.W.Frag) : V → Option Int → Option Int → Hp → VK → Prop := fun x lo hi H Q => ∃ a xs, x = .ref a ∧ SqT K H a xs ∧
  ¬ (HT.sIx xs.length 0 lo = 0 ∧ HT.sIx xs.length xs.length hi = xs.length) ∧ ∀ p, H p = none → Q (.ref p) (upd H p (.tup (cutV xs lo hi)))
theorem sl_tup : SlR X (rSlT X.K) := by
  intro pins s σ H x v vl vu lo hi sl Q I rx hs pl pu h
  obtain ⟨a, xs, rfl, hx, hw, q⟩ := h
  cases rx
  obtain ⟨its, r, ht, hz⟩ := I.tuple hx
  have hlen : its.toArray.size = xs.length := by rw [List.size_toArray]; exact r.length.symm
  refine ⟨"tuple", _, PyProof.Rows.slot_tuple_getitem.lookup, ht.typeIs, ?_⟩
  refine HT.getItem_tuple_cut ht hs pl pu (by rw [hlen]; exact hw) ?_ (by rw [hlen]; exact hz)
  rw [hlen]
  refine ⟨.ref s.heap.objs.size, _, I.laid (t' := s.toks) (o := .tup (cutV xs lo hi)) (fun b ob q => Heap.get?_push_of_some _ q) (Nat.le_refl _) ?_, rfl, q _ (I.hok.fresh (Nat.le_refl _))⟩
  exact ⟨Nat.le_trans (cutV_length xs lo hi) hz, _, (r.drop (HT.sIx xs.length 0 lo)).take (HT.sIx xs.length xs.length hi - HT.sIx xs.length 0 lo), IsTup.new _ _⟩

def rCatT (K : PySem.W.Frag) : R2 := fun x y H Q => ∃ a b xs ys, x = .ref a ∧ y = .ref b ∧ SqT K H a xs ∧ SqT K H b ys ∧ xs ≠ [] ∧ xs.length + ys.length ≤ sizeLine ∧
  (ys = [] → Q (.ref a) H) ∧ (ys ≠ [] → ∀ p, H p = none → Q (.ref p) (upd H p (.tup (xs ++ ys))))
theorem Vals.nil_iff {xs : List V} {us : List Value} (r : Vals xs us) : us = [] ↔ xs = [] := by
  cases r with
  | nil => simp
  | cons _ _ => simp
theorem op_catT : OpR X (binaryOp .Add) (rCatT X.K) := by
  intro pins s σ H x y v u Q I rx ry h
  obtain ⟨a, b, xs, ys, rfl, rfl, ha, hb, hx, hz, q1, q2⟩ := h
  cases rx
  cases ry
  obtain ⟨its, r1, p1, _⟩ := I.tuple ha
  obtain ⟨its2, r2, p2, _⟩ := I.tuple hb
  refine HT.cat_tup p1 p2 (fun z => hx (r1.nil_iff.mp z)) (fun z => ⟨.ref a, H, I, rfl, q1 (r2.nil_iff.mp z)⟩) (fun z => ?_) (by rw [← r1.length, ← r2.length]; exact hz)
  refine ⟨.ref s.heap.objs.size, _, I.laid (t' := s.toks) (o := .tup (xs ++ ys)) (fun b ob q => Heap.get?_push_of_some _ q) (Nat.le_refl _) ?_, rfl, q2 (fun w => z (r2.nil_iff.mpr w)) _ (I.hok.fresh (Nat.le_refl _))⟩
  exact ⟨by rw [List.length_append]; exact hz, _, r1.append r2, IsTup.new _ _⟩
end
end L2

namespace L2
open PySem PySem.Spec PyProof.Rows

def ixN (n : Nat) (i : Int) : Option Nat := if 0 ≤ i then (if i < n then some i.toNat else none) else if -(n : Int) ≤ i then some (i + n).toNat else none
def atI {α : Type} (xs : List α) (i : Int) : Option α := (ixN xs.length i).bind fun j => xs[j]?
theorem ixN_seq {n : Nat} {i : Int} {j : Nat} (h : ixN n i = some j) : seqIndex? i n = some j ∧ j < n ∧ -(n : Int) ≤ i ∧ i < n := by
  unfold ixN at h
  by_cases h0 : 0 ≤ i
  · rw [if_pos h0] at h
    by_cases h1 : i < n
    · rw [if_pos h1] at h
      have e : i.toNat = j := Option.some.inj h
      exact ⟨by rw [seqIndex_of h0 h1, e], by omega, by omega, h1⟩
    · rw [if_neg h1] at h; cases h
  · rw [if_neg h0] at h
    by_cases h1 : -(n : Int) ≤ i
    · rw [if_pos h1] at h
      have e : (i + n).toNat = j := Option.some.inj h
      exact ⟨by rw [seqIndex_neg (by omega) h1, e], by omega, h1, by omega⟩
    · rw [if_neg h1] at h; cases h
theorem atI_get {α : Type} {xs : List α} {i : Int} {v : α} (h : atI xs i = some v) : ∃ j, seqIndex? i xs.length = some j ∧ xs[j]? = some v ∧ j < xs.length ∧ -(xs.length : Int) ≤ i ∧ i < xs.length := by
  unfold atI at h
  cases e : ixN xs.length i with
  | none => rw [e] at h; cases h
  | some j =>
    rw [e] at h
    obtain ⟨h1, h2, h3, h4⟩ := ixN_seq e
    exact ⟨j, h1, h, h2, h3, h4⟩
theorem atI_nat {α : Type} {xs : List α} {j : Nat} {v : α} (h : xs[j]? = some v) : atI xs (j : Int) = some v := by
  have hj : j < xs.length := (List.getElem?_eq_some_iff.mp h).1
  have e : ixN xs.length (j : Int) = some j := by
    unfold ixN
    rw [if_pos (by omega), if_pos (by omega)]; simp
  unfold atI; rw [e]; exact h

def PlainIx (b : Expr) : Prop := ∀ o i, subscripted b false o i = operate [o, i] (getItem o i)
def IxR (X : Cx) (r : R2) : Prop :=
  ∀ (value slice : Expr) (pins : List (Addr × Obj)) (s : Shared) (σ : St) (H : Hp) (x y : V) (v u : Value) (Q : VK), Inv X pins σ H s → RelV x v → RelV y u → r x y H Q →
    subscripted slice false v u = operate [v, u] (getItem v u) → wpAny (model X.prog X.w) X.A (subscriptTail value slice v u) (EP X pins σ Q) X.xe s
def MtR (X : Cx) (id : String) (r : V → List V → Hp → VK → Prop) : Prop :=
  ∀ (pins : List (Addr × Obj)) (s : Shared) (σ : St) (H : Hp) (x : V) (xs : List V) (v : Value) (us : List Value) (Q : VK), Inv X pins σ H s → RelV x v → Vals xs us → r x xs H Q →
    wpAny (model X.prog X.w) X.A (call (.builtin id) (v :: us)) (EP X pins σ Q) X.xe s
section
variable {X : Cx} {a b : Expr} {ta tb : TE} {pos : Pos}
theorem IxR.or {r r' : R2} (h : IxR X r) (h' : IxR X r') : IxR X (fun x y H Q => r x y H Q ∨ r' x y H Q) := by
  intro value slice pins s σ H x y v u Q I rx ry q hs
  rcases q with q | q
  · exact h value slice pins s σ H x y v u Q I rx ry q hs
  · exact h' value slice pins s σ H x y v u Q I rx ry q hs
theorem MtR.or {id : String} {r r' : V → List V → Hp → VK → Prop} (h : MtR X id r) (h' : MtR X id r') : MtR X id (fun x xs H Q => r x xs H Q ∨ r' x xs H Q) := by
  intro pins s σ H x xs v us Q I rx rs q
  rcases q with q | q
  · exact h pins s σ H x xs v us Q I rx rs q
  · exact h' pins s σ H x xs v us Q I rx rs q
theorem pe_ix {r : R2} (hr : IxR X r) (ha : PE X a ta) (hb : PE X b tb) (hs : PlainIx b) : PE X (.Subscript a b pos) (tOp r ta tb) := by
  intro pins s σ H Q I h
  exact Subscript_ (binT ha hb I h fun v u s2 x y H2 I2 rx ry q => hr a b pins s2 σ H2 x y v u Q I2 rx ry q (hs _ _))

def rIxL (K : PySem.W.Frag) : R2 := fun x y H Q => ∃ p xs i v, x = .ref p ∧ y = .int i ∧ SqL K H p xs ∧ atI xs i = some v ∧ Q v H
def rIxT (K : PySem.W.Frag) : R2 := fun x y H Q => ∃ p xs i v, x = .ref p ∧ y = .int i ∧ SqT K H p xs ∧ atI xs i = some v ∧ Q v H
theorem ix_list : IxR X (rIxL X.K) := by
  intro value slice pins s σ H x y v u Q I rx ry h hs
  obtain ⟨p, xs, i, z, rfl, rfl, hq, he, q⟩ := h
  cases rx
  obtain ⟨t, rfl⟩ := ry
  obtain ⟨its, r, pl, hz⟩ := I.list hq
  obtain ⟨j, h1, h2, h3, h4, h5⟩ := atI_get he
  obtain ⟨w, ew, rw'⟩ := r.get h2
  have hl := r.length
  have hn := line63
  have fin : EP X pins σ Q w s := ⟨z, H, I, rw', q⟩
  by_cases h0 : 0 ≤ i
  · have hj : i.toNat = j := by
      rw [seqIndex_of h0 h5] at h1
      exact Option.some.inj h1
    exact item_listR pl.isList h0 (by omega) (by rw [hj]; simpa using ew) fin hs
  · have hj : (i + (its.toArray.size : Int)).toNat = j := by
      rw [seqIndex_neg (by omega) h4] at h1
      rw [List.size_toArray, ← hl]
      exact Option.some.inj h1
    exact subscriptTail_builtinR (x := w) pl.isList.typeIs slot_list_getitem.lookup
      (wpAny_getItem_list_neg (Q := fun r s' => r = w ∧ EP X pins σ Q r s') pl.isList (by omega) (by rw [List.size_toArray] <;> omega) (by omega) (by rw [hj]; simpa using ew) ⟨rfl, fin⟩) hs
theorem ix_tup : IxR X (rIxT X.K) := by
  intro value slice pins s σ H x y v u Q I rx ry h hs
  obtain ⟨p, xs, i, z, rfl, rfl, hq, he, q⟩ := h
  cases rx
  obtain ⟨t, rfl⟩ := ry
  obtain ⟨its, r, pl, hz⟩ := I.tuple hq
  obtain ⟨j, h1, h2, h3, h4, h5⟩ := atI_get he
  obtain ⟨w, ew, rw'⟩ := r.get h2
  have hl := r.length
  have hn := line63
  have fin : EP X pins σ Q w s := ⟨z, H, I, rw', q⟩
  exact subscriptTail_builtinR (x := w) pl.typeIs slot_tuple_getitem.lookup
    (getItem_tuple (j := j) (Q := fun r s' => r = w ∧ EP X pins σ Q r s') pl (by omega) (by omega) (by rw [List.size_toArray, ← hl]; exact h1) (by simpa using ew) ⟨rfl, fin⟩) hs

theorem mapSeq_set (its : List Value) (n j : Nat) (u : Value) : Obj.mapSeq (·.setIfInBounds j u) { cls := .type "list", data := .seq its.toArray n } = { cls := .type "list", data := .seq (its.set j u).toArray n } := by
  simp [Obj.mapSeq]
theorem Inv.lst {pins : List (Addr × Obj)} {σ : St} {H : Hp} {s : Shared} {p : Addr} {xs : List V} (I : Inv X pins σ H s) (h : H p = some (.lst xs)) :
    ∃ (its : List Value) (n : Nat), Vals xs its ∧ s.heap.get? p = some { cls := .type "list", data := .seq its.toArray n } ∧ xs.length ≤ sizeLine := by
  obtain ⟨z, its, n, r, e⟩ := I.hok p _ h
  exact ⟨its, n, r, e, z⟩
theorem Inv.lstUpd {pins : List (Addr × Obj)} {σ : St} {H : Hp} {s : Shared} {p : Addr} {xs ys : List V} {its its' : List Value} {n n' : Nat} {f : Obj → Obj} (I : Inv X pins σ H s) (h : H p = some (.lst xs))
    (ho : s.heap.get? p = some { cls := .type "list", data := .seq its.toArray n }) (hf : f { cls := .type "list", data := .seq its.toArray n } = { cls := .type "list", data := .seq its'.toArray n' }) (r : Vals ys its') (hz : ys.length ≤ sizeLine) (t : Nat) :
    Inv X pins σ (upd H p (.lst ys)) { s with heap := s.heap.update p f, toks := t } := by
  have e : (s.heap.update p f).get? p = some { cls := .type "list", data := .seq its'.toArray n' } := by
    rw [Heap.get?_update_self f ho (by rw [hf] <;> rfl), hf]
  refine I.write (x := p) (e := p) (by rw [h]; trivial) (.inl rfl) (fun b u hb q => (Heap.get?_update_other _ _ (Ne.symm hb)).trans q) ⟨_, e⟩ ?_
  exact ⟨hz, its', n', r, e⟩
def rSetL : V → V → V → Hp → (Hp → Prop) → Prop := fun o i v H Q => ∃ p xs k j, o = .ref p ∧ i = .int k ∧ H p = some (.lst xs) ∧ ixN xs.length k = some j ∧ Q (upd H p (.lst (xs.set j v)))
theorem set_list : PSet X rSetL := by
  intro pins s σ H o i v ov iv u Q I ro ri rv h
  obtain ⟨p, xs, k, j, rfl, rfl, hp, hj, q⟩ := h
  cases ro
  obtain ⟨t, rfl⟩ := ri
  obtain ⟨its, n, r, ho, hz⟩ := I.lst hp
  obtain ⟨h1, h2, h3, h4⟩ := ixN_seq hj
  have hl := r.length
  have hn := line63
  have I' : Inv X pins σ (upd H p (.lst (xs.set j v))) { s with heap := s.heap.update p (Obj.mapSeq (·.setIfInBounds j u)) } :=
    I.lstUpd hp ho (mapSeq_set its n j u) (r.set rv j) (by rw [List.length_set]; exact hz) s.toks
  by_cases h0 : 0 ≤ k
  · have hk : k.toNat = j := by
      rw [seqIndex_of h0 h4] at h1
      exact Option.some.inj h1
    exact PySem.W.ki_setAt ho h0 (by omega) (by rw [List.size_toArray, ← hl]; exact h4) (by rw [hk]; exact ⟨_, I', q⟩)
  · have hk : (k + (its.toArray.size : Int)).toNat = j := by
      rw [seqIndex_neg (by omega) h3] at h1
      rw [List.size_toArray, ← hl]
      exact Option.some.inj h1
    exact PySem.W.ki_setBack ho (by omega) (by rw [List.size_toArray, ← hl]; exact h3) (by omega) (by rw [hk]; exact ⟨_, I', q⟩)

theorem slice_bounds (lo hi : Option Int) (n : Nat) : (sliceBounds lo hi none n).1 = ((HT.sIx n 0 lo : Nat) : Int) ∧ (sliceBounds lo hi none n).2.1 = ((HT.sIx n n hi : Nat) : Int) ∧ (sliceBounds lo hi none n).2.2 = 1 := by
  refine ⟨?_, ?_, rfl⟩
  · cases lo with
    | none => simp [sliceBounds, HT.sIx]
    | some i =>
      simp only [sliceBounds, HT.sIx, Option.getD_none, show (1 : Int) > 0 by decide, if_true]
      by_cases h : i < 0
      · simp only [h, if_true] <;> omega
      · simp only [h, if_false] <;> omega
  · cases hi with
    | none => simp [sliceBounds, HT.sIx]
    | some i =>
      simp only [sliceBounds, HT.sIx, Option.getD_none, show (1 : Int) > 0 by decide, if_true]
      by_cases h : i < 0
      · simp only [h, if_true] <;> omega
      · simp only [h, if_false] <;> omega
theorem slicePick_cut (its : List Value) (lo hi : Option Int) : slicePick its.toArray lo hi none = ((its.drop (HT.sIx its.length 0 lo)).take (HT.sIx its.length its.length hi - HT.sIx its.length 0 lo)).toArray := by
  obtain ⟨h1, h2, h3⟩ := slice_bounds lo hi its.toArray.size
  unfold slicePick
  rw [h1, h2, h3]
  simp only [sliceRange_one, pick_run, List.size_toArray] <;> rfl
def rSlL (K : PySem.W.Frag) : V → Option Int → Option Int → Hp → VK → Prop := fun x lo hi H Q => ∃ a xs, x = .ref a ∧ SqL K H a xs ∧ ∀ p, H p = none → Q (.ref p) (upd H p (.lst (cutV xs lo hi)))
theorem sl_list : SlR X (rSlL X.K) := by
  intro pins s σ H x v vl vu lo hi sl Q I rx hs pl pu h
  obtain ⟨a, xs, rfl, hx, q⟩ := h
  cases rx
  obtain ⟨its, r, ht, hz⟩ := I.list hx
  have hlen := r.length
  refine ⟨"list", _, slot_list_getitem.lookup, ht.isList.typeIs, ?_⟩
  refine wpAny_getItem_list_slice ht.isList hs pl pu .none (by simp) ?_ (by rw [List.size_toArray] <;> omega)
  rw [slicePick_cut, ← hlen]
  refine ⟨.ref s.heap.objs.size, _, I.laid (t' := s.toks) (o := .lst (cutV xs lo hi)) (fun b ob q => Heap.get?_push_of_some _ q) (Nat.le_refl _) ?_, rfl, q _ (I.hok.fresh (Nat.le_refl _))⟩
  exact ⟨Nat.le_trans (cutV_length xs lo hi) hz, _, 0, (r.drop (HT.sIx xs.length 0 lo)).take (HT.sIx xs.length xs.length hi - HT.sIx xs.length 0 lo), Heap.get?_push_size _ rfl⟩


theorem CallR.or {f : Value} {r r' : List V → Hp → VK → Prop} (h : CallR X f r) (h' : CallR X f r') : CallR X f (fun xs H Q => r xs H Q ∨ r' xs H Q) := by
  intro pins s σ H xs us Q I rs q
  rcases q with q | q
  · exact h pins s σ H xs us Q I rs q
  · exact h' pins s σ H xs us Q I rs q
theorem call_tuple_of : CallR X (.type "tuple") (fun xs H Q => ∃ p ys, xs = [.ref p] ∧ ((SqL X.K H p ys ∧ ∀ l, H l = none → Q (.ref l) (upd H l (.tup ys))) ∨ (SqT X.K H p ys ∧ Q (.ref p) H))) := by
  intro pins s σ H xs us Q I r h
  obtain ⟨p, ys, rfl, h⟩ := h
  obtain ⟨u, rfl, rx⟩ := vals1 r
  cases rx
  rcases h with ⟨hq, q⟩ | ⟨hq, q⟩
  · obtain ⟨its, r', pl, hz⟩ := I.list hq
    have hlen := r'.length
    refine call_tuple_list pl.isList (fun h' kp => ?_) (by simp only [List.size_toArray] <;> omega)
    have I1 : Inv X pins σ H { s with heap := h' } := I.kept (t' := s.toks) kp
    have I2 : Inv X pins σ (upd H h'.objs.size (.tup ys)) { s with heap := h'.push { cls := .type "tuple", data := .seq its.toArray } } :=
      I1.laid (t' := s.toks) (fun b o e => Heap.get?_push_of_some _ e) (Nat.le_refl _) (show ObjOk X.prog X.w _ _ _ (.tup ys) from ⟨hz, its, r', IsTup.new _ _⟩)
    exact ⟨.ref h'.objs.size, _, I2, rfl, q _ (I1.hok.fresh (Nat.le_refl _))⟩
  · obtain ⟨its, r', pl, hz⟩ := I.tuple hq
    exact call_tuple_same pl ⟨.ref p, H, I, rfl, q⟩

def tyV (K : PySem.W.Frag) (T : String) (x : V) (H : Hp) : Prop := match x with
  | .str _ => T = "str"
  | .int _ => T = "int"
  | .ref p => (T = "list" ∧ ∃ xs, SqL K H p xs) ∨ (T = "tuple" ∧ ∃ o, K.lookup p = some o ∧ o.cls = .type "tuple" ∧ o.dict = none) ∨
      (T = "dict" ∧ ((∃ kvs, H p = some (.dK kvs)) ∨ ∃ kvs, H p = some (.dT kvs))) ∨ (T = "set" ∧ ∃ S n, H p = some (.set S n))
  | _ => False
theorem tyV_is {pins : List (Addr × Obj)} {σ : St} {H : Hp} {s : Shared} {T : String} {x : V} {v : Value} (I : Inv X pins σ H s) (r : RelV x v) (ty : tyV X.K T x H) :
    s.TypeIs v T ∧ ∀ a, v = .ref a → ∃ ob, s.heap.get? a = some ob ∧ ob.dict = none := by
  cases x with
  | str z =>
    obtain ⟨t, rfl⟩ := r
    cases (show T = "str" from ty)
    exact ⟨typeIs_str s z t, fun _ e => nomatch e⟩
  | int i =>
    obtain ⟨t, rfl⟩ := r
    cases (show T = "int" from ty)
    exact ⟨typeIs_int s i t, fun _ e => nomatch e⟩
  | ref p =>
    cases r
    rcases ty with ⟨rfl, xs, hq⟩ | ⟨rfl, o, hk, hc, hd⟩ | ⟨rfl, hk⟩ | ⟨rfl, S, n, hk⟩
    · obtain ⟨its, _, pl, _⟩ := I.list hq
      refine ⟨pl.isList.typeIs, fun a e => ?_⟩
      cases e
      obtain ⟨o, n, e, c, hd, _⟩ := pl
      exact ⟨o, e, hd⟩
    · refine ⟨⟨o, I.kIn p o hk, hc⟩, fun a e => ?_⟩
      cases e
      exact ⟨o, I.kIn _ o hk, hd⟩
    · have z : ∃ o, s.heap.get? p = some o ∧ o.ExactDict := by
        rcases hk with ⟨kvs, hk⟩ | ⟨kvs, hk⟩
        · obtain ⟨_, _, _, _, o, _, _, e, ex, _⟩ := I.hok p _ hk
          exact ⟨o, e, ex⟩
        · obtain ⟨_, _, _, _, o, _, _, e, ex, _⟩ := I.hok p _ hk
          exact ⟨o, e, ex⟩
      obtain ⟨o, e, ex⟩ := z
      refine ⟨⟨o, e, ex.1⟩, fun a e2 => ?_⟩
      cases e2
      exact ⟨o, e, ex.2.1⟩
    · obtain ⟨o, _, _, _, e, ex, _⟩ := I.hok p _ hk
      refine ⟨⟨o, e, ex.1⟩, fun a e2 => ?_⟩
      cases e2
      exact ⟨o, e, ex.2.1⟩
  | _ => exact False.elim ty
def tBM (K : PySem.W.Frag) (T : String) (r : V → List V → Hp → VK → Prop) (to : TE) (t : TA) : TE := fun σ H Q => to σ H fun x H1 => tyV K T x H1 ∧ t σ H1 fun xs H2 => r x xs H2 Q
variable {o e : Expr} {es : List Expr} {to : TE} {t : TA} {name : Str} {apos cpos : Pos} {T id : String} {r : V → List V → Hp → VK → Prop}
theorem pe_bm (pa : PlainAttrs T) (slot : Slot T name id) (hty : typeOf (.builtin id) = pure (.type "method_descriptor")) (hm : MtR X id r) (ho : PE X o to) (ha : PA X (e :: es) t)
    (hbase : attributeBase o name X.env (eval o X.env) = eval o X.env := by rfl)
    (hfew : ((backTo cpos (starEach (e :: es) X.env)).all (fun x => !x.1) && (backToKw cpos (keywordEach [] X.env)).all (fun x => x.1.isSome)
      && decide ((e :: es).length + ([] : List Keyword).length + (if ([] : List Keyword).isEmpty then 0 else 1) < 30)) = true := by rfl)
    (hline : (apos.endLine == cpos.line) = true := by rfl) (hs : starEach (e :: es) X.env = (false, eval e X.env) :: starEach es X.env := by rfl) (hplain : (backTo cpos (starEach es X.env)).any (·.1) = false := by rfl) :
    PE X (.Call (.Attribute o name apos) (e :: es) [] cpos) (tBM X.K T r to t) := by
  intro pins s σ H Q I h
  refine wpAny_Call_method_late hbase hfew hline rfl (thn (ho pins s σ H _ I h) fun v s1 ⟨x, H1, I1, r1, ty, q1⟩ => ?_)
  obtain ⟨h1, h2⟩ := tyV_is I1 r1 ty
  refine ⟨T, id, pa, slot, hty, h1, h2, ?_⟩
  have hA := ha cpos pins s1 σ H1 _ I1 q1
  rw [hs] at hA ⊢
  refine Calls.callWith_builtin (by show (false || (backTo cpos (starEach es X.env)).any (·.1)) = false; rw [hplain] <;> rfl) (Calls.evalArgs_plain ?_)
  exact thn hA fun us s2 ⟨vs, H2, I2, r2, q2⟩ => hm pins s2 σ H2 x vs v us Q I2 r1 r2 q2
end
end L2

namespace L2
open PySem PySem.Spec PyProof.Rows

def MtM (X : Cx) (id : String) (r : V → List V → Hp → VK → Prop) : Prop :=
  ∀ (pins : List (Addr × Obj)) (s : Shared) (σ : St) (H : Hp) (x : V) (xs : List V) (v : Value) (us : List Value) (Q : VK), Inv X pins σ H s → RelV x v → Vals xs us → r x xs H Q →
    wpAny (model X.prog X.w) X.A (call (.builtin id) (v :: us)) (EP X pins σ Q) X.xe s

theorem Vals.one : ∀ {x : V} {us : List Value}, Vals [x] us → ∃ u, us = [u] ∧ RelV x u
  | _, _, .cons r .nil => ⟨_, rfl, r⟩
theorem Vals.two : ∀ {x y : V} {us : List Value}, Vals [x, y] us → ∃ u v, us = [u, v] ∧ RelV x u ∧ RelV y v
  | _, _, _, .cons r (.cons q .nil) => ⟨_, _, rfl, r, q⟩
theorem Vals.zero : ∀ {us : List Value}, Vals [] us → us = []
  | _, .nil => rfl
theorem Vals.dropLast {xs : List V} {us : List Value} (h : Vals xs us) : Vals xs.dropLast us.dropLast := by
  induction h with
  | nil => exact .nil
  | cons r t ih =>
    cases t with
    | nil => exact .nil
    | cons q t' => exact .cons r ih
theorem Vals.eraseIdx : ∀ {xs : List V} {us : List Value} (i : Nat), Vals xs us → Vals (xs.eraseIdx i) (us.eraseIdx i)
  | _, _, _, .nil => .nil
  | _, _, 0, .cons _ t => t
  | _, _, i + 1, .cons r t => .cons r (Vals.eraseIdx i t)
theorem Vals.reverse {xs : List V} {us : List Value} (h : Vals xs us) : Vals xs.reverse us.reverse := by
  induction h with
  | nil => exact .nil
  | cons r t ih => rw [List.reverse_cons, List.reverse_cons]; exact Vals.append ih (.cons r .nil)
theorem len_erase {α : Type} : ∀ (l : List α) (i : Nat), (l.eraseIdx i).length ≤ l.length
  | [], _ => Nat.le_refl _
  | _ :: _, 0 => Nat.le_succ _
  | _ :: r, i + 1 => Nat.succ_le_succ (len_erase r i)

section
variable {X : Cx} {pins : List (Addr × Obj)} {σ : St} {H : Hp} {s : Shared} {l b : Addr} {xs ys zs : List V}

theorem Inv.lset {its its' : List Value} {n : Nat} {f : Array Value → Array Value} {t' : Nat} (I : Inv X pins σ H s) (hH : H l = some (.lst xs))
    (e : s.heap.get? l = some { cls := .type "list", data := .seq its.toArray n }) (hf : f its.toArray = its'.toArray) (hv : Vals ys its') (hz : ys.length ≤ sizeLine) :
    Inv X pins σ (upd H l (.lst ys)) { s with heap := s.heap.update l (Obj.mapSeq f), toks := t' } := by
  have q := PySem.IsL.update e f
  rw [hf] at q
  refine I.write (x := l) (e := l) (by rw [hH]; exact trivial) (.inl rfl) (fun b' u hb hu => (Heap.get?_update_other s.heap (Obj.mapSeq f) (Ne.symm hb)).trans hu) ⟨_, q⟩ ?_
  exact ⟨hz, its', _, hv, q⟩
theorem Inv.lnew {its : List Value} {t' : Nat} (I : Inv X pins σ H s) (hv : Vals ys its) (hz : ys.length ≤ sizeLine) :
    Inv X pins σ (upd H s.heap.objs.size (.lst ys)) { s with heap := s.heap.push { cls := .type "list", data := .seq its.toArray }, toks := t' } :=
  I.laid (fun _ _ q => Heap.get?_push_of_some _ q) (Nat.le_refl _) ⟨hz, its, 0, hv, Heap.get?_push_size _ rfl⟩
theorem Inv.fresh (I : Inv X pins σ H s) : H s.heap.objs.size = none := I.hok.fresh (Nat.le_refl _)
theorem Inv.lstM (I : Inv X pins σ H s) (hH : H l = some (.lst xs)) : xs.length ≤ sizeLine ∧ ∃ (its : List Value) (n : Nat), Vals xs its ∧ xs.length = its.length ∧ s.heap.get? l = some { cls := .type "list", data := .seq its.toArray n } := by
  obtain ⟨z, its, n, r, e⟩ := I.hok l _ hH
  exact ⟨z, its, n, r, r.length, e⟩

end

section
variable {X : Cx}

def rAppend : V → List V → Hp → VK → Prop := fun x vs H Q => ∃ l xs y, x = .ref l ∧ vs = [y] ∧ H l = some (.lst xs) ∧ xs.length < sizeLine ∧ Q .non (upd H l (.lst (xs ++ [y])))
theorem mt_append : MtM X "list.append" rAppend := by
  intro pins s σ H x vs v us Q I rx rv h
  obtain ⟨l, xs, y, rfl, rfl, hH, hz, q⟩ := h
  cases rx
  obtain ⟨u, rfl, ru⟩ := rv.one
  obtain ⟨z, its, n, r, hl, e⟩ := I.lstM hH
  refine call_meets F.slot_list_append ⟨_, e, rfl⟩ F.entry_list_append (F.args_list_append_2 _ _) (PySem.list_append l its.toArray n u (by rw [List.size_toArray]; omega)) ⟨e, ?_⟩
  refine ⟨.non, _, I.lset (its' := its ++ [u]) hH e (by simp) (r.append (.cons ru .nil)) ?_, rfl, q⟩
  rw [List.length_append, List.length_singleton]
  omega



def rPopAt : V → List V → Hp → VK → Prop := fun x vs H Q => ∃ l xs i k y, x = .ref l ∧ vs = [.int i] ∧ H l = some (.lst xs) ∧ -(2 ^ 63) ≤ i ∧ i < 2 ^ 63 ∧ seqIndex? i xs.length = some k ∧ xs[k]? = some y ∧ Q y (upd H l (.lst (xs.eraseIdx k)))
theorem mt_popAt : MtM X "list.pop" rPopAt := by
  intro pins s σ H x vs v us Q I rx rv h
  obtain ⟨l, xs, i, k, y, rfl, rfl, hH, h1, h2, hk, hy, q⟩ := h
  cases rx
  obtain ⟨u, rfl, ru⟩ := rv.one
  obtain ⟨t, rfl⟩ := ru
  obtain ⟨z, its, n, r, hl, e⟩ := I.lstM hH
  obtain ⟨w, hw, rw'⟩ := r.get hy
  refine call_meets F.slot_list_pop ⟨_, e, rfl⟩ F.entry_list_pop (F.args_list_pop_2 _ _)
    (MeetsSeq.list_pop_at l its.toArray n i t k w (fitsIndex_both h1 h2) (by rw [List.size_toArray, ← hl]; exact hk) (by rw [← Array.getElem?_toList]; exact hw) (by rw [List.size_toArray]; omega)) ⟨e, ?_⟩
  refine ⟨y, _, I.lset (its' := its.eraseIdx k) hH e ?_ (r.eraseIdx k) ?_, rw', q⟩
  · show its.toArray.eraseIdxIfInBounds k = (its.eraseIdx k).toArray
    rw [List.eraseIdxIfInBounds_toArray]
  · have := len_erase xs k
    omega



def rCat : R2 := fun x y H Q => ∃ l b xs zs, x = .ref l ∧ y = .ref b ∧ H l = some (.lst xs) ∧ H b = some (.lst zs) ∧ xs.length + zs.length ≤ sizeLine ∧ ∀ p, H p = none → Q (.ref p) (upd H p (.lst (xs ++ zs)))
theorem op_cat : OpR X (binaryOp .Add) rCat := by
  intro pins s σ H x y v u Q I rx ry h
  obtain ⟨l, b, xs, zs, rfl, rfl, hH, hB, hz, q⟩ := h
  cases rx
  cases ry
  obtain ⟨z, its, n, r, hl, e⟩ := I.lstM hH
  obtain ⟨z2, its2, n2, r2, hl2, e2⟩ := I.lstM hB
  refine PySem.P.add_list e e2 ?_ (by rw [List.size_toArray, List.size_toArray]; omega)
  have ea : its.toArray ++ its2.toArray = (its ++ its2).toArray := by simp
  rw [ea]
  exact ⟨.ref _, _, I.lnew (t' := s.toks) (r.append r2) (by rw [List.length_append]; omega), rfl, q _ I.fresh⟩

end

section
variable {prog : Program} {w : World} {A : Around} {E : Value → Shared → Prop} {s : Shared}
set_option maxRecDepth 100000 in
end

section
variable {X : Cx}
end
end L2

namespace Att
open PySem PySem.W PySem.Calls PyProof.Rows

theorem ints_of_wellAll {P : Params} {h : Heap} : ∀ (ns : List Int) (vs : List Value), WellAll P h vs (ns.map WData.int) → IntsAre vs ns := by
  intro ns
  induction ns with
  | nil =>
    intro vs w
    rw [List.map_nil] at w
    cases w
    exact .nil
  | cons n ns ih =>
    intro vs w
    rw [List.map_cons] at w
    cases w with
    | cons a b =>
      cases a
      exact .cons _ _ (ih _ b)

theorem script_of {l : OpenLaw} {n : Nat} (hn : l.most = some n) {P : Params} {h : Heap} {args : List WData} {vals : List Value}
    (hpre : l.row.toRowW.claim.pre args = true) (hwl : WellAll P h vals args) :
    ∃ a vs ns, vals = [Value.ref a] ∧ args = [WData.list (ns.map WData.int)] ∧ h.get? a = some { cls := .type "list", data := .seq vs.toArray } ∧ IntsAre vs ns ∧ ns.length ≤ n := by
  have hsh : WShape.hasAll [] args [.list .int] = true := (pre_splitW hpre).1
  have hc : l.pre.holds [] { args := args } = true := (pre_splitW hpre).2
  obtain ⟨d, r, rfl, h1, h2⟩ := hasAllW_cons hsh
  obtain rfl := hasAllW_nil h2
  obtain ⟨xs, rfl, h3⟩ := hasW_list h1
  obtain ⟨ns, rfl⟩ := items_int h3
  have hlen : ns.length ≤ n := by
    unfold OpenLaw.pre at hc
    have h4 : (WTm.not (.lt (.lit (.int (n : Int))) (.len (.arg 0)))).holds [] { args := [.list (ns.map .int)] } = true := by
      have h4 := (holds_andW hc).1
      rw [hn] at h4
      exact h4
    have h5 := condW_of h4 (w_not (w_lt w_lit (w_len_list (w_arg rfl))))
    rw [List.length_map] at h5
    refine Nat.le_of_not_lt fun q => ?_
    have q' : (n : Int) < ((ns.length : Nat) : Int) := by omega
    first
      | (rw [decide_eq_true q'] at h5; exact absurd h5 (by decide))
      | (simp at h5; omega)
  cases hwl with
  | cons w1 w2 =>
    cases w2
    cases w1 with
    | list ho hall => exact ⟨_, _, ns, rfl, rfl, ho, ints_of_wellAll ns _ hall, hlen⟩

theorem post_true (l : OpenLaw) (args : List WData) : l.row.toRowW.claim.post args (.bool true) args = true :=
  postW_of (r := l.row.toRowW) (X := (true == true))
    (show WShape.has [] (.bool true) .bool = true by first | rfl | decide | simp [WShape.has, WShape.arms, WShape.armsAll])
    (show (WTm.eq .res (.lit (.bool true))).value [] { args := args, res := some (.bool true), after := args } = some (.bool (true == true)) from w_eq_bool (w_res rfl) w_lit) rfl


theorem attach_call {l : OpenLaw} {n : Nat} {q : Program} {loose : List Str} {XP : (Str → Option Value) → Heap → Prop} {YP : World → Heap → Prop} {d : DefRec}
    (hn : l.most = some n) (hdf : d.params.defaults = [])
    (call : ∀ (w : World) (s₀ s₁ : Shared) (mg mb : Str → Option Value) (fa : Addr) (o : Obj) (pm cd doc : Value) (a : Addr) (vs : List Value) (ns : List Int),
      Ground q loose [] XP w s₀ mg mb s₁.heap → YP w s₁.heap →
      s₁.heap.get? fa = some o → o.data = .func (docDef d.name d.params d.body d.scope pm cd doc) → s₁.heap.CodeRec cd d.name → mg d.name = some (.ref fa) →
      s₁.heap.get? a = some { cls := .type "list", data := .seq vs.toArray } → IntsAre vs ns → ns.length ≤ n → s₁.gens = #[] →
      codeAny (model l.prog w) callerA (.call (.ref fa) ⟨[.ref a], []⟩) (fun r s' => r = .ok (.ret (.bool true)) ∧ OldK s₁.heap s'.heap ∧ s'.os = s₁.os ∧ AllBare s'.gens) s₁) :
    WalkO q loose XP YP l.row.toRowW d [] (fun f vs => PySem.call f vs) := by
  intro w s₀ s₁ mg mb G Y fa o pm cd doc dV kV ho hd hcd hD hmg hg args vals as hpre hlay hrd hwl hlo
  obtain rfl : dV = .none := Dflts.none hD hdf
  obtain rfl : kV = .none := Dflts.noKw hD
  obtain ⟨a, vs, ns, rfl, rfl, hobj, hints, hlen⟩ := script_of hn hpre hwl
  refine enter_call (codeAny_mono (call w s₀ s₁ mg mb fa o pm cd doc a vs ns G Y ho (fd_plain hd) hcd hmg hobj hints hlen hg) fun r s' hq => ?_)
  obtain ⟨rfl, h2, h3, h4⟩ := hq
  exact ⟨.inl ⟨.bool true, .bool true, [], rfl, fun _ => rfl, .bool true, post_true l _, fun _ => ⟨List.Pairwise.nil, fun _ hm => (nomatch hm)⟩⟩, h2, h3, h4⟩


section
variable {prog : Program} {w : World} {A : Around} {E : Value → Shared → Prop} {s : Shared} {K : Frag}





def ledger (h : Heap) (L d : Addr) : List (Addr × Obj) := (List.range h.objs.size).filterMap fun a => if a = L ∨ a = d then none else (h.get? a).map fun o => (a, o)

end
end Att

namespace L2
open PySem PySem.Spec PyProof.Rows

theorem vals_ints : ∀ {vs : List Value} {ns : List Int}, IntsAre vs ns → Vals (ns.map V.int) vs
  | _, _, .nil => .nil
  | _, _, .cons n t h => .cons ⟨t, rfl⟩ (vals_ints h)

def Only (H : Hp) : Prop := ∀ b, H b = none ∨ ∃ o xs, H b = some (.frz o (.lst xs))

theorem law_call {P : Program} {w : World} {K : PySem.W.Frag} {mg mb : Str → Option Value} {CX : CXT} {k : Nat} {fa a : Addr} {fd : FuncData} {x : Str} {sp : Sp} {s₁ : Shared} {vs : List Value} {ns : List Int}
    (KX : K.In s₁.heap) (hns : s₁.heap.Ns mainGlobals mg) (hb : s₁.heap.Ns builtinsNs mb) (hbb : ∀ x : Str, x ≠ "__name__" → mb x = bootBuiltins x) (hlim : s₁.heap.NoLimit) (hsee : s₁.heap.NoSeer) (hg : s₁.gens = #[])
    (ha : s₁.heap.get? a = some { cls := .type "list", data := .seq vs.toArray }) (hi : IntsAre vs ns) (hl : ns.length ≤ sizeLine) (hr : Room k callerA)
    (F : ∀ base : Heap, K.In base → base.Ns mainGlobals mg → FnOk P w K mg base CX k fa fd [x] sp) (hbind : ∀ (s : Shared) (u : Value), BindsTo s fd ⟨[u], []⟩ [(x, u)])
    (hsp : ∀ H : Hp, Only H → SqL K H a (ns.map V.int) → sp [.ref a] H (fun v _ => v = .bl true) fun _ _ _ => False)
    (hCX : ∀ H e s', CX [] H s₁ (fun _ _ _ => False) e s' → False) :
    codeAny (model P w) callerA (.call (.ref fa) ⟨[.ref a], []⟩) (fun r s' => r = .ok (.ret (.bool true)) ∧ OldK s₁.heap s'.heap ∧ s'.os = s₁.os ∧ AllBare s'.gens) s₁ := by
  have rv := vals_ints hi
  have lenV := hi.length
  -- from an abstract heap in which nothing but the script may be tracked
  have core : ∀ H : Hp, Only H → SqL K H a (ns.map V.int) → HOk P w H s₁.heap → (∀ b, H b ≠ none → b = a) → (H a ≠ none → K.lookup a = none) →
      codeAny (model P w) callerA (.call (.ref fa) ⟨[.ref a], []⟩) (fun r s' => r = .ok (.ret (.bool true)) ∧ OldK s₁.heap s'.heap ∧ s'.os = s₁.os ∧ AllBare s'.gens) s₁ := by
    intro H hO hS hok hA hK
    have base_of : ∀ {b : Addr} {o : Obj}, s₁.heap.get? b = some o → H b = none → (hidT s₁.heap H).get? b = some o := fun e n => hidT_get e n
    have noA : ∀ {b : Addr} {o : Obj} {es : Array DictEntry} {ep : Nat}, s₁.heap.get? b = some o → o.data = .dict es ep → H b = none := fun {b o es ep} e d => by
      cases q : H b with
      | none => rfl
      | some u =>
        have e' : b = a := hA b (by rw [q]; simp)
        subst e'
        rw [ha] at e; cases e
        have d' : Data.seq vs.toArray _ = Data.dict es ep := d
        cases d'
    have nsK : ∀ {b : Addr} {m : Str → Option Value}, s₁.heap.Ns b m → (hidT s₁.heap H).Ns b m := fun {b m} ⟨o, es, ep, e, d, r⟩ => ⟨o, es, ep, base_of e (noA e d), d, r⟩
    have hKb : K.In (hidT s₁.heap H) := fun b o e => base_of (KX b o e) (by
      cases q : H b with
      | none => rfl
      | some u =>
        have e' : b = a := hA b (by rw [q]; simp)
        subst e'
        rw [hK (by rw [q]; simp)] at e; cases e)
    have hM : Mod K mg (hidT s₁.heap H) := ⟨hKb, nsK hns, ⟨mb, nsK hb, hbb⟩, let ⟨mc, h1, h2⟩ := hlim; ⟨mc, nsK h1, h2⟩,
      ⟨let ⟨mc, h1, h2⟩ := hsee.statics; ⟨mc, nsK h1, h2⟩, let ⟨mc, h1, h2⟩ := hsee.mods; ⟨mc, nsK h1, h2⟩, let ⟨mc, h1, h2⟩ := hsee.imp; ⟨mc, nsK h1, h2⟩, by
        obtain ⟨mg', bm, ob, n1, n2, n3, n4, n5⟩ := hsee.main
        refine ⟨mg', bm, ob, nsK n1, n2, base_of n3 ?_, n4, n5⟩
        cases q : H bm with
        | none => rfl
        | some u =>
          have e' : bm = a := hA bm (by rw [q]; simp)
          subst e'
          rw [ha] at n3; cases n3
          exact absurd (show Value.type "list" = Value.type "module" from n4) (fun z => by injection z with z; exact absurd z (by decide))⟩⟩
    have e0 : Env0 P w K mg (hidT s₁.heap H) callerA [] s₁ H := ⟨rfl, hM, fun b o e => of_hidT e, Nat.le_of_eq (hidT_size _ _), trivial, fun b hb => absurd (show b ∈ ([] : List Addr) from hb) (by simp), hok, .of_eq hg⟩
    refine codeAny_mono ((F _ hKb (nsK hns)).run callerA [] s₁ H ⟨[.ref a], []⟩ [.ref a] [.ref a] _ _ hr e0 (hbind s₁ (.ref a)) (.cons rfl .nil) (hsp H hO hS)) fun r s' h => ?_
    cases r with
    | error e => exact (hCX H e s' h).elim
    | ok fl =>
      cases fl with
      | next => exact False.elim h
      | brk => exact False.elim h
      | cont => exact False.elim h
      | ret u =>
        obtain ⟨v, H', os, bare, un, hok', r', q⟩ := h
        have q' : v = .bl true := q
        subst q'
        obtain rfl : u = Value.bool true := r'
        refine ⟨rfl, OldK.of_keep fun b o e => ?_, os, bare⟩
        cases q : H b with
        | none => exact un.keep b o e q (by intro z; exact absurd (show b ∈ ([] : List Addr) from z) (by simp)) (by simp)
        | some u =>
          rcases hO b with z | ⟨ob, xs, z⟩
          · rw [q] at z; cases z
          · have z2 := un.frzs b ob _ z
            obtain ⟨e1, _⟩ := hok b _ z
            obtain ⟨e2, _⟩ := hok' b _ z2
            rw [e] at e1; cases e1
            exact e2
  cases hk : K.lookup a with
  | some o =>
    -- the script is one of the module's own objects
    have e := KX a o hk
    rw [ha] at e
    cases e
    refine core (fun _ => none) (fun _ => .inl rfl) (.inr ⟨_, vs.toArray, _, hk, rfl, rfl, rfl, by rw [List.size_toArray, lenV]; exact hl, by simpa using rv⟩) (fun b u z => by have z' : (none : Option HO) = some u := z; cases z') (fun b z => absurd rfl z) fun z => absurd rfl z
  | none =>
    refine core (fun b => if b = a then some (.frz { cls := .type "list", data := .seq vs.toArray } (.lst (ns.map V.int))) else none) (fun b => ?_) (.inl (.inr ⟨{ cls := .type "list", data := .seq vs.toArray }, if_pos rfl⟩)) (fun b u z => ?_) (fun b z => ?_) fun _ => hk
    · by_cases hb : b = a
      · exact .inr ⟨_, _, if_pos hb⟩
      · exact .inl (if_neg hb)
    · by_cases hb : b = a
      · have z' := (if_pos hb).symm.trans z
        cases z'
        subst hb
        exact ⟨ha, by rw [List.length_map]; exact hl, vs, _, rv, ha⟩
      · have z' := (if_neg hb).symm.trans z
        cases z'
    · by_cases hb : b = a
      · exact hb
      · exact absurd (if_neg hb) z
end L2

namespace L2
open PySem PySem.Spec PyProof.Rows

abbrev KOf {K : PySem.W.Frag} {h : Heap} (_ : K.In h) : PySem.W.Frag := K

theorem walk_of {l : PySem.W.OpenLaw} {n k : Nat} {q : Program} {loose : List Str} {XP : (Str → Option Value) → Heap → Prop} {YP : World → Heap → Prop} {d : DefRec} {K : Params → PySem.W.Frag} {CX : World → CXT} {sp : World → Sp} {x : Str}
    (hn : l.most = some n) (hn2 : n ≤ sizeLine) (hdf : d.params.defaults = []) (hr : Room k callerA) (hq : importsNone q = true)
    (hY : ∀ (w : World) (h : Heap), YP w h → (K w.params).In h)
    (F : ∀ (w : World) (mg : Str → Option Value) (fa : Addr) (h : Heap), (K w.params).In h → h.Ns mainGlobals mg → mg d.name = some (.ref fa) →
      ∃ fd : FuncData, (∀ (s : Shared) (u : Value), BindsTo s fd ⟨[u], []⟩ [(x, u)]) ∧
        ∀ base : Heap, (K w.params).In base → base.Ns mainGlobals mg → FnOk l.prog w (K w.params) mg base (CX w) k fa fd [x] (sp w))
    (hsp : ∀ (w : World) (H : Hp) (a : Addr) (ns : List Int), ns.length ≤ n → Only H → SqL (K w.params) H a (ns.map V.int) → sp w [.ref a] H (fun v _ => v = .bl true) fun _ _ _ => False)
    (hCX : ∀ (w : World) (H : Hp) (s : Shared) (e : Value) (s' : Shared), CX w [] H s (fun _ _ _ => False) e s' → False) :
    PySem.W.WalkO q loose XP YP l.row.toRowW d [] (fun f vs => PySem.call f vs) := by
  refine Att.attach_call hn hdf fun w s₀ s₁ mg mb fa o pm cd doc a vs ns G Y ho hd hcd hmg hobj hints hlen hg => ?_
  have KX := hY w _ Y
  obtain ⟨fd, hb, hF⟩ := F w mg fa _ KX G.T.g hmg
  exact law_call KX G.T.g G.T.b G.T.builtins G.T.nolimit (G.T.seer hq) hg hobj hints (Nat.le_trans hlen hn2) hr hF hb (fun H hO hS => hsp w H a ns hlen hO hS) fun H e s' => hCX w H s₁ e s'
theorem walk_ofK {l : PySem.W.OpenLaw} {n k : Nat} {q : Program} {loose : List Str} {XP : (Str → Option Value) → Heap → Prop} {YP : World → Heap → Prop} {d : DefRec} {K : Params → PySem.W.Frag} {CX : CXT} {sp : PySem.W.Frag → Sp} {x : Str}
    (hn : l.most = some n) (hn2 : n ≤ sizeLine) (hdf : d.params.defaults = []) (hr : Room k callerA) (hq : importsNone q = true)
    (hY : ∀ (w : World) (h : Heap), YP w h → (K w.params).In h)
    (F : ∀ (w : World) (mg : Str → Option Value) (fa : Addr) (h : Heap), (K w.params).In h → h.Ns mainGlobals mg → mg d.name = some (.ref fa) →
      ∃ fd : FuncData, (∀ (s : Shared) (u : Value), BindsTo s fd ⟨[u], []⟩ [(x, u)]) ∧
        ∀ base : Heap, (K w.params).In base → base.Ns mainGlobals mg → FnOk l.prog w (K w.params) mg base CX k fa fd [x] (sp (K w.params)))
    (hsp : ∀ (K : PySem.W.Frag) (H : Hp) (a : Addr) (ns : List Int), ns.length ≤ n → Only H → SqL K H a (ns.map V.int) → sp K [.ref a] H (fun v _ => v = .bl true) fun _ _ _ => False)
    (hCX : ∀ (H : Hp) (s : Shared) (e : Value) (s' : Shared), CX [] H s (fun _ _ _ => False) e s' → False) :
    PySem.W.WalkO q loose XP YP l.row.toRowW d [] (fun f vs => PySem.call f vs) :=
  walk_of (K := K) (CX := fun _ => CX) (sp := fun w => sp (K w.params)) hn hn2 hdf hr hq hY F (fun w H a ns h1 h2 h3 => hsp (K w.params) H a ns h1 h2 h3) fun _ H s e s' => hCX H s e s'
end L2


namespace L2
open PySem PySem.Spec PyProof.Rows

def inClass (s : Stmt) (j : Nat) : Stmt := match s with
  | .ClassDef _ _ _ body _ _ _ _ _ _ _ => body.getD j (.Pass ⟨0, 0, 0, 0⟩)
  | _ => .Pass ⟨0, 0, 0, 0⟩
def defArgs (s : Stmt) : Arguments := match s with
  | .FunctionDef _ a _ _ _ _ _ _ _ _ => a
  | _ => { posonlyargs := [], args := [], vararg := none, kwonlyargs := [], kw_defaults := [], kwarg := none, defaults := [] }
def defBody (s : Stmt) : List Stmt := match s with
  | .FunctionDef _ _ b _ _ _ _ _ _ _ => b
  | _ => []
def defScope (s : Stmt) : Scope := match s with
  | .FunctionDef _ _ _ _ _ _ sc _ _ _ => sc
  | _ => { kind := .function, names := [], isGenerator := false, isCoroutine := false }

abbrev CX0 : CXT := fun _ _ _ _ _ _ => False
abbrev E0 : XK := fun _ _ _ => False
theorem pass0 {X : Cx} : Passes CX0 X E0 := fun _ _ _ _ _ _ _ h => h.elim

structure Fun (K : PySem.W.Frag) (x qual : Str) (st : Stmt) (f : Addr) (fd : FuncData) : Prop where
  ex : ∃ (oc : Value) (od : Option Addr) (kV doc pm : Value) (an : Option Addr) (cdv ct : Value) (osl : Array (Option Value)),
    fd = PySem.W.fnOf x qual (defArgs st) (defBody st) (defScope st) .none kV doc pm an cdv ct ∧ K.lookup f = some ⟨oc, od, .func fd, osl⟩ ∧ PySem.W.codeIn K cdv qual = true
  kp : PySem.W.keepIn K (.ref f) = true
section
variable {P : Program} {w : World} {K : PySem.W.Frag} {mg : Str → Option Value} {base : Heap}
theorem Fun.ok {x qual : Str} {st : Stmt} {f : Addr} {fd : FuncData} {N ps : List Str} {k : Nat} {sp : Sp} (F : Fun K x qual st f fd) (S : FnScope N ps (defScope st)) (len : ∀ vs H Q E, sp vs H Q E → vs.length = ps.length)
    (hbody : ∀ (cdv : Value) (A : Around) (outer : List Env) (s : Shared) (H : Hp) (vs : List V) (Q : VK) (E : XK), Room k (A.deeper (envOfC qual (defScope st) s.heap.objs.size f cdv)) → sp vs H Q E →
      ∃ t, PSs (cxOf CX0 P w K mg base N qual (defScope st) f cdv A outer s H E).nox (defBody st) t ∧ t { nx := fun _ H' => Q .non H', rt := Q } (start N vs) H) : FnOk P w K mg base CX0 (k + 1) f fd ps sp := by
  obtain ⟨oc, od, kV, doc, pm, an, cdv, ct, osl, rfl, lk, hcd⟩ := F.ex
  refine fn_of lk hcd S len fun A outer s H vs Q E hr hsp => ?_
  obtain ⟨t, h, q⟩ := hbody cdv A outer s H vs Q E hr hsp
  exact ⟨t, h.nox, q⟩
theorem Fun.binds {x qual : Str} {st : Stmt} {f : Addr} {fd : FuncData} {ps : List Str} (F : Fun K x qual st f fd)
    (h : ∀ (kV doc pm : Value) (an : Option Addr) (cdv ct : Value) (us : List Value), us.length = ps.length → bindArgs (PySem.W.fnOf x qual (defArgs st) (defBody st) (defScope st) .none kV doc pm an cdv ct) ⟨us, []⟩ = pure (ps.zip us)) : Binds K fd ps [] := by
  obtain ⟨oc, od, kV, doc, pm, an, cdv, ct, osl, rfl, lk, hcd⟩ := F.ex
  exact .all (h kV doc pm an cdv ct)
theorem fun_mk {x qual : Str} {st : Stmt} {f : Addr} {oc : Value} {od an : Option Addr} {osl : Array (Option Value)} {kV doc pm cdv ct : Value} (l : K.lookup f = some ⟨oc, od, .func (PySem.W.fnOf x qual (defArgs st) (defBody st) (defScope st) .none kV doc pm an cdv ct), osl⟩)
    (c : PySem.W.codeIn K cdv qual = true) (k : PySem.W.keepIn K (.ref f) = true) : Fun K x qual st f (PySem.W.fnOf x qual (defArgs st) (defBody st) (defScope st) .none kV doc pm an cdv ct) := ⟨⟨oc, od, kV, doc, pm, an, cdv, ct, osl, rfl, l, c⟩, k⟩
end

section
variable {X : Cx}
theorem pv (i : Nat) {x : Str} {pos : Pos} (hN : X.N[i]? = some x := by rfl) (hv : Vis X.env.scope x := by first | exact Or.inl rfl | exact Or.inr (Or.inl rfl) | exact Or.inr (Or.inr rfl)) (hd : (x == ("__debug__" : Str)) = false := by decide)
    (hcd : (x == ("__classdict__" : Str)) = false := by decide) : PE X (.Name x pos) (tVar i) := pe_var hN hv hd hcd
end

theorem iteF {A B : Prop} (h : B) : if false = true then A else B := by
  rw [if_neg Bool.false_ne_true]
  exact h
theorem iteT {A B : Prop} (h : A) : if true = true then A else B := by
  rw [if_pos rfl]
  exact h

def Same (H H' : Hp) : Prop := ∀ b o, H b = some o → H' b = some o
theorem Same.refl (H : Hp) : Same H H := fun _ _ h => h
theorem Same.trans {H H1 H2 : Hp} (a : Same H H1) (b : Same H1 H2) : Same H H2 := fun c o h => b c o (a c o h)
theorem Same.free {H H' : Hp} (e : Same H H') {l : Addr} (h : H' l = Option.none) : H l = Option.none := by
  cases q : H l with
  | none => rfl
  | some o =>
    rw [e l o q] at h
    cases h
theorem Same.seq {K : PySem.W.Frag} {H H' : Hp} {a : Addr} {xs : List V} (e : Same H H') (h : SqL K H a xs) : SqL K H' a xs := by
  rcases h with (h | ⟨o, h⟩) | h
  · exact .inl (.inl (e _ _ h))
  · exact .inl (.inr ⟨o, e _ _ h⟩)
  · exact .inr h

end L2

set_option maxHeartbeats 4000000
namespace L2
open PySem PySem.Spec PyProof.Rows PySem.SeqAt
section
variable {X : Cx}
def CDivB (_ j : Int) : Prop := j ≠ 0 ∧ j.natAbs.log2 < 9000
theorem op_fdivB : OpR X (binaryOp .FloorDiv) (rI CDivB fun i j => .int (i.fdiv j)) := opI fun _ _ _ _ _ _ _ hc q => floordiv_int hc.1 q (Or.inl (PyProof.noPylong_of_log2 hc.2))
def rIsi (K : PySem.W.Frag) : List V → Hp → VK → Prop := fun xs H Q => ∃ x n t b, xs = [x, .ty n] ∧ TyOf K H x t ∧ PySem.W.kitOne K t (.type n) = some b ∧ Q (.bl b) H
theorem call_isi : CallR X (.builtin "isinstance") (rIsi X.K) := by
  intro pins s σ H xs us Q I r h
  obtain ⟨x, n, t, b, rfl, ty, e, q⟩ := h
  cases r with
  | cons rx r1 =>
    cases r1 with
    | cons ry r2 =>
      cases r2
      cases ry
      exact isinst_ok I rx ty e fun tk => ⟨.bl b, H, I.tok _, rfl, q⟩
structure MkO (K : PySem.W.Frag) (C : Addr) : Prop where
  makes : PySem.W.makesIn K C = true
  init : PySem.W.findIn K (.ref C) "__init__" = some (some (.builtin "object.__init__"))
  kp : PySem.W.keepIn K (.ref C) = true
def tMakeO (C : Addr) : TE := fun _ H Q => ∀ x dx, H x = none → H dx = none → dx ≠ x → Q (.ref x) (upd (upd H dx (.own x)) x (.ins C dx []))
theorem pe_makeO {C : Addr} {x : Str} {p pos : Pos} (M : MkO X.K C) (hg : Gl X x) (hm : X.mg x = some (.ref C)) (hdb : (x == ("__debug__" : Str)) = false := by decide) : PE X (.Call (.Name x p) [] [] pos) (tMakeO C) := by
  intro pins s σ H Q I h
  refine wpAny_Call_Name_kw (ld_glob I hg hm ?_ hdb)
  refine PySem.W.callWith_K0 I.kIn M.kp ?_
  have hq := h (s.heap.objs.size + 1) s.heap.objs.size (I.hok.fresh (Nat.le_succ _)) (I.hok.fresh (Nat.le_refl _)) (Nat.ne_of_lt (Nat.lt_succ_self _))
  have I2 := Inv.made (C := C) I
  have Y := PySem.W.makes_of (M := model X.prog X.w) I.kIn M.makes
  refine wpAny_call (make_map0 I.kIn M.makes M.init (fun self => PySem.W.Looks.of_pure (PySem.W.oi_bind self)) ?_)
  have t1 : PySem.W.Looks (model X.prog X.w) ((s.heap.push PySem.W.emptyDict).push (PySem.W.instObj C s.heap.objs.size)) (typeOf (.ref (s.heap.objs.size + 1))) (.ref C) :=
    (PySem.W.Looks.ld (o := PySem.W.instObj C s.heap.objs.size) (by have e : ((s.heap.push PySem.W.emptyDict).push (PySem.W.instObj C s.heap.objs.size)).get? (s.heap.push PySem.W.emptyDict).objs.size = some (PySem.W.instObj C s.heap.objs.size) := Heap.get?_push_size _ rfl; rw [Heap.size_push] at e; exact e)).andThen .now
  have t2 : PySem.W.Looks (model X.prog X.w) ((s.heap.push PySem.W.emptyDict).push (PySem.W.instObj C s.heap.objs.size)) (isInstance (.ref (s.heap.objs.size + 1)) (.type "object")) true :=
    t1.andThen (Y.top.keeps fun b o e => Heap.get?_push_of_some _ (Heap.get?_push_of_some _ e))
  refine PySem.codeAny_call_builtin PySem.W.oi_plain PySem.W.entry_oi (@PySem.W.check_slot (model X.prog X.w) _ _ _ "object.__init__" "object" "__init__" (.ref (s.heap.objs.size + 1)) [] [] _ PySem.W.oi_kind PySem.W.oi_split t2 (PySem.W.oi_args (.ref (s.heap.objs.size + 1))) ?_)
  rw [PySem.W.oi_run]
  exact wpAny_pure (And.intro rfl ⟨V.ref (s.heap.objs.size + 1), _, I2, rfl, hq⟩)
end
mutual
inductive Is (K : PySem.W.Frag) (H : Hp) : V → PyData → Prop
  | non : Is K H .non .none
  | bl (b : Bool) : Is K H (.bl b) (.bool b)
  | int (i : Int) : Is K H (.int i) (.int i)
  | str (x : Str) : Is K H (.str x) (.str x)
  | tup {a : Addr} {xs : List V} {ds : List PyData} : SqT K H a xs → IsAll K H xs ds → Is K H (.ref a) (.tuple ds)
  | lst {a : Addr} {xs : List V} {ds : List PyData} : SqL K H a xs → IsAll K H xs ds → Is K H (.ref a) (.list ds)
inductive IsAll (K : PySem.W.Frag) (H : Hp) : List V → List PyData → Prop
  | nil : IsAll K H [] []
  | cons {v : V} {vs : List V} {d : PyData} {ds : List PyData} : Is K H v d → IsAll K H vs ds → IsAll K H (v :: vs) (d :: ds)
end
theorem Same.tup {K : PySem.W.Frag} {H H' : Hp} {a : Addr} {xs : List V} (e : Same H H') (h : SqT K H a xs) : SqT K H' a xs := by
  rcases h with (h | ⟨o, h⟩) | h
  · exact .inl (.inl (e _ _ h))
  · exact .inl (.inr ⟨o, e _ _ h⟩)
  · exact .inr h
mutual
theorem Is.same {K : PySem.W.Frag} {H H' : Hp} (e : Same H H') : ∀ {v : V} {d : PyData}, Is K H v d → Is K H' v d
  | _, _, .non => .non
  | _, _, .bl b => .bl b
  | _, _, .int i => .int i
  | _, _, .str x => .str x
  | _, _, .tup h r => .tup (e.tup h) (IsAll.same e r)
  | _, _, .lst h r => .lst (e.seq h) (IsAll.same e r)
theorem IsAll.same {K : PySem.W.Frag} {H H' : Hp} (e : Same H H') : ∀ {v : List V} {d : List PyData}, IsAll K H v d → IsAll K H' v d
  | _, _, .nil => .nil
  | _, _, .cons a r => .cons (Is.same e a) (IsAll.same e r)
end
section
variable {X : Cx} {pins : List (Addr × Obj)} {σ : St} {H : Hp} {s : Shared}
mutual
theorem Is.reads (I : Inv X pins σ H s) : ∀ {v : V} {d : PyData} {u : Value}, Is X.K H v d → RelV v u → ∃ as, Reads s.heap u d as
  | _, _, _, .non, r => by cases r; exact ⟨_, .none⟩
  | _, _, _, .bl b, r => by cases r; exact ⟨_, .bool b⟩
  | _, _, _, .int i, r => by obtain ⟨t, rfl⟩ := r; exact ⟨_, .int i t⟩
  | _, _, _, .str x, r => by obtain ⟨t, rfl⟩ := r; exact ⟨_, .str x t⟩
  | _, _, _, .tup h a, r => by
    cases r
    obtain ⟨its, rv, ⟨o, ho, hc, n, hd⟩, _⟩ := I.tuple h
    obtain ⟨as, hr⟩ := IsAll.reads I a rv
    exact ⟨as, .tuple ho hc hd (by simpa using hr)⟩
  | _, _, _, .lst h a, r => by
    cases r
    obtain ⟨its, rv, ⟨o, n, ho, hc, _, hd⟩, _⟩ := I.list h
    obtain ⟨as, hr⟩ := IsAll.reads I a rv
    exact ⟨_, .list ho hc hd (by simpa using hr)⟩
theorem IsAll.reads (I : Inv X pins σ H s) : ∀ {vs : List V} {ds : List PyData} {us : List Value}, IsAll X.K H vs ds → Vals vs us → ∃ as, ReadsAll s.heap us ds as
  | _, _, _, .nil, .nil => ⟨_, .nil⟩
  | _, _, _, .cons a r, .cons q t => by
    obtain ⟨as, h1⟩ := Is.reads I a q
    obtain ⟨bs, h2⟩ := IsAll.reads I r t
    exact ⟨_, .cons h1 h2⟩
end
def rEqD (K : PySem.W.Frag) : R2 := fun x y H Q => ∃ d d', Is K H x d ∧ Is K H y d' ∧ shaped d = true ∧ shaped d' = true ∧ noMix d d' = true ∧ Q (.bl (PySem.Spec.same d d')) H
def rNeD (K : PySem.W.Frag) : R2 := fun x y H Q => ∃ d d', Is K H x d ∧ Is K H y d' ∧ shaped d = true ∧ shaped d' = true ∧ noMix d d' = true ∧ Q (.bl (!PySem.Spec.same d d')) H
theorem op_eqD (hu : X.A.units + 64 < cLine) : OpR X (compareOp .Eq) (rEqD X.K) := by
  intro pins s σ H x y v u Q I rx ry h
  obtain ⟨d, d', hx, hy, sx, sy, nm, q⟩ := h
  obtain ⟨as, ra⟩ := hx.reads I rx
  obtain ⟨bs, rb⟩ := hy.reads I ry
  exact eq_dataH_same ra rb sx sy hu nm ⟨.bl _, H, I, rfl, q⟩
theorem op_neD (hu : X.A.units + 64 < cLine) : OpR X (compareOp .NotEq) (rNeD X.K) := by
  intro pins s σ H x y v u Q I rx ry h
  obtain ⟨d, d', hx, hy, sx, sy, nm, q⟩ := h
  obtain ⟨as, ra⟩ := hx.reads I rx
  obtain ⟨bs, rb⟩ := hy.reads I ry
  exact ne_dataH_same ra rb sx sy hu nm ⟨.bl _, H, I, rfl, q⟩
end
theorem iteI {i j : Int} {A B : Prop} (h1 : i = j → A) (h2 : ¬ i = j → B) : if decide (V.int i = V.int j) = true then A else B := by
  by_cases h : i = j
  · rw [if_pos (decide_eq_true (congrArg V.int h))]; exact h1 h
  · rw [if_neg (by simpa using h)]; exact h2 h
theorem iteNI {i j : Int} {A B : Prop} (h1 : ¬ i = j → A) (h2 : i = j → B) : if (!decide (V.int i = V.int j)) = true then A else B := by
  by_cases h : i = j
  · rw [if_neg (by simpa using h)]; exact h2 h
  · rw [if_pos (by simpa using h)]; exact h1 h
theorem iteP {p A B : Prop} [Decidable p] (h1 : p → A) (h2 : ¬ p → B) : if decide p = true then A else B := by
  by_cases h : p
  · rw [if_pos (decide_eq_true h)]; exact h1 h
  · rw [if_neg (by simpa using h)]; exact h2 h
theorem same_upd {H : Hp} {p : Addr} {o : HO} (h : H p = none) : Same H (upd H p o) := fun b u e => by
  rw [upd_ne (ne_of_none e h)]; exact e
end L2
namespace Mine
@[irreducible] def dv (a b : Int) : Int := (Int.gcd a b : Int)
theorem dv_nonneg (a b : Int) : 0 ≤ dv a b := by unfold dv; exact Int.natCast_nonneg _
theorem dv_fmod (a b : Int) : dv b (a.fmod b) = dv a b := by
  unfold dv
  have e : a.fmod b = a - a.fdiv b * b := by rw [Int.fmod_def, Int.mul_comm]
  rw [e, Int.gcd_sub_mul_right_right, Int.gcd_comm]
theorem dv_zero (a : Int) : dv a 0 = (a.natAbs : Int) := by
  unfold dv; rw [Int.gcd_zero_right]
theorem dv_abs (a b : Int) : dv (a.natAbs : Int) (b.natAbs : Int) = dv a b := by
  unfold dv Int.gcd; simp
theorem fmod_abs_lt (a b : Int) (h : b ≠ 0) : (a.fmod b).natAbs < b.natAbs := by
  rcases Int.lt_trichotomy b 0 with hb | hb | hb
  · have e : a.fmod b = -((-a).fmod (-b)) := by
      simp [Int.neg_fmod_neg] 
    have h1 := Int.fmod_nonneg_of_pos (-a) (show 0 < -b by omega)
    have h2 := Int.fmod_lt_of_pos (-a) (show 0 < -b by omega)
    omega
  · exact absurd hb h
  · have h1 := Int.fmod_nonneg_of_pos a hb
    have h2 := Int.fmod_lt_of_pos a hb
    omega
theorem d_turn {a b g r : Int} (h : dv g r = dv a b) (hr : 0 < r) : 0 ≤ r ∧ 0 ≤ g.fmod r ∧ dv r (g.fmod r) = dv a b :=
  ⟨by omega, Int.fmod_nonneg_of_pos g hr, by rw [dv_fmod, h]⟩
theorem d_less {g r : Int} (hr : 0 < r) : (g.fmod r).toNat < r.toNat := by
  have h1 := Int.fmod_nonneg_of_pos g hr
  have h2 := Int.fmod_lt_of_pos g hr
  omega
theorem d_out {a b g r : Int} (h : dv g r = dv a b) (g0 : 0 ≤ g) (r0 : 0 ≤ r) (hr : ¬ 0 < r) : g = dv a b := by
  have e : r = 0 := by omega
  rw [← h, e, dv_zero]; omega
theorem l_turn {a b x y : Int} (h : dv x y = dv a b) : dv y (x.fmod y) = dv a b := by rw [dv_fmod, h]
theorem l_out {a b x y : Int} (h : dv x y = dv a b) (hy : y = 0) : (x.natAbs : Int) = dv a b := by
  rw [← h, hy, dv_zero]
theorem dv_left (a b : Int) : ∃ q, a = dv a b * q := by
  obtain ⟨q, hq⟩ := Int.gcd_dvd_left a b
  exact ⟨q, by unfold dv; exact hq⟩
theorem dv_right (a b : Int) : ∃ q, b = dv a b * q := by
  obtain ⟨q, hq⟩ := Int.gcd_dvd_right a b
  exact ⟨q, by unfold dv; exact hq⟩
theorem dv_eq_zero {a b : Int} (h : dv a b = 0) : a = 0 ∧ b = 0 := by
  obtain ⟨q, hq⟩ := dv_left a b
  obtain ⟨r, hr⟩ := dv_right a b
  rw [h] at hq hr
  exact ⟨by omega, by omega⟩
theorem dv_pos {a b : Int} (h : b ≠ 0) : 0 < dv a b := by
  have := dv_nonneg a b
  rcases (by omega : dv a b = 0 ∨ 0 < dv a b) with e | e
  · exact absurd (dv_eq_zero e).2 h
  · exact e
theorem dv_le (a b : Int) (h : b ≠ 0) : dv a b ≤ (b.natAbs : Int) := by
  have : Int.gcd a b ≤ b.natAbs := by
    unfold Int.gcd
    exact Nat.gcd_le_right _ (by omega)
  unfold dv; omega
theorem fdiv_mul {g q : Int} (hg : g ≠ 0) : (g * q).fdiv g = q := Int.mul_fdiv_cancel_left q hg
@[irreducible] def sg (a b : Int) : Int := if b < 0 then -(dv a b) else dv a b
@[irreducible] def tp (a b : Int) : Int := a.fdiv (sg a b)
@[irreducible] def bt (a b : Int) : Int := b.fdiv (sg a b)
theorem sg_pos {a b : Int} (h : ¬ b < 0) : sg a b = dv a b := by unfold sg; rw [if_neg h]
theorem sg_neg {a b : Int} (h : b < 0) : sg a b = -(dv a b) := by unfold sg; rw [if_pos h]
theorem sg_ne {a b : Int} (h : b ≠ 0) : sg a b ≠ 0 := by
  have := dv_pos (a := a) h
  unfold sg; split <;> omega
theorem tp_mul {a b : Int} (h : b ≠ 0) : sg a b * tp a b = a := by
  obtain ⟨q, hq⟩ := dv_left a b
  have hs := sg_ne (a := a) h
  have : ∃ k, a = sg a b * k := by
    unfold sg; split
    · exact ⟨-q, by rw [Int.neg_mul_neg]; exact hq⟩
    · exact ⟨q, hq⟩
  obtain ⟨k, hk⟩ := this
  have e : tp a b = k := by
    unfold tp
    conv => lhs; lhs; rw [hk]
    exact fdiv_mul hs
  rw [e]; exact hk.symm
theorem bt_mul {a b : Int} (h : b ≠ 0) : sg a b * bt a b = b := by
  obtain ⟨q, hq⟩ := dv_right a b
  have hs := sg_ne (a := a) h
  have : ∃ k, b = sg a b * k := by
    unfold sg; split
    · exact ⟨-q, by rw [Int.neg_mul_neg]; exact hq⟩
    · exact ⟨q, hq⟩
  obtain ⟨k, hk⟩ := this
  have e : bt a b = k := by
    unfold bt
    conv => lhs; lhs; rw [hk]
    exact fdiv_mul hs
  rw [e]; exact hk.symm
theorem bt_pos {a b : Int} (h : b ≠ 0) : 0 < bt a b := by
  have e := bt_mul (a := a) h
  have g := dv_pos (a := a) h
  rcases (by omega : 0 < bt a b ∨ bt a b ≤ 0) with p | p
  · exact p
  · exfalso
    by_cases hb : b < 0
    · rw [sg_neg hb, Int.neg_mul] at e
      have := Int.mul_nonpos_of_nonneg_of_nonpos (Int.le_of_lt g) p
      omega
    · rw [sg_pos hb] at e
      have := Int.mul_nonpos_of_nonneg_of_nonpos (Int.le_of_lt g) p
      omega
theorem cross {a b : Int} (h : b ≠ 0) : tp a b * b = a * bt a b := by
  have e1 := tp_mul (a := a) h
  have e2 := bt_mul (a := a) h
  calc tp a b * b = tp a b * (sg a b * bt a b) := by rw [e2]
    _ = (sg a b * tp a b) * bt a b := by rw [Int.mul_comm (sg a b) (tp a b), Int.mul_assoc]
    _ = a * bt a b := by rw [e1]
theorem natAbs_sg (a b : Int) : (sg a b).natAbs = Int.gcd a b := by
  unfold sg dv; split <;> omega
theorem gcd_scale {a b s t u : Int} (e1 : s * t = a) (e2 : s * u = b) : Int.gcd a b = s.natAbs * Int.gcd t u := by
  rw [← e1, ← e2, Int.gcd_mul_left]
theorem low {a b : Int} (h : b ≠ 0) : dv (tp a b) (bt a b) = 1 := by
  have e := gcd_scale (tp_mul (a := a) h) (bt_mul (a := a) h)
  rw [natAbs_sg] at e
  have p := dv_pos (a := a) h
  have q : 0 < Int.gcd a b := by unfold dv at p; omega
  have : Int.gcd a b * Int.gcd (tp a b) (bt a b) = Int.gcd a b * 1 := by rw [← e, Nat.mul_one]
  have := Nat.eq_of_mul_eq_mul_left q this
  unfold dv; rw [this]; rfl
theorem coprime_eq {a b c d : Int} (hb : 0 < b) (hd : 0 < d) (h1 : dv a b = 1) (h2 : dv c d = 1) (e : a * d = c * b) : a = c ∧ b = d := by
  have g1 : Nat.Coprime b.natAbs a.natAbs := by
    have : Int.gcd a b = 1 := by unfold dv at h1; omega
    unfold Int.gcd at this
    exact Nat.Coprime.symm this
  have g2 : Nat.Coprime d.natAbs c.natAbs := by
    have : Int.gcd c d = 1 := by unfold dv at h2; omega
    unfold Int.gcd at this
    exact Nat.Coprime.symm this
  have en : a.natAbs * d.natAbs = c.natAbs * b.natAbs := by rw [← Int.natAbs_mul, ← Int.natAbs_mul, e]
  have d1 : b.natAbs ∣ d.natAbs := g1.dvd_of_dvd_mul_left ⟨c.natAbs, by rw [en, Nat.mul_comm]⟩
  have d2 : d.natAbs ∣ b.natAbs := g2.dvd_of_dvd_mul_left ⟨a.natAbs, by rw [← en, Nat.mul_comm]⟩
  have eb : b.natAbs = d.natAbs := Nat.dvd_antisymm d1 d2
  have ebd : b = d := by omega
  refine ⟨?_, ebd⟩
  rw [ebd] at e
  exact Int.eq_of_mul_eq_mul_right (by omega) e
theorem tp_uniq {a b x y : Int} (h : b ≠ 0) (hy : 0 < y) (hl : dv x y = 1) (e : a * y = x * b) : tp a b = x ∧ bt a b = y := by
  refine coprime_eq (bt_pos h) hy (low h) hl ?_
  have c := cross (a := a) h
  -- tp*y = x*bt : multiply by b
  have : (tp a b * y) * b = (x * bt a b) * b := by
    calc (tp a b * y) * b = (tp a b * b) * y := by rw [Int.mul_assoc, Int.mul_comm y b, ← Int.mul_assoc]
      _ = (a * bt a b) * y := by rw [c]
      _ = (a * y) * bt a b := by rw [Int.mul_assoc, Int.mul_comm (bt a b) y, ← Int.mul_assoc]
      _ = (x * b) * bt a b := by rw [e]
      _ = (x * bt a b) * b := by rw [Int.mul_assoc, Int.mul_comm b, ← Int.mul_assoc]
  exact Int.eq_of_mul_eq_mul_right h this
theorem natAbs_fdiv_le (a s : Int) (k : Int) (e : s * k = a) (hs : s ≠ 0) : k.natAbs ≤ a.natAbs := by
  have : a.natAbs = s.natAbs * k.natAbs := by rw [← e, Int.natAbs_mul]
  rw [this]
  exact Nat.le_mul_of_pos_left _ (by omega)
theorem tp_le {a b : Int} (h : b ≠ 0) : (tp a b).natAbs ≤ a.natAbs := natAbs_fdiv_le a _ _ (tp_mul h) (sg_ne h)
theorem bt_le {a b : Int} (h : b ≠ 0) : (bt a b).natAbs ≤ b.natAbs := natAbs_fdiv_le b _ _ (bt_mul h) (sg_ne h)

theorem same_cross {a b c d : Int} (hb : b ≠ 0) (hd : d ≠ 0) (e : a * d = c * b) : tp a b = tp c d ∧ bt a b = bt c d := by
  refine tp_uniq hb (bt_pos hd) (low hd) ?_
  have h := cross (a := c) hd
  have : (a * bt c d) * d = (tp c d * b) * d := by
    calc (a * bt c d) * d = (a * d) * bt c d := by rw [Int.mul_assoc, Int.mul_comm (bt c d) d, ← Int.mul_assoc]
      _ = (c * b) * bt c d := by rw [e]
      _ = (c * bt c d) * b := by rw [Int.mul_assoc, Int.mul_comm b, ← Int.mul_assoc]
      _ = (tp c d * d) * b := by rw [h]
      _ = (tp c d * b) * d := by rw [Int.mul_assoc, Int.mul_comm d b, ← Int.mul_assoc]
  exact Int.eq_of_mul_eq_mul_right hd this
theorem lo_self {x y : Int} (hy : 0 < y) (hl : dv x y = 1) : tp x y = x ∧ bt x y = y := tp_uniq (by omega) hy hl rfl
theorem ne_mul {a b : Int} (ha : a ≠ 0) (hb : b ≠ 0) : a * b ≠ 0 := Int.mul_ne_zero ha hb
theorem plus_assoc {a b c d e f T B T' B' : Int} (hb : b ≠ 0) (hd : d ≠ 0) (hf : f ≠ 0) (hB : B ≠ 0) (hB' : B' ≠ 0)
    (h1 : T * (b * d) = (a * d + c * b) * B) (h2 : T' * (d * f) = (c * f + e * d) * B') :
    tp (T * f + e * B) (B * f) = tp (a * B' + T' * b) (b * B') ∧ bt (T * f + e * B) (B * f) = bt (a * B' + T' * b) (b * B') := by
  refine same_cross (ne_mul hB hf) (ne_mul hb hB') ?_
  have k : ((T * f + e * B) * (b * B')) * ((b * d) * (d * f)) = ((a * B' + T' * b) * (B * f)) * ((b * d) * (d * f)) := by
    grind
  exact Int.eq_of_mul_eq_mul_right (ne_mul (ne_mul hb hd) (ne_mul hd hf)) k
theorem times_assoc {a b c d e f T B T' B' : Int} (hb : b ≠ 0) (hd : d ≠ 0) (hf : f ≠ 0) (hB : B ≠ 0) (hB' : B' ≠ 0)
    (h1 : T * (b * d) = (a * c) * B) (h2 : T' * (d * f) = (c * e) * B') :
    tp (T * e) (B * f) = tp (a * T') (b * B') ∧ bt (T * e) (B * f) = bt (a * T') (b * B') := by
  refine same_cross (ne_mul hB hf) (ne_mul hb hB') ?_
  have k : ((T * e) * (b * B')) * ((b * d) * (d * f)) = ((a * T') * (B * f)) * ((b * d) * (d * f)) := by
    grind
  exact Int.eq_of_mul_eq_mul_right (ne_mul (ne_mul hb hd) (ne_mul hd hf)) k
theorem distrib {a b c d e f T B P U R V : Int} (hb : b ≠ 0) (hd : d ≠ 0) (hf : f ≠ 0) (hB : B ≠ 0) (hU : U ≠ 0) (hV : V ≠ 0)
    (h1 : T * (d * f) = (c * f + e * d) * B) (h2 : P * (b * d) = (a * c) * U) (h3 : R * (b * f) = (a * e) * V) :
    tp (a * T) (b * B) = tp (P * V + R * U) (U * V) ∧ bt (a * T) (b * B) = bt (P * V + R * U) (U * V) := by
  refine same_cross (ne_mul hb hB) (ne_mul hU hV) ?_
  have k : ((a * T) * (U * V)) * ((d * f) * ((b * d) * (b * f))) = ((P * V + R * U) * (b * B)) * ((d * f) * ((b * d) * (b * f))) := by
    grind
  exact Int.eq_of_mul_eq_mul_right (ne_mul (ne_mul hd hf) (ne_mul (ne_mul hb hd) (ne_mul hb hf))) k
theorem plus_comm {a b c d : Int} : tp (a * d + c * b) (b * d) = tp (c * b + a * d) (d * b) ∧ bt (a * d + c * b) (b * d) = bt (c * b + a * d) (d * b) := by
  rw [Int.add_comm, Int.mul_comm b d]; exact ⟨rfl, rfl⟩
theorem times_comm {a b c d : Int} : tp (a * c) (b * d) = tp (c * a) (d * b) ∧ bt (a * c) (b * d) = bt (c * a) (d * b) := by
  rw [Int.mul_comm a c, Int.mul_comm b d]; exact ⟨rfl, rfl⟩
theorem plus_zero {a b : Int} (hb : 0 < b) (hl : dv a b = 1) : tp (a * 1 + 0 * b) (b * 1) = a ∧ bt (a * 1 + 0 * b) (b * 1) = b := by
  have e1 : a * 1 + 0 * b = a := by omega
  have e2 : b * 1 = b := by omega
  rw [e1, e2]; exact lo_self hb hl
theorem zero_plus {a b : Int} (hb : 0 < b) (hl : dv a b = 1) : tp (0 * b + a * 1) (1 * b) = a ∧ bt (0 * b + a * 1) (1 * b) = b := by
  have e1 : 0 * b + a * 1 = a := by omega
  have e2 : 1 * b = b := by omega
  rw [e1, e2]; exact lo_self hb hl
theorem times_one {a b : Int} (hb : 0 < b) (hl : dv a b = 1) : tp (a * 1) (b * 1) = a ∧ bt (a * 1) (b * 1) = b := by
  rw [Int.mul_one, Int.mul_one]; exact lo_self hb hl
theorem one_times {a b : Int} (hb : 0 < b) (hl : dv a b = 1) : tp (1 * a) (1 * b) = a ∧ bt (1 * a) (1 * b) = b := by
  rw [Int.one_mul, Int.one_mul]; exact lo_self hb hl
theorem dv01 : dv 0 1 = 1 := by unfold dv; decide
theorem dv11 : dv 1 1 = 1 := by unfold dv; decide
theorem times_zero {a b : Int} (hb : 0 < b) : tp (a * 0) (b * 1) = 0 ∧ bt (a * 0) (b * 1) = 1 :=
  tp_uniq (by omega) (by omega) dv01 (by omega)
theorem plus_minus {a b : Int} (hb : 0 < b) : tp (a * b + -a * b) (b * b) = 0 ∧ bt (a * b + -a * b) (b * b) = 1 := by
  refine tp_uniq (ne_mul (by omega) (by omega)) (by omega) dv01 ?_
  rw [Int.neg_mul]; omega
theorem dv_neg (a b : Int) : dv (-a) b = dv a b := by unfold dv; rw [Int.neg_gcd]
theorem dv_comm (a b : Int) : dv a b = dv b a := by unfold dv; rw [Int.gcd_comm]
theorem times_inv {a b : Int} (ha : a ≠ 0) (hb : b ≠ 0) : tp (a * tp b a) (b * bt b a) = 1 ∧ bt (a * tp b a) (b * bt b a) = 1 := by
  refine tp_uniq (ne_mul hb (Int.ne_of_gt (bt_pos ha))) (by omega) (by unfold dv; decide) ?_
  have := cross (a := b) ha
  grind

open PySem
theorem abs_start (a b : Int) : dv (if a < 0 then -a else a) (if b < 0 then -b else b) = dv a b := by
  have e : ∀ x : Int, (if x < 0 then -x else x) = (x.natAbs : Int) := fun x => by split <;> omega
  rw [e, e, dv_abs]
theorem start1 (a b : Int) : 0 ≤ (if a < 0 then -a else a) ∧ 0 ≤ (if b < 0 then -b else b) ∧ dv (if a < 0 then -a else a) (if b < 0 then -b else b) = dv a b :=
  ⟨by split <;> omega, by split <;> omega, abs_start a b⟩
theorem out2 {a b x y : Int} (h : dv x y = dv a b) (hy : y = 0) : (if x < 0 then -x else x) = dv a b := by
  rw [← l_out h hy]; split <;> omega

structure S1 (x : Int) : Prop where
  lo : -10000000000000000000000000000000 ≤ x
  hi : x ≤ 10000000000000000000000000000000
structure S2 (x : Int) : Prop where
  lo : -1000000000000000000000000000000000000000000000000000000000000000 ≤ x
  hi : x ≤ 1000000000000000000000000000000000000000000000000000000000000000
structure Po (x : Int) : Prop where
  lo : 0 < x
theorem S1.two {x : Int} (h : S1 x) : S2 x := ⟨by have := h.lo; omega, by have := h.hi; omega⟩
theorem S1.zero : S1 0 := ⟨by decide, by decide⟩
theorem S1.one : S1 1 := ⟨by decide, by decide⟩
theorem Po.one : Po 1 := ⟨by decide⟩
theorem S2.lt {y : Int} (h : S2 y) : y.natAbs < 2 ^ 210 := by
  have : (2 : Nat) ^ 210 > 1000000000000000000000000000000000000000000000000000000000000000 := by decide
  have := h.lo
  have := h.hi
  omega
theorem S2.bits {y : Int} (h : S2 y) : Builtin.Int.intBits y ≤ 2 ^ 20 :=
  intBits_le_iff.mpr (Nat.lt_of_lt_of_le h.lt (Nat.pow_le_pow_right (by decide) (by decide)))
theorem mul_in {x y : Int} (hx : S1 x) (hy : S1 y) : -100000000000000000000000000000000000000000000000000000000000000 ≤ x * y ∧ x * y ≤ 100000000000000000000000000000000000000000000000000000000000000 := by
  have x0 := hx.lo
  have x1 := hx.hi
  have y0 := hy.lo
  have y1 := hy.hi
  have h : (x * y).natAbs = x.natAbs * y.natAbs := Int.natAbs_mul x y
  have k : x.natAbs * y.natAbs ≤ 10000000000000000000000000000000 * 10000000000000000000000000000000 := Nat.mul_le_mul (by omega) (by omega)
  omega
theorem S2.mul {x y : Int} (hx : S1 x) (hy : S1 y) : S2 (x * y) := ⟨by have := mul_in hx hy; omega, by have := mul_in hx hy; omega⟩
theorem Po.mul {x y : Int} (hx : Po x) (hy : Po y) : Po (x * y) := ⟨Int.mul_pos hx.lo hy.lo⟩
theorem Po.ne {x : Int} (h : Po x) : x ≠ 0 := by have := h.lo; omega
theorem Po.sg {a b : Int} (h : Po b) : dv a b = sg a b := (sg_pos (by have := h.lo; omega)).symm
theorem S1.tp {a b : Int} (h : S1 a) (p : Po b) : S1 (tp a b) := by
  have l := tp_le (a := a) p.ne
  have := h.lo
  have := h.hi
  exact ⟨by omega, by omega⟩
theorem S2.tp {a b : Int} (h : S2 a) (p : Po b) : S2 (tp a b) := by
  have l := tp_le (a := a) p.ne
  have := h.lo
  have := h.hi
  exact ⟨by omega, by omega⟩
theorem S1.bt {a b : Int} (h : S1 b) (p : Po b) : S1 (bt a b) := by
  have l := bt_le (a := a) p.ne
  have := h.lo
  have := h.hi
  exact ⟨by omega, by omega⟩
theorem S2.bt {a b : Int} (h : S2 b) (p : Po b) : S2 (bt a b) := by
  have l := bt_le (a := a) p.ne
  have := h.lo
  have := h.hi
  exact ⟨by omega, by omega⟩
theorem Po.bt {a b : Int} (p : Po b) : Po (bt a b) := ⟨bt_pos p.ne⟩
theorem S2.dv {a b : Int} (h : S2 b) (p : Po b) : S2 (dv a b) := by
  have := dv_le a b p.ne
  have := dv_nonneg a b
  have := h.lo
  have := h.hi
  exact ⟨by omega, by omega⟩
structure Low (a b : Int) : Prop where
  one : dv a b = 1
theorem zl {a b : Int} (p : Po b) (l : Low a b) : tp (0 * b + a * 1) (1 * b) = a ∧ bt (0 * b + a * 1) (1 * b) = b := zero_plus p.lo l.one
theorem ol {a b : Int} (p : Po b) (l : Low a b) : tp (1 * a) (1 * b) = a ∧ bt (1 * a) (1 * b) = b := one_times p.lo l.one
theorem cp {a b c d : Int} (_ : Low (tp (c * b + a * d) (d * b)) (bt (c * b + a * d) (d * b))) : tp (a * d + c * b) (b * d) = tp (c * b + a * d) (d * b) ∧ bt (a * d + c * b) (b * d) = bt (c * b + a * d) (d * b) := plus_comm
theorem ct {a b c d : Int} (_ : Low (tp (c * a) (d * b)) (bt (c * a) (d * b))) : tp (a * c) (b * d) = tp (c * a) (d * b) ∧ bt (a * c) (b * d) = bt (c * a) (d * b) := times_comm
end Mine
namespace Mine
def Pr (p : Nat) : Prop := 2 ≤ p ∧ ∀ d, 2 ≤ d → d * d ≤ p → ¬ p % d = 0
theorem Pr.div {p d : Nat} (h : Pr p) (hd : d ∣ p) : d = 1 ∨ d = p := by
  obtain ⟨k, hk⟩ := hd
  have p2 := h.1
  rcases (by omega : d = 0 ∨ d = 1 ∨ 2 ≤ d) with e | e | e
  · rw [e, Nat.zero_mul] at hk; omega
  · exact .inl e
  · rcases (by omega : k = 0 ∨ k = 1 ∨ 2 ≤ k) with f | f | f
    · rw [f, Nat.mul_zero] at hk; omega
    · rw [f, Nat.mul_one] at hk; exact .inr hk.symm
    · exfalso
      rcases Nat.le_total d k with g | g
      · have : d * d ≤ p := by rw [hk]; exact Nat.mul_le_mul_left d g
        exact h.2 d e this (by rw [hk]; exact Nat.mul_mod_right d k)
      · have : k * k ≤ p := by rw [hk]; exact Nat.mul_le_mul_right k g
        exact h.2 k f this (by rw [hk]; exact Nat.mul_mod_left d k)
theorem Pr.cop {p a : Nat} (h : Pr p) (ha : ¬ p ∣ a) : Nat.Coprime p a := by
  have d1 := Nat.gcd_dvd_left p a
  have d2 := Nat.gcd_dvd_right p a
  rcases h.div d1 with e | e
  · exact e
  · rw [e] at d2; exact absurd d2 ha
theorem Pr.mul {p a b : Nat} (h : Pr p) (hd : p ∣ a * b) : p ∣ a ∨ p ∣ b := by
  by_cases c : p ∣ a
  · exact .inl c
  · exact .inr ((h.cop c).dvd_of_dvd_mul_left hd)
theorem small {p a : Nat} (h0 : 0 < a) (h1 : a < p) : ¬ p ∣ a := fun h => by
  have := Nat.le_of_dvd h0 h
  omega
theorem hole : ∀ (n : Nat) (l : List Nat), l.Nodup → (∀ a ∈ l, a < n) → l.length ≤ n
  | 0, l, _, h => by
    cases l with
    | nil => exact Nat.le_refl 0
    | cons a r => exact absurd (h a (List.mem_cons_self ..)) (by omega)
  | n + 1, l, nd, h => by
    by_cases c : n ∈ l
    · have e := List.length_erase_of_mem c
      have := hole n (l.erase n) (nd.erase n) (fun a ha => by
        have m := (List.Nodup.mem_erase_iff nd).mp ha
        have := h a m.2
        have := m.1
        omega)
      omega
    · have := hole n l nd (fun a ha => by
        have := h a ha
        have : a ≠ n := fun e => c (e ▸ ha)
        omega)
      omega
theorem perm : ∀ (n : Nat) (l : List Nat), l.Nodup → (∀ a ∈ l, a < n) → l.length = n → l.Perm (List.range n)
  | 0, l, _, _, e => by
    have : l = [] := List.length_eq_zero_iff.mp e
    rw [this]; exact List.Perm.refl _
  | n + 1, l, nd, h, e => by
    by_cases c : n ∈ l
    · have e' := List.length_erase_of_mem c
      have i := perm n (l.erase n) (nd.erase n) (fun a ha => by
        have m := (List.Nodup.mem_erase_iff nd).mp ha
        have := h a m.2
        have := m.1
        omega) (by omega)
      have q := List.perm_cons_erase c
      refine q.trans ?_
      rw [List.range_succ]
      exact (i.cons n).trans (List.perm_append_singleton n (List.range n)).symm
    · have := hole n l nd (fun a ha => by
        have := h a ha
        have : a ≠ n := fun e => c (e ▸ ha)
        omega)
      omega
def pd : List Nat → Nat
  | [] => 1
  | a :: r => a * pd r
theorem pd_perm {l m : List Nat} (h : l.Perm m) : pd l = pd m := by
  induction h with
  | nil => rfl
  | cons a _ ih => show a * _ = a * _; rw [ih]
  | swap a b l => show b * (a * _) = a * (b * _); rw [← Nat.mul_assoc, ← Nat.mul_assoc, Nat.mul_comm b a]
  | trans _ _ i j => exact i.trans j
theorem pd_cop {p : Nat} (h : Pr p) : ∀ (l : List Nat), (∀ a ∈ l, ¬ p ∣ a) → ¬ p ∣ pd l
  | [], _ => fun d => by
    have := Nat.le_of_dvd (by decide) d
    have := h.1
    have e : pd [] = 1 := rfl
    omega
  | a :: r, g => fun d => by
    rcases h.mul d with e | e
    · exact g a (List.mem_cons_self ..) e
    · exact pd_cop h r (fun b hb => g b (List.mem_cons_of_mem _ hb)) e
theorem pd_mod (p x : Nat) : ∀ (l : List Nat), pd (l.map fun i => x * i % p) % p = x ^ l.length * pd l % p
  | [] => by simp [pd]
  | a :: r => by
    have ih := pd_mod p x r
    show (x * a % p) * pd (r.map fun i => x * i % p) % p = x ^ (r.length + 1) * (a * pd r) % p
    rw [Nat.mul_mod, Nat.mod_mod, ih, ← Nat.mul_mod, Nat.pow_succ]
    congr 1
    grind
theorem fermat {p x : Nat} (h : Pr p) (hx : ¬ p ∣ x) : x ^ (p - 1) % p = 1 := by
  have p2 := h.1
  let f : Nat → Nat := fun i => x * (i + 1) % p - 1
  have pos : ∀ i, i < p - 1 → 0 < x * (i + 1) % p := fun i hi => by
    rcases Nat.eq_zero_or_pos (x * (i + 1) % p) with e | e
    · rcases h.mul (Nat.dvd_of_mod_eq_zero e) with d | d
      · exact absurd d hx
      · exact absurd d (small (by omega) (by omega))
    · exact e
  have lt : ∀ i, x * (i + 1) % p < p := fun i => Nat.mod_lt _ (by omega)
  have inj : ∀ i j, i < p - 1 → j < p - 1 → i < j → x * (i + 1) % p ≠ x * (j + 1) % p := fun i j hi hj ij e => by
    have d : p ∣ x * (j + 1) - x * (i + 1) := by
      apply Nat.dvd_of_mod_eq_zero
      exact Nat.sub_mod_eq_zero_of_mod_eq e.symm
    rw [← Nat.mul_sub] at d
    rcases h.mul d with d | d
    · exact hx d
    · exact small (by omega) (by omega) d
  have nd : ((List.range (p - 1)).map f).Nodup := by
    rw [List.nodup_iff_pairwise_ne, List.pairwise_map]
    refine List.Pairwise.imp_of_mem ?_ (List.pairwise_lt_range (n := p - 1))
    intro a b ha hb ab e
    have ha := List.mem_range.mp ha
    have hb := List.mem_range.mp hb
    have e : x * (a + 1) % p - 1 = x * (b + 1) % p - 1 := e
    have := pos a ha
    have := pos b hb
    exact inj a b ha hb ab (by omega)
  have pm := perm (p - 1) ((List.range (p - 1)).map f) nd (fun a ha => by
    obtain ⟨i, hi, e⟩ := List.mem_map.mp ha
    have := pos i (List.mem_range.mp hi)
    have := lt i
    have e : x * (i + 1) % p - 1 = a := e
    omega) (by simp)
  have pm2 := pd_perm (pm.map (· + 1))
  have same : ((List.range (p - 1)).map f).map (· + 1) = ((List.range (p - 1)).map (· + 1)).map (fun i => x * i % p) := by
    rw [List.map_map, List.map_map]
    refine List.map_congr_left fun i hi => ?_
    have := pos i (List.mem_range.mp hi)
    show x * (i + 1) % p - 1 + 1 = x * (i + 1) % p
    omega
  rw [same] at pm2
  have q := pd_mod p x ((List.range (p - 1)).map (· + 1))
  rw [pm2, List.length_map, List.length_range] at q
  generalize hF : pd ((List.range (p - 1)).map (· + 1)) = F at q
  have cF : ¬ p ∣ F := by
    rw [← hF]
    refine pd_cop h _ fun a ha => ?_
    obtain ⟨i, hi, e⟩ := List.mem_map.mp ha
    have := List.mem_range.mp hi
    exact small (by omega) (by omega)
  -- q : F % p = x^(p-1) * F % p
  have d : p ∣ (x ^ (p - 1) - 1) * F := by
    apply Nat.dvd_of_mod_eq_zero
    rw [Nat.sub_mul, Nat.one_mul]
    exact Nat.sub_mod_eq_zero_of_mod_eq q.symm
  have xp : 0 < x ^ (p - 1) := Nat.pow_pos (by
    rcases Nat.eq_zero_or_pos x with e | e
    · exact absurd (e ▸ Nat.dvd_zero p) hx
    · exact e)
  rcases h.mul d with d | d
  · obtain ⟨k, hk⟩ := d
    have e : x ^ (p - 1) = 1 + p * k := by omega
    rw [e, Nat.add_mul_mod_self_left]
    exact Nat.mod_eq_of_lt (by omega)
  · exact absurd d cF
theorem fe {a p : Int} (hp : 0 < p) : a.fmod p = a % p := Int.fmod_eq_emod_of_nonneg a (Int.le_of_lt hp)
theorem em1 (a b p : Int) : (a % p * b) % p = (a * b) % p := by rw [Int.mul_emod, Int.emod_emod_of_dvd a (Int.dvd_refl p), ← Int.mul_emod]
theorem em2 (a b p : Int) : (a * (b % p)) % p = (a * b) % p := by rw [Int.mul_comm, em1, Int.mul_comm]
theorem r_in {a p : Int} (hp : 0 < p) : 0 ≤ a.fmod p ∧ a.fmod p < p := ⟨Int.fmod_nonneg_of_pos a hp, Int.fmod_lt_of_pos a hp⟩
theorem r_pa {x y z p : Int} (hp : 0 < p) : ((x + y).fmod p + z).fmod p = (x + (y + z).fmod p).fmod p := by
  simp only [fe hp, Int.emod_add_emod, Int.add_emod_emod, Int.add_assoc]
theorem r_ta {x y z p : Int} (hp : 0 < p) : ((x * y).fmod p * z).fmod p = (x * (y * z).fmod p).fmod p := by
  simp only [fe hp, em1, em2, Int.mul_assoc]
theorem r_d {x y z p : Int} (hp : 0 < p) : (x * (y + z).fmod p).fmod p = ((x * y).fmod p + (x * z).fmod p).fmod p := by
  simp only [fe hp, em2, Int.emod_add_emod, Int.add_emod_emod, Int.mul_add]
theorem r_self {x p : Int} (h0 : 0 ≤ x) (h1 : x < p) : x.fmod p = x := by
  rw [fe (by omega)]; exact Int.emod_eq_of_lt h0 h1
theorem r_pm {x p : Int} (hp : 0 < p) : (x + (-x).fmod p).fmod p = 0 := by
  simp only [fe hp, Int.add_emod_emod]; rw [Int.add_right_neg]; exact Int.zero_emod p
def ri (p x : Int) : Int := (x ^ (p.toNat - 2)) % p
theorem pw_nat (x : Int) (h : 0 ≤ x) (k : Nat) : x ^ k = ((x.toNat ^ k : Nat) : Int) := by
  have : (x.toNat : Int) = x := Int.toNat_of_nonneg h
  rw [Int.natCast_pow, this]
theorem ri_in {p x : Int} (hp : 0 < p) : 0 ≤ ri p x ∧ ri p x < p := ⟨Int.emod_nonneg _ (by omega), Int.emod_lt_of_pos _ hp⟩
theorem ri_one {p x : Int} (h : Pr p.toNat) (h0 : 0 < x) (h1 : x < p) : (x * ri p x).fmod p = 1 := by
  have p2 := h.1
  have hp : 0 < p := by omega
  rw [fe hp]
  unfold ri
  rw [em2]
  have e : x * x ^ (p.toNat - 2) = x ^ (p.toNat - 1) := by
    have : p.toNat - 1 = (p.toNat - 2) + 1 := by omega
    rw [this, Int.pow_succ, Int.mul_comm]
  rw [e, pw_nat x (by omega)]
  have f := fermat h (small (p := p.toNat) (a := x.toNat) (by omega) (by omega))
  have : ((x.toNat ^ (p.toNat - 1) % p.toNat : Nat) : Int) = ((1 : Nat) : Int) := by rw [f]
  rw [Int.natCast_emod, Int.toNat_of_nonneg (by omega)] at this
  exact this
def RInv (p x : Int) (left product square : Int) : Prop := (product * square ^ left.toNat) % p = (x ^ (p.toNat - 2)) % p ∧ (0 ≤ product ∧ product < p)
theorem ri_start {p x : Int} (h : 2 ≤ p) : RInv p x (p - 2) 1 x := by
  refine ⟨?_, by omega, by omega⟩
  have : (p - 2).toNat = p.toNat - 2 := by omega
  rw [this, Int.one_mul]
theorem pw_em (a p : Int) (k : Nat) : ((a % p) ^ k) % p = (a ^ k) % p := by
  induction k with
  | zero => rw [Int.pow_zero, Int.pow_zero]
  | succ k ih => rw [Int.pow_succ, Int.pow_succ, em2, Int.mul_comm, ← em2, ih, em2, Int.mul_comm]
theorem ri_odd {p x l a s : Int} (hp : 0 < p) (h : RInv p x l a s) (h0 : 0 < l) (o : l % 2 = 1) : RInv p x (l.fdiv 2) ((a * s).fmod p) ((s * s).fmod p) := by
  have hl : l.toNat = 2 * (l.fdiv 2).toNat + 1 := by
    rw [Int.fdiv_eq_ediv_of_nonneg l (by decide)]; omega
  refine ⟨?_, r_in hp⟩
  rw [← h.1, hl, fe hp, fe hp, em1]
  generalize (l.fdiv 2).toNat = k
  have e : (a * s) * ((s * s) % p) ^ k % p = (a * s) * (s * s) ^ k % p := by
    rw [← em2, pw_em, em2]
  rw [e, Int.pow_succ, Int.pow_mul]
  have : s ^ 2 = s * s := by rw [Int.pow_succ, Int.pow_succ, Int.pow_zero, Int.one_mul]
  rw [this]
  congr 1
  grind
theorem ri_even {p x l a s : Int} (hp : 0 < p) (h : RInv p x l a s) (h0 : 0 < l) (o : l % 2 ≠ 1) : RInv p x (l.fdiv 2) a ((s * s).fmod p) := by
  have hl : l.toNat = 2 * (l.fdiv 2).toNat := by
    rw [Int.fdiv_eq_ediv_of_nonneg l (by decide)]; omega
  refine ⟨?_, h.2⟩
  rw [← h.1, hl, fe hp]
  generalize (l.fdiv 2).toNat = k
  rw [← em2, pw_em, em2, Int.pow_mul]
  have : s ^ 2 = s * s := by rw [Int.pow_succ, Int.pow_succ, Int.pow_zero, Int.one_mul]
  rw [this]
theorem ri_out {p x l a s : Int} (h : RInv p x l a s) (h0 : ¬ 0 < l) : a = ri p x := by
  have : l.toNat = 0 := by omega
  have e := h.1
  rw [this, Int.pow_zero, Int.mul_one, Int.emod_eq_of_lt h.2.1 h.2.2] at e
  exact e
def PI (n : Int) : Prop := 2 ≤ n ∧ ∀ d : Int, 2 ≤ d → d * d ≤ n → ¬ n.fmod d = 0
theorem PI.nat {n : Int} (h : PI n) : Pr n.toNat := by
  refine ⟨by have := h.1; omega, fun d hd hdd e => ?_⟩
  have n2 := h.1
  have hn : (n.toNat : Int) = n := Int.toNat_of_nonneg (by omega)
  refine h.2 (d : Int) (by omega) ?_ ?_
  · have : ((d * d : Nat) : Int) ≤ (n.toNat : Int) := by omega
    rw [hn] at this
    rw [← Int.natCast_mul]; exact this
  · rw [fe (by omega), ← hn, ← Int.natCast_emod, e]; rfl
noncomputable def isP (n : Int) : Bool := @decide (PI n) (Classical.propDecidable _)
theorem isP_true {n : Int} (h : isP n = true) : PI n := @of_decide_eq_true _ (Classical.propDecidable _) h
theorem isP_of {n : Int} (h : PI n) : isP n = true := @decide_eq_true _ (Classical.propDecidable _) h
theorem sq_lt {d f n : Int} (hd : 2 ≤ d) (hf : 2 ≤ f) (h : d * d ≤ n) (g : ¬ f * f ≤ n) : d < f := by
  rcases Int.lt_or_le d f with e | e
  · exact e
  · have : f * f ≤ d * d := Int.mul_le_mul e e (by omega) (by omega)
    omega
theorem sq_le {f n : Int} (hf : 2 ≤ f) (h : f * f ≤ n) : f + 1 ≤ n := by
  have : 2 * f ≤ f * f := Int.mul_le_mul_of_nonneg_right hf (by omega)
  omega
theorem p_check (n k : Nat) (h2 : 2 ≤ n) (hk : n < k * k) (h : (List.range k).all (fun d => d < 2 || n % d != 0) = true) : isP (n : Int) = true := by
  refine isP_of ⟨by omega, fun d hd hdd e => ?_⟩
  have hk2 : ¬ (k : Int) * (k : Int) ≤ (n : Int) := by
    have : ((n : Nat) : Int) < ((k * k : Nat) : Int) := by omega
    rw [Int.natCast_mul] at this; omega
  have kk : 2 ≤ (k : Int) := by
    rcases (by omega : k = 0 ∨ k = 1 ∨ 2 ≤ k) with c | c | c
    · subst c; omega
    · subst c; omega
    · omega
  have lt := sq_lt hd kk hdd hk2
  have dn : (d.toNat : Int) = d := Int.toNat_of_nonneg (by omega)
  have := List.all_eq_true.mp h d.toNat (List.mem_range.mpr (by omega))
  rw [← dn, fe (by omega), ← Int.natCast_emod] at e
  have e' : n % d.toNat = 0 := by omega
  simp [e'] at this
  omega
theorem p999983 : isP 999983 = true := p_check 999983 1000 (by decide) (by decide) (by decide +kernel)
theorem p65537 : isP 65537 = true := p_check 65537 257 (by decide) (by decide) (by decide +kernel)
theorem p2 : isP 2 = true := p_check 2 2 (by decide) (by decide) (by decide +kernel)
theorem p3 : isP 3 = true := p_check 3 2 (by decide) (by decide) (by decide +kernel)
theorem p5 : isP 5 = true := p_check 5 3 (by decide) (by decide) (by decide +kernel)
theorem p7 : isP 7 = true := p_check 7 3 (by decide) (by decide) (by decide +kernel)
theorem p11 : isP 11 = true := p_check 11 4 (by decide) (by decide) (by decide +kernel)
theorem p101 : isP 101 = true := p_check 101 11 (by decide) (by decide) (by decide +kernel)
end Mine
namespace Mine
open PySem PySem.SeqAt
structure SR where
  W : Type
  add : W → W → W
  mul : W → W → W
  zero : W
  one : W
  add_comm : ∀ x y, add x y = add y x
  add_assoc : ∀ x y z, add (add x y) z = add x (add y z)
  mul_comm : ∀ x y, mul x y = mul y x
  mul_assoc : ∀ x y z, mul (mul x y) z = mul x (mul y z)
  distrib : ∀ x y z, mul x (add y z) = add (mul x y) (mul x z)
  add_zero : ∀ x, add x zero = x
  mul_one : ∀ x, mul x one = x
  mul_zero : ∀ x, mul x zero = zero
  zo : zero ≠ one
  sz : Nat → W → Prop
  sz_mono : ∀ m n x, m ≤ n → sz m x → sz n x
  sz_add : ∀ m n x y, sz m x → sz n y → sz (m + n + 1) (add x y)
  sz_mul : ∀ m n x y, sz m x → sz n y → sz (m + n) (mul x y)
  sz_zero : sz 0 zero
  sz_one : sz 0 one
  lv : Nat → Nat → W → Prop
  lv_mono : ∀ k c c' x, c ≤ c' → lv k c x → lv k c' x
  lv_add : ∀ k c c' x y, lv k c x → lv k c' y → lv k (c + c') (add x y)
  lv_mul : ∀ j k x y, lv j 32 x → lv k 32 y → lv (j + k) 1 (mul x y)
  lv_zero : ∀ k, lv k 0 zero
  lv_one : lv 1 1 one
  lv_up : ∀ k c x, lv k c x → lv (k + 1) c x
  lv_sz : ∀ k c x, c ≤ 1024 → lv k c x → sz (100 * k) x
  data : W → PyData
  sh : ∀ x, shaped (data x) = true
  nm : ∀ x y, noMix (data x) (data y) = true
  eq : ∀ x, PySem.Spec.same (data x) (data x) = true
  ne : ∀ x y, x ≠ y → PySem.Spec.same (data x) (data y) = false
structure Fr where
  t : Int
  b : Int
  p : 0 < b
  l : dv t b = 1
theorem Fr.eq_of {x y : Fr} (h1 : x.t = y.t) (h2 : x.b = y.b) : x = y := by
  cases x; cases y; cases h1; cases h2; rfl
theorem Fr.nb (x : Fr) : x.b ≠ 0 := by have := x.p; omega
def Fr.of (a b : Int) (h : 0 < b) : Fr := ⟨tp a b, bt a b, bt_pos (by omega), low (by omega)⟩
theorem Fr.of_cross (a b : Int) (h : 0 < b) : (Fr.of a b h).t * b = a * (Fr.of a b h).b := cross (by omega)
def Fr.add (x y : Fr) : Fr := Fr.of (x.t * y.b + y.t * x.b) (x.b * y.b) (Int.mul_pos x.p y.p)
def Fr.mul (x y : Fr) : Fr := Fr.of (x.t * y.t) (x.b * y.b) (Int.mul_pos x.p y.p)
def Fr.zero : Fr := ⟨0, 1, by decide, dv01⟩
def Fr.one : Fr := ⟨1, 1, by decide, dv11⟩
def Fr.sz (n : Nat) (x : Fr) : Prop := x.t.natAbs ≤ 2 ^ n ∧ x.b.natAbs ≤ 2 ^ n
theorem pw_add (m n : Nat) : (2 : Nat) ^ (m + n) = 2 ^ m * 2 ^ n := Nat.pow_add 2 m n
theorem mul_sz {a b : Int} {m n : Nat} (h1 : a.natAbs ≤ 2 ^ m) (h2 : b.natAbs ≤ 2 ^ n) : (a * b).natAbs ≤ 2 ^ (m + n) := by
  rw [Int.natAbs_mul, pw_add]; exact Nat.mul_le_mul h1 h2
theorem sum_sz {a b c d : Int} {m n : Nat} (h1 : a.natAbs ≤ 2 ^ m) (h2 : b.natAbs ≤ 2 ^ n) (h3 : c.natAbs ≤ 2 ^ n) (h4 : d.natAbs ≤ 2 ^ m) : (a * b + c * d).natAbs ≤ 2 ^ (m + n + 1) := by
  have k1 := mul_sz h1 h2
  have k2 := mul_sz h3 h4
  rw [Nat.add_comm n m] at k2
  have k3 : (a * b + c * d).natAbs ≤ (a * b).natAbs + (c * d).natAbs := Int.natAbs_add_le _ _
  have k4 : (2 : Nat) ^ (m + n + 1) = 2 ^ (m + n) * 2 := Nat.pow_succ ..
  omega
theorem of_sz {a b : Int} {h : 0 < b} {m : Nat} (h1 : a.natAbs ≤ 2 ^ m) (h2 : b.natAbs ≤ 2 ^ m) : (Fr.of a b h).sz m :=
  ⟨Nat.le_trans (tp_le (by omega)) h1, Nat.le_trans (bt_le (by omega)) h2⟩
theorem pw_le {m n : Nat} (h : m ≤ n) : (2 : Nat) ^ m ≤ 2 ^ n := Nat.pow_le_pow_right (by decide) h
def Fr.lv (k c : Nat) (x : Fr) : Prop := ∃ a : Int, x.t * 12 ^ k = a * x.b ∧ 1024 * a.natAbs ≤ c * 2 ^ (100 * k)
theorem Fr.lv_add {k c c' : Nat} {x y : Fr} (h : x.lv k c) (h' : y.lv k c') : (Fr.add x y).lv k (c + c') := by
  obtain ⟨a, e, b⟩ := h
  obtain ⟨a', e', b'⟩ := h'
  refine ⟨a + a', ?_, ?_⟩
  · have hc := Fr.of_cross (x.t * y.b + y.t * x.b) (x.b * y.b) (Int.mul_pos x.p y.p)
    have hn : x.b * y.b ≠ 0 := Int.mul_ne_zero x.nb y.nb
    refine Int.eq_of_mul_eq_mul_right hn ?_
    show (Fr.add x y).t * 12 ^ k * (x.b * y.b) = (a + a') * (Fr.add x y).b * (x.b * y.b)
    have hc : (Fr.add x y).t * (x.b * y.b) = (x.t * y.b + y.t * x.b) * (Fr.add x y).b := hc
    have e1 : (Fr.add x y).t * 12 ^ k * (x.b * y.b) = ((Fr.add x y).t * (x.b * y.b)) * 12 ^ k := by rw [Int.mul_right_comm]
    rw [e1, hc]
    have e2 : (x.t * y.b + y.t * x.b) * (Fr.add x y).b * 12 ^ k = ((x.t * 12 ^ k) * y.b + (y.t * 12 ^ k) * x.b) * (Fr.add x y).b := by
      rw [Int.mul_right_comm, Int.add_mul, Int.mul_right_comm x.t, Int.mul_right_comm y.t]
    rw [e2, e, e']
    have e3 : a * x.b * y.b + a' * y.b * x.b = (a + a') * (x.b * y.b) := by
      rw [Int.add_mul, Int.mul_assoc, Int.mul_assoc a', Int.mul_comm y.b x.b]
    rw [e3, Int.mul_right_comm]
  · have := Int.natAbs_add_le a a'
    rw [Nat.add_mul]
    omega
theorem Fr.lv_mul {j k : Nat} {x y : Fr} (h : x.lv j 32) (h' : y.lv k 32) : (Fr.mul x y).lv (j + k) 1 := by
  obtain ⟨a, e, b⟩ := h
  obtain ⟨a', e', b'⟩ := h'
  refine ⟨a * a', ?_, ?_⟩
  · have hc : (Fr.mul x y).t * (x.b * y.b) = (x.t * y.t) * (Fr.mul x y).b := Fr.of_cross (x.t * y.t) (x.b * y.b) (Int.mul_pos x.p y.p)
    have hn : x.b * y.b ≠ 0 := Int.mul_ne_zero x.nb y.nb
    refine Int.eq_of_mul_eq_mul_right hn ?_
    rw [Int.mul_right_comm, hc, Int.pow_add]
    have e2 : x.t * y.t * (Fr.mul x y).b * (12 ^ j * 12 ^ k) = (x.t * 12 ^ j) * (y.t * 12 ^ k) * (Fr.mul x y).b := by
      rw [Int.mul_right_comm]
      congr 1
      rw [Int.mul_assoc, Int.mul_assoc, Int.mul_left_comm y.t]
    rw [e2, e, e']
    have e3 : a * x.b * (a' * y.b) = a * a' * (x.b * y.b) := by
      rw [Int.mul_assoc, Int.mul_assoc, Int.mul_left_comm x.b]
    rw [e3, Int.mul_right_comm]
  · rw [Int.natAbs_mul, Nat.mul_add, Nat.pow_add]
    have h1 := Nat.mul_le_mul b b'
    have e1 : 1024 * a.natAbs * (1024 * a'.natAbs) = 1024 * (1024 * (a.natAbs * a'.natAbs)) := by
      rw [Nat.mul_assoc, Nat.mul_left_comm a.natAbs]
    have e2 : 32 * 2 ^ (100 * j) * (32 * 2 ^ (100 * k)) = 1024 * (2 ^ (100 * j) * 2 ^ (100 * k)) := by
      rw [Nat.mul_assoc, Nat.mul_left_comm (2 ^ (100 * j)), ← Nat.mul_assoc]
    rw [e1, e2] at h1
    have := Nat.le_of_mul_le_mul_left h1 (by decide)
    omega
theorem Fr.lv_up {k c : Nat} {x : Fr} (h : x.lv k c) : x.lv (k + 1) c := by
  obtain ⟨a, e, b⟩ := h
  refine ⟨a * 12, ?_, ?_⟩
  · rw [Int.pow_succ, ← Int.mul_assoc, e, Int.mul_right_comm]
  · rw [Int.natAbs_mul, show 100 * (k + 1) = 100 * k + 100 from by omega, Nat.pow_add]
    have h1 : (1024 * a.natAbs) * 12 ≤ (c * 2 ^ (100 * k)) * 2 ^ 100 := Nat.mul_le_mul b (by decide)
    have e1 : 1024 * (a.natAbs * (12 : Int).natAbs) = (1024 * a.natAbs) * 12 := by rw [Nat.mul_assoc]; rfl
    rw [e1, ← Nat.mul_assoc]
    exact h1
theorem Fr.lv_sz {k c : Nat} {x : Fr} (hc : c ≤ 1024) (h : x.lv k c) : x.sz (100 * k) := by
  obtain ⟨a, e, b⟩ := h
  have cop : Nat.Coprime x.t.natAbs x.b.natAbs := by
    have l := x.l
    unfold dv at l
    have : Int.gcd x.t x.b = 1 := by omega
    exact this
  have e' : x.t.natAbs * 12 ^ k = a.natAbs * x.b.natAbs := by
    have := congrArg Int.natAbs e
    rw [Int.natAbs_mul, Int.natAbs_mul, Int.natAbs_pow] at this
    exact this
  have hb : a.natAbs ≤ 2 ^ (100 * k) := by
    have h1 : 1024 * a.natAbs ≤ 1024 * 2 ^ (100 * k) := Nat.le_trans b (Nat.mul_le_mul_right _ hc)
    exact Nat.le_of_mul_le_mul_left h1 (by decide)
  have p12 : (12 : Nat) ^ k ≤ 2 ^ (100 * k) := by
    rw [Nat.pow_mul]
    exact Nat.pow_le_pow_left (by decide) k
  constructor
  · have d : x.t.natAbs ∣ a.natAbs := cop.dvd_of_dvd_mul_right ⟨12 ^ k, e'.symm⟩
    by_cases z : a.natAbs = 0
    · have : x.t.natAbs * 12 ^ k = 0 := by rw [e', z, Nat.zero_mul]
      have : x.t.natAbs = 0 := by
        rcases Nat.mul_eq_zero.mp this with h | h
        · exact h
        · exact absurd h (Nat.ne_of_gt (Nat.pow_pos (by decide)))
      omega
    · exact Nat.le_trans (Nat.le_of_dvd (by omega) d) hb
  · have d : x.b.natAbs ∣ 12 ^ k := cop.symm.dvd_of_dvd_mul_left ⟨a.natAbs, by rw [e', Nat.mul_comm]⟩
    exact Nat.le_trans (Nat.le_of_dvd (Nat.pow_pos (by decide)) d) p12
def frSR : SR where
  W := Fr
  add := Fr.add
  mul := Fr.mul
  zero := Fr.zero
  one := Fr.one
  add_comm x y := Fr.eq_of plus_comm.1 plus_comm.2
  add_assoc x y z :=
    have h := plus_assoc (f := z.b) (e := z.t) x.nb y.nb z.nb (Fr.add x y).nb (Fr.add y z).nb (Fr.of_cross _ _ (Int.mul_pos x.p y.p)) (Fr.of_cross _ _ (Int.mul_pos y.p z.p))
    Fr.eq_of h.1 h.2
  mul_comm x y := Fr.eq_of times_comm.1 times_comm.2
  mul_assoc x y z :=
    have h := times_assoc (f := z.b) (e := z.t) x.nb y.nb z.nb (Fr.mul x y).nb (Fr.mul y z).nb (Fr.of_cross _ _ (Int.mul_pos x.p y.p)) (Fr.of_cross _ _ (Int.mul_pos y.p z.p))
    Fr.eq_of h.1 h.2
  distrib x y z :=
    have h := distrib (a := x.t) (f := z.b) (e := z.t) x.nb y.nb z.nb (Fr.add y z).nb (Fr.mul x y).nb (Fr.mul x z).nb (Fr.of_cross _ _ (Int.mul_pos y.p z.p)) (Fr.of_cross _ _ (Int.mul_pos x.p y.p)) (Fr.of_cross _ _ (Int.mul_pos x.p z.p))
    Fr.eq_of h.1 h.2
  add_zero x := Fr.eq_of (plus_zero x.p x.l).1 (plus_zero x.p x.l).2
  mul_one x := Fr.eq_of (times_one x.p x.l).1 (times_one x.p x.l).2
  mul_zero x := Fr.eq_of (times_zero x.p).1 (times_zero x.p).2
  zo h := by have : (0 : Int) = 1 := congrArg Fr.t h; omega
  sz := Fr.sz
  sz_mono m n x h s := ⟨Nat.le_trans s.1 (pw_le h), Nat.le_trans s.2 (pw_le h)⟩
  sz_add m n x y h1 h2 := of_sz (sum_sz h1.1 h2.2 h2.1 h1.2) (Nat.le_trans (mul_sz h1.2 h2.2) (pw_le (Nat.le_succ _)))
  sz_mul m n x y h1 h2 := of_sz (mul_sz h1.1 h2.1) (mul_sz h1.2 h2.2)
  sz_zero := ⟨by decide, by decide⟩
  sz_one := ⟨by decide, by decide⟩
  lv := Fr.lv
  lv_mono k c c' x h := fun ⟨a, e, b⟩ => ⟨a, e, Nat.le_trans b (Nat.mul_le_mul_right _ h)⟩
  lv_add _ _ _ _ _ h h' := Fr.lv_add h h'
  lv_mul _ _ _ _ h h' := Fr.lv_mul h h'
  lv_zero k := ⟨0, by show (0 : Int) * 12 ^ k = 0 * 1; rw [Int.zero_mul, Int.zero_mul], by show 1024 * 0 ≤ _; omega⟩
  lv_one := ⟨12, by decide, by decide⟩
  lv_up _ _ _ h := Fr.lv_up h
  lv_sz _ _ _ hc h := Fr.lv_sz hc h
  data x := .tuple [.int x.t, .int x.b]
  sh x := rfl
  nm x y := by simp [noMix, noMixAll]
  eq x := by simp [PySem.Spec.same, PySem.Spec.sameAll]
  ne x y h := by
    simp [PySem.Spec.same, PySem.Spec.sameAll]
    intro h1 h2
    exact h (Fr.eq_of h1 h2)
structure Re (p : Int) where
  x : Int
  h0 : 0 ≤ x
  h1 : x < p
theorem Re.eq_of {p : Int} {a b : Re p} (h : a.x = b.x) : a = b := by cases a; cases b; cases h; rfl
def Re.of (p : Int) (hp : 0 < p) (x : Int) : Re p := ⟨x.fmod p, (r_in hp).1, (r_in hp).2⟩
def resSR (p : Int) (hp : 2 ≤ p) : SR where
  W := Re p
  add a b := Re.of p (by omega) (a.x + b.x)
  mul a b := Re.of p (by omega) (a.x * b.x)
  zero := ⟨0, by omega, by omega⟩
  one := ⟨1, by omega, by omega⟩
  add_comm a b := Re.eq_of (by show (a.x + b.x).fmod p = (b.x + a.x).fmod p; rw [Int.add_comm])
  add_assoc a b c := Re.eq_of (r_pa (by omega))
  mul_comm a b := Re.eq_of (by show (a.x * b.x).fmod p = (b.x * a.x).fmod p; rw [Int.mul_comm])
  mul_assoc a b c := Re.eq_of (r_ta (by omega))
  distrib a b c := Re.eq_of (r_d (by omega))
  add_zero a := Re.eq_of (by show (a.x + 0).fmod p = a.x; rw [Int.add_zero]; exact r_self a.h0 a.h1)
  mul_one a := Re.eq_of (by show (a.x * 1).fmod p = a.x; rw [Int.mul_one]; exact r_self a.h0 a.h1)
  mul_zero a := Re.eq_of (by show (a.x * 0).fmod p = 0; rw [Int.mul_zero]; exact r_self (by omega) (by omega))
  zo h := by have : (0 : Int) = 1 := congrArg Re.x h; omega
  sz _ _ := True
  sz_mono _ _ _ _ _ := trivial
  sz_add _ _ _ _ _ _ := trivial
  sz_mul _ _ _ _ _ _ := trivial
  sz_zero := trivial
  sz_one := trivial
  lv _ _ _ := True
  lv_mono _ _ _ _ _ _ := trivial
  lv_add _ _ _ _ _ _ _ := trivial
  lv_mul _ _ _ _ _ _ := trivial
  lv_zero _ := trivial
  lv_one := trivial
  lv_up _ _ _ _ := trivial
  lv_sz _ _ _ _ _ := trivial
  data a := .int a.x
  sh _ := rfl
  nm _ _ := by simp [noMix]
  eq _ := by simp [PySem.Spec.same]
  ne a b h := by
    simp [PySem.Spec.same]
    intro e
    exact h (Re.eq_of e)
end Mine
namespace L2
open PySem PySem.Spec PyProof.Rows
/-- no files beside the program -/
class Plain (P : Program) : Prop where
  tree : P.given.tree = none
section
variable {X : Cx}
theorem Inv.seer {pins : List (Addr × Obj)} {σ : St} {H : Hp} {s : Shared} (I : Inv X pins σ H s) : s.heap.NoSeer := I.ok.mod.seer.keeps I.bk
theorem op_fdivP {k : Nat} (hr : Room k X.A) (hk : 34 ≤ k) (hP : X.prog.given.tree = none) (hst : X.stack = X.env :: X.outer := by rfl) (hgen : X.env.scope.isGenerator = false := by rfl) (hco : X.env.scope.isCoroutine = false := by rfl) :
    OpR X (binaryOp .FloorDiv) (rI (fun _ j => j ≠ 0) fun i j => .int (i.fdiv j)) := by
  intro pins s σ H x y v u Q I rx ry h
  obtain ⟨i, j, rfl, rfl, hc, q⟩ := h
  obtain ⟨t, rfl⟩ := rx
  obtain ⟨t', rfl⟩ := ry
  refine floordiv_int hc ⟨.int _, H, I.tok _, ⟨_, rfl⟩, q⟩ (Or.inr (PylongRoom.of I.nolimit ?_ (SeerAt.of I.seer hP (by rw [I.ok.frames, hst]) hgen hco I.ok.blt I.ok.glob)))
  have := hr.dp
  show X.A.depth + 100 < recursionLimit
  omega
def CMulG (i j : Int) : Prop := Builtin.Int.intBits i + Builtin.Int.intBits j ≤ 2 ^ 27
theorem mulOkG {a b : Int} (hc : CMulG a b) : IntMulOk a b := by
  have hc : Builtin.Int.intBits a + Builtin.Int.intBits b ≤ 2 ^ 27 := hc
  have e : Builtin.Int.intTooBig (Builtin.Int.intBits a + Builtin.Int.intBits b) = false := by
    unfold Builtin.Int.intTooBig bitsLine
    exact decide_eq_false (by omega)
  unfold IntMulOk
  rw [e]
  simp
theorem op_mulG : OpR X (binaryOp .Mult) (rI CMulG fun i j => .int (i * j)) := opI fun _ _ _ _ _ _ _ hc q => mul_int q (mulOkG hc)
end
end L2
namespace L2
open PySem PySem.Spec PyProof.Rows
def cloOf (cells : List (Str × Addr)) : List (Str × NameKind) → List (Str × Addr) → List (Str × Addr)
  | [], cs => cs
  | (n, k) :: r, cs => cloOf cells r (if (k == .free) = true then (n, (cells.lookup n).getD 0) :: cs else cs)
theorem clo_for {env : Env} : ∀ (names : List (Str × NameKind)) (cs : List (Str × Addr)), (∀ n, (n, NameKind.free) ∈ names → ∃ c, env.cells.lookup n = some c) →
    (forIn names cs fun (x : Str × NameKind) (r : List (Str × Addr)) => (match x with | (name, kind) => if (kind == NameKind.free) = true then (do let c ← cellOf env name; pure (ForInStep.yield ((name, c) :: r))) else pure (ForInStep.yield r) : Sem (ForInStep (List (Str × Addr))))) = pure (cloOf env.cells names cs)
  | [], cs, _ => rfl
  | (n, k) :: r, cs, h => by
    rw [List.forIn_cons]
    by_cases hk : k = .free
    · subst hk
      obtain ⟨c, hc⟩ := h n List.mem_cons_self
      have ih := clo_for (env := env) r ((n, c) :: cs) fun m hm => h m (List.mem_cons_of_mem _ hm)
      have e1 : cellOf env n = pure c := by unfold cellOf; rw [hc]
      simp only [beq_self_eq_true, if_true, e1, pure_bind]
      rw [ih]
      conv => rhs; unfold cloOf
      simp only [beq_self_eq_true, if_true, hc, Option.getD_some]
    · have hb : (k == NameKind.free) = false := by simpa using hk
      have ih := clo_for (env := env) r cs fun m hm => h m (List.mem_cons_of_mem _ hm)
      simp only [hb, Bool.false_eq_true, if_false, pure_bind]
      rw [ih]
      conv => rhs; unfold cloOf
      simp only [hb, Bool.false_eq_true, if_false]
theorem clo_closure {env : Env} {scope : Scope} (h : ∀ n, (n, NameKind.free) ∈ scope.names → ∃ c, env.cells.lookup n = some c) : closureFor scope env = pure (cloOf env.cells scope.names []) := by
  have e := clo_for (env := env) scope.names [] h
  unfold closureFor
  simp only [bind_pure]
  exact e
theorem clo_in {cells : List (Str × Addr)} : ∀ {names : List (Str × NameKind)} {cs : List (Str × Addr)}, (∀ n, (n, NameKind.free) ∈ names → ∃ c, cells.lookup n = some c) → ∀ {y c}, (cloOf cells names cs).lookup y = some c → cs.lookup y = some c ∨ cells.lookup y = some c
  | [], cs, _, y, c, e => .inl e
  | (n, k) :: r, cs, h, y, c, e => by
    unfold cloOf at e
    have h' : ∀ m, (m, NameKind.free) ∈ r → ∃ c, cells.lookup m = some c := fun m hm => h m (List.mem_cons_of_mem _ hm)
    rcases clo_in h' e with z | z
    · by_cases hk : k = .free
      · subst hk
        obtain ⟨d, hd⟩ := h n List.mem_cons_self
        simp only [beq_self_eq_true, if_true, hd, Option.getD_some] at z
        rw [List.lookup_cons] at z
        cases hy : (y == n) with
        | true =>
          rw [hy] at z
          have : y = n := beq_iff_eq.mp hy
          subst this
          exact .inr (hd.trans z)
        | false => rw [hy] at z; exact .inl z
      · have hb : (k == NameKind.free) = false := by simpa using hk
        simp only [hb, Bool.false_eq_true, if_false] at z
        exact .inl z
    · exact .inr z
theorem clo_has {cells : List (Str × Addr)} : ∀ {names : List (Str × NameKind)} {cs : List (Str × Addr)} {y : Str}, ((∃ c, cs.lookup y = some c) ∨ (y, NameKind.free) ∈ names) → ∃ c, (cloOf cells names cs).lookup y = some c
  | [], cs, y, h => by
    rcases h with h | h
    · exact h
    · cases h
  | (n, k) :: r, cs, y, h => by
    unfold cloOf
    refine clo_has ?_
    rcases h with ⟨c, h⟩ | h
    · left
      split
      · rw [List.lookup_cons]
        cases hy : (y == n) with
        | true => exact ⟨_, rfl⟩
        | false => exact ⟨c, h⟩
      · exact ⟨c, h⟩
    · rcases List.mem_cons.mp h with e | h
      · cases e
        left
        simp only [beq_self_eq_true, if_true]
        rw [List.lookup_cons, beq_self_eq_true]
        exact ⟨_, rfl⟩
      · exact .inr h
theorem compLoop_any {prog : Program} {w : World} {A : Around} {R : Result → Shared → Prop} {s : Shared} {elt target iter : Expr} {scope : Scope} {pos : Pos} {it acc : Value} {env : Env} (I : Nat → Shared → Prop)
    (turn : ∀ n s, I n s → wpAny (model prog w) A (pyNext it) (fun r s₁ => match r with
      | none => R (.ok .next) s₁
      | some v => wpAny (model prog w) A (letOwnedTupleGo target it v) (fun _ s₁' => wpAny (model prog w) A (assign target env v) (fun _ s₂ => wpAny (model prog w) A (eval elt env) (fun x s₃ =>
          wpAny (model prog w) A (call (.builtin "list.append") [acc, x]) (fun _ s₄ => ∃ m, m < n ∧ I m s₄) (fun _ _ => False) s₃) (fun _ _ => False) s₂) (fun _ _ => False) s₁') (fun _ _ => False) s₁) (fun _ _ => False) s)
    (n : Nat) (h : I n s) :
    codeAny (model prog w) A (.compLoop (.ListComp elt [⟨target, iter, [], 0⟩] scope pos) 0 it acc env) R s := by
  refine codeAny_loop rfl I (fun n s hI => ?_) n h
  show wpAny _ _ ((compTurn (.ListComp elt [⟨target, iter, [], 0⟩] scope pos) 0 it acc env).onRaise (fun x => do noteFrame x env; theTreesLotGoes x)) _ _ s
  refine wpAny_noted ?_
  rw [compTurn_list1]
  refine wpAny_bind (wpAny_standAt (wpAny_bind (wpAny_mono (turn n s hI) (fun r s₁ h₁ => ?_) fun _ _ h' => h'.elim)))
  cases r with
  | none => exact wpAny_pure h₁
  | some v =>
    exact wpAny_bind (wpAny_mono h₁ (fun _ s1' h1' => wpAny_bind (wpAny_mono h1' (fun _ s₂ h₂ => wpAny_bind (wpAny_bind (wpAny_mono h₂ (fun x s₃ h₃ => wpAny_bind (wpAny_mono h₃
      (fun _ s₄ h₄ => wpAny_pure (wpAny_pure ⟨rfl, h₄⟩)) fun _ _ h' => h'.elim)) fun _ _ h' => h'.elim))) fun _ _ h' => h'.elim)) fun _ _ h' => h'.elim)
theorem HOk.track {P : Program} {w : World} {H : Hp} {h : Heap} {a : Addr} {o : HO} (x : HOk P w H h) (n : H a = none) (new : ObjOk P w (upd H a o) h a o) : HOk P w (upd H a o) h := fun b u e => by
  by_cases hb : b = a
  · subst hb; rw [upd_same] at e; cases e; exact new
  · rw [upd_ne hb] at e
    exact (x b u e).stay (fun _ _ _ q => q) (fun c q => by rw [upd_ne (ne_of_none q n)]; exact q) fun c xs q => by rw [upd_ne (ne_of_none q n)]; exact q
theorem Un.track {fs ex : List Addr} {H H' : Hp} {h h' : Heap} {a : Addr} {o : HO} (u : Un fs ex H H' h h') (hp : h.objs.size ≤ a) (n : H' a = none) : Un fs ex H (upd H' a o) h h' where
  keep := u.keep
  slot := u.slot
  free := fun b ob q m hx => by rw [upd_ne (Nat.ne_of_lt (Nat.lt_of_lt_of_le (Heap.lt_size q) hp))]; exact u.free b ob q m hx
  there := u.there
  tups := fun b xs q => by have z := u.tups b xs q; rw [upd_ne (ne_of_none z n)]; exact z
  frzs := fun b ob xs q => by have z := u.frzs b ob xs q; rw [upd_ne (ne_of_none z n)]; exact z
  tbls := fun b ps q => by obtain ⟨m, z⟩ := u.tbls b ps q; exact ⟨m, by rw [upd_ne (ne_of_none z n)]; exact z⟩
theorem cells_app : ∀ (names : List (Str × NameKind)) (n : Nat) (acc : List (Str × Addr)), cellsFrom n names acc = cellsFrom n names [] ++ acc
  | [], _, _ => rfl
  | (x, k) :: r, n, acc => by
    unfold cellsFrom
    split
    · rw [cells_app r (n + 1) ((x, n) :: acc), cells_app r (n + 1) [(x, n)], List.append_assoc]; rfl
    · exact cells_app r n acc
theorem cells_in : ∀ (names : List (Str × NameKind)) (n : Nat) (y : Str) (c : Addr), (y, c) ∈ cellsFrom n names [] → (y, NameKind.cell) ∈ names
  | [], _, _, _, h => by cases h
  | (x, k) :: r, n, y, c, h => by
    unfold cellsFrom at h
    split at h
    · rename_i hk
      rw [cells_app] at h
      rcases List.mem_append.mp h with h | h
      · exact List.mem_cons_of_mem _ (cells_in r (n + 1) y c h)
      · have e := List.mem_singleton.mp h
        cases e
        rw [show k = NameKind.cell by simpa using hk]
        exact List.mem_cons_self
    · exact List.mem_cons_of_mem _ (cells_in r n y c h)
theorem cells_has : ∀ (names : List (Str × NameKind)) (n : Nat) (y : Str), (y, NameKind.cell) ∈ names → ∃ c, (y, c) ∈ cellsFrom n names []
  | [], _, _, h => by cases h
  | (x, k) :: r, n, y, h => by
    unfold cellsFrom
    rcases List.mem_cons.mp h with e | h
    · cases e
      rw [if_pos (show (NameKind.cell == NameKind.cell) = true by decide), cells_app]
      exact ⟨n, List.mem_append_right _ List.mem_cons_self⟩
    · split
      · rw [cells_app]
        obtain ⟨c, hc⟩ := cells_has r (n + 1) y h
        exact ⟨c, List.mem_append_left _ hc⟩
      · exact cells_has r n y h
theorem lookup_app {α : Type} : ∀ (l r : List (Str × α)) (y : Str), (l ++ r).lookup y = match l.lookup y with | some c => some c | none => r.lookup y
  | [], _, _ => rfl
  | (x, c) :: l, r, y => by
    rw [List.cons_append, List.lookup_cons, List.lookup_cons]
    cases (y == x) with
    | true => rfl
    | false => exact lookup_app l r y
theorem lookup_mem {α : Type} : ∀ {l : List (Str × α)} {y : Str} {c : α}, (y, c) ∈ l → ∃ c', l.lookup y = some c'
  | (x, d) :: l, y, c, h => by
    rw [List.lookup_cons]
    cases hb : (y == x) with
    | true => exact ⟨d, rfl⟩
    | false =>
      rcases List.mem_cons.mp h with e | h
      · cases e; rw [beq_self_eq_true] at hb; cases hb
      · exact lookup_mem h
abbrev cbOf (env : Env) (scope : Scope) (C : Addr) : List (Str × Addr) := cellsFrom (C + 1) scope.names (cloOf env.cells scope.names [])
theorem cb_lookup {env : Env} {scope : Scope} {C : Addr} {y : Str} {c : Addr} (h : (cbOf env scope C).lookup y = some c) : (y, c) ∈ cellsFrom (C + 1) scope.names [] ∨ (cloOf env.cells scope.names []).lookup y = some c := by
  rw [show cbOf env scope C = _ from cells_app _ _ _, lookup_app] at h
  split at h
  · rename_i e; cases h; exact .inl (PySem.mem_of_lookup e)
  · exact .inr h
theorem cb_own {env : Env} {scope : Scope} {C : Addr} {y : Str} {c : Addr} (k : scope.names.lookup y = some .cell) (h : (cbOf env scope C).lookup y = some c) : (y, c) ∈ cellsFrom (C + 1) scope.names [] := by
  rw [show cbOf env scope C = _ from cells_app _ _ _, lookup_app] at h
  obtain ⟨d, hd⟩ := cells_has scope.names (C + 1) y (PySem.mem_of_lookup k)
  obtain ⟨d', hd'⟩ := lookup_mem hd
  rw [hd'] at h
  cases h
  exact PySem.mem_of_lookup hd'
theorem cells_above : ∀ (names : List (Str × NameKind)) (n : Nat) (y : Str) (c : Addr), (y, c) ∈ cellsFrom n names [] → n ≤ c
  | [], _, _, _, h => by cases h
  | (x, k) :: r, n, y, c, h => by
    unfold cellsFrom at h
    split at h
    · rw [cells_app] at h
      rcases List.mem_append.mp h with h | h
      · have := cells_above r (n + 1) y c h; omega
      · cases List.mem_singleton.mp h; exact Nat.le_refl _
    · exact cells_above r n y c h
theorem cells_inj : ∀ (names : List (Str × NameKind)) (n : Nat) (x y : Str) (c : Addr), (x, c) ∈ cellsFrom n names [] → (y, c) ∈ cellsFrom n names [] → x = y
  | [], _, _, _, _, h, _ => by cases h
  | (z, k) :: r, n, x, y, c, h, g => by
    unfold cellsFrom at h g
    split at h
    · rename_i hk
      rw [if_pos hk] at g
      rw [cells_app] at h g
      rcases List.mem_append.mp h with h | h <;> rcases List.mem_append.mp g with g | g
      · exact cells_inj r (n + 1) x y c h g
      · cases List.mem_singleton.mp g
        have := cells_above r (n + 1) x _ h; omega
      · cases List.mem_singleton.mp h
        have := cells_above r (n + 1) y _ g; omega
      · cases List.mem_singleton.mp h; cases List.mem_singleton.mp g; rfl
    · rename_i hk
      rw [if_neg hk] at g
      exact cells_inj r n x y c h g
theorem newEnv_comp {M : Model} {A : Around} {E : Value → Shared → Prop} {s : Shared} {scope : Scope} {globals : Addr} {closure : List (Str × Addr)} {qual : Str} {env : Env} {Q : Env → Shared → Prop}
    (hQ : ∀ h' : Heap, h'.Ns s.heap.objs.size (fun _ => none) → (∀ b o, s.heap.get? b = some o → h'.get? b = some o) → CellsOk h' (s.heap.objs.size + 1) (cellsFrom (s.heap.objs.size + 1) scope.names []) →
      Q (newEnv scope s.heap.objs.size globals (cellsFrom (s.heap.objs.size + 1) scope.names closure) qual none .none (some env) builtinsNs) { s with heap := h', toks := s.toks + ([] : List (Str × Value)).length }) :
    wpAny M A (newFunctionEnv scope globals closure [] qual none .none (some env)) Q E s := by
  simp only [newFunctionEnv, Option.isSome_some, if_true]
  refine wpAny_bind (wpAny_alloc ?_)
  refine wpAny_bind (wpAny_layCells _ (fun name kind cells => by cases hkc : kind == NameKind.cell <;> simp [hkc]) _ _ _ _ ?_)
  have ok := cellsFrom_ok scope.names (s.heap.push { cls := .type "dict", data := .dict #[] }) (s.heap.objs.size + 1) [] ⟨fun _ _ hm => (nomatch hm), List.Pairwise.nil⟩ (by rw [Heap.size_push]; exact Nat.le_refl _)
  rw [Heap.size_push] at ok
  rw [show ({ s with heap := s.heap.push { cls := .type "dict", data := .dict #[] } } : Shared).heap.objs.size = s.heap.objs.size + 1 from Heap.size_push ..]
  rw [List.forIn_nil]
  refine wpAny_bind (wpAny_pure (wpAny_pure ?_))
  exact hQ _ ((Heap.Ns.new s.heap (.type "dict")).keeps (pushCells_keeps _ _)) (fun b o e => pushCells_keeps _ _ b o (Heap.get?_push_of_some _ e)) ok
def compCx (X : Cx) (scope : Scope) (xs : List Str) (C : Addr) (s : Shared) (H : Hp) (fp : List Addr) (pn : List (Addr × Obj)) : Cx :=
  { X with env := compEnvC scope (cbOf X.env scope C) C X.env, N := X.N ++ xs, s₀ := s, H₀ := H, outer := X.stack, ex := fp, fn := fun y => scope.names.lookup y == some .cell, pn := pn, xe := fun _ _ => False }
structure CompOk (N : List Str) (S T : Scope) : Prop where
  kind : T.kind = .function
  cell : ∀ y ∈ N, T.names.lookup y ≠ some .cell
  names : ∀ y ∈ T.names, y.2 = .local → T.names.lookup y.1 = some .local
  uniq : ∀ y ∈ T.names, T.names.lookup y.1 = some y.2
  free : ∀ y ∈ T.names, y.2 = .free → S.names.lookup y.1 = some .cell ∨ S.names.lookup y.1 = some .free
  vis : ∀ y ∈ N, T.names.lookup y ≠ some .local
def rlS (S T : Scope) : Scope := { T with names := T.names.map fun (n, k) => if (k == .free && S.kind == .function && S.names.lookup n == some .cell) then (n, .cell) else (n, k) }
def rl (env : Env) (z : Str × NameKind) : Str × NameKind := match z with | (n, k) => if (k == NameKind.free && env.scope.kind == .function && env.kindOf n == some .cell) then (n, NameKind.cell) else (n, k)
theorem rl_fst (env : Env) (n : Str) (k : NameKind) : (rl env (n, k)).1 = n := by unfold rl; dsimp only; split <;> rfl
theorem rl_snd (env : Env) (n : Str) (k : NameKind) : (rl env (n, k)).2 = k ∨ (k = .free ∧ (rl env (n, k)).2 = .cell) := by
  unfold rl
  dsimp only
  split
  · rename_i h
    simp only [Bool.and_eq_true] at h
    exact .inr ⟨by simpa using h.1.1, rfl⟩
  · exact .inl rfl
theorem rl_lookup {env : Env} : ∀ {names : List (Str × NameKind)} {y : Str} {k : NameKind}, (names.map (rl env)).lookup y = some k → names.lookup y = some k ∨ (names.lookup y = some .free ∧ k = .cell)
  | [], _, _, h => by cases h
  | (n, j) :: r, y, k, h => by
    have ih := @rl_lookup env r y k
    rw [List.map_cons, show rl env (n, j) = ((rl env (n, j)).1, (rl env (n, j)).2) from rfl, rl_fst, List.lookup_cons] at h
    rw [List.lookup_cons]
    cases hy : (y == n) with
    | true =>
      rw [hy] at h
      have h : (rl env (n, j)).2 = k := Option.some.inj h
      rcases rl_snd env n j with z | ⟨z1, z2⟩
      · exact .inl (by rw [← h, z])
      · exact .inr ⟨by rw [z1], by rw [← h, z2]⟩
    | false =>
      rw [hy] at h
      exact ih h
theorem relabel_free {env : Env} {scope : Scope} {y : Str} (h : (relabel scope env).names.lookup y = some .cell ∨ (relabel scope env).names.lookup y = some .free) : scope.names.lookup y = some .free ∨ scope.names.lookup y = some .cell := by
  have e : (relabel scope env).names = scope.names.map (rl env) := rfl
  rw [e] at h
  rcases h with h | h
  · rcases rl_lookup h with z | ⟨z, _⟩
    · exact .inr z
    · exact .inl z
  · rcases rl_lookup h with z | ⟨z, _⟩
    · exact .inl z
    · exact .inl z
theorem relabel_local {env : Env} {scope : Scope} {y : Str} (h : (relabel scope env).names.lookup y = some .local) : scope.names.lookup y = some .local := by
  have e : (relabel scope env).names = scope.names.map (rl env) := rfl
  rw [e] at h
  rcases rl_lookup h with z | ⟨_, z⟩
  · exact z
  · cases z
theorem Un.but {fs ex : List Addr} {H H' : Hp} {h h1 h2 : Heap} {C : Addr} (u : Un fs ex H H' h h1) (hb : ∀ b o, b ≠ C → h1.get? b = some o → h2.get? b = some o) (hC : h.objs.size ≤ C) : Un fs ex H H' h h2 := by
  have ne : ∀ b o, h.get? b = some o → b ≠ C := fun b o e => Nat.ne_of_lt (Nat.lt_of_lt_of_le (Heap.lt_size e) hC)
  refine ⟨fun b o e n hf hx => hb b o (ne b o e) (u.keep b o e n hf hx), fun b o e n hf hx => ?_, u.free, fun b o e hx => ?_, u.tups, u.frzs, u.tbls⟩
  · obtain ⟨sl, q⟩ := u.slot b o e n hf hx
    exact ⟨sl, hb b _ (ne b o e) q⟩
  · obtain ⟨o', q⟩ := u.there b o e hx
    exact ⟨o', hb b _ (ne b o e) q⟩
theorem HOk.but {P : Program} {w : World} {H : Hp} {h1 h2 : Heap} {C : Addr} (x : HOk P w H h1) (hb : ∀ b o, b ≠ C → h1.get? b = some o → h2.get? b = some o) (n : H C = none) : HOk P w H h2 := fun b u e =>
  (x b u e).stay (fun c v hc q => hb c v (by
    rcases hc with rfl | hc
    · exact ne_of_none e n
    · exact ne_of_none hc n) q) (fun _ q => q) fun _ _ q => q
section
variable {X : Cx} {pins : List (Addr × Obj)} {σ : St} {H : Hp} {s : Shared} {scope : Scope} {xs : List Str} {fp : List Addr} {C : Addr}
theorem comp_free (I : Inv X pins σ H s) (ok : CompOk X.N X.env.scope scope) : ∀ n, (n, NameKind.free) ∈ scope.names → ∃ c, X.env.cells.lookup n = some c := fun n hn => I.ok.has n (ok.free _ hn rfl)
theorem comp_cell (I : Inv X pins σ H s) (ok : CompOk X.N X.env.scope scope) {y : Str} {c : Addr} (e : (cbOf X.env scope C).lookup y = some c) : (y, c) ∈ cellsFrom (C + 1) scope.names [] ∨ X.env.cells.lookup y = some c := by
  rcases cb_lookup e with z | z
  · exact .inl z
  · rcases clo_in (comp_free I ok) z with z | z
    · cases z
    · exact .inr z
theorem comp_old (I : Inv X pins σ H s) {y : Str} {c : Addr} (e : X.env.cells.lookup y = some c) : c < s.heap.objs.size := let ⟨_, h⟩ := I.cell y c e; h.lt
theorem comp_ok (I : Inv X pins σ H s) (ok : CompOk X.N X.env.scope scope) (hf : ∀ b ∈ fp, FpOk X pins H b) (hx : ∀ b ∈ fp, b < s.heap.objs.size) (hC : s.heap.objs.size ≤ C) :
    (compCx X scope xs C s H fp (X.pn ++ pins)).Ok where
  mod := I.mod
  kind := ok.kind
  glob := I.ok.glob
  blt := I.ok.blt
  above := hC
  inj := fun x y c h1 h2 => by
    rcases comp_cell I ok h1 with z1 | z1 <;> rcases comp_cell I ok h2 with z2 | z2
    · exact cells_inj _ _ x y c z1 z2
    · exact absurd (Nat.lt_of_lt_of_le (comp_old I z2) (Nat.le_trans hC (Nat.le_of_lt (cells_above _ _ _ _ z1)))) (Nat.lt_irrefl _)
    · exact absurd (Nat.lt_of_lt_of_le (comp_old I z1) (Nat.le_trans hC (Nat.le_of_lt (cells_above _ _ _ _ z2)))) (Nat.lt_irrefl _)
    · exact I.ok.inj x y c z1 z2
  has := fun y hy => by
    show ∃ c, (cbOf X.env scope C).lookup y = some c
    rw [show cbOf X.env scope C = _ from cells_app _ _ _, lookup_app]
    rcases relabel_free hy with z | z
    · obtain ⟨c, hc⟩ := clo_has (cells := X.env.cells) (cs := []) (.inr (PySem.mem_of_lookup z))
      split
      · rename_i c' _; exact ⟨c', rfl⟩
      · exact ⟨c, hc⟩
    · obtain ⟨c, hc⟩ := cells_has scope.names (C + 1) y (PySem.mem_of_lookup z)
      obtain ⟨c', hc'⟩ := lookup_mem hc
      rw [hc']
      exact ⟨c', rfl⟩
  cab := fun x c h e => Nat.le_trans hC (Nat.le_of_lt (cells_above _ _ _ _ (cb_own (by have h : (scope.names.lookup x == some NameKind.cell) = true := h; simpa using h) e)))
  hd := I.ok.hd
  frames := I.ok.frames
  stk := .inl rfl
  exf := fun b hb => ⟨Nat.ne_of_lt (Nat.lt_of_lt_of_le (hx b hb) hC), fun x c e => by
    rcases comp_cell I ok e with z | z
    · exact Nat.ne_of_gt (Nat.lt_of_lt_of_le (hx b hb) (Nat.le_trans hC (Nat.le_of_lt (cells_above _ _ _ _ z))))
    · exact (hf b hb).2.2.2.2.1 x c z⟩
  bs := I.bs
  bsz := Nat.le_trans I.ok.bsz I.sz
  noex := fun b o e hb => by
    rcases (hf b hb).2.2.2.1 with z | z
    · exact I.ok.noex b o e z
    · exact absurd (Nat.lt_of_lt_of_le (Heap.lt_size e) (Nat.le_trans I.ok.bsz z)) (Nat.lt_irrefl _)
  exfs := fun b hb z => by
    rcases List.mem_cons.mp (I.stkSub b z) with q | q
    · exact (hf b hb).2.1 q
    · exact (hf b hb).2.2.1 q
  funs := I.stack
  frf := I.stkFree
theorem comp_start (I : Inv X pins σ H s) (ok : CompOk X.N X.env.scope scope) (hf : ∀ b ∈ fp, FpOk X pins H b) (hx : ∀ b ∈ fp, b < s.heap.objs.size) (hC : s.heap.objs.size ≤ C) {h' : Heap} {t' : Nat} {m : Str → Option Value}
    (hn : h'.Ns C m) (hk : ∀ b o, s.heap.get? b = some o → h'.get? b = some o) (hcs : CellsOk h' (C + 1) (cellsFrom (C + 1) scope.names [])) :
    Inv (compCx X scope xs C s H fp (X.pn ++ pins)) [] (σ ++ List.replicate xs.length none) H { s with heap := h', toks := t' } where
  ok := comp_ok I ok hf hx hC
  os := rfl
  bare := I.bare
  base := Un.kept hk
  loc := by
    refine ⟨m, hn, fun i x v e1 e2 e3 => ?_⟩
    have e1 : (X.N ++ xs)[i]? = some x := e1
    have hi : i < σ.length := by
      by_cases hi : i < σ.length
      · exact hi
      · rw [List.getElem?_append_right (by omega), List.getElem?_replicate] at e2
        split at e2 <;> cases e2
    rw [List.getElem?_append_left hi] at e2
    rw [List.getElem?_append_left (by rw [← I.len]; exact hi)] at e1
    have hxN : x ∈ X.N := List.mem_of_getElem? e1
    have e4 : (relabel scope X.env).names.lookup x = some .cell ∨ (relabel scope X.env).names.lookup x = some .free := by
      rcases e3 with z | z
      · exact absurd (relabel_local z) (ok.vis x hxN)
      · exact z
    have e5 : scope.names.lookup x = some .free := by
      rcases relabel_free e4 with z | z
      · exact z
      · exact absurd z (ok.cell x hxN)
    have e6 := ok.free _ (PySem.mem_of_lookup e5) rfl
    obtain ⟨m0, _, hl⟩ := I.loc
    obtain ⟨u, ru, lu⟩ := hl i x v e1 e2 (.inr e6)
    refine ⟨u, ru, .inr ⟨e4, ?_⟩⟩
    rcases lu with ⟨q, _⟩ | ⟨_, c, hc, o, ho, hd⟩
    · have q : X.env.scope.names.lookup x = some .local := q
      rcases e6 with z | z <;> (rw [q] at z; cases z)
    · obtain ⟨c', hc'⟩ := clo_has (cells := X.env.cells) (cs := []) (.inr (PySem.mem_of_lookup e5))
      have no : (cellsFrom (C + 1) scope.names []).lookup x = none := by
        cases e : (cellsFrom (C + 1) scope.names []).lookup x with
        | none => rfl
        | some d =>
          have := ok.uniq _ (cells_in _ _ _ _ (PySem.mem_of_lookup e))
          rw [e5] at this
          cases this
      have hb : (cbOf X.env scope C).lookup x = some c' := by
        rw [show cbOf X.env scope C = _ from cells_app _ _ _, lookup_app, no]
        exact hc'
      rcases clo_in (comp_free I ok) hc' with z | z
      · cases z
      · rw [hc] at z
        cases z
        exact ⟨c, hb, o, hk _ _ ho, hd⟩
  cell := fun x c e => by
    rcases comp_cell I ok e with z | z
    · exact ⟨none, (hcs.empty x c z).1⟩
    · obtain ⟨v, o, ho, hd⟩ := I.cell x c z
      exact ⟨v, o, hk _ _ ho, hd⟩
  free := I.hok.fresh hC
  freeC := fun x c e => by
    rcases comp_cell I ok e with z | z
    · exact I.hok.fresh (by have := cells_above _ _ _ _ z; omega)
    · exact I.freeC x c z
  pin := fun p hp => by
    rw [List.append_nil] at hp
    obtain ⟨e, n, ne, nf, d⟩ := I.pin p hp
    refine ⟨hk _ _ e, n, Nat.ne_of_lt (Nat.lt_of_lt_of_le (Heap.lt_size e) hC), fun z => ?_, d⟩
    rcases List.mem_cons.mp (I.stkSub p.1 z) with q | q
    · exact ne q
    · exact nf q
  hok := I.hok.kept hk
  len := by
    show (σ ++ List.replicate xs.length none).length = (X.N ++ xs).length
    rw [List.length_append, List.length_append, List.length_replicate, I.len]
end
abbrev CTail (J : It) (k : Nat) (g : TG) (te : TE) (σ : St) (Q : VK) (H1 : Hp) : Prop := ∃ W : Nat → Nat → List V → Hp → Prop, (∃ m, W 0 m [] H1) ∧ ∀ i m ys H, W i m ys H →
  (J.stop i H ∧ ys.length ≤ sizeLine ∧ ∀ p, H p = none → Q (.ref p) (upd H p (.lst ys))) ∨
  (J.go i H ∧ ys.length < sizeLine ∧ ∀ x H', J.yld i H x H' → g x (σ ++ List.replicate k none) H' fun σ2 H2 => (∃ zs, σ2 = σ ++ zs ∧ zs.length = k) ∧ te σ2 H2 fun v H3 => ∃ m', m' < m ∧ W (i + 1) m' (ys ++ [v]) H3)
def tComp (k : Nat) (wi : TI) (g : TG) (te : TE) : TE := fun σ H Q => wi σ H fun J H1 => CTail J k g te σ Q H1
theorem pe_comp {X : Cx} {elt target iter : Expr} {scope : Scope} {pos : Pos} {wi : TI} {g : TG} {te : TE} {xs : List Str} (hc : X.calm = true) (ok : CompOk X.N X.env.scope scope) (hi : PI X target iter wi)
    (hg : ∀ C s H fp pn, PG (compCx X scope xs C s H fp pn) target g) (he : ∀ C s H fp pn, PE (compCx X scope xs C s H fp pn) elt te)
    (hs : ∀ x, foldedSetIterable iter X.env x = pure x := by intro _; rfl) : PE X (.ListComp elt [⟨target, iter, [], 0⟩] scope pos) (tComp xs.length wi g te) := by
  intro pins s σ H Q I h
  rw [eval_ListComp]
  refine wpAny_comprehension_free (use := none) rfl hs (clo_closure (comp_free I ok)) ok.kind ok.names (thn (hi pins s σ H _ I h) fun v s1 h1 => thn h1 fun itv s2 h2 => ?_)
  obtain ⟨it, fp, tn, J, H2, rfl, I2, T, st2, f2, W, ⟨m0, w0⟩, turn⟩ := h2
  refine wpAny_newObj_type (newEnv_comp fun h₁ hns₁ hsb₁ hcl₁ => ?_)
  dsimp only at hns₁ hsb₁ hcl₁ ⊢
  generalize hD : s2.heap.objs.size = D
  generalize hH3 : s2.heap.push { cls := .type "list", dict := none, data := .seq ([] : List Value).toArray } = h3 at hns₁ hsb₁ hcl₁ ⊢
  have k23 : ∀ b o, s2.heap.get? b = some o → h3.get? b = some o := fun b o e => hH3 ▸ Heap.get?_push_of_some _ e
  have hC : h3.objs.size = D + 1 := by rw [← hH3, Heap.size_push, hD]
  have eD3 : h3.get? D = some { cls := .type "list", dict := none, data := .seq ([] : List Value).toArray } := by
    rw [← hH3, ← hD]; exact Heap.get?_push_size _ rfl
  have I3 : Inv X pins σ H2 { s2 with heap := h3 } := I2.kept (t' := s2.toks) k23
  have fD : FpOk X pins H2 D := I2.fpOk (by omega) (I2.hok.fresh (by omega))
  have lt2 : ∀ b ∈ fp, b < D := fun b hb => by
    obtain ⟨o, e, _⟩ := T.obj 0 _ st2 b hb
    rw [← hD]
    exact Heap.lt_size e
  have f3 : ∀ b ∈ D :: fp, FpOk X pins H2 b := fun b hb => by
    rcases List.mem_cons.mp hb with rfl | hb
    · exact fD
    · exact f2 b hb
  have hx3 : ∀ b ∈ D :: fp, b < ({ s2 with heap := h3 } : Shared).heap.objs.size := fun b hb => by
    show b < h3.objs.size
    rcases List.mem_cons.mp hb with rfl | hb
    · rw [hC]; exact Nat.lt_succ_self _
    · rw [hC]; exact Nat.lt_succ_of_lt (lt2 b hb)
  have k31 : ∀ b o, h3.get? b = some o → h₁.get? b = some o := hsb₁
  have okX := comp_ok (C := h3.objs.size) (xs := xs) I3 ok f3 hx3 (Nat.le_refl _)
  have I4 := comp_start (C := h3.objs.size) (xs := xs) (t' := s2.toks + ([] : List (Str × Value)).length) I3 ok f3 hx3 (Nat.le_refl _) hns₁ k31 hcl₁
  have mD : D ∈ D :: fp := List.mem_cons_self
  have neC : ∀ b ∈ D :: fp, b ≠ h3.objs.size := fun b hb => (okX.exf b hb).1
  have stat : ∀ {H' : Hp} {pl : List (Addr × Obj)}, (∀ b ∈ fp, H' b = none) → (∀ p ∈ pl, p.1 = D) → ∀ b ∈ fp, FpOk (compCx X scope xs h3.objs.size { s2 with heap := h3 } H2 (D :: fp) (X.pn ++ pins)) pl H' b := fun hn hpl b hb => by
    have hb' : b ∈ D :: fp := List.mem_cons_of_mem _ hb
    refine ⟨hn b hb, neC b hb', okX.exfs b hb', .inl hb', (okX.exf b hb').2, fun p hp => ?_⟩
    rcases List.mem_append.mp hp with hp | hp
    · exact (f2 b hb).2.2.2.2.2 p hp
    · rw [hpl p hp]
      exact Nat.ne_of_gt (lt2 b hb)
  have loop : codeAny (model X.prog X.w) X.A (.compLoop (.ListComp elt [⟨target, iter, [], 0⟩] scope pos) 0 (.ref it) (.ref D) (compEnvC scope (cbOf X.env scope h3.objs.size) h3.objs.size X.env))
      (compPost (model X.prog X.w) X.A X.xe none (EP X pins σ Q) (.ref D) h3.objs.size) { s2 with heap := h₁, toks := s2.toks + ([] : List (Str × Value)).length } := by
    refine compLoop_any (fun n s' => ∃ i ys its k H', Inv (compCx X scope xs h3.objs.size { s2 with heap := h3 } H2 (D :: fp) (X.pn ++ pins)) [] (σ ++ List.replicate xs.length none) H' s' ∧
      s'.heap.get? D = some { cls := .type "list", data := .seq (its : List Value).toArray k } ∧ Vals ys its ∧ H' D = none ∧ tn i s'.heap ∧ (∀ b ∈ fp, H' b = none) ∧ W i n ys H') ?_ m0
      ⟨0, [], [], _, H2, I4, k31 _ _ eD3, .nil, fD.1, T.keep _ _ _ st2 (fun b _ o e => k31 b o (k23 b o e)), fun b hb => (f2 b hb).1, w0⟩
    rintro n s' ⟨i, ys, its, k, H', I', eD, rv, nD, st, fr, w⟩
    have Ip := I'.pins_of (pins' := [(D, { cls := .type "list", data := .seq its.toArray k })]) fun p hp => by
      rw [List.mem_singleton] at hp
      subst hp
      exact ⟨eD, nD, neC D mD, okX.exfs D mD, fun v z => by cases z⟩
    have one : ∀ p ∈ [(D, ({ cls := .type "list", data := .seq its.toArray k } : Obj))], p.1 = D := fun p hp => by rw [List.mem_singleton] at hp; rw [hp]
    rcases turn i n ys H' w with ⟨stop, hz, q⟩ | ⟨go, hz, step⟩
    · refine thn (T.done (compCx X scope xs h3.objs.size { s2 with heap := h3 } H2 (D :: fp) (X.pn ++ pins)) rfl rfl rfl hc i _ s' _ H' (fun _ _ => False) Ip (stat fr one) st stop) fun r s4 ⟨hr, J4⟩ => ?_
      subst hr
      obtain ⟨mm, hnm, _⟩ := J4.loc
      refine ⟨mm, hnm, fun h' sb => ?_⟩
      obtain ⟨eD4, nD4, _⟩ := J4.pin (D, { cls := .type "list", data := .seq its.toArray k }) (List.mem_append_right _ List.mem_cons_self)
      have hb : ∀ b o, b ≠ h3.objs.size → s4.heap.get? b = some o → h'.get? b = some o := fun b o hn e => sb.extBut b o hn e
      have u0 : Un (frs X.stack) (D :: fp) H2 H' h3 s4.heap := J4.base
      have u : Un (frs X.stack) (D :: fp) H2 H' s2.heap h' := ((Un.kept k23).trans u0).but hb (by omega)
      have os4 : s4.os = s2.os := J4.os
      refine ⟨.ref D, upd H' D (.lst ys), I2.call' (s' := { s4 with heap := h' }) (ch := D :: fp) os4 (u.track (by omega) nD4) ((J4.hok.but hb J4.free).track nD4 ⟨hz, its, k, rv, hb D _ (neC D mD) eD4⟩) J4.bare (fun b hb => ?_), rfl, q D nD4⟩
      have z := f3 b hb
      exact ⟨z.2.2.2.1, z.2.1, z.2.2.2.2.1, z.2.2.2.2.2⟩
    · refine thn (T.item (compCx X scope xs h3.objs.size { s2 with heap := h3 } H2 (D :: fp) (X.pn ++ pins)) rfl rfl rfl hc i _ s' _ H' (fun _ _ => False) Ip (stat fr one) st go) fun r s4 ⟨u, hr, h4⟩ => ?_
      subst hr
      refine thn h4 fun _ s5 ⟨x, H5, I5, r5, y5, st5, fr5⟩ => ?_
      have I5' := I5.pinned (stat fr5 one) (T.obj _ _ st5)
      refine thn (hg _ _ _ _ _ _ s5 _ H5 x u _ I5' r5 (step x H5 y5)) fun _ s6 ⟨σ6, H6, I6, ⟨zs, hz6, hl6⟩, q6⟩ => ?_
      refine thn (he _ _ _ _ _ _ s6 σ6 H6 _ I6 q6) fun xv s7 ⟨v, H7, I7, r7, m', hm', w7⟩ => ?_
      obtain ⟨eD7, nD7, _⟩ := I7.pin (D, { cls := .type "list", data := .seq its.toArray k }) (List.mem_append_right _ (List.mem_append_left _ List.mem_cons_self))
      have len := rv.length
      refine call_meets F.slot_list_append ⟨_, eD7, rfl⟩ F.entry_list_append (F.args_list_append_2 _ _) (PySem.list_append D its.toArray k xv (by rw [List.size_toArray]; omega)) ⟨eD7, ?_⟩
      have q := PySem.IsL.update eD7 (fun a => a.push xv)
      have other : ∀ b o, b ≠ D → s7.heap.get? b = some o → (s7.heap.update D (Obj.mapSeq fun a => a.push xv)).get? b = some o := fun b o hb e => (Heap.get?_update_other s7.heap _ (Ne.symm hb)).trans e
      have pinF : ∀ b ∈ fp, ∀ o, s5.heap.get? b = some o → s7.heap.get? b = some o ∧ H7 b = none := fun b hb o e =>
        ⟨(I7.pin (b, o) (List.mem_append_right _ (List.mem_append_right _ (mem_pinsAt hb e)))).1, (I7.pin (b, o) (List.mem_append_right _ (List.mem_append_right _ (mem_pinsAt hb e)))).2.1⟩
      have I7' := I7.pins_of (pins' := []) fun p hp => by cases hp
      have I8 := I7'.turned (t' := s7.toks) (it := D) other nD7 (neC D mD) (.inl mD) (okX.exf D mD).2 (fun p hp => by
        rw [List.append_nil] at hp
        exact fD.2.2.2.2.2 p hp)
      have I9 := I8.weak (σ' := σ ++ List.replicate xs.length none) (by rw [hz6, List.length_append, List.length_append, List.length_replicate, hl6]) (fun j v' e => by
        have hj : j < σ.length := by
          by_cases hj : j < σ.length
          · exact hj
          · rw [List.getElem?_append_right (by omega), List.getElem?_replicate] at e
            split at e <;> cases e
        rw [List.getElem?_append_left hj] at e
        rw [hz6, List.getElem?_append_left hj]
        exact e)
      have e9 : its.toArray.push xv = (its ++ [xv]).toArray := by simp
      rw [e9] at q
      refine ⟨m', hm', i + 1, ys ++ [v], its ++ [xv], _, H7, I9, q, rv.append (.cons r7 .nil), nD7, T.keep _ _ _ st5 (fun b hb o e => other b o (Nat.ne_of_lt (lt2 b hb)) (pinF b hb o e).1), fun b hb => ?_, w7⟩
      obtain ⟨o, e, _⟩ := T.obj _ _ st5 b hb
      exact (pinF b hb o e).2
  exact codeAny_compStart_list loop (T.self _ 0 _ _ _ (T.keep _ _ _ st2 fun b _ o e => k31 b o (k23 b o e)) loop)
end L2
namespace L2
open PySem PySem.Spec PyProof.Rows
abbrev Cx.rn (X : Cx) (i : Nat) (y : Str) : Cx := { X with N := X.N.set i y }
section
variable {X : Cx} {pins : List (Addr × Obj)} {σ : St} {H : Hp} {s : Shared} {i : Nat} {y : Str}
theorem Inv.rn (I : Inv X pins σ H s) (h : σ[i]? = some none) : Inv (X.rn i y) pins σ H s :=
  ⟨⟨I.ok.mod, I.ok.kind, I.ok.glob, I.ok.blt, I.ok.above, I.ok.inj, I.ok.has, I.ok.cab, I.ok.hd, I.ok.frames, I.ok.stk, I.ok.exf, I.ok.bs, I.ok.bsz, I.ok.noex, I.ok.exfs, I.ok.funs, I.ok.frf⟩, I.os, I.bare, I.base,
    let ⟨m, hn, hl⟩ := I.loc; ⟨m, hn, fun j x v e1 e2 e3 => by
      by_cases z : i = j
      · subst z; rw [h] at e2; cases e2
      · exact hl j x v (by rw [← e1]; exact (List.getElem?_set_ne z).symm) e2 e3⟩, I.cell, I.free, I.freeC, I.pin, I.hok, by rw [I.len]; exact List.length_set.symm⟩
theorem Inv.unrn (ok : X.Ok) (I : Inv (X.rn i y) pins σ H s) (h : σ[i]? = some none) : Inv X pins σ H s :=
  ⟨ok, I.os, I.bare, I.base, let ⟨m, hn, hl⟩ := I.loc; ⟨m, hn, fun j x v e1 e2 e3 => by
      by_cases z : i = j
      · subst z; rw [h] at e2; cases e2
      · exact hl j x v (by rw [← e1]; exact List.getElem?_set_ne z) e2 e3⟩, I.cell, I.free, I.freeC, I.pin, I.hok, by rw [I.len]; exact List.length_set⟩
end
end L2
namespace L2
open PySem PySem.Spec PyProof.Rows
end L2
namespace L2
open PySem PySem.Spec PyProof.Rows
theorem ps_setC {X : Cx} {i₀ : Nat} {x₀ : Str} {pos₀ pos₁ : Pos} {elt target iter : Expr} {scope : Scope} {pos : Pos} {wi : TI} {g : TG} {te : TE} {xs : List Str} (hN : X.N.Nodup) (hi₀ : X.N[i₀]? = some x₀) (hx₀ : Loc X.env.scope x₀) (hc : X.calm = true) (ok : CompOk X.N X.env.scope scope) (hi : PI X target iter wi)
    (hg : ∀ C s H fp pn, PG (compCx X scope xs C s H fp pn) target g) (he : ∀ C s H fp pn, PE (compCx X scope xs C s H fp pn) elt te)
    (hs : ∀ x, foldedSetIterable iter X.env x = pure x := by intro _; rfl) (hw : swapsWith (.ListComp elt [⟨target, iter, [], 0⟩] scope pos) (some (.Name x₀ pos₀)) pos₁.line X.env = pure true := by rfl)
    (hf₀ : X.fn x₀ = true ∨ X.env.scope.names.lookup x₀ = some .local := by first | exact .inl rfl | exact .inr rfl | assumption) :
    PS X (.Assign [.Name x₀ pos₀] (.ListComp elt [⟨target, iter, [], 0⟩] scope pos) pos₁) (tAsg (tComp xs.length wi g te) (gName i₀)) := by
  intro pins s σ H D₀ I h
  rw [exec_Assign_Name_used _ _ _ _ hw]
  refine wpAny_bind (wpAny_standAt (wpAny_bind ?_))
  show wpAny _ _ (comprehension _ _ _ _ _ _ _ _ >>= _) _ _ _
  refine wpAny_bind (wpAny_comprehension_free (Q := fun _ s' => wpAny (model X.prog X.w) X.A (pure ()) (fun _ s'' => wpAny (model X.prog X.w) X.A (pure Flow.next) (SP X pins D₀) X.xe s'') X.xe s') (use := some (assign (.Name x₀ pos₀) X.env)) rfl hs (clo_closure (comp_free I ok)) ok.kind ok.names (thn (hi pins s σ H _ I h) fun v s1 h1 => thn h1 fun itv s2 h2 => ?_))
  obtain ⟨it, fp, tn, J, H2, rfl, I2, T, st2, f2, W, ⟨m0, w0⟩, turn⟩ := h2
  refine wpAny_newObj_type (newEnv_comp fun h₁ hns₁ hsb₁ hcl₁ => ?_)
  dsimp only at hns₁ hsb₁ hcl₁ ⊢
  generalize hD : s2.heap.objs.size = D
  generalize hH3 : s2.heap.push { cls := .type "list", dict := none, data := .seq ([] : List Value).toArray } = h3 at hns₁ hsb₁ hcl₁ ⊢
  have k23 : ∀ b o, s2.heap.get? b = some o → h3.get? b = some o := fun b o e => hH3 ▸ Heap.get?_push_of_some _ e
  have hC : h3.objs.size = D + 1 := by rw [← hH3, Heap.size_push, hD]
  have eD3 : h3.get? D = some { cls := .type "list", dict := none, data := .seq ([] : List Value).toArray } := by
    rw [← hH3, ← hD]; exact Heap.get?_push_size _ rfl
  have I3 : Inv X pins σ H2 { s2 with heap := h3 } := I2.kept (t' := s2.toks) k23
  have fD : FpOk X pins H2 D := I2.fpOk (by omega) (I2.hok.fresh (by omega))
  have lt2 : ∀ b ∈ fp, b < D := fun b hb => by
    obtain ⟨o, e, _⟩ := T.obj 0 _ st2 b hb
    rw [← hD]
    exact Heap.lt_size e
  have f3 : ∀ b ∈ D :: fp, FpOk X pins H2 b := fun b hb => by
    rcases List.mem_cons.mp hb with rfl | hb
    · exact fD
    · exact f2 b hb
  have hx3 : ∀ b ∈ D :: fp, b < ({ s2 with heap := h3 } : Shared).heap.objs.size := fun b hb => by
    show b < h3.objs.size
    rcases List.mem_cons.mp hb with rfl | hb
    · rw [hC]; exact Nat.lt_succ_self _
    · rw [hC]; exact Nat.lt_succ_of_lt (lt2 b hb)
  have k31 : ∀ b o, h3.get? b = some o → h₁.get? b = some o := hsb₁
  have okX := comp_ok (C := h3.objs.size) (xs := xs) I3 ok f3 hx3 (Nat.le_refl _)
  have I4 := comp_start (C := h3.objs.size) (xs := xs) (t' := s2.toks + ([] : List (Str × Value)).length) I3 ok f3 hx3 (Nat.le_refl _) hns₁ k31 hcl₁
  have mD : D ∈ D :: fp := List.mem_cons_self
  have neC : ∀ b ∈ D :: fp, b ≠ h3.objs.size := fun b hb => (okX.exf b hb).1
  have stat : ∀ {H' : Hp} {pl : List (Addr × Obj)}, (∀ b ∈ fp, H' b = none) → (∀ p ∈ pl, p.1 = D) → ∀ b ∈ fp, FpOk (compCx X scope xs h3.objs.size { s2 with heap := h3 } H2 (D :: fp) (X.pn ++ pins)) pl H' b := fun hn hpl b hb => by
    have hb' : b ∈ D :: fp := List.mem_cons_of_mem _ hb
    refine ⟨hn b hb, neC b hb', okX.exfs b hb', .inl hb', (okX.exf b hb').2, fun p hp => ?_⟩
    rcases List.mem_append.mp hp with hp | hp
    · exact (f2 b hb).2.2.2.2.2 p hp
    · rw [hpl p hp]
      exact Nat.ne_of_gt (lt2 b hb)
  have loop : codeAny (model X.prog X.w) X.A (.compLoop (.ListComp elt [⟨target, iter, [], 0⟩] scope pos) 0 (.ref it) (.ref D) (compEnvC scope (cbOf X.env scope h3.objs.size) h3.objs.size X.env))
      (compPost (model X.prog X.w) X.A X.xe (some (assign (.Name x₀ pos₀) X.env)) (fun _ s' => wpAny (model X.prog X.w) X.A (pure ()) (fun _ s'' => wpAny (model X.prog X.w) X.A (pure Flow.next) (SP X pins D₀) X.xe s'') X.xe s') (.ref D) h3.objs.size) { s2 with heap := h₁, toks := s2.toks + ([] : List (Str × Value)).length } := by
    refine compLoop_any (fun n s' => ∃ i ys its k H', Inv (compCx X scope xs h3.objs.size { s2 with heap := h3 } H2 (D :: fp) (X.pn ++ pins)) [] (σ ++ List.replicate xs.length none) H' s' ∧
      s'.heap.get? D = some { cls := .type "list", data := .seq (its : List Value).toArray k } ∧ Vals ys its ∧ H' D = none ∧ tn i s'.heap ∧ (∀ b ∈ fp, H' b = none) ∧ W i n ys H') ?_ m0
      ⟨0, [], [], _, H2, I4, k31 _ _ eD3, .nil, fD.1, T.keep _ _ _ st2 (fun b _ o e => k31 b o (k23 b o e)), fun b hb => (f2 b hb).1, w0⟩
    rintro n s' ⟨i, ys, its, k, H', I', eD, rv, nD, st, fr, w⟩
    have Ip := I'.pins_of (pins' := [(D, { cls := .type "list", data := .seq its.toArray k })]) fun p hp => by
      rw [List.mem_singleton] at hp
      subst hp
      exact ⟨eD, nD, neC D mD, okX.exfs D mD, fun v z => by cases z⟩
    have one : ∀ p ∈ [(D, ({ cls := .type "list", data := .seq its.toArray k } : Obj))], p.1 = D := fun p hp => by rw [List.mem_singleton] at hp; rw [hp]
    rcases turn i n ys H' w with ⟨stop, hz, q⟩ | ⟨go, hz, step⟩
    · refine thn (T.done (compCx X scope xs h3.objs.size { s2 with heap := h3 } H2 (D :: fp) (X.pn ++ pins)) rfl rfl rfl hc i _ s' _ H' (fun _ _ => False) Ip (stat fr one) st stop) fun r s4 ⟨hr, J4⟩ => ?_
      subst hr
      obtain ⟨mm, hnm, _⟩ := J4.loc
      obtain ⟨eD4, nD4, _⟩ := J4.pin (D, { cls := .type "list", data := .seq its.toArray k }) (List.mem_append_right _ List.mem_cons_self)
      have u0 : Un (frs X.stack) (D :: fp) H2 H' h3 s4.heap := J4.base
      have u : Un (frs X.stack) (D :: fp) H2 H' s2.heap s4.heap := (Un.kept k23).trans u0
      have os4 : s4.os = s2.os := J4.os
      have nC4 : H' h3.objs.size = none := J4.free
      have IX : Inv X pins σ (upd H' D (.lst ys)) s4 := I2.call' (s' := s4) (ch := D :: fp) os4 (u.track (by omega) nD4) (J4.hok.track nD4 ⟨hz, its, k, rv, eD4⟩) J4.bare (fun b hb => by
        have z := f3 b hb
        exact ⟨z.2.2.2.1, z.2.1, z.2.2.2.2.1, z.2.2.2.2.2⟩)
      have fC : FpOk X pins H2 h3.objs.size := I2.fpOk (by omega) (I2.hok.fresh (by omega))
      have nCX : upd H' D (.lst ys) h3.objs.size = none := by rw [upd_ne (Ne.symm (neC D mD))]; exact nC4
      refine wpAny_assign_Name (store_ok2 IX hN hi₀ hx₀ (v := .ref D) rfl (fun s5 I5 ⟨a5, sb5, ha5⟩ => ⟨mm, ?_, fun h' sb => ?_⟩) hf₀)
      · have : h3.objs.size ≠ a5 := by
          rcases ha5 with e | e
          · rw [e]; exact fC.2.1
          · exact Ne.symm (fC.2.2.2.2.1 x₀ a5 e)
        obtain ⟨o, es, ep, e, r⟩ := hnm
        exact ⟨o, es, ep, sb5.extBut _ _ this e, r⟩
      · have I6 : Inv X pins (σ.set i₀ (some (.ref D))) (upd H' D (.lst ys)) { s5 with heap := h' } := I5.turned (t' := s5.toks) (it := h3.objs.size) (fun b o hb e => sb.extBut b o hb e) nCX fC.2.1 fC.2.2.2.1 fC.2.2.2.2.1 fC.2.2.2.2.2
        exact wpAny_pure (wpAny_pure ⟨_, _, I6, q D nD4⟩)
    · refine thn (T.item (compCx X scope xs h3.objs.size { s2 with heap := h3 } H2 (D :: fp) (X.pn ++ pins)) rfl rfl rfl hc i _ s' _ H' (fun _ _ => False) Ip (stat fr one) st go) fun r s4 ⟨u, hr, h4⟩ => ?_
      subst hr
      refine thn h4 fun _ s5 ⟨x, H5, I5, r5, y5, st5, fr5⟩ => ?_
      have I5' := I5.pinned (stat fr5 one) (T.obj _ _ st5)
      refine thn (hg _ _ _ _ _ _ s5 _ H5 x u _ I5' r5 (step x H5 y5)) fun _ s6 ⟨σ6, H6, I6, ⟨zs, hz6, hl6⟩, q6⟩ => ?_
      refine thn (he _ _ _ _ _ _ s6 σ6 H6 _ I6 q6) fun xv s7 ⟨v, H7, I7, r7, m', hm', w7⟩ => ?_
      obtain ⟨eD7, nD7, _⟩ := I7.pin (D, { cls := .type "list", data := .seq its.toArray k }) (List.mem_append_right _ (List.mem_append_left _ List.mem_cons_self))
      have len := rv.length
      refine call_meets F.slot_list_append ⟨_, eD7, rfl⟩ F.entry_list_append (F.args_list_append_2 _ _) (PySem.list_append D its.toArray k xv (by rw [List.size_toArray]; omega)) ⟨eD7, ?_⟩
      have q := PySem.IsL.update eD7 (fun a => a.push xv)
      have other : ∀ b o, b ≠ D → s7.heap.get? b = some o → (s7.heap.update D (Obj.mapSeq fun a => a.push xv)).get? b = some o := fun b o hb e => (Heap.get?_update_other s7.heap _ (Ne.symm hb)).trans e
      have pinF : ∀ b ∈ fp, ∀ o, s5.heap.get? b = some o → s7.heap.get? b = some o ∧ H7 b = none := fun b hb o e =>
        ⟨(I7.pin (b, o) (List.mem_append_right _ (List.mem_append_right _ (mem_pinsAt hb e)))).1, (I7.pin (b, o) (List.mem_append_right _ (List.mem_append_right _ (mem_pinsAt hb e)))).2.1⟩
      have I7' := I7.pins_of (pins' := []) fun p hp => by cases hp
      have I8 := I7'.turned (t' := s7.toks) (it := D) other nD7 (neC D mD) (.inl mD) (okX.exf D mD).2 (fun p hp => by
        rw [List.append_nil] at hp
        exact fD.2.2.2.2.2 p hp)
      have I9 := I8.weak (σ' := σ ++ List.replicate xs.length none) (by rw [hz6, List.length_append, List.length_append, List.length_replicate, hl6]) (fun j v' e => by
        have hj : j < σ.length := by
          by_cases hj : j < σ.length
          · exact hj
          · rw [List.getElem?_append_right (by omega), List.getElem?_replicate] at e
            split at e <;> cases e
        rw [List.getElem?_append_left hj] at e
        rw [hz6, List.getElem?_append_left hj]
        exact e)
      have e9 : its.toArray.push xv = (its ++ [xv]).toArray := by simp
      rw [e9] at q
      refine ⟨m', hm', i + 1, ys ++ [v], its ++ [xv], _, H7, I9, q, rv.append (.cons r7 .nil), nD7, T.keep _ _ _ st5 (fun b hb o e => other b o (Nat.ne_of_lt (lt2 b hb)) (pinF b hb o e).1), fun b hb => ?_, w7⟩
      obtain ⟨o, e, _⟩ := T.obj _ _ st5 b hb
      exact (pinF b hb o e).2
  exact codeAny_compStart_list loop (T.self _ 0 _ _ _ (T.keep _ _ _ st2 fun b _ o e => k31 b o (k23 b o e)) loop)
theorem ps_hideA {X : Cx} {st : Stmt} {te : TE} {i₀ : Nat} (i : Nat) (y : Str) (hi : i₀ ≠ i) (h : PS (X.rn i y) st (tAsg te (gName i₀))) : PS X st (fun D σ H => σ[i]? = some none ∧ tAsg te (gName i₀) D σ H) := by
  intro pins s σ H D I ⟨h0, q⟩
  have e : (fun v H1 => (σ.set i₀ (some v))[i]? = some none ∧ D.nx (σ.set i₀ (some v)) H1) = fun v H1 => D.nx (σ.set i₀ (some v)) H1 := by
    funext v H1
    exact propext ⟨fun z => z.2, fun z => ⟨by rw [List.getElem?_set_ne hi]; exact h0, z⟩⟩
  have q' : tAsg te (gName i₀) { D with nx := fun σ' H' => σ'[i]? = some none ∧ D.nx σ' H', rt := fun _ _ => False, bk := fun _ _ => False, ct := fun _ _ => False } σ H := by
    show te σ H fun v H1 => (σ.set i₀ (some v))[i]? = some none ∧ D.nx (σ.set i₀ (some v)) H1
    rw [e]
    exact q
  refine thn (h pins s σ H _ (I.rn h0) q') fun f s1 sp => ?_
  cases f with
  | next =>
    obtain ⟨σ', H', I', z, n⟩ := sp
    exact ⟨σ', H', I'.unrn I.ok z, n⟩
  | ret v => obtain ⟨_, _, _, _, _, z⟩ := sp; exact z.elim
  | brk => obtain ⟨_, _, _, z⟩ := sp; exact z.elim
  | cont => obtain ⟨_, _, _, z⟩ := sp; exact z.elim
end L2
namespace L2
open PySem PySem.Spec PyProof.Rows
section
variable {prog : Program} {w : World} {A : Around} {E : Value → Shared → Prop} {s : Shared}
theorem nextT_item {I t : Addr} {i : Nat} {vs : Array Value} {x : Value} {Q : Value → Shared → Prop} (hI : s.heap.IsTupleIter I t i) (ht : s.heap.IsTuple t vs) (e : vs[i]? = some x)
    (q : ∀ h', h'.IsTupleIter I t (i + 1) → Heap.SameBut I s.heap h' → Q x { s with heap := h' }) : wpAny (model prog w) A (Builtin.SmallTypes.nextOf (.ref I)) Q E s := by
  obtain ⟨o, eo, co, fo⟩ := id hI; obtain ⟨u, eu, _, n, fu⟩ := ht; unfold Builtin.SmallTypes.nextOf
  refine wpAny_bind (wpAny_callSpecial?_slot (name := Str.ofString "__next__") hI.typeIs F.slot_tuple_iterator_next (wpAny_call_entry F.slot_tuple_iterator_next hI.typeIs F.entry_tuple_iterator_next ?_ (F.args_tuple_iterator_next_1 _)))
  show wpAny _ _ (field (.ref I) 0 >>= _) _ _ s
  refine wpAny_bind (wpAny_field eo fo (x := .ref t) rfl ?_); show wpAny _ _ (if (Value.ref t == Value.none) = true then _ else _) _ _ s
  rw [if_neg (show ¬ ((Value.ref t == Value.none) = true) from Bool.false_ne_true)]; show wpAny _ _ (field (.ref I) 1 >>= _) _ _ s
  refine wpAny_bind (wpAny_field eo fo (x := .int i 0) rfl ?_); show wpAny _ _ (seqItems? (.ref t) >>= _) _ _ s
  refine wpAny_bind (wpAny_seqItems eu fu ?_); simp only [Int.toNat_natCast, e]
  refine wpAny_bind (wpAny_setField eo fo (by simp) (wpAny_pure ⟨x, rfl, wpAny_pure (q _ ?_ (Heap.SameBut.update ..))⟩))
  exact ⟨_, Heap.get?_update_self _ eo (Obj.isFreed_of_fields (Obj.data_mapFields fo _)), (Obj.cls_mapFields ..).trans co, by rw [Obj.data_mapFields fo]; simp [rawInt]⟩
theorem nextT_end {I t : Addr} {i : Nat} {vs : Array Value} {Q : Value → Shared → Prop} (hh : A.handled = none) (hI : s.heap.IsTupleIter I t i) (ht : s.heap.IsTuple t vs) (e : vs[i]? = none)
    (q : ∀ h' x, Heap.ExtBut I s.heap h' → (∃ o, h'.get? x = some o ∧ o.cls = .type "StopIteration") → E (.ref x) { s with heap := h' }) : wpAny (model prog w) A (Builtin.SmallTypes.nextOf (.ref I)) Q E s := by
  obtain ⟨o, eo, co, fo⟩ := id hI; obtain ⟨u, eu, _, n, fu⟩ := ht; unfold Builtin.SmallTypes.nextOf
  refine wpAny_bind (wpAny_callSpecial?_slot (name := Str.ofString "__next__") hI.typeIs F.slot_tuple_iterator_next (wpAny_call_entry F.slot_tuple_iterator_next hI.typeIs F.entry_tuple_iterator_next ?_ (F.args_tuple_iterator_next_1 _)))
  show wpAny _ _ (field (.ref I) 0 >>= _) _ _ s
  refine wpAny_bind (wpAny_field eo fo (x := .ref t) rfl ?_); show wpAny _ _ (if (Value.ref t == Value.none) = true then _ else _) _ _ s
  rw [if_neg (show ¬ ((Value.ref t == Value.none) = true) from Bool.false_ne_true)]; show wpAny _ _ (field (.ref I) 1 >>= _) _ _ s
  refine wpAny_bind (wpAny_field eo fo (x := .int i 0) rfl ?_); show wpAny _ _ (seqItems? (.ref t) >>= _) _ _ s
  refine wpAny_bind (wpAny_seqItems eu fu ?_); simp only [Int.toNat_natCast, e]
  refine wpAny_bind (wpAny_rule (wpAny_bind (wpAny_setField eo fo (by simp) ?_))); show wpAny _ _ (newExc (.type "StopIteration") [] >>= _) _ _ _
  refine wpAny_bind ?_; simp only [newExc, newTuple]
  refine wpAny_bind (wpAny_newObj_type ?_ (by size_fits)); refine wpAny_bind (m := firstArgMember _ _) (wpAny_of_eq (a := Value.none) (by first | rfl | (simp only [firstArgMember]; rfl)) ?_)
  refine wpAny_newObj_type ?_ (by size_fits); simp only [raiseNew]; refine wpAny_bind (wpAny_handled ?_)
  first | rw [show A.in1.handled = none from hh] | rw [hh]
  refine wpAny_bind (wpAny_pure (wpAny_throw ?_)); exact q _ _ (((Heap.SameBut.update ..).extBut.push _).push _) ⟨_, Heap.get?_push_size _ rfl, rfl⟩
end
inductive Sr
  | lst (a : Addr)
  | tup (a : Addr)
  | str (x : Str)
def Sr.it : Sr → Heap → Addr → Nat → Prop
  | .lst a, h, I, i => h.IsListIter I a i
  | .tup a, h, I, i => h.IsTupleIter I a i
  | .str x, h, I, i => ∃ t, h.IsStrIter I (strIterType x) x t i
def Sr.has : Sr → Heap → Array Value → Prop
  | .lst a, h, vs => h.IsList a vs
  | .tup a, h, vs => h.IsTuple a vs
  | .str x, _, vs => vs.size = x.cps.size
def Sr.is : Sr → Array Value → Nat → Value → Prop
  | .lst _, vs, i, v => vs[i]? = some v
  | .tup _, vs, i, v => vs[i]? = some v
  | .str x, _, i, v => ∃ c u, x.cps[i]? = some c ∧ v = .str ⟨#[c]⟩ u
def Sr.fp : Sr → Addr → List Addr
  | .lst a, I => [I, a]
  | .tup a, I => [I, a]
  | .str _, I => [I]
def Sr.off : Sr → Addr → Prop
  | .lst a, I => a ≠ I
  | .tup a, I => a ≠ I
  | .str _, _ => True
theorem Sr.fp_off {S : Sr} {I b : Addr} (h : S.off b) (hb : b ≠ I) : b ∉ S.fp I := by
  cases S <;> simp [Sr.fp, Sr.off] at h ⊢ <;> first | exact ⟨hb, Ne.symm h⟩ | exact hb
theorem Sr.it.mv {S : Sr} {h h' : Heap} {I : Addr} {i : Nat} (x : S.it h I i) (k : ∀ o, h.get? I = some o → h'.get? I = some o) : S.it h' I i := by
  cases S with
  | lst a => obtain ⟨o, e, r⟩ := x; exact ⟨o, k o e, r⟩
  | tup a => obtain ⟨o, e, r⟩ := x; exact ⟨o, k o e, r⟩
  | str z => obtain ⟨t, o, e, r⟩ := x; exact ⟨t, o, k o e, r⟩
theorem Sr.it.obj {S : Sr} {h : Heap} {I : Addr} {i : Nat} (x : S.it h I i) : ∃ o, h.get? I = some o ∧ ∀ v, o.data ≠ .cell v := by
  cases S with
  | lst a => obtain ⟨o, e, _, d⟩ := x; exact ⟨o, e, fun v z => by rw [d] at z; cases z⟩
  | tup a => obtain ⟨o, e, _, d⟩ := x; exact ⟨o, e, fun v z => by rw [d] at z; cases z⟩
  | str z => obtain ⟨t, o, e, _, d⟩ := x; exact ⟨o, e, fun v z => by rw [d] at z; cases z⟩
theorem Sr.has.mv {S : Sr} {h h' : Heap} {vs : Array Value} {I : Addr} (x : S.has h vs) (k : ∀ b o, b ≠ I → h.get? b = some o → h'.get? b = some o) (off : S.off I) : S.has h' vs := by
  cases S with
  | lst a => obtain ⟨o, e, r⟩ := x; exact ⟨o, k a o off e, r⟩
  | tup a => obtain ⟨o, e, r⟩ := x; exact ⟨o, k a o off e, r⟩
  | str z => exact x
theorem Sr.draws {prog : Program} {w : World} {A : Around} (S : Sr) (hh : A.handled = none) (I : Addr) (off : S.off I) (vs : Array Value) :
    Draws prog w A I (S.fp I) vs.size (S.is vs) (fun i h => S.it h I i ∧ S.has h vs) := by
  cases S with
  | lst a => exact Draws.list hh I a off vs
  | tup a => exact {
      live := fun _ _ st => let ⟨o, e, _⟩ := st.1; ⟨o, e⟩
      frame := fun _ _ _ st k => ⟨let ⟨o, e, r⟩ := st.1; ⟨o, k I (by simp [Sr.fp]) o e, r⟩, let ⟨o, e, r⟩ := st.2; ⟨o, k a (by simp [Sr.fp]) o e, r⟩⟩
      item := fun i s Q E hi st q => nextT_item st.1 st.2 (x := vs[i]) (by simp [hi]) fun h' a' b' => q _ h' s.toks (show vs[i]? = some vs[i] by simp [hi]) ⟨a', Heap.IsTuple.extBut st.2 b'.extBut off⟩ b'
      done := fun s Q E st q => nextT_end hh st.1 st.2 (by simp) q }
  | str x =>
    cases ha : x.cps.all (· < 128) with
    | true =>
      have e : strIterType x = "str_ascii_iterator" := by simp [strIterType, ha]
      exact {
        live := fun _ _ st => let ⟨_, o, e, _⟩ := st.1; ⟨o, e⟩
        frame := fun _ _ _ st k => ⟨let ⟨t, o, e, r⟩ := st.1; ⟨t, o, k I (by simp [Sr.fp]) o e, r⟩, st.2⟩
        item := fun i s Q E hi st q => by
          obtain ⟨⟨t, g⟩, z⟩ := st
          have hz : vs.size = x.cps.size := z
          rw [e] at g
          exact (Draws.strAscii (prog := prog) (w := w) hh I x t).item i s Q E (by omega) g fun v h' tk p st' sb => q v h' tk p ⟨⟨t, by rw [e]; exact st'⟩, z⟩ sb
        done := fun s Q E st q => by
          obtain ⟨⟨t, g⟩, z⟩ := st
          have hz : vs.size = x.cps.size := z
          rw [e, hz] at g
          exact (Draws.strAscii (prog := prog) (w := w) hh I x t).done s Q E g q }
    | false =>
      have e : strIterType x = "str_iterator" := by simp [strIterType, ha]
      exact {
        live := fun _ _ st => let ⟨_, o, e, _⟩ := st.1; ⟨o, e⟩
        frame := fun _ _ _ st k => ⟨let ⟨t, o, e, r⟩ := st.1; ⟨t, o, k I (by simp [Sr.fp]) o e, r⟩, st.2⟩
        item := fun i s Q E hi st q => by
          obtain ⟨⟨t, g⟩, z⟩ := st
          have hz : vs.size = x.cps.size := z
          rw [e] at g
          exact (Draws.strWide (prog := prog) (w := w) hh I x t).item i s Q E (by omega) g fun v h' tk p st' sb => q v h' tk p ⟨⟨t, by rw [e]; exact st'⟩, z⟩ sb
        done := fun s Q E st q => by
          obtain ⟨⟨t, g⟩, z⟩ := st
          have hz : vs.size = x.cps.size := z
          rw [e, hz] at g
          exact (Draws.strWide (prog := prog) (w := w) hh I x t).done s Q E g q }
end L2
namespace L2
open PySem PySem.Spec PyProof.Rows
structure ZA (S1 S2 : Sr) (z TI TO i1 i2 : Addr) : Prop where
  a : TI ≠ z
  b : TO ≠ z
  c : i1 ≠ z
  d : i2 ≠ z
  e : TI ≠ TO
  f : TI ≠ i1
  g : TI ≠ i2
  h : TO ≠ i1
  i : TO ≠ i2
  j : i1 ≠ i2
  k : ∀ x ∈ [z, TO, i1, i2], S1.off x ∧ S2.off x
structure ZS (S1 S2 : Sr) (v1 v2 : Array Value) (z TI TO i1 i2 : Addr) (n : Nat) (u : Value) (h : Heap) : Prop where
  z : IsZip h z TI TO u
  ti : IsPair h TI (.ref i1) (.ref i2)
  to : ∃ x y, IsPair h TO x y
  s1 : S1.it h i1 n
  s2 : S2.it h i2 n
  h1 : S1.has h v1
  h2 : S2.has h v2
section
variable {prog : Program} {w : World} {A : Around} {E : Value → Shared → Prop} {s : Shared} {S1 S2 : Sr} {v1 v2 : Array Value} {z TI TO i1 i2 : Addr} {n : Nat}
theorem zip_item (D : ZA S1 S2 z TI TO i1 i2) (hh : A.handled = none) (Z : ZS S1 S2 v1 v2 z TI TO i1 i2 n .none s.heap) (l1 : n < v1.size) (l2 : n < v2.size) {Q : Value → Shared → Prop}
    (q : ∀ x y h' tk, S1.is v1 n x → S2.is v2 n y → ZS S1 S2 v1 v2 z TI TO i1 i2 (n + 1) (rawInt s.heap.objs.size) h' → IsPair h' s.heap.objs.size x y → h'.objs.size = s.heap.objs.size + 1 →
      (∀ c o, c ≠ z → c ≠ TO → c ≠ i1 → c ≠ i2 → s.heap.get? c = some o → h'.get? c = some o) → Q (.ref s.heap.objs.size) { s with heap := h', toks := tk }) :
    wpAny (model prog w) A (Builtin.«zip.__next__» ⟨[.ref z], []⟩) (fun fin s' => ∃ v, fin = .done (.ret v) ∧ Q v s') E s := by
  obtain ⟨hp, g0, d0, tk0, os0⟩ := s
  obtain ⟨Zz, Zi, ⟨x0, y0, Zo⟩, Z1, Z2, Y1, Y2⟩ := Z
  have oz := D.k z (by simp); have oT := D.k TO (by simp); have o1 := D.k i1 (by simp); have o2 := D.k i2 (by simp)
  show wpAny _ _ (field (.ref z) 2 >>= _) _ _ _
  refine wpAny_bind (wpAny_field Zz rfl (x := .bool false) rfl ?_); show wpAny _ _ (field (.ref z) 3 >>= _) _ _ _
  refine wpAny_bind (wpAny_field Zz rfl (x := .ref TI) rfl ?_); refine wpAny_bind (wpAny_seqItems Zi rfl ?_)
  show wpAny _ _ (Builtin.SmallTypes.ownedTupleIsFree (.ref z) >>= _) _ _ _
  refine wpAny_bind ?_; unfold Builtin.SmallTypes.ownedTupleIsFree
  refine wpAny_bind (wpAny_field Zz rfl (x := .none) rfl (wpAny_pure ?_)); simp only [if_true]; refine wpAny_bind (wpAny_rule ?_)
  refine wpAny_bind (wpAny_field Zz rfl (x := .ref TO) rfl ?_)
  refine wpAny_bind (wpAny_setField_rec Zz (by simp) fun g1 Za b1 => ?_)
  replace Za : IsZip g1 z TI TO .ellipsis := Za
  replace b1 : Heap.SameBut z hp g1 := b1
  refine wpAny_bind ?_; simp only [List.zipIdx_cons, List.zipIdx_nil, List.forIn_cons, List.forIn_nil]
  -- the first one
  refine wpAny_bind (wpAny_bind (wpAny_onRaise ?_)); show wpAny _ _ (Builtin.SmallTypes.nextOf (.ref i1) >>= _) _ _ _
  refine wpAny_bind ((S1.draws hh i1 o1.1 v1).item n _ _ _ l1 ⟨Z1.mv fun o e => b1.extBut _ _ D.c e, Y1.mv (fun b o hb e => b1.extBut _ _ hb e) oz.1⟩ fun x g2 k2 px st2 b2 => wpAny_pure ?_)
  replace b2 : Heap.SameBut i1 g1 g2 := b2
  have To2 : IsPair g2 TO x0 y0 := b2.extBut _ _ D.h (b1.extBut _ _ D.b Zo)
  refine wpAny_bind (wpAny_seqItems To2 rfl ?_); refine wpAny_bind (wpAny_updateSeq_pair To2 fun g3 To3 b3 => ?_)
  replace To3 : IsPair g3 TO x y0 := To3
  replace b3 : Heap.SameBut TO g2 g3 := b3
  refine wpAny_bind (wpAny_letGo (wpAny_pure ?_))
  -- the second one
  refine wpAny_bind (wpAny_bind (wpAny_onRaise ?_)); show wpAny _ _ (Builtin.SmallTypes.nextOf (.ref i2) >>= _) _ _ _
  refine wpAny_bind ((S2.draws hh i2 o2.2 v2).item n _ _ _ l2 ⟨Z2.mv fun o e => b3.extBut _ _ D.i.symm (b2.extBut _ _ D.j.symm (b1.extBut _ _ D.d e)),
    ((Y2.mv (fun b o hb e => b1.extBut _ _ hb e) oz.2).mv (fun b o hb e => b2.extBut _ _ hb e) o1.2).mv (fun b o hb e => b3.extBut _ _ hb e) oT.2⟩ fun y g4 k4 py st4 b4 => wpAny_pure ?_)
  replace b4 : Heap.SameBut i2 g3 g4 := b4
  have To4 : IsPair g4 TO x y0 := b4.extBut _ _ D.i To3
  refine wpAny_bind (wpAny_seqItems To4 rfl ?_); refine wpAny_bind (wpAny_updateSeq_pair To4 fun g5 To5 b5 => ?_)
  replace To5 : IsPair g5 TO x y := To5
  replace b5 : Heap.SameBut TO g4 g5 := b5
  refine wpAny_bind (wpAny_letGo (wpAny_pure (wpAny_pure ?_)))
  refine wpAny_bind (wpAny_seqItems To5 rfl ?_); refine wpAny_bind (wpAny_newTuple ?_)
  have sz : g5.objs.size = hp.objs.size := by rw [b5.1, b4.1, b3.1, b2.1, b1.1]
  have Z5 : IsZip g5 z TI TO .ellipsis := b5.extBut _ _ D.b.symm (b4.extBut _ _ D.d.symm (b3.extBut _ _ D.b.symm (b2.extBut _ _ D.c.symm Za)))
  have up5 : ∀ c o, c ≠ z → c ≠ TO → c ≠ i1 → c ≠ i2 → hp.get? c = some o → g5.get? c = some o := fun c o n1 n2 n3 n4 e => b5.extBut _ _ n2 (b4.extBut _ _ n4 (b3.extBut _ _ n2 (b2.extBut _ _ n3 (b1.extBut _ _ n1 e))))
  have I1 : S1.it g5 i1 (n + 1) := st2.1.mv fun o e => b5.extBut _ _ D.h.symm (b4.extBut _ _ D.j (b3.extBut _ _ D.h.symm e))
  have I2 : S2.it g5 i2 (n + 1) := st4.1.mv fun o e => b5.extBut _ _ D.i.symm e
  have H1 : S1.has g5 v1 := ((st2.2.mv (fun b o hb e => b3.extBut _ _ hb e) oT.1).mv (fun b o hb e => b4.extBut _ _ hb e) o2.1).mv (fun b o hb e => b5.extBut _ _ hb e) oT.1
  have H2 : S2.has g5 v2 := st4.2.mv (fun b o hb e => b5.extBut _ _ hb e) oT.2
  have zlt : z < g5.objs.size := Heap.lt_size Z5
  show wpAny _ _ (Builtin.SmallTypes.ownedTupleHandOut (.ref z) (.ref g5.objs.size) >>= _) _ _ _
  refine wpAny_bind ?_; unfold Builtin.SmallTypes.ownedTupleHandOut
  have Z6 : IsZip (g5.push { cls := .type "tuple", data := .seq #[x, y] }) z TI TO .ellipsis := Heap.get?_push_of_some _ Z5
  refine wpAny_bind (wpAny_setField_rec Z6 (by simp) fun g7 Z7 b7 => ?_)
  replace Z7 : IsZip g7 z TI TO (rawInt g5.objs.size) := Z7
  refine wpAny_setField_rec Z7 (by simp) fun g8 Z8 b8 => ?_
  replace Z8 : IsZip g8 z TI TO (rawInt g5.objs.size) := Z8
  have up : ∀ c o, c ≠ z → g5.get? c = some o → g8.get? c = some o := fun c o n1 e => b8.extBut _ _ n1 (b7.extBut _ _ n1 (Heap.get?_push_of_some _ e))
  have T8 : IsPair g8 g5.objs.size x y := b8.extBut _ _ (Nat.ne_of_gt zlt) (b7.extBut _ _ (Nat.ne_of_gt zlt) (Heap.get?_push_size _ rfl))
  have sz8 : g8.objs.size = g5.objs.size + 1 := by rw [b8.1, b7.1, Heap.size_push]
  rw [sz] at Z8 T8 sz8
  refine wpAny_pure ⟨_, rfl, ?_⟩
  show Q (.ref g5.objs.size) _
  rw [sz]
  exact q x y g8 k4 px py ⟨Z8, up _ _ D.a (up5 _ _ D.a D.e D.f D.g Zi), ⟨_, _, up _ _ D.b To5⟩, I1.mv fun o e => up _ o D.c e, I2.mv fun o e => up _ o D.d e,
    H1.mv (fun b o hb e => up b o hb e) oz.1, H2.mv (fun b o hb e => up b o hb e) oz.2⟩ T8 sz8 fun c o n1 n2 n3 n4 e => up c o n1 (up5 c o n1 n2 n3 n4 e)
theorem zip_end (D : ZA S1 S2 z TI TO i1 i2) (hh : A.handled = none) (Z : ZS S1 S2 v1 v2 z TI TO i1 i2 n .none s.heap) (l : n = v1.size ∨ (n < v1.size ∧ n = v2.size)) {Q : Fin → Shared → Prop}
    (q : ∀ h' x tk, (∀ c o, c ≠ z → c ≠ TO → c ≠ i1 → c ≠ i2 → s.heap.get? c = some o → h'.get? c = some o) → (∃ o, h'.get? x = some o ∧ o.cls = .type "StopIteration") → E (.ref x) { s with heap := h', toks := tk }) :
    wpAny (model prog w) A (Builtin.«zip.__next__» ⟨[.ref z], []⟩) Q E s := by
  obtain ⟨hp, g0, d0, tk0, os0⟩ := s
  obtain ⟨Zz, Zi, ⟨x0, y0, Zo⟩, Z1, Z2, Y1, Y2⟩ := Z
  have oz := D.k z (by simp); have oT := D.k TO (by simp); have o1 := D.k i1 (by simp); have o2 := D.k i2 (by simp)
  show wpAny _ _ (field (.ref z) 2 >>= _) _ _ _
  refine wpAny_bind (wpAny_field Zz rfl (x := .bool false) rfl ?_); show wpAny _ _ (field (.ref z) 3 >>= _) _ _ _
  refine wpAny_bind (wpAny_field Zz rfl (x := .ref TI) rfl ?_); refine wpAny_bind (wpAny_seqItems Zi rfl ?_)
  show wpAny _ _ (Builtin.SmallTypes.ownedTupleIsFree (.ref z) >>= _) _ _ _
  refine wpAny_bind ?_; unfold Builtin.SmallTypes.ownedTupleIsFree
  refine wpAny_bind (wpAny_field Zz rfl (x := .none) rfl (wpAny_pure ?_)); simp only [if_true]; refine wpAny_bind (wpAny_rule ?_)
  refine wpAny_bind (wpAny_field Zz rfl (x := .ref TO) rfl ?_)
  refine wpAny_bind (wpAny_setField_rec Zz (by simp) fun g1 Za b1 => ?_)
  replace Za : IsZip g1 z TI TO .ellipsis := Za
  replace b1 : Heap.SameBut z hp g1 := b1
  refine wpAny_bind ?_; simp only [List.zipIdx_cons, List.zipIdx_nil, List.forIn_cons, List.forIn_nil]
  have W1 : S1.it g1 i1 n ∧ S1.has g1 v1 := ⟨Z1.mv fun o e => b1.extBut _ _ D.c e, Y1.mv (fun b o hb e => b1.extBut _ _ hb e) oz.1⟩
  refine wpAny_bind (wpAny_bind (wpAny_onRaise ?_)); show wpAny _ _ (Builtin.SmallTypes.nextOf (.ref i1) >>= _) _ _ _
  rcases l with l | ⟨l1, l2⟩
  · refine wpAny_bind ((S1.draws hh i1 o1.1 v1).done _ _ _ (l ▸ W1) fun g2 x b2 ⟨ox, ex, cx⟩ => ?_)
    have Zb : IsZip g2 z TI TO .ellipsis := b2 _ _ D.c.symm Za
    have xz : x ≠ z := fun e => by subst e; rw [Zb] at ex; cases ex; simp at cx
    refine wpAny_setField_rec Zb (by simp) fun g3 _ b3 => q g3 x tk0 (fun c o n1 _ n3 _ e => b3.extBut _ _ n1 (b2 _ _ n3 (b1.extBut _ _ n1 e))) ⟨ox, b3.extBut _ _ xz ex, cx⟩
  · refine wpAny_bind ((S1.draws hh i1 o1.1 v1).item n _ _ _ l1 W1 fun x g2 k2 px st2 b2 => wpAny_pure ?_)
    replace b2 : Heap.SameBut i1 g1 g2 := b2
    have To2 : IsPair g2 TO x0 y0 := b2.extBut _ _ D.h (b1.extBut _ _ D.b Zo)
    refine wpAny_bind (wpAny_seqItems To2 rfl ?_); refine wpAny_bind (wpAny_updateSeq_pair To2 fun g3 To3 b3 => ?_)
    replace b3 : Heap.SameBut TO g2 g3 := b3
    refine wpAny_bind (wpAny_letGo (wpAny_pure ?_)); refine wpAny_bind (wpAny_bind (wpAny_onRaise ?_)); show wpAny _ _ (Builtin.SmallTypes.nextOf (.ref i2) >>= _) _ _ _
    refine wpAny_bind ((S2.draws hh i2 o2.2 v2).done _ _ _ (l2 ▸ ⟨Z2.mv fun o e => b3.extBut _ _ D.i.symm (b2.extBut _ _ D.j.symm (b1.extBut _ _ D.d e)),
      ((Y2.mv (fun b o hb e => b1.extBut _ _ hb e) oz.2).mv (fun b o hb e => b2.extBut _ _ hb e) o1.2).mv (fun b o hb e => b3.extBut _ _ hb e) oT.2⟩) fun g4 x' b4 ⟨ox, ex, cx⟩ => ?_)
    have Zb : IsZip g4 z TI TO .ellipsis := b4 _ _ D.d.symm (b3.extBut _ _ D.b.symm (b2.extBut _ _ D.c.symm Za))
    have xz : x' ≠ z := fun e => by subst e; rw [Zb] at ex; cases ex; simp at cx
    refine wpAny_setField_rec Zb (by simp) fun g5 _ b5 => q g5 x' k2 (fun c o n1 n2 n3 n4 e => b5.extBut _ _ n1 (b4 _ _ n4 (b3.extBut _ _ n2 (b2.extBut _ _ n3 (b1.extBut _ _ n1 e))))) ⟨ox, b5.extBut _ _ xz ex, cx⟩
end
def Begins (h : Heap) (v : Value) (o : Obj) : Prop := ∀ (prog : Program) (w : World) (A : Around) (E : Value → Shared → Prop) (s : Shared) (Q : Value → Shared → Prop), (∀ b u, h.get? b = some u → s.heap.get? b = some u) →
  Q (.ref s.heap.objs.size) { s with heap := s.heap.push o } → wpAny (model prog w) A (pyIter v) Q E s
def Sr.val : Sr → Value → Prop
  | .lst a, v => v = .ref a
  | .tup a, v => v = .ref a
  | .str x, v => ∃ t, v = .str x t
theorem Sr.begins {S : Sr} {h : Heap} {v : Value} {vs : Array Value} (e : S.val v) (x : S.has h vs) : ∃ o : Obj, Begins h v o ∧ o.isFreed = false ∧ ∀ (h' : Heap) (I : Addr), h'.get? I = some o → S.it h' I 0 := by
  cases S with
  | lst a =>
    cases (show v = .ref a from e)
    exact ⟨_, fun _ _ _ _ s Q k q => wpAny_pyIter_list (let ⟨o, e, r⟩ := x; ⟨o, k a o e, r⟩) q, rfl, fun h' I e => ⟨_, e, rfl, rfl⟩⟩
  | tup a =>
    cases (show v = .ref a from e)
    exact ⟨_, fun _ _ _ _ s Q k q => wpAny_pyIter_tuple (let ⟨o, e, r⟩ := x; ⟨o, k a o e, r⟩) q, rfl, fun h' I e => ⟨_, e, rfl, rfl⟩⟩
  | str z =>
    obtain ⟨t, rfl⟩ := (show ∃ t, v = .str z t from e)
    exact ⟨_, fun _ _ _ _ s Q k q => wpAny_pyIter_strU q, rfl, fun h' I e => ⟨t, _, e, rfl, rfl⟩⟩
abbrev zh2 (h : Heap) (o1 o2 : Obj) : Heap := (h.push o1).push o2
abbrev zh3 (h : Heap) (o1 o2 : Obj) : Heap := (zh2 h o1 o2).push { cls := .type "tuple", data := .seq #[.ref h.objs.size, .ref (h.push o1).objs.size] }
abbrev zh4 (h : Heap) (o1 o2 : Obj) : Heap := (zh3 h o1 o2).push { cls := .type "tuple", data := .seq #[.none, .none] }
abbrev zh5 (h : Heap) (o1 o2 : Obj) : Heap := (zh4 h o1 o2).push { cls := .type "zip", data := .fields #[.none, .bool false, .bool false, .ref (zh2 h o1 o2).objs.size, .ref (zh3 h o1 o2).objs.size] }
theorem zip_new (a b : Value) (o1 o2 : Obj) : Meets (Builtin.«zip.__new__» ⟨[.type "zip", a, b], []⟩) (fun _ R s => Begins s.heap a o1 ∧ Begins s.heap b o2 ∧
      R (.ok (.ret (.ref (zh4 s.heap o1 o2).objs.size))) { s with heap := zh5 s.heap o1 o2 }) :=
  .of_wp fun prog w A R s h => by
    obtain ⟨hp, g, d, tk, os⟩ := s; obtain ⟨h1, h2, h⟩ := h
    have hsub := sub_zip
    have k1 : ∀ {A' : Around} {E' : Value → Shared → Prop} {Q : Value → Shared → Prop}, Q (.ref (Shared.heap ⟨hp, g, d, tk, os⟩).objs.size) ⟨hp.push o1, g, d, tk, os⟩ → wpAny (model prog w) A' (pyIter a) Q E' ⟨hp, g, d, tk, os⟩ := fun q => h1 _ _ _ _ _ _ (fun _ _ e => e) q
    have k2 : ∀ {A' : Around} {E' : Value → Shared → Prop} {Q : Value → Shared → Prop}, Q (.ref (Shared.heap ⟨hp.push o1, g, d, tk, os⟩).objs.size) ⟨(hp.push o1).push o2, g, d, tk, os⟩ → wpAny (model prog w) A' (pyIter b) Q E' ⟨hp.push o1, g, d, tk, os⟩ := fun q => h2 _ _ _ _ _ _ (fun _ _ e => Heap.get?_push_of_some _ e) q
    wp_walk using k1, k2
    exact ⟨_, rfl, h⟩
theorem call_zip {prog : Program} {w : World} {A : Around} {E : Value → Shared → Prop} {s : Shared} {S1 S2 : Sr} {v1 v2 : Array Value} {a b : Value} {Q : Value → Shared → Prop} (e1 : S1.val a) (e2 : S2.val b) (x1 : S1.has s.heap v1) (x2 : S2.has s.heap v2)
    (q : ∀ h', ZS S1 S2 v1 v2 (s.heap.objs.size + 4) (s.heap.objs.size + 2) (s.heap.objs.size + 3) s.heap.objs.size (s.heap.objs.size + 1) 0 .none h' → ZA S1 S2 (s.heap.objs.size + 4) (s.heap.objs.size + 2) (s.heap.objs.size + 3) s.heap.objs.size (s.heap.objs.size + 1) →
      (∀ c o, s.heap.get? c = some o → h'.get? c = some o) → Q (.ref (s.heap.objs.size + 4)) { s with heap := h' }) : wpAny (model prog w) A (call (.type "zip") [a, b]) Q E s := by
  obtain ⟨o1, B1, f1, I1⟩ := Sr.begins e1 x1
  obtain ⟨o2, B2, f2, I2⟩ := Sr.begins e2 x2
  refine callType_new F.called_zip (by decide) (F.typeCall_zip_2 _ _) (F.newCall_zip_2 _ _) (fun obj => F.args_object_init_3 obj _ _) F.entry_zip_new (zip_new a b o1 o2) ⟨B1, B2, ?_⟩
  have y1 : (s.heap.push o1).objs.size = s.heap.objs.size + 1 := Heap.size_push ..
  have y2 : (zh2 s.heap o1 o2).objs.size = s.heap.objs.size + 2 := by rw [Heap.size_push, y1]
  have y3 : (zh3 s.heap o1 o2).objs.size = s.heap.objs.size + 3 := by rw [Heap.size_push, y2]
  have y4 : (zh4 s.heap o1 o2).objs.size = s.heap.objs.size + 4 := by rw [Heap.size_push, y3]
  have g5 : (zh5 s.heap o1 o2).get? (zh4 s.heap o1 o2).objs.size = some _ := Heap.get?_push_size _ rfl
  have g4 : (zh5 s.heap o1 o2).get? (zh3 s.heap o1 o2).objs.size = some _ := Heap.get?_push_of_some _ (Heap.get?_push_size _ rfl)
  have g3 : (zh5 s.heap o1 o2).get? (zh2 s.heap o1 o2).objs.size = some _ := Heap.get?_push_of_some _ (Heap.get?_push_of_some _ (Heap.get?_push_size _ rfl))
  have g2 : (zh5 s.heap o1 o2).get? (s.heap.push o1).objs.size = some o2 := Heap.get?_push_of_some _ (Heap.get?_push_of_some _ (Heap.get?_push_of_some _ (Heap.get?_push_size _ f2)))
  have g1 : (zh5 s.heap o1 o2).get? s.heap.objs.size = some o1 := Heap.get?_push_of_some _ (Heap.get?_push_of_some _ (Heap.get?_push_of_some _ (Heap.get?_push_of_some _ (Heap.get?_push_size _ f1))))
  have up : ∀ c o, s.heap.get? c = some o → (zh5 s.heap o1 o2).get? c = some o := fun c o x => Heap.get?_push_of_some _ (Heap.get?_push_of_some _ (Heap.get?_push_of_some _ (Heap.get?_push_of_some _ (Heap.get?_push_of_some _ x))))
  have off : ∀ {S : Sr} {vs : Array Value} (k : Nat), S.has s.heap vs → S.off (s.heap.objs.size + k) := fun {S vs} k x => by
    cases S with
    | lst a => obtain ⟨o, e, _⟩ := x; exact Nat.ne_of_lt (Nat.lt_of_lt_of_le (Heap.lt_size e) (Nat.le_add_right _ k))
    | tup a => obtain ⟨o, e, _⟩ := x; exact Nat.ne_of_lt (Nat.lt_of_lt_of_le (Heap.lt_size e) (Nat.le_add_right _ k))
    | str z => exact trivial
  have keep : ∀ {S : Sr} {vs : Array Value}, S.has s.heap vs → S.has (zh5 s.heap o1 o2) vs := fun {S vs} x => by
    cases S with
    | lst a => obtain ⟨o, e, r⟩ := x; exact ⟨o, up _ _ e, r⟩
    | tup a => obtain ⟨o, e, r⟩ := x; exact ⟨o, up _ _ e, r⟩
    | str z => exact x
  show _ ∧ _
  rw [y2, y3, y4] at g5
  rw [y1, y2] at g3
  rw [y3] at g4
  rw [y1] at g2
  rw [y4]
  refine ⟨⟨_, g5, rfl⟩, q _ ⟨g5, g3, ⟨_, _, g4⟩, I1 _ _ g1, I2 _ _ g2, keep x1, keep x2⟩ ?_ up⟩
  have ne : ∀ i j : Nat, i ≠ j → s.heap.objs.size + i ≠ s.heap.objs.size + j := fun i j hn h => hn (Nat.add_left_cancel h)
  refine ⟨ne 2 4 (by decide), ne 3 4 (by decide), ne 0 4 (by decide), ne 1 4 (by decide), ne 2 3 (by decide), ne 2 0 (by decide), ne 2 1 (by decide), ne 3 0 (by decide), ne 3 1 (by decide), ne 0 1 (by decide), fun x hx => ?_⟩
  simp only [List.mem_cons, List.not_mem_nil, or_false] at hx
  rcases hx with rfl | rfl | rfl | rfl
  · exact ⟨off 4 x1, off 4 x2⟩
  · exact ⟨off 3 x1, off 3 x2⟩
  · exact ⟨off 0 x1, off 0 x2⟩
  · exact ⟨off 1 x1, off 1 x2⟩
end L2
namespace L2
open PySem PySem.Spec PyProof.Rows
abbrev tIt (l : Addr) : Obj := { cls := .type "tuple_iterator", data := .fields #[.ref l, .int 0 0] }
abbrev enO (i : Addr) : Obj := { cls := .type "enumerate", data := .fields #[.none, .bool false, .ref i, rawInt 0, .none, .none] }
theorem enum_newT (l : Addr) (vs : Array Value) (n : Nat) (dct : Option Addr) (sl : Array (Option Value)) :
    Meets (Builtin.«enumerate.__new__» ⟨[.type "enumerate", .ref l], []⟩) (fun _ R s => s.heap.get? l = some { cls := .type "tuple", dict := dct, data := .seq vs n, slots := sl } ∧
      R (.ok (.ret (.ref (s.heap.push (tIt l)).objs.size))) { s with heap := (s.heap.push (tIt l)).push (enO s.heap.objs.size) }) :=
  .of_wp fun prog w A R s h => by
    obtain ⟨hp, g, d, tk, os⟩ := s; obtain ⟨hl, h⟩ := h; have hsub := sub_enumerate
    have hL : Heap.IsTuple (Shared.heap ⟨hp, g, d, tk, os⟩) l vs := ⟨_, hl, rfl, n, rfl⟩
    wp_walk using AutoSeq1.wpAny_loadPart' hl
    refine wpAny_stack_any fun st => wpAny_pure ?_; split
    · rename_i c _ _ _ _ _; cases (c == Value.type "enumerate")
      · wp_walk using AutoSeq1.wpAny_loadPart' hl, wpAny_pyIter_tuple hL; exact ⟨_, rfl, h⟩
      · wp_walk using AutoSeq1.wpAny_loadPart' hl, wpAny_pyIter_tuple hL; exact ⟨_, rfl, h⟩
    · wp_walk using AutoSeq1.wpAny_loadPart' hl, wpAny_pyIter_tuple hL; exact ⟨_, rfl, h⟩
theorem call_enumT {prog : Program} {w : World} {A : Around} {E : Value → Shared → Prop} {s : Shared} {l : Addr} {vs : Array Value} {Q : Value → Shared → Prop} (hL : s.heap.IsTuple l vs)
    (h : ∀ h', IsEnum h' (s.heap.objs.size + 1) s.heap.objs.size 0 .none → h'.IsTupleIter s.heap.objs.size l 0 → (∀ b o, s.heap.get? b = some o → h'.get? b = some o) → Q (.ref (s.heap.objs.size + 1)) { s with heap := h' }) :
    wpAny (model prog w) A (call (.type "enumerate") [.ref l]) Q E s := by
  obtain ⟨⟨c, dct, dt, sl⟩, hl, hc, n, hd⟩ := hL
  replace hc : c = .type "tuple" := hc; replace hd : dt = .seq vs n := hd; subst hc hd
  refine callType_new F.called_enumerate (by decide) (F.typeCall_enumerate_1 _) (F.newCall_enumerate_1 _) (fun obj => F.args_object_init_2 obj _) F.entry_enumerate_new (enum_newT l vs n dct sl) ⟨hl, ?_⟩
  have hz : (s.heap.push (tIt l)).objs.size = s.heap.objs.size + 1 := Heap.size_push ..
  show _ ∧ _
  rw [hz]
  have he : IsEnum ((s.heap.push (tIt l)).push (enO s.heap.objs.size)) (s.heap.objs.size + 1) s.heap.objs.size 0 .none := by
    have := Heap.get?_push_size (s.heap.push (tIt l)) (o := enO s.heap.objs.size) rfl
    rw [hz] at this; exact this
  exact ⟨⟨_, he, rfl⟩, h _ he ⟨_, Heap.get?_push_of_some _ (Heap.get?_push_size _ rfl), rfl, rfl⟩ fun b o x => Heap.get?_push_of_some _ (Heap.get?_push_of_some _ x)⟩
theorem call_enum {prog : Program} {w : World} {A : Around} {E : Value → Shared → Prop} {s : Shared} {S : Sr} {vs : Array Value} {v : Value} {Q : Value → Shared → Prop} (e : S.val v) (x : S.has s.heap vs)
    (h : ∀ h', IsEnum h' (s.heap.objs.size + 1) s.heap.objs.size 0 .none → S.it h' s.heap.objs.size 0 → (∀ b o, s.heap.get? b = some o → h'.get? b = some o) → Q (.ref (s.heap.objs.size + 1)) { s with heap := h' }) :
    wpAny (model prog w) A (call (.type "enumerate") [v]) Q E s := by
  cases S with
  | lst a => cases (show v = .ref a from e); exact call_enumerate_list x fun h' a b _ c => h h' a b c
  | tup a => cases (show v = .ref a from e); exact call_enumT x h
  | str z => obtain ⟨t, rfl⟩ := (show ∃ t, v = .str z t from e); exact call_enumerate_str fun h' a b _ c => h h' a ⟨t, b⟩ c
end L2
namespace L2
open PySem PySem.Spec PyProof.Rows
section
variable {X : Cx} {pins : List (Addr × Obj)} {σ : St} {H : Hp} {s : Shared} {h' : Heap}
theorem Inv.turneds {t' : Nat} {ch : List Addr} (I : Inv X pins σ H s) (k : ∀ b o, b ∉ ch → s.heap.get? b = some o → h'.get? b = some o) (hf : ∀ b ∈ ch, FpOk X pins H b) : Inv X pins σ H { s with heap := h', toks := t' } := by
  have nit : ∀ b u, H b = some u → b ∉ ch := fun b u e z => by rw [(hf b z).1] at e; cases e
  refine I.step (g' := s.gens) (d' := s.drawn) (ch := ch) (fun b hb => ?_) (fun b o _ _ hc e _ => k b o hc e) (fun b o _ _ hc e _ => ⟨o.slots, k b o hc e⟩) (fun _ _ _ _ n => n) (fun b o hc e => ⟨o, k b o hc e⟩) (fun _ _ e => e) (fun _ _ _ e => e)
    (fun b ps e => ⟨#[], by rw [e]; simp⟩) (fun m hm => ?_) (fun b u e => ?_) I.bare
  · obtain ⟨f0, f1, f2, f3, f4, f5⟩ := hf b hb
    exact ⟨f3, f1, f4, f5⟩
  · obtain ⟨o, es, ep, ho, r⟩ := hm
    exact ⟨o, es, ep, k _ o (fun z => (hf _ z).2.1 rfl) ho, r⟩
  · refine (I.hok b u e).stay (fun c v hc q => k c v ?_ q) (fun _ q => q) fun _ _ q => q
    rcases hc with z | z
    · rw [z]; exact nit b u e
    · exact nit c _ z
theorem Inv.track {a : Addr} {o : HO} (I : Inv X pins σ H s) (hs : X.s₀.heap.objs.size ≤ a) (f : FpOk X pins H a) (new : ObjOk X.prog X.w (upd H a o) s.heap a o) : Inv X pins σ (upd H a o) s :=
  ⟨I.ok, I.os, I.bare, I.base.track hs f.1, I.loc, I.cell, by rw [upd_ne (Ne.symm f.2.1)]; exact I.free, fun x c e => by rw [upd_ne (f.2.2.2.2.1 x c e)]; exact I.freeC x c e, fun p hp => by
    obtain ⟨e, n, r⟩ := I.pin p hp
    exact ⟨e, by rw [upd_ne (f.2.2.2.2.2 p hp)]; exact n, r⟩, I.hok.track f.1 new, I.len⟩
end
def signs (x : Str) : List V := x.cps.toList.map fun c => V.str ⟨#[c]⟩
def Sr.vals (K : PySem.W.Frag) (H : Hp) : Sr → List V → Prop
  | .lst a, xs => SqL K H a xs
  | .tup a, xs => SqT K H a xs
  | .str x, xs => xs = signs x
def Sr.ofV : Sr → V → Prop
  | .lst a, v => v = .ref a
  | .tup a, v => v = .ref a
  | .str x, v => v = .str x
section
variable {X : Cx} {pins : List (Addr × Obj)} {σ : St} {H : Hp} {s : Shared} {S : Sr} {xs ys : List V}
theorem Sr.vals.get (I : Inv X pins σ H s) (h : S.vals X.K H xs) : ∃ vs, S.has s.heap vs ∧ vs.size = xs.length ∧ ∀ i x v, xs[i]? = some x → S.is vs i v → RelV x v := by
  cases S with
  | lst a =>
    obtain ⟨its, rv, p, hz⟩ := I.list h
    refine ⟨its.toArray, p.isList, by have := rv.length; simp; omega, fun i x v e1 e2 => ?_⟩
    obtain ⟨u, hu, ru⟩ := rv.get e1
    have e2 : its.toArray[i]? = some v := e2
    rw [List.getElem?_toArray, hu] at e2
    cases e2
    exact ru
  | tup a =>
    obtain ⟨its, rv, p, hz⟩ := I.tuple h
    refine ⟨its.toArray, (show s.heap.IsTuple a its.toArray from p), by have := rv.length; simp; omega, fun i x v e1 e2 => ?_⟩
    obtain ⟨u, hu, ru⟩ := rv.get e1
    have e2 : its.toArray[i]? = some v := e2
    rw [List.getElem?_toArray, hu] at e2
    cases e2
    exact ru
  | str z =>
    cases (show xs = signs z from h)
    refine ⟨Array.replicate z.cps.size .none, by show (Array.replicate _ _).size = _; simp, by simp [signs], fun i x v e1 e2 => ?_⟩
    obtain ⟨c, u, ec, rfl⟩ := (show ∃ c u, z.cps[i]? = some c ∧ v = .str ⟨#[c]⟩ u from e2)
    have : (signs z)[i]? = some (V.str ⟨#[c]⟩) := by simp [signs, ec]
    rw [this] at e1
    cases e1
    exact ⟨u, rfl⟩
theorem Sr.vals.inj (I : Inv X pins σ H s) (h : S.vals X.K H xs) (h' : S.vals X.K H ys) : xs = ys := by
  cases S with
  | lst a => exact I.list_inj h h'
  | tup a => exact I.tuple_inj h h'
  | str z => exact (show xs = signs z from h).trans (show ys = signs z from h').symm
theorem Sr.ofV.val {x : V} {u : Value} (e : S.ofV x) (r : RelV x u) : S.val u := by
  cases S with
  | lst a => cases (show x = .ref a from e); exact r
  | tup a => cases (show x = .ref a from e); exact r
  | str z => cases (show x = .str z from e); exact r
end
theorem Sr.vals.same {K : PySem.W.Frag} {H H' : Hp} {S : Sr} {xs : List V} (h : S.vals K H xs) (hl : ∀ a, SqL K H a xs → SqL K H' a xs) (ht : ∀ a, SqT K H a xs → SqT K H' a xs) : S.vals K H' xs := by
  cases S with
  | lst a => exact hl a h
  | tup a => exact ht a h
  | str z => exact h
def Itz (K : PySem.W.Frag) (S1 S2 : Sr) : It :=
  ⟨fun i H => ∃ xs ys x y, S1.vals K H xs ∧ S2.vals K H ys ∧ xs[i]? = some x ∧ ys[i]? = some y,
   fun i H v H' => ∃ p x y, v = .ref p ∧ H p = none ∧ H' = upd H p (.tup [x, y]) ∧ (∀ xs, S1.vals K H xs → xs[i]? = some x) ∧ ∀ ys, S2.vals K H ys → ys[i]? = some y,
   fun i H => ∃ xs ys, S1.vals K H xs ∧ S2.vals K H ys ∧ (i = xs.length ∨ (i < xs.length ∧ i = ys.length))⟩
theorem turn_zip {P : Program} {w : World} {K : PySem.W.Frag} {es : List Expr} {kk : Nat} {tp : Pos} {S1 S2 : Sr} {z TI TO i1 i2 : Addr} (D : ZA S1 S2 z TI TO i1 i2) :
    Turn P w K (.Tuple es kk tp) (Itz K S1 S2) [z, TI, TO, i1, i2] z (fun i h => IsZip h z TI TO .none ∧ IsPair h TI (.ref i1) (.ref i2) ∧ (∃ a b, IsPair h TO a b) ∧ S1.it h i1 i ∧ S2.it h i2 i) where
  mem := by simp
  obj := fun i h st b hb => by
    obtain ⟨hz, hi, ⟨a, a', ho⟩, h1, h2⟩ := st
    simp only [List.mem_cons, List.not_mem_nil, or_false] at hb
    rcases hb with rfl | rfl | rfl | rfl | rfl
    · exact ⟨_, hz, fun v z => by simp at z⟩
    · exact ⟨_, hi, fun v z => by simp at z⟩
    · exact ⟨_, ho, fun v z => by simp at z⟩
    · exact h1.obj
    · exact h2.obj
  keep := fun i h h' st k => by
    obtain ⟨hz, hi, ⟨a, a', ho⟩, h1, h2⟩ := st
    exact ⟨k z (by simp) _ hz, k TI (by simp) _ hi, ⟨a, a', k TO (by simp) _ ho⟩, h1.mv fun o e => k i1 (by simp) o e, h2.mv fun o e => k i2 (by simp) o e⟩
  item := by
    intro X hP hw hK hc i pins s σ H E I hf st hg
    subst hP hw hK
    obtain ⟨xs, ys, x, y, hx, hy, ex, ey⟩ := hg
    obtain ⟨v1, a1, z1, r1⟩ := Sr.vals.get I hx
    obtain ⟨v2, a2, z2, r2⟩ := Sr.vals.get I hy
    obtain ⟨hz, hi, ho, h1, h2⟩ := st
    have l1 := (List.getElem?_eq_some_iff.mp ex).1
    have l2 := (List.getElem?_eq_some_iff.mp ey).1
    have hT : s.TypeIs (.ref z) "zip" := ⟨_, hz, rfl⟩
    have lt : ∀ b ∈ [z, TI, TO, i1, i2], b ≠ s.heap.objs.size := fun b hb => by
      obtain ⟨a, a', ho⟩ := ho
      simp only [List.mem_cons, List.not_mem_nil, or_false] at hb
      rcases hb with rfl | rfl | rfl | rfl | rfl
      · exact Nat.ne_of_lt (Heap.lt_size hz)
      · exact Nat.ne_of_lt (Heap.lt_size hi)
      · exact Nat.ne_of_lt (Heap.lt_size ho)
      · obtain ⟨_, e, _⟩ := h1.obj; exact Nat.ne_of_lt (Heap.lt_size e)
      · obtain ⟨_, e, _⟩ := h2.obj; exact Nat.ne_of_lt (Heap.lt_size e)
    unfold pyNext
    refine wpAny_bind (wpAny_attempt (wpAny_callSpecial?_slot (name := Str.ofString "__next__") hT F.slot_zip_next (wpAny_call_entry F.slot_zip_next hT F.entry_zip_next
      (zip_item (A := X.A.in1) D (show X.A.in1.handled = none from I.ok.hd hc) ⟨hz, hi, ho, h1, h2, a1, a2⟩ (by omega) (by omega) fun xv yv h' tk px py Z hp hs up => wpAny_pure ?_) (F.args_zip_next_1 _))))
    refine ⟨_, rfl, wpAny_letOwnedTupleGo_zip Z.z fun h'' hz'' sb => ?_⟩
    have sb : Heap.SameBut z h' h'' := sb
    have kk : ∀ b o, b ∉ [z, TI, TO, i1, i2] → s.heap.get? b = some o → h''.get? b = some o := fun b o hb e => by
      simp only [List.mem_cons, List.not_mem_nil, or_false, not_or] at hb
      exact sb.extBut _ _ hb.1 (up b o hb.1 hb.2.2.1 hb.2.2.2.1 hb.2.2.2.2 e)
    have I1 : Inv X pins σ H { s with heap := h'', toks := tk } := I.turneds (t' := tk) kk hf
    have fT : FpOk X pins H s.heap.objs.size := I.fpOk (Nat.le_refl _) (I.hok.fresh (Nat.le_refl _))
    have zT : s.heap.objs.size ≠ z := Ne.symm (lt z (by simp))
    have oT : IsPair h'' s.heap.objs.size xv yv := sb.extBut _ _ zT hp
    have I2 : Inv X pins σ (upd H s.heap.objs.size (.tup [x, y])) { s with heap := h'', toks := tk } := I1.track (Nat.le_trans I.sz (Nat.le_refl _)) fT
      ⟨by show 2 ≤ sizeLine; decide, [xv, yv], .cons (r1 i x xv ex px) (.cons (r2 i y yv ey py) .nil), ⟨_, oT, rfl, _, rfl⟩⟩
    refine ⟨.ref s.heap.objs.size, _, I2, rfl, ⟨_, x, y, rfl, fT.1, rfl, fun xs' h => by rw [Sr.vals.inj I h hx]; exact ex, fun ys' h => by rw [Sr.vals.inj I h hy]; exact ey⟩, ⟨hz'', sb.extBut _ _ D.a Z.ti, ?_, Z.s1.mv fun o e => sb.extBut _ _ D.c e, Z.s2.mv fun o e => sb.extBut _ _ D.d e⟩, fun b hb => ?_⟩
    · obtain ⟨a, a', ho⟩ := Z.to
      exact ⟨a, a', sb.extBut _ _ D.b ho⟩
    · rw [upd_ne (lt b hb)]
      exact (hf b hb).1
  done := by
    intro X hP hw hK hc i pins s σ H E I hf st hg
    subst hP hw hK
    obtain ⟨xs, ys, hx, hy, l⟩ := hg
    obtain ⟨v1, a1, z1, r1⟩ := Sr.vals.get I hx
    obtain ⟨v2, a2, z2, r2⟩ := Sr.vals.get I hy
    obtain ⟨hz, hi, ho, h1, h2⟩ := st
    have hT : s.TypeIs (.ref z) "zip" := ⟨_, hz, rfl⟩
    unfold pyNext
    refine wpAny_bind (wpAny_attempt (wpAny_callSpecial?_slot (name := Str.ofString "__next__") hT F.slot_zip_next (wpAny_call_entry F.slot_zip_next hT F.entry_zip_next
      (zip_end (A := X.A.in1) D (show X.A.in1.handled = none from I.ok.hd hc) ⟨hz, hi, ho, h1, h2, a1, a2⟩ (by omega) fun h' e tk up ⟨o, eo, co⟩ => ?_) (F.args_zip_next_1 _))))
    refine wpAny_bind (wpAny_isInstance (T := "StopIteration") (b := true) ⟨o, eo, co⟩ isSubtype_stop ?_)
    refine wpAny_pure ⟨rfl, I.turneds (ch := [z, TI, TO, i1, i2]) (t' := tk) (fun b o hb e => ?_) hf⟩
    simp only [List.mem_cons, List.not_mem_nil, or_false, not_or] at hb
    exact up b o hb.1 hb.2.2.1 hb.2.2.2.1 hb.2.2.2.2 e
  self := fun _ _ _ _ _ st h => wpAny_pyIter_zip st.1 h
def iZip (K : PySem.W.Frag) (ta : TA) : TI := fun σ H R => ta σ H fun vs H1 => ∃ S1 S2 x y xs ys, vs = [x, y] ∧ Sr.ofV S1 x ∧ Sr.ofV S2 y ∧ S1.vals K H1 xs ∧ S2.vals K H1 ys ∧ R (Itz K S1 S2) H1
theorem pi_zip {X : Cx} {a b : Expr} {ta : TA} {p pos tp : Pos} {es : List Expr} {kk : Nat} (hg : Gl X "zip") (hm : X.mg "zip" = none) (ha : PA X [a, b] ta) (hs : starEach [a, b] X.env = [(false, eval a X.env), (false, eval b X.env)] := by rfl)
    (hs2 : starEach [b] X.env = [(false, eval b X.env)] := by rfl) : PI X (.Tuple es kk tp) (.Call (.Name "zip" p) [a, b] [] pos) (iZip X.K ta) := by
  intro pins s σ H R I h
  refine Call_ (ld_blt I hg hm boot_zip (PyProof.Rows.callWith_type1 (thn (ha pos pins s σ H _ I h) fun us s1 ⟨vs, H1, I1, r1, q1⟩ => ?_) (by rw [hs, hs2]) (by rw [hs2]; rfl)))
  obtain ⟨S1, S2, x, y, xs, ys, e, e1, e2, hx, hy, q⟩ := q1
  subst e
  cases r1 with
  | cons r rr =>
    cases rr with
    | cons r' rr =>
      cases rr
      obtain ⟨v1, a1, z1, _⟩ := Sr.vals.get I1 hx
      obtain ⟨v2, a2, z2, _⟩ := Sr.vals.get I1 hy
      refine call_zip (e1.val r) (e2.val r') a1 a2 fun h' Z D up => wpAny_pyIter_zip Z.z ⟨_, _, _, _, H1, rfl, I1.kept (t' := s1.toks) up, turn_zip D, ⟨Z.z, Z.ti, Z.to, Z.s1, Z.s2⟩, fun b hb => ?_, q⟩
      simp only [List.mem_cons, List.not_mem_nil, or_false] at hb
      have le : s1.heap.objs.size ≤ b := by rcases hb with rfl | rfl | rfl | rfl | rfl <;> omega
      exact I1.fpOk le (I1.hok.fresh le)
def Ite (K : PySem.W.Frag) (S : Sr) : It :=
  ⟨fun i H => ∃ xs x, S.vals K H xs ∧ xs[i]? = some x, fun i H v H' => ∃ p x, v = .ref p ∧ H p = none ∧ H' = upd H p (.tup [.int i, x]) ∧ ∀ xs, S.vals K H xs → xs[i]? = some x, fun i H => ∃ xs, S.vals K H xs ∧ i = xs.length⟩
theorem Sr.fp_it (S : Sr) (I : Addr) : I ∈ S.fp I := by cases S <;> simp [Sr.fp]
theorem turn_enum {P : Program} {w : World} {K : PySem.W.Frag} {es : List Expr} {kk : Nat} {tp : Pos} {S : Sr} {e it : Addr} (D : e ≠ it) (o1 : S.off e) (o2 : S.off it) :
    Turn P w K (.Tuple es kk tp) (Ite K S) [e, it] e (fun i h => (∃ old, IsEnum h e it i old) ∧ S.it h it i) where
  mem := by simp
  obj := fun i h st b hb => by
    obtain ⟨⟨old, he⟩, h1⟩ := st
    simp only [List.mem_cons, List.not_mem_nil, or_false] at hb
    rcases hb with rfl | rfl
    · exact ⟨_, he, fun v z => by simp at z⟩
    · exact h1.obj
  keep := fun i h h' st k => by
    obtain ⟨⟨old, he⟩, h1⟩ := st
    exact ⟨⟨old, k e (by simp) _ he⟩, h1.mv fun o q => k it (by simp) o q⟩
  item := by
    intro X hP hw hK hc i pins s σ H E I hf st hg
    subst hP hw hK
    obtain ⟨xs, x, hx, ex⟩ := hg
    obtain ⟨vs, a1, z1, r1⟩ := Sr.vals.get I hx
    obtain ⟨⟨old, he⟩, h1⟩ := st
    have l1 := (List.getElem?_eq_some_iff.mp ex).1
    have lt : ∀ b ∈ [e, it], b < s.heap.objs.size := fun b hb => by
      simp only [List.mem_cons, List.not_mem_nil, or_false] at hb
      rcases hb with rfl | rfl
      · exact Heap.lt_size he
      · obtain ⟨_, q, _⟩ := h1.obj; exact Heap.lt_size q
    have hh : X.A.in1.handled = none := I.ok.hd hc
    have W := WalksT.enumerateD (prog := X.prog) (w := X.w) (A := X.A) (S.draws hh it o2 vs) e D (Sr.fp_off o1 D) (S.fp_it it)
    refine W.item i s _ E (by omega) ⟨⟨old, he⟩, h1, a1⟩ fun T vals h' tk hP hT ht hM hk => ⟨_, rfl, W.go es kk tp i T _ _ E hM fun h'' st'' hk'' => ?_⟩
    obtain ⟨t, xv, px, rfl⟩ := hP
    have kk : ∀ b o, b ∉ [e, it] → s.heap.get? b = some o → h''.get? b = some o := fun b o hb q => hk'' b o hb (hk b o hb q)
    have I1 : Inv X pins σ H { s with heap := h'', toks := tk } := I.turneds (t' := tk) kk hf
    have fT : FpOk X pins H T := I.fpOk hT (I.hok.fresh hT)
    have nT : T ∉ [e, it] := W.apart i T _ hM
    have oT : h''.IsTuple T #[.int i t, xv] := let ⟨o, q, r⟩ := ht; ⟨o, hk'' T o nT q, r⟩
    have I2 : Inv X pins σ (upd H T (.tup [.int i, x])) { s with heap := h'', toks := tk } := I1.track (Nat.le_trans I.sz hT) fT
      ⟨by show 2 ≤ sizeLine; decide, [.int i t, xv], .cons ⟨t, rfl⟩ (.cons (r1 i x xv ex px) .nil), oT⟩
    refine ⟨.ref T, _, I2, rfl, ⟨_, x, rfl, fT.1, rfl, fun xs' h => by rw [Sr.vals.inj I h hx]; exact ex⟩, ⟨st''.1, st''.2.1⟩, fun b hb => ?_⟩
    rw [upd_ne (Nat.ne_of_lt (Nat.lt_of_lt_of_le (lt b hb) hT))]
    exact (hf b hb).1
  done := by
    intro X hP hw hK hc i pins s σ H E I hf st hg
    subst hP hw hK
    obtain ⟨xs, hx, l⟩ := hg
    obtain ⟨vs, a1, z1, r1⟩ := Sr.vals.get I hx
    obtain ⟨⟨old, he⟩, h1⟩ := st
    have hh : X.A.in1.handled = none := I.ok.hd hc
    have W := WalksT.enumerateD (prog := X.prog) (w := X.w) (A := X.A) (S.draws hh it o2 vs) e D (Sr.fp_off o1 D) (S.fp_it it)
    have ei : i = vs.size := by omega
    subst ei
    exact W.done s _ E ⟨⟨old, he⟩, h1, a1⟩ fun h' tk hk => ⟨rfl, I.turneds (t' := tk) hk hf⟩
  self := fun _ _ _ _ _ st h => by
    obtain ⟨⟨old, he⟩, _⟩ := st
    exact wpAny_pyIter_enum he h
def iEnum (K : PySem.W.Frag) (ta : TA) : TI := fun σ H R => ta σ H fun vs H1 => ∃ S x xs, vs = [x] ∧ Sr.ofV S x ∧ S.vals K H1 xs ∧ R (Ite K S) H1
theorem pi_enum {X : Cx} {a : Expr} {ta : TA} {p pos tp : Pos} {es : List Expr} {kk : Nat} (hg : Gl X "enumerate") (hm : X.mg "enumerate" = none) (ha : PA X [a] ta) (hs : starEach [a] X.env = [(false, eval a X.env)] := by rfl) :
    PI X (.Tuple es kk tp) (.Call (.Name "enumerate" p) [a] [] pos) (iEnum X.K ta) := by
  intro pins s σ H R I h
  refine Call_ (ld_blt I hg hm boot_enumerate (PyProof.Rows.callWith_type1 (thn (ha pos pins s σ H _ I h) fun us s1 ⟨vs, H1, I1, r1, q1⟩ => ?_) hs rfl))
  obtain ⟨S, x, xs, e, e1, hx, q⟩ := q1
  subst e
  cases r1 with
  | cons r rr =>
    cases rr
    obtain ⟨v1, a1, z1, _⟩ := Sr.vals.get I1 hx
    have off : ∀ k : Nat, S.off (s1.heap.objs.size + k) := fun k => by
      cases S with
      | lst a => obtain ⟨o, q, _⟩ := a1; exact Nat.ne_of_lt (Nat.lt_of_lt_of_le (Heap.lt_size q) (Nat.le_add_right _ k))
      | tup a => obtain ⟨o, q, _⟩ := a1; exact Nat.ne_of_lt (Nat.lt_of_lt_of_le (Heap.lt_size q) (Nat.le_add_right _ k))
      | str z => exact trivial
    refine call_enum (e1.val r) a1 fun h' he hi up => wpAny_pyIter_enum he ⟨_, _, _, _, H1, rfl, I1.kept (t' := s1.toks) up, turn_enum (Nat.succ_ne_self _) (off 1) (off 0), ⟨⟨_, he⟩, hi⟩, fun b hb => ?_, q⟩
    simp only [List.mem_cons, List.not_mem_nil, or_false] at hb
    have le : s1.heap.objs.size ≤ b := by rcases hb with rfl | rfl <;> omega
    exact I1.fpOk le (I1.hok.fresh le)
end L2
namespace L2
open PySem PySem.Spec PyProof.Rows
section
variable {X : Cx}
end
end L2
namespace L2
open PySem PySem.Spec PyProof.Rows
section
variable {X : Cx}
theorem vals_bl {bs : List Bool} {its : List Value} (r : Vals (bs.map V.bl) its) {i : Nat} {v : Value} (h : its[i]? = some v) : ∃ b, bs[i]? = some b ∧ v = .bool b := by
  have len := r.length
  rw [List.length_map] at len
  have hi : i < its.length := (List.getElem?_eq_some_iff.mp h).1
  have hb : bs[i]? = some (bs[i]'(by omega)) := List.getElem?_eq_getElem (by omega)
  obtain ⟨u, hu, ru⟩ := r.get (i := i) (x := V.bl (bs[i]'(by omega))) (by rw [List.getElem?_map, hb]; rfl)
  rw [h] at hu
  cases hu
  exact ⟨_, hb, ru⟩
theorem all_range (bs : List Bool) : (List.range bs.length).all (fun i => bs[i]?.getD false) = bs.all id := by
  rw [Bool.eq_iff_iff, List.all_eq_true, List.all_eq_true]
  constructor
  · intro h b hb
    obtain ⟨i, hi, e⟩ := List.getElem_of_mem hb
    have := h i (List.mem_range.mpr hi)
    rw [List.getElem?_eq_getElem hi, Option.getD_some, e] at this
    exact this
  · intro h i hi
    have hi := List.mem_range.mp hi
    rw [List.getElem?_eq_getElem hi, Option.getD_some]
    exact h _ (List.getElem_mem hi)
def rAll (K : PySem.W.Frag) (f : List Bool → Bool) : List V → Hp → VK → Prop := fun xs H Q => ∃ a bs, xs = [.ref a] ∧ SqL K H a (bs.map V.bl) ∧ Q (.bl (f bs)) H
theorem call_all (hc : X.calm = true) : CallR X (.builtin "all") (rAll X.K fun bs => bs.all id) := by
  intro pins s σ H xs us Q I r h
  obtain ⟨a, bs, rfl, hq, q⟩ := h
  obtain ⟨u, rfl, ru⟩ := r.one
  cases (show u = Value.ref a from ru)
  obtain ⟨its, rv, p, hz⟩ := I.list hq
  have lt : a ≠ s.heap.objs.size := by obtain ⟨o, n, e, _⟩ := p; exact Nat.ne_of_lt (Heap.lt_size e)
  have hh : X.A.in1.handled = none := I.ok.hd hc
  have hl := p.isList
  have len := rv.length
  rw [List.length_map] at len
  refine call_all_walk (wpAny_pyIter_list hl ⟨_, _, _, _, _, _, fun i => bs[i]?.getD false, rfl, Walks.list hh s.heap.objs.size a lt its.toArray, ⟨⟨_, Heap.get?_push_size _ rfl, rfl, rfl⟩, Heap.IsList.push hl _⟩, fun i v s' Q' E' hv q' => ?_, fun h' tk k => ?_⟩)
  · have hv : its.toArray[i]? = some v := hv
    rw [List.getElem?_toArray] at hv
    obtain ⟨b, eb, rfl⟩ := vals_bl rv hv
    have q' : Q' (bs[i]?.getD false) s' := q'
    rw [eb] at q'
    exact wpAny_truthy_bool q'
  · rw [List.size_toArray, ← len, all_range]
    refine ⟨.bl _, H, I.kept (t' := tk) fun b o e => k b o (fun z => ?_) (Heap.get?_push_of_some _ e), rfl, q⟩
    rw [List.mem_singleton] at z
    exact absurd (Heap.lt_size e) (by rw [z]; exact Nat.lt_irrefl _)
end
end L2
namespace L2
open PySem PySem.Spec PyProof.Rows
section
variable {prog : Program} {w : World} {A : Around} {E : Value → Shared → Prop} {s : Shared}
end
theorem for_it {J : It} {n : Nat} {g : TG} {tb : TS} {D : Ends} {σ : St} {H : Hp} (Pv : Nat → St → Hp → Prop) (h0 : Pv 0 σ H)
    (hs : ∀ i σ H, i < n → Pv i σ H → J.go i H ∧ ∀ x H', J.yld i H x H' → g x σ H' fun σ2 H2 => tb { D with nx := Pv (i + 1), ct := Pv (i + 1), bk := D.nx } σ2 H2) (hd : ∀ σ H, Pv n σ H → J.stop n H ∧ D.nx σ H) :
    ∃ W : Nat → Nat → St → Hp → Prop, (∃ m, W 0 m σ H) ∧ ∀ i m σ H, W i m σ H →
      (J.stop i H ∧ D.nx σ H) ∨ (J.go i H ∧ ∃ N : St → Hp → Prop, (∀ σ' H', N σ' H' → ∃ m', m' < m ∧ W (i + 1) m' σ' H') ∧ ∀ x H', J.yld i H x H' → g x σ H' fun σ2 H2 => tb { D with nx := N, ct := N, bk := D.nx } σ2 H2) := by
  refine ⟨fun i m σ H => m = n - i ∧ i ≤ n ∧ Pv i σ H, ⟨n, by simp, Nat.zero_le _, h0⟩, ?_⟩
  rintro i m σ H ⟨rfl, hi, p⟩
  by_cases hlt : i < n
  · obtain ⟨a, b⟩ := hs i σ H hlt p
    exact .inr ⟨a, Pv (i + 1), fun σ' H' p' => ⟨n - (i + 1), by omega, rfl, hlt, p'⟩, b⟩
  · have e : i = n := by omega
    subst e
    exact .inl (hd σ H p)
theorem tuple_addW0 (l b : Addr) (items items2 : Array Value) (n n2 : Nat) (dd dd2 : Option Addr) (sl sl2 : Array (Option Value)) (hc0 : items.isEmpty = true) :
    Meets (Builtin.«tuple.__add__» ⟨[.ref l, .ref b], []⟩) (fun _ R s => s.heap.get? l = some { cls := .type "tuple", dict := dd, data := .seq items n, slots := sl } ∧ s.heap.get? b = some { cls := .type "tuple", dict := dd2, data := .seq items2 n2, slots := sl2 } ∧ R (.ok (.ret (Value.ref b))) { s with heap := s.heap, toks := s.toks }) :=
  .of_wp fun prog w A R s h => by obtain ⟨hp, g, d, tk, os⟩ := s; obtain ⟨hl, hb, h⟩ := h; have f1 := AutoSeq1.idx_int; have f2 := AutoSeq1.sub_tuple_tuple; wp_walk using AutoSeq1.wpAny_loadPart' hl, AutoSeq1.wpAny_loadPart' hb; exact ⟨_, rfl, h⟩
def rCatA : R2 := fun x y H Q => ∃ a b xs ys, x = .ref a ∧ y = .ref b ∧ H a = some (.tup xs) ∧ H b = some (.tup ys) ∧ xs.length + ys.length ≤ sizeLine ∧
  ∀ p H', Same H H' → H' p = some (.tup (xs ++ ys)) → Q (.ref p) H'
theorem op_catA {X : Cx} : OpR X (binaryOp .Add) rCatA := by
  intro pins s σ H x y v u Q I rx ry h
  obtain ⟨a, b, xs, ys, rfl, rfl, ha, hb, hz, q⟩ := h
  cases rx
  cases ry
  by_cases hx : xs = []
  · obtain ⟨its, r1, p1, _⟩ := I.tuple (SqT.of ha)
    obtain ⟨its2, r2, p2, _⟩ := I.tuple (SqT.of hb)
    have e0 : its = [] := r1.nil_iff.mpr hx
    obtain ⟨⟨cls, dd, data, sl⟩, ho, hc, n, hd⟩ := id p1
    obtain ⟨⟨cls2, dd2, data2, sl2⟩, ho2, hc2, n2, hd2⟩ := id p2
    simp only at hc hd hc2 hd2
    subst hc hd hc2 hd2
    exact concat_meets ⟨_, ho, rfl⟩ ⟨_, ho2, rfl⟩ noFill_tuple_add seq_tuple_add PySem.F.slot_tuple_add PySem.F.entry_tuple_add (PySem.F.args_tuple_add_2 _ _)
      (tuple_addW0 a b its.toArray its2.toArray n n2 dd dd2 sl sl2 (by rw [e0]; rfl)) ⟨ho, ho2, ⟨.ref b, H, I, rfl, q b H (Same.refl _) (by rw [hx]; exact hb)⟩⟩
  · exact op_catT pins s σ H (.ref a) (.ref b) (.ref a) (.ref b) Q I rfl rfl ⟨a, b, xs, ys, rfl, rfl, SqT.of ha, SqT.of hb, hx, hz, fun z => q a H (Same.refl _) (by rw [z, List.append_nil]; exact ha), fun _ p np => q p _ (same_upd np) upd_same⟩
end L2
namespace L2
open PySem PySem.Spec PyProof.Rows
def SameT (H H' : Hp) : Prop := ∀ p vs, H p = some (.tup vs) → H' p = some (.tup vs)
theorem SameT.refl (H : Hp) : SameT H H := fun _ _ h => h
theorem SameT.trans {H H1 H2 : Hp} (x : SameT H H1) (y : SameT H1 H2) : SameT H H2 := fun p vs h => y p vs (x p vs h)
theorem Same.t {H H' : Hp} (x : Same H H') : SameT H H' := fun p vs h => x p _ h
def Ents (Pd : Nat → V → Hp → Prop) (ys : List V) (n : Nat) (H : Hp) : Prop := ys.length = n ∧ ∀ j, j < n → ∃ u, ys[j]? = some u ∧ Pd j u H
section
variable {Pd Pe : Nat → V → Hp → Prop} {ys : List V} {n : Nat} {H H' : Hp} {v : V}
theorem Ents.nil : Ents Pd [] 0 H := ⟨rfl, fun j h => absurd h (Nat.not_lt_zero j)⟩
theorem Ents.mono (h : Ents Pd ys n H) (s : ∀ j u, j < n → Pd j u H → Pe j u H') : Ents Pe ys n H' := ⟨h.1, fun j hj => by
  obtain ⟨u, e, p⟩ := h.2 j hj
  exact ⟨u, e, s j u hj p⟩⟩
theorem Ents.snoc (h : Ents Pd ys n H) (p : Pd n v H) : Ents Pd (ys ++ [v]) (n + 1) H := ⟨by rw [List.length_append, h.1]; rfl, fun j hj => by
  by_cases hn : j < n
  · obtain ⟨u, e, q⟩ := h.2 j hn
    exact ⟨u, by rw [List.getElem?_append_left (by rw [h.1]; exact hn)]; exact e, q⟩
  · have e : j = n := by omega
    subst e
    exact ⟨v, by rw [List.getElem?_append_right (by rw [h.1]; exact Nat.le_refl _), h.1, Nat.sub_self]; rfl, p⟩⟩
theorem Ents.at (h : Ents Pd ys n H) {j : Nat} {u : V} (e : ys[j]? = some u) : j < n ∧ Pd j u H := by
  have hj : j < n := by rw [← h.1]; exact (List.getElem?_eq_some_iff.mp e).1
  obtain ⟨u', e', p⟩ := h.2 j hj
  rw [e] at e'
  cases e'
  exact ⟨hj, p⟩
end
def TupOf (Pd : Nat → V → Hp → Prop) (n : Nat) (v : V) (H : Hp) : Prop := ∃ p vs, v = .ref p ∧ H p = some (.tup vs) ∧ Ents Pd vs n H
def SeqOf (K : PySem.W.Frag) (Pd : Nat → V → Hp → Prop) (n : Nat) (v : V) (H : Hp) : Prop := ∃ S vs, Sr.ofV S v ∧ S.vals K H vs ∧ (∀ H', Same H H' → S.vals K H' vs ∧ LenV K v H' vs.length) ∧ Ents Pd vs n H
theorem TupOf.seq {K : PySem.W.Frag} {Pd : Nat → V → Hp → Prop} {n : Nat} {v : V} {H : Hp} (h : TupOf Pd n v H) : SeqOf K Pd n v H := by
  obtain ⟨p, vs, rfl, hp, e⟩ := h
  exact ⟨.tup p, vs, rfl, SqT.of hp, fun H' q => ⟨SqT.of (q _ _ hp), .inr ⟨_, SqT.of (q _ _ hp), rfl⟩⟩, e⟩
theorem TupOf.mono {Pd Pe : Nat → V → Hp → Prop} {n : Nat} {v : V} {H H' : Hp} (h : TupOf Pd n v H) (s : SameT H H') (m : ∀ j u, j < n → Pd j u H → Pe j u H') : TupOf Pe n v H' := by
  obtain ⟨p, vs, rfl, hp, e⟩ := h
  exact ⟨p, vs, rfl, s _ _ hp, e.mono m⟩
theorem SeqOf.mono {K : PySem.W.Frag} {Pd Pe : Nat → V → Hp → Prop} {n : Nat} {v : V} {H H' : Hp} (h : SeqOf K Pd n v H) (s : Same H H') (m : ∀ j u, j < n → Pd j u H → Pe j u H') : SeqOf K Pe n v H' := by
  obtain ⟨S, vs, e, hv, hs, he⟩ := h
  exact ⟨S, vs, e, (hs _ s).1, fun H2 q => hs _ (s.trans q), he.mono m⟩
theorem SeqOf.list {K : PySem.W.Frag} {Pd : Nat → V → Hp → Prop} {n : Nat} {p : Addr} {vs : List V} {H : Hp} (hp : H p = some (.lst vs)) (e : Ents Pd vs n H) : SeqOf K Pd n (.ref p) H :=
  ⟨.lst p, vs, rfl, SqL.of hp, fun H' q => ⟨SqL.of (q _ _ hp), .inl ⟨_, SqL.of (q _ _ hp), rfl⟩⟩, e⟩
theorem TupOf.len {K : PySem.W.Frag} {Pd : Nat → V → Hp → Prop} {n : Nat} {v : V} {H : Hp} (h : TupOf Pd n v H) : LenV K v H n := by
  obtain ⟨p, vs, rfl, hp, e⟩ := h
  have e1 := e.1
  subst e1
  exact .inr ⟨_, SqT.of hp, rfl⟩
theorem SeqOf.len {K : PySem.W.Frag} {Pd : Nat → V → Hp → Prop} {n : Nat} {v : V} {H : Hp} (h : SeqOf K Pd n v H) : LenV K v H n := by
  obtain ⟨S, vs, _, _, hs, e⟩ := h
  have q := (hs _ (Same.refl _)).2
  rw [e.1] at q
  exact q
theorem comp_go {J : It} {n k : Nat} {g : TG} {te : TE} {σ : St} {Q : VK} {H1 : Hp} (Pv : Nat → List V → Hp → Prop) (hn : n ≤ 1000) (h0 : Pv 0 [] H1) (hl : ∀ i ys H, Pv i ys H → ys.length = i)
    (hgo : ∀ i ys H, i < n → Pv i ys H → J.go i H ∧ ∀ x H', J.yld i H x H' → g x (σ ++ List.replicate k none) H' fun σ2 H2 => (∃ zs, σ2 = σ ++ zs ∧ zs.length = k) ∧ te σ2 H2 fun v H3 => Pv (i + 1) (ys ++ [v]) H3)
    (hstop : ∀ ys H, Pv n ys H → J.stop n H) (hend : ∀ ys H p, Pv n ys H → H p = none → Q (.ref p) (upd H p (.lst ys))) :
    CTail J k g te σ Q H1 := by
  have z : 1000 < sizeLine := by decide
  refine ⟨fun i m ys H => m = n - i ∧ i ≤ n ∧ Pv i ys H, ⟨n, rfl, Nat.zero_le _, h0⟩, ?_⟩
  rintro i m ys H ⟨rfl, hi, p⟩
  have yl := hl i ys H p
  by_cases hlt : i < n
  · obtain ⟨a, b⟩ := hgo i ys H hlt p
    refine .inr ⟨a, by omega, fun x H' y => ?_⟩
    have c := b x H' y
    have e : (fun σ2 H2 => (∃ zs, σ2 = σ ++ zs ∧ zs.length = k) ∧ te σ2 H2 fun v H3 => ∃ m', m' < n - i ∧ m' = n - (i + 1) ∧ i + 1 ≤ n ∧ Pv (i + 1) (ys ++ [v]) H3) = fun σ2 H2 => (∃ zs, σ2 = σ ++ zs ∧ zs.length = k) ∧ te σ2 H2 fun v H3 => Pv (i + 1) (ys ++ [v]) H3 := by
      funext σ2 H2
      congr 2
      funext v H3
      exact propext ⟨fun ⟨_, _, _, _, q⟩ => q, fun q => ⟨_, by omega, rfl, hlt, q⟩⟩
    rw [e]
    exact c
  · have e : i = n := by omega
    subst e
    exact .inl ⟨hstop ys H p, by omega, fun q nq => hend ys H q p nq⟩
end L2
namespace Mine
def sm (S : SR) (f : Nat → S.W) : Nat → S.W
  | 0 => S.zero
  | n + 1 => S.add (sm S f n) (f n)
section
variable {S : SR}
theorem sm_congr {f g : Nat → S.W} : ∀ {n : Nat}, (∀ i, i < n → f i = g i) → sm S f n = sm S g n
  | 0, _ => rfl
  | n + 1, h => by
    show S.add _ _ = S.add _ _
    rw [sm_congr fun i hi => h i (Nat.lt_succ_of_lt hi), h n (Nat.lt_succ_self n)]
theorem sm_zero : ∀ n : Nat, sm S (fun _ => S.zero) n = S.zero
  | 0 => rfl
  | n + 1 => by show S.add _ _ = _; rw [sm_zero n, S.add_zero]
theorem sm_add (f g : Nat → S.W) : ∀ n : Nat, sm S (fun i => S.add (f i) (g i)) n = S.add (sm S f n) (sm S g n)
  | 0 => (S.add_zero S.zero).symm
  | n + 1 => by
    show S.add _ _ = S.add (S.add _ _) (S.add _ _)
    rw [sm_add f g n, S.add_assoc, S.add_assoc]
    congr 1
    rw [← S.add_assoc, S.add_comm (sm S g n) (f n), S.add_assoc]
theorem sm_mul (c : S.W) (f : Nat → S.W) : ∀ n : Nat, S.mul c (sm S f n) = sm S (fun i => S.mul c (f i)) n
  | 0 => S.mul_zero c
  | n + 1 => by
    show S.mul c (S.add _ _) = S.add _ _
    rw [S.distrib, sm_mul c f n]
theorem sm_mulr (c : S.W) (f : Nat → S.W) (n : Nat) : S.mul (sm S f n) c = sm S (fun i => S.mul (f i) c) n := by
  rw [S.mul_comm, sm_mul]
  exact sm_congr fun i _ => S.mul_comm _ _
theorem sm_swap (f : Nat → Nat → S.W) (k : Nat) : ∀ n : Nat, sm S (fun i => sm S (fun j => f i j) k) n = sm S (fun j => sm S (fun i => f i j) n) k
  | 0 => (sm_zero k).symm
  | n + 1 => by
    show S.add _ _ = _
    rw [sm_swap f k n, ← sm_add]
    rfl
theorem sm_assoc (r : Nat → S.W) (A : Nat → Nat → S.W) (b : Nat → S.W) (h w : Nat) :
    sm S (fun j => S.mul (sm S (fun i => S.mul (r i) (A i j)) h) (b j)) w = sm S (fun i => S.mul (r i) (sm S (fun j => S.mul (A i j) (b j)) w)) h := by
  have e1 : ∀ j, j < w → S.mul (sm S (fun i => S.mul (r i) (A i j)) h) (b j) = sm S (fun i => S.mul (r i) (S.mul (A i j) (b j))) h := fun j _ => by
    rw [sm_mulr]
    exact sm_congr fun i _ => S.mul_assoc _ _ _
  have e2 : ∀ i, i < h → S.mul (r i) (sm S (fun j => S.mul (A i j) (b j)) w) = sm S (fun j => S.mul (r i) (S.mul (A i j) (b j))) w := fun i _ => sm_mul _ _ _
  rw [sm_congr e1, sm_congr e2, sm_swap]
end
end Mine
namespace Mine
structure Fld (S : SR) where
  neg : S.W → S.W
  inv : S.W → S.W
  add_neg : ∀ x, S.add x (neg x) = S.zero
  mul_inv : ∀ x, x ≠ S.zero → S.mul x (inv x) = S.one
  sz_neg : ∀ m x, S.sz m x → S.sz m (neg x)
  sz_inv : ∀ m x, x ≠ S.zero → S.sz m x → S.sz m (inv x)
section
variable {S : SR} {F : Fld S}
theorem f_za (x : S.W) : S.add S.zero x = x := by rw [S.add_comm, S.add_zero]
theorem f_zm (x : S.W) : S.mul S.zero x = S.zero := by rw [S.mul_comm, S.mul_zero]
theorem f_om (x : S.W) : S.mul S.one x = x := by rw [S.mul_comm, S.mul_one]
theorem f_dr (x y z : S.W) : S.mul (S.add x y) z = S.add (S.mul x z) (S.mul y z) := by rw [S.mul_comm, S.distrib, S.mul_comm z x, S.mul_comm z y]
theorem f_uniq {x y : S.W} (h : S.add x y = S.zero) : y = F.neg x := by
  have e : S.add (F.neg x) (S.add x y) = y := by rw [← S.add_assoc, S.add_comm (F.neg x) x, F.add_neg, f_za]
  rw [h, S.add_zero] at e
  exact e.symm
theorem f_nz : F.neg S.zero = S.zero := (f_uniq (F := F) (S.add_zero S.zero)).symm
theorem f_nn (x : S.W) : F.neg (F.neg x) = x := (f_uniq (F := F) (by rw [S.add_comm, F.add_neg])).symm
theorem f_nm (x y : S.W) : S.mul (F.neg x) y = F.neg (S.mul x y) := f_uniq (by rw [← f_dr, F.add_neg, f_zm])
theorem f_mn (x y : S.W) : S.mul x (F.neg y) = F.neg (S.mul x y) := by rw [S.mul_comm, f_nm, S.mul_comm]
theorem f_na (x y : S.W) : F.neg (S.add x y) = S.add (F.neg x) (F.neg y) := (f_uniq (F := F) (by
  rw [S.add_assoc, ← S.add_assoc y, S.add_comm y, S.add_assoc, F.add_neg, S.add_zero, F.add_neg])).symm
theorem f_eq {x y : S.W} (h : S.add x (F.neg y) = S.zero) : x = y := by
  have e := f_uniq (F := F) (show S.add (F.neg y) x = S.zero by rw [S.add_comm]; exact h)
  rw [e, f_nn]
theorem f_no {x y : S.W} (F : Fld S) (h : S.mul x y = S.zero) (n : x ≠ S.zero) : y = S.zero := by
  have e : S.mul (F.inv x) (S.mul x y) = y := by rw [← S.mul_assoc, S.mul_comm (F.inv x), F.mul_inv x n, f_om]
  rw [h, S.mul_zero] at e
  exact e.symm
theorem f_ne1 : S.one ≠ S.zero := fun h => S.zo h.symm
theorem f_add4 (a b c d : S.W) : S.add (S.add a b) (S.add c d) = S.add (S.add a c) (S.add b d) := by
  rw [S.add_assoc, S.add_assoc]
  congr 1
  rw [← S.add_assoc, S.add_comm b c, S.add_assoc]
theorem sm_one {f : Nat → S.W} {i : Nat} : ∀ {n : Nat}, i < n → (∀ k, k < n → k ≠ i → f k = S.zero) → sm S f n = f i
  | 0, h, _ => absurd h (Nat.not_lt_zero _)
  | n + 1, h, z => by
    show S.add _ _ = _
    by_cases e : i = n
    · subst e
      rw [sm_congr (g := fun _ => S.zero) (fun k hk => z k (by omega) (by omega)), sm_zero, f_za]
    · rw [sm_one (i := i) (by omega) (fun k hk hn => z k (by omega) hn), z n (by omega) (by omega), S.add_zero]
def skp (i k : Nat) : Nat := if k < i then k else k + 1
theorem sm_skip (f : Nat → S.W) : ∀ (n i : Nat), i < n + 1 → sm S f (n + 1) = S.add (f i) (sm S (fun k => f (skp i k)) n)
  | 0, i, h => by
    have : i = 0 := by omega
    subst this
    show S.add S.zero (f 0) = S.add (f 0) S.zero
    exact S.add_comm _ _
  | n + 1, i, h => by
    by_cases e : i = n + 1
    · subst e
      show S.add (sm S f (n + 1)) (f (n + 1)) = _
      rw [S.add_comm]
      congr 1
      exact sm_congr fun k hk => by unfold skp; rw [if_pos hk]
    · show S.add (sm S f (n + 1)) (f (n + 1)) = S.add (f i) (S.add (sm S (fun k => f (skp i k)) n) (f (skp i n)))
      rw [sm_skip f n i (by omega), S.add_assoc]
      congr 3
      unfold skp
      rw [if_neg (by omega)]
def lin (S : SR) (c : Nat → S.W) (vs : Nat → Nat → S.W) (n : Nat) : Nat → S.W := fun j => sm S (fun k => S.mul (c k) (vs k j)) n
theorem lin_add (c d : Nat → S.W) (vs : Nat → Nat → S.W) (n j : Nat) : lin S (fun k => S.add (c k) (d k)) vs n j = S.add (lin S c vs n j) (lin S d vs n j) := by
  unfold lin
  rw [← sm_add]
  exact sm_congr fun k _ => f_dr _ _ _
theorem lin_mul (a : S.W) (c : Nat → S.W) (vs : Nat → Nat → S.W) (n j : Nat) : lin S (fun k => S.mul a (c k)) vs n j = S.mul a (lin S c vs n j) := by
  unfold lin
  rw [sm_mul]
  exact sm_congr fun k _ => S.mul_assoc _ _ _
theorem lin_zero (vs : Nat → Nat → S.W) (n j : Nat) : lin S (fun _ => S.zero) vs n j = S.zero := by
  unfold lin
  rw [sm_congr (g := fun _ => S.zero) fun k _ => f_zm _, sm_zero]
theorem lin_one {vs : Nat → Nat → S.W} {n i j : Nat} (h : i < n) : lin S (fun k => if k = i then S.one else S.zero) vs n j = vs i j := by
  unfold lin
  rw [sm_one (i := i) h fun k _ hk => by dsimp only; rw [if_neg hk, f_zm]]
  dsimp only
  rw [if_pos rfl, f_om]
theorem lin_neg (F : Fld S) (c : Nat → S.W) (vs : Nat → Nat → S.W) (n j : Nat) : lin S (fun k => F.neg (c k)) vs n j = F.neg (lin S c vs n j) := by
  refine f_uniq ?_
  rw [← lin_add]
  unfold lin
  rw [sm_congr (g := fun _ => S.zero) fun k _ => by dsimp only; rw [F.add_neg, f_zm], sm_zero]
theorem lin_lin (c : Nat → S.W) (A : Nat → Nat → S.W) (vs : Nat → Nat → S.W) (m n j : Nat) : sm S (fun i => S.mul (c i) (lin S (A i) vs n j)) m = lin S (fun k => sm S (fun i => S.mul (c i) (A i k)) m) vs n j := (sm_assoc c A (fun k => vs k j) m n).symm
def Spn (S : SR) (w n : Nat) (vs : Nat → Nat → S.W) (u : Nat → S.W) : Prop := ∃ c, ∀ j, j < w → u j = lin S c vs n j
theorem Spn.add {w n : Nat} {vs : Nat → Nat → S.W} {u v : Nat → S.W} (h : Spn S w n vs u) (g : Spn S w n vs v) : Spn S w n vs fun j => S.add (u j) (v j) := by
  obtain ⟨c, hc⟩ := h
  obtain ⟨d, hd⟩ := g
  exact ⟨fun k => S.add (c k) (d k), fun j hj => by dsimp only; rw [lin_add, hc j hj, hd j hj]⟩
theorem Spn.mul {w n : Nat} {vs : Nat → Nat → S.W} {u : Nat → S.W} (a : S.W) (h : Spn S w n vs u) : Spn S w n vs fun j => S.mul a (u j) := by
  obtain ⟨c, hc⟩ := h
  exact ⟨fun k => S.mul a (c k), fun j hj => by dsimp only; rw [lin_mul, hc j hj]⟩
theorem Spn.gen {w n i : Nat} {vs : Nat → Nat → S.W} (h : i < n) : Spn S w n vs (vs i) := ⟨_, fun j _ => (lin_one h).symm⟩
theorem Spn.lin {w m n : Nat} {us vs : Nat → Nat → S.W} {c : Nat → S.W} (h : ∀ i, i < m → Spn S w n vs (us i)) : Spn S w n vs (lin S c us m) := by
  have hc : ∀ i, ∃ d : Nat → S.W, i < m → ∀ j, j < w → us i j = Mine.lin S d vs n j := fun i => by
    by_cases hi : i < m
    · obtain ⟨d, hd⟩ := h i hi
      exact ⟨d, fun _ => hd⟩
    · exact ⟨fun _ => S.zero, fun z => absurd z hi⟩
  refine ⟨fun k => sm S (fun i => S.mul (c i) ((hc i).choose k)) m, fun j hj => ?_⟩
  rw [← lin_lin c fun i => (hc i).choose]
  exact sm_congr fun i hi => by rw [(hc i).choose_spec hi j hj]
theorem Spn.congr {w n : Nat} {vs : Nat → Nat → S.W} {u v : Nat → S.W} (h : Spn S w n vs u) (e : ∀ j, j < w → v j = u j) : Spn S w n vs v := by
  obtain ⟨c, hc⟩ := h
  exact ⟨c, fun j hj => by rw [e j hj, hc j hj]⟩
def Ind (S : SR) (w n : Nat) (vs : Nat → Nat → S.W) : Prop := ∀ c, (∀ j, j < w → lin S c vs n j = S.zero) → ∀ k, k < n → c k = S.zero
theorem homog (F : Fld S) : ∀ (n m : Nat) (A : Nat → Nat → S.W), n < m → ∃ x : Nat → S.W, (∃ i, i < m ∧ x i ≠ S.zero) ∧ ∀ k, k < n → sm S (fun i => S.mul (x i) (A i k)) m = S.zero
  | 0, m, A, h => ⟨fun _ => S.one, ⟨0, h, f_ne1⟩, fun k hk => absurd hk (Nat.not_lt_zero k)⟩
  | n + 1, m, A, h => by
    by_cases z : ∀ i, i < m → A i n = S.zero
    · obtain ⟨x, hx, e⟩ := homog F n m A (by omega)
      refine ⟨x, hx, fun k hk => ?_⟩
      by_cases hn : k = n
      · subst hn
        rw [sm_congr (g := fun _ => S.zero) fun i hi => by rw [z i hi, S.mul_zero], sm_zero]
      · exact e k (by omega)
    · obtain ⟨p, hp⟩ := Classical.not_forall.mp z
      obtain ⟨pm, pn⟩ := Classical.not_imp.mp hp
      obtain ⟨m', rfl⟩ : ∃ m', m = m' + 1 := ⟨m - 1, by omega⟩
      obtain ⟨x, ⟨i, hi, xi⟩, e⟩ := homog F n m' (fun i k => S.add (A (skp p i) k) (F.neg (S.mul (S.mul (A (skp p i) n) (F.inv (A p n))) (A p k)))) (by omega)
      let y0 : S.W := F.neg (sm S (fun i => S.mul (x i) (S.mul (A (skp p i) n) (F.inv (A p n)))) m')
      let y : Nat → S.W := fun k => if k = p then y0 else if k < p then x k else x (k - 1)
      have yp : y p = y0 := if_pos rfl
      have ys : ∀ k, y (skp p k) = x k := fun k => by
        show (if skp p k = p then y0 else if skp p k < p then x (skp p k) else x (skp p k - 1)) = x k
        unfold skp
        by_cases hk : k < p
        · rw [if_pos hk, if_neg (by omega), if_pos hk]
        · rw [if_neg hk, if_neg (by omega), if_neg (by omega)]; rfl
      have key : ∀ k, sm S (fun i => S.mul (y i) (A i k)) (m' + 1) = sm S (fun i => S.mul (x i) (S.add (A (skp p i) k) (F.neg (S.mul (S.mul (A (skp p i) n) (F.inv (A p n))) (A p k))))) m' := fun k => by
        rw [sm_skip _ m' p pm, yp]
        rw [sm_congr (n := m') (g := fun i => S.mul (x i) (A (skp p i) k)) fun i _ => by rw [ys]]
        rw [sm_congr (n := m') (g := fun i => S.add (S.mul (x i) (A (skp p i) k)) (F.neg (S.mul (S.mul (x i) (S.mul (A (skp p i) n) (F.inv (A p n)))) (A p k)))) (f := fun i => S.mul (x i) (S.add (A (skp p i) k) (F.neg (S.mul (S.mul (A (skp p i) n) (F.inv (A p n))) (A p k))))) fun i _ => by
          rw [S.distrib, f_mn, S.mul_assoc (x i)]]
        rw [sm_add, S.add_comm]
        congr 1
        show S.mul (F.neg _) (A p k) = _
        rw [f_nm, sm_mulr]
        symm
        refine f_uniq ?_
        rw [← sm_add]
        rw [sm_congr (g := fun _ => S.zero) fun i _ => F.add_neg _, sm_zero]
      refine ⟨y, ⟨skp p i, by unfold skp; split <;> omega, by rw [ys]; exact xi⟩, fun k hk => ?_⟩
      rw [key]
      by_cases hn : k = n
      · subst hn
        rw [sm_congr (g := fun _ => S.zero) fun i _ => by rw [S.mul_assoc, S.mul_comm (F.inv _), F.mul_inv _ pn, S.mul_one, F.add_neg, S.mul_zero], sm_zero]
      · exact e k (by omega)
theorem steinitz (F : Fld S) {w m n : Nat} {us vs : Nat → Nat → S.W} (h : Ind S w m us) (g : ∀ i, i < m → Spn S w n vs (us i)) : m ≤ n := by
  refine Classical.byContradiction fun z => ?_
  have hc : ∀ i, ∃ d : Nat → S.W, i < m → ∀ j, j < w → us i j = lin S d vs n j := fun i => by
    by_cases hi : i < m
    · obtain ⟨d, hd⟩ := g i hi
      exact ⟨d, fun _ => hd⟩
    · exact ⟨fun _ => S.zero, fun z => absurd z hi⟩
  obtain ⟨x, ⟨i, hi, xi⟩, e⟩ := homog F n m (fun i k => (hc i).choose k) (by omega)
  refine xi (h x (fun j hj => ?_) i hi)
  show sm S (fun k => S.mul (x k) (us k j)) m = _
  rw [sm_congr (g := fun k => S.mul (x k) (lin S ((hc k).choose) vs n j)) fun k hk => by rw [(hc k).choose_spec hk j hj], lin_lin x fun i => (hc i).choose]
  show sm S (fun k => S.mul _ _) n = _
  rw [sm_congr (g := fun _ => S.zero) fun k hk => by rw [e k hk, f_zm], sm_zero]
theorem ind_up {w n : Nat} {vs : Nat → Nat → S.W} (p : Nat → Nat) (hp : ∀ i, i < n → p i < w) (h1 : ∀ i, i < n → vs i (p i) = S.one) (h0 : ∀ i j, i < j → j < n → vs j (p i) = S.zero) : Ind S w n vs := by
  intro c hc
  have key : ∀ m k, k < m → k < n → c k = S.zero := by
    intro m
    induction m with
    | zero => intro k hk; omega
    | succ m ih =>
      intro k hk hn
      have e := hc (p k) (hp k hn)
      unfold lin at e
      rw [sm_one (i := k) hn fun i hi ne => ?_, h1 k hn, S.mul_one] at e
      · exact e
      · by_cases lt : i < k
        · rw [ih i (by omega) hi, f_zm]
        · rw [h0 k i (by omega) hi, S.mul_zero]
  exact fun k hk => key (k + 1) k (Nat.lt_succ_self k) hk
theorem ind_down {w n : Nat} {vs : Nat → Nat → S.W} (p : Nat → Nat) (hp : ∀ i, i < n → p i < w) (h1 : ∀ i, i < n → vs i (p i) = S.one) (h0 : ∀ i j, i < j → j < n → vs i (p j) = S.zero) : Ind S w n vs := by
  intro c hc
  have key : ∀ m k, n - k ≤ m → k < n → c k = S.zero := by
    intro m
    induction m with
    | zero => intro k hk hn; omega
    | succ m ih =>
      intro k hk hn
      have e := hc (p k) (hp k hn)
      unfold lin at e
      rw [sm_one (i := k) hn fun i hi ne => ?_, h1 k hn, S.mul_one] at e
      · exact e
      · by_cases lt : i < k
        · rw [h0 i k lt hn, S.mul_zero]
        · rw [ih i (by omega) hi, f_zm]
  exact fun k hk => key (n - k) k (Nat.le_refl _) hk
theorem ind_mix {w m n : Nat} {us vs B : Nat → Nat → S.W} (h : Ind S w n vs) (g : Ind S n m B) (e : ∀ i, i < m → ∀ j, j < w → us i j = lin S (B i) vs n j) : Ind S w m us := by
  intro c hc
  refine g c fun k hk => ?_
  refine h (fun k => lin S c B m k) (fun j hj => ?_) k hk
  have := hc j hj
  unfold lin at this
  rw [sm_congr (g := fun i => S.mul (c i) (lin S (B i) vs n j)) fun i hi => by rw [e i hi j hj], lin_lin] at this
  exact this
theorem ind_not {w n i : Nat} {vs : Nat → Nat → S.W} (F : Fld S) (h : Ind S w (n + 1) vs) (hi : i < n + 1) : ¬ Spn S w n (fun k => vs (skp i k)) (vs i) := by
  rintro ⟨c, hc⟩
  have e := h (fun q => if q = i then F.neg S.one else if q < i then c q else c (q - 1)) (fun j hj => ?_) i hi
  · rw [if_pos rfl] at e
    have := F.add_neg S.one
    rw [e, S.add_zero] at this
    exact f_ne1 this
  · unfold lin
    rw [sm_skip _ n i hi]
    dsimp only
    rw [if_pos rfl, f_nm, f_om, hc j hj, S.add_comm]
    rw [sm_congr (n := n) (g := fun k => S.mul (c k) (vs (skp i k) j)) fun q hq => ?_]
    · exact F.add_neg _
    · congr 1
      unfold skp
      by_cases lt : q < i
      · rw [if_pos lt, if_neg (by omega), if_pos lt]
      · rw [if_neg lt, if_neg (by omega), if_neg (by omega)]; rfl
def stp (F : Fld S) (k : Nat × (Nat → S.W)) (r : Nat → S.W) : Nat → S.W := fun j => S.add (r j) (S.mul (F.neg (r k.1)) (k.2 j))
def clr (F : Fld S) (ks : List (Nat × (Nat → S.W))) (r : Nat → S.W) : Nat → S.W := ks.foldl (fun r k => stp F k r) r
theorem clr_cons (k : Nat × (Nat → S.W)) (ks : List (Nat × (Nat → S.W))) (r : Nat → S.W) : clr F (k :: ks) r = clr F ks (stp F k r) := rfl
theorem clr_snoc (k : Nat × (Nat → S.W)) (ks : List (Nat × (Nat → S.W))) (r : Nat → S.W) : clr F (ks ++ [k]) r = stp F k (clr F ks r) := by
  unfold clr
  rw [List.foldl_append]; rfl
theorem stp_zero {k : Nat × (Nat → S.W)} {r : Nat → S.W} (h : r k.1 = S.zero) : stp F k r = r := by
  funext j
  unfold stp
  rw [h, f_nz, f_zm, S.add_zero]
theorem stp_add (k : Nat × (Nat → S.W)) (u v : Nat → S.W) : stp F k (fun j => S.add (u j) (v j)) = fun j => S.add (stp F k u j) (stp F k v j) := by
  funext j
  unfold stp
  rw [f_na, f_dr, f_add4]
theorem stp_mul (k : Nat × (Nat → S.W)) (a : S.W) (u : Nat → S.W) : stp F k (fun j => S.mul a (u j)) = fun j => S.mul a (stp F k u j) := by
  funext j
  unfold stp
  rw [S.distrib, ← S.mul_assoc, f_mn]
theorem clr_add : ∀ (ks : List (Nat × (Nat → S.W))) (u v : Nat → S.W), clr F ks (fun j => S.add (u j) (v j)) = fun j => S.add (clr F ks u j) (clr F ks v j)
  | [], _, _ => rfl
  | k :: ks, u, v => by rw [clr_cons, stp_add, clr_add ks]; rfl
theorem clr_mul : ∀ (ks : List (Nat × (Nat → S.W))) (a : S.W) (u : Nat → S.W), clr F ks (fun j => S.mul a (u j)) = fun j => S.mul a (clr F ks u j)
  | [], _, _ => rfl
  | k :: ks, a, u => by rw [clr_cons, stp_mul, clr_mul ks]; rfl
theorem clr_zero : ∀ (ks : List (Nat × (Nat → S.W))), clr F ks (fun _ => S.zero) = fun _ => S.zero
  | [] => rfl
  | k :: ks => by rw [clr_cons, stp_zero rfl, clr_zero ks]
theorem clr_lin (ks : List (Nat × (Nat → S.W))) (c : Nat → S.W) (vs : Nat → Nat → S.W) : ∀ n, clr F ks (lin S c vs n) = lin S c (fun k => clr F ks (vs k)) n
  | 0 => clr_zero ks
  | n + 1 => by
    have e : lin S c vs (n + 1) = fun j => S.add (lin S c vs n j) (S.mul (c n) (vs n j)) := rfl
    rw [e, clr_add, clr_lin ks c vs n, clr_mul]; rfl
theorem clr_cong {w : Nat} : ∀ {ks : List (Nat × (Nat → S.W))} {u v : Nat → S.W}, (∀ k ∈ ks, k.1 < w) → (∀ j, j < w → u j = v j) → ∀ j, j < w → clr F ks u j = clr F ks v j
  | [], _, _, _, e => e
  | k :: ks, u, v, h, e => by
    rw [clr_cons, clr_cons]
    refine clr_cong (fun q hq => h q (List.mem_cons_of_mem _ hq)) fun j hj => ?_
    unfold stp
    rw [e j hj, e k.1 (h k (List.mem_cons_self ..))]
structure Kp (S : SR) (w : Nat) (ks : List (Nat × (Nat → S.W))) : Prop where
  lt : ∀ k ∈ ks, k.1 < w
  one : ∀ k ∈ ks, k.2 k.1 = S.one
  tri : ks.Pairwise fun a b => b.2 a.1 = S.zero
theorem Kp.nil {w : Nat} : Kp S w [] := ⟨by simp, by simp, .nil⟩
theorem clr_keep {p : Nat} : ∀ {ks : List (Nat × (Nat → S.W))} {u : Nat → S.W}, (∀ k ∈ ks, k.2 p = S.zero) → clr F ks u p = u p
  | [], _, _ => rfl
  | k :: ks, u, h => by
    rw [clr_cons, clr_keep fun q hq => h q (List.mem_cons_of_mem _ hq)]
    unfold stp
    rw [h k (List.mem_cons_self ..), S.mul_zero, S.add_zero]
theorem Kp.tail {w : Nat} {k : Nat × (Nat → S.W)} {ks : List (Nat × (Nat → S.W))} (h : Kp S w (k :: ks)) : Kp S w ks := ⟨fun q hq => h.lt q (List.mem_cons_of_mem _ hq), fun q hq => h.one q (List.mem_cons_of_mem _ hq), (List.pairwise_cons.mp h.tri).2⟩
theorem Kp.clr {w : Nat} : ∀ {ks : List (Nat × (Nat → S.W))} {u : Nat → S.W}, Kp S w ks → ∀ k ∈ ks, clr F ks u k.1 = S.zero
  | [], _, _, k, hk => by cases hk
  | q :: ks, u, h, k, hk => by
    rw [clr_cons]
    rcases List.mem_cons.mp hk with rfl | hk
    · rw [clr_keep fun b hb => (List.pairwise_cons.mp h.tri).1 b hb]
      unfold stp
      rw [h.one k (List.mem_cons_self ..), S.mul_one, F.add_neg]
    · exact Kp.clr h.tail k hk
theorem len_le : ∀ (w : Nat) (l : List Nat), l.Nodup → (∀ x ∈ l, x < w) → l.length ≤ w
  | 0, l, _, h => by
    cases l with
    | nil => exact Nat.le_refl _
    | cons a l => exact absurd (h a (List.mem_cons_self ..)) (Nat.not_lt_zero _)
  | w + 1, l, nd, h => by
    have := len_le w (l.erase w) (nd.erase w) fun x hx => by
      have h1 := (nd.mem_erase_iff.mp hx)
      have := h x h1.2
      have := h1.1
      omega
    have e := List.length_erase (a := w) (l := l)
    split at e <;> omega
theorem all_of_len {w : Nat} {l : List Nat} (nd : l.Nodup) (h : ∀ x ∈ l, x < w) (e : l.length = w) {j : Nat} (hj : j < w) : j ∈ l := by
  refine Classical.byContradiction fun n => ?_
  have := len_le w (j :: l) (List.nodup_cons.mpr ⟨n, nd⟩) fun x hx => by
    rcases List.mem_cons.mp hx with rfl | hx
    · exact hj
    · exact h x hx
  rw [List.length_cons] at this
  omega
theorem Kp.places {w : Nat} {ks : List (Nat × (Nat → S.W))} (h : Kp S w ks) : (ks.map Prod.fst).Nodup := by
  rw [List.nodup_iff_pairwise_ne, List.pairwise_map]
  refine List.Pairwise.imp_of_mem (fun {a b} ha hb e z => ?_) h.tri
  have := h.one b hb
  rw [← z, e] at this
  exact S.zo this
theorem Kp.len {w : Nat} {ks : List (Nat × (Nat → S.W))} (h : Kp S w ks) : ks.length ≤ w := by
  have := len_le w _ h.places fun x hx => by
    obtain ⟨k, hk, rfl⟩ := List.mem_map.mp hx
    exact h.lt k hk
  rw [List.length_map] at this
  exact this
theorem Kp.full {w : Nat} {ks : List (Nat × (Nat → S.W))} {u : Nat → S.W} (h : Kp S w ks) (e : ks.length = w) : ∀ j, j < w → Mine.clr F ks u j = S.zero := fun j hj => by
  have := all_of_len h.places (fun x hx => by
    obtain ⟨k, hk, rfl⟩ := List.mem_map.mp hx
    exact h.lt k hk) (by rw [List.length_map]; exact e) hj
  obtain ⟨k, hk, rfl⟩ := List.mem_map.mp this
  exact h.clr k hk
open Classical in
noncomputable def lead (v : Nat → S.W) : Nat → Option Nat
  | 0 => none
  | w + 1 => match lead v w with
    | some p => some p
    | none => if v w = S.zero then none else some w
theorem lead_none {v : Nat → S.W} : ∀ {w : Nat}, lead v w = none → ∀ j, j < w → v j = S.zero
  | 0, _, j, hj => absurd hj (Nat.not_lt_zero j)
  | w + 1, h, j, hj => by
    unfold lead at h
    split at h
    · cases h
    · rename_i e
      split at h
      · rename_i z
        by_cases e' : j = w
        · rw [e']; exact z
        · exact lead_none e j (by omega)
      · cases h
theorem lead_some {v : Nat → S.W} {p : Nat} : ∀ {w : Nat}, lead v w = some p → p < w ∧ v p ≠ S.zero ∧ ∀ j, j < p → v j = S.zero
  | 0, h => by cases h
  | w + 1, h => by
    unfold lead at h
    split at h
    · rename_i q e
      cases h
      obtain ⟨a, b⟩ := lead_some e
      exact ⟨by omega, b⟩
    · rename_i e
      split at h
      · cases h
      · rename_i z
        cases h
        exact ⟨by omega, z, lead_none e⟩
theorem lead_of_zero {v : Nat → S.W} {w : Nat} (h : ∀ j, j < w → v j = S.zero) : lead v w = none := by
  cases e : lead v w with
  | none => rfl
  | some p => exact absurd (h p (lead_some e).1) (lead_some e).2.1
open Classical in
noncomputable def kpF (F : Fld S) (w : Nat) (ks : List (Nat × (Nat → S.W))) (r : Nat → S.W) : List (Nat × (Nat → S.W)) :=
  if ks.length = w then ks else match lead (clr F ks r) w with
    | none => ks
    | some p => ks ++ [(p, fun j => S.mul (F.inv (clr F ks r p)) (clr F ks r j))]
theorem kpF_cases {w : Nat} {ks : List (Nat × (Nat → S.W))} {r : Nat → S.W} (M : List (Nat × (Nat → S.W)) → Prop) (h1 : ks.length = w → M ks) (h2 : (∀ j, j < w → clr F ks r j = S.zero) → M ks) (h3 : ∀ p, p < w → clr F ks r p ≠ S.zero → M (ks ++ [(p, fun j => S.mul (F.inv (clr F ks r p)) (clr F ks r j))])) : M (kpF F w ks r) := by
  unfold kpF
  split
  · rename_i e; exact h1 e
  · split
    · rename_i e; exact h2 (lead_none e)
    · rename_i p e; exact h3 p (lead_some e).1 (lead_some e).2.1
theorem kpF_Kp {w : Nat} {ks : List (Nat × (Nat → S.W))} {r : Nat → S.W} (h : Kp S w ks) : Kp S w (kpF F w ks r) := by
  refine kpF_cases (fun l => Kp S w l) (fun _ => h) (fun _ => h) fun p hp np => ?_
  refine ⟨fun k hk => ?_, fun k hk => ?_, List.pairwise_append.mpr ⟨h.tri, List.pairwise_singleton _ _, fun a ha b hb => ?_⟩⟩
  · rcases List.mem_append.mp hk with hk | hk
    · exact h.lt k hk
    · rw [List.mem_singleton.mp hk]; exact hp
  · rcases List.mem_append.mp hk with hk | hk
    · exact h.one k hk
    · rw [List.mem_singleton.mp hk]
      show S.mul _ _ = _
      rw [S.mul_comm, F.mul_inv _ np]
  · rw [List.mem_singleton.mp hb]
    show S.mul _ (clr F ks r a.1) = _
    rw [h.clr a ha, S.mul_zero]
theorem kpF_old {w : Nat} {ks : List (Nat × (Nat → S.W))} {r u : Nat → S.W} (z : ∀ j, j < w → clr F ks u j = S.zero) : ∀ j, j < w → clr F (kpF F w ks r) u j = S.zero := by
  refine kpF_cases (fun l => ∀ j, j < w → clr F l u j = S.zero) (fun _ => z) (fun _ => z) fun p hp np j hj => ?_
  rw [clr_snoc]
  unfold stp
  rw [z j hj, z p hp, f_nz, f_zm, S.add_zero]
theorem kpF_new {w : Nat} {ks : List (Nat × (Nat → S.W))} {r : Nat → S.W} (h : Kp S w ks) : ∀ j, j < w → clr F (kpF F w ks r) r j = S.zero := by
  refine kpF_cases (fun l => ∀ j, j < w → clr F l r j = S.zero) (fun e => h.full e) (fun z => z) fun p hp np j hj => ?_
  rw [clr_snoc]
  show S.add _ (S.mul (F.neg (clr F ks r p)) (S.mul (F.inv _) _)) = _
  rw [← S.mul_assoc, f_nm, F.mul_inv _ np, f_nm, f_om, F.add_neg]
noncomputable def kpL (F : Fld S) (w : Nat) (rs : List (Nat → S.W)) : List (Nat × (Nat → S.W)) := rs.foldl (kpF F w) []
theorem kpL_snoc {w : Nat} {rs : List (Nat → S.W)} {r : Nat → S.W} : kpL F w (rs ++ [r]) = kpF F w (kpL F w rs) r := by
  unfold kpL
  rw [List.foldl_append]; rfl
theorem kpL_ind {w : Nat} (M : List (Nat → S.W) → List (Nat × (Nat → S.W)) → Prop) (h0 : M [] []) (h1 : ∀ rs ks r, Kp S w ks → M rs ks → M (rs ++ [r]) (kpF F w ks r)) (rs : List (Nat → S.W)) : Kp S w (kpL F w rs) ∧ M rs (kpL F w rs) := by
  have key : ∀ n rs, rs.length = n → Kp S w (kpL F w rs) ∧ M rs (kpL F w rs) := by
    intro n
    induction n with
    | zero =>
      intro rs e
      cases List.length_eq_zero_iff.mp e
      exact ⟨Kp.nil, h0⟩
    | succ n ih =>
      intro rs e
      have ne : rs ≠ [] := fun z => by rw [z] at e; cases e
      have sp := List.dropLast_concat_getLast ne
      obtain ⟨a, b⟩ := ih rs.dropLast (by rw [List.length_dropLast, e]; rfl)
      rw [← sp, kpL_snoc]
      exact ⟨kpF_Kp a, h1 _ _ _ a b⟩
  exact key _ rs rfl
theorem kpL_Kp {w : Nat} (rs : List (Nat → S.W)) : Kp S w (kpL F w rs) := (kpL_ind (fun _ _ => True) trivial (fun _ _ _ _ _ => trivial) rs).1
theorem kpL_clr {w : Nat} (rs : List (Nat → S.W)) : ∀ r ∈ rs, ∀ j, j < w → clr F (kpL F w rs) r j = S.zero := (kpL_ind (fun rs ks => ∀ r ∈ rs, ∀ j, j < w → clr F ks r j = S.zero) (by simp) (fun rs ks r K M q hq => by
  rcases List.mem_append.mp hq with hq | hq
  · exact kpF_old (M q hq)
  · rw [List.mem_singleton.mp hq]; exact kpF_new K) rs).2
def kv (ks : List (Nat × (Nat → S.W))) : Nat → Nat → S.W := fun i => (ks.getD i (0, fun _ => S.zero)).2
def kp (ks : List (Nat × (Nat → S.W))) : Nat → Nat := fun i => (ks.getD i (0, fun _ => S.zero)).1
theorem getD_mem {ks : List (Nat × (Nat → S.W))} {i : Nat} (h : i < ks.length) : ks.getD i (0, fun _ => S.zero) ∈ ks := by
  rw [List.getD_eq_getElem?_getD, List.getElem?_eq_getElem h]
  exact List.getElem_mem h
theorem Kp.ind {w : Nat} {ks : List (Nat × (Nat → S.W))} (h : Kp S w ks) : Ind S w ks.length (kv ks) := by
  refine ind_up (kp ks) (fun i hi => h.lt _ (getD_mem hi)) (fun i hi => h.one _ (getD_mem hi)) fun i j hij hj => ?_
  have := List.pairwise_iff_getElem.mp h.tri i j (by omega) hj hij
  unfold kv kp
  rw [List.getD_eq_getElem?_getD, List.getElem?_eq_getElem hj, List.getD_eq_getElem?_getD, List.getElem?_eq_getElem (by omega : i < ks.length)]
  exact this
theorem clr_spn {w n : Nat} {vs : Nat → Nat → S.W} : ∀ {ks : List (Nat × (Nat → S.W))} {u : Nat → S.W}, (∀ k ∈ ks, Spn S w n vs k.2) → Spn S w n vs u → Spn S w n vs (clr F ks u)
  | [], _, _, h => h
  | k :: ks, u, hk, h => by
    rw [clr_cons]
    exact clr_spn (fun q hq => hk q (List.mem_cons_of_mem _ hq)) (h.add ((hk k (List.mem_cons_self ..)).mul _))
theorem kpF_spn {w n : Nat} {vs : Nat → Nat → S.W} {ks : List (Nat × (Nat → S.W))} {r : Nat → S.W} (h : ∀ k ∈ ks, Spn S w n vs k.2) (g : Spn S w n vs r) : ∀ k ∈ kpF F w ks r, Spn S w n vs k.2 := by
  refine kpF_cases (fun l => ∀ k ∈ l, Spn S w n vs k.2) (fun _ => h) (fun _ => h) fun p hp np k hk => ?_
  rcases List.mem_append.mp hk with hk | hk
  · exact h k hk
  · rw [List.mem_singleton.mp hk]
    exact (clr_spn h g).mul _
theorem kpL_spn {w n : Nat} {vs : Nat → Nat → S.W} (rs : List (Nat → S.W)) (h : ∀ r ∈ rs, Spn S w n vs r) : ∀ k ∈ kpL F w rs, Spn S w n vs k.2 := by
  refine (kpL_ind (F := F) (w := w) (fun rs ks => (∀ r ∈ rs, Spn S w n vs r) → ∀ k ∈ ks, Spn S w n vs k.2) (fun _ => by simp) (fun rs ks r K M h => ?_) rs).2 h
  exact kpF_spn (M fun q hq => h q (List.mem_append_left _ hq)) (h r (List.mem_append_right _ (List.mem_singleton_self r)))
theorem clr_from {w n : Nat} {vs : Nat → Nat → S.W} : ∀ {ks : List (Nat × (Nat → S.W))} {u : Nat → S.W}, (∀ k ∈ ks, Spn S w n vs k.2) → Spn S w n vs (fun j => S.add (clr F ks u j) (F.neg (u j)))
  | [], u, _ => ⟨fun _ => S.zero, fun j _ => by rw [lin_zero]; exact F.add_neg _⟩
  | k :: ks, u, hk => by
    rw [clr_cons]
    have h1 := clr_from (u := stp F k u) fun q hq => hk q (List.mem_cons_of_mem _ hq)
    have h2 := (hk k (List.mem_cons_self ..)).mul (F.neg (u k.1))
    refine (h1.add h2).congr fun j _ => ?_
    show _ = S.add (S.add _ (F.neg (S.add (u j) (S.mul (F.neg (u k.1)) (k.2 j))))) _
    rw [f_na, S.add_assoc, S.add_assoc, S.add_comm (F.neg (S.mul _ _)), F.add_neg, S.add_zero]
theorem kpL_from {w : Nat} (rs : List (Nat → S.W)) : ∀ r ∈ rs, Spn S w (kpL F w rs).length (kv (kpL F w rs)) r := fun r hr => by
  have h := clr_from (F := F) (w := w) (n := (kpL F w rs).length) (vs := kv (kpL F w rs)) (ks := kpL F w rs) (u := r) fun k hk => by
    obtain ⟨i, hi, e⟩ := List.getElem_of_mem hk
    have := Spn.gen (S := S) (w := w) (vs := kv (kpL F w rs)) hi
    have e2 : kv (kpL F w rs) i = k.2 := by
      unfold kv
      rw [List.getD_eq_getElem?_getD, List.getElem?_eq_getElem hi, ← e]; rfl
    rw [e2] at this
    exact this
  refine (h.mul (F.neg S.one)).congr fun j hj => ?_
  rw [kpL_clr rs r hr j hj, f_za, f_nm, f_om, f_nn]
theorem kpL_count {w n : Nat} {vs : Nat → Nat → S.W} (rs : List (Nat → S.W)) (h : ∀ r ∈ rs, Spn S w n vs r) (g : Ind S w n vs) (m : ∀ i, i < n → ∃ r ∈ rs, ∀ j, j < w → vs i j = r j) : (kpL F w rs).length = n := by
  have h1 : (kpL F w rs).length ≤ n := steinitz F (kpL_Kp (F := F) rs).ind fun i hi => kpL_spn rs h _ (getD_mem hi)
  have h2 : n ≤ (kpL F w rs).length := steinitz F g fun i hi => by
    obtain ⟨r, hr, e⟩ := m i hi
    exact (kpL_from rs r hr).congr e
  omega
def Rl (S : SR) (w n : Nat) (rs : Nat → Nat → S.W) (u v : Nat → S.W) : Prop := ∀ j, j < w → v j = S.add (u j) (lin S (fun k => v (w + k)) rs n j)
theorem Rl.stp {w n : Nat} {rs : Nat → Nat → S.W} {u v : Nat → S.W} {k : Nat × (Nat → S.W)} (h : Rl S w n rs u v) (g : Rl S w n rs (fun _ => S.zero) k.2) : Rl S w n rs u (stp F k v) := fun j hj => by
  show S.add (v j) _ = _
  rw [h j hj, g j hj, f_za, S.add_assoc]
  congr 1
  rw [← lin_mul, ← lin_add]; rfl
theorem Rl.clr {w n : Nat} {rs : Nat → Nat → S.W} {u : Nat → S.W} : ∀ {ks : List (Nat × (Nat → S.W))} {v : Nat → S.W}, Rl S w n rs u v → (∀ k ∈ ks, Rl S w n rs (fun _ => S.zero) k.2) → Rl S w n rs u (clr F ks v)
  | [], _, h, _ => h
  | k :: ks, v, h, g => by
    rw [clr_cons]
    exact Rl.clr (h.stp (g k (List.mem_cons_self ..))) fun q hq => g q (List.mem_cons_of_mem _ hq)
theorem Rl.mul {w n : Nat} {rs : Nat → Nat → S.W} {v : Nat → S.W} (a : S.W) (h : Rl S w n rs (fun _ => S.zero) v) : Rl S w n rs (fun _ => S.zero) fun j => S.mul a (v j) := fun j hj => by
  show S.mul a (v j) = _
  rw [h j hj, f_za, f_za, ← lin_mul]
theorem kpL_Rl {w n : Nat} {rs : Nat → Nat → S.W} (ms : List (Nat → S.W)) (h : ∀ r ∈ ms, Rl S w n rs (fun _ => S.zero) r) : ∀ k ∈ kpL F w ms, Rl S w n rs (fun _ => S.zero) k.2 := by
  refine (kpL_ind (F := F) (w := w) (fun ms ks => (∀ r ∈ ms, Rl S w n rs (fun _ => S.zero) r) → ∀ k ∈ ks, Rl S w n rs (fun _ => S.zero) k.2) (fun _ => by simp) (fun ms ks r K M h => ?_) ms).2 h
  have M' := M fun q hq => h q (List.mem_append_left _ hq)
  refine kpF_cases (fun l => ∀ k ∈ l, Rl S w n rs (fun _ => S.zero) k.2) (fun _ => M') (fun _ => M') fun p hp np k hk => ?_
  rcases List.mem_append.mp hk with hk | hk
  · exact M' k hk
  · rw [List.mem_singleton.mp hk]
    exact ((h r (List.mem_append_right _ (List.mem_singleton_self r))).clr M').mul _
theorem Rl.parts (F : Fld S) {w n : Nat} {rs : Nat → Nat → S.W} {u v : Nat → S.W} (h : Rl S w n rs u v) (z : ∀ j, j < w → v j = S.zero) : ∀ j, j < w → u j = lin S (fun k => F.neg (v (w + k))) rs n j := fun j hj => by
  have e := h j hj
  rw [z j hj] at e
  rw [lin_neg]
  exact f_uniq (by rw [S.add_comm]; exact e.symm)
end
end Mine
namespace L2
open PySem Mine
def KAt (C : Addr) (fs : List (Str × V)) (H : Hp) (k : V) : Prop := ∃ p dx, k = .ref p ∧ H p = some (.ins C dx fs)
theorem KAt.same {C : Addr} {fs : List (Str × V)} {H H' : Hp} {k : V} (e : Same H H') (h : KAt C fs H k) : KAt C fs H' k := by
  obtain ⟨p, dx, rfl, h⟩ := h
  exact ⟨p, dx, rfl, e _ _ h⟩
def Sml (S : SR) (n : Nat) : Prop := n ≤ 60000000 ∨ ∀ k y, S.sz k y
theorem Sml.le {S : SR} {m n : Nat} (h : Sml S n) (e : m ≤ n) : Sml S m := h.imp (Nat.le_trans e) id
def spBin (C : Addr) (fs : List (Str × V)) (S : SR) (is : Hp → V → S.W → Prop) (f : S.W → S.W → S.W) : Sp := fun vs H Q _ => ∃ k x y a b m n, vs = [k, x, y] ∧
  (KAt C fs H k ∧ is H x a ∧ is H y b ∧ S.sz m a ∧ S.sz n b ∧ Sml S (m + n)) ∧ ∀ v H', Same H H' → is H' v (f a b) → Q v H'
def spNul (C : Addr) (fs : List (Str × V)) (S : SR) (is : Hp → V → S.W → Prop) (z : S.W) : Sp := fun vs H Q _ => ∃ k, vs = [k] ∧ KAt C fs H k ∧ ∀ v H', Same H H' → is H' v z → Q v H'
def spPk (b : Bool) : Sp := fun vs H Q _ => ∃ x, vs = [x] ∧ Q (.bl b) H
def spNeg (C : Addr) (fs : List (Str × V)) (S : SR) (is : Hp → V → S.W → Prop) (f : S.W → S.W) : Sp := fun vs H Q _ => ∃ k x a, vs = [k, x] ∧ (KAt C fs H k ∧ is H x a) ∧ ∀ v H', Same H H' → is H' v (f a) → Q v H'
def spInv (C : Addr) (fs : List (Str × V)) (S : SR) (is : Hp → V → S.W → Prop) (f : S.W → S.W) : Sp := fun vs H Q _ => ∃ k x a, vs = [k, x] ∧ (KAt C fs H k ∧ is H x a ∧ a ≠ S.zero) ∧ ∀ v H', Same H H' → is H' v (f a) → Q v H'
structure KindR (P : Program) (w : World) (K : PySem.W.Frag) (mg : Str → Option Value) (base : Heap) where
  S : SR
  C : Addr
  fs : List (Str × V)
  cl : Cls K C
  is : Hp → V → S.W → Prop
  same : ∀ {H H' : Hp} {v : V} {x : S.W}, SameT H H' → is H v x → is H' v x
  isd : ∀ {H : Hp} {v : V} {x : S.W}, is H v x → Is K H v (S.data x)
  F : Fld S
  f_minus : Addr
  d_minus : FuncData
  t_minus : Meth K C "minus" f_minus
  b_minus : Binds K d_minus ["self", "x"] []
  l_minus : fs.lookup ("minus" : Str) = none
  G_minus : FnOk P w K mg base CX0 40 f_minus d_minus ["self", "x"] (spNeg C fs S is F.neg)
  f_inverse : Addr
  d_inverse : FuncData
  t_inverse : Meth K C "inverse" f_inverse
  b_inverse : Binds K d_inverse ["self", "x"] []
  l_inverse : fs.lookup ("inverse" : Str) = none
  G_inverse : FnOk P w K mg base CX0 40 f_inverse d_inverse ["self", "x"] (spInv C fs S is F.inv)
  f_is_field : Addr
  d_is_field : FuncData
  t_is_field : Meth K C "is_field" f_is_field
  b_is_field : Binds K d_is_field ["self"] []
  l_is_field : fs.lookup ("is_field" : Str) = none
  G_is_field : FnOk P w K mg base CX0 40 f_is_field d_is_field ["self"] (spPk true)
  f_plus : Addr
  d_plus : FuncData
  t_plus : Meth K C "plus" f_plus
  b_plus : Binds K d_plus ["self", "x", "y"] []
  l_plus : fs.lookup ("plus" : Str) = none
  G_plus : FnOk P w K mg base CX0 40 f_plus d_plus ["self", "x", "y"] (spBin C fs S is S.add)
  f_times : Addr
  d_times : FuncData
  t_times : Meth K C "times" f_times
  b_times : Binds K d_times ["self", "x", "y"] []
  l_times : fs.lookup ("times" : Str) = none
  G_times : FnOk P w K mg base CX0 40 f_times d_times ["self", "x", "y"] (spBin C fs S is S.mul)
  f_nought : Addr
  d_nought : FuncData
  t_nought : Meth K C "nought" f_nought
  b_nought : Binds K d_nought ["self"] []
  l_nought : fs.lookup ("nought" : Str) = none
  G_nought : FnOk P w K mg base CX0 40 f_nought d_nought ["self"] (spNul C fs S is S.zero)
  f_one : Addr
  d_one : FuncData
  t_one : Meth K C "one" f_one
  b_one : Binds K d_one ["self"] []
  l_one : fs.lookup ("one" : Str) = none
  G_one : FnOk P w K mg base CX0 40 f_one d_one ["self"] (spNul C fs S is S.one)
section
variable {P : Program} {w : World} {K : PySem.W.Frag} {mg : Str → Option Value} {base : Heap}
theorem KindR.neD (R : KindR P w K mg base) {H : Hp} {x y : V} {a b : R.S.W} {Q : VK} (hx : R.is H x a) (hy : R.is H y b) (e : a = b) (q : Q (.bl false) H) : rNeD K x y H Q :=
  ⟨_, _, R.isd hx, R.isd hy, R.S.sh _, R.S.sh _, R.S.nm _ _, by subst e; rw [R.S.eq]; exact q⟩
theorem KindR.neT (R : KindR P w K mg base) {H : Hp} {x y : V} {a b : R.S.W} {Q : VK} (hx : R.is H x a) (hy : R.is H y b) (e : a ≠ b) (q : Q (.bl true) H) : rNeD K x y H Q :=
  ⟨_, _, R.isd hx, R.isd hy, R.S.sh _, R.S.sh _, R.S.nm _ _, by rw [R.S.ne _ _ e]; exact q⟩
theorem KindR.eqD (R : KindR P w K mg base) {H : Hp} {x y : V} {a b : R.S.W} {Q : VK} (hx : R.is H x a) (hy : R.is H y b) (e : a = b) (q : Q (.bl true) H) : rEqD K x y H Q :=
  ⟨_, _, R.isd hx, R.isd hy, R.S.sh _, R.S.sh _, R.S.nm _ _, by subst e; rw [R.S.eq]; exact q⟩
end
def IsF (H : Hp) (v : V) (a b : Int) : Prop := ∃ p, v = .ref p ∧ H p = some (.tup [.int a, .int b])
theorem IsF.same {H H' : Hp} {v : V} {a b : Int} (e : SameT H H') (h : IsF H v a b) : IsF H' v a b := by
  obtain ⟨p, rfl, h⟩ := h
  exact ⟨p, rfl, e _ _ h⟩
theorem IsF.is {K : PySem.W.Frag} {H : Hp} {v : V} {a b : Int} (h : IsF H v a b) : Is K H v (.tuple [.int a, .int b]) := by
  obtain ⟨p, rfl, h⟩ := h
  exact .tup (SqT.of h) (.cons (.int _) (.cons (.int _) .nil))
theorem IsF.new {H : Hp} {p : Addr} {a b : Int} : IsF (upd H p (.tup [.int a, .int b])) (.ref p) a b := ⟨p, rfl, upd_same⟩
def isFr (H : Hp) (v : V) (x : Fr) : Prop := IsF H v x.t x.b
def isRe (p : Int) (_ : Hp) (v : V) (x : Re p) : Prop := v = .int x.x
def pfs (p : Int) : List (Str × V) := putF "prime" (.int p) []
theorem pfs_prime (p : Int) : (pfs p).lookup ("prime" : Str) = some (.int p) := by
  unfold pfs
  rw [lookup_putF, if_pos rfl]
theorem pfs_no (p : Int) {m : Str} (h : ¬ m = "prime") : (pfs p).lookup m = none := by
  unfold pfs
  rw [lookup_putF, if_neg h]; rfl
theorem same_made {H : Hp} {C x dx : Addr} {fs : List (Str × V)} (n : H x = none) (m : H dx = none) : Same H (upd (upd H dx (.own x)) x (.ins C dx fs)) := fun b o e => by
  rw [upd_ne (ne_of_none e n), upd_ne (ne_of_none e m)]; exact e
theorem cut_take (xs : List V) (k : Nat) : cutV xs none (some (k : Int)) = xs.take k := by
  unfold cutV
  rw [HT.sIx_none, HT.sIx_nat, List.drop_zero, Nat.sub_zero]
  by_cases h : k ≤ xs.length
  · rw [Nat.min_eq_left h]
  · rw [Nat.min_eq_right (by omega), List.take_length, List.take_of_length_le (by omega)]
theorem decI {i j : Int} (e : i = j) : decide (V.int i = V.int j) = true := decide_eq_true (congrArg V.int e)
theorem sz_bitsG {x : Int} {n : Nat} (h : x.natAbs ≤ 2 ^ n) : Builtin.Int.intBits x ≤ n + 1 := intBits_le_iff.mpr (Nat.lt_of_le_of_lt h (Nat.pow_lt_pow_right (by decide) (Nat.lt_succ_self _)))
theorem mulG {x y : Int} {m n : Nat} (h1 : x.natAbs ≤ 2 ^ m) (h2 : y.natAbs ≤ 2 ^ n) (h : m + n ≤ 60000000) : CMulG x y := by
  have a := sz_bitsG h1
  have b := sz_bitsG h2
  show _ ≤ 2 ^ 27
  have e : (2 : Nat) ^ 27 = 134217728 := by decide
  omega
def KindR.Wt {P : Program} {w : World} {K : PySem.W.Frag} {mg : Str → Option Value} {base : Heap} (R : KindR P w K mg base) (x : Nat → R.S.W) (m : Nat) : Nat → V → Hp → Prop := fun j u H => R.is H u (x j) ∧ R.S.sz m (x j)
abbrev KindR.Row {P : Program} {w : World} {K : PySem.W.Frag} {mg : Str → Option Value} {base : Heap} (R : KindR P w K mg base) (n : Nat) (x : Nat → R.S.W) (m : Nat) : V → Hp → Prop := TupOf (R.Wt x m) n
abbrev KindR.Seq {P : Program} {w : World} {K : PySem.W.Frag} {mg : Str → Option Value} {base : Heap} (R : KindR P w K mg base) (n : Nat) (x : Nat → R.S.W) (m : Nat) : V → Hp → Prop := SeqOf K (R.Wt x m) n
abbrev KindR.Tab {P : Program} {w : World} {K : PySem.W.Frag} {mg : Str → Option Value} {base : Heap} (R : KindR P w K mg base) (h n : Nat) (x : Nat → Nat → R.S.W) (m : Nat) : V → Hp → Prop := TupOf (fun j u H => R.Row n (x j) m u H) h
section
variable {P : Program} {w : World} {K : PySem.W.Frag} {mg : Str → Option Value} {base : Heap} {R : KindR P w K mg base} {h n m : Nat} {x : Nat → R.S.W} {y : Nat → Nat → R.S.W} {v : V} {H H' : Hp}
theorem KindR.Wt.same (s : SameT H H') {j : Nat} (e : R.Wt x m j v H) : R.Wt x m j v H' := ⟨R.same s e.1, e.2⟩
theorem KindR.Row.same (s : SameT H H') (e : R.Row n x m v H) : R.Row n x m v H' := e.mono s fun _ _ _ q => KindR.Wt.same s q
theorem KindR.Seq.same (s : Same H H') (e : R.Seq n x m v H) : R.Seq n x m v H' := e.mono s fun _ _ _ q => KindR.Wt.same s.t q
theorem KindR.Tab.same (s : SameT H H') (e : R.Tab h n y m v H) : R.Tab h n y m v H' := e.mono s fun _ _ _ q => KindR.Row.same s q
end
end L2
namespace L2
open PySem PySem.Spec PyProof.Rows
def rInsert : V → List V → Hp → VK → Prop := fun x vs H Q => ∃ l xs i y, x = .ref l ∧ vs = [.int i, y] ∧ H l = some (.lst xs) ∧ 0 ≤ i ∧ i < 2 ^ 62 ∧ xs.length < sizeLine ∧ Q .non (upd H l (.lst (xs.take (min i.toNat xs.length) ++ y :: xs.drop (min i.toNat xs.length))))
theorem ins_eq (l : List Value) (k : Nat) (y : Value) : (l.toArray.extract 0 k).push y ++ l.toArray.extract k = (l.take k ++ y :: l.drop k).toArray := by
  apply Array.toList_inj.mp
  simp
  exact List.take_of_length_le (by simp)
theorem mt_insert {X : Cx} : MtM X "list.insert" rInsert := by
  intro pins s σ H x vs v us Q I rx rv h
  obtain ⟨l, xs, i, y, rfl, rfl, hH, h1, h2, hz, q⟩ := h
  cases rx
  cases rv with
  | cons ri rr =>
    obtain ⟨t, rfl⟩ := ri
    obtain ⟨u, rfl, ru⟩ := Vals.one rr
    obtain ⟨z, its, n, r, hl, e⟩ := I.lstM hH
    refine call_meets F.slot_list_insert ⟨_, e, rfl⟩ F.entry_list_insert (F.args_list_insert_3 _ _ _)
      (AutoSeq1.list_insert_list_int_val_1 l its.toArray n i t u (by simp [fitsIndex_both (show -(2 ^ 63) ≤ i by omega) (show i < 2 ^ 63 by omega)]) (by rw [List.size_toArray]; omega)) ⟨e, ?_⟩
    refine ⟨.non, _, I.lset (its' := its.take (min i.toNat its.length) ++ u :: its.drop (min i.toNat its.length)) hH e ?_ ?_ ?_, rfl, q⟩
    · show (its.toArray.extract 0 (if i < 0 then (i + (its.toArray.size : Int)).toNat else min i.toNat its.toArray.size)).push u ++ its.toArray.extract (if i < 0 then (i + (its.toArray.size : Int)).toNat else min i.toNat its.toArray.size) = _
      rw [if_neg (by omega)]
      exact ins_eq its (min i.toNat its.length) u
    · rw [hl]
      exact (r.take _).append (.cons ru (r.drop _))
    · rw [List.length_append, List.length_cons, List.length_take, List.length_drop]
      omega
def tLRng (ta : TA) : TE := fun σ H Q => ta σ H fun vs H1 => ∃ n : Nat, vs = [.int n] ∧ n ≤ 1000 ∧ ∀ p, H1 p = none → Q (.ref p) (upd H1 p (.lst ((List.range n).map fun i => V.int (i : Nat))))
theorem pe_lrange {X : Cx} {a : Expr} {ta : TA} {p p' pos pos' : Pos} (hc : X.calm = true) (hg : Gl X "list") (hm : X.mg "list" = none) (hg' : Gl X "range") (hm' : X.mg "range" = none) (ha : PA X [a] ta)
    (hs : starEach [a] X.env = [(false, eval a X.env)] := by rfl) (hs' : starEach [.Call (.Name "range" p') [a] [] pos'] X.env = [(false, eval (.Call (.Name "range" p') [a] [] pos') X.env)] := by rfl) :
    PE X (.Call (.Name "list" p) [.Call (.Name "range" p') [a] [] pos'] [] pos) (tLRng ta) := by
  intro pins s σ H Q I h
  refine wpAny_Call_Name_kw (ld_blt I hg hm boot_list ?_)
  refine PyProof.Rows.callWith_type1 ?_ hs' rfl
  rw [hs']
  refine Calls.spliced_cons ?_
  refine Call_ (ld_blt I hg' hm' boot_range (PyProof.Rows.callWith_type1 (thn (ha pos' pins s σ H _ I h) fun us s1 ⟨vs, H1, I1, r1, q1⟩ => ?_) hs rfl))
  obtain ⟨n, e, hn, q⟩ := q1
  subst e
  have line : 1000 < sizeLine := by decide
  cases r1 with
  | cons r rr =>
    cases rr
    obtain ⟨t, rfl⟩ := r
    refine call_range_1 ?_
    refine Calls.spliced_nil ?_
    have sz : (s1.heap.push { cls := .type "range", data := .fields #[.int 0 s1.toks, .int n t, .int 1 (s1.toks + 1)] }).objs.size = s1.heap.objs.size + 1 := Heap.size_push ..
    refine call_list_range (n := n) (I1.ok.hd hc) (IsRange.new ..) (small_one (by omega) (by omega) (by omega) (by omega)) (by rw [rangeSize_one]; split <;> omega) (by omega) fun h' tk acc' c' hk hS hacc => ?_
    have up : ∀ b o, s1.heap.get? b = some o → h'.get? b = some o := fun b o e => hk b o (Heap.get?_push_of_some _ e)
    have sz2 : s1.heap.objs.size ≤ (s1.heap.push { cls := .type "range", data := .fields #[.int 0 s1.toks, .int n t, .int 1 (s1.toks + 1)] }).objs.size := by rw [sz]; omega
    obtain ⟨hsz, hit⟩ := hacc
    have vals : Vals ((List.range n).map fun i => V.int (i : Nat)) acc'.toList := by
      have key : ∀ (m k : Nat) (ls : List Value), ls.length = m → (∀ i v, ls[i]? = some v → ∃ t, v = Value.int ((k + i : Nat) : Int) t) → Vals ((List.range' k m).map fun i => V.int (i : Nat)) ls := by
        intro m
        induction m with
        | zero => intro k ls e _; cases List.length_eq_zero_iff.mp e; exact .nil
        | succ m ih =>
          intro k ls e g
          cases ls with
          | nil => cases e
          | cons v ls =>
            rw [List.range'_succ, List.map_cons]
            obtain ⟨t, rfl⟩ := g 0 v rfl
            exact .cons ⟨t, rfl⟩ (ih (k + 1) ls (by simpa using e) fun i v hv => by
              obtain ⟨t, e2⟩ := g (i + 1) v (by simpa using hv)
              exact ⟨t, by rw [e2, show k + (i + 1) = k + 1 + i by omega]⟩)
      have := key n 0 acc'.toList (by simpa using hsz) fun i v hv => by
        obtain ⟨t, e2⟩ := hit i v (by rw [← Array.getElem?_toList]; exact hv)
        exact ⟨t, by rw [e2]; congr 1; omega⟩
      rw [← List.range_eq_range'] at this
      exact this
    exact ⟨.ref _, _, I1.laid (t' := tk) up sz2 (show ObjOk X.prog X.w _ h' _ (.lst _) from ⟨by rw [List.length_map, List.length_range]; omega, acc'.toList, c', vals, by rw [Array.toArray_toList]; exact hS⟩), rfl, q _ (I1.hok.fresh sz2)⟩
end L2
namespace L2
open PySem PySem.Spec PyProof.Rows PySem.Builtin PySem.Builtin.Str
section
variable {X : Cx}
theorem ps_forget {st : Stmt} {t : TS} (i : Nat) (h : PS X st t) : PS X st (fun D σ H => t D (σ.set i none) H) := by
  intro pins s σ H D I q
  refine h pins s (σ.set i none) H D (I.weak List.length_set fun j v e => ?_) q
  by_cases z : i = j
  · subst z
    by_cases z2 : i < σ.length
    · rw [List.getElem?_set_self z2] at e; cases e
    · rw [List.getElem?_eq_none (by rw [List.length_set]; omega)] at e; cases e
  · rwa [List.getElem?_set_ne z] at e
end
end L2
namespace L2
open PySem PySem.Spec PyProof.Rows
end L2
namespace HT
open PySem PySem.Spec PyProof.Rows L2
section
variable {prog : Program} {w : World} {A : Around} {E : Value → Shared → Prop} {s : Shared}
theorem getItem_tuple_all {t sl : Addr} {items : Array Value} {vl vu : Value} {lo hi : Option Int} {Q : Value → Shared → Prop} (ht : IsTup s.heap t items) (hs : s.heap.IsSliceOf sl vl vu .none) (pl : IsPart vl lo) (pu : IsPart vu hi)
    (hw : sIx items.size 0 lo = 0 ∧ sIx items.size items.size hi = items.size) (h : Q (.ref t) s) : wpAny (model prog w) A (getItem (.ref t) (.ref sl)) Q E s := by
  obtain ⟨os, hos, hcs, hds⟩ := id hs
  have hTs : s.TypeIs (.ref sl) "slice" := ⟨os, hos, hcs⟩
  unfold getItem
  try with_reducible refine wpAny_holding ?_
  first | refine wpAny_bind (wpAny_pure ?_) | skip
  refine wpAny_bind (wpAny_sequenceKey ht.typeIs (by decide) ?_)
  refine wpAny_bind (wpAny_callSpecial?_slot (name := Str.ofString "__getitem__") ht.typeIs PyProof.Rows.slot_tuple_getitem
    (wpAny_call_entry PyProof.Rows.slot_tuple_getitem ht.typeIs entry_tuple_getitem ?_ (args_tuple_getitem _ _)))
  show wpAny _ _ (Builtin.Tuple.tupleItemsOf (.ref t) >>= _) _ _ s
  refine wpAny_bind (tupleItemsOf_ ht ?_)
  refine wpAny_bind (wpAny_typeOf hTs ?_)
  rw [if_pos (by decide)]
  refine wpAny_bind (sliceApplied_gen hs pl pu ?_)
  rw [hw.1, hw.2]
  have hyes : ((((0 : Nat) : Int) == 0 && (1 : Int) == 1 && (items.size - 0) == items.size) = true) := by simp
  show wpAny _ _ (if ((((0 : Nat) : Int) == 0 && (1 : Int) == 1 && (items.size - 0) == items.size) = true) then _ else _) _ _ s
  rw [if_pos hyes]
  refine wpAny_bind (wpAny_bind (m := typeOf (.ref t)) (wpAny_typeOf ht.typeIs (wpAny_pure ?_)))
  rw [if_pos (by decide)]
  refine wpAny_bind (wpAny_rule ?_)
  exact wpAny_pure ⟨_, rfl, wpAny_pure h⟩
end
end HT
namespace L2
open PySem PySem.Spec PyProof.Rows
def rSlTA (K : PySem.W.Frag) : V → Option Int → Option Int → Hp → VK → Prop := fun x lo hi H Q => ∃ a xs, x = .ref a ∧ SqT K H a xs ∧ H a = some (.tup xs) ∧
  ∀ p H', Same H H' → H' p = some (.tup (cutV xs lo hi)) → Q (.ref p) H'
theorem sl_tupA {X : Cx} : SlR X (rSlTA X.K) := by
  intro pins s σ H x v vl vu lo hi sl Q I rx hs pl pu h
  obtain ⟨a, xs, rfl, hx, hx', q⟩ := h
  by_cases hw : HT.sIx xs.length 0 lo = 0 ∧ HT.sIx xs.length xs.length hi = xs.length
  · cases rx
    obtain ⟨its, r, ht, hz⟩ := I.tuple hx
    have hlen : its.toArray.size = xs.length := by rw [List.size_toArray]; exact r.length.symm
    refine ⟨"tuple", _, PyProof.Rows.slot_tuple_getitem.lookup, ht.typeIs, ?_⟩
    refine HT.getItem_tuple_all ht hs pl pu (by rw [hlen]; exact hw) ?_
    refine ⟨.ref a, H, I, rfl, q a H (Same.refl _) ?_⟩
    rw [hx']
    unfold cutV
    rw [hw.1, hw.2, Nat.sub_zero, List.drop_zero, List.take_length]
  · exact sl_tup pins s σ H _ v vl vu lo hi sl Q I rx hs pl pu ⟨a, xs, rfl, hx, hw, fun p n => q p _ (same_upd n) upd_same⟩
end L2

set_option maxHeartbeats 0
lay_quick PySem.Challenge.pw_weighwalk_k33_inverse
namespace H33
open PySem PySem.W
noncomputable section
abbrev q0 := SL.s658472552662922059x5
abbrev q1 := SL.s14018661285674007319x4
abbrev q2 := SL.s6070975301684473832x10
abbrev q3 := SL.s11030030927630378310x26
abbrev q4 := SL.s10062305145149207511x16
abbrev q5 := SL.s17162191345867700912x4
abbrev q6 := SL.s5946037652744460706x9
abbrev q7 := SL.s4278001404047624695x13
abbrev q8 := SL.s2742458400755230247x6
abbrev q9 := SL.s4209523147560561109x18
abbrev q10 := SL.s14755015743595814543x17
abbrev q11 := SL.s4290257624100764138x5
abbrev q12 := SL.s4860613602091757760x24
abbrev q13 := SL.s11443829558043349243x14
def i (n : Int) : Value := .int n 0
def r (n : Addr) : Value := .ref n
def tu (a : Array Value) (n : Nat) : Obj := ⟨.type SL.s2766695959194262286x5, none, .seq a n, #[]⟩
def co (a : Array Value) : Obj := ⟨.type SL.s5856160107412720595x4, none, .fields a, #[]⟩
def fo (n q : Str) (s : Stmt) (m c : Value) : Obj := ⟨.type SL.s7174869446012820540x8, none, .func ⟨n, q, L2.defArgs s, .stmts (L2.defBody s), L2.defScope s, 3, [], .none, .none, .none, m, none, c, .none, 0⟩, #[]⟩
def f0 (n q : Str) (s : Stmt) : Obj := ⟨.none, none, .func ⟨n, q, L2.defArgs s, .stmts (L2.defBody s), L2.defScope s, 0, [], .none, .none, .none, .none, none, .none, .none, 0⟩, #[]⟩
abbrev nd := @BT.node
abbrev nl := BT.nil
abbrev lf (x : Obj) : BT := .node x .nil .nil
abbrev kh := @PySem.PyData.keyHash
def topT (i : Nat) : Stmt := Fast.tw824743771357420731.main.body.getD i (.Pass ⟨0, 0, 0, 0⟩)
def s0 : Str := ⟨⟨[60, 109, 111, 100, 117, 108, 101, 62]⟩⟩
def s1 : Str := ⟨⟨[47, 99, 108, 97, 105, 109, 47, 99, 117, 116, 46, 112, 121]⟩⟩
def s2 : Str := ⟨⟨[95, 95, 109, 97, 105, 110, 95, 95]⟩⟩
def s3 : Str := ⟨⟨[95, 95, 110, 97, 109, 101, 95, 95]⟩⟩
def s4 : Str := ⟨⟨[119, 101, 105, 103, 104, 119, 97, 108, 107, 46, 107, 105, 110, 100, 115]⟩⟩
def s5 : Str := ⟨⟨[95, 95, 100, 111, 99, 95, 95]⟩⟩
def s6 : Str := ⟨⟨[95, 95, 112, 97, 99, 107, 97, 103, 101, 95, 95]⟩⟩
def s7 : Str := ⟨⟨[95, 95, 108, 111, 97, 100, 101, 114, 95, 95]⟩⟩
def s8 : Str := ⟨⟨[95, 95, 115, 112, 101, 99, 95, 95]⟩⟩
def s9 : Str := ⟨⟨[95, 95, 97, 110, 110, 111, 116, 97, 116, 105, 111, 110, 115, 95, 95]⟩⟩
def s10 : Str := ⟨⟨[95, 95, 98, 117, 105, 108, 116, 105, 110, 115, 95, 95]⟩⟩
def s11 : Str := ⟨⟨[95, 95, 102, 105, 108, 101, 95, 95]⟩⟩
def s12 : Str := ⟨⟨[95, 95, 99, 97, 99, 104, 101, 100, 95, 95]⟩⟩
def s13 : Str := ⟨⟨[95, 119, 97, 108, 108]⟩⟩
def s14 : Str := ⟨⟨[87, 101, 105, 103, 104, 69, 114, 114, 111, 114]⟩⟩
def s15 : Str := ⟨⟨[78, 111, 75, 105, 110, 100]⟩⟩
def s16 : Str := ⟨⟨[87, 114, 111, 110, 103, 75, 105, 110, 100]⟩⟩
def s17 : Str := ⟨⟨[78, 111, 87, 101, 105, 103, 104, 116]⟩⟩
def s18 : Str := ⟨⟨[78, 111, 84, 101, 120, 116]⟩⟩
def s19 : Str := ⟨⟨[110, 111, 117, 103, 104, 116, 115]⟩⟩
def s20 : Str := ⟨⟨[117, 110, 105, 116]⟩⟩
def s21 : Str := ⟨⟨[116, 105, 109, 101, 115, 95, 114, 111, 119]⟩⟩
def s22 : Str := ⟨⟨[110, 101, 101, 100, 95, 102, 105, 101, 108, 100]⟩⟩
def s23 : Str := ⟨⟨[108, 101, 97, 100, 105, 110, 103]⟩⟩
def s24 : Str := ⟨⟨[112, 108, 117, 115, 95, 114, 111, 119]⟩⟩
def s25 : Str := ⟨⟨[99, 108, 101, 97, 114, 101, 100]⟩⟩
def s26 : Str := ⟨⟨[107, 101, 101, 112]⟩⟩
def s27 : Str := ⟨⟨[107, 101, 112, 116, 95, 114, 111, 119, 115]⟩⟩
def s28 : Str := ⟨⟨[119, 105, 100, 116, 104, 95, 111, 102]⟩⟩
def s29 : Str := ⟨⟨[109, 97, 114, 107, 101, 100]⟩⟩
def s30 : Str := ⟨⟨[107, 101, 112, 116, 95, 109, 97, 114, 107, 101, 100]⟩⟩
def s31 : Str := ⟨⟨[112, 97, 114, 116, 115, 95, 98, 121]⟩⟩
def s32 : Str := ⟨⟨[105, 110, 118, 101, 114, 115, 101, 95, 111, 102]⟩⟩
def s33 : Str := ⟨⟨[105, 115, 95, 119, 104, 111, 108, 101]⟩⟩
def s34 : Str := ⟨⟨[100, 105, 118, 105, 115, 111, 114]⟩⟩
def s35 : Str := ⟨⟨[102, 114, 97, 99, 116, 105, 111, 110]⟩⟩
def s36 : Str := ⟨⟨[105, 115, 95, 112, 114, 105, 109, 101]⟩⟩
def s37 : Str := ⟨⟨[70, 73, 71, 85, 82, 69, 83]⟩⟩
def s38 : Str := ⟨⟨[48, 49, 50, 51, 52, 53, 54, 55, 56, 57]⟩⟩
def s39 : Str := ⟨⟨[77, 79, 83, 84, 95, 70, 73, 71, 85, 82, 69, 83]⟩⟩
def s40 : Str := ⟨⟨[71, 82, 69, 65, 84, 69, 83, 84, 95, 80, 82, 73, 77, 69]⟩⟩
def s41 : Str := ⟨⟨[105, 115, 95, 119, 114, 105, 116, 116, 101, 110]⟩⟩
def s42 : Str := ⟨⟨[114, 101, 97, 100, 95, 119, 104, 111, 108, 101]⟩⟩
def s43 : Str := ⟨⟨[110, 101, 101, 100, 95, 116, 101, 120, 116]⟩⟩
def s44 : Str := ⟨⟨[75, 105, 110, 100]⟩⟩
def s45 : Str := ⟨⟨[70, 105, 101, 108, 100]⟩⟩
def s46 : Str := ⟨⟨[70, 114, 97, 99, 116, 105, 111, 110, 115]⟩⟩
def s47 : Str := ⟨⟨[107]⟩⟩
def s48 : Str := ⟨⟨[95, 95, 109, 111, 100, 117, 108, 101, 95, 95]⟩⟩
def s49 : Str := ⟨⟨[119, 101, 105, 103, 104, 119, 97, 108, 107, 46, 101, 114, 114, 111, 114, 115]⟩⟩
def s50 : Str := ⟨⟨[95, 95, 113, 117, 97, 108, 110, 97, 109, 101, 95, 95]⟩⟩
def s51 : Str := ⟨⟨[95, 95, 102, 105, 114, 115, 116, 108, 105, 110, 101, 110, 111, 95, 95]⟩⟩
def s52 : Str := ⟨⟨[95, 95, 115, 116, 97, 116, 105, 99, 95, 97, 116, 116, 114, 105, 98, 117, 116, 101, 115, 95, 95]⟩⟩
def s53 : Str := ⟨⟨[95, 95, 119, 101, 97, 107, 114, 101, 102, 95, 95]⟩⟩
def s54 : Str := ⟨⟨[119, 101, 105, 103, 104, 119, 97, 108, 107, 46, 116, 97, 98, 108, 101, 115]⟩⟩
def s55 : Str := ⟨⟨[107, 105, 110, 100]⟩⟩
def s56 : Str := ⟨⟨[119, 101, 105, 103, 104, 119, 97, 108, 107, 46, 115, 112, 97, 110, 115]⟩⟩
def s57 : Str := ⟨⟨[114, 111, 119]⟩⟩
def s58 : Str := ⟨⟨[119, 105, 100, 116, 104]⟩⟩
def s59 : Str := ⟨⟨[112, 108, 97, 99, 101]⟩⟩
def s60 : Str := ⟨⟨[107, 101, 112, 116]⟩⟩
def s61 : Str := ⟨⟨[114, 101, 115, 116]⟩⟩
def s62 : Str := ⟨⟨[111, 116, 104, 101, 114]⟩⟩
def s63 : Str := ⟨⟨[114, 111, 119, 115]⟩⟩
def s64 : Str := ⟨⟨[116, 104, 105, 110, 103]⟩⟩
def s65 : Str := ⟨⟨[119, 101, 105, 103, 104, 119, 97, 108, 107, 46, 114, 97, 116, 105, 111, 115]⟩⟩
def s66 : Str := ⟨⟨[111, 110, 101]⟩⟩
def s67 : Str := ⟨⟨[103, 114, 101, 97, 116, 101, 115, 116]⟩⟩
def s68 : Str := ⟨⟨[108, 101, 102, 116]⟩⟩
def s69 : Str := ⟨⟨[116, 111, 112]⟩⟩
def s70 : Str := ⟨⟨[98, 111, 116, 116, 111, 109]⟩⟩
def s71 : Str := ⟨⟨[115, 104, 97, 114, 101, 100]⟩⟩
def s72 : Str := ⟨⟨[110, 117, 109, 98, 101, 114]⟩⟩
def s73 : Str := ⟨⟨[102, 97, 99, 116, 111, 114]⟩⟩
def s74 : Str := ⟨⟨[116, 101, 120, 116]⟩⟩
def s75 : Str := ⟨⟨[95, 95, 100, 105, 99, 116, 95, 95]⟩⟩
def s76 : Str := ⟨⟨[105, 115, 95, 102, 105, 101, 108, 100]⟩⟩
def s77 : Str := ⟨⟨[112, 105, 99, 107, 115]⟩⟩
def s78 : Str := ⟨⟨[115, 101, 108, 102]⟩⟩
def s79 : Str := ⟨⟨[70, 105, 101, 108, 100, 46, 105, 115, 95, 102, 105, 101, 108, 100]⟩⟩
def s80 : Str := ⟨⟨[70, 105, 101, 108, 100, 46, 112, 105, 99, 107, 115]⟩⟩
def s81 : Str := ⟨⟨[116, 111, 108, 100]⟩⟩
def s82 : Str := ⟨⟨[110, 111, 117, 103, 104, 116]⟩⟩
def s83 : Str := ⟨⟨[112, 108, 117, 115]⟩⟩
def s84 : Str := ⟨⟨[116, 105, 109, 101, 115]⟩⟩
def s85 : Str := ⟨⟨[109, 105, 110, 117, 115]⟩⟩
def s86 : Str := ⟨⟨[105, 110, 118, 101, 114, 115, 101]⟩⟩
def s87 : Str := ⟨⟨[105, 115, 95, 119, 101, 105, 103, 104, 116]⟩⟩
def s88 : Str := ⟨⟨[115, 104, 111, 119, 110]⟩⟩
def s89 : Str := ⟨⟨[114, 101, 97, 100]⟩⟩
def s90 : Str := ⟨⟨[70, 114, 97, 99, 116, 105, 111, 110, 115, 46, 116, 111, 108, 100]⟩⟩
def s91 : Str := ⟨⟨[70, 114, 97, 99, 116, 105, 111, 110, 115, 46, 110, 111, 117, 103, 104, 116]⟩⟩
def s92 : Str := ⟨⟨[70, 114, 97, 99, 116, 105, 111, 110, 115, 46, 111, 110, 101]⟩⟩
def s93 : Str := ⟨⟨[120]⟩⟩
def s94 : Str := ⟨⟨[121]⟩⟩
def s95 : Str := ⟨⟨[70, 114, 97, 99, 116, 105, 111, 110, 115, 46, 112, 108, 117, 115]⟩⟩
def s96 : Str := ⟨⟨[70, 114, 97, 99, 116, 105, 111, 110, 115, 46, 116, 105, 109, 101, 115]⟩⟩
def s97 : Str := ⟨⟨[70, 114, 97, 99, 116, 105, 111, 110, 115, 46, 109, 105, 110, 117, 115]⟩⟩
def s98 : Str := ⟨⟨[70, 114, 97, 99, 116, 105, 111, 110, 115, 46, 105, 110, 118, 101, 114, 115, 101]⟩⟩
def s99 : Str := ⟨⟨[70, 114, 97, 99, 116, 105, 111, 110, 115, 46, 105, 115, 95, 119, 101, 105, 103, 104, 116]⟩⟩
def s100 : Str := ⟨⟨[70, 114, 97, 99, 116, 105, 111, 110, 115, 46, 115, 104, 111, 119, 110]⟩⟩
def s101 : Str := ⟨⟨[112, 105, 101, 99, 101, 115]⟩⟩
def s102 : Str := ⟨⟨[70, 114, 97, 99, 116, 105, 111, 110, 115, 46, 114, 101, 97, 100]⟩⟩
def s103 : Str := ⟨⟨[108, 97, 119, 95, 119, 101, 105, 103, 104, 119, 97, 108, 107, 95, 107, 51, 51, 95, 105, 110, 118, 101, 114, 115, 101]⟩⟩
def s104 : Str := ⟨⟨[82, 101, 115, 105, 100, 117, 101, 115]⟩⟩
def s105 : Str := ⟨⟨[95, 108, 97, 119, 95, 110, 101, 120, 116]⟩⟩
def s106 : Str := ⟨⟨[95, 108, 97, 119, 95, 115, 116, 97, 116, 101]⟩⟩
def s107 : Str := ⟨⟨[95, 108, 97, 119, 95, 100, 105, 118, 105, 115, 111, 114]⟩⟩
def s108 : Str := ⟨⟨[95, 108, 97, 119, 95, 108, 111, 119]⟩⟩
def s109 : Str := ⟨⟨[95, 108, 97, 119, 95, 112, 108, 117, 115]⟩⟩
def s110 : Str := ⟨⟨[95, 108, 97, 119, 95, 116, 105, 109, 101, 115]⟩⟩
def s111 : Str := ⟨⟨[95, 108, 97, 119, 95, 110, 117, 109, 98, 101, 114]⟩⟩
def s112 : Str := ⟨⟨[95, 108, 97, 119, 95, 115, 111, 114, 116]⟩⟩
def s113 : Str := ⟨⟨[95, 108, 97, 119, 95, 107, 105, 110, 100]⟩⟩
def s114 : Str := ⟨⟨[95, 108, 97, 119, 95, 119, 101, 105, 103, 104, 116]⟩⟩
def s115 : Str := ⟨⟨[95, 108, 97, 119, 95, 119, 104, 111, 108, 101]⟩⟩
def s116 : Str := ⟨⟨[95, 108, 97, 119, 95, 105, 115]⟩⟩
def s117 : Str := ⟨⟨[95, 108, 97, 119, 95, 115, 117, 109]⟩⟩
def s118 : Str := ⟨⟨[95, 108, 97, 119, 95, 115, 116, 101, 112, 115]⟩⟩
def s119 : Str := ⟨⟨[95, 108, 97, 119, 95, 109, 105, 120, 101, 100]⟩⟩
def s120 : Str := ⟨⟨[95, 108, 97, 119, 95, 111, 110, 101, 115]⟩⟩
def s121 : Str := ⟨⟨[95, 108, 97, 119, 95, 98, 121]⟩⟩
def s122 : Str := ⟨⟨[108, 97, 119]⟩⟩
def s123 : Str := ⟨⟨[95, 95, 105, 110, 105, 116, 95, 95]⟩⟩
def s124 : Str := ⟨⟨[112, 114, 105, 109, 101]⟩⟩
def s125 : Str := ⟨⟨[82, 101, 115, 105, 100, 117, 101, 115, 46, 95, 95, 105, 110, 105, 116, 95, 95]⟩⟩
def s126 : Str := ⟨⟨[82, 101, 115, 105, 100, 117, 101, 115, 46, 116, 111, 108, 100]⟩⟩
def s127 : Str := ⟨⟨[82, 101, 115, 105, 100, 117, 101, 115, 46, 110, 111, 117, 103, 104, 116]⟩⟩
def s128 : Str := ⟨⟨[82, 101, 115, 105, 100, 117, 101, 115, 46, 111, 110, 101]⟩⟩
def s129 : Str := ⟨⟨[82, 101, 115, 105, 100, 117, 101, 115, 46, 112, 108, 117, 115]⟩⟩
def s130 : Str := ⟨⟨[82, 101, 115, 105, 100, 117, 101, 115, 46, 116, 105, 109, 101, 115]⟩⟩
def s131 : Str := ⟨⟨[82, 101, 115, 105, 100, 117, 101, 115, 46, 109, 105, 110, 117, 115]⟩⟩
def s132 : Str := ⟨⟨[112, 114, 111, 100, 117, 99, 116]⟩⟩
def s133 : Str := ⟨⟨[115, 113, 117, 97, 114, 101]⟩⟩
def s134 : Str := ⟨⟨[82, 101, 115, 105, 100, 117, 101, 115, 46, 105, 110, 118, 101, 114, 115, 101]⟩⟩
def s135 : Str := ⟨⟨[82, 101, 115, 105, 100, 117, 101, 115, 46, 105, 115, 95, 119, 101, 105, 103, 104, 116]⟩⟩
def s136 : Str := ⟨⟨[82, 101, 115, 105, 100, 117, 101, 115, 46, 115, 104, 111, 119, 110]⟩⟩
def s137 : Str := ⟨⟨[82, 101, 115, 105, 100, 117, 101, 115, 46, 114, 101, 97, 100]⟩⟩
def s138 : Str := ⟨⟨[95, 108, 97, 119, 95, 115, 116, 97, 116, 101, 95, 104, 101, 114, 101]⟩⟩
def s139 : Str := ⟨⟨[95, 108, 97, 119, 95, 109, 97, 110, 121]⟩⟩
def s140 : Str := ⟨⟨[95, 108, 97, 119, 95, 102, 111, 117, 110, 100]⟩⟩
def s141 : Str := ⟨⟨[95, 108, 97, 119, 95, 115, 99, 114, 105, 112, 116]⟩⟩
def s142 : Str := ⟨⟨[95, 108, 97, 119, 95, 115, 101, 101, 100]⟩⟩
def s143 : Str := ⟨⟨[95, 108, 97, 119, 95, 99, 101, 108, 108]⟩⟩
def s144 : Str := ⟨⟨[95, 108, 97, 119, 95, 111, 110, 101]⟩⟩
def s145 : Str := ⟨⟨[95, 108, 97, 119, 95, 111, 116, 104, 101, 114]⟩⟩
def s146 : Str := ⟨⟨[95, 108, 97, 119, 95, 116, 111, 112]⟩⟩
def s147 : Str := ⟨⟨[95, 108, 97, 119, 95, 98, 111, 116, 116, 111, 109]⟩⟩
def s148 : Str := ⟨⟨[95, 108, 97, 119, 95, 98, 121, 95, 104, 101, 114, 101]⟩⟩
def s149 : Str := ⟨⟨[95, 108, 97, 119, 95, 115, 111, 114, 116, 95, 104, 101, 114, 101]⟩⟩
def s150 : Str := ⟨⟨[95, 108, 97, 119, 95, 120]⟩⟩
def s151 : Str := ⟨⟨[95, 108, 97, 119, 95, 121]⟩⟩
def s152 : Str := ⟨⟨[95, 108, 97, 119, 95, 110, 117, 109, 98, 101, 114, 95, 104, 101, 114, 101]⟩⟩
def s153 : Str := ⟨⟨[95, 108, 97, 119, 95, 116, 104, 105, 110, 103]⟩⟩
def o11a : Obj := tu #[] 0
def o12a : Obj := ⟨.none, none, .fields #[], #[]⟩
def o13a : Obj := co #[.str s0 182, .str s0 183, .str s1 184, i 1, i 0, i 0, i 0, i 0, r 11, .bool false, i 181, r 12, .none, .none, .none, .none, i 185, i 1, .str s1 186]
def o14a : Obj := ⟨.type q0, none, .plain, #[some (r 13), some (r 3), some (r 3), none, some (.str s2 164), none, some (r 0)]⟩
def o3_0 (P : Params) : Obj := ⟨.type q1, none, .dict #[⟨kh P s3, .str s3 165, .str s4 428⟩, ⟨kh P s5, .str s5 166, .none⟩, ⟨kh P s6, .str s6 167, .none⟩, ⟨kh P s7, .str s7 168, .builtin SL.s7097527257260152453x26⟩, ⟨kh P s8, .str s8 169, .none⟩, ⟨kh P s9, .str s9 170, r 6⟩, ⟨kh P s10, .str s10 171, r 4⟩, ⟨kh P s11, .str s11 173, .str s1 172⟩, ⟨kh P s12, .str s12 174, .none⟩, ⟨kh P s13, .str s13 193, r 21⟩, ⟨kh P s14, .str s14 213, r 31⟩, ⟨kh P s15, .str s15 229, r 44⟩, ⟨kh P s16, .str s16 245, r 56⟩, ⟨kh P s17, .str s17 261, r 68⟩, ⟨kh P s18, .str s18 277, r 80⟩, ⟨kh P s19, .str s19 285, r 87⟩, ⟨kh P s20, .str s20 291, r 92⟩, ⟨kh P s21, .str s21 297, r 97⟩, ⟨kh P s22, .str s22 306, r 104⟩, ⟨kh P s23, .str s23 316, r 111⟩, ⟨kh P s24, .str s24 322, r 116⟩, ⟨kh P s25, .str s25 334, r 123⟩, ⟨kh P s26, .str s26 346, r 130⟩, ⟨kh P s27, .str s27 357, r 137⟩, ⟨kh P s28, .str s28 364, r 144⟩, ⟨kh P s29, .str s29 370, r 149⟩, ⟨kh P s30, .str s30 378, r 156⟩, ⟨kh P s31, .str s31 384, r 161⟩, ⟨kh P s32, .str s32 390, r 166⟩, ⟨kh P s33, .str s33 399, r 173⟩, ⟨kh P s34, .str s34 410, r 180⟩, ⟨kh P s35, .str s35 419, r 187⟩, ⟨kh P s36, .str s36 427, r 194⟩, ⟨kh P s37, .str s37 431, .str s38 430⟩, ⟨kh P s39, .str s39 433, .int 30 432⟩, ⟨kh P s40, .str s40 435, .int 1000000 434⟩, ⟨kh P s41, .str s41 441, r 199⟩, ⟨kh P s42, .str s42 448, r 206⟩, ⟨kh P s43, .str s43 455, r 213⟩, ⟨kh P s44, .str s44 475, r 223⟩, ⟨kh P s45, .str s45 505, r 251⟩, ⟨kh P s46, .str s46 603, r 333⟩] 42, #[]⟩
def o12_0 : Obj := ⟨.none, none, .fields #[i 1, i 0, r 20, i 5, i 0, r 27, i 7, i 0, r 40, i 9, i 0, r 52, i 11, i 0, r 64, i 13, i 0, r 76, i 16, i 0, r 86, i 18, i 0, r 91, i 20, i 0, r 96, i 23, i 0, r 103, i 26, i 0, r 110, i 31, i 0, r 115, i 33, i 0, r 122, i 39, i 0, r 129, i 48, i 0, r 136, i 53, i 0, r 143, i 55, i 0, r 148, i 57, i 0, r 155, i 59, i 0, r 160, i 65, i 0, r 165, i 73, i 0, r 172, i 75, i 0, r 179, i 83, i 0, r 186, i 92, i 0, r 193, i 105, i 0, r 198, i 114, i 0, r 205, i 118, i 0, r 212, i 121, i 0, r 219, i 123, i 0, r 233, i 130, i 0, r 259], #[]⟩
def o15 : Obj := tu #[] 0
def o16 : Obj := ⟨.none, none, .fields #[], #[]⟩
def o17 : Obj := tu #[.str s47 190] 0
def o18 : Obj := tu #[] 0
def o19 : Obj := f0 s13 s13 (topT 0)
def o20 : Obj := co #[.str s13 187, .str s13 188, .str s1 189, i 1, i 1, i 0, i 0, i 3, r 15, .bool true, i 181, r 16, .none, r 17, r 18, r 19, i 191, i 1, .str s1 192]
def o21 : Obj := fo s13 s13 (topT 0) (.str s2 164) (r 20)
def o22 : Obj := tu #[.type q2] 0
def o23 : Obj := ⟨.type q3, none, .fields #[.builtin q4, .type q5], #[]⟩
def o24 (P : Params) : Obj := ⟨.type q1, none, .dict #[⟨kh P s48, .str s48 203, .str s49 194⟩, ⟨kh P s50, .str s50 205, .str s14 204⟩, ⟨kh P s51, .str s51 207, .int 5 206⟩, ⟨kh P s52, .str s52 208, r 29⟩] 4, #[]⟩
def o25 : Obj := tu #[] 0
def o26 : Obj := ⟨.none, none, .fields #[], #[]⟩
def o27 : Obj := co #[.str s14 198, .str s14 199, .str s1 200, i 5, i 0, i 0, i 0, i 0, r 25, .bool false, i 181, r 26, .none, .none, .none, .none, i 201, i 5, .str s1 202]
def o28 : Obj := ⟨.type q0, none, .plain, #[some (r 27), some (r 3), some (r 24), none, some (.str s49 194), none, some (r 0)]⟩
def o29 : Obj := tu #[] 0
def o30 (P : Params) : Obj := ⟨.type q1, none, .dict #[⟨kh P s48, .str s48 203, .str s49 194⟩, ⟨kh P s51, .str s51 207, .int 5 206⟩, ⟨kh P s52, .str s52 208, r 29⟩, ⟨kh P s53, .str s53 210, r 32⟩, ⟨kh P s5, .str s5 211, .none⟩] 3, #[]⟩
def o31 : Obj := ⟨.type q5, none, .cls ⟨s14, [.type q2], [r 31, .type q2, .type q6, .type q7, .type q8], 30, s14, true, [], [r 44, r 56, r 68, r 80], false, none, false⟩, #[some (r 22), none, some (.str s14 196), some (.str s14 204), some (.builtin q9), some (.bool true)]⟩
def o32 : Obj := ⟨.type q10, none, .fields #[.str s53 209, r 31, .builtin SL.s10220274742760427390x26, .none], #[]⟩
def o33 : Obj := ⟨.type q11, none, .fields #[r 31, r 31, r 31], #[]⟩
def o34 : Obj := ⟨.type q3, none, .fields #[.builtin q12, r 31], #[]⟩
def o35 : Obj := tu #[r 31] 0
def o36 : Obj := ⟨.type q3, none, .fields #[.builtin q4, .type q5], #[]⟩
def o37 (P : Params) : Obj := ⟨.type q1, none, .dict #[⟨kh P s48, .str s48 221, .str s49 194⟩, ⟨kh P s50, .str s50 223, .str s15 222⟩, ⟨kh P s51, .str s51 225, .int 7 224⟩, ⟨kh P s52, .str s52 226, r 42⟩] 4, #[]⟩
def o38 : Obj := tu #[] 0
def o39 : Obj := ⟨.none, none, .fields #[], #[]⟩
def o40 : Obj := co #[.str s15 216, .str s15 217, .str s1 218, i 7, i 0, i 0, i 0, i 0, r 38, .bool false, i 181, r 39, .none, .none, .none, .none, i 219, i 7, .str s1 220]
def o41 : Obj := ⟨.type q0, none, .plain, #[some (r 40), some (r 3), some (r 37), none, some (.str s49 194), none, some (r 0)]⟩
def o42 : Obj := tu #[] 0
def o43 (P : Params) : Obj := ⟨.type q1, none, .dict #[⟨kh P s48, .str s48 221, .str s49 194⟩, ⟨kh P s51, .str s51 225, .int 7 224⟩, ⟨kh P s52, .str s52 226, r 42⟩, ⟨kh P s5, .str s5 227, .none⟩] 2, #[]⟩
def o44 : Obj := ⟨.type q5, none, .cls ⟨s15, [r 31], [r 44, r 31, .type q2, .type q6, .type q7, .type q8], 43, s15, true, [], [], false, none, false⟩, #[some (r 35), none, some (.str s15 214), some (.str s15 222), some (.builtin q9), some (.bool true)]⟩
def o45 : Obj := ⟨.type q11, none, .fields #[r 44, r 44, r 44], #[]⟩
def o46 : Obj := ⟨.type q3, none, .fields #[.builtin q12, r 44], #[]⟩
def o47 : Obj := tu #[r 31] 0
def o48 : Obj := ⟨.type q3, none, .fields #[.builtin q4, .type q5], #[]⟩
def o49 (P : Params) : Obj := ⟨.type q1, none, .dict #[⟨kh P s48, .str s48 237, .str s49 194⟩, ⟨kh P s50, .str s50 239, .str s16 238⟩, ⟨kh P s51, .str s51 241, .int 9 240⟩, ⟨kh P s52, .str s52 242, r 54⟩] 4, #[]⟩
def o50 : Obj := tu #[] 0
def o51 : Obj := ⟨.none, none, .fields #[], #[]⟩
def o52 : Obj := co #[.str s16 232, .str s16 233, .str s1 234, i 9, i 0, i 0, i 0, i 0, r 50, .bool false, i 181, r 51, .none, .none, .none, .none, i 235, i 9, .str s1 236]
def o53 : Obj := ⟨.type q0, none, .plain, #[some (r 52), some (r 3), some (r 49), none, some (.str s49 194), none, some (r 0)]⟩
def o54 : Obj := tu #[] 0
def o55 (P : Params) : Obj := ⟨.type q1, none, .dict #[⟨kh P s48, .str s48 237, .str s49 194⟩, ⟨kh P s51, .str s51 241, .int 9 240⟩, ⟨kh P s52, .str s52 242, r 54⟩, ⟨kh P s5, .str s5 243, .none⟩] 2, #[]⟩
def o56 : Obj := ⟨.type q5, none, .cls ⟨s16, [r 31], [r 56, r 31, .type q2, .type q6, .type q7, .type q8], 55, s16, true, [], [], false, none, false⟩, #[some (r 47), none, some (.str s16 230), some (.str s16 238), some (.builtin q9), some (.bool true)]⟩
def o57 : Obj := ⟨.type q11, none, .fields #[r 56, r 56, r 56], #[]⟩
def o58 : Obj := ⟨.type q3, none, .fields #[.builtin q12, r 56], #[]⟩
def o59 : Obj := tu #[r 31] 0
def o60 : Obj := ⟨.type q3, none, .fields #[.builtin q4, .type q5], #[]⟩
def o61 (P : Params) : Obj := ⟨.type q1, none, .dict #[⟨kh P s48, .str s48 253, .str s49 194⟩, ⟨kh P s50, .str s50 255, .str s17 254⟩, ⟨kh P s51, .str s51 257, .int 11 256⟩, ⟨kh P s52, .str s52 258, r 66⟩] 4, #[]⟩
def o62 : Obj := tu #[] 0
def o63 : Obj := ⟨.none, none, .fields #[], #[]⟩
def o64 : Obj := co #[.str s17 248, .str s17 249, .str s1 250, i 11, i 0, i 0, i 0, i 0, r 62, .bool false, i 181, r 63, .none, .none, .none, .none, i 251, i 11, .str s1 252]
def o65 : Obj := ⟨.type q0, none, .plain, #[some (r 64), some (r 3), some (r 61), none, some (.str s49 194), none, some (r 0)]⟩
def o66 : Obj := tu #[] 0
def o67 (P : Params) : Obj := ⟨.type q1, none, .dict #[⟨kh P s48, .str s48 253, .str s49 194⟩, ⟨kh P s51, .str s51 257, .int 11 256⟩, ⟨kh P s52, .str s52 258, r 66⟩, ⟨kh P s5, .str s5 259, .none⟩] 2, #[]⟩
def o68 : Obj := ⟨.type q5, none, .cls ⟨s17, [r 31], [r 68, r 31, .type q2, .type q6, .type q7, .type q8], 67, s17, true, [], [], false, none, false⟩, #[some (r 59), none, some (.str s17 246), some (.str s17 254), some (.builtin q9), some (.bool true)]⟩
def o69 : Obj := ⟨.type q11, none, .fields #[r 68, r 68, r 68], #[]⟩
def o70 : Obj := ⟨.type q3, none, .fields #[.builtin q12, r 68], #[]⟩
def o71 : Obj := tu #[r 31] 0
def o72 : Obj := ⟨.type q3, none, .fields #[.builtin q4, .type q5], #[]⟩
def o73 (P : Params) : Obj := ⟨.type q1, none, .dict #[⟨kh P s48, .str s48 269, .str s49 194⟩, ⟨kh P s50, .str s50 271, .str s18 270⟩, ⟨kh P s51, .str s51 273, .int 13 272⟩, ⟨kh P s52, .str s52 274, r 78⟩] 4, #[]⟩
def o74 : Obj := tu #[] 0
def o75 : Obj := ⟨.none, none, .fields #[], #[]⟩
def o76 : Obj := co #[.str s18 264, .str s18 265, .str s1 266, i 13, i 0, i 0, i 0, i 0, r 74, .bool false, i 181, r 75, .none, .none, .none, .none, i 267, i 13, .str s1 268]
def o77 : Obj := ⟨.type q0, none, .plain, #[some (r 76), some (r 3), some (r 73), none, some (.str s49 194), none, some (r 0)]⟩
def o78 : Obj := tu #[] 0
def o79 (P : Params) : Obj := ⟨.type q1, none, .dict #[⟨kh P s48, .str s48 269, .str s49 194⟩, ⟨kh P s51, .str s51 273, .int 13 272⟩, ⟨kh P s52, .str s52 274, r 78⟩, ⟨kh P s5, .str s5 275, .none⟩] 2, #[]⟩
def o80 : Obj := ⟨.type q5, none, .cls ⟨s18, [r 31], [r 80, r 31, .type q2, .type q6, .type q7, .type q8], 79, s18, true, [], [], false, none, false⟩, #[some (r 71), none, some (.str s18 262), some (.str s18 270), some (.builtin q9), some (.bool true)]⟩
def o81 : Obj := ⟨.type q11, none, .fields #[r 80, r 80, r 80], #[]⟩
def o82 : Obj := ⟨.type q3, none, .fields #[.builtin q12, r 80], #[]⟩
def o83 : Obj := tu #[] 0
def o84 : Obj := ⟨.none, none, .fields #[], #[]⟩
def o85 : Obj := f0 s19 s19 (topT 8)
def o86 : Obj := co #[.str s19 280, .str s19 281, .str s1 282, i 16, i 2, i 0, i 0, i 3, r 83, .bool true, i 181, r 84, .none, .none, .none, r 85, i 283, i 16, .str s1 284]
def o87 : Obj := fo s19 s19 (topT 8) (.str s54 278) (r 86)
def o88 : Obj := tu #[] 0
def o89 : Obj := ⟨.none, none, .fields #[], #[]⟩
def o90 : Obj := f0 s20 s20 (topT 9)
def o91 : Obj := co #[.str s20 286, .str s20 287, .str s1 288, i 18, i 3, i 0, i 0, i 3, r 88, .bool true, i 181, r 89, .none, .none, .none, r 90, i 289, i 18, .str s1 290]
def o92 : Obj := fo s20 s20 (topT 9) (.str s54 278) (r 91)
def o93 : Obj := tu #[] 0
def o94 : Obj := ⟨.none, none, .fields #[], #[]⟩
def o95 : Obj := f0 s21 s21 (topT 10)
def o96 : Obj := co #[.str s21 292, .str s21 293, .str s1 294, i 20, i 3, i 0, i 0, i 3, r 93, .bool true, i 181, r 94, .none, .none, .none, r 95, i 295, i 20, .str s1 296]
def o97 : Obj := fo s21 s21 (topT 10) (.str s54 278) (r 96)
def o98 : Obj := tu #[] 0
def o99 : Obj := ⟨.none, none, .fields #[], #[]⟩
def o100 : Obj := tu #[.str s55 303] 0
def o101 : Obj := tu #[] 0
def o102 : Obj := f0 s22 s22 (topT 12)
def o103 : Obj := co #[.str s22 300, .str s22 301, .str s1 302, i 23, i 1, i 0, i 0, i 3, r 98, .bool true, i 181, r 99, .none, r 100, r 101, r 102, i 304, i 23, .str s1 305]
def o104 : Obj := fo s22 s22 (topT 12) (.str s56 298) (r 103)
def o105 : Obj := tu #[] 0
def o106 : Obj := ⟨.none, none, .fields #[], #[]⟩
def o107 : Obj := tu #[.str s55 310, .str s57 311, .str s58 312, .str s59 313] 0
def o108 : Obj := tu #[] 0
def o109 : Obj := f0 s23 s23 (topT 13)
def o110 : Obj := co #[.str s23 307, .str s23 308, .str s1 309, i 26, i 3, i 0, i 0, i 3, r 105, .bool true, i 181, r 106, .none, r 107, r 108, r 109, i 314, i 26, .str s1 315]
def o111 : Obj := fo s23 s23 (topT 13) (.str s56 298) (r 110)
def o112 : Obj := tu #[] 0
def o113 : Obj := ⟨.none, none, .fields #[], #[]⟩
def o114 : Obj := f0 s24 s24 (topT 14)
def o115 : Obj := co #[.str s24 317, .str s24 318, .str s1 319, i 31, i 3, i 0, i 0, i 3, r 112, .bool true, i 181, r 113, .none, .none, .none, r 114, i 320, i 31, .str s1 321]
def o116 : Obj := fo s24 s24 (topT 14) (.str s56 298) (r 115)
def o117 : Obj := tu #[] 0
def o118 : Obj := ⟨.none, none, .fields #[], #[]⟩
def o119 : Obj := tu #[.str s55 326, .str s60 327, .str s57 328, .str s61 329, .str s59 330, .str s62 331] 0
def o120 : Obj := tu #[] 0
def o121 : Obj := f0 s25 s25 (topT 15)
def o122 : Obj := co #[.str s25 323, .str s25 324, .str s1 325, i 33, i 3, i 0, i 0, i 3, r 117, .bool true, i 181, r 118, .none, r 119, r 120, r 121, i 332, i 33, .str s1 333]
def o123 : Obj := fo s25 s25 (topT 15) (.str s56 298) (r 122)
def o124 : Obj := tu #[] 0
def o125 : Obj := ⟨.none, none, .fields #[], #[]⟩
def o126 : Obj := tu #[.str s55 338, .str s60 339, .str s57 340, .str s58 341, .str s61 342, .str s59 343] 0
def o127 : Obj := tu #[] 0
def o128 : Obj := f0 s26 s26 (topT 16)
def o129 : Obj := co #[.str s26 335, .str s26 336, .str s1 337, i 39, i 4, i 0, i 0, i 3, r 124, .bool true, i 181, r 125, .none, r 126, r 127, r 128, i 344, i 39, .str s1 345]
def o130 : Obj := fo s26 s26 (topT 16) (.str s56 298) (r 129)
def o131 : Obj := tu #[] 0
def o132 : Obj := ⟨.none, none, .fields #[], #[]⟩
def o133 : Obj := tu #[.str s55 350, .str s63 351, .str s58 352, .str s60 353, .str s57 354] 0
def o134 : Obj := tu #[] 0
def o135 : Obj := f0 s27 s27 (topT 17)
def o136 : Obj := co #[.str s27 347, .str s27 348, .str s1 349, i 48, i 3, i 0, i 0, i 3, r 131, .bool true, i 181, r 132, .none, r 133, r 134, r 135, i 355, i 48, .str s1 356]
def o137 : Obj := fo s27 s27 (topT 17) (.str s56 298) (r 136)
def o138 : Obj := tu #[] 0
def o139 : Obj := ⟨.none, none, .fields #[], #[]⟩
def o140 : Obj := tu #[.str s63 361] 0
def o141 : Obj := tu #[] 0
def o142 : Obj := f0 s28 s28 (topT 18)
def o143 : Obj := co #[.str s28 358, .str s28 359, .str s1 360, i 53, i 1, i 0, i 0, i 3, r 138, .bool true, i 181, r 139, .none, r 140, r 141, r 142, i 362, i 53, .str s1 363]
def o144 : Obj := fo s28 s28 (topT 18) (.str s56 298) (r 143)
def o145 : Obj := tu #[] 0
def o146 : Obj := ⟨.none, none, .fields #[], #[]⟩
def o147 : Obj := f0 s29 s29 (topT 19)
def o148 : Obj := co #[.str s29 365, .str s29 366, .str s1 367, i 55, i 2, i 0, i 0, i 3, r 145, .bool true, i 181, r 146, .none, .none, .none, r 147, i 368, i 55, .str s1 369]
def o149 : Obj := fo s29 s29 (topT 19) (.str s56 298) (r 148)
def o150 : Obj := tu #[] 0
def o151 : Obj := ⟨.none, none, .fields #[], #[]⟩
def o152 : Obj := tu #[.str s55 374, .str s63 375] 0
def o153 : Obj := tu #[] 0
def o154 : Obj := f0 s30 s30 (topT 20)
def o155 : Obj := co #[.str s30 371, .str s30 372, .str s1 373, i 57, i 2, i 0, i 0, i 3, r 150, .bool true, i 181, r 151, .none, r 152, r 153, r 154, i 376, i 57, .str s1 377]
def o156 : Obj := fo s30 s30 (topT 20) (.str s56 298) (r 155)
def o157 : Obj := tu #[] 0
def o158 : Obj := ⟨.none, none, .fields #[], #[]⟩
def o159 : Obj := f0 s31 s31 (topT 21)
def o160 : Obj := co #[.str s31 379, .str s31 380, .str s1 381, i 59, i 4, i 0, i 0, i 3, r 157, .bool true, i 181, r 158, .none, .none, .none, r 159, i 382, i 59, .str s1 383]
def o161 : Obj := fo s31 s31 (topT 21) (.str s56 298) (r 160)
def o162 : Obj := tu #[] 0
def o163 : Obj := ⟨.none, none, .fields #[], #[]⟩
def o164 : Obj := f0 s32 s32 (topT 22)
def o165 : Obj := co #[.str s32 385, .str s32 386, .str s1 387, i 65, i 2, i 0, i 0, i 3, r 162, .bool true, i 181, r 163, .none, .none, .none, r 164, i 388, i 65, .str s1 389]
def o166 : Obj := fo s32 s32 (topT 22) (.str s56 298) (r 165)
def o167 : Obj := tu #[] 0
def o168 : Obj := ⟨.none, none, .fields #[], #[]⟩
def o169 : Obj := tu #[.str s64 396] 0
def o170 : Obj := tu #[] 0
def o171 : Obj := f0 s33 s33 (topT 24)
def o172 : Obj := co #[.str s33 393, .str s33 394, .str s1 395, i 73, i 1, i 0, i 0, i 3, r 167, .bool true, i 181, r 168, .none, r 169, r 170, r 171, i 397, i 73, .str s1 398]
def o173 : Obj := fo s33 s33 (topT 24) (.str s65 391) (r 172)
def o174 : Obj := tu #[] 0
def o175 : Obj := ⟨.none, none, .fields #[], #[]⟩
def o176 : Obj := tu #[.str s66 403, .str s62 404, .str s67 405, .str s61 406, .str s68 407] 0
def o177 : Obj := tu #[] 0
def o178 : Obj := f0 s34 s34 (topT 25)
def o179 : Obj := co #[.str s34 400, .str s34 401, .str s1 402, i 75, i 2, i 0, i 0, i 3, r 174, .bool true, i 181, r 175, .none, r 176, r 177, r 178, i 408, i 75, .str s1 409]
def o180 : Obj := fo s34 s34 (topT 25) (.str s65 391) (r 179)
def o181 : Obj := tu #[] 0
def o182 : Obj := ⟨.none, none, .fields #[], #[]⟩
def o183 : Obj := tu #[.str s69 414, .str s70 415, .str s71 416] 0
def o184 : Obj := tu #[] 0
def o185 : Obj := f0 s35 s35 (topT 26)
def o186 : Obj := co #[.str s35 411, .str s35 412, .str s1 413, i 83, i 2, i 0, i 0, i 3, r 181, .bool true, i 181, r 182, .none, r 183, r 184, r 185, i 417, i 83, .str s1 418]
def o187 : Obj := fo s35 s35 (topT 26) (.str s65 391) (r 186)
def o188 : Obj := tu #[] 0
def o189 : Obj := ⟨.none, none, .fields #[], #[]⟩
def o190 : Obj := tu #[.str s72 423, .str s73 424] 0
def o191 : Obj := tu #[] 0
def o192 : Obj := f0 s36 s36 (topT 27)
def o193 : Obj := co #[.str s36 420, .str s36 421, .str s1 422, i 92, i 1, i 0, i 0, i 3, r 188, .bool true, i 181, r 189, .none, r 190, r 191, r 192, i 425, i 92, .str s1 426]
def o194 : Obj := fo s36 s36 (topT 27) (.str s65 391) (r 193)
def o195 : Obj := tu #[] 0
def o196 : Obj := ⟨.none, none, .fields #[], #[]⟩
def o197 : Obj := f0 s41 s41 (topT 32)
def o198 : Obj := co #[.str s41 436, .str s41 437, .str s1 438, i 105, i 1, i 0, i 0, i 3, r 195, .bool true, i 181, r 196, .none, .none, .none, r 197, i 439, i 105, .str s1 440]
def o199 : Obj := fo s41 s41 (topT 32) (.str s4 428) (r 198)
def o200 : Obj := tu #[] 0
def o201 : Obj := ⟨.none, none, .fields #[], #[]⟩
def o202 : Obj := tu #[.str s74 445] 0
def o203 : Obj := tu #[] 0
def o204 : Obj := f0 s42 s42 (topT 33)
def o205 : Obj := co #[.str s42 442, .str s42 443, .str s1 444, i 114, i 1, i 0, i 0, i 3, r 200, .bool true, i 181, r 201, .none, r 202, r 203, r 204, i 446, i 114, .str s1 447]
def o206 : Obj := fo s42 s42 (topT 33) (.str s4 428) (r 205)
def o207 : Obj := tu #[] 0
def o208 : Obj := ⟨.none, none, .fields #[], #[]⟩
def o209 : Obj := tu #[.str s74 452] 0
def o210 : Obj := tu #[] 0
def o211 : Obj := f0 s43 s43 (topT 34)
def o212 : Obj := co #[.str s43 449, .str s43 450, .str s1 451, i 118, i 1, i 0, i 0, i 3, r 207, .bool true, i 181, r 208, .none, r 209, r 210, r 211, i 453, i 118, .str s1 454]
def o213 : Obj := fo s43 s43 (topT 34) (.str s4 428) (r 212)
def o214 : Obj := tu #[] 0
def o215 : Obj := ⟨.type q3, none, .fields #[.builtin q4, .type q5], #[]⟩
def o216 (P : Params) : Obj := ⟨.type q1, none, .dict #[⟨kh P s48, .str s48 463, .str s4 428⟩, ⟨kh P s50, .str s50 465, .str s44 464⟩, ⟨kh P s51, .str s51 467, .int 121 466⟩, ⟨kh P s52, .str s52 468, r 221⟩] 4, #[]⟩
def o217 : Obj := tu #[] 0
def o218 : Obj := ⟨.none, none, .fields #[], #[]⟩
def o219 : Obj := co #[.str s44 458, .str s44 459, .str s1 460, i 121, i 0, i 0, i 0, i 0, r 217, .bool false, i 181, r 218, .none, .none, .none, .none, i 461, i 121, .str s1 462]
def o220 : Obj := ⟨.type q0, none, .plain, #[some (r 219), some (r 3), some (r 216), none, some (.str s4 428), none, some (r 0)]⟩
def o221 : Obj := tu #[] 0
def o222 (P : Params) : Obj := ⟨.type q1, none, .dict #[⟨kh P s48, .str s48 463, .str s4 428⟩, ⟨kh P s51, .str s51 467, .int 121 466⟩, ⟨kh P s52, .str s52 468, r 221⟩, ⟨kh P s75, .str s75 470, r 224⟩, ⟨kh P s53, .str s53 472, r 225⟩, ⟨kh P s5, .str s5 473, .none⟩] 4, #[]⟩
def o223 : Obj := ⟨.type q5, none, .cls ⟨s44, [.type q8], [r 223, .type q8], 222, s44, true, [], [r 251], false, none, false⟩, #[none, none, some (.str s44 456), some (.str s44 464), some (.builtin q13), some (.bool true)]⟩
def o224 : Obj := ⟨.type q10, none, .fields #[.str s75 469, r 223, .builtin SL.s6511155373996960695x17, .builtin SL.s12411053484034534018x21], #[]⟩
def o225 : Obj := ⟨.type q10, none, .fields #[.str s53 471, r 223, .builtin SL.s10220274742760427390x26, .none], #[]⟩
def o226 : Obj := ⟨.type q11, none, .fields #[r 223, r 223, r 223], #[]⟩
def o227 : Obj := ⟨.type q3, none, .fields #[.builtin q12, r 223], #[]⟩
def o228 : Obj := tu #[r 223] 0
def o229 : Obj := ⟨.type q3, none, .fields #[.builtin q4, .type q5], #[]⟩
def o230 (P : Params) : Obj := ⟨.type q1, none, .dict #[⟨kh P s48, .str s48 483, .str s4 428⟩, ⟨kh P s50, .str s50 485, .str s45 484⟩, ⟨kh P s51, .str s51 487, .int 123 486⟩, ⟨kh P s76, .str s76 494, r 241⟩, ⟨kh P s77, .str s77 501, r 248⟩, ⟨kh P s52, .str s52 502, r 249⟩] 6, #[]⟩
def o231 : Obj := tu #[] 0
def o232 : Obj := ⟨.none, none, .fields #[i 125, i 4, r 240, i 128, i 4, r 247], #[]⟩
def o233 : Obj := co #[.str s45 478, .str s45 479, .str s1 480, i 123, i 0, i 0, i 0, i 0, r 231, .bool false, i 181, r 232, .none, .none, .none, .none, i 481, i 123, .str s1 482]
def o234 : Obj := ⟨.type q0, none, .plain, #[some (r 233), some (r 3), some (r 230), none, some (.str s4 428), none, some (r 0)]⟩
def o235 : Obj := tu #[] 0
def o236 : Obj := ⟨.none, none, .fields #[], #[]⟩
def o237 : Obj := tu #[.str s78 491] 0
def o238 : Obj := tu #[] 0
def o239 : Obj := f0 s76 s79 (L2.inClass (topT 36) 0)
def o240 : Obj := co #[.str s76 488, .str s79 489, .str s1 490, i 125, i 1, i 0, i 0, i 3, r 235, .bool true, i 181, r 236, .none, r 237, r 238, r 239, i 492, i 125, .str s1 493]
def o241 : Obj := fo s76 s79 (L2.inClass (topT 36) 0) (.str s4 428) (r 240)
def o242 : Obj := tu #[] 0
def o243 : Obj := ⟨.none, none, .fields #[], #[]⟩
def o244 : Obj := tu #[.str s78 498] 0
def o245 : Obj := tu #[] 0
def o246 : Obj := f0 s77 s80 (L2.inClass (topT 36) 1)
def o247 : Obj := co #[.str s77 495, .str s80 496, .str s1 497, i 128, i 1, i 0, i 0, i 3, r 242, .bool true, i 181, r 243, .none, r 244, r 245, r 246, i 499, i 128, .str s1 500]
def o248 : Obj := fo s77 s80 (L2.inClass (topT 36) 1) (.str s4 428) (r 247)
def o249 : Obj := tu #[] 0
def o250 (P : Params) : Obj := ⟨.type q1, none, .dict #[⟨kh P s48, .str s48 483, .str s4 428⟩, ⟨kh P s51, .str s51 487, .int 123 486⟩, ⟨kh P s76, .str s76 494, r 241⟩, ⟨kh P s77, .str s77 501, r 248⟩, ⟨kh P s52, .str s52 502, r 249⟩, ⟨kh P s5, .str s5 503, .none⟩] 2, #[]⟩
def o251_0 : Obj := ⟨.type q5, none, .cls ⟨s45, [r 223], [r 251, r 223, .type q8], 250, s45, true, [], [r 333], false, none, false⟩, #[some (r 228), none, some (.str s45 476), some (.str s45 484), some (.builtin q13), some (.bool true)]⟩
def o252 : Obj := ⟨.type q11, none, .fields #[r 251, r 251, r 251], #[]⟩
def o253 : Obj := ⟨.type q3, none, .fields #[.builtin q12, r 251], #[]⟩
def o254 : Obj := tu #[r 251] 0
def o255 : Obj := ⟨.type q3, none, .fields #[.builtin q4, .type q5], #[]⟩
def o256 (P : Params) : Obj := ⟨.type q1, none, .dict #[⟨kh P s48, .str s48 513, .str s4 428⟩, ⟨kh P s50, .str s50 515, .str s46 514⟩, ⟨kh P s51, .str s51 517, .int 130 516⟩, ⟨kh P s81, .str s81 524, r 267⟩, ⟨kh P s82, .str s82 531, r 274⟩, ⟨kh P s66, .str s66 538, r 281⟩, ⟨kh P s83, .str s83 547, r 288⟩, ⟨kh P s84, .str s84 556, r 295⟩, ⟨kh P s85, .str s85 564, r 302⟩, ⟨kh P s86, .str s86 572, r 309⟩, ⟨kh P s87, .str s87 580, r 316⟩, ⟨kh P s88, .str s88 588, r 323⟩, ⟨kh P s89, .str s89 599, r 330⟩, ⟨kh P s52, .str s52 600, r 331⟩] 14, #[]⟩
def o257 : Obj := tu #[] 0
def o258 : Obj := ⟨.none, none, .fields #[i 132, i 4, r 266, i 135, i 4, r 273, i 138, i 4, r 280, i 141, i 4, r 287, i 144, i 4, r 294, i 147, i 4, r 301, i 150, i 4, r 308, i 153, i 4, r 315, i 160, i 4, r 322, i 163, i 4, r 329], #[]⟩
def o259 : Obj := co #[.str s46 508, .str s46 509, .str s1 510, i 130, i 0, i 0, i 0, i 0, r 257, .bool false, i 181, r 258, .none, .none, .none, .none, i 511, i 130, .str s1 512]
def o260 : Obj := ⟨.type q0, none, .plain, #[some (r 259), some (r 3), some (r 256), none, some (.str s4 428), none, some (r 0)]⟩
def o261 : Obj := tu #[] 0
def o262 : Obj := ⟨.none, none, .fields #[], #[]⟩
def o263 : Obj := tu #[.str s78 521] 0
def o264 : Obj := tu #[] 0
def o265 : Obj := f0 s81 s90 (L2.inClass (topT 37) 0)
def o266 : Obj := co #[.str s81 518, .str s90 519, .str s1 520, i 132, i 1, i 0, i 0, i 3, r 261, .bool true, i 181, r 262, .none, r 263, r 264, r 265, i 522, i 132, .str s1 523]
def o267 : Obj := fo s81 s90 (L2.inClass (topT 37) 0) (.str s4 428) (r 266)
def o268 : Obj := tu #[] 0
def o269 : Obj := ⟨.none, none, .fields #[], #[]⟩
def o270 : Obj := tu #[.str s78 528] 0
def o271 : Obj := tu #[] 0
def o272 : Obj := f0 s82 s91 (L2.inClass (topT 37) 1)
def o273 : Obj := co #[.str s82 525, .str s91 526, .str s1 527, i 135, i 1, i 0, i 0, i 3, r 268, .bool true, i 181, r 269, .none, r 270, r 271, r 272, i 529, i 135, .str s1 530]
def o274 : Obj := fo s82 s91 (L2.inClass (topT 37) 1) (.str s4 428) (r 273)
def o275 : Obj := tu #[] 0
def o276 : Obj := ⟨.none, none, .fields #[], #[]⟩
def o277 : Obj := tu #[.str s78 535] 0
def o278 : Obj := tu #[] 0
def o279 : Obj := f0 s66 s92 (L2.inClass (topT 37) 2)
def o280 : Obj := co #[.str s66 532, .str s92 533, .str s1 534, i 138, i 1, i 0, i 0, i 3, r 275, .bool true, i 181, r 276, .none, r 277, r 278, r 279, i 536, i 138, .str s1 537]
def o281 : Obj := fo s66 s92 (L2.inClass (topT 37) 2) (.str s4 428) (r 280)
def o282 : Obj := tu #[] 0
def o283 : Obj := ⟨.none, none, .fields #[], #[]⟩
def o284 : Obj := tu #[.str s78 542, .str s93 543, .str s94 544] 0
def o285 : Obj := tu #[] 0
def o286 : Obj := f0 s83 s95 (L2.inClass (topT 37) 3)
def o287 : Obj := co #[.str s83 539, .str s95 540, .str s1 541, i 141, i 3, i 0, i 0, i 3, r 282, .bool true, i 181, r 283, .none, r 284, r 285, r 286, i 545, i 141, .str s1 546]
def o288 : Obj := fo s83 s95 (L2.inClass (topT 37) 3) (.str s4 428) (r 287)
def o289 : Obj := tu #[] 0
def o290 : Obj := ⟨.none, none, .fields #[], #[]⟩
def o291 : Obj := tu #[.str s78 551, .str s93 552, .str s94 553] 0
def o292 : Obj := tu #[] 0
def o293 : Obj := f0 s84 s96 (L2.inClass (topT 37) 4)
def o294 : Obj := co #[.str s84 548, .str s96 549, .str s1 550, i 144, i 3, i 0, i 0, i 3, r 289, .bool true, i 181, r 290, .none, r 291, r 292, r 293, i 554, i 144, .str s1 555]
def o295 : Obj := fo s84 s96 (L2.inClass (topT 37) 4) (.str s4 428) (r 294)
def o296 : Obj := tu #[] 0
def o297 : Obj := ⟨.none, none, .fields #[], #[]⟩
def o298 : Obj := tu #[.str s78 560, .str s93 561] 0
def o299 : Obj := tu #[] 0
def o300 : Obj := f0 s85 s97 (L2.inClass (topT 37) 5)
def o301 : Obj := co #[.str s85 557, .str s97 558, .str s1 559, i 147, i 2, i 0, i 0, i 3, r 296, .bool true, i 181, r 297, .none, r 298, r 299, r 300, i 562, i 147, .str s1 563]
def o302 : Obj := fo s85 s97 (L2.inClass (topT 37) 5) (.str s4 428) (r 301)
def o303 : Obj := tu #[] 0
def o304 : Obj := ⟨.none, none, .fields #[], #[]⟩
def o305 : Obj := tu #[.str s78 568, .str s93 569] 0
def o306 : Obj := tu #[] 0
def o307 : Obj := f0 s86 s98 (L2.inClass (topT 37) 6)
def o308 : Obj := co #[.str s86 565, .str s98 566, .str s1 567, i 150, i 2, i 0, i 0, i 3, r 303, .bool true, i 181, r 304, .none, r 305, r 306, r 307, i 570, i 150, .str s1 571]
def o309 : Obj := fo s86 s98 (L2.inClass (topT 37) 6) (.str s4 428) (r 308)
def o310 : Obj := tu #[] 0
def o311 : Obj := ⟨.none, none, .fields #[], #[]⟩
def o312 : Obj := tu #[.str s78 576, .str s64 577] 0
def o313 : Obj := tu #[] 0
def o314 : Obj := f0 s87 s99 (L2.inClass (topT 37) 7)
def o315 : Obj := co #[.str s87 573, .str s99 574, .str s1 575, i 153, i 2, i 0, i 0, i 3, r 310, .bool true, i 181, r 311, .none, r 312, r 313, r 314, i 578, i 153, .str s1 579]
def o316 : Obj := fo s87 s99 (L2.inClass (topT 37) 7) (.str s4 428) (r 315)
def o317 : Obj := tu #[] 0
def o318 : Obj := ⟨.none, none, .fields #[], #[]⟩
def o319 : Obj := tu #[.str s78 584, .str s93 585] 0
def o320 : Obj := tu #[] 0
def o321 : Obj := f0 s88 s100 (L2.inClass (topT 37) 8)
def o322 : Obj := co #[.str s88 581, .str s100 582, .str s1 583, i 160, i 2, i 0, i 0, i 3, r 317, .bool true, i 181, r 318, .none, r 319, r 320, r 321, i 586, i 160, .str s1 587]
def o323 : Obj := fo s88 s100 (L2.inClass (topT 37) 8) (.str s4 428) (r 322)
def o324 : Obj := tu #[] 0
def o325 : Obj := ⟨.none, none, .fields #[], #[]⟩
def o326 : Obj := tu #[.str s78 592, .str s74 593, .str s101 594, .str s69 595, .str s70 596] 0
def o327 : Obj := tu #[] 0
def o328 : Obj := f0 s89 s102 (L2.inClass (topT 37) 9)
def o329 : Obj := co #[.str s89 589, .str s102 590, .str s1 591, i 163, i 2, i 0, i 0, i 3, r 324, .bool true, i 181, r 325, .none, r 326, r 327, r 328, i 597, i 163, .str s1 598]
def o330 : Obj := fo s89 s102 (L2.inClass (topT 37) 9) (.str s4 428) (r 329)
def o331 : Obj := tu #[] 0
def o332 (P : Params) : Obj := ⟨.type q1, none, .dict #[⟨kh P s48, .str s48 513, .str s4 428⟩, ⟨kh P s51, .str s51 517, .int 130 516⟩, ⟨kh P s81, .str s81 524, r 267⟩, ⟨kh P s82, .str s82 531, r 274⟩, ⟨kh P s66, .str s66 538, r 281⟩, ⟨kh P s83, .str s83 547, r 288⟩, ⟨kh P s84, .str s84 556, r 295⟩, ⟨kh P s85, .str s85 564, r 302⟩, ⟨kh P s86, .str s86 572, r 309⟩, ⟨kh P s87, .str s87 580, r 316⟩, ⟨kh P s88, .str s88 588, r 323⟩, ⟨kh P s89, .str s89 599, r 330⟩, ⟨kh P s52, .str s52 600, r 331⟩, ⟨kh P s5, .str s5 601, .none⟩] 2, #[]⟩
def o333 : Obj := ⟨.type q5, none, .cls ⟨s46, [r 251], [r 333, r 251, r 223, .type q8], 332, s46, true, [], [], false, none, false⟩, #[some (r 254), none, some (.str s46 506), some (.str s46 514), some (.builtin q13), some (.bool true)]⟩
def o334 : Obj := ⟨.type q11, none, .fields #[r 333, r 333, r 333], #[]⟩
def o335 : Obj := ⟨.type q3, none, .fields #[.builtin q12, r 333], #[]⟩
def o3_1 (P : Params) : Obj := ⟨.type q1, none, .dict #[⟨kh P s3, .str s3 165, .str s103 713⟩, ⟨kh P s5, .str s5 166, .none⟩, ⟨kh P s6, .str s6 167, .none⟩, ⟨kh P s7, .str s7 168, .builtin SL.s7097527257260152453x26⟩, ⟨kh P s8, .str s8 169, .none⟩, ⟨kh P s9, .str s9 170, r 6⟩, ⟨kh P s10, .str s10 171, r 4⟩, ⟨kh P s11, .str s11 173, .str s1 172⟩, ⟨kh P s12, .str s12 174, .none⟩, ⟨kh P s13, .str s13 193, r 21⟩, ⟨kh P s14, .str s14 213, r 31⟩, ⟨kh P s15, .str s15 229, r 44⟩, ⟨kh P s16, .str s16 245, r 56⟩, ⟨kh P s17, .str s17 261, r 68⟩, ⟨kh P s18, .str s18 277, r 80⟩, ⟨kh P s19, .str s19 285, r 87⟩, ⟨kh P s20, .str s20 291, r 92⟩, ⟨kh P s21, .str s21 297, r 97⟩, ⟨kh P s22, .str s22 306, r 104⟩, ⟨kh P s23, .str s23 316, r 111⟩, ⟨kh P s24, .str s24 322, r 116⟩, ⟨kh P s25, .str s25 334, r 123⟩, ⟨kh P s26, .str s26 346, r 130⟩, ⟨kh P s27, .str s27 357, r 137⟩, ⟨kh P s28, .str s28 364, r 144⟩, ⟨kh P s29, .str s29 370, r 149⟩, ⟨kh P s30, .str s30 378, r 156⟩, ⟨kh P s31, .str s31 384, r 161⟩, ⟨kh P s32, .str s32 390, r 166⟩, ⟨kh P s33, .str s33 399, r 173⟩, ⟨kh P s34, .str s34 410, r 180⟩, ⟨kh P s35, .str s35 419, r 187⟩, ⟨kh P s36, .str s36 427, r 194⟩, ⟨kh P s37, .str s37 431, .str s38 430⟩, ⟨kh P s39, .str s39 433, .int 30 432⟩, ⟨kh P s40, .str s40 435, .int 1000000 434⟩, ⟨kh P s41, .str s41 441, r 199⟩, ⟨kh P s42, .str s42 448, r 206⟩, ⟨kh P s43, .str s43 455, r 213⟩, ⟨kh P s44, .str s44 475, r 223⟩, ⟨kh P s45, .str s45 505, r 251⟩, ⟨kh P s46, .str s46 603, r 333⟩, ⟨kh P s104, .str s104 712, r 422⟩, ⟨kh P s105, .str s105 723, r 431⟩, ⟨kh P s106, .str s106 732, r 438⟩, ⟨kh P s107, .str s107 740, r 445⟩, ⟨kh P s108, .str s108 749, r 452⟩, ⟨kh P s109, .str s109 758, r 459⟩, ⟨kh P s110, .str s110 767, r 466⟩, ⟨kh P s111, .str s111 775, r 473⟩, ⟨kh P s112, .str s112 782, r 480⟩, ⟨kh P s113, .str s113 789, r 487⟩, ⟨kh P s114, .str s114 797, r 494⟩, ⟨kh P s115, .str s115 804, r 501⟩, ⟨kh P s116, .str s116 812, r 508⟩, ⟨kh P s117, .str s117 818, r 513⟩, ⟨kh P s118, .str s118 824, r 518⟩, ⟨kh P s119, .str s119 830, r 523⟩, ⟨kh P s120, .str s120 836, r 528⟩, ⟨kh P s121, .str s121 842, r 533⟩, ⟨kh P s122, .str s122 848, r 538⟩] 61, #[]⟩
def o12_1 : Obj := ⟨.none, none, .fields #[i 1, i 0, r 20, i 5, i 0, r 27, i 7, i 0, r 40, i 9, i 0, r 52, i 11, i 0, r 64, i 13, i 0, r 76, i 16, i 0, r 86, i 18, i 0, r 91, i 20, i 0, r 96, i 23, i 0, r 103, i 26, i 0, r 110, i 31, i 0, r 115, i 33, i 0, r 122, i 39, i 0, r 129, i 48, i 0, r 136, i 53, i 0, r 143, i 55, i 0, r 148, i 57, i 0, r 155, i 59, i 0, r 160, i 65, i 0, r 165, i 73, i 0, r 172, i 75, i 0, r 179, i 83, i 0, r 186, i 92, i 0, r 193, i 105, i 0, r 198, i 114, i 0, r 205, i 118, i 0, r 212, i 121, i 0, r 219, i 123, i 0, r 233, i 130, i 0, r 259, i 173, i 0, r 341, i 224, i 0, r 430, i 233, i 0, r 437, i 240, i 0, r 444, i 244, i 0, r 451, i 247, i 0, r 458, i 251, i 0, r 465, i 255, i 0, r 472, i 259, i 0, r 479, i 263, i 0, r 486, i 267, i 0, r 493, i 273, i 0, r 500, i 275, i 0, r 507, i 281, i 0, r 512, i 286, i 0, r 517, i 298, i 0, r 522, i 307, i 0, r 527, i 309, i 0, r 532, i 311, i 0, r 537], #[]⟩
def o251_1 : Obj := ⟨.type q5, none, .cls ⟨s45, [r 223], [r 251, r 223, .type q8], 250, s45, true, [], [r 333, r 422], false, none, false⟩, #[some (r 228), none, some (.str s45 476), some (.str s45 484), some (.builtin q13), some (.bool true)]⟩
def o336 : Obj := tu #[r 251] 0
def o337 : Obj := ⟨.type q3, none, .fields #[.builtin q4, .type q5], #[]⟩
def o338 (P : Params) : Obj := ⟨.type q1, none, .dict #[⟨kh P s48, .str s48 611, .str s4 428⟩, ⟨kh P s50, .str s50 613, .str s104 612⟩, ⟨kh P s51, .str s51 615, .int 173 614⟩, ⟨kh P s123, .str s123 623, r 349⟩, ⟨kh P s81, .str s81 631, r 356⟩, ⟨kh P s82, .str s82 638, r 363⟩, ⟨kh P s66, .str s66 645, r 370⟩, ⟨kh P s83, .str s83 654, r 377⟩, ⟨kh P s84, .str s84 663, r 384⟩, ⟨kh P s85, .str s85 671, r 391⟩, ⟨kh P s86, .str s86 682, r 398⟩, ⟨kh P s87, .str s87 690, r 405⟩, ⟨kh P s88, .str s88 698, r 412⟩, ⟨kh P s89, .str s89 707, r 419⟩, ⟨kh P s52, .str s52 709, r 420⟩] 15, #[]⟩
def o339 : Obj := tu #[] 0
def o340 : Obj := ⟨.none, none, .fields #[i 175, i 4, r 348, i 180, i 4, r 355, i 184, i 4, r 362, i 187, i 4, r 369, i 190, i 4, r 376, i 193, i 4, r 383, i 196, i 4, r 390, i 199, i 4, r 397, i 212, i 4, r 404, i 215, i 4, r 411, i 218, i 4, r 418], #[]⟩
def o341 : Obj := co #[.str s104 606, .str s104 607, .str s1 608, i 173, i 0, i 0, i 0, i 0, r 339, .bool false, i 181, r 340, .none, .none, .none, .none, i 609, i 173, .str s1 610]
def o342 : Obj := ⟨.type q0, none, .plain, #[some (r 341), some (r 3), some (r 338), none, some (.str s4 428), none, some (r 0)]⟩
def o343 : Obj := tu #[] 0
def o344 : Obj := ⟨.none, none, .fields #[], #[]⟩
def o345 : Obj := tu #[.str s78 619, .str s124 620] 0
def o346 : Obj := tu #[] 0
def o347 : Obj := f0 s123 s125 (L2.inClass (topT 38) 0)
def o348 : Obj := co #[.str s123 616, .str s125 617, .str s1 618, i 175, i 2, i 0, i 0, i 3, r 343, .bool true, i 181, r 344, .none, r 345, r 346, r 347, i 621, i 175, .str s1 622]
def o349 : Obj := fo s123 s125 (L2.inClass (topT 38) 0) (.str s4 428) (r 348)
def o350 : Obj := tu #[] 0
def o351 : Obj := ⟨.none, none, .fields #[], #[]⟩
def o352 : Obj := tu #[.str s78 627, .str s124 628] 0
def o353 : Obj := tu #[] 0
def o354 : Obj := f0 s81 s126 (L2.inClass (topT 38) 1)
def o355 : Obj := co #[.str s81 624, .str s126 625, .str s1 626, i 180, i 1, i 0, i 0, i 3, r 350, .bool true, i 181, r 351, .none, r 352, r 353, r 354, i 629, i 180, .str s1 630]
def o356 : Obj := fo s81 s126 (L2.inClass (topT 38) 1) (.str s4 428) (r 355)
def o357 : Obj := tu #[] 0
def o358 : Obj := ⟨.none, none, .fields #[], #[]⟩
def o359 : Obj := tu #[.str s78 635] 0
def o360 : Obj := tu #[] 0
def o361 : Obj := f0 s82 s127 (L2.inClass (topT 38) 2)
def o362 : Obj := co #[.str s82 632, .str s127 633, .str s1 634, i 184, i 1, i 0, i 0, i 3, r 357, .bool true, i 181, r 358, .none, r 359, r 360, r 361, i 636, i 184, .str s1 637]
def o363 : Obj := fo s82 s127 (L2.inClass (topT 38) 2) (.str s4 428) (r 362)
def o364 : Obj := tu #[] 0
def o365 : Obj := ⟨.none, none, .fields #[], #[]⟩
def o366 : Obj := tu #[.str s78 642] 0
def o367 : Obj := tu #[] 0
def o368 : Obj := f0 s66 s128 (L2.inClass (topT 38) 3)
def o369 : Obj := co #[.str s66 639, .str s128 640, .str s1 641, i 187, i 1, i 0, i 0, i 3, r 364, .bool true, i 181, r 365, .none, r 366, r 367, r 368, i 643, i 187, .str s1 644]
def o370 : Obj := fo s66 s128 (L2.inClass (topT 38) 3) (.str s4 428) (r 369)
def o371 : Obj := tu #[] 0
def o372 : Obj := ⟨.none, none, .fields #[], #[]⟩
def o373 : Obj := tu #[.str s78 649, .str s93 650, .str s94 651] 0
def o374 : Obj := tu #[] 0
def o375 : Obj := f0 s83 s129 (L2.inClass (topT 38) 4)
def o376 : Obj := co #[.str s83 646, .str s129 647, .str s1 648, i 190, i 3, i 0, i 0, i 3, r 371, .bool true, i 181, r 372, .none, r 373, r 374, r 375, i 652, i 190, .str s1 653]
def o377 : Obj := fo s83 s129 (L2.inClass (topT 38) 4) (.str s4 428) (r 376)
def o378 : Obj := tu #[] 0
def o379 : Obj := ⟨.none, none, .fields #[], #[]⟩
def o380 : Obj := tu #[.str s78 658, .str s93 659, .str s94 660] 0
def o381 : Obj := tu #[] 0
def o382 : Obj := f0 s84 s130 (L2.inClass (topT 38) 5)
def o383 : Obj := co #[.str s84 655, .str s130 656, .str s1 657, i 193, i 3, i 0, i 0, i 3, r 378, .bool true, i 181, r 379, .none, r 380, r 381, r 382, i 661, i 193, .str s1 662]
def o384 : Obj := fo s84 s130 (L2.inClass (topT 38) 5) (.str s4 428) (r 383)
def o385 : Obj := tu #[] 0
def o386 : Obj := ⟨.none, none, .fields #[], #[]⟩
def o387 : Obj := tu #[.str s78 667, .str s93 668] 0
def o388 : Obj := tu #[] 0
def o389 : Obj := f0 s85 s131 (L2.inClass (topT 38) 6)
def o390 : Obj := co #[.str s85 664, .str s131 665, .str s1 666, i 196, i 2, i 0, i 0, i 3, r 385, .bool true, i 181, r 386, .none, r 387, r 388, r 389, i 669, i 196, .str s1 670]
def o391 : Obj := fo s85 s131 (L2.inClass (topT 38) 6) (.str s4 428) (r 390)
def o392 : Obj := tu #[] 0
def o393 : Obj := ⟨.none, none, .fields #[], #[]⟩
def o394 : Obj := tu #[.str s78 675, .str s93 676, .str s132 677, .str s133 678, .str s68 679] 0
def o395 : Obj := tu #[] 0
def o396 : Obj := f0 s86 s134 (L2.inClass (topT 38) 7)
def o397 : Obj := co #[.str s86 672, .str s134 673, .str s1 674, i 199, i 2, i 0, i 0, i 3, r 392, .bool true, i 181, r 393, .none, r 394, r 395, r 396, i 680, i 199, .str s1 681]
def o398 : Obj := fo s86 s134 (L2.inClass (topT 38) 7) (.str s4 428) (r 397)
def o399 : Obj := tu #[] 0
def o400 : Obj := ⟨.none, none, .fields #[], #[]⟩
def o401 : Obj := tu #[.str s78 686, .str s64 687] 0
def o402 : Obj := tu #[] 0
def o403 : Obj := f0 s87 s135 (L2.inClass (topT 38) 8)
def o404 : Obj := co #[.str s87 683, .str s135 684, .str s1 685, i 212, i 2, i 0, i 0, i 3, r 399, .bool true, i 181, r 400, .none, r 401, r 402, r 403, i 688, i 212, .str s1 689]
def o405 : Obj := fo s87 s135 (L2.inClass (topT 38) 8) (.str s4 428) (r 404)
def o406 : Obj := tu #[] 0
def o407 : Obj := ⟨.none, none, .fields #[], #[]⟩
def o408 : Obj := tu #[.str s78 694, .str s93 695] 0
def o409 : Obj := tu #[] 0
def o410 : Obj := f0 s88 s136 (L2.inClass (topT 38) 9)
def o411 : Obj := co #[.str s88 691, .str s136 692, .str s1 693, i 215, i 2, i 0, i 0, i 3, r 406, .bool true, i 181, r 407, .none, r 408, r 409, r 410, i 696, i 215, .str s1 697]
def o412 : Obj := fo s88 s136 (L2.inClass (topT 38) 9) (.str s4 428) (r 411)
def o413 : Obj := tu #[] 0
def o414 : Obj := ⟨.none, none, .fields #[], #[]⟩
def o415 : Obj := tu #[.str s78 702, .str s74 703, .str s72 704] 0
def o416 : Obj := tu #[] 0
def o417 : Obj := f0 s89 s137 (L2.inClass (topT 38) 10)
def o418 : Obj := co #[.str s89 699, .str s137 700, .str s1 701, i 218, i 2, i 0, i 0, i 3, r 413, .bool true, i 181, r 414, .none, r 415, r 416, r 417, i 705, i 218, .str s1 706]
def o419 : Obj := fo s89 s137 (L2.inClass (topT 38) 10) (.str s4 428) (r 418)
def o420 : Obj := tu #[.str s124 708] 0
def o421 (P : Params) : Obj := ⟨.type q1, none, .dict #[⟨kh P s48, .str s48 611, .str s4 428⟩, ⟨kh P s51, .str s51 615, .int 173 614⟩, ⟨kh P s123, .str s123 623, r 349⟩, ⟨kh P s81, .str s81 631, r 356⟩, ⟨kh P s82, .str s82 638, r 363⟩, ⟨kh P s66, .str s66 645, r 370⟩, ⟨kh P s83, .str s83 654, r 377⟩, ⟨kh P s84, .str s84 663, r 384⟩, ⟨kh P s85, .str s85 671, r 391⟩, ⟨kh P s86, .str s86 682, r 398⟩, ⟨kh P s87, .str s87 690, r 405⟩, ⟨kh P s88, .str s88 698, r 412⟩, ⟨kh P s89, .str s89 707, r 419⟩, ⟨kh P s52, .str s52 709, r 420⟩, ⟨kh P s5, .str s5 710, .none⟩] 2, #[]⟩
def o422 : Obj := ⟨.type q5, none, .cls ⟨s104, [r 251], [r 422, r 251, r 223, .type q8], 421, s104, true, [], [], false, none, false⟩, #[some (r 336), none, some (.str s104 604), some (.str s104 612), some (.builtin q13), some (.bool true)]⟩
def o423 : Obj := ⟨.type q11, none, .fields #[r 422, r 422, r 422], #[]⟩
def o424 : Obj := ⟨.type q3, none, .fields #[.builtin q12, r 422], #[]⟩
def o425 : Obj := tu #[] 0
def o426 : Obj := ⟨.none, none, .fields #[], #[]⟩
def o427 : Obj := tu #[.str s138 718, .str s139 719, .str s140 720] 0
def o428 : Obj := tu #[] 0
def o429 : Obj := f0 s105 s105 (topT 40)
def o430 : Obj := co #[.str s105 715, .str s105 716, .str s1 717, i 224, i 2, i 0, i 0, i 3, r 425, .bool true, i 181, r 426, .none, r 427, r 428, r 429, i 721, i 224, .str s1 722]
def o431 : Obj := fo s105 s105 (topT 40) (.str s103 713) (r 430)
def o432 : Obj := tu #[] 0
def o433 : Obj := ⟨.none, none, .fields #[], #[]⟩
def o434 : Obj := tu #[.str s141 727, .str s142 728, .str s143 729] 0
def o435 : Obj := tu #[] 0
def o436 : Obj := f0 s106 s106 (topT 41)
def o437 : Obj := co #[.str s106 724, .str s106 725, .str s1 726, i 233, i 1, i 0, i 0, i 3, r 432, .bool true, i 181, r 433, .none, r 434, r 435, r 436, i 730, i 233, .str s1 731]
def o438 : Obj := fo s106 s106 (topT 41) (.str s103 713) (r 437)
def o439 : Obj := tu #[] 0
def o440 : Obj := ⟨.none, none, .fields #[], #[]⟩
def o441 : Obj := tu #[.str s144 736, .str s145 737] 0
def o442 : Obj := tu #[] 0
def o443 : Obj := f0 s107 s107 (topT 42)
def o444 : Obj := co #[.str s107 733, .str s107 734, .str s1 735, i 240, i 2, i 0, i 0, i 3, r 439, .bool true, i 181, r 440, .none, r 441, r 442, r 443, i 738, i 240, .str s1 739]
def o445 : Obj := fo s107 s107 (topT 42) (.str s103 713) (r 444)
def o446 : Obj := tu #[] 0
def o447 : Obj := ⟨.none, none, .fields #[], #[]⟩
def o448 : Obj := tu #[.str s146 744, .str s147 745, .str s148 746] 0
def o449 : Obj := tu #[] 0
def o450 : Obj := f0 s108 s108 (topT 43)
def o451 : Obj := co #[.str s108 741, .str s108 742, .str s1 743, i 244, i 2, i 0, i 0, i 3, r 446, .bool true, i 181, r 447, .none, r 448, r 449, r 450, i 747, i 244, .str s1 748]
def o452 : Obj := fo s108 s108 (topT 43) (.str s103 713) (r 451)
def o453 : Obj := tu #[] 0
def o454 : Obj := ⟨.none, none, .fields #[], #[]⟩
def o455 : Obj := tu #[.str s149 753, .str s150 754, .str s151 755] 0
def o456 : Obj := tu #[] 0
def o457 : Obj := f0 s109 s109 (topT 44)
def o458 : Obj := co #[.str s109 750, .str s109 751, .str s1 752, i 247, i 3, i 0, i 0, i 3, r 453, .bool true, i 181, r 454, .none, r 455, r 456, r 457, i 756, i 247, .str s1 757]
def o459 : Obj := fo s109 s109 (topT 44) (.str s103 713) (r 458)
def o460 : Obj := tu #[] 0
def o461 : Obj := ⟨.none, none, .fields #[], #[]⟩
def o462 : Obj := tu #[.str s149 762, .str s150 763, .str s151 764] 0
def o463 : Obj := tu #[] 0
def o464 : Obj := f0 s110 s110 (topT 45)
def o465 : Obj := co #[.str s110 759, .str s110 760, .str s1 761, i 251, i 3, i 0, i 0, i 3, r 460, .bool true, i 181, r 461, .none, r 462, r 463, r 464, i 765, i 251, .str s1 766]
def o466 : Obj := fo s110 s110 (topT 45) (.str s103 713) (r 465)
def o467 : Obj := tu #[] 0
def o468 : Obj := ⟨.none, none, .fields #[], #[]⟩
def o469 : Obj := tu #[.str s149 771, .str s152 772] 0
def o470 : Obj := tu #[] 0
def o471 : Obj := f0 s111 s111 (topT 46)
def o472 : Obj := co #[.str s111 768, .str s111 769, .str s1 770, i 255, i 2, i 0, i 0, i 3, r 467, .bool true, i 181, r 468, .none, r 469, r 470, r 471, i 773, i 255, .str s1 774]
def o473 : Obj := fo s111 s111 (topT 46) (.str s103 713) (r 472)
def o474 : Obj := tu #[] 0
def o475 : Obj := ⟨.none, none, .fields #[], #[]⟩
def o476 : Obj := tu #[.str s138 779] 0
def o477 : Obj := tu #[] 0
def o478 : Obj := f0 s112 s112 (topT 47)
def o479 : Obj := co #[.str s112 776, .str s112 777, .str s1 778, i 259, i 1, i 0, i 0, i 3, r 474, .bool true, i 181, r 475, .none, r 476, r 477, r 478, i 780, i 259, .str s1 781]
def o480 : Obj := fo s112 s112 (topT 47) (.str s103 713) (r 479)
def o481 : Obj := tu #[] 0
def o482 : Obj := ⟨.none, none, .fields #[], #[]⟩
def o483 : Obj := tu #[.str s149 786] 0
def o484 : Obj := tu #[] 0
def o485 : Obj := f0 s113 s113 (topT 48)
def o486 : Obj := co #[.str s113 783, .str s113 784, .str s1 785, i 263, i 1, i 0, i 0, i 3, r 481, .bool true, i 181, r 482, .none, r 483, r 484, r 485, i 787, i 263, .str s1 788]
def o487 : Obj := fo s113 s113 (topT 48) (.str s103 713) (r 486)
def o488 : Obj := tu #[] 0
def o489 : Obj := ⟨.none, none, .fields #[], #[]⟩
def o490 : Obj := tu #[.str s138 793, .str s149 794] 0
def o491 : Obj := tu #[] 0
def o492 : Obj := f0 s114 s114 (topT 49)
def o493 : Obj := co #[.str s114 790, .str s114 791, .str s1 792, i 267, i 2, i 0, i 0, i 3, r 488, .bool true, i 181, r 489, .none, r 490, r 491, r 492, i 795, i 267, .str s1 796]
def o494 : Obj := fo s114 s114 (topT 49) (.str s103 713) (r 493)
def o495 : Obj := tu #[] 0
def o496 : Obj := ⟨.none, none, .fields #[], #[]⟩
def o497 : Obj := tu #[.str s153 801] 0
def o498 : Obj := tu #[] 0
def o499 : Obj := f0 s115 s115 (topT 50)
def o500 : Obj := co #[.str s115 798, .str s115 799, .str s1 800, i 273, i 1, i 0, i 0, i 3, r 495, .bool true, i 181, r 496, .none, r 497, r 498, r 499, i 802, i 273, .str s1 803]
def o501 : Obj := fo s115 s115 (topT 50) (.str s103 713) (r 500)
def o502 : Obj := tu #[] 0
def o503 : Obj := ⟨.none, none, .fields #[], #[]⟩
def o504 : Obj := tu #[.str s149 808, .str s153 809] 0
def o505 : Obj := tu #[] 0
def o506 : Obj := f0 s116 s116 (topT 51)
def o507 : Obj := co #[.str s116 805, .str s116 806, .str s1 807, i 275, i 2, i 0, i 0, i 3, r 502, .bool true, i 181, r 503, .none, r 504, r 505, r 506, i 810, i 275, .str s1 811]
def o508 : Obj := fo s116 s116 (topT 51) (.str s103 713) (r 507)
def o509 : Obj := tu #[] 0
def o510 : Obj := ⟨.none, none, .fields #[], #[]⟩
def o511 : Obj := f0 s117 s117 (topT 52)
def o512 : Obj := co #[.str s117 813, .str s117 814, .str s1 815, i 281, i 4, i 0, i 0, i 3, r 509, .bool true, i 181, r 510, .none, .none, .none, r 511, i 816, i 281, .str s1 817]
def o513 : Obj := fo s117 s117 (topT 52) (.str s103 713) (r 512)
def o514 : Obj := tu #[] 0
def o515 : Obj := ⟨.none, none, .fields #[], #[]⟩
def o516 : Obj := f0 s118 s118 (topT 53)
def o517 : Obj := co #[.str s118 819, .str s118 820, .str s1 821, i 286, i 4, i 0, i 0, i 3, r 514, .bool true, i 181, r 515, .none, .none, .none, r 516, i 822, i 286, .str s1 823]
def o518 : Obj := fo s118 s118 (topT 53) (.str s103 713) (r 517)
def o519 : Obj := tu #[] 0
def o520 : Obj := ⟨.none, none, .fields #[], #[]⟩
def o521 : Obj := f0 s119 s119 (topT 54)
def o522 : Obj := co #[.str s119 825, .str s119 826, .str s1 827, i 298, i 4, i 0, i 0, i 3, r 519, .bool true, i 181, r 520, .none, .none, .none, r 521, i 828, i 298, .str s1 829]
def o523 : Obj := fo s119 s119 (topT 54) (.str s103 713) (r 522)
def o524 : Obj := tu #[] 0
def o525 : Obj := ⟨.none, none, .fields #[], #[]⟩
def o526 : Obj := f0 s120 s120 (topT 55)
def o527 : Obj := co #[.str s120 831, .str s120 832, .str s1 833, i 307, i 2, i 0, i 0, i 3, r 524, .bool true, i 181, r 525, .none, .none, .none, r 526, i 834, i 307, .str s1 835]
def o528 : Obj := fo s120 s120 (topT 55) (.str s103 713) (r 527)
def o529 : Obj := tu #[] 0
def o530 : Obj := ⟨.none, none, .fields #[], #[]⟩
def o531 : Obj := f0 s121 s121 (topT 56)
def o532 : Obj := co #[.str s121 837, .str s121 838, .str s1 839, i 309, i 3, i 0, i 0, i 3, r 529, .bool true, i 181, r 530, .none, .none, .none, r 531, i 840, i 309, .str s1 841]
def o533 : Obj := fo s121 s121 (topT 56) (.str s103 713) (r 532)
def o534 : Obj := tu #[] 0
def o535 : Obj := ⟨.none, none, .fields #[], #[]⟩
def o536 : Obj := f0 s122 s122 (topT 57)
def o537 : Obj := co #[.str s122 843, .str s122 844, .str s1 845, i 311, i 1, i 0, i 0, i 3, r 534, .bool true, i 181, r 535, .none, .none, .none, r 536, i 846, i 311, .str s1 847]
def o538 : Obj := fo s122 s122 (topT 57) (.str s103 713) (r 537)
def envT : Env := { scope := Fast.tw824743771357420731.main.scope, locals := mainNs, globals := mainNs, cells := [], code := (r 13), frame := some 14 }
def cT : Code := .body (behindTheImports Fast.tw824743771357420731) envT
def qP : Pos := ⟨0, 0, 0, 0⟩
def Ha (P : Params) : Heap := ⟨⟨[boot_o_0 P, boot_o_1 P, boot_o_2 P, boot_o_3 P, boot_o_4 P, boot_o_5 P, boot_o_6 P, boot_o_7 P, boot_o_8 P, boot_o_9 P, boot_o_10 P, o11a, o12a, o13a, o14a]⟩, PySem.Life.mk [] [] [] 0 [] [] false #[] [] 0 false false false 0 [2000, 10, 10] false 0 true [] [] 0 false⟩
def Sa (w : World) (os : OsState) : Shared := ⟨Ha w.params, ⟨[]⟩, PySem.Drawn.mk 0 0 0 0, 187, os⟩
def Tb (P : Params) : BT := (nd (boot_o_0 P) (nd (boot_o_1 P) (nd (boot_o_3 P) (lf (boot_o_7 P)) (lf o11a)) (nd (boot_o_5 P) (lf (boot_o_9 P)) (lf o13a))) (nd (boot_o_2 P) (nd (boot_o_4 P) (lf (boot_o_8 P)) (lf o12a)) (nd (boot_o_6 P) (lf (boot_o_10 P)) (lf o14a))))
def Sb (w : World) (os : OsState) : SharedT := ⟨Tb w.params, 15, PySem.Life.mk [] [] [] 0 [] [] false #[] [] 0 false false false 0 [2000, 10, 10] false 0 true [] [] 0 false, ⟨[]⟩, PySem.Drawn.mk 0 0 0 0, 187, os⟩
def T0 (P : Params) : BT := (nd (boot_o_0 P) (nd (boot_o_1 P) (nd (o3_0 P) (nd (boot_o_7 P) (nd o15 (nd o31 (nd o63 (nd o127 (lf o255) nl) (nd o191 (lf o319) nl)) (nd o95 (nd o159 (lf o287) nl) (lf o223))) (nd o47 (nd (o79 P) (nd o143 (lf o271) nl) (nd o207 (lf o335) nl)) (nd o111 (nd o175 (lf o303) nl) (lf o239)))) (nd o23 (nd o39 (nd o71 (nd o135 (lf o263) nl) (nd o199 (lf o327) nl)) (nd o103 (nd o167 (lf o295) nl) (lf o231))) (nd (o55 P) (nd o87 (nd o151 (lf o279) nl) (lf o215)) (nd o119 (nd o183 (lf o311) nl) (lf o247))))) (nd o11a (nd o19 (nd o35 (nd (o67 P) (nd o131 (lf o259) nl) (nd o195 (lf o323) nl)) (nd o99 (nd o163 (lf o291) nl) (lf o227))) (nd o51 (nd o83 (nd o147 (lf o275) nl) (lf o211)) (nd o115 (nd o179 (lf o307) nl) (lf o243)))) (nd o27 (nd (o43 P) (nd o75 (nd o139 (lf o267) nl) (nd o203 (lf o331) nl)) (nd o107 (nd o171 (lf o299) nl) (lf o235))) (nd o59 (nd o91 (nd o155 (lf o283) nl) (lf o219)) (nd o123 (nd o187 (lf o315) nl) (lf o251_0)))))) (nd (boot_o_5 P) (nd (boot_o_9 P) (nd o17 (nd o33 (nd o65 (nd o129 (lf o257) nl) (nd o193 (lf o321) nl)) (nd o97 (nd o161 (lf o289) nl) (lf o225))) (nd (o49 P) (nd o81 (nd o145 (lf o273) nl) (lf o209)) (nd o113 (nd o177 (lf o305) nl) (lf o241)))) (nd o25 (nd o41 (nd (o73 P) (nd o137 (lf o265) nl) (nd o201 (lf o329) nl)) (nd o105 (nd o169 (lf o297) nl) (lf o233))) (nd o57 (nd o89 (nd o153 (lf o281) nl) (lf o217)) (nd o121 (nd o185 (lf o313) nl) (lf o249))))) (nd o13a (nd o21 (nd (o37 P) (nd o69 (nd o133 (lf o261) nl) (nd o197 (lf o325) nl)) (nd o101 (nd o165 (lf o293) nl) (lf o229))) (nd o53 (nd o85 (nd o149 (lf o277) nl) (lf o213)) (nd o117 (nd o181 (lf o309) nl) (lf o245)))) (nd o29 (nd o45 (nd o77 (nd o141 (lf o269) nl) (nd o205 (lf o333) nl)) (nd o109 (nd o173 (lf o301) nl) (lf o237))) (nd (o61 P) (nd o93 (nd o157 (lf o285) nl) (lf o221)) (nd o125 (nd o189 (lf o317) nl) (lf o253))))))) (nd (boot_o_2 P) (nd (boot_o_4 P) (nd (boot_o_8 P) (nd o16 (nd o32 (nd o64 (nd o128 (lf (o256 P)) nl) (nd o192 (lf o320) nl)) (nd o96 (nd o160 (lf o288) nl) (lf o224))) (nd o48 (nd o80 (nd o144 (lf o272) nl) (lf o208)) (nd o112 (nd o176 (lf o304) nl) (lf o240)))) (nd (o24 P) (nd o40 (nd o72 (nd o136 (lf o264) nl) (nd o200 (lf o328) nl)) (nd o104 (nd o168 (lf o296) nl) (lf o232))) (nd o56 (nd o88 (nd o152 (lf o280) nl) (lf (o216 P))) (nd o120 (nd o184 (lf o312) nl) (lf o248))))) (nd o12_0 (nd o20 (nd o36 (nd o68 (nd o132 (lf o260) nl) (nd o196 (lf o324) nl)) (nd o100 (nd o164 (lf o292) nl) (lf o228))) (nd o52 (nd o84 (nd o148 (lf o276) nl) (lf o212)) (nd o116 (nd o180 (lf o308) nl) (lf o244)))) (nd o28 (nd o44 (nd o76 (nd o140 (lf o268) nl) (nd o204 (lf (o332 P)) nl)) (nd o108 (nd o172 (lf o300) nl) (lf o236))) (nd o60 (nd o92 (nd o156 (lf o284) nl) (lf o220)) (nd o124 (nd o188 (lf o316) nl) (lf o252)))))) (nd (boot_o_6 P) (nd (boot_o_10 P) (nd o18 (nd o34 (nd o66 (nd o130 (lf o258) nl) (nd o194 (lf o322) nl)) (nd o98 (nd o162 (lf o290) nl) (lf o226))) (nd o50 (nd o82 (nd o146 (lf o274) nl) (lf o210)) (nd o114 (nd o178 (lf o306) nl) (lf o242)))) (nd o26 (nd o42 (nd o74 (nd o138 (lf o266) nl) (nd o202 (lf o330) nl)) (nd o106 (nd o170 (lf o298) nl) (lf o234))) (nd o58 (nd o90 (nd o154 (lf o282) nl) (lf o218)) (nd o122 (nd o186 (lf o314) nl) (lf (o250 P)))))) (nd o14a (nd o22 (nd o38 (nd o70 (nd o134 (lf o262) nl) (nd o198 (lf o326) nl)) (nd o102 (nd o166 (lf o294) nl) (lf (o230 P)))) (nd o54 (nd o86 (nd o150 (lf o278) nl) (lf o214)) (nd o118 (nd o182 (lf o310) nl) (lf o246)))) (nd (o30 P) (nd o46 (nd o78 (nd o142 (lf o270) nl) (nd o206 (lf o334) nl)) (nd o110 (nd o174 (lf o302) nl) (lf o238))) (nd o62 (nd o94 (nd o158 (lf o286) nl) (lf (o222 P))) (nd o126 (nd o190 (lf o318) nl) (lf o254))))))))
def S0 (w : World) (os : OsState) : SharedT := ⟨T0 w.params, 336, PySem.Life.mk [] [] [] 0 [] [] false #[] [] 0 false false false 0 [2000, 10, 10] false 0 true [] [] 0 false, ⟨[]⟩, PySem.Drawn.mk 0 0 0 0, 604, os⟩
def T1 (P : Params) : BT := (nd (boot_o_0 P) (nd (boot_o_1 P) (nd (o3_1 P) (nd (boot_o_7 P) (nd o15 (nd o31 (nd o63 (nd o127 (nd o255 (lf o511) nl) (lf o383)) (nd o191 (lf o319) (lf o447))) (nd o95 (nd o159 (lf o287) (lf o415)) (nd o223 (lf o351) (lf o479)))) (nd o47 (nd (o79 P) (nd o143 (nd o271 (lf o527) nl) (lf o399)) (nd o207 (lf o335) (lf o463))) (nd o111 (nd o175 (lf o303) (lf o431)) (nd o239 (lf o367) (lf o495))))) (nd o23 (nd o39 (nd o71 (nd o135 (nd o263 (lf o519) nl) (lf o391)) (nd o199 (lf o327) (lf o455))) (nd o103 (nd o167 (lf o295) (lf o423)) (nd o231 (lf o359) (lf o487)))) (nd (o55 P) (nd o87 (nd o151 (nd o279 (lf o535) nl) (lf o407)) (nd o215 (lf o343) (lf o471))) (nd o119 (nd o183 (lf o311) (lf o439)) (nd o247 (lf o375) (lf o503)))))) (nd o11a (nd o19 (nd o35 (nd (o67 P) (nd o131 (nd o259 (lf o515) nl) (lf o387)) (nd o195 (lf o323) (lf o451))) (nd o99 (nd o163 (lf o291) (lf o419)) (nd o227 (lf o355) (lf o483)))) (nd o51 (nd o83 (nd o147 (nd o275 (lf o531) nl) (lf o403)) (nd o211 (lf o339) (lf o467))) (nd o115 (nd o179 (lf o307) (lf o435)) (nd o243 (lf o371) (lf o499))))) (nd o27 (nd (o43 P) (nd o75 (nd o139 (nd o267 (lf o523) nl) (lf o395)) (nd o203 (lf o331) (lf o459))) (nd o107 (nd o171 (lf o299) (lf o427)) (nd o235 (lf o363) (lf o491)))) (nd o59 (nd o91 (nd o155 (lf o283) (lf o411)) (nd o219 (lf o347) (lf o475))) (nd o123 (nd o187 (lf o315) (lf o443)) (nd o251_1 (lf o379) (lf o507))))))) (nd (boot_o_5 P) (nd (boot_o_9 P) (nd o17 (nd o33 (nd o65 (nd o129 (nd o257 (lf o513) nl) (lf o385)) (nd o193 (lf o321) (lf o449))) (nd o97 (nd o161 (lf o289) (lf o417)) (nd o225 (lf o353) (lf o481)))) (nd (o49 P) (nd o81 (nd o145 (nd o273 (lf o529) nl) (lf o401)) (nd o209 (lf o337) (lf o465))) (nd o113 (nd o177 (lf o305) (lf o433)) (nd o241 (lf o369) (lf o497))))) (nd o25 (nd o41 (nd (o73 P) (nd o137 (nd o265 (lf o521) nl) (lf o393)) (nd o201 (lf o329) (lf o457))) (nd o105 (nd o169 (lf o297) (lf o425)) (nd o233 (lf o361) (lf o489)))) (nd o57 (nd o89 (nd o153 (nd o281 (lf o537) nl) (lf o409)) (nd o217 (lf o345) (lf o473))) (nd o121 (nd o185 (lf o313) (lf o441)) (nd o249 (lf o377) (lf o505)))))) (nd o13a (nd o21 (nd (o37 P) (nd o69 (nd o133 (nd o261 (lf o517) nl) (lf o389)) (nd o197 (lf o325) (lf o453))) (nd o101 (nd o165 (lf o293) (lf (o421 P))) (nd o229 (lf o357) (lf o485)))) (nd o53 (nd o85 (nd o149 (nd o277 (lf o533) nl) (lf o405)) (nd o213 (lf o341) (lf o469))) (nd o117 (nd o181 (lf o309) (lf o437)) (nd o245 (lf o373) (lf o501))))) (nd o29 (nd o45 (nd o77 (nd o141 (nd o269 (lf o525) nl) (lf o397)) (nd o205 (lf o333) (lf o461))) (nd o109 (nd o173 (lf o301) (lf o429)) (nd o237 (lf o365) (lf o493)))) (nd (o61 P) (nd o93 (nd o157 (lf o285) (lf o413)) (nd o221 (lf o349) (lf o477))) (nd o125 (nd o189 (lf o317) (lf o445)) (nd o253 (lf o381) (lf o509)))))))) (nd (boot_o_2 P) (nd (boot_o_4 P) (nd (boot_o_8 P) (nd o16 (nd o32 (nd o64 (nd o128 (nd (o256 P) (lf o512) nl) (lf o384)) (nd o192 (lf o320) (lf o448))) (nd o96 (nd o160 (lf o288) (lf o416)) (nd o224 (lf o352) (lf o480)))) (nd o48 (nd o80 (nd o144 (nd o272 (lf o528) nl) (lf o400)) (nd o208 (lf o336) (lf o464))) (nd o112 (nd o176 (lf o304) (lf o432)) (nd o240 (lf o368) (lf o496))))) (nd (o24 P) (nd o40 (nd o72 (nd o136 (nd o264 (lf o520) nl) (lf o392)) (nd o200 (lf o328) (lf o456))) (nd o104 (nd o168 (lf o296) (lf o424)) (nd o232 (lf o360) (lf o488)))) (nd o56 (nd o88 (nd o152 (nd o280 (lf o536) nl) (lf o408)) (nd (o216 P) (lf o344) (lf o472))) (nd o120 (nd o184 (lf o312) (lf o440)) (nd o248 (lf o376) (lf o504)))))) (nd o12_1 (nd o20 (nd o36 (nd o68 (nd o132 (nd o260 (lf o516) nl) (lf o388)) (nd o196 (lf o324) (lf o452))) (nd o100 (nd o164 (lf o292) (lf o420)) (nd o228 (lf o356) (lf o484)))) (nd o52 (nd o84 (nd o148 (nd o276 (lf o532) nl) (lf o404)) (nd o212 (lf o340) (lf o468))) (nd o116 (nd o180 (lf o308) (lf o436)) (nd o244 (lf o372) (lf o500))))) (nd o28 (nd o44 (nd o76 (nd o140 (nd o268 (lf o524) nl) (lf o396)) (nd o204 (lf (o332 P)) (lf o460))) (nd o108 (nd o172 (lf o300) (lf o428)) (nd o236 (lf o364) (lf o492)))) (nd o60 (nd o92 (nd o156 (lf o284) (lf o412)) (nd o220 (lf o348) (lf o476))) (nd o124 (nd o188 (lf o316) (lf o444)) (nd o252 (lf o380) (lf o508))))))) (nd (boot_o_6 P) (nd (boot_o_10 P) (nd o18 (nd o34 (nd o66 (nd o130 (nd o258 (lf o514) nl) (lf o386)) (nd o194 (lf o322) (lf o450))) (nd o98 (nd o162 (lf o290) (lf o418)) (nd o226 (lf o354) (lf o482)))) (nd o50 (nd o82 (nd o146 (nd o274 (lf o530) nl) (lf o402)) (nd o210 (lf (o338 P)) (lf o466))) (nd o114 (nd o178 (lf o306) (lf o434)) (nd o242 (lf o370) (lf o498))))) (nd o26 (nd o42 (nd o74 (nd o138 (nd o266 (lf o522) nl) (lf o394)) (nd o202 (lf o330) (lf o458))) (nd o106 (nd o170 (lf o298) (lf o426)) (nd o234 (lf o362) (lf o490)))) (nd o58 (nd o90 (nd o154 (nd o282 (lf o538) nl) (lf o410)) (nd o218 (lf o346) (lf o474))) (nd o122 (nd o186 (lf o314) (lf o442)) (nd (o250 P) (lf o378) (lf o506)))))) (nd o14a (nd o22 (nd o38 (nd o70 (nd o134 (nd o262 (lf o518) nl) (lf o390)) (nd o198 (lf o326) (lf o454))) (nd o102 (nd o166 (lf o294) (lf o422)) (nd (o230 P) (lf o358) (lf o486)))) (nd o54 (nd o86 (nd o150 (nd o278 (lf o534) nl) (lf o406)) (nd o214 (lf o342) (lf o470))) (nd o118 (nd o182 (lf o310) (lf o438)) (nd o246 (lf o374) (lf o502))))) (nd (o30 P) (nd o46 (nd o78 (nd o142 (nd o270 (lf o526) nl) (lf o398)) (nd o206 (lf o334) (lf o462))) (nd o110 (nd o174 (lf o302) (lf o430)) (nd o238 (lf o366) (lf o494)))) (nd o62 (nd o94 (nd o158 (lf o286) (lf o414)) (nd (o222 P) (lf o350) (lf o478))) (nd o126 (nd o190 (lf o318) (lf o446)) (nd o254 (lf o382) (lf o510)))))))))
def S1 (w : World) (os : OsState) : SharedT := ⟨T1 w.params, 539, PySem.Life.mk [] [] [] 0 [] [] false #[] [] 0 false false false 0 [2000, 10, 10] false 0 true [] [] 0 false, ⟨[]⟩, PySem.Drawn.mk 0 0 0 0, 849, os⟩
def Hf (P : Params) : Heap := ⟨⟨[boot_o_0 P, boot_o_1 P, boot_o_2 P, o3_1 P, boot_o_4 P, boot_o_5 P, boot_o_6 P, boot_o_7 P, boot_o_8 P, boot_o_9 P, boot_o_10 P, o11a, o12_1, o13a, o14a, o15, o16, o17, o18, o19, o20, o21, o22, o23, o24 P, o25, o26, o27, o28, o29, o30 P, o31, o32, o33, o34, o35, o36, o37 P, o38, o39, o40, o41, o42, o43 P, o44, o45, o46, o47, o48, o49 P, o50, o51, o52, o53, o54, o55 P, o56, o57, o58, o59, o60, o61 P, o62, o63, o64, o65, o66, o67 P, o68, o69, o70, o71, o72, o73 P, o74, o75, o76, o77, o78, o79 P, o80, o81, o82, o83, o84, o85, o86, o87, o88, o89, o90, o91, o92, o93, o94, o95, o96, o97, o98, o99, o100, o101, o102, o103, o104, o105, o106, o107, o108, o109, o110, o111, o112, o113, o114, o115, o116, o117, o118, o119, o120, o121, o122, o123, o124, o125, o126, o127, o128, o129, o130, o131, o132, o133, o134, o135, o136, o137, o138, o139, o140, o141, o142, o143, o144, o145, o146, o147, o148, o149, o150, o151, o152, o153, o154, o155, o156, o157, o158, o159, o160, o161, o162, o163, o164, o165, o166, o167, o168, o169, o170, o171, o172, o173, o174, o175, o176, o177, o178, o179, o180, o181, o182, o183, o184, o185, o186, o187, o188, o189, o190, o191, o192, o193, o194, o195, o196, o197, o198, o199, o200, o201, o202, o203, o204, o205, o206, o207, o208, o209, o210, o211, o212, o213, o214, o215, o216 P, o217, o218, o219, o220, o221, o222 P, o223, o224, o225, o226, o227, o228, o229, o230 P, o231, o232, o233, o234, o235, o236, o237, o238, o239, o240, o241, o242, o243, o244, o245, o246, o247, o248, o249, o250 P, o251_1, o252, o253, o254, o255, o256 P, o257, o258, o259, o260, o261, o262, o263, o264, o265, o266, o267, o268, o269, o270, o271, o272, o273, o274, o275, o276, o277, o278, o279, o280, o281, o282, o283, o284, o285, o286, o287, o288, o289, o290, o291, o292, o293, o294, o295, o296, o297, o298, o299, o300, o301, o302, o303, o304, o305, o306, o307, o308, o309, o310, o311, o312, o313, o314, o315, o316, o317, o318, o319, o320, o321, o322, o323, o324, o325, o326, o327, o328, o329, o330, o331, o332 P, o333, o334, o335, o336, o337, o338 P, o339, o340, o341, o342, o343, o344, o345, o346, o347, o348, o349, o350, o351, o352, o353, o354, o355, o356, o357, o358, o359, o360, o361, o362, o363, o364, o365, o366, o367, o368, o369, o370, o371, o372, o373, o374, o375, o376, o377, o378, o379, o380, o381, o382, o383, o384, o385, o386, o387, o388, o389, o390, o391, o392, o393, o394, o395, o396, o397, o398, o399, o400, o401, o402, o403, o404, o405, o406, o407, o408, o409, o410, o411, o412, o413, o414, o415, o416, o417, o418, o419, o420, o421 P, o422, o423, o424, o425, o426, o427, o428, o429, o430, o431, o432, o433, o434, o435, o436, o437, o438, o439, o440, o441, o442, o443, o444, o445, o446, o447, o448, o449, o450, o451, o452, o453, o454, o455, o456, o457, o458, o459, o460, o461, o462, o463, o464, o465, o466, o467, o468, o469, o470, o471, o472, o473, o474, o475, o476, o477, o478, o479, o480, o481, o482, o483, o484, o485, o486, o487, o488, o489, o490, o491, o492, o493, o494, o495, o496, o497, o498, o499, o500, o501, o502, o503, o504, o505, o506, o507, o508, o509, o510, o511, o512, o513, o514, o515, o516, o517, o518, o519, o520, o521, o522, o523, o524, o525, o526, o527, o528, o529, o530, o531, o532, o533, o534, o535, o536, o537, o538]⟩, PySem.Life.mk [] [] [] 0 [] [] false #[] [] 0 false false false 0 [2000, 10, 10] false 0 true [] [] 0 false⟩
def Sf (w : World) (os : OsState) : Shared := ⟨Hf w.params, ⟨[]⟩, PySem.Drawn.mk 0 0 0 0, 849, os⟩
theorem pre_ (w : World) (os : OsState) : topGo treeTable Fast.tw824743771357420731 w 11 ((some (r 6))) 12 ⟨boot_heap w.params, ⟨[]⟩, boot_drawn, boot_toks, os⟩ (topStub Fast.tw824743771357420731) = some (Sa w os, ⟨denote treeTable cT, cT, ⟨0, 0, 0, 0⟩, [topFrame qP]⟩) := by (try rw [Fast.te15667345088766844465]); (try rw [Fast.te14082659384304107361]); (try rw [Fast.te14374325043358763698]); (try rw [Fast.te10110043849684766642]); (try rw [Fast.te14364793385576792824]); (try rw [Fast.te11892475500146522536]); (try rw [Fast.te4187177175401517315]); (try rw [Fast.te5923862056798008813]); (try rw [Fast.te8920871248978507458]); kernel_rfl
theorem block_ (w : World) (os : OsState) : segRun treeTable Fast.tw824743771357420731 w 11 ((some (r 6))) 1 1 (Sa w os) (blockOf (behindTheImports Fast.tw824743771357420731) envT cT ⟨0, 0, 0, 0⟩ [topFrame qP]) = some (.next, (Sb w os).abs, cT, ⟨0, 0, 0, 0⟩) := by (try rw [Fast.te15667345088766844465]); (try rw [Fast.te14082659384304107361]); (try rw [Fast.te14374325043358763698]); (try rw [Fast.te10110043849684766642]); (try rw [Fast.te14364793385576792824]); (try rw [Fast.te11892475500146522536]); (try rw [Fast.te4187177175401517315]); (try rw [Fast.te5923862056798008813]); (try rw [Fast.te8920871248978507458]); kernel_rfl
def sts0 : List Stmt := [topT 0, topT 1, topT 2, topT 3, topT 4, topT 5, topT 6, topT 7, topT 8, topT 9, topT 10, topT 11, topT 12, topT 13, topT 14, topT 15, topT 16, topT 17, topT 18, topT 19, topT 20, topT 21, topT 22, topT 23, topT 24, topT 25, topT 26, topT 27, topT 28, topT 29, topT 30, topT 31, topT 32, topT 33, topT 34, topT 35, topT 36, topT 37]
theorem pc0 (w : World) (os : OsState) : segRunT treeTable Fast.tw824743771357420731 w 11 ((some (r 6))) 1 2762 (Sb w os) (piecesOf sts0 envT cT ⟨0, 0, 0, 0⟩ [topFrame qP]) = some (.next, S0 w os, cT, ⟨130, 0, 172, 28⟩) := by (try rw [Fast.te15667345088766844465]); (try rw [Fast.te14082659384304107361]); (try rw [Fast.te14374325043358763698]); (try rw [Fast.te10110043849684766642]); (try rw [Fast.te14364793385576792824]); (try rw [Fast.te11892475500146522536]); (try rw [Fast.te4187177175401517315]); (try rw [Fast.te5923862056798008813]); (try rw [Fast.te8920871248978507458]); kernel_rfl
def sts1 : List Stmt := [topT 38, topT 39, topT 40, topT 41, topT 42, topT 43, topT 44, topT 45, topT 46, topT 47, topT 48, topT 49, topT 50, topT 51, topT 52, topT 53, topT 54, topT 55, topT 56, topT 57]
theorem pc1 (w : World) (os : OsState) : segRunT treeTable Fast.tw824743771357420731 w 11 ((some (r 6))) 1 1111 (S0 w os) (piecesOf sts1 envT cT ⟨130, 0, 172, 28⟩ [topFrame qP]) = some (.next, S1 w os, cT, ⟨311, 0, 338, 58⟩) := by (try rw [Fast.te15667345088766844465]); (try rw [Fast.te14082659384304107361]); (try rw [Fast.te14374325043358763698]); (try rw [Fast.te10110043849684766642]); (try rw [Fast.te14364793385576792824]); (try rw [Fast.te11892475500146522536]); (try rw [Fast.te4187177175401517315]); (try rw [Fast.te5923862056798008813]); (try rw [Fast.te8920871248978507458]); kernel_rfl
theorem fin_ (w : World) (os : OsState) : topRun treeTable Fast.tw824743771357420731 w 11 ((some (r 6))) 2 (S1 w os).abs ⟨doneF .next, cT, ⟨311, 0, 338, 58⟩, [topFrame qP]⟩ = some (Sf w os) := by (try rw [Fast.te15667345088766844465]); (try rw [Fast.te14082659384304107361]); (try rw [Fast.te14374325043358763698]); (try rw [Fast.te10110043849684766642]); (try rw [Fast.te14364793385576792824]); (try rw [Fast.te11892475500146522536]); (try rw [Fast.te4187177175401517315]); (try rw [Fast.te5923862056798008813]); (try rw [Fast.te8920871248978507458]); kernel_rfl
theorem body_eq : behindTheImports Fast.tw824743771357420731 = (sts0 ++ (sts1 ++ [])) := by kernel_rfl
theorem run_ (w : World) (os : OsState) : topRun treeTable Fast.tw824743771357420731 w 11 ((some (r 6))) (12 + (1 + (2762 + (1111 + 2)))) ⟨boot_heap w.params, ⟨[]⟩, boot_drawn, boot_toks, os⟩ (topStub Fast.tw824743771357420731) = some (Sf w os) := by
  have h := (piece_app (segRun_of (pc0 w os)) (piece_app (segRun_of (pc1 w os)) (piece_nil (fin_ w os))))
  rw [← body_eq] at h
  exact go_top (pre_ w os) (piece_block (block_ w os) h)
def K (P : Params) : Frag := (nat_lit 2, boot_o_2 P) :: (nat_lit 3, o3_1 P) :: (nat_lit 15, o15) :: (nat_lit 17, o17) :: (nat_lit 18, o18) :: (nat_lit 20, o20) :: (nat_lit 21, o21) :: (nat_lit 22, o22) :: (nat_lit 29, o29) :: (nat_lit 30, o30 P) :: (nat_lit 31, o31) :: (nat_lit 32, o32) :: (nat_lit 35, o35) :: (nat_lit 42, o42) :: (nat_lit 43, o43 P) :: (nat_lit 44, o44) :: (nat_lit 47, o47) :: (nat_lit 54, o54) :: (nat_lit 55, o55 P) :: (nat_lit 56, o56) :: (nat_lit 59, o59) :: (nat_lit 66, o66) :: (nat_lit 67, o67 P) :: (nat_lit 68, o68) :: (nat_lit 71, o71) :: (nat_lit 78, o78) :: (nat_lit 79, o79 P) :: (nat_lit 80, o80) :: (nat_lit 83, o83) :: (nat_lit 86, o86) :: (nat_lit 87, o87) :: (nat_lit 88, o88) :: (nat_lit 91, o91) :: (nat_lit 92, o92) :: (nat_lit 93, o93) :: (nat_lit 96, o96) :: (nat_lit 97, o97) :: (nat_lit 98, o98) :: (nat_lit 100, o100) :: (nat_lit 101, o101) :: (nat_lit 103, o103) :: (nat_lit 104, o104) :: (nat_lit 105, o105) :: (nat_lit 107, o107) :: (nat_lit 108, o108) :: (nat_lit 110, o110) :: (nat_lit 111, o111) :: (nat_lit 112, o112) :: (nat_lit 115, o115) :: (nat_lit 116, o116) :: (nat_lit 117, o117) :: (nat_lit 119, o119) :: (nat_lit 120, o120) :: (nat_lit 122, o122) :: (nat_lit 123, o123) :: (nat_lit 124, o124) :: (nat_lit 126, o126) :: (nat_lit 127, o127) :: (nat_lit 129, o129) :: (nat_lit 130, o130) :: (nat_lit 131, o131) :: (nat_lit 133, o133) :: (nat_lit 134, o134) :: (nat_lit 136, o136) :: (nat_lit 137, o137) :: (nat_lit 138, o138) :: (nat_lit 140, o140) :: (nat_lit 141, o141) :: (nat_lit 143, o143) :: (nat_lit 144, o144) :: (nat_lit 145, o145) :: (nat_lit 148, o148) :: (nat_lit 149, o149) :: (nat_lit 150, o150) :: (nat_lit 152, o152) :: (nat_lit 153, o153) :: (nat_lit 155, o155) :: (nat_lit 156, o156) :: (nat_lit 157, o157) :: (nat_lit 160, o160) :: (nat_lit 161, o161) :: (nat_lit 162, o162) :: (nat_lit 165, o165) :: (nat_lit 166, o166) :: (nat_lit 167, o167) :: (nat_lit 169, o169) :: (nat_lit 170, o170) :: (nat_lit 172, o172) :: (nat_lit 173, o173) :: (nat_lit 174, o174) :: (nat_lit 176, o176) :: (nat_lit 177, o177) :: (nat_lit 179, o179) :: (nat_lit 180, o180) :: (nat_lit 181, o181) :: (nat_lit 183, o183) :: (nat_lit 184, o184) :: (nat_lit 186, o186) :: (nat_lit 187, o187) :: (nat_lit 188, o188) :: (nat_lit 190, o190) :: (nat_lit 191, o191) :: (nat_lit 193, o193) :: (nat_lit 194, o194) :: (nat_lit 195, o195) :: (nat_lit 198, o198) :: (nat_lit 199, o199) :: (nat_lit 200, o200) :: (nat_lit 202, o202) :: (nat_lit 203, o203) :: (nat_lit 205, o205) :: (nat_lit 206, o206) :: (nat_lit 207, o207) :: (nat_lit 209, o209) :: (nat_lit 210, o210) :: (nat_lit 212, o212) :: (nat_lit 213, o213) :: (nat_lit 221, o221) :: (nat_lit 222, o222 P) :: (nat_lit 223, o223) :: (nat_lit 224, o224) :: (nat_lit 225, o225) :: (nat_lit 228, o228) :: (nat_lit 235, o235) :: (nat_lit 237, o237) :: (nat_lit 238, o238) :: (nat_lit 240, o240) :: (nat_lit 241, o241) :: (nat_lit 242, o242) :: (nat_lit 244, o244) :: (nat_lit 245, o245) :: (nat_lit 247, o247) :: (nat_lit 248, o248) :: (nat_lit 249, o249) :: (nat_lit 250, o250 P) :: (nat_lit 251, o251_1) :: (nat_lit 254, o254) :: (nat_lit 261, o261) :: (nat_lit 263, o263) :: (nat_lit 264, o264) :: (nat_lit 266, o266) :: (nat_lit 267, o267) :: (nat_lit 268, o268) :: (nat_lit 270, o270) :: (nat_lit 271, o271) :: (nat_lit 273, o273) :: (nat_lit 274, o274) :: (nat_lit 275, o275) :: (nat_lit 277, o277) :: (nat_lit 278, o278) :: (nat_lit 280, o280) :: (nat_lit 281, o281) :: (nat_lit 282, o282) :: (nat_lit 284, o284) :: (nat_lit 285, o285) :: (nat_lit 287, o287) :: (nat_lit 288, o288) :: (nat_lit 289, o289) :: (nat_lit 291, o291) :: (nat_lit 292, o292) :: (nat_lit 294, o294) :: (nat_lit 295, o295) :: (nat_lit 296, o296) :: (nat_lit 298, o298) :: (nat_lit 299, o299) :: (nat_lit 301, o301) :: (nat_lit 302, o302) :: (nat_lit 303, o303) :: (nat_lit 305, o305) :: (nat_lit 306, o306) :: (nat_lit 308, o308) :: (nat_lit 309, o309) :: (nat_lit 310, o310) :: (nat_lit 312, o312) :: (nat_lit 313, o313) :: (nat_lit 315, o315) :: (nat_lit 316, o316) :: (nat_lit 317, o317) :: (nat_lit 319, o319) :: (nat_lit 320, o320) :: (nat_lit 322, o322) :: (nat_lit 323, o323) :: (nat_lit 324, o324) :: (nat_lit 326, o326) :: (nat_lit 327, o327) :: (nat_lit 329, o329) :: (nat_lit 330, o330) :: (nat_lit 331, o331) :: (nat_lit 332, o332 P) :: (nat_lit 333, o333) :: (nat_lit 336, o336) :: (nat_lit 343, o343) :: (nat_lit 345, o345) :: (nat_lit 346, o346) :: (nat_lit 348, o348) :: (nat_lit 349, o349) :: (nat_lit 350, o350) :: (nat_lit 352, o352) :: (nat_lit 353, o353) :: (nat_lit 355, o355) :: (nat_lit 356, o356) :: (nat_lit 357, o357) :: (nat_lit 359, o359) :: (nat_lit 360, o360) :: (nat_lit 362, o362) :: (nat_lit 363, o363) :: (nat_lit 364, o364) :: (nat_lit 366, o366) :: (nat_lit 367, o367) :: (nat_lit 369, o369) :: (nat_lit 370, o370) :: (nat_lit 371, o371) :: (nat_lit 373, o373) :: (nat_lit 374, o374) :: (nat_lit 376, o376) :: (nat_lit 377, o377) :: (nat_lit 378, o378) :: (nat_lit 380, o380) :: (nat_lit 381, o381) :: (nat_lit 383, o383) :: (nat_lit 384, o384) :: (nat_lit 385, o385) :: (nat_lit 387, o387) :: (nat_lit 388, o388) :: (nat_lit 390, o390) :: (nat_lit 391, o391) :: (nat_lit 392, o392) :: (nat_lit 394, o394) :: (nat_lit 395, o395) :: (nat_lit 397, o397) :: (nat_lit 398, o398) :: (nat_lit 399, o399) :: (nat_lit 401, o401) :: (nat_lit 402, o402) :: (nat_lit 404, o404) :: (nat_lit 405, o405) :: (nat_lit 406, o406) :: (nat_lit 408, o408) :: (nat_lit 409, o409) :: (nat_lit 411, o411) :: (nat_lit 412, o412) :: (nat_lit 413, o413) :: (nat_lit 415, o415) :: (nat_lit 416, o416) :: (nat_lit 418, o418) :: (nat_lit 419, o419) :: (nat_lit 420, o420) :: (nat_lit 421, o421 P) :: (nat_lit 422, o422) :: (nat_lit 425, o425) :: (nat_lit 427, o427) :: (nat_lit 428, o428) :: (nat_lit 430, o430) :: (nat_lit 431, o431) :: (nat_lit 432, o432) :: (nat_lit 434, o434) :: (nat_lit 435, o435) :: (nat_lit 437, o437) :: (nat_lit 438, o438) :: (nat_lit 439, o439) :: (nat_lit 441, o441) :: (nat_lit 442, o442) :: (nat_lit 444, o444) :: (nat_lit 445, o445) :: (nat_lit 446, o446) :: (nat_lit 448, o448) :: (nat_lit 449, o449) :: (nat_lit 451, o451) :: (nat_lit 452, o452) :: (nat_lit 453, o453) :: (nat_lit 455, o455) :: (nat_lit 456, o456) :: (nat_lit 458, o458) :: (nat_lit 459, o459) :: (nat_lit 460, o460) :: (nat_lit 462, o462) :: (nat_lit 463, o463) :: (nat_lit 465, o465) :: (nat_lit 466, o466) :: (nat_lit 467, o467) :: (nat_lit 469, o469) :: (nat_lit 470, o470) :: (nat_lit 472, o472) :: (nat_lit 473, o473) :: (nat_lit 474, o474) :: (nat_lit 476, o476) :: (nat_lit 477, o477) :: (nat_lit 479, o479) :: (nat_lit 480, o480) :: (nat_lit 481, o481) :: (nat_lit 483, o483) :: (nat_lit 484, o484) :: (nat_lit 486, o486) :: (nat_lit 487, o487) :: (nat_lit 488, o488) :: (nat_lit 490, o490) :: (nat_lit 491, o491) :: (nat_lit 493, o493) :: (nat_lit 494, o494) :: (nat_lit 495, o495) :: (nat_lit 497, o497) :: (nat_lit 498, o498) :: (nat_lit 500, o500) :: (nat_lit 501, o501) :: (nat_lit 502, o502) :: (nat_lit 504, o504) :: (nat_lit 505, o505) :: (nat_lit 507, o507) :: (nat_lit 508, o508) :: (nat_lit 509, o509) :: (nat_lit 512, o512) :: (nat_lit 513, o513) :: (nat_lit 514, o514) :: (nat_lit 517, o517) :: (nat_lit 518, o518) :: (nat_lit 519, o519) :: (nat_lit 522, o522) :: (nat_lit 523, o523) :: (nat_lit 524, o524) :: (nat_lit 527, o527) :: (nat_lit 528, o528) :: (nat_lit 529, o529) :: (nat_lit 532, o532) :: (nat_lit 533, o533) :: (nat_lit 534, o534) :: (nat_lit 537, o537) :: (nat_lit 538, o538) :: []
def KA : List Addr := [2, 3, 15, 17, 18, 20, 21, 22, 29, 30, 31, 32, 35, 42, 43, 44, 47, 54, 55, 56, 59, 66, 67, 68, 71, 78, 79, 80, 83, 86, 87, 88, 91, 92, 93, 96, 97, 98, 100, 101, 103, 104, 105, 107, 108, 110, 111, 112, 115, 116, 117, 119, 120, 122, 123, 124, 126, 127, 129, 130, 131, 133, 134, 136, 137, 138, 140, 141, 143, 144, 145, 148, 149, 150, 152, 153, 155, 156, 157, 160, 161, 162, 165, 166, 167, 169, 170, 172, 173, 174, 176, 177, 179, 180, 181, 183, 184, 186, 187, 188, 190, 191, 193, 194, 195, 198, 199, 200, 202, 203, 205, 206, 207, 209, 210, 212, 213, 221, 222, 223, 224, 225, 228, 235, 237, 238, 240, 241, 242, 244, 245, 247, 248, 249, 250, 251, 254, 261, 263, 264, 266, 267, 268, 270, 271, 273, 274, 275, 277, 278, 280, 281, 282, 284, 285, 287, 288, 289, 291, 292, 294, 295, 296, 298, 299, 301, 302, 303, 305, 306, 308, 309, 310, 312, 313, 315, 316, 317, 319, 320, 322, 323, 324, 326, 327, 329, 330, 331, 332, 333, 336, 343, 345, 346, 348, 349, 350, 352, 353, 355, 356, 357, 359, 360, 362, 363, 364, 366, 367, 369, 370, 371, 373, 374, 376, 377, 378, 380, 381, 383, 384, 385, 387, 388, 390, 391, 392, 394, 395, 397, 398, 399, 401, 402, 404, 405, 406, 408, 409, 411, 412, 413, 415, 416, 418, 419, 420, 421, 422, 425, 427, 428, 430, 431, 432, 434, 435, 437, 438, 439, 441, 442, 444, 445, 446, 448, 449, 451, 452, 453, 455, 456, 458, 459, 460, 462, 463, 465, 466, 467, 469, 470, 472, 473, 474, 476, 477, 479, 480, 481, 483, 484, 486, 487, 488, 490, 491, 493, 494, 495, 497, 498, 500, 501, 502, 504, 505, 507, 508, 509, 512, 513, 514, 517, 518, 519, 522, 523, 524, 527, 528, 529, 532, 533, 534, 537, 538]
theorem KA_eq (P : Params) : KA = (K P).map (·.1) := by kernel_rfl
def topO (i : Nat) : Stmt := PySem.Challenge.pw_weighwalk_k33_inverse.main.body.getD i (.Pass ⟨0, 0, 0, 0⟩)
theorem top_eq : topT = topO := by unfold topT topO; rw [Fast.te824743771357420731]
def qT : Program := { Fast.tw824743771357420731 with main := { Fast.tw824743771357420731.main with body := [topT 0, topT 2, topT 3, topT 4, topT 5, topT 6, topT 8, topT 9, topT 10, topT 12, topT 13, topT 14, topT 15, topT 16, topT 17, topT 18, topT 19, topT 20, topT 21, topT 22, topT 24, topT 25, topT 26, topT 27, topT 29, topT 30, topT 31, topT 32, topT 33, topT 34, topT 35, topT 36, topT 37, topT 38, topT 40, topT 41, topT 42, topT 43, topT 44, topT 45, topT 46, topT 47, topT 48, topT 49, topT 50, topT 51, topT 52, topT 53, topT 54, topT 55, topT 56, topT 57] } }
def qO : Program := { PySem.Challenge.pw_weighwalk_k33_inverse with main := { PySem.Challenge.pw_weighwalk_k33_inverse.main with body := [topO 0, topO 2, topO 3, topO 4, topO 5, topO 6, topO 8, topO 9, topO 10, topO 12, topO 13, topO 14, topO 15, topO 16, topO 17, topO 18, topO 19, topO 20, topO 21, topO 22, topO 24, topO 25, topO 26, topO 27, topO 29, topO 30, topO 31, topO 32, topO 33, topO 34, topO 35, topO 36, topO 37, topO 38, topO 40, topO 41, topO 42, topO 43, topO 44, topO 45, topO 46, topO 47, topO 48, topO 49, topO 50, topO 51, topO 52, topO 53, topO 54, topO 55, topO 56, topO 57] } }
theorem q_eq : qO = qT := by unfold qO qT; rw [top_eq, Fast.te824743771357420731]
def recs := RowW.records (OpenRow.toRowW (OpenLaw.row PySem.Challenge.rw_weighwalk_k33_inverse))
abbrev Xt (q : Program) (s : Shared) : Bool := xlAt q [] s && recOk recs s
abbrev hook : Hook := kHook K KA KA_eq
theorem size_ (w : World) : ((boot_heap w.params).isNs mainGlobals && (⟨[]⟩ : Array GenState).size == 0, (boot_heap w.params).objs.size, (boot_heap w.params).nsMap mainGlobals "__annotations__") = (true, 11, (some (r 6))) := by (try rw [Fast.te15667345088766844465]); (try rw [Fast.te14082659384304107361]); (try rw [Fast.te14374325043358763698]); (try rw [Fast.te10110043849684766642]); (try rw [Fast.te14364793385576792824]); (try rw [Fast.te11892475500146522536]); (try rw [Fast.te4187177175401517315]); (try rw [Fast.te5923862056798008813]); (try rw [Fast.te8920871248978507458]); kernel_rfl
theorem open_ : ∀ w : World, (fencedOpening treeTable Fast.tw824743771357420731 w 7868).map (fun s => (s.heap, s.gens, s.drawn, s.toks)) = some (boot_heap w.params, ⟨[]⟩, boot_drawn, boot_toks) := boot_open (by kernel_rfl) (by decide) (fun s => by (try rw [Fast.te15667345088766844465]); (try rw [Fast.te14082659384304107361]); (try rw [Fast.te14374325043358763698]); (try rw [Fast.te10110043849684766642]); (try rw [Fast.te14364793385576792824]); (try rw [Fast.te11892475500146522536]); (try rw [Fast.te4187177175401517315]); (try rw [Fast.te5923862056798008813]); (try rw [Fast.te8920871248978507458]); kernel_rfl)
theorem look1 (w : World) (os : OsState) : (staticsOk (importedModules Fast.tw824743771357420731.main.body) (boot_heap w.params) (Hf w.params) && namesBound Fast.tw824743771357420731 (Hf w.params) && gensDone (Sf w os) && laidKept (boot_heap w.params) (Hf w.params)) = true := by (try rw [Fast.te15667345088766844465]); (try rw [Fast.te14082659384304107361]); (try rw [Fast.te14374325043358763698]); (try rw [Fast.te10110043849684766642]); (try rw [Fast.te14364793385576792824]); (try rw [Fast.te11892475500146522536]); (try rw [Fast.te4187177175401517315]); (try rw [Fast.te5923862056798008813]); (try rw [Fast.te8920871248978507458]); kernel_rfl
theorem look2 (w : World) (os : OsState) : openSeen qT [] (importedModules Fast.tw824743771357420731.main.body) (Xt qT) true (Sf w os) = openGood qT [] := by (try rw [Fast.te15667345088766844465]); (try rw [Fast.te14082659384304107361]); (try rw [Fast.te14374325043358763698]); (try rw [Fast.te10110043849684766642]); (try rw [Fast.te14364793385576792824]); (try rw [Fast.te11892475500146522536]); (try rw [Fast.te4187177175401517315]); (try rw [Fast.te5923862056798008813]); (try rw [Fast.te8920871248978507458]); kernel_rfl
theorem look3 (w : World) (os : OsState) : hook.obs (Sf w os) = hook.val w := by kernel_rfl
theorem leftT : LeftO Fast.tw824743771357420731 qT [] (Xt qT) hook.obs hook.val 7868 := LeftO.of_pieces (H₁ := Hf) open_ size_ run_ (by decide) (fun w => funext fun os => looks_pair (look1 w os) (looks_pair (look2 w os) (look3 w os)))
theorem left : LeftO PySem.Challenge.pw_weighwalk_k33_inverse qO [] (Xt qO) hook.obs hook.val 7868 := by have h := leftT; rw [← q_eq, ← Fast.te824743771357420731] at h; exact h
def dO : DefRec := ⟨PySem.Str.ofString "law", L2.defArgs (topO 57), L2.defBody (topO 57), L2.defScope (topO 57), ⟨311, 0, 338, 58⟩⟩
theorem holds_ (said : (OpenLaw.row PySem.Challenge.rw_weighwalk_k33_inverse).wellSaid = true) (hw : (OpenLaw.row PySem.Challenge.rw_weighwalk_k33_inverse).toRowW.promised) (hc : WalkO qO [] (XL qO []) (Hook.says hook) (OpenLaw.row PySem.Challenge.rw_weighwalk_k33_inverse).toRowW dO [] (fun f vs => PySem.call f vs)) : (OpenLaw.row PySem.Challenge.rw_weighwalk_k33_inverse).Holds :=
  holds_open (r := (OpenLaw.row PySem.Challenge.rw_weighwalk_k33_inverse)) (q := qO) (loose := []) (Xt := Xt qO) (XP := XL qO []) (Yf := hook.obs) (Ya := hook.val) (YP := hook.says) (d := dO) (kwd := []) (N := 7868) left hook.of hook.keeps (fun s e => xl_of s (Bool.and_eq_true_iff.mp e).1) XL.keeps (by kernel_rfl) (by kernel_rfl) (by kernel_rfl) (fun s e => recFacts_of (Bool.and_eq_true_iff.mp e).2) (by kernel_rfl) said (by decide +kernel) ⟨rfl, rfl, rfl, rfl, rfl, by decide +kernel⟩ hw hc
abbrev fO (n q : String) (s : Stmt) (m c : Value) : Obj := ⟨.type SL.s7174869446012820540x8, none, .func (fnOf (PySem.Str.ofString n) (PySem.Str.ofString q) (L2.defArgs s) (L2.defBody s) (L2.defScope s) .none .none .none m none c .none), #[]⟩
theorem lk_noughts (P : Params) : (K P).lookup 87 = some (fO "noughts" "noughts" (topO 8) (.str s54 278) (r 86)) := by rw [← top_eq]; kernel_rfl
theorem lk_unit (P : Params) : (K P).lookup 92 = some (fO "unit" "unit" (topO 9) (.str s54 278) (r 91)) := by rw [← top_eq]; kernel_rfl
theorem lk_times_row (P : Params) : (K P).lookup 97 = some (fO "times_row" "times_row" (topO 10) (.str s54 278) (r 96)) := by rw [← top_eq]; kernel_rfl
theorem lk_need_field (P : Params) : (K P).lookup 104 = some (fO "need_field" "need_field" (topO 12) (.str s56 298) (r 103)) := by rw [← top_eq]; kernel_rfl
theorem lk_leading (P : Params) : (K P).lookup 111 = some (fO "leading" "leading" (topO 13) (.str s56 298) (r 110)) := by rw [← top_eq]; kernel_rfl
theorem lk_plus_row (P : Params) : (K P).lookup 116 = some (fO "plus_row" "plus_row" (topO 14) (.str s56 298) (r 115)) := by rw [← top_eq]; kernel_rfl
theorem lk_cleared (P : Params) : (K P).lookup 123 = some (fO "cleared" "cleared" (topO 15) (.str s56 298) (r 122)) := by rw [← top_eq]; kernel_rfl
theorem lk_keep (P : Params) : (K P).lookup 130 = some (fO "keep" "keep" (topO 16) (.str s56 298) (r 129)) := by rw [← top_eq]; kernel_rfl
theorem lk_kept_rows (P : Params) : (K P).lookup 137 = some (fO "kept_rows" "kept_rows" (topO 17) (.str s56 298) (r 136)) := by rw [← top_eq]; kernel_rfl
theorem lk_width_of (P : Params) : (K P).lookup 144 = some (fO "width_of" "width_of" (topO 18) (.str s56 298) (r 143)) := by rw [← top_eq]; kernel_rfl
theorem lk_marked (P : Params) : (K P).lookup 149 = some (fO "marked" "marked" (topO 19) (.str s56 298) (r 148)) := by rw [← top_eq]; kernel_rfl
theorem lk_kept_marked (P : Params) : (K P).lookup 156 = some (fO "kept_marked" "kept_marked" (topO 20) (.str s56 298) (r 155)) := by rw [← top_eq]; kernel_rfl
theorem lk_parts_by (P : Params) : (K P).lookup 161 = some (fO "parts_by" "parts_by" (topO 21) (.str s56 298) (r 160)) := by rw [← top_eq]; kernel_rfl
theorem lk_inverse_of (P : Params) : (K P).lookup 166 = some (fO "inverse_of" "inverse_of" (topO 22) (.str s56 298) (r 165)) := by rw [← top_eq]; kernel_rfl
theorem lk_is_whole (P : Params) : (K P).lookup 173 = some (fO "is_whole" "is_whole" (topO 24) (.str s65 391) (r 172)) := by rw [← top_eq]; kernel_rfl
theorem lk_divisor (P : Params) : (K P).lookup 180 = some (fO "divisor" "divisor" (topO 25) (.str s65 391) (r 179)) := by rw [← top_eq]; kernel_rfl
theorem lk_fraction (P : Params) : (K P).lookup 187 = some (fO "fraction" "fraction" (topO 26) (.str s65 391) (r 186)) := by rw [← top_eq]; kernel_rfl
theorem lk_is_prime (P : Params) : (K P).lookup 194 = some (fO "is_prime" "is_prime" (topO 27) (.str s65 391) (r 193)) := by rw [← top_eq]; kernel_rfl
theorem lk_Field_is_field (P : Params) : (K P).lookup 241 = some (fO "is_field" "Field.is_field" (L2.inClass (topO 36) 0) (.str s4 428) (r 240)) := by rw [← top_eq]; kernel_rfl
theorem lk_Fractions_nought (P : Params) : (K P).lookup 274 = some (fO "nought" "Fractions.nought" (L2.inClass (topO 37) 1) (.str s4 428) (r 273)) := by rw [← top_eq]; kernel_rfl
theorem lk_Fractions_one (P : Params) : (K P).lookup 281 = some (fO "one" "Fractions.one" (L2.inClass (topO 37) 2) (.str s4 428) (r 280)) := by rw [← top_eq]; kernel_rfl
theorem lk_Fractions_plus (P : Params) : (K P).lookup 288 = some (fO "plus" "Fractions.plus" (L2.inClass (topO 37) 3) (.str s4 428) (r 287)) := by rw [← top_eq]; kernel_rfl
theorem lk_Fractions_times (P : Params) : (K P).lookup 295 = some (fO "times" "Fractions.times" (L2.inClass (topO 37) 4) (.str s4 428) (r 294)) := by rw [← top_eq]; kernel_rfl
theorem lk_Fractions_minus (P : Params) : (K P).lookup 302 = some (fO "minus" "Fractions.minus" (L2.inClass (topO 37) 5) (.str s4 428) (r 301)) := by rw [← top_eq]; kernel_rfl
theorem lk_Fractions_inverse (P : Params) : (K P).lookup 309 = some (fO "inverse" "Fractions.inverse" (L2.inClass (topO 37) 6) (.str s4 428) (r 308)) := by rw [← top_eq]; kernel_rfl
theorem lk_Residues___init__ (P : Params) : (K P).lookup 349 = some (fO "__init__" "Residues.__init__" (L2.inClass (topO 38) 0) (.str s4 428) (r 348)) := by rw [← top_eq]; kernel_rfl
theorem lk_Residues_nought (P : Params) : (K P).lookup 363 = some (fO "nought" "Residues.nought" (L2.inClass (topO 38) 2) (.str s4 428) (r 362)) := by rw [← top_eq]; kernel_rfl
theorem lk_Residues_one (P : Params) : (K P).lookup 370 = some (fO "one" "Residues.one" (L2.inClass (topO 38) 3) (.str s4 428) (r 369)) := by rw [← top_eq]; kernel_rfl
theorem lk_Residues_plus (P : Params) : (K P).lookup 377 = some (fO "plus" "Residues.plus" (L2.inClass (topO 38) 4) (.str s4 428) (r 376)) := by rw [← top_eq]; kernel_rfl
theorem lk_Residues_times (P : Params) : (K P).lookup 384 = some (fO "times" "Residues.times" (L2.inClass (topO 38) 5) (.str s4 428) (r 383)) := by rw [← top_eq]; kernel_rfl
theorem lk_Residues_minus (P : Params) : (K P).lookup 391 = some (fO "minus" "Residues.minus" (L2.inClass (topO 38) 6) (.str s4 428) (r 390)) := by rw [← top_eq]; kernel_rfl
theorem lk_Residues_inverse (P : Params) : (K P).lookup 398 = some (fO "inverse" "Residues.inverse" (L2.inClass (topO 38) 7) (.str s4 428) (r 397)) := by rw [← top_eq]; kernel_rfl
theorem lk__law_next (P : Params) : (K P).lookup 431 = some (fO "_law_next" "_law_next" (topO 40) (.str s103 713) (r 430)) := by rw [← top_eq]; kernel_rfl
theorem lk__law_state (P : Params) : (K P).lookup 438 = some (fO "_law_state" "_law_state" (topO 41) (.str s103 713) (r 437)) := by rw [← top_eq]; kernel_rfl
theorem lk__law_divisor (P : Params) : (K P).lookup 445 = some (fO "_law_divisor" "_law_divisor" (topO 42) (.str s103 713) (r 444)) := by rw [← top_eq]; kernel_rfl
theorem lk__law_low (P : Params) : (K P).lookup 452 = some (fO "_law_low" "_law_low" (topO 43) (.str s103 713) (r 451)) := by rw [← top_eq]; kernel_rfl
theorem lk__law_plus (P : Params) : (K P).lookup 459 = some (fO "_law_plus" "_law_plus" (topO 44) (.str s103 713) (r 458)) := by rw [← top_eq]; kernel_rfl
theorem lk__law_times (P : Params) : (K P).lookup 466 = some (fO "_law_times" "_law_times" (topO 45) (.str s103 713) (r 465)) := by rw [← top_eq]; kernel_rfl
theorem lk__law_number (P : Params) : (K P).lookup 473 = some (fO "_law_number" "_law_number" (topO 46) (.str s103 713) (r 472)) := by rw [← top_eq]; kernel_rfl
theorem lk__law_sort (P : Params) : (K P).lookup 480 = some (fO "_law_sort" "_law_sort" (topO 47) (.str s103 713) (r 479)) := by rw [← top_eq]; kernel_rfl
theorem lk__law_kind (P : Params) : (K P).lookup 487 = some (fO "_law_kind" "_law_kind" (topO 48) (.str s103 713) (r 486)) := by rw [← top_eq]; kernel_rfl
theorem lk__law_weight (P : Params) : (K P).lookup 494 = some (fO "_law_weight" "_law_weight" (topO 49) (.str s103 713) (r 493)) := by rw [← top_eq]; kernel_rfl
theorem lk__law_whole (P : Params) : (K P).lookup 501 = some (fO "_law_whole" "_law_whole" (topO 50) (.str s103 713) (r 500)) := by rw [← top_eq]; kernel_rfl
theorem lk__law_is (P : Params) : (K P).lookup 508 = some (fO "_law_is" "_law_is" (topO 51) (.str s103 713) (r 507)) := by rw [← top_eq]; kernel_rfl
theorem lk__law_sum (P : Params) : (K P).lookup 513 = some (fO "_law_sum" "_law_sum" (topO 52) (.str s103 713) (r 512)) := by rw [← top_eq]; kernel_rfl
theorem lk__law_steps (P : Params) : (K P).lookup 518 = some (fO "_law_steps" "_law_steps" (topO 53) (.str s103 713) (r 517)) := by rw [← top_eq]; kernel_rfl
theorem lk__law_mixed (P : Params) : (K P).lookup 523 = some (fO "_law_mixed" "_law_mixed" (topO 54) (.str s103 713) (r 522)) := by rw [← top_eq]; kernel_rfl
theorem lk__law_ones (P : Params) : (K P).lookup 528 = some (fO "_law_ones" "_law_ones" (topO 55) (.str s103 713) (r 527)) := by rw [← top_eq]; kernel_rfl
theorem lk__law_by (P : Params) : (K P).lookup 533 = some (fO "_law_by" "_law_by" (topO 56) (.str s103 713) (r 532)) := by rw [← top_eq]; kernel_rfl
theorem lk_law (P : Params) : (K P).lookup 538 = some (fO "law" "law" (topO 57) (.str s103 713) (r 537)) := by rw [← top_eq]; kernel_rfl
end
end H33

set_option maxHeartbeats 4000000
namespace K33
open PySem L2 Mine PyProof.Rows PySem.SeqAt
abbrev Pr : Program := PySem.Challenge.pw_weighwalk_k33_inverse
theorem tree0 : Pr.given.tree = none := rfl
def top (i : Nat) : Stmt := PySem.Challenge.pw_weighwalk_k33_inverse.main.body.getD i (.Pass ⟨0, 0, 0, 0⟩)
abbrev s_is_whole : Stmt := top 24
abbrev s_divisor : Stmt := top 25
abbrev s_fraction : Stmt := top 26
abbrev s_is_prime : Stmt := top 27
abbrev s_Fractions_nought : Stmt := inClass (top 37) 1
abbrev s_Fractions_one : Stmt := inClass (top 37) 2
abbrev s_Fractions_plus : Stmt := inClass (top 37) 3
abbrev s_Fractions_times : Stmt := inClass (top 37) 4
abbrev s_Residues___init__ : Stmt := inClass (top 38) 0
abbrev s_Residues_nought : Stmt := inClass (top 38) 2
abbrev s_Residues_one : Stmt := inClass (top 38) 3
abbrev s_Residues_plus : Stmt := inClass (top 38) 4
abbrev s_Residues_times : Stmt := inClass (top 38) 5
abbrev s_Field_is_field : Stmt := inClass (top 36) 0
abbrev s_Fractions_minus : Stmt := inClass (top 37) 5
abbrev s_Fractions_inverse : Stmt := inClass (top 37) 6
abbrev s_Residues_minus : Stmt := inClass (top 38) 6
abbrev s_Residues_inverse : Stmt := inClass (top 38) 7
abbrev s_noughts : Stmt := top 8
abbrev s_unit : Stmt := top 9
abbrev s_times_row : Stmt := top 10
abbrev s_need_field : Stmt := top 12
abbrev s_leading : Stmt := top 13
abbrev s_plus_row : Stmt := top 14
abbrev s_cleared : Stmt := top 15
abbrev s_keep : Stmt := top 16
abbrev s_kept_rows : Stmt := top 17
abbrev s_width_of : Stmt := top 18
abbrev s_marked : Stmt := top 19
abbrev s_kept_marked : Stmt := top 20
abbrev s_parts_by : Stmt := top 21
abbrev s_inverse_of : Stmt := top 22
abbrev s_law_next : Stmt := top 40
abbrev s_law_state : Stmt := top 41
abbrev s_law_divisor : Stmt := top 42
abbrev s_law_low : Stmt := top 43
abbrev s_law_plus : Stmt := top 44
abbrev s_law_times : Stmt := top 45
abbrev s_law_number : Stmt := top 46
abbrev s_law_sort : Stmt := top 47
abbrev s_law_kind : Stmt := top 48
abbrev s_law_weight : Stmt := top 49
abbrev s_law_whole : Stmt := top 50
abbrev s_law_is : Stmt := top 51
abbrev s_law_sum : Stmt := top 52
abbrev s_law_steps : Stmt := top 53
abbrev s_law_mixed : Stmt := top 54
abbrev s_law_ones : Stmt := top 55
abbrev s_law_by : Stmt := top 56
abbrev s_law : Stmt := top 57
theorem sc_is_whole : FnScope ["thing"] ["thing"] (defScope s_is_whole) := ⟨rfl, rfl, rfl, by decide +kernel, rfl, by decide +kernel, by decide +kernel⟩
theorem sc_divisor : FnScope ["one", "other", "greatest", "rest", "left"] ["one", "other"] (defScope s_divisor) := ⟨rfl, rfl, rfl, by decide +kernel, rfl, by decide +kernel, by decide +kernel⟩
theorem sc_fraction : FnScope ["top", "bottom", "shared"] ["top", "bottom"] (defScope s_fraction) := ⟨rfl, rfl, rfl, by decide +kernel, rfl, by decide +kernel, by decide +kernel⟩
theorem sc_is_prime : FnScope ["number", "factor"] ["number"] (defScope s_is_prime) := ⟨rfl, rfl, rfl, by decide +kernel, rfl, by decide +kernel, by decide +kernel⟩
theorem sc_Fractions_nought : FnScope ["self"] ["self"] (defScope s_Fractions_nought) := ⟨rfl, rfl, rfl, by decide +kernel, rfl, by decide +kernel, by decide +kernel⟩
theorem sc_Fractions_one : FnScope ["self"] ["self"] (defScope s_Fractions_one) := ⟨rfl, rfl, rfl, by decide +kernel, rfl, by decide +kernel, by decide +kernel⟩
theorem sc_Fractions_plus : FnScope ["self", "x", "y"] ["self", "x", "y"] (defScope s_Fractions_plus) := ⟨rfl, rfl, rfl, by decide +kernel, rfl, by decide +kernel, by decide +kernel⟩
theorem sc_Fractions_times : FnScope ["self", "x", "y"] ["self", "x", "y"] (defScope s_Fractions_times) := ⟨rfl, rfl, rfl, by decide +kernel, rfl, by decide +kernel, by decide +kernel⟩
theorem sc_Residues___init__ : FnScope ["self", "prime"] ["self", "prime"] (defScope s_Residues___init__) := ⟨rfl, rfl, rfl, by decide +kernel, rfl, by decide +kernel, by decide +kernel⟩
theorem sc_Residues_nought : FnScope ["self"] ["self"] (defScope s_Residues_nought) := ⟨rfl, rfl, rfl, by decide +kernel, rfl, by decide +kernel, by decide +kernel⟩
theorem sc_Residues_one : FnScope ["self"] ["self"] (defScope s_Residues_one) := ⟨rfl, rfl, rfl, by decide +kernel, rfl, by decide +kernel, by decide +kernel⟩
theorem sc_Residues_plus : FnScope ["self", "x", "y"] ["self", "x", "y"] (defScope s_Residues_plus) := ⟨rfl, rfl, rfl, by decide +kernel, rfl, by decide +kernel, by decide +kernel⟩
theorem sc_Residues_times : FnScope ["self", "x", "y"] ["self", "x", "y"] (defScope s_Residues_times) := ⟨rfl, rfl, rfl, by decide +kernel, rfl, by decide +kernel, by decide +kernel⟩
theorem sc_Field_is_field : FnScope ["self"] ["self"] (defScope s_Field_is_field) := ⟨rfl, rfl, rfl, by decide +kernel, rfl, by decide +kernel, by decide +kernel⟩
theorem sc_Fractions_minus : FnScope ["self", "x"] ["self", "x"] (defScope s_Fractions_minus) := ⟨rfl, rfl, rfl, by decide +kernel, rfl, by decide +kernel, by decide +kernel⟩
theorem sc_Fractions_inverse : FnScope ["self", "x"] ["self", "x"] (defScope s_Fractions_inverse) := ⟨rfl, rfl, rfl, by decide +kernel, rfl, by decide +kernel, by decide +kernel⟩
theorem sc_Residues_minus : FnScope ["self", "x"] ["self", "x"] (defScope s_Residues_minus) := ⟨rfl, rfl, rfl, by decide +kernel, rfl, by decide +kernel, by decide +kernel⟩
theorem sc_Residues_inverse : FnScope ["self", "x", "product", "square", "left"] ["self", "x"] (defScope s_Residues_inverse) := ⟨rfl, rfl, rfl, by decide +kernel, rfl, by decide +kernel, by decide +kernel⟩
theorem sc_noughts : FnScope ["kind", "size"] ["kind", "size"] (defScope s_noughts) := ⟨rfl, rfl, rfl, by decide +kernel, rfl, by decide +kernel, by decide +kernel⟩
theorem sc_unit : FnScope ["kind", "size", "place"] ["kind", "size", "place"] (defScope s_unit) := ⟨rfl, rfl, rfl, by decide +kernel, rfl, by decide +kernel, by decide +kernel⟩
theorem sc_times_row : FnScope ["kind", "by", "row"] ["kind", "by", "row"] (defScope s_times_row) := ⟨rfl, rfl, rfl, by decide +kernel, rfl, by decide +kernel, by decide +kernel⟩
theorem sc_need_field : FnScope ["kind"] ["kind"] (defScope s_need_field) := ⟨rfl, rfl, rfl, by decide +kernel, rfl, by decide +kernel, by decide +kernel⟩
theorem sc_leading : FnScope ["kind", "row", "width", "place"] ["kind", "row", "width"] (defScope s_leading) := ⟨rfl, rfl, rfl, by decide +kernel, rfl, by decide +kernel, by decide +kernel⟩
theorem sc_plus_row : FnScope ["kind", "one", "other"] ["kind", "one", "other"] (defScope s_plus_row) := ⟨rfl, rfl, rfl, by decide +kernel, rfl, by decide +kernel, by decide +kernel⟩
theorem sc_cleared : FnScope ["kind", "kept", "row", "rest", "place", "other"] ["kind", "kept", "row"] (defScope s_cleared) := ⟨rfl, rfl, rfl, by decide +kernel, rfl, by decide +kernel, by decide +kernel⟩
theorem sc_keep : FnScope ["kind", "kept", "row", "width", "rest", "place"] ["kind", "kept", "row", "width"] (defScope s_keep) := ⟨rfl, rfl, rfl, by decide +kernel, rfl, by decide +kernel, by decide +kernel⟩
theorem sc_kept_rows : FnScope ["kind", "rows", "width", "kept", "row"] ["kind", "rows", "width"] (defScope s_kept_rows) := ⟨rfl, rfl, rfl, by decide +kernel, rfl, by decide +kernel, by decide +kernel⟩
theorem sc_width_of : FnScope ["rows"] ["rows"] (defScope s_width_of) := ⟨rfl, rfl, rfl, by decide +kernel, rfl, by decide +kernel, by decide +kernel⟩
theorem sc_marked : FnScope ["kind", "rows"] ["kind", "rows"] (defScope s_marked) := ⟨rfl, rfl, rfl, by decide +kernel, rfl, by decide +kernel, by decide +kernel⟩
theorem sc_kept_marked : FnScope ["kind", "rows"] ["kind", "rows"] (defScope s_kept_marked) := ⟨rfl, rfl, rfl, by decide +kernel, rfl, by decide +kernel, by decide +kernel⟩
theorem sc_parts_by : FnScope ["kind", "kept", "count", "row", "width", "rest"] ["kind", "kept", "count", "row"] (defScope s_parts_by) := ⟨rfl, rfl, rfl, by decide +kernel, rfl, by decide +kernel, by decide +kernel⟩
theorem sc_inverse_of : FnScope ["kind", "table", "size", "kept"] ["kind", "table"] (defScope s_inverse_of) := ⟨rfl, rfl, rfl, by decide +kernel, rfl, by decide +kernel, by decide +kernel⟩
theorem sc_law_next : FnScope ["_law_state_here", "_law_many", "_law_found"] ["_law_state_here", "_law_many"] (defScope s_law_next) := ⟨rfl, rfl, rfl, by decide +kernel, rfl, by decide +kernel, by decide +kernel⟩
theorem sc_law_state : FnScope ["_law_script", "_law_seed", "_law_cell"] ["_law_script"] (defScope s_law_state) := ⟨rfl, rfl, rfl, by decide +kernel, rfl, by decide +kernel, by decide +kernel⟩
theorem sc_law_divisor : FnScope ["_law_one", "_law_other"] ["_law_one", "_law_other"] (defScope s_law_divisor) := ⟨rfl, rfl, rfl, by decide +kernel, rfl, by decide +kernel, by decide +kernel⟩
theorem sc_law_low : FnScope ["_law_top", "_law_bottom", "_law_by_here"] ["_law_top", "_law_bottom"] (defScope s_law_low) := ⟨rfl, rfl, rfl, by decide +kernel, rfl, by decide +kernel, by decide +kernel⟩
theorem sc_law_plus : FnScope ["_law_sort_here", "_law_x", "_law_y"] ["_law_sort_here", "_law_x", "_law_y"] (defScope s_law_plus) := ⟨rfl, rfl, rfl, by decide +kernel, rfl, by decide +kernel, by decide +kernel⟩
theorem sc_law_times : FnScope ["_law_sort_here", "_law_x", "_law_y"] ["_law_sort_here", "_law_x", "_law_y"] (defScope s_law_times) := ⟨rfl, rfl, rfl, by decide +kernel, rfl, by decide +kernel, by decide +kernel⟩
theorem sc_law_number : FnScope ["_law_sort_here", "_law_number_here"] ["_law_sort_here", "_law_number_here"] (defScope s_law_number) := ⟨rfl, rfl, rfl, by decide +kernel, rfl, by decide +kernel, by decide +kernel⟩
theorem sc_law_sort : FnScope ["_law_state_here"] ["_law_state_here"] (defScope s_law_sort) := ⟨rfl, rfl, rfl, by decide +kernel, rfl, by decide +kernel, by decide +kernel⟩
theorem sc_law_kind : FnScope ["_law_sort_here"] ["_law_sort_here"] (defScope s_law_kind) := ⟨rfl, rfl, rfl, by decide +kernel, rfl, by decide +kernel, by decide +kernel⟩
theorem sc_law_weight : FnScope ["_law_state_here", "_law_sort_here"] ["_law_state_here", "_law_sort_here"] (defScope s_law_weight) := ⟨rfl, rfl, rfl, by decide +kernel, rfl, by decide +kernel, by decide +kernel⟩
theorem sc_law_whole : FnScope ["_law_thing"] ["_law_thing"] (defScope s_law_whole) := ⟨rfl, rfl, rfl, by decide +kernel, rfl, by decide +kernel, by decide +kernel⟩
theorem sc_law_is : FnScope ["_law_sort_here", "_law_thing"] ["_law_sort_here", "_law_thing"] (defScope s_law_is) := ⟨rfl, rfl, rfl, by decide +kernel, rfl, by decide +kernel, by decide +kernel⟩
theorem sc_law_sum : FnScope ["_law_sort_here", "_law_many", "_law_rows", "_law_wide", "_law_total", "_law_by_here", "_law_row"] ["_law_sort_here", "_law_many", "_law_rows", "_law_wide"] (defScope s_law_sum) := ⟨rfl, rfl, rfl, by decide +kernel, rfl, by decide +kernel, by decide +kernel⟩
theorem sc_law_steps : FnScope ["_law_state_here", "_law_sort_here", "_law_many", "_law_wide", "_law_order", "_law_k", "_law_rows", "_law_row", "_law_j"] ["_law_state_here", "_law_sort_here", "_law_many", "_law_wide"] (defScope s_law_steps) := ⟨rfl, rfl, rfl, by decide +kernel, rfl, by decide +kernel, by decide +kernel⟩
theorem sc_law_mixed : FnScope ["_law_state_here", "_law_sort_here", "_law_rows", "_law_more", "_law_wide", "_law_mixed_here", "_law_k", "_law_by_here"] ["_law_state_here", "_law_sort_here", "_law_rows", "_law_more"] (defScope s_law_mixed) := ⟨rfl, rfl, rfl, by decide +kernel, rfl, by decide +kernel, by decide +kernel⟩
theorem sc_law_ones : FnScope ["_law_sort_here", "_law_many"] ["_law_sort_here", "_law_many"] (defScope s_law_ones) := ⟨rfl, rfl, rfl, by decide +kernel, rfl, by decide +kernel, by decide +kernel⟩
theorem sc_law_by : FnScope ["_law_sort_here", "_law_one", "_law_other"] ["_law_sort_here", "_law_one", "_law_other"] (defScope s_law_by) := ⟨rfl, rfl, rfl, by decide +kernel, rfl, by decide +kernel, by decide +kernel⟩
theorem sc_law : FnScope ["_law_script", "_law_state_here", "_law_sort_here", "_law_many", "_law_rows", "_law_row", "_law_by_here", "_law_table", "_law_found", "_law_ones_here", "_law_at", "_law_others"] ["_law_script"] (defScope s_law) := ⟨rfl, rfl, rfl, by decide +kernel, rfl, by decide +kernel, by decide +kernel⟩
def sp_whole : Sp := fun vs H Q _ => ∃ i, vs = [.int i] ∧ Q (.bl true) H
def sp_divisor : Sp := fun vs H Q _ => ∃ a b, vs = [.int a, .int b] ∧ Q (.int (dv a b)) H
def sp_fraction : Sp := fun vs H Q _ => ∃ a b, vs = [.int a, .int b] ∧ b ≠ 0 ∧ ∀ v H', Same H H' → IsF H' v (tp a b) (bt a b) → Q v H'
def sp_prime : Sp := fun vs H Q _ => ∃ n, vs = [.int n] ∧ (2 ≤ n ∧ n ≤ 1000000 ∧ isP n = true) ∧ Q (.bl true) H
def sp_init (C : Addr) : Sp := fun vs H Q _ => ∃ x dx n, vs = [.ref x, .int n] ∧ (2 ≤ n ∧ n ≤ 1000000 ∧ isP n = true) ∧ H x = some (.ins C dx []) ∧ Q .non (upd H x (.ins C dx (pfs n)))
structure Adr where
  is_whole : Addr
  d_is_whole : FuncData
  divisor : Addr
  d_divisor : FuncData
  fraction : Addr
  d_fraction : FuncData
  is_prime : Addr
  d_is_prime : FuncData
  Fractions_nought : Addr
  d_Fractions_nought : FuncData
  Fractions_one : Addr
  d_Fractions_one : FuncData
  Fractions_plus : Addr
  d_Fractions_plus : FuncData
  Fractions_times : Addr
  d_Fractions_times : FuncData
  Residues___init__ : Addr
  d_Residues___init__ : FuncData
  Residues_nought : Addr
  d_Residues_nought : FuncData
  Residues_one : Addr
  d_Residues_one : FuncData
  Residues_plus : Addr
  d_Residues_plus : FuncData
  Residues_times : Addr
  d_Residues_times : FuncData
  Field_is_field : Addr
  d_Field_is_field : FuncData
  Fractions_minus : Addr
  d_Fractions_minus : FuncData
  Fractions_inverse : Addr
  d_Fractions_inverse : FuncData
  Residues_minus : Addr
  d_Residues_minus : FuncData
  Residues_inverse : Addr
  d_Residues_inverse : FuncData
  noughts : Addr
  d_noughts : FuncData
  unit : Addr
  d_unit : FuncData
  times_row : Addr
  d_times_row : FuncData
  need_field : Addr
  d_need_field : FuncData
  leading : Addr
  d_leading : FuncData
  plus_row : Addr
  d_plus_row : FuncData
  cleared : Addr
  d_cleared : FuncData
  keep : Addr
  d_keep : FuncData
  kept_rows : Addr
  d_kept_rows : FuncData
  width_of : Addr
  d_width_of : FuncData
  marked : Addr
  d_marked : FuncData
  kept_marked : Addr
  d_kept_marked : FuncData
  parts_by : Addr
  d_parts_by : FuncData
  inverse_of : Addr
  d_inverse_of : FuncData
  law_next : Addr
  d_law_next : FuncData
  law_state : Addr
  d_law_state : FuncData
  law_divisor : Addr
  d_law_divisor : FuncData
  law_low : Addr
  d_law_low : FuncData
  law_plus : Addr
  d_law_plus : FuncData
  law_times : Addr
  d_law_times : FuncData
  law_number : Addr
  d_law_number : FuncData
  law_sort : Addr
  d_law_sort : FuncData
  law_kind : Addr
  d_law_kind : FuncData
  law_weight : Addr
  d_law_weight : FuncData
  law_whole : Addr
  d_law_whole : FuncData
  law_is : Addr
  d_law_is : FuncData
  law_sum : Addr
  d_law_sum : FuncData
  law_steps : Addr
  d_law_steps : FuncData
  law_mixed : Addr
  d_law_mixed : FuncData
  law_ones : Addr
  d_law_ones : FuncData
  law_by : Addr
  d_law_by : FuncData
  law : Addr
  d_law : FuncData
  Fractions : Addr
  Residues : Addr
  Field : Addr
structure Txt (K : PySem.W.Frag) (mg : Str → Option Value) (t : Adr) : Prop where
  F_is_whole : Fun K "is_whole" "is_whole" s_is_whole t.is_whole t.d_is_whole
  b_is_whole : Binds K t.d_is_whole ["thing"] []
  m_is_whole : mg "is_whole" = some (.ref t.is_whole)
  F_divisor : Fun K "divisor" "divisor" s_divisor t.divisor t.d_divisor
  b_divisor : Binds K t.d_divisor ["one", "other"] []
  m_divisor : mg "divisor" = some (.ref t.divisor)
  F_fraction : Fun K "fraction" "fraction" s_fraction t.fraction t.d_fraction
  b_fraction : Binds K t.d_fraction ["top", "bottom"] []
  m_fraction : mg "fraction" = some (.ref t.fraction)
  F_is_prime : Fun K "is_prime" "is_prime" s_is_prime t.is_prime t.d_is_prime
  b_is_prime : Binds K t.d_is_prime ["number"] []
  m_is_prime : mg "is_prime" = some (.ref t.is_prime)
  F_Fractions_nought : Fun K "nought" "Fractions.nought" s_Fractions_nought t.Fractions_nought t.d_Fractions_nought
  b_Fractions_nought : Binds K t.d_Fractions_nought ["self"] []
  t_Fractions_nought : Meth K t.Fractions "nought" t.Fractions_nought
  F_Fractions_one : Fun K "one" "Fractions.one" s_Fractions_one t.Fractions_one t.d_Fractions_one
  b_Fractions_one : Binds K t.d_Fractions_one ["self"] []
  t_Fractions_one : Meth K t.Fractions "one" t.Fractions_one
  F_Fractions_plus : Fun K "plus" "Fractions.plus" s_Fractions_plus t.Fractions_plus t.d_Fractions_plus
  b_Fractions_plus : Binds K t.d_Fractions_plus ["self", "x", "y"] []
  t_Fractions_plus : Meth K t.Fractions "plus" t.Fractions_plus
  F_Fractions_times : Fun K "times" "Fractions.times" s_Fractions_times t.Fractions_times t.d_Fractions_times
  b_Fractions_times : Binds K t.d_Fractions_times ["self", "x", "y"] []
  t_Fractions_times : Meth K t.Fractions "times" t.Fractions_times
  F_Residues___init__ : Fun K "__init__" "Residues.__init__" s_Residues___init__ t.Residues___init__ t.d_Residues___init__
  b_Residues___init__ : Binds K t.d_Residues___init__ ["self", "prime"] []
  t_Residues___init__ : Meth K t.Residues "__init__" t.Residues___init__
  F_Residues_nought : Fun K "nought" "Residues.nought" s_Residues_nought t.Residues_nought t.d_Residues_nought
  b_Residues_nought : Binds K t.d_Residues_nought ["self"] []
  t_Residues_nought : Meth K t.Residues "nought" t.Residues_nought
  F_Residues_one : Fun K "one" "Residues.one" s_Residues_one t.Residues_one t.d_Residues_one
  b_Residues_one : Binds K t.d_Residues_one ["self"] []
  t_Residues_one : Meth K t.Residues "one" t.Residues_one
  F_Residues_plus : Fun K "plus" "Residues.plus" s_Residues_plus t.Residues_plus t.d_Residues_plus
  b_Residues_plus : Binds K t.d_Residues_plus ["self", "x", "y"] []
  t_Residues_plus : Meth K t.Residues "plus" t.Residues_plus
  F_Residues_times : Fun K "times" "Residues.times" s_Residues_times t.Residues_times t.d_Residues_times
  b_Residues_times : Binds K t.d_Residues_times ["self", "x", "y"] []
  t_Residues_times : Meth K t.Residues "times" t.Residues_times
  F_Field_is_field : Fun K "is_field" "Field.is_field" s_Field_is_field t.Field_is_field t.d_Field_is_field
  b_Field_is_field : Binds K t.d_Field_is_field ["self"] []
  t_Field_is_field : Meth K t.Field "is_field" t.Field_is_field
  F_Fractions_minus : Fun K "minus" "Fractions.minus" s_Fractions_minus t.Fractions_minus t.d_Fractions_minus
  b_Fractions_minus : Binds K t.d_Fractions_minus ["self", "x"] []
  t_Fractions_minus : Meth K t.Fractions "minus" t.Fractions_minus
  F_Fractions_inverse : Fun K "inverse" "Fractions.inverse" s_Fractions_inverse t.Fractions_inverse t.d_Fractions_inverse
  b_Fractions_inverse : Binds K t.d_Fractions_inverse ["self", "x"] []
  t_Fractions_inverse : Meth K t.Fractions "inverse" t.Fractions_inverse
  F_Residues_minus : Fun K "minus" "Residues.minus" s_Residues_minus t.Residues_minus t.d_Residues_minus
  b_Residues_minus : Binds K t.d_Residues_minus ["self", "x"] []
  t_Residues_minus : Meth K t.Residues "minus" t.Residues_minus
  F_Residues_inverse : Fun K "inverse" "Residues.inverse" s_Residues_inverse t.Residues_inverse t.d_Residues_inverse
  b_Residues_inverse : Binds K t.d_Residues_inverse ["self", "x"] []
  t_Residues_inverse : Meth K t.Residues "inverse" t.Residues_inverse
  F_noughts : Fun K "noughts" "noughts" s_noughts t.noughts t.d_noughts
  b_noughts : Binds K t.d_noughts ["kind", "size"] []
  m_noughts : mg "noughts" = some (.ref t.noughts)
  F_unit : Fun K "unit" "unit" s_unit t.unit t.d_unit
  b_unit : Binds K t.d_unit ["kind", "size", "place"] []
  m_unit : mg "unit" = some (.ref t.unit)
  F_times_row : Fun K "times_row" "times_row" s_times_row t.times_row t.d_times_row
  b_times_row : Binds K t.d_times_row ["kind", "by", "row"] []
  m_times_row : mg "times_row" = some (.ref t.times_row)
  F_need_field : Fun K "need_field" "need_field" s_need_field t.need_field t.d_need_field
  b_need_field : Binds K t.d_need_field ["kind"] []
  m_need_field : mg "need_field" = some (.ref t.need_field)
  F_leading : Fun K "leading" "leading" s_leading t.leading t.d_leading
  b_leading : Binds K t.d_leading ["kind", "row", "width"] []
  m_leading : mg "leading" = some (.ref t.leading)
  F_plus_row : Fun K "plus_row" "plus_row" s_plus_row t.plus_row t.d_plus_row
  b_plus_row : Binds K t.d_plus_row ["kind", "one", "other"] []
  m_plus_row : mg "plus_row" = some (.ref t.plus_row)
  F_cleared : Fun K "cleared" "cleared" s_cleared t.cleared t.d_cleared
  b_cleared : Binds K t.d_cleared ["kind", "kept", "row"] []
  m_cleared : mg "cleared" = some (.ref t.cleared)
  F_keep : Fun K "keep" "keep" s_keep t.keep t.d_keep
  b_keep : Binds K t.d_keep ["kind", "kept", "row", "width"] []
  m_keep : mg "keep" = some (.ref t.keep)
  F_kept_rows : Fun K "kept_rows" "kept_rows" s_kept_rows t.kept_rows t.d_kept_rows
  b_kept_rows : Binds K t.d_kept_rows ["kind", "rows", "width"] []
  m_kept_rows : mg "kept_rows" = some (.ref t.kept_rows)
  F_width_of : Fun K "width_of" "width_of" s_width_of t.width_of t.d_width_of
  b_width_of : Binds K t.d_width_of ["rows"] []
  m_width_of : mg "width_of" = some (.ref t.width_of)
  F_marked : Fun K "marked" "marked" s_marked t.marked t.d_marked
  b_marked : Binds K t.d_marked ["kind", "rows"] []
  m_marked : mg "marked" = some (.ref t.marked)
  F_kept_marked : Fun K "kept_marked" "kept_marked" s_kept_marked t.kept_marked t.d_kept_marked
  b_kept_marked : Binds K t.d_kept_marked ["kind", "rows"] []
  m_kept_marked : mg "kept_marked" = some (.ref t.kept_marked)
  F_parts_by : Fun K "parts_by" "parts_by" s_parts_by t.parts_by t.d_parts_by
  b_parts_by : Binds K t.d_parts_by ["kind", "kept", "count", "row"] []
  m_parts_by : mg "parts_by" = some (.ref t.parts_by)
  F_inverse_of : Fun K "inverse_of" "inverse_of" s_inverse_of t.inverse_of t.d_inverse_of
  b_inverse_of : Binds K t.d_inverse_of ["kind", "table"] []
  m_inverse_of : mg "inverse_of" = some (.ref t.inverse_of)
  F_law_next : Fun K "_law_next" "_law_next" s_law_next t.law_next t.d_law_next
  b_law_next : Binds K t.d_law_next ["_law_state_here", "_law_many"] []
  m_law_next : mg "_law_next" = some (.ref t.law_next)
  F_law_state : Fun K "_law_state" "_law_state" s_law_state t.law_state t.d_law_state
  b_law_state : Binds K t.d_law_state ["_law_script"] []
  m_law_state : mg "_law_state" = some (.ref t.law_state)
  F_law_divisor : Fun K "_law_divisor" "_law_divisor" s_law_divisor t.law_divisor t.d_law_divisor
  b_law_divisor : Binds K t.d_law_divisor ["_law_one", "_law_other"] []
  m_law_divisor : mg "_law_divisor" = some (.ref t.law_divisor)
  F_law_low : Fun K "_law_low" "_law_low" s_law_low t.law_low t.d_law_low
  b_law_low : Binds K t.d_law_low ["_law_top", "_law_bottom"] []
  m_law_low : mg "_law_low" = some (.ref t.law_low)
  F_law_plus : Fun K "_law_plus" "_law_plus" s_law_plus t.law_plus t.d_law_plus
  b_law_plus : Binds K t.d_law_plus ["_law_sort_here", "_law_x", "_law_y"] []
  m_law_plus : mg "_law_plus" = some (.ref t.law_plus)
  F_law_times : Fun K "_law_times" "_law_times" s_law_times t.law_times t.d_law_times
  b_law_times : Binds K t.d_law_times ["_law_sort_here", "_law_x", "_law_y"] []
  m_law_times : mg "_law_times" = some (.ref t.law_times)
  F_law_number : Fun K "_law_number" "_law_number" s_law_number t.law_number t.d_law_number
  b_law_number : Binds K t.d_law_number ["_law_sort_here", "_law_number_here"] []
  m_law_number : mg "_law_number" = some (.ref t.law_number)
  F_law_sort : Fun K "_law_sort" "_law_sort" s_law_sort t.law_sort t.d_law_sort
  b_law_sort : Binds K t.d_law_sort ["_law_state_here"] []
  m_law_sort : mg "_law_sort" = some (.ref t.law_sort)
  F_law_kind : Fun K "_law_kind" "_law_kind" s_law_kind t.law_kind t.d_law_kind
  b_law_kind : Binds K t.d_law_kind ["_law_sort_here"] []
  m_law_kind : mg "_law_kind" = some (.ref t.law_kind)
  F_law_weight : Fun K "_law_weight" "_law_weight" s_law_weight t.law_weight t.d_law_weight
  b_law_weight : Binds K t.d_law_weight ["_law_state_here", "_law_sort_here"] []
  m_law_weight : mg "_law_weight" = some (.ref t.law_weight)
  F_law_whole : Fun K "_law_whole" "_law_whole" s_law_whole t.law_whole t.d_law_whole
  b_law_whole : Binds K t.d_law_whole ["_law_thing"] []
  m_law_whole : mg "_law_whole" = some (.ref t.law_whole)
  F_law_is : Fun K "_law_is" "_law_is" s_law_is t.law_is t.d_law_is
  b_law_is : Binds K t.d_law_is ["_law_sort_here", "_law_thing"] []
  m_law_is : mg "_law_is" = some (.ref t.law_is)
  F_law_sum : Fun K "_law_sum" "_law_sum" s_law_sum t.law_sum t.d_law_sum
  b_law_sum : Binds K t.d_law_sum ["_law_sort_here", "_law_many", "_law_rows", "_law_wide"] []
  m_law_sum : mg "_law_sum" = some (.ref t.law_sum)
  F_law_steps : Fun K "_law_steps" "_law_steps" s_law_steps t.law_steps t.d_law_steps
  b_law_steps : Binds K t.d_law_steps ["_law_state_here", "_law_sort_here", "_law_many", "_law_wide"] []
  m_law_steps : mg "_law_steps" = some (.ref t.law_steps)
  F_law_mixed : Fun K "_law_mixed" "_law_mixed" s_law_mixed t.law_mixed t.d_law_mixed
  b_law_mixed : Binds K t.d_law_mixed ["_law_state_here", "_law_sort_here", "_law_rows", "_law_more"] []
  m_law_mixed : mg "_law_mixed" = some (.ref t.law_mixed)
  F_law_ones : Fun K "_law_ones" "_law_ones" s_law_ones t.law_ones t.d_law_ones
  b_law_ones : Binds K t.d_law_ones ["_law_sort_here", "_law_many"] []
  m_law_ones : mg "_law_ones" = some (.ref t.law_ones)
  F_law_by : Fun K "_law_by" "_law_by" s_law_by t.law_by t.d_law_by
  b_law_by : Binds K t.d_law_by ["_law_sort_here", "_law_one", "_law_other"] []
  m_law_by : mg "_law_by" = some (.ref t.law_by)
  F_law : Fun K "law" "law" s_law t.law t.d_law
  b_law : Binds K t.d_law ["_law_script"] []
  m_law : mg "law" = some (.ref t.law)
  C_Fractions : Cls K t.Fractions
  m_Fractions : mg "Fractions" = some (.ref t.Fractions)
  M_Fractions : MkO K t.Fractions
  C_Residues : Cls K t.Residues
  m_Residues : mg "Residues" = some (.ref t.Residues)
  M_Residues : Mk K t.Residues t.Residues___init__
  C_Field : Cls K t.Field
  m_Field : mg "Field" = some (.ref t.Field)
  M_Field : MkO K t.Field
  z_isinstance : mg "isinstance" = none
  z_int : mg "int" = none
  z_bool : mg "bool" = none
  z_abs : mg "abs" = none
  c_GREATEST_PRIME : ∃ tk, mg "GREATEST_PRIME" = some (Value.int 1000000 tk)
  z_tuple : mg "tuple" = none
  z_range : mg "range" = none
  z_zip : mg "zip" = none
  z_len : mg "len" = none
  z_enumerate : mg "enumerate" = none
  z_list : mg "list" = none
  z_all : mg "all" = none
  k_ii : PySem.W.kitOne K (.type "int") (.type "int") = some true
  k_ib : PySem.W.kitOne K (.type "int") (.type "bool") = some false
  k_tt : PySem.W.kitOne K (.type "tuple") (.type "tuple") = some true
  k_bb : PySem.W.kitOne K (.type "bool") (.type "bool") = some true
  nP : NoAttr K t.Residues "prime"
  iF_is_field : PySem.W.findIn K (.ref t.Fractions) "is_field" = some (some (.ref t.Field_is_field))
  iR_is_field : PySem.W.findIn K (.ref t.Residues) "is_field" = some (some (.ref t.Field_is_field))
  k_ll : PySem.W.kitOne K (.type "list") (.type "list") = some true
seal L2.PSs L2.PS L2.PE L2.PT L2.PW L2.PA L2.PG L2.PGs L2.PI
section
variable {w : World} {K : PySem.W.Frag} {mg : Str → Option Value} {base : Heap} {t : Adr}
theorem ok_is_whole (T : Txt K mg t) : FnOk Pr w K mg base CX0 1 t.is_whole t.d_is_whole ["thing"] sp_whole := by
  refine T.F_is_whole.ok sc_is_whole (fun vs H Q E h => ?_) (fun cdv A outer s H vs Q E hr h => ?_)
  · obtain ⟨i, rfl, _⟩ := h
    rfl
  · obtain ⟨i, rfl, k⟩ := h
    refine ⟨_, (pss_one (ps_ret (pe_and (pe_callB call_isi (by rfl) T.z_isinstance boot_isinstance (pa_cons (pv 0) (pa_cons (pe_bltn (v := .ty "int") rfl T.z_int boot_int rfl) pa_nil))) (pe_one (pe_not (pe_callB call_isi (by rfl) T.z_isinstance boot_isinstance (pa_cons (pv 0) (pa_cons (pe_bltn (v := .ty "bool") rfl T.z_bool boot_bool rfl) pa_nil)))))))), ?_⟩
    (repeat (first | apply Exists.intro | refine And.intro rfl ?_ | refine And.intro (by with_reducible assumption) ?_ | refine And.intro (SqT.of (by assumption)) ?_ | refine And.intro (SqL.of (by assumption)) ?_ | refine And.intro (TyOf.int _) ?_ | refine And.intro (TyOf.tup (by assumption)) ?_ | refine And.intro T.k_ii ?_ | refine And.intro T.k_ib ?_ | refine And.intro T.k_tt ?_ | refine And.intro T.k_bb ?_ | refine And.intro T.nP ?_ | refine And.intro T.iF_is_field ?_ | refine And.intro T.iR_is_field ?_ | refine And.intro T.k_ll ?_))
    (try refine iteT ?_)
    (repeat (first | apply Exists.intro | refine And.intro rfl ?_ | refine And.intro (by with_reducible assumption) ?_ | refine And.intro (SqT.of (by assumption)) ?_ | refine And.intro (SqL.of (by assumption)) ?_ | refine And.intro (TyOf.int _) ?_ | refine And.intro (TyOf.tup (by assumption)) ?_ | refine And.intro T.k_ii ?_ | refine And.intro T.k_ib ?_ | refine And.intro T.k_tt ?_ | refine And.intro T.k_bb ?_ | refine And.intro T.nP ?_ | refine And.intro T.iF_is_field ?_ | refine And.intro T.iR_is_field ?_ | refine And.intro T.k_ll ?_))
    exact k
theorem ok_divisor (T : Txt K mg t) : FnOk Pr w K mg base CX0 1 t.divisor t.d_divisor ["one", "other"] sp_divisor := by
  refine T.F_divisor.ok sc_divisor (fun vs H Q E h => ?_) (fun cdv A outer s H vs Q E hr h => ?_)
  · obtain ⟨a, b, rfl, _⟩ := h
    rfl
  · obtain ⟨a, b, rfl, k⟩ := h
    refine ⟨_, (pss_cons (ps_set (i := 2) sc_divisor.nd rfl (Or.inl rfl) (pe_callB call_abs (by rfl) T.z_abs boot_abs (pa_cons (pv 0) pa_nil))) (pss_cons (ps_set (i := 3) sc_divisor.nd rfl (Or.inl rfl) (pe_callB call_abs (by rfl) T.z_abs boot_abs (pa_cons (pv 1) pa_nil))) (pss_cons (ps_while PassesOwn.never (pt_cmpR op_gt (pv 3) pe_int (nomark _)) (pss_cons (ps_set (i := 4) sc_divisor.nd rfl (Or.inl rfl) (pe_op op_modN (pv 2) (pv 3))) (pss_cons (ps_set (i := 2) sc_divisor.nd rfl (Or.inl rfl) (pv 3)) (pss_one (ps_set (i := 3) sc_divisor.nd rfl (Or.inl rfl) (pv 4)))))) (pss_one (ps_ret (pv 2)))))), ?_⟩
    refine ⟨_, rfl, _, rfl, _, rfl, _, rfl, ?_⟩
    refine ⟨fun m σ H' => ∃ g r l, σ = [some (.int a), some (.int b), some (.int g), some (.int r), l] ∧ m = r.toNat ∧ (0 ≤ g ∧ 0 ≤ r ∧ dv g r = dv a b) ∧ H' = H, ⟨_, _, _, _, rfl, rfl, start1 a b, rfl⟩, ?_⟩
    rintro m σ H' ⟨g, r, l, rfl, rfl, ⟨g0, r0, e⟩, rfl⟩
    (repeat (first | apply Exists.intro | refine And.intro rfl ?_ | refine And.intro (by with_reducible assumption) ?_ | refine And.intro (SqT.of (by assumption)) ?_ | refine And.intro (SqL.of (by assumption)) ?_ | refine And.intro (TyOf.int _) ?_ | refine And.intro (TyOf.tup (by assumption)) ?_ | refine And.intro T.k_ii ?_ | refine And.intro T.k_ib ?_ | refine And.intro T.k_tt ?_ | refine And.intro T.k_bb ?_ | refine And.intro T.nP ?_ | refine And.intro T.iF_is_field ?_ | refine And.intro T.iR_is_field ?_ | refine And.intro T.k_ll ?_))
    refine iteP (fun hr0 => ?_) (fun hr0 => ?_)
    · refine ⟨fun σ' H'' => ∃ g' r' l', σ' = [some (.int a), some (.int b), some (.int g'), some (.int r'), l'] ∧ r'.toNat < r.toNat ∧ (0 ≤ g' ∧ 0 ≤ r' ∧ dv g' r' = dv a b) ∧ H'' = H', fun σ' H'' ⟨g', r', l', e1, e2, e3, e4⟩ => ⟨_, e2, g', r', l', e1, rfl, e3, e4⟩, ?_⟩
      refine ⟨_, rfl, _, rfl, _, _, rfl, rfl, (show r ≠ 0 by omega), _, rfl, _, rfl, ?_⟩
      exact ⟨_, _, _, rfl, d_less hr0, d_turn e hr0, rfl⟩
    · refine ⟨_, rfl, ?_⟩
      (try dsimp only)
      rw [d_out e g0 r0 hr0]
      exact k
theorem fr_is {a b : Int} (pb : 0 < b) : a.fdiv (dv a b) = tp a b ∧ b.fdiv (dv a b) = bt a b := by
  unfold tp bt
  rw [sg_pos (by omega)]
  exact ⟨rfl, rfl⟩
theorem fr_isN {a b : Int} (nb : b < 0) : a.fdiv (-(dv a b)) = tp a b ∧ b.fdiv (-(dv a b)) = bt a b := by
  unfold tp bt
  rw [sg_neg nb]
  exact ⟨rfl, rfl⟩
theorem ok_fraction (T : Txt K mg t) : FnOk Pr w K mg base CX0 36 t.fraction t.d_fraction ["top", "bottom"] sp_fraction := by
  refine T.F_fraction.ok sc_fraction (fun vs H Q E h => ?_) (fun cdv A outer s H vs Q E hr h => ?_)
  · obtain ⟨a, b, rfl, _⟩ := h
    rfl
  · obtain ⟨a, b, rfl, nb, k⟩ := h
    have hd : dv a b ≠ 0 := Int.ne_of_gt (dv_pos nb)
    refine ⟨_, (pss_cons (ps_if (PW.pt (pw_or (pt_not (pt_val (pe_call (ok_is_whole T) (hr.mono (by decide)) rfl T.m_is_whole T.F_is_whole.kp T.b_is_whole .nil pass0 (pa_cons (pv 0) pa_nil)))) (pw_or1 (pt_not (pt_val (pe_call (ok_is_whole T) (hr.mono (by decide)) rfl T.m_is_whole T.F_is_whole.kp T.b_is_whole .nil pass0 (pa_cons (pv 1) pa_nil))))))) (pss_one ps_never) pss_nil) (pss_cons (ps_if (pt_cmpR op_eq (pv 1) pe_int (nomark _)) (pss_one ps_never) pss_nil) (pss_cons (ps_set (i := 2) sc_fraction.nd rfl (Or.inl rfl) (pe_call (ok_divisor T) (hr.mono (by decide)) rfl T.m_divisor T.F_divisor.kp T.b_divisor .nil pass0 (pa_cons (pv 0) (pa_cons (pv 1) pa_nil)))) (pss_cons (ps_if (pt_cmpR op_lt (pv 1) pe_int (nomark _)) (pss_one (ps_set (i := 2) sc_fraction.nd rfl (Or.inl rfl) (pe_un un_neg (pv 2)))) pss_nil) (pss_one (ps_ret (pe_tup (pa_cons (pe_op (op_fdivP hr (by decide) tree0) (pv 0) (pv 2)) (pa_cons (pe_op (op_fdivP hr (by decide) tree0) (pv 1) (pv 2)) pa_nil))))))))), ?_⟩
    (repeat (first | apply Exists.intro | refine And.intro rfl ?_ | refine And.intro (by with_reducible assumption) ?_ | refine And.intro (SqT.of (by assumption)) ?_ | refine And.intro (SqL.of (by assumption)) ?_ | refine And.intro (TyOf.int _) ?_ | refine And.intro (TyOf.tup (by assumption)) ?_ | refine And.intro T.k_ii ?_ | refine And.intro T.k_ib ?_ | refine And.intro T.k_tt ?_ | refine And.intro T.k_bb ?_ | refine And.intro T.nP ?_ | refine And.intro T.iF_is_field ?_ | refine And.intro T.iR_is_field ?_ | refine And.intro T.k_ll ?_))
    (try refine iteF ?_)
    (repeat (first | apply Exists.intro | refine And.intro rfl ?_ | refine And.intro (by with_reducible assumption) ?_ | refine And.intro (SqT.of (by assumption)) ?_ | refine And.intro (SqL.of (by assumption)) ?_ | refine And.intro (TyOf.int _) ?_ | refine And.intro (TyOf.tup (by assumption)) ?_ | refine And.intro T.k_ii ?_ | refine And.intro T.k_ib ?_ | refine And.intro T.k_tt ?_ | refine And.intro T.k_bb ?_ | refine And.intro T.nP ?_ | refine And.intro T.iF_is_field ?_ | refine And.intro T.iR_is_field ?_ | refine And.intro T.k_ll ?_))
    (try refine iteF ?_)
    (repeat (first | apply Exists.intro | refine And.intro rfl ?_ | refine And.intro (by with_reducible assumption) ?_ | refine And.intro (SqT.of (by assumption)) ?_ | refine And.intro (SqL.of (by assumption)) ?_ | refine And.intro (TyOf.int _) ?_ | refine And.intro (TyOf.tup (by assumption)) ?_ | refine And.intro T.k_ii ?_ | refine And.intro T.k_ib ?_ | refine And.intro T.k_tt ?_ | refine And.intro T.k_bb ?_ | refine And.intro T.nP ?_ | refine And.intro T.iF_is_field ?_ | refine And.intro T.iR_is_field ?_ | refine And.intro T.k_ll ?_))
    refine iteI (fun h0 => absurd h0 nb) (fun _ => ?_)
    (repeat (first | apply Exists.intro | refine And.intro rfl ?_ | refine And.intro (by with_reducible assumption) ?_ | refine And.intro (SqT.of (by assumption)) ?_ | refine And.intro (SqL.of (by assumption)) ?_ | refine And.intro (TyOf.int _) ?_ | refine And.intro (TyOf.tup (by assumption)) ?_ | refine And.intro T.k_ii ?_ | refine And.intro T.k_ib ?_ | refine And.intro T.k_tt ?_ | refine And.intro T.k_bb ?_ | refine And.intro T.nP ?_ | refine And.intro T.iF_is_field ?_ | refine And.intro T.iR_is_field ?_ | refine And.intro T.k_ll ?_))
    refine iteP (fun h0 => ?_) (fun h0 => ?_)
    · have hd' : -(dv a b) ≠ 0 := by omega
      (repeat (first | apply Exists.intro | refine And.intro rfl ?_ | refine And.intro (by with_reducible assumption) ?_ | refine And.intro (SqT.of (by assumption)) ?_ | refine And.intro (SqL.of (by assumption)) ?_ | refine And.intro (TyOf.int _) ?_ | refine And.intro (TyOf.tup (by assumption)) ?_ | refine And.intro T.k_ii ?_ | refine And.intro T.k_ib ?_ | refine And.intro T.k_tt ?_ | refine And.intro T.k_bb ?_ | refine And.intro T.nP ?_ | refine And.intro T.iF_is_field ?_ | refine And.intro T.iR_is_field ?_ | refine And.intro T.k_ll ?_))
      refine ⟨(by show 2 ≤ sizeLine; decide), fun p hp => ?_⟩
      refine k _ _ (same_upd hp) ?_
      (try dsimp only)
      rw [(fr_isN h0).1, (fr_isN h0).2]
      exact IsF.new
    · (repeat (first | apply Exists.intro | refine And.intro rfl ?_ | refine And.intro (by with_reducible assumption) ?_ | refine And.intro (SqT.of (by assumption)) ?_ | refine And.intro (SqL.of (by assumption)) ?_ | refine And.intro (TyOf.int _) ?_ | refine And.intro (TyOf.tup (by assumption)) ?_ | refine And.intro T.k_ii ?_ | refine And.intro T.k_ib ?_ | refine And.intro T.k_tt ?_ | refine And.intro T.k_bb ?_ | refine And.intro T.nP ?_ | refine And.intro T.iF_is_field ?_ | refine And.intro T.iR_is_field ?_ | refine And.intro T.k_ll ?_))
      refine ⟨(by show 2 ≤ sizeLine; decide), fun p hp => ?_⟩
      refine k _ _ (same_upd hp) ?_
      (try dsimp only)
      rw [(fr_is (by omega)).1, (fr_is (by omega)).2]
      exact IsF.new
theorem ok_is_prime (T : Txt K mg t) : FnOk Pr w K mg base CX0 1 t.is_prime t.d_is_prime ["number"] sp_prime := by
  refine T.F_is_prime.ok sc_is_prime (fun vs H Q E h => ?_) (fun cdv A outer s H vs Q E hr h => ?_)
  · obtain ⟨n, rfl, _⟩ := h
    rfl
  · obtain ⟨n, rfl, ⟨n2, n6, hp⟩, k⟩ := h
    have PP := isP_true hp
    refine ⟨_, (pss_cons (ps_if (pt_cmpR op_lt (pv 0) pe_int (nomark _)) (pss_one (ps_ret pe_bl)) pss_nil) (pss_cons (ps_set (i := 1) sc_is_prime.nd rfl (Or.inl rfl) pe_int) (pss_cons (ps_while PassesOwn.never (pt_cmpR op_le (pe_op op_mul (pv 1) (pv 1)) (pv 0) (nomark _)) (pss_cons (ps_if (pt_cmpR op_eq (pe_op op_modN (pv 0) (pv 1)) pe_int (nomark _)) (pss_one (ps_ret pe_bl)) pss_nil) (pss_one (ps_set (i := 1) sc_is_prime.nd rfl (Or.inl rfl) (pe_op op_add (pv 1) pe_int))))) (pss_one (ps_ret pe_bl))))), ?_⟩
    refine ⟨_, rfl, _, _, rfl, rfl, _, rfl, ?_⟩
    refine iteP (fun h0 => absurd h0 (by omega)) (fun _ => ?_)
    refine ⟨fun m σ H' => ∃ f : Int, σ = [some (.int n), some (.int f)] ∧ m = (n + 2 - f).toNat ∧ (2 ≤ f ∧ f ≤ n + 1) ∧ H' = H, ⟨_, _, rfl, rfl, ⟨by omega, by omega⟩, rfl⟩, ?_⟩
    rintro m σ H' ⟨f, rfl, rfl, ⟨f2, fn⟩, rfl⟩
    have cm : CMul f f := .inl ⟨by omega, by omega⟩
    refine ⟨_, rfl, _, rfl, _, _, rfl, rfl, cm, _, rfl, _, _, rfl, rfl, _, rfl, ?_⟩
    refine iteP (fun h0 => ?_) (fun h0 => ?_)
    · refine ⟨fun σ' H'' => ∃ f' : Int, σ' = [some (.int n), some (.int f')] ∧ (n + 2 - f').toNat < (n + 2 - f).toNat ∧ (2 ≤ f' ∧ f' ≤ n + 1) ∧ H'' = H', fun σ' H'' ⟨f', e1, e2, e3, e4⟩ => ⟨_, e2, f', e1, rfl, e3, e4⟩, ?_⟩
      refine ⟨_, rfl, _, rfl, _, _, rfl, rfl, (show f ≠ 0 by omega), rfl, _, rfl, ?_⟩
      have hs := sq_le f2 h0
      refine iteI (fun h1 => absurd h1 (PP.2 f f2 h0)) (fun _ => ?_)
      refine ⟨_, rfl, _, _, rfl, rfl, ?_⟩
      exact ⟨_, rfl, by omega, ⟨by omega, by omega⟩, rfl⟩
    · exact k
theorem ok_Residues___init__ (T : Txt K mg t) : FnOk Pr w K mg base CX0 2 t.Residues___init__ t.d_Residues___init__ ["self", "prime"] (sp_init t.Residues) := by
  refine T.F_Residues___init__.ok sc_Residues___init__ (fun vs H Q E h => ?_) (fun cdv A outer s H vs Q E hr h => ?_)
  · obtain ⟨x, dx, n, rfl, _⟩ := h
    rfl
  · obtain ⟨x, dx, n, rfl, hn, hx, k⟩ := h
    refine ⟨_, (pss_cons (ps_if (PW.pt (pw_or (pt_not (pt_val (pe_call (ok_is_whole T) (hr.mono (by decide)) rfl T.m_is_whole T.F_is_whole.kp T.b_is_whole .nil pass0 (pa_cons (pv 1) pa_nil)))) (pw_or (pt_cmpR op_gt (pv 1) (pe_glob (v := .int 1000000) rfl T.c_GREATEST_PRIME.choose_spec ⟨_, rfl⟩) (nomark _)) (pw_or1 (pt_not (pt_val (pe_call (ok_is_prime T) (hr.mono (by decide)) rfl T.m_is_prime T.F_is_prime.kp T.b_is_prime .nil pass0 (pa_cons (pv 1) pa_nil)))))))) (pss_one ps_never) pss_nil) (pss_one (ps_fld (pv 0) (pv 1) rfl))), ?_⟩
    refine ⟨_, rfl, _, rfl, _, rfl, ?_⟩
    (try refine iteF ?_)
    refine ⟨_, rfl, _, _, rfl, rfl, _, rfl, ?_⟩
    refine iteP (fun h0 => absurd h0 (by have := hn.2.1; omega)) (fun _ => ?_)
    refine ⟨_, rfl, _, rfl, hn, _, rfl, ?_⟩
    (try refine iteF ?_)
    refine ⟨_, rfl, _, rfl, x, _, dx, _, rfl, hx, T.C_Residues, T.nP, (by show 0 < 1000; decide), ?_⟩
    exact k
theorem sml_fr {n : Nat} (h : Sml frSR n) : n ≤ 60000000 := by
  rcases h with h | h
  · exact h
  · have := h 0 (⟨2, 1, by decide, by unfold dv; decide⟩ : Fr)
    exact absurd this.1 (by decide)
theorem ok_Fractions_nought (T : Txt K mg t) : FnOk Pr w K mg base CX0 1 t.Fractions_nought t.d_Fractions_nought ["self"] (spNul t.Fractions [] frSR isFr Fr.zero) := by
  refine T.F_Fractions_nought.ok sc_Fractions_nought (fun vs H Q E h => ?_) (fun cdv A outer s H vs Q E hr h => ?_)
  · obtain ⟨x, rfl, _⟩ := h
    rfl
  · obtain ⟨x, rfl, _, k⟩ := h
    refine ⟨_, (pss_one (ps_ret (pe_tup (pa_cons pe_int (pa_cons pe_int pa_nil))))), ?_⟩
    exact ⟨(by show 2 ≤ sizeLine; decide), fun p hp => k _ _ (same_upd hp) IsF.new⟩
theorem ok_Fractions_plus (T : Txt K mg t) : FnOk Pr w K mg base CX0 38 t.Fractions_plus t.d_Fractions_plus ["self", "x", "y"] (spBin t.Fractions [] frSR isFr Fr.add) := by
  refine T.F_Fractions_plus.ok sc_Fractions_plus (fun vs H Q E h => ?_) (fun cdv A outer s H vs Q E hr h => ?_)
  · obtain ⟨k, x, y, a, b, m, n, rfl, _⟩ := h
    rfl
  · obtain ⟨k0, x, y, a, b, m, n, rfl, ⟨_, ⟨px, rfl, hx⟩, ⟨py, rfl, hy⟩, sa, sb, hmn⟩, k⟩ := h
    have sa : a.sz m := sa
    have sb : b.sz n := sb
    have hmn := sml_fr hmn
    have m1 : CMulG a.t b.b := mulG (n := n) sa.1 sb.2 (by omega)
    have m2 : CMulG b.t a.b := mulG (n := m) sb.1 sa.2 (by omega)
    have m3 : CMulG a.b b.b := mulG (n := n) sa.2 sb.2 (by omega)
    refine ⟨_, (pss_one (ps_ret (pe_call (ok_fraction T) (hr.mono (by decide)) rfl T.m_fraction T.F_fraction.kp T.b_fraction .nil pass0 (pa_cons (pe_op op_add (pe_op op_mulG (pe_ix ix_tup (pv 1) pe_int (fun _ _ => rfl)) (pe_ix ix_tup (pv 2) pe_int (fun _ _ => rfl))) (pe_op op_mulG (pe_ix ix_tup (pv 2) pe_int (fun _ _ => rfl)) (pe_ix ix_tup (pv 1) pe_int (fun _ _ => rfl)))) (pa_cons (pe_op op_mulG (pe_ix ix_tup (pv 1) pe_int (fun _ _ => rfl)) (pe_ix ix_tup (pv 2) pe_int (fun _ _ => rfl))) pa_nil))))), ?_⟩
    (repeat (first | apply Exists.intro | refine And.intro rfl ?_ | refine And.intro (by with_reducible assumption) ?_ | refine And.intro (SqT.of (by assumption)) ?_ | refine And.intro (SqL.of (by assumption)) ?_ | refine And.intro (TyOf.int _) ?_ | refine And.intro (TyOf.tup (by assumption)) ?_ | refine And.intro T.k_ii ?_ | refine And.intro T.k_ib ?_ | refine And.intro T.k_tt ?_ | refine And.intro T.k_bb ?_ | refine And.intro T.nP ?_ | refine And.intro T.iF_is_field ?_ | refine And.intro T.iR_is_field ?_ | refine And.intro T.k_ll ?_))
    exact ⟨Int.ne_of_gt (Int.mul_pos a.p b.p), k⟩
theorem ok_Fractions_times (T : Txt K mg t) : FnOk Pr w K mg base CX0 38 t.Fractions_times t.d_Fractions_times ["self", "x", "y"] (spBin t.Fractions [] frSR isFr Fr.mul) := by
  refine T.F_Fractions_times.ok sc_Fractions_times (fun vs H Q E h => ?_) (fun cdv A outer s H vs Q E hr h => ?_)
  · obtain ⟨k, x, y, a, b, m, n, rfl, _⟩ := h
    rfl
  · obtain ⟨k0, x, y, a, b, m, n, rfl, ⟨_, ⟨px, rfl, hx⟩, ⟨py, rfl, hy⟩, sa, sb, hmn⟩, k⟩ := h
    have sa : a.sz m := sa
    have sb : b.sz n := sb
    have hmn := sml_fr hmn
    have m1 : CMulG a.t b.t := mulG (n := n) sa.1 sb.1 (by omega)
    have m3 : CMulG a.b b.b := mulG (n := n) sa.2 sb.2 (by omega)
    refine ⟨_, (pss_one (ps_ret (pe_call (ok_fraction T) (hr.mono (by decide)) rfl T.m_fraction T.F_fraction.kp T.b_fraction .nil pass0 (pa_cons (pe_op op_mulG (pe_ix ix_tup (pv 1) pe_int (fun _ _ => rfl)) (pe_ix ix_tup (pv 2) pe_int (fun _ _ => rfl))) (pa_cons (pe_op op_mulG (pe_ix ix_tup (pv 1) pe_int (fun _ _ => rfl)) (pe_ix ix_tup (pv 2) pe_int (fun _ _ => rfl))) pa_nil))))), ?_⟩
    (repeat (first | apply Exists.intro | refine And.intro rfl ?_ | refine And.intro (by with_reducible assumption) ?_ | refine And.intro (SqT.of (by assumption)) ?_ | refine And.intro (SqL.of (by assumption)) ?_ | refine And.intro (TyOf.int _) ?_ | refine And.intro (TyOf.tup (by assumption)) ?_ | refine And.intro T.k_ii ?_ | refine And.intro T.k_ib ?_ | refine And.intro T.k_tt ?_ | refine And.intro T.k_bb ?_ | refine And.intro T.nP ?_ | refine And.intro T.iF_is_field ?_ | refine And.intro T.iR_is_field ?_ | refine And.intro T.k_ll ?_))
    exact ⟨Int.ne_of_gt (Int.mul_pos a.p b.p), k⟩
theorem ok_Residues_nought (T : Txt K mg t) (p : Int) (hp : 2 ≤ p) : FnOk Pr w K mg base CX0 1 t.Residues_nought t.d_Residues_nought ["self"] (spNul t.Residues (pfs p) (resSR p hp) (isRe p) (resSR p hp).zero) := by
  refine T.F_Residues_nought.ok sc_Residues_nought (fun vs H Q E h => ?_) (fun cdv A outer s H vs Q E hr h => ?_)
  · obtain ⟨x, rfl, _⟩ := h
    rfl
  · obtain ⟨x, rfl, _, k⟩ := h
    refine ⟨_, (pss_one (ps_ret pe_int)), ?_⟩
    exact k _ _ (Same.refl _) rfl
theorem ok_Residues_plus (T : Txt K mg t) (p : Int) (hp : 2 ≤ p) : FnOk Pr w K mg base CX0 1 t.Residues_plus t.d_Residues_plus ["self", "x", "y"] (spBin t.Residues (pfs p) (resSR p hp) (isRe p) (resSR p hp).add) := by
  refine T.F_Residues_plus.ok sc_Residues_plus (fun vs H Q E h => ?_) (fun cdv A outer s H vs Q E hr h => ?_)
  · obtain ⟨k, x, y, a, b, m, n, rfl, _⟩ := h
    rfl
  · obtain ⟨k0, x, y, a, b, m, n, rfl, ⟨⟨q, dx, rfl, hq⟩, rfl, rfl, sa, sb, hmn⟩, k⟩ := h
    refine ⟨_, (pss_one (ps_ret (pe_op op_modN (pe_op op_add (pv 1) (pv 2)) (pe_fld (pv 0) rfl)))), ?_⟩
    refine ⟨_, rfl, _, rfl, _, _, rfl, rfl, _, rfl, q, _, dx, _, _, rfl, hq, T.C_Residues, T.nP, pfs_prime p, _, _, rfl, rfl, (show p ≠ 0 by omega), ?_⟩
    exact k _ _ (Same.refl _) rfl
theorem ok_Residues_times (T : Txt K mg t) (p : Int) (hp : 2 ≤ p) (hq : p ≤ 1000000) : FnOk Pr w K mg base CX0 1 t.Residues_times t.d_Residues_times ["self", "x", "y"] (spBin t.Residues (pfs p) (resSR p hp) (isRe p) (resSR p hp).mul) := by
  refine T.F_Residues_times.ok sc_Residues_times (fun vs H Q E h => ?_) (fun cdv A outer s H vs Q E hr h => ?_)
  · obtain ⟨k, x, y, a, b, m, n, rfl, _⟩ := h
    rfl
  · obtain ⟨k0, x, y, a, b, m, n, rfl, ⟨⟨q, dx, rfl, hk⟩, rfl, rfl, sa, sb, hmn⟩, k⟩ := h
    have cm : CMul a.x b.x := .inl ⟨by have := a.h0; omega, by have := a.h1; omega⟩
    refine ⟨_, (pss_one (ps_ret (pe_op op_modN (pe_op op_mul (pv 1) (pv 2)) (pe_fld (pv 0) rfl)))), ?_⟩
    refine ⟨_, rfl, _, rfl, _, _, rfl, rfl, cm, _, rfl, q, _, dx, _, _, rfl, hk, T.C_Residues, T.nP, pfs_prime p, _, _, rfl, rfl, (show p ≠ 0 by omega), ?_⟩
    exact k _ _ (Same.refl _) rfl
theorem ok_Fractions_one (T : Txt K mg t) : FnOk Pr w K mg base CX0 1 t.Fractions_one t.d_Fractions_one ["self"] (spNul t.Fractions [] frSR isFr Fr.one) := by
  refine T.F_Fractions_one.ok sc_Fractions_one (fun vs H Q E h => ?_) (fun cdv A outer s H vs Q E hr h => ?_)
  · obtain ⟨x, rfl, _⟩ := h
    rfl
  · obtain ⟨x, rfl, _, k⟩ := h
    refine ⟨_, (pss_one (ps_ret (pe_tup (pa_cons pe_int (pa_cons pe_int pa_nil))))), ?_⟩
    exact ⟨(by show 2 ≤ sizeLine; decide), fun p hp => k _ _ (same_upd hp) IsF.new⟩
theorem ok_Residues_one (T : Txt K mg t) (p : Int) (hp : 2 ≤ p) : FnOk Pr w K mg base CX0 1 t.Residues_one t.d_Residues_one ["self"] (spNul t.Residues (pfs p) (resSR p hp) (isRe p) (resSR p hp).one) := by
  refine T.F_Residues_one.ok sc_Residues_one (fun vs H Q E h => ?_) (fun cdv A outer s H vs Q E hr h => ?_)
  · obtain ⟨x, rfl, _⟩ := h
    rfl
  · obtain ⟨x, rfl, _, k⟩ := h
    refine ⟨_, (pss_one (ps_ret pe_int)), ?_⟩
    exact k _ _ (Same.refl _) rfl
theorem ok_Field_is_field (T : Txt K mg t) : FnOk Pr w K mg base CX0 1 t.Field_is_field t.d_Field_is_field ["self"] (spPk true) := by
  refine T.F_Field_is_field.ok sc_Field_is_field (fun vs H Q E h => ?_) (fun cdv A outer s H vs Q E hr h => ?_)
  · obtain ⟨x, rfl, _⟩ := h
    rfl
  · obtain ⟨x, rfl, k⟩ := h
    exact ⟨_, (pss_one (ps_ret pe_bl)), k⟩
def Frneg (x : Fr) : Fr := ⟨-x.t, x.b, x.p, by rw [dv_neg]; exact x.l⟩
def Frinv (x : Fr) : Fr := if h : x.t ≠ 0 then ⟨tp x.b x.t, bt x.b x.t, bt_pos h, low h⟩ else x
theorem Fr_nz {x : Fr} (h : x ≠ Fr.zero) : x.t ≠ 0 := fun e => by
  refine h (Fr.eq_of e ?_)
  have h1 := x.l
  rw [e] at h1
  have h2 : dv 0 x.b = x.b := by rw [dv_comm, dv_zero]; have := x.p; omega
  rw [h2] at h1
  exact h1
theorem Fr_z {x : Fr} (h : x = Fr.zero) : x.t = 0 := by rw [h]; rfl
theorem Frinv_of {x : Fr} (h : x.t ≠ 0) : Frinv x = ⟨tp x.b x.t, bt x.b x.t, bt_pos h, low h⟩ := by unfold Frinv; rw [dif_pos h]
theorem Frinv_t {x : Fr} (h : x.t ≠ 0) : (Frinv x).t = tp x.b x.t := by rw [Frinv_of h]
theorem Frinv_b {x : Fr} (h : x.t ≠ 0) : (Frinv x).b = bt x.b x.t := by rw [Frinv_of h]
theorem Frinv_ne {x : Fr} (h : x.t ≠ 0) : (Frinv x).t ≠ 0 := by
  rw [Frinv_t h]
  intro e
  have h1 := tp_mul (a := x.b) h
  rw [e, Int.mul_zero] at h1
  have := x.p
  omega
theorem ok_Fractions_minus (T : Txt K mg t) : FnOk Pr w K mg base CX0 1 t.Fractions_minus t.d_Fractions_minus ["self", "x"] (spNeg t.Fractions [] frSR isFr Frneg) := by
  refine T.F_Fractions_minus.ok sc_Fractions_minus (fun vs H Q E h => ?_) (fun cdv A outer s H vs Q E hr h => ?_)
  · obtain ⟨k, x, a, rfl, _⟩ := h
    rfl
  · obtain ⟨k0, x, a, rfl, ⟨_, ⟨px, rfl, hx⟩⟩, k⟩ := h
    refine ⟨_, (pss_one (ps_ret (pe_tup (pa_cons (pe_un un_neg (pe_ix ix_tup (pv 1) pe_int (fun _ _ => rfl))) (pa_cons (pe_ix ix_tup (pv 1) pe_int (fun _ _ => rfl)) pa_nil))))), ?_⟩
    (repeat (first | apply Exists.intro | refine And.intro rfl ?_ | refine And.intro (by with_reducible assumption) ?_ | refine And.intro (SqT.of (by assumption)) ?_ | refine And.intro (SqL.of (by assumption)) ?_ | refine And.intro (TyOf.int _) ?_ | refine And.intro (TyOf.tup (by assumption)) ?_ | refine And.intro T.k_ii ?_ | refine And.intro T.k_ib ?_ | refine And.intro T.k_tt ?_ | refine And.intro T.k_bb ?_ | refine And.intro T.nP ?_ | refine And.intro T.iF_is_field ?_ | refine And.intro T.iR_is_field ?_ | refine And.intro T.k_ll ?_))
    exact ⟨(by show 2 ≤ sizeLine; decide), fun p hp => k _ _ (same_upd hp) IsF.new⟩
theorem ok_Fractions_inverse (T : Txt K mg t) : FnOk Pr w K mg base CX0 37 t.Fractions_inverse t.d_Fractions_inverse ["self", "x"] (spInv t.Fractions [] frSR isFr Frinv) := by
  refine T.F_Fractions_inverse.ok sc_Fractions_inverse (fun vs H Q E h => ?_) (fun cdv A outer s H vs Q E hr h => ?_)
  · obtain ⟨k, x, a, rfl, _⟩ := h
    rfl
  · obtain ⟨k0, x, a, rfl, ⟨_, ⟨px, rfl, hx⟩, na⟩, k⟩ := h
    have h0 := Fr_nz (x := a) na
    refine ⟨_, (pss_one (ps_ret (pe_call (ok_fraction T) (hr.mono (by decide)) rfl T.m_fraction T.F_fraction.kp T.b_fraction .nil pass0 (pa_cons (pe_ix ix_tup (pv 1) pe_int (fun _ _ => rfl)) (pa_cons (pe_ix ix_tup (pv 1) pe_int (fun _ _ => rfl)) pa_nil))))), ?_⟩
    (repeat (first | apply Exists.intro | refine And.intro rfl ?_ | refine And.intro (by with_reducible assumption) ?_ | refine And.intro (SqT.of (by assumption)) ?_ | refine And.intro (SqL.of (by assumption)) ?_ | refine And.intro (TyOf.int _) ?_ | refine And.intro (TyOf.tup (by assumption)) ?_ | refine And.intro T.k_ii ?_ | refine And.intro T.k_ib ?_ | refine And.intro T.k_tt ?_ | refine And.intro T.k_bb ?_ | refine And.intro T.nP ?_ | refine And.intro T.iF_is_field ?_ | refine And.intro T.iR_is_field ?_ | refine And.intro T.k_ll ?_))
    refine fun v H' q f => k v H' q ?_
    show IsF H' v (Frinv a).t (Frinv a).b
    rw [Frinv_t h0, Frinv_b h0]
    exact f
def Reneg (p : Int) (hp : 2 ≤ p) (a : Re p) : Re p := Re.of p (by omega) (-a.x)
def Reinv (p : Int) (hp : 2 ≤ p) (a : Re p) : Re p := ⟨ri p a.x, (ri_in (by omega)).1, (ri_in (by omega)).2⟩
theorem ok_Residues_minus (T : Txt K mg t) (p : Int) (hp : 2 ≤ p) : FnOk Pr w K mg base CX0 1 t.Residues_minus t.d_Residues_minus ["self", "x"] (spNeg t.Residues (pfs p) (resSR p hp) (isRe p) (Reneg p hp)) := by
  refine T.F_Residues_minus.ok sc_Residues_minus (fun vs H Q E h => ?_) (fun cdv A outer s H vs Q E hr h => ?_)
  · obtain ⟨k, x, a, rfl, _⟩ := h
    rfl
  · obtain ⟨k0, x, a, rfl, ⟨⟨q, dx, rfl, hq⟩, rfl⟩, k⟩ := h
    refine ⟨_, (pss_one (ps_ret (pe_op op_modN (pe_un un_neg (pv 1)) (pe_fld (pv 0) rfl)))), ?_⟩
    refine ⟨_, rfl, _, rfl, _, rfl, q, _, dx, _, _, rfl, hq, T.C_Residues, T.nP, pfs_prime p, _, _, rfl, rfl, (show p ≠ 0 by omega), ?_⟩
    exact k _ _ (Same.refl _) rfl
theorem half {l : Int} (h : 0 < l) : 0 ≤ l.fdiv 2 ∧ (l.fdiv 2).toNat < l.toNat := by
  rw [Int.fdiv_eq_ediv_of_nonneg l (by decide)]
  omega
theorem ok_Residues_inverse (T : Txt K mg t) (p : Int) (hp : 2 ≤ p) (hq : p ≤ 1000000) : FnOk Pr w K mg base CX0 3 t.Residues_inverse t.d_Residues_inverse ["self", "x"] (spInv t.Residues (pfs p) (resSR p hp) (isRe p) (Reinv p hp)) := by
  refine T.F_Residues_inverse.ok sc_Residues_inverse (fun vs H Q E h => ?_) (fun cdv A outer s H vs Q E hr h => ?_)
  · obtain ⟨k, x, a, rfl, _⟩ := h
    rfl
  · obtain ⟨k0, x, a, rfl, ⟨⟨q, dx, rfl, hk0⟩, rfl, na⟩, k⟩ := h
    have hk : ∀ {H' : Hp}, Same H H' → H' q = some (.ins t.Residues dx (pfs p)) := fun e => e _ _ hk0
    have nt : (pfs p).lookup ("times" : Str) = none := pfs_no p (by decide +kernel)
    refine ⟨_, (pss_cons (ps_if (pt_cmpR op_eq (pv 1) pe_int (nomark _)) (pss_one ps_never) pss_nil) (pss_cons (ps_set (i := 2) sc_Residues_inverse.nd rfl (Or.inl rfl) pe_int) (pss_cons (ps_set (i := 3) sc_Residues_inverse.nd rfl (Or.inl rfl) (pv 1)) (pss_cons (ps_set (i := 4) sc_Residues_inverse.nd rfl (Or.inl rfl) (pe_op op_sub (pe_fld (pv 0) rfl) pe_int)) (pss_cons (ps_while PassesOwn.never (pt_cmpR op_gt (pv 4) pe_int (nomark _)) (pss_cons (ps_if (pt_cmpR op_eq (pe_op op_modN (pv 4) pe_int) pe_int (nomark _)) (pss_one (ps_set (i := 2) sc_Residues_inverse.nd rfl (Or.inl rfl) (pe_meth (pv 0) T.C_Residues T.t_Residues_times (ok_Residues_times T p hp hq) (hr.mono (by decide)) T.b_Residues_times .nil pass0 (pa_cons (pv 2) (pa_cons (pv 3) pa_nil))))) pss_nil) (pss_cons (ps_set (i := 3) sc_Residues_inverse.nd rfl (Or.inl rfl) (pe_meth (pv 0) T.C_Residues T.t_Residues_times (ok_Residues_times T p hp hq) (hr.mono (by decide)) T.b_Residues_times .nil pass0 (pa_cons (pv 3) (pa_cons (pv 3) pa_nil)))) (pss_one (ps_set (i := 4) sc_Residues_inverse.nd rfl (Or.inl rfl) (pe_op op_fdivB (pv 4) pe_int)))))) (pss_one (ps_ret (pv 2)))))))), ?_⟩
    refine ⟨_, rfl, rfl, _, rfl, ?_⟩
    refine iteI (fun h0 => absurd (Re.eq_of h0) na) (fun h0 => ?_)
    refine ⟨_, rfl, _, rfl, q, _, dx, _, _, rfl, hk0, T.C_Residues, T.nP, pfs_prime p, _, _, rfl, rfl, ?_⟩
    refine ⟨fun m σ H' => ∃ l pr sq : Int, σ = [some (.ref q), some (.int a.x), some (.int pr), some (.int sq), some (.int l)] ∧ m = l.toNat ∧ (0 ≤ l ∧ 0 ≤ sq ∧ sq < p ∧ RInv p a.x l pr sq) ∧ Same H H', ⟨_, _, _, _, rfl, rfl, ⟨by omega, a.h0, a.h1, ri_start hp⟩, Same.refl _⟩, ?_⟩
    rintro m σ H' ⟨l, pr, sq, rfl, rfl, ⟨l0, s0, s1, ri⟩, qq⟩
    refine ⟨_, rfl, _, _, rfl, rfl, _, rfl, ?_⟩
    refine iteP (fun hl => ?_) (fun hl => ?_)
    · refine ⟨fun σ' H'' => ∃ l' pr' sq' : Int, σ' = [some (.ref q), some (.int a.x), some (.int pr'), some (.int sq'), some (.int l')] ∧ l'.toNat < l.toNat ∧ (0 ≤ l' ∧ 0 ≤ sq' ∧ sq' < p ∧ RInv p a.x l' pr' sq') ∧ Same H H'', fun σ' H'' ⟨l', pr', sq', e1, e2, e3, e4⟩ => ⟨_, e2, l', pr', sq', e1, rfl, e3, e4⟩, ?_⟩
      have fd := half hl
      have m0 : ∀ S : SR, Sml S (0 + 0) := fun _ => .inl (by decide)
      refine ⟨_, rfl, _, _, rfl, rfl, (show (2 : Int) ≠ 0 by decide), rfl, _, rfl, ?_⟩
      refine iteI (fun ho => ?_) (fun ho => ?_)
      · refine ⟨_, rfl, _, _, _, rfl, hk qq, nt, _, rfl, _, rfl, _, _, _, (⟨pr, ri.2.1, ri.2.2⟩ : Re p), (⟨sq, s0, s1⟩ : Re p), 0, 0, rfl, ⟨⟨_, _, rfl, hk qq⟩, rfl, rfl, trivial, trivial, m0 _⟩, fun v1 H1 q1 f1 => ?_⟩
        obtain rfl : v1 = .int ((pr * sq).fmod p) := f1
        have s2 := qq.trans q1
        refine ⟨_, rfl, _, _, _, rfl, hk s2, nt, _, rfl, _, rfl, _, _, _, (⟨sq, s0, s1⟩ : Re p), (⟨sq, s0, s1⟩ : Re p), 0, 0, rfl, ⟨⟨_, _, rfl, hk s2⟩, rfl, rfl, trivial, trivial, m0 _⟩, fun v2 H2 q2 f2 => ?_⟩
        obtain rfl : v2 = .int ((sq * sq).fmod p) := f2
        refine ⟨_, rfl, _, _, rfl, rfl, ⟨by decide, by decide⟩, ?_⟩
        exact ⟨_, _, _, rfl, fd.2, ⟨fd.1, (r_in (by omega)).1, (r_in (by omega)).2, ri_odd (by omega) ri hl (by rw [← fe (by decide)]; exact ho)⟩, s2.trans q2⟩
      · refine ⟨_, rfl, _, _, _, rfl, hk qq, nt, _, rfl, _, rfl, _, _, _, (⟨sq, s0, s1⟩ : Re p), (⟨sq, s0, s1⟩ : Re p), 0, 0, rfl, ⟨⟨_, _, rfl, hk qq⟩, rfl, rfl, trivial, trivial, m0 _⟩, fun v2 H2 q2 f2 => ?_⟩
        obtain rfl : v2 = .int ((sq * sq).fmod p) := f2
        refine ⟨_, rfl, _, _, rfl, rfl, ⟨by decide, by decide⟩, ?_⟩
        exact ⟨_, _, _, rfl, fd.2, ⟨fd.1, (r_in (by omega)).1, (r_in (by omega)).2, ri_even (by omega) ri hl (by rw [← fe (by decide)]; exact ho)⟩, qq.trans q2⟩
    · refine ⟨_, rfl, ?_⟩
      have e := ri_out ri hl
      refine k _ _ qq ?_
      show V.int pr = .int (Mine.ri p a.x)
      rw [e]
theorem Re_pos {p : Int} {hp : 2 ≤ p} {x : Re p} (h : x ≠ (resSR p hp).zero) : 0 < x.x := by
  have h0 := x.h0
  by_cases e : x.x = 0
  · exact absurd (Re.eq_of e) h
  · omega
/-! the kinds -/
def R_fr (T : Txt K mg t) : KindR Pr w K mg base where
  S := frSR
  C := t.Fractions
  fs := []
  cl := T.C_Fractions
  is := isFr
  same e h := IsF.same e h
  isd h := IsF.is h
  F := {
    neg := Frneg
    inv := Frinv
    add_neg := fun x => Fr.eq_of (plus_minus x.p).1 (plus_minus x.p).2
    mul_inv := fun x h => Fr.eq_of (by show tp (x.t * (Frinv x).t) (x.b * (Frinv x).b) = 1; rw [Frinv_t (Fr_nz h), Frinv_b (Fr_nz h)]; exact (times_inv (Fr_nz h) x.nb).1) (by show bt (x.t * (Frinv x).t) (x.b * (Frinv x).b) = 1; rw [Frinv_t (Fr_nz h), Frinv_b (Fr_nz h)]; exact (times_inv (Fr_nz h) x.nb).2)
    sz_neg := fun m x h => ⟨by show (-x.t).natAbs ≤ _; rw [Int.natAbs_neg]; exact h.1, h.2⟩
    sz_inv := fun m x h s => ⟨by rw [Frinv_t (Fr_nz h)]; exact Nat.le_trans (tp_le (Fr_nz h)) s.2, by rw [Frinv_b (Fr_nz h)]; exact Nat.le_trans (bt_le (Fr_nz h)) s.1⟩ }
  f_plus := _
  d_plus := _
  t_plus := T.t_Fractions_plus
  b_plus := T.b_Fractions_plus
  l_plus := rfl
  G_plus := (ok_Fractions_plus T).mono (by decide)
  f_times := _
  d_times := _
  t_times := T.t_Fractions_times
  b_times := T.b_Fractions_times
  l_times := rfl
  G_times := (ok_Fractions_times T).mono (by decide)
  f_nought := _
  d_nought := _
  t_nought := T.t_Fractions_nought
  b_nought := T.b_Fractions_nought
  l_nought := rfl
  G_nought := (ok_Fractions_nought T).mono (by decide)
  f_one := _
  d_one := _
  t_one := T.t_Fractions_one
  b_one := T.b_Fractions_one
  l_one := rfl
  G_one := (ok_Fractions_one T).mono (by decide)
  f_minus := _
  d_minus := _
  t_minus := T.t_Fractions_minus
  b_minus := T.b_Fractions_minus
  l_minus := rfl
  G_minus := (ok_Fractions_minus T).mono (by decide)
  f_inverse := _
  d_inverse := _
  t_inverse := T.t_Fractions_inverse
  b_inverse := T.b_Fractions_inverse
  l_inverse := rfl
  G_inverse := (ok_Fractions_inverse T).mono (by decide)
  f_is_field := _
  d_is_field := _
  t_is_field := ⟨T.iF_is_field, T.t_Field_is_field.2, T.t_Field_is_field.3⟩
  b_is_field := T.b_Field_is_field
  l_is_field := rfl
  G_is_field := (ok_Field_is_field T).mono (by decide)
def R_re (T : Txt K mg t) (p : Int) (hp : 2 ≤ p) (hq : p ≤ 1000000) (hP : isP p = true) : KindR Pr w K mg base where
  S := resSR p hp
  C := t.Residues
  fs := pfs p
  cl := T.C_Residues
  is := isRe p
  same _ h := h
  isd {H v x} h := by cases (show v = .int x.x from h); exact .int _
  F := {
    neg := Reneg p hp
    inv := Reinv p hp
    add_neg := fun x => Re.eq_of (r_pm (by omega))
    mul_inv := fun x h => Re.eq_of (ri_one (isP_true hP).nat (Re_pos (hp := hp) h) x.h1)
    sz_neg := fun _ _ _ => trivial
    sz_inv := fun _ _ _ _ => trivial }
  f_plus := _
  d_plus := _
  t_plus := T.t_Residues_plus
  b_plus := T.b_Residues_plus
  l_plus := pfs_no p (by decide +kernel)
  G_plus := (ok_Residues_plus T p hp).mono (by decide)
  f_times := _
  d_times := _
  t_times := T.t_Residues_times
  b_times := T.b_Residues_times
  l_times := pfs_no p (by decide +kernel)
  G_times := (ok_Residues_times T p hp hq).mono (by decide)
  f_nought := _
  d_nought := _
  t_nought := T.t_Residues_nought
  b_nought := T.b_Residues_nought
  l_nought := pfs_no p (by decide +kernel)
  G_nought := (ok_Residues_nought T p hp).mono (by decide)
  f_one := _
  d_one := _
  t_one := T.t_Residues_one
  b_one := T.b_Residues_one
  l_one := pfs_no p (by decide +kernel)
  G_one := (ok_Residues_one T p hp).mono (by decide)
  f_minus := _
  d_minus := _
  t_minus := T.t_Residues_minus
  b_minus := T.b_Residues_minus
  l_minus := pfs_no p (by decide +kernel)
  G_minus := (ok_Residues_minus T p hp).mono (by decide)
  f_inverse := _
  d_inverse := _
  t_inverse := T.t_Residues_inverse
  b_inverse := T.b_Residues_inverse
  l_inverse := pfs_no p (by decide +kernel)
  G_inverse := (ok_Residues_inverse T p hp hq).mono (by decide)
  f_is_field := _
  d_is_field := _
  t_is_field := ⟨T.iR_is_field, T.t_Field_is_field.2, T.t_Field_is_field.3⟩
  b_is_field := T.b_Field_is_field
  l_is_field := pfs_no p (by decide +kernel)
  G_is_field := (ok_Field_is_field T).mono (by decide)
/-- which of the two fields, with its name and number -/
inductive So (T : Txt K mg t) : KindR Pr w K mg base → Str → Int → Prop
  | fr : So T (R_fr T) "fractions" 0
  | re (p : Int) (hp : 2 ≤ p) (hq : p ≤ 1000000) (hi : isP p = true) : So T (R_re T p hp hq hi) "residues" p
def SortAt (H : Hp) (v : V) (nm : Str) (p : Int) : Prop := ∃ q, v = .ref q ∧ H q = some (.tup [.str nm, .int p])
theorem SortAt.same {H H' : Hp} {v : V} {nm : Str} {p : Int} (s : SameT H H') (h : SortAt H v nm p) : SortAt H' v nm p := by
  obtain ⟨q, rfl, e⟩ := h
  exact ⟨q, rfl, s _ _ e⟩
--ROWS
/-! draws -/
def Dr (H : Hp) (a : Addr) : Prop := ∃ x : Int, H a = some (.lst [.int x]) ∨ ∃ d : Int, H a = some (.lst [.int d, .int x])
/-- all but the list at a is as it was -/
def SameX (a : Addr) (H H' : Hp) : Prop := ∀ b o, b ≠ a → H b = some o → H' b = some o
theorem SameX.refl (a : Addr) (H : Hp) : SameX a H H := fun _ _ _ h => h
theorem SameX.trans {a : Addr} {H H1 H2 : Hp} (x : SameX a H H1) (y : SameX a H1 H2) : SameX a H H2 := fun b o n h => y b o n (x b o n h)
theorem SameX.upd {a : Addr} {H : Hp} {o : HO} : SameX a H (upd H a o) := fun b u n h => by rw [upd_ne n]; exact h
theorem SameX.of {a : Addr} {H H' : Hp} (x : Same H H') : SameX a H H' := fun b o _ h => x b o h
def sp_next : Sp := fun vs H Q _ => ∃ (a : Addr) (m : Int), vs = [.ref a, .int m] ∧ (Dr H a ∧ 0 < m ∧ m ≤ 1000000000000000) ∧ ∀ (r : Int) H', SameX a H H' → Dr H' a → 0 ≤ r → r < m → Q (.int r) H'
def sp_state (K : PySem.W.Frag) : Sp := fun vs H Q _ => ∃ (a : Addr) (ns : List Int), vs = [.ref a] ∧ SqL K H a (ns.map V.int) ∧ ns.length ≤ 63 ∧ ∀ b H', H b = none → Same H H' → Dr H' b → Q (.ref b) H'
theorem small_div {m : Int} (h : 0 < m) (h' : m ≤ 1000000000000000) (x : Int) : CDivB x m := by
  refine ⟨by omega, ?_⟩
  have : m.natAbs ≤ 2 ^ 50 := by
    have e : (2 : Nat) ^ 50 = 1125899906842624 := by decide
    omega
  by_cases e : m.natAbs = 0
  · rw [e]; decide
  · rw [Nat.log2_lt e]
    exact Nat.lt_of_le_of_lt this (Nat.pow_lt_pow_right (by decide) (by decide))
theorem ok_law_next (T : Txt K mg t) : FnOk Pr w K mg base CX0 1 t.law_next t.d_law_next ["_law_state_here", "_law_many"] sp_next := by
  refine T.F_law_next.ok sc_law_next (fun vs H Q E h => ?_) (fun cdv A outer s H vs Q E hr h => ?_)
  · obtain ⟨a, m, rfl, _⟩ := h
    rfl
  · obtain ⟨a, m, rfl, ⟨⟨x, hD⟩, m0, m1⟩, k⟩ := h
    refine ⟨_, (pss_cons (ps_if (pt_cmpR op_eq (pe_callB call_len (by rfl) T.z_len PySem.boot_len (pa_cons (pv 0) pa_nil)) pe_int (nomark _)) (pss_cons (ps_set (i := 2) sc_law_next.nd rfl (Or.inl rfl) (pe_op op_modN (pe_ix ix_list (pv 0) pe_int (fun _ _ => rfl)) (pv 1))) (pss_cons (ps_asg (pe_op op_fdivB (pe_ix ix_list (pv 0) pe_int (fun _ _ => rfl)) (pv 1)) (pg_sub (pv 0) pe_int set_list)) (pss_cons (ps_if (pt_cmpR op_eq (pe_ix ix_list (pv 0) pe_int (fun _ _ => rfl)) pe_int (nomark _)) (pss_one (ps_expr (pe_bm PySem.F.plainAttrs_list PySem.F.slot_list_pop PySem.F.type_list_pop mt_popAt (pv 0) (pa_cons pe_int pa_nil)))) pss_nil) (pss_one (ps_ret (pv 2)))))) pss_nil) (pss_cons (ps_asg (pe_op op_modN (pe_op op_add (pe_op op_mul (pe_ix ix_list (pv 0) pe_int (fun _ _ => rfl)) pe_int) pe_int) pe_int) (pg_sub (pv 0) pe_int set_list)) (pss_one (ps_ret (pe_op op_modN (pe_op op_fdivB (pe_ix ix_list (pv 0) pe_int (fun _ _ => rfl)) pe_int) (pv 1)))))), ?_⟩
    rcases hD with hD | ⟨d, hD⟩
    · have lc : LenV K (.ref a) H 1 := .inl ⟨_, SqL.of hD, rfl⟩
      refine ⟨_, rfl, _, _, rfl, lc, rfl, _, rfl, ?_⟩
      refine iteI (fun h => absurd h (by decide)) (fun _ => ?_)
      refine ⟨_, rfl, _, _, _, _, rfl, rfl, SqL.of hD, rfl, _, _, rfl, rfl, .inr ⟨by decide, by decide⟩, _, _, rfl, rfl, _, _, rfl, rfl, (show (2305843009213693951 : Int) ≠ 0 by decide), ?_⟩
      refine ⟨_, rfl, _, _, _, _, rfl, rfl, hD, rfl, ?_⟩
      refine ⟨_, rfl, _, _, _, _, rfl, rfl, SqL.of upd_same, rfl, _, _, rfl, rfl, ⟨by decide, by decide⟩, _, rfl, _, _, rfl, rfl, (show m ≠ 0 by omega), ?_⟩
      exact k _ _ SameX.upd ⟨_, .inl upd_same⟩ (Int.fmod_nonneg_of_pos _ m0) (Int.fmod_lt_of_pos _ m0)
    · have lc : LenV K (.ref a) H 2 := .inl ⟨_, SqL.of hD, rfl⟩
      refine ⟨_, rfl, _, _, rfl, lc, rfl, _, rfl, ?_⟩
      refine iteI (fun _ => ?_) (fun h => absurd rfl h)
      refine ⟨_, rfl, _, _, _, _, rfl, rfl, SqL.of hD, rfl, _, rfl, _, _, rfl, rfl, (show m ≠ 0 by omega), ?_⟩
      refine ⟨_, rfl, _, _, _, _, rfl, rfl, SqL.of hD, rfl, _, rfl, _, _, rfl, rfl, small_div m0 m1 _, ?_⟩
      refine ⟨_, rfl, _, _, _, _, rfl, rfl, hD, rfl, ?_⟩
      refine ⟨_, rfl, _, _, _, _, rfl, rfl, SqL.of upd_same, rfl, rfl, _, rfl, ?_⟩
      refine iteI (fun _ => ?_) (fun _ => ?_)
      · refine ⟨_, rfl, .inl ⟨rfl, _, SqL.of upd_same⟩, _, _, _, _, _, rfl, rfl, upd_same, (by decide), (by decide), rfl, rfl, ?_⟩
        refine ⟨_, rfl, ?_⟩
        exact k _ _ (SameX.upd.trans SameX.upd) ⟨x, .inl upd_same⟩ (Int.fmod_nonneg_of_pos _ m0) (Int.fmod_lt_of_pos _ m0)
      · refine ⟨_, rfl, ?_⟩
        exact k _ _ SameX.upd ⟨x, .inr ⟨_, upd_same⟩⟩ (Int.fmod_nonneg_of_pos _ m0) (Int.fmod_lt_of_pos _ m0)
theorem ok_law_state (T : Txt K mg t) : FnOk Pr w K mg base CX0 1 t.law_state t.d_law_state ["_law_script"] (sp_state K) := by
  refine T.F_law_state.ok sc_law_state (fun vs H Q E h => ?_) (fun cdv A outer s H vs Q E hr h => ?_)
  · obtain ⟨a, ns, rfl, _⟩ := h
    rfl
  · obtain ⟨a, ns, rfl, hS, hlen, k⟩ := h
    refine ⟨_, (pss_cons (ps_set (i := 1) sc_law_state.nd rfl (Or.inl rfl) pe_int) (pss_cons (ps_for PassesOwn.never rfl (pi_list (pe_slice sl_list (pv 0) po_none (po_some pe_int))) (pg_name (i := 2) sc_law_state.nd rfl (Or.inl rfl)) (pss_one (ps_set (i := 1) sc_law_state.nd rfl (Or.inl rfl) (pe_op op_modN (pe_op op_add (pe_op op_add (pe_op op_mul (pv 1) pe_int) (pe_op op_modN (pv 2) (pe_op op_pow pe_int pe_int))) pe_int) pe_int)))) (pss_cons (ps_if (PW.pt (pw_and (pt_cmpR op_gt (pe_callB call_len (by rfl) T.z_len PySem.boot_len (pa_cons (pv 0) pa_nil)) pe_int (nomark _)) (pw_and (pt_cmpR op_gt (pe_ix ix_list (pv 0) pe_int (fun _ _ => rfl)) pe_int (nomark _)) (pw_and1 (pt_cmpR op_eq (pe_op op_modN (pe_ix ix_list (pv 0) pe_int (fun _ _ => rfl)) pe_int) pe_int (nomark _)))))) (pss_one (ps_ret (pe_lst (pa_cons (pe_op op_fdivB (pe_ix ix_list (pv 0) pe_int (fun _ _ => rfl)) pe_int) (pa_cons (pv 1) pa_nil))))) pss_nil) (pss_one (ps_ret (pe_lst (pa_cons (pv 1) pa_nil))))))), ?_⟩
    refine ⟨_, rfl, _, rfl, _, _, rfl, hS, fun c1 hc1 => ?_⟩
    have ec : cutV (ns.map V.int) none (some 200) = (ns.take 200).map V.int := by
      rw [show (200 : Int) = ((200 : Nat) : Int) from rfl, cut_take, List.map_take]
    have s1 := same_upd (o := .lst (cutV (ns.map V.int) none (some 200))) hc1
    have k1 := upd_same (H := H) (a := c1) (o := .lst (cutV (ns.map V.int) none (some 200)))
    have hS1 := s1.seq hS
    clear hc1
    revert s1 k1 hS1
    generalize upd H c1 (.lst (cutV (ns.map V.int) none (some 200))) = H1
    intro s1 k1 hS1
    rw [ec] at k1
    refine ⟨c1, rfl, ⟨_, SqL.of k1⟩, for_list (K := K) (a := c1) (xs := (ns.take 200).map V.int) (fun i σ H' => ∃ (x : Int) (v : Option V), σ = [some (.ref a), some (.int x), v] ∧ H' = H1) ⟨_, _, rfl, rfl⟩ (fun i σ H' _ ⟨_, _, _, e⟩ => e ▸ SqL.of k1) ?_ ?_⟩
    · rintro i y σ H' hi ⟨x, v, rfl, rfl⟩
      obtain ⟨z, rfl⟩ : ∃ z, y = V.int z := by
        rw [List.getElem?_map] at hi
        cases e : (ns.take 200)[i]? with
        | none => rw [e] at hi; cases hi
        | some z => rw [e] at hi; exact ⟨z, (Option.some.inj hi).symm⟩
      refine ⟨_, rfl, _, _, rfl, rfl, .inr ⟨by decide, by decide⟩, _, rfl, _, _, rfl, rfl, ⟨by decide, by decide, by decide⟩, _, _, rfl, rfl, (show ((10 : Int) ^ (30 : Int).toNat) ≠ 0 by decide), _, _, rfl, rfl, _, _, rfl, rfl, _, _, rfl, rfl, (show (2305843009213693951 : Int) ≠ 0 by decide), ?_⟩
      exact ⟨_, _, rfl, rfl⟩
    · rintro σ H' ⟨x, v, rfl, rfl⟩
      have lc : LenV K (.ref a) H' (ns.map V.int).length := .inl ⟨_, hS1, rfl⟩
      rw [List.length_map] at lc
      have last : tSeq tNext (tRet (tLst (tCons (tVar 1) tNil))) { nx := fun _ H'' => Q .non H'', rt := Q } [some (.ref a), some (.int x), v] H' := by
        refine ⟨_, rfl, (by show 1 ≤ sizeLine; decide), fun b hb => ?_⟩
        exact k b _ (s1.free hb) (s1.trans (same_upd hb)) ⟨x, .inl upd_same⟩
      refine ⟨_, rfl, _, _, rfl, lc, _, _, rfl, rfl, _, rfl, ?_⟩
      refine iteP (fun h0 => ?_) (fun _ => ?_)
      · obtain ⟨n0, g0⟩ : ∃ n, ns[0]? = some n := ⟨ns[0]'(by omega), by simp⟩
        have a0 : atI (ns.map V.int) 0 = some (V.int n0) := atI_nat (j := 0) (by rw [List.getElem?_map, g0]; rfl)
        refine ⟨_, rfl, _, _, _, _, rfl, rfl, hS1, a0, _, _, rfl, rfl, _, rfl, ?_⟩
        refine iteP (fun _ => ?_) (fun _ => ?_)
        · refine ⟨_, rfl, _, _, _, _, rfl, rfl, hS1, a0, _, _, rfl, rfl, (show (2 : Int) ≠ 0 by decide), rfl, _, rfl, ?_⟩
          refine iteI (fun _ => ?_) (fun _ => ?_)
          · refine ⟨_, rfl, _, _, _, _, rfl, rfl, hS1, a0, _, _, rfl, rfl, ⟨by decide, by decide⟩, _, rfl, (by show 2 ≤ sizeLine; decide), fun b hb => ?_⟩
            exact k b _ (s1.free hb) (s1.trans (same_upd hb)) ⟨x, .inr ⟨_, upd_same⟩⟩
          · exact last
        · exact last
      · exact last
theorem Dr.same {H H' : Hp} {a : Addr} (e : Same H H') (h : Dr H a) : Dr H' a := by
  obtain ⟨x, h | ⟨d, h⟩⟩ := h
  · exact ⟨x, .inl (e _ _ h)⟩
  · exact ⟨x, .inr ⟨d, e _ _ h⟩⟩
theorem Dr.lst {H : Hp} {a : Addr} (h : Dr H a) : ∃ xs, H a = some (.lst xs) := by
  obtain ⟨x, h | ⟨d, h⟩⟩ := h
  · exact ⟨_, h⟩
  · exact ⟨_, h⟩
theorem SameX.tt {a : Addr} {H H' : Hp} (s : SameX a H H') (d : Dr H a) : SameT H H' := fun p vs h => s p _ (by
  rintro rfl
  obtain ⟨xs, e⟩ := d.lst
  rw [h] at e; cases e) h
theorem KAt.samx {C : Addr} {fs : List (Str × V)} {a : Addr} {H H' : Hp} {k : V} (s : SameX a H H') (d : Dr H a) (h : KAt C fs H k) : KAt C fs H' k := by
  obtain ⟨p, dx, rfl, h⟩ := h
  exact ⟨p, dx, rfl, s p _ (by
    rintro rfl
    obtain ⟨xs, e⟩ := d.lst
    rw [h] at e; cases e) h⟩
theorem SameX.tup {a p : Addr} {H : Hp} {o : HO} (n : H p = none) (d : Dr H a) : SameX a H (L2.upd H p o) ∧ Dr (L2.upd H p o) a := ⟨.of (same_upd n), d.same (same_upd n)⟩
theorem sameT_lst {H : Hp} {a : Addr} {xs : List V} {o : HO} (h : H a = some (.lst xs)) : SameT H (upd H a o) := fun b vs hb => by
  rw [upd_ne (by rintro rfl; rw [h] at hb; cases hb)]; exact hb
theorem same_at {H H1 : Hp} {a : Addr} {o : HO} (s : Same H H1) (n : H a = none) : Same H (upd H1 a o) := fun b u hb => by
  rw [upd_ne (ne_of_none hb n)]; exact s _ _ hb
theorem SameX.put {a b : Addr} {H H1 : Hp} {o : HO} (s : SameX a H H1) (n : H b = none) : SameX a H (L2.upd H1 b o) := fun c u hc hu => by
  rw [upd_ne (ne_of_none hu n)]; exact s c u hc hu
theorem Dr.put {a b : Addr} {H : Hp} {o : HO} (d : Dr H a) (n : b ≠ a) : Dr (L2.upd H b o) a := by
  obtain ⟨x, h | ⟨y, h⟩⟩ := d
  · exact ⟨x, .inl (by rw [upd_ne (Ne.symm n)]; exact h)⟩
  · exact ⟨x, .inr ⟨y, by rw [upd_ne (Ne.symm n)]; exact h⟩⟩
theorem ne_dr {H : Hp} {a p : Addr} (d : Dr H a) (n : H p = none) : p ≠ a := fun e => by
  obtain ⟨xs, z⟩ := d.lst
  rw [← e, n] at z
  cases z
/-! rows of weights, their sizes in bits -/
theorem Ents.app {Pd : Nat → V → Hp → Prop} {xs ys : List V} {n k : Nat} {H : Hp} (h1 : Ents Pd xs n H) (h2 : Ents (fun j => Pd (n + j)) ys k H) : Ents Pd (xs ++ ys) (n + k) H :=
  ⟨by rw [List.length_append, h1.1, h2.1], fun j hj => by
    by_cases hn : j < n
    · obtain ⟨u, e, q⟩ := h1.2 j hn
      exact ⟨u, by rw [List.getElem?_append_left (by rw [h1.1]; exact hn)]; exact e, q⟩
    · obtain ⟨u, e, q⟩ := h2.2 (j - n) (by omega)
      rw [show n + (j - n) = j by omega] at q
      exact ⟨u, by rw [List.getElem?_append_right (by rw [h1.1]; omega), h1.1]; exact e, q⟩⟩
theorem Row.up {R : KindR Pr w K mg base} {n m m' : Nat} {x : Nat → R.S.W} {v : V} {H : Hp} (h : m ≤ m') (r : R.Row n x m v H) : R.Row n x m' v H := r.mono (SameT.refl _) fun _ _ _ q => ⟨q.1, R.S.sz_mono _ _ _ h q.2⟩
theorem Row.congr {R : KindR Pr w K mg base} {n m : Nat} {x y : Nat → R.S.W} {v : V} {H : Hp} (h : ∀ i, i < n → x i = y i) (r : R.Row n x m v H) : R.Row n y m v H :=
  r.mono (SameT.refl _) fun j _ hj q => ⟨by rw [← h j hj]; exact q.1, by rw [← h j hj]; exact q.2⟩
theorem cut_drop {xs : List V} {k : Nat} (h : k ≤ xs.length) : cutV xs (some (k : Int)) none = xs.drop k := by
  unfold cutV
  rw [HT.sIx_none, HT.sIx_nat, Nat.min_eq_left h]
  exact List.take_of_length_le (by rw [List.length_drop]; exact Nat.le_refl _)
/-- the item of a row at a place -/
theorem Row.at {R : KindR Pr w K mg base} {n m : Nat} {x : Nat → R.S.W} {v : V} {H : Hp} (r : R.Row n x m v H) {j : Nat} (hj : j < n) : ∃ p vs u, v = .ref p ∧ SqT K H p vs ∧ atI vs (j : Int) = some u ∧ R.is H u (x j) ∧ R.S.sz m (x j) := by
  obtain ⟨p, vs, rfl, hp, e⟩ := r
  obtain ⟨u, eu, q⟩ := e.2 j hj
  exact ⟨p, vs, u, rfl, SqT.of hp, atI_nat eu, q.1, q.2⟩
def sp_times_row (w : World) (K : PySem.W.Frag) (mg : Str → Option Value) (base : Heap) : Sp := fun vs H Q _ => ∃ (R : KindR Pr w K mg base), ∃ kv bv row n b x j m, vs = [kv, bv, row] ∧ (KAt R.C R.fs H kv ∧ R.is H bv b ∧ R.S.sz j b ∧ R.Row n x m row H ∧ n ≤ 1000 ∧ Sml R.S (j + m)) ∧
  ∀ v H', Same H H' → R.Row n (fun i => R.S.mul b (x i)) (j + m) v H' → Q v H'
theorem ok_times_row (T : Txt K mg t) : FnOk Pr w K mg base CX0 41 t.times_row t.d_times_row ["kind", "by", "row"] (sp_times_row w K mg base) := by
  refine T.F_times_row.ok sc_times_row (fun vs H Q E h => ?_) (fun cdv A outer s H vs Q E hr h => ?_)
  · obtain ⟨R, kv, bv, row, n, b, x, j, m, rfl, _⟩ := h
    rfl
  · obtain ⟨R, kv, bv, row, n, b, x, jl, m, rfl, ⟨⟨kp, dx, rfl, hk⟩, hb, lb, ⟨p, us, rfl, hp, ent⟩, hn, hz⟩, k⟩ := h
    refine ⟨_, (pss_one (ps_ret (pe_callTy call_tuple_of (by rfl) T.z_tuple boot_tuple (pa_cons (pe_comp (xs := ["x"]) rfl (show CompOk ["kind", "by", "row"] (defScope s_times_row) _ from ⟨rfl, by decide +kernel, by decide +kernel, by decide +kernel, by decide +kernel, by decide +kernel⟩) (pi_tup (pv 2)) (fun _ _ _ _ _ => (pg_name (i := 3) (by show List.Nodup (["kind", "by", "row", "x"] : List Str); decide +kernel) rfl (Or.inl rfl))) (fun _ _ _ _ _ => (pe_meth (pv 0) R.cl R.t_times R.G_times (hr.mono (by decide)) R.b_times .nil pass0 (pa_cons (pv 1) (pa_cons (pv 3) pa_nil))))) pa_nil)))), ?_⟩
    refine ⟨_, rfl, p, rfl, ⟨_, SqT.of hp⟩, comp_go (n := n) (fun j ys H2 => Same H H2 ∧ Ents (R.Wt (fun i => R.S.mul b (x i)) (jl + m)) ys j H2) hn ⟨Same.refl _, Ents.nil⟩ (fun j ys H2 q => q.2.1) ?_ ?_ ?_⟩
    · rintro j ys H2 hj ⟨q, e⟩
      obtain ⟨u, eu, pu⟩ := ent.2 j hj
      refine ⟨⟨_, _, SqT.of (q _ _ hp), eu⟩, fun y H' hy => ?_⟩
      obtain ⟨rfl, hy⟩ := hy
      have := hy _ (SqT.of (q _ _ hp))
      rw [eu] at this
      cases this
      refine ⟨⟨[some _], rfl, rfl⟩, _, rfl, _, _, _, rfl, q _ _ hk, R.l_times, _, rfl, _, rfl, _, _, _, _, _, jl, m, rfl, ⟨⟨_, _, rfl, q _ _ hk⟩, R.same q.t hb, R.same q.t pu.1, lb, pu.2, hz⟩, fun v H3 s3 f3 => ?_⟩
      exact ⟨q.trans s3, (e.mono fun _ _ _ z => KindR.Wt.same s3.t z).snoc ⟨f3, R.S.sz_mul _ _ _ _ lb pu.2⟩⟩
    · rintro ys H2 ⟨q, e⟩
      exact ⟨_, SqT.of (q _ _ hp), by rw [ent.1]; exact Nat.le_refl _⟩
    · rintro ys H2 l ⟨q, e⟩ nl
      have s1' := same_upd (o := .lst ys) nl
      refine ⟨l, ys, rfl, .inl ⟨SqL.of upd_same, fun l2 n2 => ?_⟩⟩
      have s2 := same_upd (o := .tup ys) n2
      exact k _ _ (q.trans (s1'.trans s2)) ⟨l2, ys, rfl, upd_same, e.mono fun _ _ _ z => KindR.Wt.same (s1'.trans s2).t z⟩
def sp_noughts (w : World) (K : PySem.W.Frag) (mg : Str → Option Value) (base : Heap) : Sp := fun vs H Q _ => ∃ (R : KindR Pr w K mg base), ∃ kv, ∃ (z : Int), ∃ (n m : Nat), vs = [kv, .int z] ∧ (KAt R.C R.fs H kv ∧ n ≤ 1000 ∧ z = n) ∧
  ∀ v H', Same H H' → R.Row n (fun _ => R.S.zero) m v H' → Q v H'
theorem ok_noughts (T : Txt K mg t) : FnOk Pr w K mg base CX0 41 t.noughts t.d_noughts ["kind", "size"] (sp_noughts w K mg base) := by
  refine T.F_noughts.ok sc_noughts (fun vs H Q E h => ?_) (fun cdv A outer s H vs Q E hr h => ?_)
  · obtain ⟨R, kv, z, n, m, rfl, _⟩ := h
    rfl
  · obtain ⟨R, kv, z, n, m, rfl, ⟨⟨kp, dx, rfl, hk⟩, hn, rfl⟩, k⟩ := h
    refine ⟨_, (pss_one (ps_ret (pe_callTy call_tuple_of (by rfl) T.z_tuple boot_tuple (pa_cons (pe_comp (xs := ["place"]) rfl (show CompOk ["kind", "size"] (defScope s_noughts) _ from ⟨rfl, by decide +kernel, by decide +kernel, by decide +kernel, by decide +kernel, by decide +kernel⟩) (pi_range1 rfl T.z_range (pa_cons (pv 1) pa_nil)) (fun _ _ _ _ _ => (pg_name (i := 2) (by show List.Nodup (["kind", "size", "place"] : List Str); decide +kernel) rfl (Or.inl rfl))) (fun _ _ _ _ _ => (pe_meth0 (pv 0) R.cl R.t_nought R.G_nought (hr.mono (by decide)) R.b_nought .nil pass0))) pa_nil)))), ?_⟩
    refine ⟨_, rfl, _, rfl, (by omega), (by omega), comp_go (n := n) (fun j ys H2 => Same H H2 ∧ Ents (R.Wt (fun _ => R.S.zero) m) ys j H2) hn ⟨Same.refl _, Ents.nil⟩ (fun j ys H2 q => q.2.1) ?_ ?_ ?_⟩
    · rintro j ys H2 hj ⟨q, e⟩
      refine ⟨(show j < (n : Int).toNat by omega), fun y H' hy => ?_⟩
      obtain ⟨rfl, rfl⟩ := hy
      refine ⟨⟨[some _], rfl, rfl⟩, _, rfl, _, _, _, rfl, q _ _ hk, R.l_nought, _, rfl, ⟨_, _, rfl, q _ _ hk⟩, fun v H3 s3 f3 => ?_⟩
      exact ⟨q.trans s3, (e.mono fun _ _ _ z => KindR.Wt.same s3.t z).snoc ⟨f3, R.S.sz_mono _ _ _ (Nat.zero_le _) R.S.sz_zero⟩⟩
    · rintro ys H2 ⟨q, e⟩
      show (n : Int).toNat ≤ n
      omega
    · rintro ys H2 l ⟨q, e⟩ nl
      have s1' := same_upd (o := .lst ys) nl
      refine ⟨l, ys, rfl, .inl ⟨SqL.of upd_same, fun l2 n2 => ?_⟩⟩
      have s2 := same_upd (o := .tup ys) n2
      exact k _ _ (q.trans (s1'.trans s2)) ⟨l2, ys, rfl, upd_same, e.mono fun _ _ _ z => KindR.Wt.same (s1'.trans s2).t z⟩
/-! a row with one at one place -/
def unitW (S : SR) (p : Nat) : Nat → S.W := fun i => if i = p then S.one else S.zero
theorem unitW_sz {S : SR} {p i m : Nat} : S.sz m (unitW S p i) := by
  unfold unitW
  split
  · exact S.sz_mono _ _ _ (Nat.zero_le _) S.sz_one
  · exact S.sz_mono _ _ _ (Nat.zero_le _) S.sz_zero
def sp_unit (w : World) (K : PySem.W.Frag) (mg : Str → Option Value) (base : Heap) : Sp := fun vs H Q _ => ∃ (R : KindR Pr w K mg base), ∃ kv, ∃ (z zp : Int), ∃ (n p m : Nat), vs = [kv, .int z, .int zp] ∧ (KAt R.C R.fs H kv ∧ n ≤ 1000 ∧ z = n ∧ zp = p) ∧
  ∀ v H', Same H H' → R.Row n (unitW R.S p) m v H' → Q v H'
theorem ok_unit (T : Txt K mg t) : FnOk Pr w K mg base CX0 41 t.unit t.d_unit ["kind", "size", "place"] (sp_unit w K mg base) := by
  refine T.F_unit.ok sc_unit (fun vs H Q E h => ?_) (fun cdv A outer s H vs Q E hr h => ?_)
  · obtain ⟨R, kv, z, zp, n, p, m, rfl, _⟩ := h
    rfl
  · obtain ⟨R, kv, z, zp, n, p, m, rfl, ⟨⟨kp, dx, rfl, hk⟩, hn, rfl, rfl⟩, k⟩ := h
    refine ⟨_, (pss_one (ps_ret (pe_callTy call_tuple_of (by rfl) T.z_tuple boot_tuple (pa_cons (pe_comp (xs := ["other"]) rfl (show CompOk ["kind", "size", "place"] (defScope s_unit) _ from ⟨rfl, by decide +kernel, by decide +kernel, by decide +kernel, by decide +kernel, by decide +kernel⟩) (pi_range1 rfl T.z_range (pa_cons (pv 1) pa_nil)) (fun _ _ _ _ _ => (pg_name (i := 3) (by show List.Nodup (["kind", "size", "place", "other"] : List Str); decide +kernel) rfl (Or.inl rfl))) (fun _ _ _ _ _ => (pe_ifExp (pt_cmpR op_eq (pv 3) (pv 2) (nomark _)) (pe_meth0 (pv 0) R.cl R.t_one R.G_one (hr.mono (by decide)) R.b_one .nil pass0) (pe_meth0 (pv 0) R.cl R.t_nought R.G_nought (hr.mono (by decide)) R.b_nought .nil pass0)))) pa_nil)))), ?_⟩
    refine ⟨_, rfl, _, rfl, (by omega), (by omega), comp_go (n := n) (fun j ys H2 => Same H H2 ∧ Ents (R.Wt (unitW R.S p) m) ys j H2) hn ⟨Same.refl _, Ents.nil⟩ (fun j ys H2 q => q.2.1) ?_ ?_ ?_⟩
    · rintro j ys H2 hj ⟨q, e⟩
      refine ⟨(show j < (n : Int).toNat by omega), fun y H' hy => ?_⟩
      obtain ⟨rfl, rfl⟩ := hy
      have lv : R.S.sz m (unitW R.S p j) := unitW_sz
      refine ⟨⟨[some _], rfl, rfl⟩, _, rfl, _, rfl, rfl, _, rfl, ?_⟩
      refine iteI (fun e0 => ?_) (fun e0 => ?_)
      · have e1 : unitW R.S p j = R.S.one := if_pos (by omega)
        refine ⟨_, rfl, _, _, _, rfl, q _ _ hk, R.l_one, _, rfl, ⟨_, _, rfl, q _ _ hk⟩, fun v H3 s3 f3 => ?_⟩
        exact ⟨q.trans s3, (e.mono fun _ _ _ z => KindR.Wt.same s3.t z).snoc ⟨by rw [e1]; exact f3, lv⟩⟩
      · have e1 : unitW R.S p j = R.S.zero := if_neg (by omega)
        refine ⟨_, rfl, _, _, _, rfl, q _ _ hk, R.l_nought, _, rfl, ⟨_, _, rfl, q _ _ hk⟩, fun v H3 s3 f3 => ?_⟩
        exact ⟨q.trans s3, (e.mono fun _ _ _ z => KindR.Wt.same s3.t z).snoc ⟨by rw [e1]; exact f3, lv⟩⟩
    · rintro ys H2 ⟨q, e⟩
      show (n : Int).toNat ≤ n
      omega
    · rintro ys H2 l ⟨q, e⟩ nl
      have s1' := same_upd (o := .lst ys) nl
      refine ⟨l, ys, rfl, .inl ⟨SqL.of upd_same, fun l2 n2 => ?_⟩⟩
      have s2 := same_upd (o := .tup ys) n2
      exact k _ _ (q.trans (s1'.trans s2)) ⟨l2, ys, rfl, upd_same, e.mono fun _ _ _ z => KindR.Wt.same (s1'.trans s2).t z⟩
--SPANS
/-! rows kept and cleared -/
def sp_need_field (w : World) (K : PySem.W.Frag) (mg : Str → Option Value) (base : Heap) : Sp := fun vs H Q _ => ∃ (R : KindR Pr w K mg base), ∃ kv, vs = [kv] ∧ KAt R.C R.fs H kv ∧ Q .non H
theorem ok_need_field (T : Txt K mg t) : FnOk Pr w K mg base CX0 41 t.need_field t.d_need_field ["kind"] (sp_need_field w K mg base) := by
  refine T.F_need_field.ok sc_need_field (fun vs H Q E h => ?_) (fun cdv A outer s H vs Q E hr h => ?_)
  · obtain ⟨R, kv, rfl, _⟩ := h
    rfl
  · obtain ⟨R, kv, rfl, ⟨kp, dx, rfl, hk⟩, k⟩ := h
    refine ⟨_, (pss_one (ps_if (pt_not (pt_val (pe_meth0 (pv 0) R.cl R.t_is_field R.G_is_field (hr.mono (by decide)) R.b_is_field .nil pass0))) (pss_one ps_never) pss_nil)), ?_⟩
    refine ⟨_, rfl, _, _, _, rfl, hk, R.l_is_field, _, rfl, _, rfl, ?_⟩
    (try refine iteF ?_)
    exact k
def leadV : Option Nat → V
  | none => .non
  | some p => .int (p : Nat)
theorem lead_at {S : SR} {x : Nat → S.W} {i w : Nat} (h : lead x i = none) (n : x i ≠ S.zero) (hi : i < w) : lead x w = some i := by
  cases e : lead x w with
  | none => exact absurd (lead_none e i hi) n
  | some p =>
    obtain ⟨a, b, c⟩ := lead_some e
    by_cases h1 : p < i
    · exact absurd (lead_none h p h1) b
    · by_cases h2 : i < p
      · exact absurd (c i h2) n
      · rw [show p = i by omega]
def sp_leading (w : World) (K : PySem.W.Frag) (mg : Str → Option Value) (base : Heap) : Sp := fun vs H Q _ => ∃ (R : KindR Pr w K mg base), ∃ kv rv, ∃ (n m l : Nat), ∃ x, vs = [kv, rv, .int (l : Nat)] ∧ (KAt R.C R.fs H kv ∧ R.Row n x m rv H ∧ l ≤ n ∧ n ≤ 1000) ∧ ∀ H', Same H H' → Q (leadV (lead x l)) H'
theorem ok_leading (T : Txt K mg t) : FnOk Pr w K mg base CX0 41 t.leading t.d_leading ["kind", "row", "width"] (sp_leading w K mg base) := by
  refine T.F_leading.ok sc_leading (fun vs H Q E h => ?_) (fun cdv A outer s H vs Q E hr h => ?_)
  · obtain ⟨R, kv, rv, n, m, l, x, rfl, _⟩ := h
    rfl
  · obtain ⟨R, kv, rv, n, m, l, x, rfl, ⟨⟨kp, dx, rfl, hk⟩, hr', hl, hn⟩, k⟩ := h
    refine ⟨_, (pss_cons (ps_for PassesOwn.never rfl (pi_range1 rfl T.z_range (pa_cons (pv 2) pa_nil)) (pg_name (i := 3) sc_leading.nd rfl (Or.inl rfl)) (pss_one (ps_if (pt_cmpR (op_neD hr.units) (pe_ix ix_tup (pv 1) (pv 3) (fun _ _ => rfl)) (pe_meth0 (pv 0) R.cl R.t_nought R.G_nought (hr.mono (by decide)) R.b_nought .nil pass0) (nomark _)) (pss_one (ps_ret (pv 3))) pss_nil))) (pss_one (ps_ret pe_non))), ?_⟩
    refine ⟨_, rfl, _, rfl, (by omega), (by omega), for_range (lo := 0) (n := (l : Int).toNat) (fun i σ H2 => ∃ v3, σ = [some (.ref kp), some rv, some (.int (l : Nat)), v3] ∧ Same H H2 ∧ lead x i = none) ⟨_, rfl, Same.refl _, rfl⟩ ?_ ?_⟩
    · rintro i σ H2 hi ⟨v3, rfl, q, z⟩
      have hi : i < l := by omega
      obtain ⟨p, us, u, rfl, hp, hu, iu, _⟩ := Row.at (KindR.Row.same q.t hr') (show i < n by omega)
      rw [show (i : Int) = 0 + (i : Int) by omega] at hu
      refine ⟨_, rfl, _, rfl, _, _, _, _, rfl, rfl, hp, hu, _, rfl, _, _, _, rfl, q _ _ hk, R.l_nought, _, rfl, ⟨_, _, rfl, q _ _ hk⟩, fun zv H3 s3 f3 => ?_⟩
      by_cases e : x i = R.S.zero
      · refine R.neD (R.same s3.t iu) f3 e ⟨_, rfl, ?_⟩
        (try refine iteF ?_)
        refine ⟨_, rfl, q.trans s3, ?_⟩
        exact lead_of_zero fun j hj => by
          by_cases ej : j = i
          · rw [ej]; exact e
          · exact lead_none z j (by omega)
      · refine R.neT (R.same s3.t iu) f3 e ⟨_, rfl, ?_⟩
        (try refine iteT ?_)
        have := k _ (q.trans s3)
        rw [lead_at z e hi] at this
        refine ⟨_, rfl, ?_⟩
        rw [show (0 : Int) + (i : Int) = ((i : Nat) : Int) by omega]
        exact this
    · rintro σ H2 ⟨v3, rfl, q, z⟩
      rw [show (l : Int).toNat = l by omega] at z
      have := k _ q
      rw [z] at this
      exact this
def sp_plus_row (w : World) (K : PySem.W.Frag) (mg : Str → Option Value) (base : Heap) : Sp := fun vs H Q _ => ∃ (R : KindR Pr w K mg base), ∃ kv ov hv, ∃ (n m m' : Nat), ∃ x y, vs = [kv, ov, hv] ∧ (KAt R.C R.fs H kv ∧ R.Row n x m ov H ∧ R.Row n y m' hv H ∧ n ≤ 1000 ∧ Sml R.S (m + m')) ∧
  ∀ v H', Same H H' → R.Row n (fun i => R.S.add (x i) (y i)) (m + m' + 1) v H' → Q v H'
theorem ok_plus_row (T : Txt K mg t) : FnOk Pr w K mg base CX0 41 t.plus_row t.d_plus_row ["kind", "one", "other"] (sp_plus_row w K mg base) := by
  refine T.F_plus_row.ok sc_plus_row (fun vs H Q E h => ?_) (fun cdv A outer s H vs Q E hr h => ?_)
  · obtain ⟨R, kv, ov, hv, n, m, m', x, y, rfl, _⟩ := h
    rfl
  · obtain ⟨R, kv, ov, hv, n, m, m', x, y, rfl, ⟨⟨kp, dx, rfl, hk⟩, ⟨fp, fs, rfl, hf, ef⟩, ⟨gp, gs, rfl, hg, eg⟩, hn, hz⟩, k⟩ := h
    refine ⟨_, (pss_one (ps_ret (pe_callTy call_tuple_of (by rfl) T.z_tuple boot_tuple (pa_cons (pe_comp (xs := ["x", "y"]) rfl (show CompOk ["kind", "one", "other"] (defScope s_plus_row) _ from ⟨rfl, by decide +kernel, by decide +kernel, by decide +kernel, by decide +kernel, by decide +kernel⟩) (pi_zip rfl T.z_zip (pa_cons (pv 1) (pa_cons (pv 2) pa_nil))) (fun _ _ _ _ _ => (show PG _ _ (gTup K 2 _) from (pg_tup rfl (pgs_cons (pg_name (i := 3) (by show List.Nodup (["kind", "one", "other", "x", "y"] : List Str); decide +kernel) rfl (Or.inl rfl)) (pgs_cons (pg_name (i := 4) (by show List.Nodup (["kind", "one", "other", "x", "y"] : List Str); decide +kernel) rfl (Or.inl rfl)) pgs_nil))))) (fun _ _ _ _ _ => (pe_meth (pv 0) R.cl R.t_plus R.G_plus (hr.mono (by decide)) R.b_plus .nil pass0 (pa_cons (pv 3) (pa_cons (pv 4) pa_nil))))) pa_nil)))), ?_⟩
    refine ⟨_, rfl, _, rfl, .tup fp, .tup gp, _, _, fs, gs, rfl, rfl, rfl, SqT.of hf, SqT.of hg, comp_go (n := n) (fun j ys H2 => Same H H2 ∧ Ents (R.Wt (fun i => R.S.add (x i) (y i)) (m + m' + 1)) ys j H2) (by omega) ⟨Same.refl _, Ents.nil⟩ (fun j ys H2 q => q.2.1) ?_ ?_ ?_⟩
    · rintro j ys H2 hj ⟨q, e⟩
      obtain ⟨u, eu, pu⟩ := ef.2 j hj
      obtain ⟨v, ev, pv⟩ := eg.2 j hj
      refine ⟨⟨fs, gs, u, v, SqT.of (q _ _ hf), SqT.of (q _ _ hg), eu, ev⟩, fun y' H' hy => ?_⟩
      obtain ⟨pp, x', y', rfl, np, rfl, f1, f2⟩ := hy
      have e1 := f1 _ (SqT.of (q _ _ hf))
      rw [eu] at e1
      cases e1
      have e2 := f2 _ (SqT.of (q _ _ hg))
      rw [ev] at e2
      cases e2
      have s3 := same_upd (o := .tup [u, v]) np
      have q3 := q.trans s3
      refine ⟨pp, _, rfl, SqT.of upd_same, rfl, _, _, rfl, _, _, rfl, rfl, ⟨[some _, some _], rfl, rfl⟩, _, rfl, _, _, _, rfl, q3 _ _ hk, R.l_plus, _, rfl, _, rfl, _, _, _, _, _, m, m', rfl, ⟨⟨_, _, rfl, q3 _ _ hk⟩, R.same q3.t pu.1, R.same q3.t pv.1, pu.2, pv.2, hz⟩, fun v4 H4 s4 f4 => ?_⟩
      exact ⟨q3.trans s4, (e.mono fun _ _ _ z => KindR.Wt.same (s3.trans s4).t z).snoc ⟨f4, R.S.sz_add _ _ _ _ pu.2 pv.2⟩⟩
    · rintro ys H2 ⟨q, e⟩
      exact ⟨fs, gs, SqT.of (q _ _ hf), SqT.of (q _ _ hg), .inl ef.1.symm⟩
    · rintro ys H2 l ⟨q, e⟩ nl
      have s1' := same_upd (o := .lst ys) nl
      refine ⟨l, ys, rfl, .inl ⟨SqL.of upd_same, fun l2 n2 => ?_⟩⟩
      have s2 := same_upd (o := .tup ys) n2
      exact k _ _ (q.trans (s1'.trans s2)) ⟨l2, ys, rfl, upd_same, e.mono fun _ _ _ z => KindR.Wt.same (s1'.trans s2).t z⟩
/-- sizes -/
def zk (z i : Nat) : Nat := z * 4 ^ i - 1
theorem zp (z i : Nat) : z * 4 ^ (i + 1) = 4 * (z * 4 ^ i) := by rw [Nat.pow_succ, ← Nat.mul_assoc, Nat.mul_comm]
theorem zp_pos {z : Nat} (h : 1 ≤ z) (i : Nat) : 1 ≤ z * 4 ^ i := Nat.mul_pos h (Nat.pow_pos (by decide))
theorem zp_le (z : Nat) {i j : Nat} (h : i ≤ j) : z * 4 ^ i ≤ z * 4 ^ j := Nat.mul_le_mul_left z (Nat.pow_le_pow_right (by decide) h)
/-- a kept row, with its place -/
def KEnt (R : KindR Pr w K mg base) (W z : Nat) (ks : List (Nat × (Nat → R.S.W))) : Nat → V → Hp → Prop := fun i u H => ∃ k q rv, ks[i]? = some k ∧ u = .ref q ∧ H q = some (.tup [.int (k.1 : Nat), rv]) ∧ R.Row W k.2 (2 * zk z i) rv H
theorem KEnt.same {R : KindR Pr w K mg base} {W z i : Nat} {ks : List (Nat × (Nat → R.S.W))} {u : V} {H H' : Hp} (s : SameT H H') (h : KEnt R W z ks i u H) : KEnt R W z ks i u H' := by
  obtain ⟨k, q, rv, e, rfl, hq, r⟩ := h
  exact ⟨k, q, rv, e, rfl, s _ _ hq, KindR.Row.same s r⟩
def KeptL (R : KindR Pr w K mg base) (W z : Nat) (ks : List (Nat × (Nat → R.S.W))) (a : Addr) (H : Hp) : Prop := ∃ us, H a = some (.lst us) ∧ Ents (KEnt R W z ks) us ks.length H
theorem KeptL.same {R : KindR Pr w K mg base} {W z : Nat} {ks : List (Nat × (Nat → R.S.W))} {a : Addr} {H H' : Hp} (s : Same H H') (h : KeptL R W z ks a H) : KeptL R W z ks a H' := by
  obtain ⟨us, ha, e⟩ := h
  exact ⟨us, s _ _ ha, e.mono fun _ _ _ q => q.same s.t⟩
theorem take_snoc {α : Type} {l : List α} {i : Nat} {x : α} (h : l[i]? = some x) : l.take (i + 1) = l.take i ++ [x] := by
  rw [List.take_add_one, h]; rfl
def sp_cleared (w : World) (K : PySem.W.Frag) (mg : Str → Option Value) (base : Heap) : Sp := fun vs H Q _ => ∃ (R : KindR Pr w K mg base), ∃ kv a rv, ∃ (W z : Nat), ∃ ks x, vs = [kv, .ref a, rv] ∧ (KAt R.C R.fs H kv ∧ KeptL R W z ks a H ∧ (∀ k ∈ ks, k.1 < W) ∧ R.Row W x (z - 1) rv H ∧ W ≤ 1000 ∧ 1 ≤ z ∧ Sml R.S (z * 4 ^ ks.length)) ∧
  ∀ v H', Same H H' → R.Row W (clr R.F ks x) (zk z ks.length) v H' → Q v H'
theorem ok_cleared (T : Txt K mg t) : FnOk Pr w K mg base CX0 42 t.cleared t.d_cleared ["kind", "kept", "row"] (sp_cleared w K mg base) := by
  refine T.F_cleared.ok sc_cleared (fun vs H Q E h => ?_) (fun cdv A outer s H vs Q E hr h => ?_)
  · obtain ⟨R, kv, a, rv, W, z, ks, x, rfl, _⟩ := h
    rfl
  · obtain ⟨R, kv, a, rv, W, z, ks, x, rfl, ⟨⟨kp, dx, rfl, hk⟩, ⟨us, ha, eK⟩, hlt, hR, hW, z1, hS⟩, k⟩ := h
    refine ⟨_, (pss_cons (ps_set (i := 3) sc_cleared.nd rfl (Or.inl rfl) (pv 2)) (pss_cons (ps_for PassesOwn.never rfl (pi_list (pv 1)) (pg_tup rfl (pgs_cons (pg_name (i := 4) sc_cleared.nd rfl (Or.inl rfl)) (pgs_cons (pg_name (i := 5) sc_cleared.nd rfl (Or.inl rfl)) pgs_nil))) (pss_one (ps_if (pt_cmpR (op_neD hr.units) (pe_ix ix_tup (pv 3) (pv 4) (fun _ _ => rfl)) (pe_meth0 (pv 0) R.cl R.t_nought R.G_nought (hr.mono (by decide)) R.b_nought .nil pass0) (nomark _)) (pss_one (ps_set (i := 3) sc_cleared.nd rfl (Or.inl rfl) (pe_call (ok_plus_row T) (hr.mono (by decide)) rfl T.m_plus_row T.F_plus_row.kp T.b_plus_row .nil pass0 (pa_cons (pv 0) (pa_cons (pv 3) (pa_cons (pe_call (ok_times_row T) (hr.mono (by decide)) rfl T.m_times_row T.F_times_row.kp T.b_times_row .nil pass0 (pa_cons (pv 0) (pa_cons (pe_meth (pv 0) R.cl R.t_minus R.G_minus (hr.mono (by decide)) R.b_minus .nil pass0 (pa_cons (pe_ix ix_tup (pv 3) (pv 4) (fun _ _ => rfl)) pa_nil)) (pa_cons (pv 5) pa_nil)))) pa_nil)))))) pss_nil))) (pss_one (ps_ret (pv 3))))), ?_⟩
    refine ⟨_, rfl, ?_⟩
    show gName 3 rv [some (.ref kp), some (.ref a), some rv, none, none, none] H _
    refine ⟨_, rfl, a, rfl, ⟨_, SqL.of ha⟩, for_list (K := K) (a := a) (xs := us) (fun i σ H2 => ∃ v3 v4 v5, σ = [some (.ref kp), some (.ref a), some rv, some v3, v4, v5] ∧ Same H H2 ∧ R.Row W (clr R.F (ks.take i) x) (zk z i) v3 H2) ⟨_, _, _, rfl, Same.refl _, by rw [show zk z 0 = z - 1 by unfold zk; rw [Nat.pow_zero, Nat.mul_one]]; exact hR⟩ (fun i σ H2 _ ⟨_, _, _, _, q, _⟩ => SqL.of (q _ _ ha)) ?_ ?_⟩
    · rintro i y σ H2 hi ⟨v3, v4, v5, rfl, q, hr3⟩
      obtain ⟨il, kq, qa, ov, ek, rfl, hq, ro⟩ := eK.at hi
      have hkp : kq.1 < W := hlt kq (List.mem_of_getElem? ek)
      have e1 := zp z i
      have e2 := zp_pos z1 i
      have e3 := zp_le z (show i + 1 ≤ ks.length by omega)
      have ts : ks.take (i + 1) = ks.take i ++ [kq] := take_snoc ek
      refine ⟨qa, _, rfl, SqT.of (q _ _ hq), rfl, _, _, rfl, _, _, rfl, rfl, ?_⟩
      obtain ⟨p, us', u, rfl, hp, hu, iu, zu⟩ := Row.at hr3 hkp
      refine ⟨_, rfl, _, rfl, _, _, _, _, rfl, rfl, hp, hu, _, rfl, _, _, _, rfl, q _ _ hk, R.l_nought, _, rfl, ⟨_, _, rfl, q _ _ hk⟩, fun zv H3 s3 f3 => ?_⟩
      have q3 := q.trans s3
      by_cases e : clr R.F (ks.take i) x kq.1 = R.S.zero
      · refine R.neD (R.same s3.t iu) f3 e ⟨_, rfl, ?_⟩
        (try refine iteF ?_)
        refine ⟨_, _, _, rfl, q3, ?_⟩
        rw [ts, clr_snoc, stp_zero e]
        exact Row.up (by unfold zk; omega) (KindR.Row.same s3.t hr3)
      · refine R.neT (R.same s3.t iu) f3 e ⟨_, rfl, ?_⟩
        (try refine iteT ?_)
        obtain ⟨p', us2, u2, e', hp2, hu2, iu2, zu2⟩ := Row.at (KindR.Row.same s3.t hr3) hkp
        cases e'
        refine ⟨_, rfl, _, rfl, _, rfl, _, rfl, _, _, _, rfl, q3 _ _ hk, R.l_minus, _, rfl, _, rfl, _, _, _, _, rfl, rfl, hp2, hu2, _, _, _, rfl, ⟨⟨_, _, rfl, q3 _ _ hk⟩, iu2⟩, fun mv H4 s4 f4 => ?_⟩
        have q4 := q3.trans s4
        refine ⟨_, rfl, R, _, _, _, W, _, kq.2, zk z i, 2 * zk z i, rfl, ⟨⟨_, _, rfl, q4 _ _ hk⟩, f4, R.F.sz_neg _ _ zu2, KindR.Row.same q4.t ro, hW, hS.le (by unfold zk; omega)⟩, fun tv H5 s5 r5 => ?_⟩
        have q5 := q4.trans s5
        refine ⟨R, _, _, _, W, zk z i, zk z i + 2 * zk z i, _, _, rfl, ⟨⟨_, _, rfl, q5 _ _ hk⟩, KindR.Row.same (s3.trans (s4.trans s5)).t hr3, r5, hW, hS.le (by unfold zk; omega)⟩, fun pv H6 s6 r6 => ?_⟩
        refine ⟨_, _, _, rfl, q5.trans s6, ?_⟩
        rw [ts, clr_snoc]
        exact Row.up (by unfold zk; omega) r6
    · rintro σ H2 ⟨v3, v4, v5, rfl, q, r⟩
      have e1 := eK.1
      refine ⟨_, rfl, ?_⟩
      rw [e1, List.take_length] at r
      exact k _ _ q r
theorem kpF_len {S : SR} {F : Fld S} {w : Nat} {ks : List (Nat × (Nat → S.W))} {r : Nat → S.W} : (kpF F w ks r).length = ks.length ∨ (kpF F w ks r).length = ks.length + 1 :=
  kpF_cases (fun l => l.length = ks.length ∨ l.length = ks.length + 1) (fun _ => .inl rfl) (fun _ => .inl rfl) fun _ _ _ => .inr (by rw [List.length_append]; rfl)
theorem kpF_full {S : SR} {F : Fld S} {w : Nat} {ks : List (Nat × (Nat → S.W))} {r : Nat → S.W} (h : ks.length = w) : kpF F w ks r = ks := by
  unfold kpF
  rw [if_pos h]
theorem kpF_none {S : SR} {F : Fld S} {w : Nat} {ks : List (Nat × (Nat → S.W))} {r : Nat → S.W} (h : lead (clr F ks r) w = none) : kpF F w ks r = ks := by
  unfold kpF
  split
  · rfl
  · rw [h]
theorem kpF_some {S : SR} {F : Fld S} {w p : Nat} {ks : List (Nat × (Nat → S.W))} {r : Nat → S.W} (n : ks.length ≠ w) (h : lead (clr F ks r) w = some p) : kpF F w ks r = ks ++ [(p, fun j => S.mul (F.inv (clr F ks r p)) (clr F ks r j))] := by
  unfold kpF
  rw [if_neg n, h]
theorem KEnt.app {R : KindR Pr w K mg base} {W z i : Nat} {ks : List (Nat × (Nat → R.S.W))} {k : Nat × (Nat → R.S.W)} {u : V} {H : Hp} (hi : i < ks.length) (h : KEnt R W z ks i u H) : KEnt R W z (ks ++ [k]) i u H := by
  obtain ⟨k', q, rv, e, r⟩ := h
  exact ⟨k', q, rv, by rw [List.getElem?_append_left hi]; exact e, r⟩
def sp_keep (w : World) (K : PySem.W.Frag) (mg : Str → Option Value) (base : Heap) : Sp := fun vs H Q _ => ∃ (R : KindR Pr w K mg base), ∃ kv a rv, ∃ (W l z : Nat), ∃ ks x, vs = [kv, .ref a, rv, .int (l : Nat)] ∧ (KAt R.C R.fs H kv ∧ KeptL R W z ks a H ∧ Kp R.S l ks ∧ R.Row W x (z - 1) rv H ∧ l ≤ W ∧ W ≤ 1000 ∧ 1 ≤ z ∧ Sml R.S (z * 4 ^ l)) ∧
  ∀ H', SameX a H H' → KeptL R W z (kpF R.F l ks x) a H' → Q (.bl (decide ((kpF R.F l ks x).length ≠ ks.length))) H'
theorem ok_keep (T : Txt K mg t) : FnOk Pr w K mg base CX0 43 t.keep t.d_keep ["kind", "kept", "row", "width"] (sp_keep w K mg base) := by
  refine T.F_keep.ok sc_keep (fun vs H Q E h => ?_) (fun cdv A outer s H vs Q E hr h => ?_)
  · obtain ⟨R, kv, a, rv, W, l, z, ks, x, rfl, _⟩ := h
    rfl
  · obtain ⟨R, kv, a, rv, W, l, z, ks, x, rfl, ⟨⟨kp, dx, rfl, hk⟩, hK, KP, hR, hl, hW, z1, hS⟩, k⟩ := h
    have hK0 := hK
    obtain ⟨us, ha, eK⟩ := hK
    have e0 := eK.1
    have kl := KP.len
    have sl : 1000 < sizeLine := by decide
    have kf : ∀ H', Same H H' → kpF R.F l ks x = ks → Q (.bl false) H' := fun H' s' e => by
      have := k H' (.of s') (by rw [e]; exact hK0.same s')
      rw [e, decide_eq_false (fun z => z rfl)] at this
      exact this
    refine ⟨_, (pss_cons (ps_if (pt_cmpR op_eq (pe_callB call_len (by rfl) T.z_len PySem.boot_len (pa_cons (pv 1) pa_nil)) (pv 3) (nomark _)) (pss_one (ps_ret pe_bl)) pss_nil) (pss_cons (ps_set (i := 4) sc_keep.nd rfl (Or.inl rfl) (pe_call (ok_cleared T) (hr.mono (by decide)) rfl T.m_cleared T.F_cleared.kp T.b_cleared .nil pass0 (pa_cons (pv 0) (pa_cons (pv 1) (pa_cons (pv 2) pa_nil))))) (pss_cons (ps_set (i := 5) sc_keep.nd rfl (Or.inl rfl) (pe_call (ok_leading T) (hr.mono (by decide)) rfl T.m_leading T.F_leading.kp T.b_leading .nil pass0 (pa_cons (pv 0) (pa_cons (pv 4) (pa_cons (pv 3) pa_nil))))) (pss_cons (ps_if (pt_cmpR op_isN (pv 5) pe_non (nomark _)) (pss_one (ps_ret pe_bl)) pss_nil) (pss_cons (ps_expr (pe_bm PySem.F.plainAttrs_list PySem.F.slot_list_append PySem.F.type_list_append mt_append (pv 1) (pa_cons (pe_tup (pa_cons (pv 5) (pa_cons (pe_call (ok_times_row T) (hr.mono (by decide)) rfl T.m_times_row T.F_times_row.kp T.b_times_row .nil pass0 (pa_cons (pv 0) (pa_cons (pe_meth (pv 0) R.cl R.t_inverse R.G_inverse (hr.mono (by decide)) R.b_inverse .nil pass0 (pa_cons (pe_ix ix_tup (pv 4) (pv 5) (fun _ _ => rfl)) pa_nil)) (pa_cons (pv 4) pa_nil)))) pa_nil))) pa_nil))) (pss_one (ps_ret pe_bl))))))), ?_⟩
    refine ⟨_, rfl, _, _, rfl, (show LenV K (.ref a) H ks.length from .inl ⟨_, SqL.of ha, e0.symm⟩), _, rfl, rfl, _, rfl, ?_⟩
    refine iteI (fun e => ?_) (fun ne => ?_)
    · exact kf _ (Same.refl _) (kpF_full (by omega))
    have nl : ks.length ≠ l := fun e => ne (by rw [e])
    refine ⟨_, rfl, _, rfl, _, rfl, R, _, a, rv, W, z, ks, x, rfl, ⟨⟨_, _, rfl, hk⟩, hK0, fun q hq => Nat.lt_of_lt_of_le (KP.lt q hq) hl, hR, hW, z1, hS.le (zp_le z kl)⟩, fun rest H1 s1 r1 => ?_⟩
    show gName 4 rest [some (.ref kp), some (.ref a), some rv, some (.int (l : Nat)), none, none] H1 _
    refine ⟨_, rfl, _, rfl, _, rfl, R, _, _, W, _, l, _, rfl, ⟨⟨_, _, rfl, s1 _ _ hk⟩, r1, hl, hW⟩, fun H2 s2 => ?_⟩
    show gName 5 (leadV (lead (clr R.F ks x) l)) [some (.ref kp), some (.ref a), some rv, some (.int (l : Nat)), some rest, none] H2 _
    have s12 := s1.trans s2
    cases e : lead (clr R.F ks x) l with
    | none =>
      refine ⟨_, rfl, rfl, _, rfl, ?_⟩
      refine iteT ?_
      exact kf _ s12 (kpF_none e)
    | some p =>
      obtain ⟨pl, pn, _⟩ := lead_some e
      show gName 5 (V.int (p : Nat)) [some (.ref kp), some (.ref a), some rv, some (.int (l : Nat)), some rest, none] H2 _
      have e1 := zp z ks.length
      have e2 := zp_pos z1 ks.length
      have e3 := zp_le z (show ks.length + 1 ≤ l by omega)
      have hS' : Sml R.S (2 * zk z ks.length) := hS.le (by unfold zk; omega)
      obtain ⟨q, us', u, rfl, hq, hu, iu, zu⟩ := Row.at (KindR.Row.same s2.t r1) (show p < W by omega)
      refine ⟨_, rfl, rfl, _, rfl, ?_⟩
      refine iteF ?_
      refine ⟨_, rfl, .inl ⟨rfl, _, SqL.of (s12 _ _ ha)⟩, _, rfl, _, rfl, _, rfl, _, _, _, rfl, s12 _ _ hk, R.l_inverse, _, rfl, _, rfl, _, _, _, _, rfl, rfl, hq, hu, _, _, _, rfl, ⟨⟨_, _, rfl, s12 _ _ hk⟩, iu, pn⟩, fun iv H3 s3 f3 => ?_⟩
      have s13 := s12.trans s3
      refine ⟨_, rfl, R, _, _, _, W, _, _, zk z ks.length, zk z ks.length, rfl, ⟨⟨_, _, rfl, s13 _ _ hk⟩, f3, R.F.sz_inv _ _ pn zu, KindR.Row.same (s2.trans s3).t r1, hW, hS'.le (by omega)⟩, fun tv H4 s4 r4 => ?_⟩
      have s14 := s13.trans s4
      refine ⟨(by show 2 ≤ sizeLine; decide), fun p5 n5 => ?_⟩
      have t5 := same_upd (o := .tup [V.int (p : Nat), tv]) n5
      have k5 : upd H4 p5 (.tup [V.int (p : Nat), tv]) p5 = some (.tup [V.int (p : Nat), tv]) := upd_same
      revert t5 k5
      generalize upd H4 p5 (.tup [V.int (p : Nat), tv]) = H5
      intro t5 k5
      have s15 := s14.trans t5
      have ha5 := s15 _ _ ha
      refine ⟨a, us, V.ref p5, rfl, rfl, ha5, (by omega), ?_⟩
      have st := sameT_lst (o := .lst (us ++ [V.ref p5])) ha5
      have ek := kpF_some (F := R.F) nl e
      have := k (upd H5 a (.lst (us ++ [V.ref p5]))) ((SameX.of s15).trans SameX.upd) (by
        rw [ek]
        refine ⟨_, upd_same, ?_⟩
        rw [List.length_append]
        refine Ents.snoc (eK.mono fun i w' hi q => (KEnt.app hi (q.same s15.t)).same st) ⟨(p, fun j => R.S.mul (R.F.inv (clr R.F ks x p)) (clr R.F ks x j)), p5, tv, ?_, rfl, st _ _ k5, ?_⟩
        · rw [List.getElem?_append_right (Nat.le_refl _), Nat.sub_self]; rfl
        · exact KindR.Row.same st (KindR.Row.same t5.t (Row.up (by omega) r4)))
      rw [ek, List.length_append, decide_eq_true (show ks.length + [_].length ≠ ks.length by show ks.length + 1 ≠ _; omega)] at this
      exact this
/-- a list of rows -/
def RowsL (R : KindR Pr w K mg base) (W m n : Nat) (rs : Nat → Nat → R.S.W) (v : V) (H : Hp) : Prop := ∃ a us, v = .ref a ∧ H a = some (.lst us) ∧ Ents (fun i u H => R.Row W (rs i) m u H) us n H
theorem RowsL.same {R : KindR Pr w K mg base} {W m n : Nat} {rs : Nat → Nat → R.S.W} {v : V} {H H' : Hp} (s : Same H H') (h : RowsL R W m n rs v H) : RowsL R W m n rs v H' := by
  obtain ⟨a, us, rfl, ha, e⟩ := h
  exact ⟨a, us, rfl, s _ _ ha, e.mono fun _ _ _ q => KindR.Row.same s.t q⟩
theorem RowsL.len {R : KindR Pr w K mg base} {W m n : Nat} {rs : Nat → Nat → R.S.W} {v : V} {H : Hp} (h : RowsL R W m n rs v H) : LenV K v H n := by
  obtain ⟨a, us, rfl, ha, e⟩ := h
  exact .inl ⟨_, SqL.of ha, e.1.symm⟩
theorem RowsL.seq {R : KindR Pr w K mg base} {W m n : Nat} {rs : Nat → Nat → R.S.W} {v : V} {H : Hp} (h : RowsL R W m n rs v H) : SeqOf K (fun i u H => R.Row W (rs i) m u H) n v H := by
  obtain ⟨b, us, rfl, hb, e⟩ := h
  exact SeqOf.list hb e
def rws {α : Type} (rs : Nat → α) (n : Nat) : List α := (List.range n).map rs
theorem rws_succ {α : Type} (rs : Nat → α) (n : Nat) : rws rs (n + 1) = rws rs n ++ [rs n] := by
  unfold rws
  rw [List.range_succ, List.map_append]; rfl
theorem rws_mem {α : Type} {rs : Nat → α} {n : Nat} {r : α} (h : r ∈ rws rs n) : ∃ i, i < n ∧ r = rs i := by
  obtain ⟨i, hi, rfl⟩ := List.mem_map.mp h
  exact ⟨i, List.mem_range.mp hi, rfl⟩
theorem rws_of {α : Type} {rs : Nat → α} {n i : Nat} (h : i < n) : rs i ∈ rws rs n := List.mem_map.mpr ⟨i, List.mem_range.mpr h, rfl⟩
theorem rws_len {α : Type} {rs : Nat → α} {n : Nat} : (rws rs n).length = n := by unfold rws; rw [List.length_map, List.length_range]
def sp_kept_rows (w : World) (K : PySem.W.Frag) (mg : Str → Option Value) (base : Heap) : Sp := fun vs H Q _ => ∃ (R : KindR Pr w K mg base), ∃ kv rv, ∃ (W l z n : Nat), ∃ rs, vs = [kv, rv, .int (l : Nat)] ∧ (KAt R.C R.fs H kv ∧ RowsL R W (z - 1) n rs rv H ∧ l ≤ W ∧ W ≤ 1000 ∧ 1 ≤ z ∧ Sml R.S (z * 4 ^ l)) ∧
  ∀ a H', Same H H' → KeptL R W z (kpL R.F l (rws rs n)) a H' → Q (.ref a) H'
theorem ok_kept_rows (T : Txt K mg t) : FnOk Pr w K mg base CX0 44 t.kept_rows t.d_kept_rows ["kind", "rows", "width"] (sp_kept_rows w K mg base) := by
  refine T.F_kept_rows.ok sc_kept_rows (fun vs H Q E h => ?_) (fun cdv A outer s H vs Q E hr h => ?_)
  · obtain ⟨R, kv, rv, W, l, z, n, rs, rfl, _⟩ := h
    rfl
  · obtain ⟨R, kv, rv, W, l, z, n, rs, rfl, ⟨hk, ⟨b, us, rfl, hb, eR⟩, hl, hW, z1, hS⟩, k⟩ := h
    refine ⟨_, (pss_cons (ps_set (i := 3) sc_kept_rows.nd rfl (Or.inl rfl) (pe_lst pa_nil)) (pss_cons (ps_for PassesOwn.never rfl (pi_list (pv 1)) (pg_name (i := 4) sc_kept_rows.nd rfl (Or.inl rfl)) (pss_one (ps_expr (pe_call (ok_keep T) (hr.mono (by decide)) rfl T.m_keep T.F_keep.kp T.b_keep .nil pass0 (pa_cons (pv 0) (pa_cons (pv 3) (pa_cons (pv 4) (pa_cons (pv 2) pa_nil)))))))) (pss_one (ps_ret (pv 3))))), ?_⟩
    refine ⟨(by show 0 ≤ sizeLine; decide), fun a na => ?_⟩
    have s1 := same_upd (o := .lst []) na
    have k1 : upd H a (.lst []) a = some (.lst []) := upd_same
    show gName 3 (.ref a) [some kv, some (.ref b), some (.int (l : Nat)), none, none] _ _
    refine ⟨_, rfl, b, rfl, ⟨_, SqL.of (s1 _ _ hb)⟩, for_list (K := K) (a := b) (xs := us) (fun i σ H2 => ∃ v4, σ = [some kv, some (.ref b), some (.int (l : Nat)), some (.ref a), v4] ∧ Same H H2 ∧ KeptL R W z (kpL R.F l (rws rs i)) a H2) ⟨_, rfl, s1, ⟨_, k1, Ents.nil⟩⟩ (fun i σ H2 _ ⟨_, _, q, _⟩ => SqL.of (q _ _ hb)) ?_ ?_⟩
    · rintro i y σ H2 hi ⟨v4, rfl, q, hK⟩
      obtain ⟨hi', ry⟩ := eR.at hi
      refine ⟨_, rfl, _, rfl, _, rfl, _, rfl, R, kv, a, y, W, l, z, _, _, rfl, ⟨hk.same q, hK, kpL_Kp _, KindR.Row.same q.t ry, hl, hW, z1, hS⟩, fun H3 s3 K3 => ?_⟩
      refine ⟨_, rfl, fun c o hc => ?_, ?_⟩
      · exact s3 c o (ne_of_none hc na) (q _ _ hc)
      · rw [rws_succ, kpL_snoc]; exact K3
    · rintro σ H2 ⟨v4, rfl, q, hK⟩
      rw [eR.1] at hK
      exact ⟨_, rfl, k _ _ q hK⟩
abbrev RowsW (R : KindR Pr w K mg base) (W m n : Nat) (rs : Nat → Nat → R.S.W) (v : V) (H : Hp) : Prop := R.Tab n W rs m v H
theorem RowsW.sm {R : KindR Pr w K mg base} {W m n : Nat} {rs : Nat → Nat → R.S.W} {v : V} {H H' : Hp} (s : Same H H') (h : RowsW R W m n rs v H) : RowsW R W m n rs v H' := KindR.Tab.same s.t h
theorem RowsW.sq {R : KindR Pr w K mg base} {W m n : Nat} {rs : Nat → Nat → R.S.W} {v : V} {H : Hp} (h : RowsW R W m n rs v H) : SeqOf K (fun i u H => R.Row W (rs i) m u H) n v H := TupOf.seq h
def sp_width_of (w : World) (K : PySem.W.Frag) (mg : Str → Option Value) (base : Heap) : Sp := fun vs H Q _ => ∃ (R : KindR Pr w K mg base), ∃ rv, ∃ (W m n : Nat), ∃ rs, vs = [rv] ∧ RowsW R W m n rs rv H ∧ Q (.int ((if n = 0 then 0 else W) : Nat)) H
theorem ok_width_of (T : Txt K mg t) : FnOk Pr w K mg base CX0 1 t.width_of t.d_width_of ["rows"] (sp_width_of w K mg base) := by
  refine T.F_width_of.ok sc_width_of (fun vs H Q E h => ?_) (fun cdv A outer s H vs Q E hr h => ?_)
  · obtain ⟨R, rv, W, m, n, rs, rfl, _⟩ := h
    rfl
  · obtain ⟨R, rv, W, m, n, rs, rfl, hR, k⟩ := h
    have hlen : LenV K rv H n := hR.len
    obtain ⟨b, us, rfl, hb, eR⟩ := hR
    refine ⟨_, (pss_one (ps_ret (pe_ifExp (pt_cmpR op_gt (pe_callB call_len (by rfl) T.z_len PySem.boot_len (pa_cons (pv 0) pa_nil)) pe_int (nomark _)) (pe_callB call_len (by rfl) T.z_len PySem.boot_len (pa_cons (pe_ix ix_tup (pv 0) pe_int (fun _ _ => rfl)) pa_nil)) pe_int))), ?_⟩
    refine ⟨_, rfl, _, _, rfl, hlen, _, _, rfl, rfl, _, rfl, ?_⟩
    refine iteP (fun h0 => ?_) (fun h0 => ?_)
    · obtain ⟨u, eu, ru⟩ := eR.2 0 (by omega)
      rw [if_neg (by omega)] at k
      refine ⟨_, rfl, _, _, _, _, rfl, rfl, SqT.of hb, atI_nat (j := 0) eu, _, _, rfl, ru.len, k⟩
    · rw [if_pos (by omega)] at k
      exact k
/-! rows behind which stands how they come of the others -/
def cat (S : SR) (n : Nat) (x y : Nat → S.W) : Nat → S.W := fun i => if i < n then x i else y (i - n)
theorem cat_lt {S : SR} {n i : Nat} {x y : Nat → S.W} (h : i < n) : cat S n x y i = x i := if_pos h
theorem cat_ge {S : SR} {n i : Nat} {x y : Nat → S.W} : cat S n x y (n + i) = y i := by
  unfold cat
  rw [if_neg (by omega), Nat.add_sub_cancel_left]
theorem ents_cat {R : KindR Pr w K mg base} {n l m : Nat} {x y : Nat → R.S.W} {xs ys : List V} {H : Hp} (a : Ents (R.Wt x m) xs n H) (b : Ents (R.Wt y m) ys l H) : Ents (R.Wt (cat R.S n x y) m) (xs ++ ys) (n + l) H :=
  Ents.app (a.mono fun j _ hj q => by show R.is _ _ (cat R.S n x y j) ∧ R.S.sz m (cat R.S n x y j); rw [cat_lt hj]; exact q) (b.mono fun j _ _ q => by show R.is _ _ (cat R.S n x y (n + j)) ∧ R.S.sz m (cat R.S n x y (n + j)); rw [cat_ge]; exact q)
def mrk (S : SR) (W : Nat) (rs : Nat → Nat → S.W) : Nat → Nat → S.W := fun k => cat S W (rs k) (unitW S k)
theorem mrk_Rl {S : SR} {W n k : Nat} {rs : Nat → Nat → S.W} (h : k < n) : Rl S W n rs (fun _ => S.zero) (mrk S W rs k) := fun j hj => by
  unfold mrk
  rw [cat_lt hj, f_za]
  have : (fun q => cat S W (rs k) (unitW S k) (W + q)) = fun q => if q = k then S.one else S.zero := by
    funext q
    rw [cat_ge]; rfl
  rw [this, lin_one h]
def Sq (R : KindR Pr w K mg base) (K : PySem.W.Frag) (W m n : Nat) (rs : Nat → Nat → R.S.W) (v : V) (H : Hp) : Prop := SeqOf K (fun i u H => R.Row W (rs i) m u H) n v H
def sp_marked (w : World) (K : PySem.W.Frag) (mg : Str → Option Value) (base : Heap) : Sp := fun vs H Q _ => ∃ (R : KindR Pr w K mg base), ∃ kv rv, ∃ (W m n : Nat), ∃ rs, vs = [kv, rv] ∧ (KAt R.C R.fs H kv ∧ Sq R K W m n rs rv H ∧ n ≤ 400 ∧ W ≤ 400) ∧
  ∀ v H', Same H H' → RowsL R (W + n) m n (mrk R.S W rs) v H' → Q v H'
theorem ok_marked (T : Txt K mg t) : FnOk Pr w K mg base CX0 42 t.marked t.d_marked ["kind", "rows"] (sp_marked w K mg base) := by
  refine T.F_marked.ok sc_marked (fun vs H Q E h => ?_) (fun cdv A outer s H vs Q E hr h => ?_)
  · obtain ⟨R, kv, rv, W, m, n, rs, rfl, _⟩ := h
    rfl
  · obtain ⟨R, kv, rv, W, m, n, rs, rfl, ⟨hk, hR, hn, hW⟩, k⟩ := h
    have sl : 1000 < sizeLine := by decide
    have hR0 := hR
    obtain ⟨S1, us, o1, v1, w1, eR⟩ := hR
    refine ⟨_, (pss_one (ps_ret (pe_comp (xs := ["place", "row"]) rfl (show CompOk ["kind", "rows"] (defScope s_marked) _ from ⟨rfl, by decide +kernel, by decide +kernel, by decide +kernel, by decide +kernel, by decide +kernel⟩) (pi_enum rfl T.z_enumerate (pa_cons (pv 1) pa_nil)) (fun _ _ _ _ _ => (show PG _ _ (gTup K 2 _) from (pg_tup rfl (pgs_cons (pg_name (i := 2) (by show List.Nodup (["kind", "rows", "place", "row"] : List Str); decide +kernel) rfl (Or.inl rfl)) (pgs_cons (pg_name (i := 3) (by show List.Nodup (["kind", "rows", "place", "row"] : List Str); decide +kernel) rfl (Or.inl rfl)) pgs_nil))))) (fun _ _ _ _ _ => (pe_op op_catA (pv 3) (pe_call (ok_unit (w := w) (base := base) T) (hr.mono (by decide)) rfl T.m_unit T.F_unit.kp T.b_unit .nil pass0 (pa_cons (pv 0) (pa_cons (pe_callB (show CallR _ (.builtin "len") (fun xs H Q => ∃ x n, xs = [x] ∧ LenV K x H n ∧ Q (V.int (n : Nat)) H) from call_len) (by rfl) T.z_len PySem.boot_len (pa_cons (pv 1) pa_nil)) (pa_cons (pv 2) pa_nil))))))))), ?_⟩
    refine ⟨_, rfl, S1, _, us, rfl, o1, v1, comp_go (n := n) (fun j ys H2 => Same H H2 ∧ Ents (fun i u H => R.Row (W + n) (mrk R.S W rs i) m u H) ys j H2) (by omega) ⟨Same.refl _, Ents.nil⟩ (fun j ys H2 q => q.2.1) ?_ ?_ ?_⟩
    · rintro j ys H2 hj ⟨q, e⟩
      obtain ⟨u, eu, pu⟩ := eR.2 j hj
      refine ⟨⟨us, u, (w1 _ q).1, eu⟩, fun y' H' hy => ?_⟩
      obtain ⟨pp, x', rfl, np, rfl, f1⟩ := hy
      have e1 := f1 _ (w1 _ q).1
      rw [eu] at e1
      cases e1
      have s3 := same_upd (o := .tup [V.int (j : Nat), u]) np
      have q3 := q.trans s3
      have k3 : upd H2 pp (.tup [V.int (j : Nat), u]) pp = some (.tup [V.int (j : Nat), u]) := upd_same
      revert s3 q3 k3
      generalize upd H2 pp (.tup [V.int (j : Nat), u]) = H3
      intro s3 q3 k3
      have hl3 : LenV K rv H3 n := by
        have := (w1 _ q3).2
        rw [eR.1] at this
        exact this
      refine ⟨pp, _, rfl, SqT.of k3, rfl, _, _, rfl, _, _, rfl, rfl, ⟨[some _, some _], rfl, rfl⟩, _, rfl, _, rfl, _, rfl, _, _, rfl, hl3, _, rfl, R, _, _, _, n, j, m, rfl, ⟨hk.same q3, by omega, rfl, rfl⟩, fun uv H4 s4 r4 => ?_⟩
      obtain ⟨a, as, rfl, ha, ea⟩ := KindR.Row.same (q3.trans s4).t pu
      obtain ⟨b, bs, rfl, hb, eb⟩ := r4
      refine ⟨_, _, as, bs, rfl, rfl, ha, hb, (by rw [ea.1, eb.1]; omega), fun p5 H5 s5 h5 => ?_⟩
      exact ⟨q3.trans (s4.trans s5), (e.mono fun _ _ _ z => KindR.Row.same (s3.trans (s4.trans s5)).t z).snoc ⟨p5, _, rfl, h5, (ents_cat ea eb).mono fun _ _ _ z => KindR.Wt.same s5.t z⟩⟩
    · rintro ys H2 ⟨q, e⟩
      exact ⟨us, (w1 _ q).1, eR.1.symm⟩
    · rintro ys H2 l ⟨q, e⟩ nl
      have s1' := same_upd (o := .lst ys) nl
      exact k _ _ (q.trans s1') ⟨l, ys, rfl, upd_same, e.mono fun _ _ _ z => KindR.Row.same s1'.t z⟩
def sp_kmarked (w : World) (K : PySem.W.Frag) (mg : Str → Option Value) (base : Heap) : Sp := fun vs H Q _ => ∃ (R : KindR Pr w K mg base), ∃ kv rv, ∃ (W z n : Nat), ∃ rs, vs = [kv, rv] ∧ (KAt R.C R.fs H kv ∧ RowsW R W (z - 1) n rs rv H ∧ n ≤ 400 ∧ W ≤ 400 ∧ 1 ≤ z ∧ Sml R.S (z * 4 ^ W)) ∧
  ∀ a H', Same H H' → KeptL R (W + n) z (kpL R.F (if n = 0 then 0 else W) (rws (mrk R.S W rs) n)) a H' → Q (.ref a) H'
theorem if0_le (n W : Nat) : (if n = 0 then 0 else W) ≤ W := by split <;> omega
theorem ok_kept_marked (T : Txt K mg t) : FnOk Pr w K mg base CX0 45 t.kept_marked t.d_kept_marked ["kind", "rows"] (sp_kmarked w K mg base) := by
  refine T.F_kept_marked.ok sc_kept_marked (fun vs H Q E h => ?_) (fun cdv A outer s H vs Q E hr h => ?_)
  · obtain ⟨R, kv, rv, W, z, n, rs, rfl, _⟩ := h
    rfl
  · obtain ⟨R, kv, rv, W, z, n, rs, rfl, ⟨hk, hR, hn, hW, z1, hS⟩, k⟩ := h
    refine ⟨_, (pss_one (ps_ret (pe_call (ok_kept_rows T) (hr.mono (by decide)) rfl T.m_kept_rows T.F_kept_rows.kp T.b_kept_rows .nil pass0 (pa_cons (pv 0) (pa_cons (pe_call (ok_marked T) (hr.mono (by decide)) rfl T.m_marked T.F_marked.kp T.b_marked .nil pass0 (pa_cons (pv 0) (pa_cons (pv 1) pa_nil))) (pa_cons (pe_call (ok_width_of T) (hr.mono (by decide)) rfl T.m_width_of T.F_width_of.kp T.b_width_of .nil pass0 (pa_cons (pv 1) pa_nil)) pa_nil)))))), ?_⟩
    refine ⟨_, rfl, _, rfl, _, rfl, R, kv, rv, W, z - 1, n, rs, rfl, ⟨hk, RowsW.sq hR, hn, hW⟩, fun mv H1 s1 r1 => ?_⟩
    refine ⟨_, rfl, R, rv, W, _, n, rs, rfl, RowsW.sm s1 hR, ?_⟩
    refine ⟨R, kv, mv, W + n, _, z, n, _, rfl, ⟨hk.same s1, r1, by have := if0_le n W; omega, by omega, z1, hS.le (zp_le z (if0_le n W))⟩, fun a H2 s2 r2 => ?_⟩
    exact k _ _ (s1.trans s2) r2
/-- the parts, or none -/
def PtK (R : KindR Pr w K mg base) (W m n : Nat) (rs : Nat → Nat → R.S.W) (y : Nat → R.S.W) (H : Hp) (Q : VK) : Prop := (¬ Spn R.S W n rs y → ∀ H', Same H H' → Q .non H') ∧ ∀ lp us H' c, Same H H' → H' lp = some (.lst us) → Ents (R.Wt c m) us n H' → (∀ j, j < W → y j = lin R.S c rs n j) → Q (.ref lp) H'
def sp_parts_by (w : World) (K : PySem.W.Frag) (mg : Str → Option Value) (base : Heap) : Sp := fun vs H Q _ => ∃ (R : KindR Pr w K mg base), ∃ kv a yv, ∃ (W z n : Nat), ∃ rs y, vs = [kv, .ref a, .int (n : Nat), yv] ∧ (KAt R.C R.fs H kv ∧ KeptL R (W + n) z (kpL R.F (if n = 0 then 0 else W) (rws (mrk R.S W rs) n)) a H ∧ R.Row W y (z - 1) yv H ∧ n ≤ 400 ∧ W ≤ 400 ∧ 1 ≤ z ∧ Sml R.S (z * 4 ^ W)) ∧ PtK R W (zk z W) n rs y H Q
theorem parts_not {S : SR} {F : Fld S} {W n : Nat} {rs : Nat → Nat → S.W} {y : Nat → S.W} (h : Spn S W n rs y) : ∀ j, j < W → clr F (kpL F (if n = 0 then 0 else W) (rws (mrk S W rs) n)) (cat S W y fun _ => S.zero) j = S.zero := by
  obtain ⟨c, hc⟩ := h
  by_cases e : n = 0
  · subst e
    intro j hj
    show cat S W y (fun _ => S.zero) j = S.zero
    rw [cat_lt hj, hc j hj]; rfl
  · rw [if_neg e]
    have KP := kpL_Kp (F := F) (w := W) (rws (mrk S W rs) n)
    intro j hj
    rw [clr_cong (v := lin S c (mrk S W rs) n) (fun k hk => KP.lt k hk) (fun i hi => ?_) j hj, clr_lin]
    · show sm S (fun k => S.mul (c k) (clr F _ (mrk S W rs k) j)) n = _
      rw [sm_congr (g := fun _ => S.zero) fun k hk => by rw [kpL_clr _ _ (rws_of hk) j hj, S.mul_zero], sm_zero]
    · rw [cat_lt hi, hc i hi]
      exact sm_congr fun k _ => by unfold mrk; rw [cat_lt hi]
theorem mrk_all {S : SR} {F : Fld S} {W n : Nat} {rs : Nat → Nat → S.W} : ∀ k ∈ kpL F (if n = 0 then 0 else W) (rws (mrk S W rs) n), Rl S W n rs (fun _ => S.zero) k.2 := by
  by_cases e : n = 0
  · subst e
    intro k hk
    cases hk
  · rw [if_neg e]
    refine kpL_Rl _ fun r hr => ?_
    obtain ⟨i, hi, rfl⟩ := rws_mem hr
    exact mrk_Rl hi
theorem ok_parts_by (T : Txt K mg t) : FnOk Pr w K mg base CX0 43 t.parts_by t.d_parts_by ["kind", "kept", "count", "row"] (sp_parts_by w K mg base) := by
  refine T.F_parts_by.ok sc_parts_by (fun vs H Q E h => ?_) (fun cdv A outer s H vs Q E hr h => ?_)
  · obtain ⟨R, kv, a, yv, W, z, n, rs, y, rfl, _⟩ := h
    rfl
  · obtain ⟨R, kv, a, yv, W, z, n, rs, y, rfl, ⟨hk, hK, hy, hn, hW, z1, hS⟩, k0, k1⟩ := h
    have sl : 1000 < sizeLine := by decide
    have KP := kpL_Kp (F := R.F) (w := if n = 0 then 0 else W) (rws (mrk R.S W rs) n)
    have kl := KP.len
    have i0 := if0_le n W
    refine ⟨_, (pss_cons (ps_set (i := 4) sc_parts_by.nd rfl (Or.inl rfl) (pe_callB call_len (by rfl) T.z_len PySem.boot_len (pa_cons (pv 3) pa_nil))) (pss_cons (ps_set (i := 5) sc_parts_by.nd rfl (Or.inl rfl) (pe_call (ok_cleared T) (hr.mono (by decide)) rfl T.m_cleared T.F_cleared.kp T.b_cleared .nil pass0 (pa_cons (pv 0) (pa_cons (pv 1) (pa_cons (pe_op op_catA (pv 3) (pe_call (ok_noughts T) (hr.mono (by decide)) rfl T.m_noughts T.F_noughts.kp T.b_noughts .nil pass0 (pa_cons (pv 0) (pa_cons (pv 2) pa_nil)))) pa_nil))))) (pss_cons (ps_if (pt_cmpR op_notN (pe_call (ok_leading T) (hr.mono (by decide)) rfl T.m_leading T.F_leading.kp T.b_leading .nil pass0 (pa_cons (pv 0) (pa_cons (pv 5) (pa_cons (pv 4) pa_nil)))) pe_non (nomark _)) (pss_one (ps_ret pe_non)) pss_nil) (pss_one (ps_ret (pe_comp (xs := ["x"]) rfl (show CompOk ["kind", "kept", "count", "row", "width", "rest"] (defScope s_parts_by) _ from ⟨rfl, by decide +kernel, by decide +kernel, by decide +kernel, by decide +kernel, by decide +kernel⟩) (pi_tup (pe_slice sl_tupA (pv 5) (po_some (pv 4)) po_none)) (fun _ _ _ _ _ => (pg_name (i := 6) (by show List.Nodup (["kind", "kept", "count", "row", "width", "rest", "x"] : List Str); decide +kernel) rfl (Or.inl rfl))) (fun _ _ _ _ _ => (pe_meth (pv 0) R.cl R.t_minus R.G_minus (hr.mono (by decide)) R.b_minus .nil pass0 (pa_cons (pv 6) pa_nil))))))))), ?_⟩
    refine ⟨_, rfl, _, _, rfl, hy.len, ?_⟩
    show gName 4 (.int (W : Nat)) [some kv, some (.ref a), some (.int (n : Nat)), some yv, none, none] H _
    refine ⟨_, rfl, _, rfl, _, rfl, _, rfl, _, rfl, R, kv, _, n, z - 1, rfl, ⟨hk, by omega, rfl⟩, fun nv H1 s1 r1 => ?_⟩
    obtain ⟨ap, as, rfl, ha, ea⟩ := KindR.Row.same s1.t hy
    obtain ⟨bp, bs, rfl, hb, eb⟩ := r1
    refine ⟨_, _, as, bs, rfl, rfl, ha, hb, (by rw [ea.1, eb.1]; omega), fun p2 H2 s2 h2 => ?_⟩
    have s12 := s1.trans s2
    have r2 : R.Row (W + n) (cat R.S W y fun _ => R.S.zero) (z - 1) (.ref p2) H2 := ⟨p2, _, rfl, h2, (ents_cat ea eb).mono fun _ _ _ z => KindR.Wt.same s2.t z⟩
    refine ⟨R, kv, a, _, W + n, z, _, _, rfl, ⟨hk.same s12, hK.same s12, fun q hq => by have := KP.lt q hq; omega, r2, by omega, z1, hS.le (zp_le z (by omega))⟩, fun rv H3 s3 r3 => ?_⟩
    have s13 := s12.trans s3
    show gName 5 rv [some kv, some (.ref a), some (.int (n : Nat)), some (.ref ap), some (.int (W : Nat)), none] H3 _
    refine ⟨_, rfl, _, rfl, _, rfl, R, kv, rv, W + n, _, W, _, rfl, ⟨hk.same s13, r3, by omega, by omega⟩, fun H4 s4 => ?_⟩
    have s14 := s13.trans s4
    cases e : lead (clr R.F (kpL R.F (if n = 0 then 0 else W) (rws (mrk R.S W rs) n)) (cat R.S W y fun _ => R.S.zero)) W with
    | some p =>
      refine ⟨rfl, _, rfl, ?_⟩
      (try refine iteT ?_)
      refine k0 (fun sp => ?_) _ s14
      obtain ⟨p1, p2, _⟩ := lead_some e
      exact p2 (parts_not sp p p1)
    | none =>
      refine ⟨rfl, _, rfl, ?_⟩
      (try refine iteF ?_)
      have r4 := KindR.Row.same s4.t r3
      obtain ⟨rp, rvs, rfl, hrp, er⟩ := r4
      refine ⟨_, rfl, _, rfl, _, rfl, rp, rvs, rfl, SqT.of hrp, hrp, fun p5 H5 s5 h5 => ?_⟩
      have ce : cutV rvs (some (W : Int)) none = rvs.drop W := cut_drop (by rw [er.1]; omega)
      rw [ce] at h5
      have e5 : Ents (R.Wt (fun q => clr R.F (kpL R.F (if n = 0 then 0 else W) (rws (mrk R.S W rs) n)) (cat R.S W y fun _ => R.S.zero) (W + q)) (zk z W)) (rvs.drop W) n H5 := by
        refine ⟨by rw [List.length_drop, er.1]; omega, fun j hj => ?_⟩
        obtain ⟨u, eu, pu⟩ := er.2 (W + j) (by omega)
        exact ⟨u, by rw [List.getElem?_drop]; exact eu, R.same s5.t pu.1, R.S.sz_mono _ _ _ (by have := zp_le z (show (kpL R.F (if n = 0 then 0 else W) (rws (mrk R.S W rs) n)).length ≤ W by omega); unfold zk; omega) pu.2⟩
      have s15 := s14.trans s5
      obtain ⟨kp, dx, rfl, hk0⟩ := id hk
      refine ⟨p5, rfl, ⟨_, SqT.of h5⟩, comp_go (n := n) (fun j ys H2 => Same H5 H2 ∧ Ents (R.Wt (fun q => R.F.neg (clr R.F (kpL R.F (if n = 0 then 0 else W) (rws (mrk R.S W rs) n)) (cat R.S W y fun _ => R.S.zero) (W + q))) (zk z W)) ys j H2) (by omega) ⟨Same.refl _, Ents.nil⟩ (fun j ys H2 q => q.2.1) ?_ ?_ ?_⟩
      · rintro j ys H6 hj ⟨q, e6⟩
        obtain ⟨u, eu, pu⟩ := e5.2 j hj
        refine ⟨⟨_, _, SqT.of (q _ _ h5), eu⟩, fun y' H' hy' => ?_⟩
        obtain ⟨rfl, hy'⟩ := hy'
        have := hy' _ (SqT.of (q _ _ h5))
        rw [eu] at this
        cases this
        have q6 := (s15.trans q) _ _ hk0
        refine ⟨⟨[some _], rfl, rfl⟩, _, rfl, _, _, _, rfl, q6, R.l_minus, _, rfl, _, _, _, rfl, ⟨⟨_, _, rfl, q6⟩, R.same q.t pu.1⟩, fun v H7 s7 f7 => ?_⟩
        exact ⟨q.trans s7, (e6.mono fun _ _ _ z => KindR.Wt.same s7.t z).snoc ⟨f7, R.F.sz_neg _ _ pu.2⟩⟩
      · rintro ys H6 ⟨q, e6⟩
        exact ⟨_, SqT.of (q _ _ h5), by rw [e5.1]; exact Nat.le_refl _⟩
      · rintro ys H6 l ⟨q, e6⟩ nl
        have s7 := same_upd (o := .lst ys) nl
        refine k1 l ys _ _ (s15.trans (q.trans s7)) upd_same (e6.mono fun _ _ _ z => KindR.Wt.same s7.t z) ?_
        refine Rl.parts R.F (Rl.clr (fun j hj => ?_) mrk_all) (lead_none e)
        rw [cat_lt hj]
        have : (fun q => cat R.S W y (fun _ => R.S.zero) (W + q)) = fun _ => R.S.zero := by
          funext q
          rw [cat_ge]
        rw [this, lin_zero, R.S.add_zero]
/-! the law's own reckoning in fields -/
theorem ok_law_divisor (T : Txt K mg t) : FnOk Pr w K mg base CX0 1 t.law_divisor t.d_law_divisor ["_law_one", "_law_other"] sp_divisor := by
  refine T.F_law_divisor.ok sc_law_divisor (fun vs H Q E h => ?_) (fun cdv A outer s H vs Q E hr h => ?_)
  · obtain ⟨a, b, rfl, _⟩ := h
    rfl
  · obtain ⟨a, b, rfl, k⟩ := h
    refine ⟨_, (pss_cons (ps_while PassesOwn.never (pt_cmpR op_ne (pv 1) pe_int (nomark _)) (pss_one (ps_par (i := 0) (j := 1) rfl sc_law_divisor.nd rfl rfl (by decide) rfl rfl (pa_cons (pv 1) (pa_cons (pe_op op_modN (pv 0) (pv 1)) pa_nil)) rfl))) (pss_one (ps_ret (pe_callB call_abs (by rfl) T.z_abs boot_abs (pa_cons (pv 0) pa_nil))))), ?_⟩
    refine ⟨fun m σ H' => ∃ x y, σ = [some (.int x), some (.int y)] ∧ m = y.natAbs ∧ dv x y = dv a b ∧ H' = H, ⟨_, _, _, rfl, rfl, rfl, rfl⟩, ?_⟩
    rintro m σ H' ⟨x, y, rfl, rfl, e, rfl⟩
    (repeat (first | apply Exists.intro | refine And.intro rfl ?_ | refine And.intro (by with_reducible assumption) ?_ | refine And.intro (SqT.of (by assumption)) ?_ | refine And.intro (SqL.of (by assumption)) ?_ | refine And.intro (TyOf.int _) ?_ | refine And.intro (TyOf.tup (by assumption)) ?_ | refine And.intro T.k_ii ?_ | refine And.intro T.k_ib ?_ | refine And.intro T.k_tt ?_ | refine And.intro T.k_bb ?_ | refine And.intro T.nP ?_ | refine And.intro T.iF_is_field ?_ | refine And.intro T.iR_is_field ?_ | refine And.intro T.k_ll ?_))
    refine iteNI (fun h0 => ?_) (fun h0 => ?_)
    · refine ⟨fun σ' H'' => ∃ x' y', σ' = [some (.int x'), some (.int y')] ∧ y'.natAbs < y.natAbs ∧ dv x' y' = dv a b ∧ H'' = H', fun σ' H'' ⟨x', y', e1, e2, e3, e4⟩ => ⟨_, e2, x', y', e1, rfl, e3, e4⟩, ?_⟩
      refine ⟨_, rfl, _, rfl, _, rfl, _, _, rfl, rfl, h0, _, _, rfl, ?_⟩
      exact ⟨_, _, rfl, fmod_abs_lt _ _ h0, l_turn e, rfl⟩
    · refine ⟨_, rfl, _, rfl, ?_⟩
      (try dsimp only)
      rw [out2 e h0]
      exact k
def sp_low : Sp := fun vs H Q _ => ∃ a b, vs = [.int a, .int b] ∧ 0 < b ∧ ∀ v H', Same H H' → IsF H' v (tp a b) (bt a b) → Q v H'
theorem ok_law_low (T : Txt K mg t) : FnOk Pr w K mg base CX0 36 t.law_low t.d_law_low ["_law_top", "_law_bottom"] sp_low := by
  refine T.F_law_low.ok sc_law_low (fun vs H Q E h => ?_) (fun cdv A outer s H vs Q E hr h => ?_)
  · obtain ⟨a, b, rfl, _⟩ := h
    rfl
  · obtain ⟨a, b, rfl, pb, k⟩ := h
    have hd : dv a b ≠ 0 := Int.ne_of_gt (dv_pos (by omega))
    refine ⟨_, (pss_cons (ps_set (i := 2) sc_law_low.nd rfl (Or.inl rfl) (pe_call (ok_law_divisor T) (hr.mono (by decide)) rfl T.m_law_divisor T.F_law_divisor.kp T.b_law_divisor .nil pass0 (pa_cons (pv 0) (pa_cons (pv 1) pa_nil)))) (pss_one (ps_ret (pe_tup (pa_cons (pe_op (op_fdivP hr (by decide) tree0) (pv 0) (pv 2)) (pa_cons (pe_op (op_fdivP hr (by decide) tree0) (pv 1) (pv 2)) pa_nil)))))), ?_⟩
    (repeat (first | apply Exists.intro | refine And.intro rfl ?_ | refine And.intro (by with_reducible assumption) ?_ | refine And.intro (SqT.of (by assumption)) ?_ | refine And.intro (SqL.of (by assumption)) ?_ | refine And.intro (TyOf.int _) ?_ | refine And.intro (TyOf.tup (by assumption)) ?_ | refine And.intro T.k_ii ?_ | refine And.intro T.k_ib ?_ | refine And.intro T.k_tt ?_ | refine And.intro T.k_bb ?_ | refine And.intro T.nP ?_ | refine And.intro T.iF_is_field ?_ | refine And.intro T.iR_is_field ?_ | refine And.intro T.k_ll ?_))
    refine ⟨(by show 2 ≤ sizeLine; decide), fun p hp => ?_⟩
    refine k _ _ (same_upd hp) ?_
    (try dsimp only)
    rw [(fr_is pb).1, (fr_is pb).2]
    exact IsF.new
def sp_lbin (T : Txt K mg t) (f : ∀ S : SR, S.W → S.W → S.W) : Sp := fun vs H Q _ => ∃ (R : KindR Pr w K mg base), ∃ nm p so x y a b m n, So T R nm p ∧ vs = [so, x, y] ∧
  (SortAt H so nm p ∧ R.is H x a ∧ R.is H y b ∧ R.S.sz m a ∧ R.S.sz n b ∧ Sml R.S (m + n)) ∧ ∀ v H', Same H H' → R.is H' v (f R.S a b) → Q v H'
theorem ok_law_plus (T : Txt K mg t) : FnOk Pr w K mg base CX0 37 t.law_plus t.d_law_plus ["_law_sort_here", "_law_x", "_law_y"] (sp_lbin (w := w) (base := base) T fun S => S.add) := by
  refine T.F_law_plus.ok sc_law_plus (fun vs H Q E h => ?_) (fun cdv A outer s H vs Q E hr h => ?_)
  · obtain ⟨R, nm, p, so, x, y, a, b, m, n, _, rfl, _⟩ := h
    rfl
  · obtain ⟨R, nm, p, so, x, y, a, b, m, n, hS, rfl, ⟨⟨q, rfl, hq⟩, hx, hy, sa, sb, hmn⟩, k⟩ := h
    refine ⟨_, (pss_cons (ps_if (pt_cmpR op_eq (pe_ix ix_tup (pv 0) pe_int (fun _ _ => rfl)) pe_str (nomark _)) (pss_one (ps_ret (pe_call (ok_law_low T) (hr.mono (by decide)) rfl T.m_law_low T.F_law_low.kp T.b_law_low .nil pass0 (pa_cons (pe_op op_add (pe_op op_mulG (pe_ix ix_tup (pv 1) pe_int (fun _ _ => rfl)) (pe_ix ix_tup (pv 2) pe_int (fun _ _ => rfl))) (pe_op op_mulG (pe_ix ix_tup (pv 2) pe_int (fun _ _ => rfl)) (pe_ix ix_tup (pv 1) pe_int (fun _ _ => rfl)))) (pa_cons (pe_op op_mulG (pe_ix ix_tup (pv 1) pe_int (fun _ _ => rfl)) (pe_ix ix_tup (pv 2) pe_int (fun _ _ => rfl))) pa_nil))))) pss_nil) (pss_one (ps_ret (pe_op op_modN (pe_op op_add (pv 1) (pv 2)) (pe_ix ix_tup (pv 0) pe_int (fun _ _ => rfl)))))), ?_⟩
    cases hS with
    | fr =>
      obtain ⟨px, rfl, hx⟩ := hx
      obtain ⟨py, rfl, hy⟩ := hy
      have sa : a.sz m := sa
      have sb : b.sz n := sb
      have hmn := sml_fr hmn
      refine ⟨_, rfl, _, _, _, _, rfl, rfl, SqT.of hq, rfl, rfl, _, rfl, ?_⟩
      rw [show decide (V.str ("fractions" : Str) = V.str ("fractions" : Str)) = true by decide +kernel]
      refine iteT ?_
      refine ⟨_, rfl, _, _, _, _, rfl, rfl, SqT.of hx, rfl, _, rfl, _, _, _, _, rfl, rfl, SqT.of hy, rfl, _, _, rfl, rfl, mulG (n := n) sa.1 sb.2 (by omega), _, rfl, _, _, _, _, rfl, rfl, SqT.of hy, rfl, _, rfl, _, _, _, _, rfl, rfl, SqT.of hx, rfl, _, _, rfl, rfl, mulG (n := m) sb.1 sa.2 (by omega), _, _, rfl, rfl, ?_⟩
      refine ⟨_, rfl, _, _, _, _, rfl, rfl, SqT.of hx, rfl, _, rfl, _, _, _, _, rfl, rfl, SqT.of hy, rfl, _, _, rfl, rfl, mulG (n := n) sa.2 sb.2 (by omega), _, _, rfl, Int.mul_pos a.p b.p, fun v H' s' f' => k v H' s' f'⟩
    | re p hp hq' hi =>
      cases (show x = .int a.x from hx)
      cases (show y = .int b.x from hy)
      refine ⟨_, rfl, _, _, _, _, rfl, rfl, SqT.of hq, rfl, rfl, _, rfl, ?_⟩
      rw [show decide (V.str ("residues" : Str) = V.str ("fractions" : Str)) = false by decide +kernel]
      refine iteF ?_
      refine ⟨_, rfl, _, rfl, _, _, rfl, rfl, _, rfl, _, _, _, _, rfl, rfl, SqT.of hq, rfl, _, _, rfl, rfl, (show p ≠ 0 by omega), ?_⟩
      exact k _ _ (Same.refl _) rfl
theorem ok_law_times (T : Txt K mg t) : FnOk Pr w K mg base CX0 37 t.law_times t.d_law_times ["_law_sort_here", "_law_x", "_law_y"] (sp_lbin (w := w) (base := base) T fun S => S.mul) := by
  refine T.F_law_times.ok sc_law_times (fun vs H Q E h => ?_) (fun cdv A outer s H vs Q E hr h => ?_)
  · obtain ⟨R, nm, p, so, x, y, a, b, m, n, _, rfl, _⟩ := h
    rfl
  · obtain ⟨R, nm, p, so, x, y, a, b, m, n, hS, rfl, ⟨⟨q, rfl, hq⟩, hx, hy, sa, sb, hmn⟩, k⟩ := h
    refine ⟨_, (pss_cons (ps_if (pt_cmpR op_eq (pe_ix ix_tup (pv 0) pe_int (fun _ _ => rfl)) pe_str (nomark _)) (pss_one (ps_ret (pe_call (ok_law_low T) (hr.mono (by decide)) rfl T.m_law_low T.F_law_low.kp T.b_law_low .nil pass0 (pa_cons (pe_op op_mulG (pe_ix ix_tup (pv 1) pe_int (fun _ _ => rfl)) (pe_ix ix_tup (pv 2) pe_int (fun _ _ => rfl))) (pa_cons (pe_op op_mulG (pe_ix ix_tup (pv 1) pe_int (fun _ _ => rfl)) (pe_ix ix_tup (pv 2) pe_int (fun _ _ => rfl))) pa_nil))))) pss_nil) (pss_one (ps_ret (pe_op op_modN (pe_op op_mul (pv 1) (pv 2)) (pe_ix ix_tup (pv 0) pe_int (fun _ _ => rfl)))))), ?_⟩
    cases hS with
    | fr =>
      obtain ⟨px, rfl, hx⟩ := hx
      obtain ⟨py, rfl, hy⟩ := hy
      have sa : a.sz m := sa
      have sb : b.sz n := sb
      have hmn := sml_fr hmn
      refine ⟨_, rfl, _, _, _, _, rfl, rfl, SqT.of hq, rfl, rfl, _, rfl, ?_⟩
      rw [show decide (V.str ("fractions" : Str) = V.str ("fractions" : Str)) = true by decide +kernel]
      refine iteT ?_
      refine ⟨_, rfl, _, _, _, _, rfl, rfl, SqT.of hx, rfl, _, rfl, _, _, _, _, rfl, rfl, SqT.of hy, rfl, _, _, rfl, rfl, mulG (n := n) sa.1 sb.1 (by omega), ?_⟩
      refine ⟨_, rfl, _, _, _, _, rfl, rfl, SqT.of hx, rfl, _, rfl, _, _, _, _, rfl, rfl, SqT.of hy, rfl, _, _, rfl, rfl, mulG (n := n) sa.2 sb.2 (by omega), _, _, rfl, Int.mul_pos a.p b.p, fun v H' s' f' => k v H' s' f'⟩
    | re p hp hq' hi =>
      cases (show x = .int a.x from hx)
      cases (show y = .int b.x from hy)
      refine ⟨_, rfl, _, _, _, _, rfl, rfl, SqT.of hq, rfl, rfl, _, rfl, ?_⟩
      rw [show decide (V.str ("residues" : Str) = V.str ("fractions" : Str)) = false by decide +kernel]
      refine iteF ?_
      have cm : CMul a.x b.x := .inl ⟨by have := a.h0; omega, by have := a.h1; omega⟩
      refine ⟨_, rfl, _, rfl, _, _, rfl, rfl, cm, _, rfl, _, _, _, _, rfl, rfl, SqT.of hq, rfl, _, _, rfl, rfl, (show p ≠ 0 by omega), ?_⟩
      exact k _ _ (Same.refl _) rfl
def sp_number (T : Txt K mg t) : Sp := fun vs H Q _ => ∃ (R : KindR Pr w K mg base), ∃ nm p so, ∃ (n : Int), So T R nm p ∧ vs = [so, .int n] ∧ (SortAt H so nm p ∧ -1 ≤ n ∧ n ≤ 1) ∧ ∀ v H' x, Same H H' → R.is H' v x → (n = 0 → x = R.S.zero) → (n = 1 → x = R.S.one) → (n ≠ 0 → x ≠ R.S.zero) → R.S.sz 0 x → Q v H'
theorem ok_law_number (T : Txt K mg t) : FnOk Pr w K mg base CX0 1 t.law_number t.d_law_number ["_law_sort_here", "_law_number_here"] (sp_number (w := w) (base := base) T) := by
  refine T.F_law_number.ok sc_law_number (fun vs H Q E h => ?_) (fun cdv A outer s H vs Q E hr h => ?_)
  · obtain ⟨R, nm, p, so, n, _, rfl, _⟩ := h
    rfl
  · obtain ⟨R, nm, p, so, n, hS, rfl, ⟨⟨q, rfl, hq⟩, n0, n1⟩, k⟩ := h
    refine ⟨_, (pss_cons (ps_if (pt_cmpR op_eq (pe_ix ix_tup (pv 0) pe_int (fun _ _ => rfl)) pe_str (nomark _)) (pss_one (ps_ret (pe_tup (pa_cons (pv 1) (pa_cons pe_int pa_nil))))) pss_nil) (pss_one (ps_ret (pe_op op_modN (pv 1) (pe_ix ix_tup (pv 0) pe_int (fun _ _ => rfl)))))), ?_⟩
    cases hS with
    | fr =>
      refine ⟨_, rfl, _, _, _, _, rfl, rfl, SqT.of hq, rfl, rfl, _, rfl, ?_⟩
      rw [show decide (V.str ("fractions" : Str) = V.str ("fractions" : Str)) = true by decide +kernel]
      refine iteT ?_
      refine ⟨_, rfl, (by show 2 ≤ sizeLine; decide), fun p1 np => ?_⟩
      refine k _ _ (⟨n, 1, by decide, by unfold dv; rw [Int.gcd_one_right]; rfl⟩ : Fr) (same_upd np) IsF.new (fun e => Fr.eq_of e rfl) (fun e => Fr.eq_of e rfl) (fun ne e => ne (Fr_z e)) ⟨?_, by show (1 : Int).natAbs ≤ 2 ^ 0; decide⟩
      show n.natAbs ≤ 2 ^ 0
      rw [Nat.pow_zero]; omega
    | re p hp hq' hi =>
      refine ⟨_, rfl, _, _, _, _, rfl, rfl, SqT.of hq, rfl, rfl, _, rfl, ?_⟩
      rw [show decide (V.str ("residues" : Str) = V.str ("fractions" : Str)) = false by decide +kernel]
      refine iteF ?_
      refine ⟨_, rfl, _, rfl, _, _, _, _, rfl, rfl, SqT.of hq, rfl, _, _, rfl, rfl, (show p ≠ 0 by omega), ?_⟩
      refine k _ _ (Re.of p (by omega) n) (Same.refl _) rfl (fun e => ?_) (fun e => ?_) (fun ne e => ?_) trivial
      · subst e
        exact Re.eq_of (by show (0 : Int).fmod p = 0; exact r_self (by omega) (by omega))
      · subst e
        exact Re.eq_of (by show (1 : Int).fmod p = 1; exact r_self (by omega) (by omega))
      · have e : n.fmod p = 0 := congrArg Re.x e
        rcases (by omega : n = 1 ∨ n = -1) with rfl | rfl
        · rw [r_self (by omega) (by omega)] at e; omega
        · rw [Int.fmod_eq_emod_of_nonneg _ (by omega)] at e
          have h3 : p ∣ 1 := Int.dvd_neg.mp (Int.dvd_of_emod_eq_zero e)
          have := Int.le_of_dvd (by decide) h3
          omega
theorem nine8 {r : Int} (h0 : 0 ≤ r) (h1 : r < 8) : ∃ p : Int, atI ([2, 3, 5, 7, 11, 101, 65537, 999983].map V.int) r = some (V.int p) ∧ 2 ≤ p ∧ p ≤ 1000000 ∧ isP p = true := by
  rcases (by omega : r = 0 ∨ r = 1 ∨ r = 2 ∨ r = 3 ∨ r = 4 ∨ r = 5 ∨ r = 6 ∨ r = 7) with rfl | rfl | rfl | rfl | rfl | rfl | rfl | rfl
  · exact ⟨2, rfl, by decide, by decide, p2⟩
  · exact ⟨3, rfl, by decide, by decide, p3⟩
  · exact ⟨5, rfl, by decide, by decide, p5⟩
  · exact ⟨7, rfl, by decide, by decide, p7⟩
  · exact ⟨11, rfl, by decide, by decide, p11⟩
  · exact ⟨101, rfl, by decide, by decide, p101⟩
  · exact ⟨65537, rfl, by decide, by decide, p65537⟩
  · exact ⟨999983, rfl, by decide, by decide, p999983⟩
def sp_sort (T : Txt K mg t) : Sp := fun vs H Q _ => ∃ (a : Addr), vs = [.ref a] ∧ Dr H a ∧ ∀ (R : KindR Pr w K mg base) nm p v H', So T R nm p → SortAt H' v nm p → SameX a H H' → Dr H' a → Q v H'
theorem ok_law_sort (T : Txt K mg t) : FnOk Pr w K mg base CX0 2 t.law_sort t.d_law_sort ["_law_state_here"] (sp_sort (w := w) (base := base) T) := by
  refine T.F_law_sort.ok sc_law_sort (fun vs H Q E h => ?_) (fun cdv A outer s H vs Q E hr h => ?_)
  · obtain ⟨a, rfl, _⟩ := h
    rfl
  · obtain ⟨a, rfl, hD, k⟩ := h
    refine ⟨_, (pss_cons (ps_if (pt_cmpR op_eq (pe_call (ok_law_next T) (hr.mono (by decide)) rfl T.m_law_next T.F_law_next.kp T.b_law_next .nil pass0 (pa_cons (pv 0) (pa_cons pe_int pa_nil))) pe_int (nomark _)) (pss_one (ps_ret (pe_tup (pa_cons pe_str (pa_cons pe_int pa_nil))))) pss_nil) (pss_one (ps_ret (pe_tup (pa_cons pe_str (pa_cons (pe_ix ix_list (pe_lst (pa_cons pe_int (pa_cons pe_int (pa_cons pe_int (pa_cons pe_int (pa_cons pe_int (pa_cons pe_int (pa_cons pe_int (pa_cons pe_int pa_nil))))))))) (pe_call (ok_law_next T) (hr.mono (by decide)) rfl T.m_law_next T.F_law_next.kp T.b_law_next .nil pass0 (pa_cons (pv 0) (pa_cons pe_int pa_nil))) (fun _ _ => rfl)) pa_nil)))))), ?_⟩
    refine ⟨_, rfl, a, 3, rfl, ⟨hD, by decide, by decide⟩, fun r0 H0 s0 d0 a0 b0 => ⟨rfl, _, rfl, ?_⟩⟩
    refine iteI (fun _ => ?_) (fun _ => ?_)
    · refine ⟨(by show 2 ≤ sizeLine; decide), fun p1 n1 => ?_⟩
      have t1 := same_upd (o := .tup [V.str (Str.ofString "fractions"), V.int 0]) n1
      exact k _ _ _ _ _ .fr ⟨p1, rfl, upd_same⟩ (s0.trans (.of t1)) (d0.same t1)
    · refine ⟨(by show 8 ≤ sizeLine; decide), fun p1 n1 => ?_⟩
      have t1 := same_upd (o := .lst [V.int 2, V.int 3, V.int 5, V.int 7, V.int 11, V.int 101, V.int 65537, V.int 999983]) n1
      have k1 : upd H0 p1 (.lst [V.int 2, V.int 3, V.int 5, V.int 7, V.int 11, V.int 101, V.int 65537, V.int 999983]) p1 = some (.lst [V.int 2, V.int 3, V.int 5, V.int 7, V.int 11, V.int 101, V.int 65537, V.int 999983]) := upd_same
      have b1 : p1 ≠ a := fun e => by
        obtain ⟨xs, z⟩ := d0.lst
        rw [← e, n1] at z
        cases z
      revert t1 k1
      generalize upd H0 p1 (.lst [V.int 2, V.int 3, V.int 5, V.int 7, V.int 11, V.int 101, V.int 65537, V.int 999983]) = H1
      intro t1 k1
      have d1 := d0.same t1
      refine ⟨_, rfl, a, 8, rfl, ⟨d1, by decide, by decide⟩, fun r2 H2 s2 d2 a2 b2 => ?_⟩
      obtain ⟨p, ep, p2, p3, p4⟩ := nine8 a2 b2
      refine ⟨_, _, _, _, rfl, rfl, SqL.of (s2 _ _ b1 k1), ep, (by show 2 ≤ sizeLine; decide), fun p5 n5 => ?_⟩
      have t5 := same_upd (o := .tup [V.str (Str.ofString "residues"), V.int p]) n5
      exact k _ _ _ _ _ (.re p p2 p3 p4) ⟨p5, rfl, upd_same⟩ (((s0.trans (.of t1)).trans s2).trans (.of t5)) (d2.same t5)
def sp_kind (T : Txt K mg t) : Sp := fun vs H Q _ => ∃ (R : KindR Pr w K mg base), ∃ nm p so, So T R nm p ∧ vs = [so] ∧ SortAt H so nm p ∧ ∀ v H', Same H H' → KAt R.C R.fs H' v → Q v H'
theorem ok_law_kind (T : Txt K mg t) : FnOk Pr w K mg base CX0 4 t.law_kind t.d_law_kind ["_law_sort_here"] (sp_kind (w := w) (base := base) T) := by
  refine T.F_law_kind.ok sc_law_kind (fun vs H Q E h => ?_) (fun cdv A outer s H vs Q E hr h => ?_)
  · obtain ⟨R, nm, p, so, _, rfl, _⟩ := h
    rfl
  · obtain ⟨R, nm, p, so, hS, rfl, ⟨q, rfl, hq⟩, k⟩ := h
    refine ⟨_, (pss_cons (ps_if (pt_cmpR op_eq (pe_ix ix_tup (pv 0) pe_int (fun _ _ => rfl)) pe_str (nomark _)) (pss_one (ps_ret (pe_makeO T.M_Fractions rfl T.m_Fractions))) pss_nil) (pss_one (ps_ret (pe_make T.M_Residues (ok_Residues___init__ T) (hr.mono (by decide)) rfl T.m_Residues T.b_Residues___init__ .nil pass0 (pa_cons (pe_ix ix_tup (pv 0) pe_int (fun _ _ => rfl)) pa_nil))))), ?_⟩
    cases hS with
    | fr =>
      refine ⟨_, rfl, _, _, _, _, rfl, rfl, SqT.of hq, rfl, rfl, _, rfl, ?_⟩
      rw [show decide (V.str ("fractions" : Str) = V.str ("fractions" : Str)) = true by decide +kernel]
      refine iteT ?_
      intro x dx nx ndx nex
      exact k _ _ (same_made nx ndx) ⟨x, dx, rfl, upd_same⟩
    | re p hp hq' hi =>
      refine ⟨_, rfl, _, _, _, _, rfl, rfl, SqT.of hq, rfl, rfl, _, rfl, ?_⟩
      rw [show decide (V.str ("residues" : Str) = V.str ("fractions" : Str)) = false by decide +kernel]
      refine iteF ?_
      refine ⟨_, rfl, _, _, _, _, rfl, rfl, SqT.of hq, rfl, fun x dx nx ndx nex => ?_⟩
      refine ⟨x, dx, p, rfl, ⟨hp, hq', hi⟩, upd_same, ?_⟩
      refine ⟨rfl, k _ _ (fun b o e => ?_) ⟨x, dx, rfl, upd_same⟩⟩
      rw [upd_ne (ne_of_none e nx)]
      exact same_made nx ndx b o e
def sp_lweight (T : Txt K mg t) : Sp := fun vs H Q _ => ∃ (R : KindR Pr w K mg base), ∃ nm p, ∃ (a : Addr), ∃ so, So T R nm p ∧ vs = [.ref a, so] ∧ (Dr H a ∧ SortAt H so nm p) ∧ ∀ v H' x, SameX a H H' → Dr H' a → R.is H' v x → R.S.sz 2 x → Q v H'
theorem ok_law_weight (T : Txt K mg t) : FnOk Pr w K mg base CX0 37 t.law_weight t.d_law_weight ["_law_state_here", "_law_sort_here"] (sp_lweight (w := w) (base := base) T) := by
  refine T.F_law_weight.ok sc_law_weight (fun vs H Q E h => ?_) (fun cdv A outer s H vs Q E hr h => ?_)
  · obtain ⟨R, nm, p, a, so, _, rfl, _⟩ := h
    rfl
  · obtain ⟨R, nm, p, a, so, hS, rfl, ⟨hD, ⟨q, rfl, hq⟩⟩, k⟩ := h
    refine ⟨_, (pss_cons (ps_if (pt_cmpR op_eq (pe_call (ok_law_next T) (hr.mono (by decide)) rfl T.m_law_next T.F_law_next.kp T.b_law_next .nil pass0 (pa_cons (pv 0) (pa_cons pe_int pa_nil))) pe_int (nomark _)) (pss_one (ps_ret (pe_call (ok_law_number T) (hr.mono (by decide)) rfl T.m_law_number T.F_law_number.kp T.b_law_number .nil pass0 (pa_cons (pv 1) (pa_cons pe_int pa_nil))))) pss_nil) (pss_cons (ps_if (pt_cmpR op_eq (pe_ix ix_tup (pv 1) pe_int (fun _ _ => rfl)) pe_str (nomark _)) (pss_one (ps_ret (pe_call (ok_law_low T) (hr.mono (by decide)) rfl T.m_law_low T.F_law_low.kp T.b_law_low .nil pass0 (pa_cons (pe_op op_sub (pe_call (ok_law_next T) (hr.mono (by decide)) rfl T.m_law_next T.F_law_next.kp T.b_law_next .nil pass0 (pa_cons (pv 0) (pa_cons pe_int pa_nil))) pe_int) (pa_cons (pe_op op_add pe_int (pe_call (ok_law_next T) (hr.mono (by decide)) rfl T.m_law_next T.F_law_next.kp T.b_law_next .nil pass0 (pa_cons (pv 0) (pa_cons pe_int pa_nil)))) pa_nil))))) pss_nil) (pss_one (ps_ret (pe_call (ok_law_next T) (hr.mono (by decide)) rfl T.m_law_next T.F_law_next.kp T.b_law_next .nil pass0 (pa_cons (pv 0) (pa_cons (pe_ix ix_tup (pv 1) pe_int (fun _ _ => rfl)) pa_nil))))))), ?_⟩
    refine ⟨_, rfl, a, 4, rfl, ⟨hD, by decide, by decide⟩, fun r0 H0 s0 d0 a0 b0 => ⟨rfl, _, rfl, ?_⟩⟩
    have hq0 := s0.tt hD _ _ hq
    refine iteI (fun _ => ?_) (fun _ => ?_)
    · refine ⟨_, rfl, R, nm, p, _, 0, hS, rfl, ⟨⟨q, rfl, hq0⟩, by decide, by decide⟩, fun v H' x s' f' _ _ _ z => ?_⟩
      exact k v H' x (s0.trans (.of s')) (d0.same s') f' (R.S.sz_mono _ _ _ (by decide) z)
    · cases hS with
      | fr =>
        refine ⟨_, rfl, _, _, _, _, rfl, rfl, SqT.of hq0, rfl, rfl, _, rfl, ?_⟩
        rw [show decide (V.str ("fractions" : Str) = V.str ("fractions" : Str)) = true by decide +kernel]
        refine iteT ?_
        refine ⟨_, rfl, a, 9, rfl, ⟨d0, by decide, by decide⟩, fun r2 H2 s2 d2 a2 b2 => ?_⟩
        refine ⟨_, _, rfl, rfl, _, rfl, a, 3, rfl, ⟨d2, by decide, by decide⟩, fun r3 H3 s3 d3 a3 b3 => ?_⟩
        refine ⟨_, _, rfl, rfl, _, _, rfl, (show (0 : Int) < 1 + r3 by omega), fun v H4 s4 f4 => ?_⟩
        have e : (2 : Nat) ^ 2 = 4 := rfl
        exact k v H4 (Fr.of _ _ (show (0 : Int) < 1 + r3 by omega)) (((s0.trans s2).trans s3).trans (.of s4)) (d3.same s4) f4 (of_sz (by rw [e]; omega) (by rw [e]; omega))
      | re p hp hq' hi =>
        refine ⟨_, rfl, _, _, _, _, rfl, rfl, SqT.of hq0, rfl, rfl, _, rfl, ?_⟩
        rw [show decide (V.str ("residues" : Str) = V.str ("fractions" : Str)) = false by decide +kernel]
        refine iteF ?_
        refine ⟨_, rfl, _, rfl, _, _, _, _, rfl, rfl, SqT.of hq0, rfl, a, _, rfl, ⟨d0, by omega, by omega⟩, fun r2 H2 s2 d2 a2 b2 => ?_⟩
        exact k _ _ ⟨r2, a2, b2⟩ (s0.trans s2) d2 rfl trivial
--SUM
def sp_lsum (T : Txt K mg t) : Sp := fun vs H Q _ => ∃ (R : KindR Pr w K mg base), ∃ nm p so mv rv, ∃ (n nr W mc mr : Nat), ∃ c rs, So T R nm p ∧ vs = [so, mv, rv, .int (W : Nat)] ∧ (SortAt H so nm p ∧ R.Seq n c mc mv H ∧ SeqOf K (fun i u H => R.Row W (rs i) mr u H) nr rv H ∧ n ≤ nr ∧ W ≤ 1000 ∧ n ≤ 1000 ∧ Sml R.S (n * (mc + mr + 1) + (mc + mr))) ∧
  ∀ v H', Same H H' → R.Row W (lin R.S c rs n) (n * (mc + mr + 1)) v H' → Q v H'
theorem ok_law_sum (T : Txt K mg t) : FnOk Pr w K mg base CX0 38 t.law_sum t.d_law_sum ["_law_sort_here", "_law_many", "_law_rows", "_law_wide"] (sp_lsum (w := w) (base := base) T) := by
  refine T.F_law_sum.ok sc_law_sum (fun vs H Q E h => ?_) (fun cdv A outer s H vs Q E hr h => ?_)
  · obtain ⟨R, nm, p, so, mv, rv, n, nr, W, mc, mr, c, rs, _, rfl, _⟩ := h
    rfl
  · obtain ⟨R, nm, p, so, mv, rv, n, nr, W, mc, mr, c, rs, hS, rfl, ⟨hso, ⟨S1, ms, o1, v1, w1, em⟩, ⟨S2, rl, o2, v2, w2, er⟩, hnr, hW, hn, hz⟩, k⟩ := h
    have sl : 1000 < sizeLine := by decide
    refine ⟨_, (pss_cons (ps_setC (i₀ := 4) (xs := ["_law_k"]) sc_law_sum.nd rfl (Or.inl rfl) rfl (show CompOk ["_law_sort_here", "_law_many", "_law_rows", "_law_wide", "_law_total", "_law_by_here", "_law_row"] (defScope s_law_sum) _ from ⟨rfl, by decide +kernel, by decide +kernel, by decide +kernel, by decide +kernel, by decide +kernel⟩) (pi_range1 rfl T.z_range (pa_cons (pv 3) pa_nil)) (fun _ _ _ _ _ => (pg_name (i := 7) (by show List.Nodup (["_law_sort_here", "_law_many", "_law_rows", "_law_wide", "_law_total", "_law_by_here", "_law_row", "_law_k"] : List Str); decide +kernel) rfl (Or.inl rfl))) (fun _ _ _ _ _ => (pe_call (ok_law_number (w := w) (base := base) T) (hr.mono (by decide)) rfl T.m_law_number T.F_law_number.kp T.b_law_number .nil pass0 (pa_cons (pv 0) (pa_cons pe_int pa_nil))))) (pss_cons (ps_for PassesOwn.never rfl (pi_zip rfl T.z_zip (pa_cons (pv 1) (pa_cons (pv 2) pa_nil))) (pg_tup rfl (pgs_cons (pg_name (i := 5) sc_law_sum.nd rfl (Or.inr rfl)) (pgs_cons (pg_name (i := 6) sc_law_sum.nd rfl (Or.inl rfl)) pgs_nil))) (pss_one (ps_setC (i₀ := 4) (xs := ["_law_x", "_law_y"]) sc_law_sum.nd rfl (Or.inl rfl) rfl (show CompOk ["_law_sort_here", "_law_many", "_law_rows", "_law_wide", "_law_total", "_law_by_here", "_law_row"] (defScope s_law_sum) _ from ⟨rfl, by decide +kernel, by decide +kernel, by decide +kernel, by decide +kernel, by decide +kernel⟩) (pi_zip rfl T.z_zip (pa_cons (pv 4) (pa_cons (pv 6) pa_nil))) (fun _ _ _ _ _ => (show PG _ _ (gTup K 2 _) from (pg_tup rfl (pgs_cons (pg_name (i := 7) (by show List.Nodup (["_law_sort_here", "_law_many", "_law_rows", "_law_wide", "_law_total", "_law_by_here", "_law_row", "_law_x", "_law_y"] : List Str); decide +kernel) rfl (Or.inl rfl)) (pgs_cons (pg_name (i := 8) (by show List.Nodup (["_law_sort_here", "_law_many", "_law_rows", "_law_wide", "_law_total", "_law_by_here", "_law_row", "_law_x", "_law_y"] : List Str); decide +kernel) rfl (Or.inl rfl)) pgs_nil))))) (fun _ _ _ _ _ => (pe_call (ok_law_plus (w := w) (base := base) T) (hr.mono (by decide)) rfl T.m_law_plus T.F_law_plus.kp T.b_law_plus .nil pass0 (pa_cons (pv 0) (pa_cons (pv 7) (pa_cons (pe_call (ok_law_times (w := w) (base := base) T) (hr.mono (by decide)) rfl T.m_law_times T.F_law_times.kp T.b_law_times .nil pass0 (pa_cons (pv 0) (pa_cons (pv 5) (pa_cons (pv 8) pa_nil)))) pa_nil)))))))) (pss_one (ps_ret (pe_callTy call_tuple_of (by rfl) T.z_tuple boot_tuple (pa_cons (pv 4) pa_nil)))))), ?_⟩
    refine ⟨_, rfl, _, rfl, (by omega), (by omega), comp_go (n := W) (fun j ys H2 => Same H H2 ∧ Ents (R.Wt (fun _ => R.S.zero) 0) ys j H2) hW ⟨Same.refl _, Ents.nil⟩ (fun j ys H2 q => q.2.1) ?_ ?_ ?_⟩
    · rintro j ys H2 hj ⟨q, e⟩
      refine ⟨(show j < (W : Int).toNat by omega), fun y H' hy => ?_⟩
      obtain ⟨rfl, rfl⟩ := hy
      refine ⟨⟨[some _], rfl, rfl⟩, _, rfl, R, nm, p, so, 0, hS, rfl, ⟨hso.same q.t, by decide, by decide⟩, fun v H3 x s3 f3 e0 _ _ z3 => ?_⟩
      cases e0 rfl
      exact ⟨q.trans s3, (e.mono fun _ _ _ z => KindR.Wt.same s3.t z).snoc ⟨f3, z3⟩⟩
    · rintro ys H2 ⟨q, e⟩
      show (W : Int).toNat ≤ W
      omega
    · rintro ys H2 l ⟨q, e⟩ nl
      have s1' := same_upd (o := .lst ys) nl
      have q1 := q.trans s1'
      have k1 : upd H2 l (.lst ys) l = some (.lst ys) := upd_same
      have e1 := e.mono fun _ _ _ z => KindR.Wt.same s1'.t z
      revert q1 k1 e1
      generalize upd H2 l (.lst ys) = H1
      intro q1 k1 e1
      show gName 4 (.ref l) [some so, some mv, some rv, some (.int (W : Nat)), none, none, none] H1 _
      refine ⟨_, rfl, _, rfl, S1, S2, _, _, ms, rl, rfl, o1, o2, (w1 _ q1).1, (w2 _ q1).1, for_it (n := n) (fun i σ H3 => ∃ tl ts v5 v6, σ = [some so, some mv, some rv, some (.int (W : Nat)), some (.ref tl), v5, v6] ∧ Same H H3 ∧ H3 tl = some (.lst ts) ∧ Ents (R.Wt (lin R.S c rs i) (i * (mc + mr + 1))) ts W H3) ⟨l, ys, _, _, rfl, q1, k1, e1.mono fun _ _ _ z => ⟨z.1, R.S.sz_mono _ _ _ (Nat.zero_le _) z.2⟩⟩ ?_ ?_⟩
      · rintro i σ H3 hi ⟨tl, ts, v5, v6, rfl, q3, ht, et⟩
        obtain ⟨b, eb, pb⟩ := em.2 i hi
        obtain ⟨ro, ero, pro⟩ := er.2 i (by omega)
        refine ⟨⟨ms, rl, b, ro, (w1 _ q3).1, (w2 _ q3).1, eb, ero⟩, fun y' H' hy => ?_⟩
        obtain ⟨pp, x', y', rfl, np, rfl, f1, f2⟩ := hy
        have e1 := f1 _ (w1 _ q3).1
        rw [eb] at e1
        cases e1
        have e2 := f2 _ (w2 _ q3).1
        rw [ero] at e2
        cases e2
        have s4 := same_upd (o := .tup [b, ro]) np
        have q4 := q3.trans s4
        have k4 : upd H3 pp (.tup [b, ro]) pp = some (.tup [b, ro]) := upd_same
        revert s4 q4 k4
        generalize upd H3 pp (.tup [b, ro]) = H4
        intro s4 q4 k4
        refine ⟨pp, _, rfl, SqT.of k4, rfl, _, _, rfl, _, _, rfl, rfl, ?_⟩
        obtain ⟨rp, rvs, rfl, hrp, erp⟩ := KindR.Row.same q4.t pro
        refine ⟨_, rfl, _, rfl, .lst tl, .tup rp, _, _, ts, rvs, rfl, rfl, rfl, SqL.of (s4 _ _ ht), SqT.of hrp, comp_go (n := W) (fun j zs H5 => Same H4 H5 ∧ Ents (R.Wt (lin R.S c rs (i + 1)) ((i + 1) * (mc + mr + 1))) zs j H5) hW ⟨Same.refl _, Ents.nil⟩ (fun j ys H2 q => q.2.1) ?_ ?_ ?_⟩
        · rintro j zs H5 hj ⟨q5, e5⟩
          obtain ⟨u, eu, pu⟩ := et.2 j hj
          obtain ⟨v, ev, pv⟩ := erp.2 j hj
          refine ⟨⟨ts, rvs, u, v, SqL.of ((s4.trans q5) _ _ ht), SqT.of (q5 _ _ hrp), eu, ev⟩, fun y' H' hy => ?_⟩
          obtain ⟨pp', x', y', rfl, np', rfl, f1, f2⟩ := hy
          have e1 := f1 _ (SqL.of ((s4.trans q5) _ _ ht))
          rw [eu] at e1
          cases e1
          have e2 := f2 _ (SqT.of (q5 _ _ hrp))
          rw [ev] at e2
          cases e2
          have s6 := same_upd (o := .tup [u, v]) np'
          have q6 := q5.trans s6
          have q46 := q4.trans q6
          have ie : (i + 1) * (mc + mr + 1) = i * (mc + mr + 1) + (mc + mr) + 1 := by rw [Nat.succ_mul]; omega
          have il : (i + 1) * (mc + mr + 1) ≤ n * (mc + mr + 1) := Nat.mul_le_mul_right _ hi
          refine ⟨pp', _, rfl, SqT.of upd_same, rfl, _, _, rfl, _, _, rfl, rfl, ⟨[some _, some _], rfl, rfl⟩, _, rfl, _, rfl, _, rfl, _, rfl, _, rfl, R, nm, p, so, _, _, _, _, mc, mr, hS, rfl, ⟨hso.same q46.t, R.same q46.t pb.1, R.same q6.t pv.1, pb.2, pv.2, hz.le (by omega)⟩, fun tv H7 s7 f7 => ?_⟩
          refine ⟨R, nm, p, so, _, _, _, _, i * (mc + mr + 1), mc + mr, hS, rfl, ⟨hso.same (q46.trans s7).t, R.same ((s4.trans q6).trans s7).t pu.1, f7, pu.2, R.S.sz_mul _ _ _ _ pb.2 pv.2, hz.le (by omega)⟩, fun av H8 s8 f8 => ?_⟩
          refine ⟨q6.trans (s7.trans s8), (e5.mono fun _ _ _ z => KindR.Wt.same (s6.trans (s7.trans s8)).t z).snoc ⟨f8, ?_⟩⟩
          rw [ie]
          exact R.S.sz_add _ _ _ _ pu.2 (R.S.sz_mul _ _ _ _ pb.2 pv.2)
        · rintro zs H5 ⟨q5, e5⟩
          exact ⟨ts, rvs, SqL.of ((s4.trans q5) _ _ ht), SqT.of (q5 _ _ hrp), .inl et.1.symm⟩
        · rintro zs H5 l5 ⟨q5, e5⟩ n5
          have s6 := same_upd (o := .lst zs) n5
          exact ⟨l5, zs, _, _, rfl, q4.trans (q5.trans s6), upd_same, e5.mono fun _ _ _ z => KindR.Wt.same s6.t z⟩
      · rintro σ H3 ⟨tl, ts, v5, v6, rfl, q3, ht, et⟩
        refine ⟨⟨ms, rl, (w1 _ q3).1, (w2 _ q3).1, .inl em.1.symm⟩, ?_⟩
        refine ⟨_, rfl, tl, ts, rfl, .inl ⟨SqL.of ht, fun l2 n2 => ?_⟩⟩
        have s4 := same_upd (o := .tup ts) n2
        exact k _ _ (q3.trans s4) ⟨l2, ts, rfl, upd_same, et.mono fun _ _ _ z => KindR.Wt.same s4.t z⟩
/-! rows drawn in steps, and mixed -/
theorem ents_pick {α : Type} (d : α) {P : Nat → α → V → Hp → Prop} {ys : List V} {n : Nat} {H : Hp} (h : Ents (fun k u H => ∃ x, P k x u H) ys n H) : ∃ f : Nat → α, Ents (fun k u H => P k (f k) u H) ys n H := by
  have c : ∀ j, ∃ x : α, j < n → ∃ u, ys[j]? = some u ∧ P j x u H := fun j => by
    by_cases hj : j < n
    · obtain ⟨u, e, x, a⟩ := h.2 j hj
      exact ⟨x, fun _ => ⟨u, e, a⟩⟩
    · exact ⟨d, fun z => absurd z hj⟩
  exact ⟨fun j => (c j).choose, h.1, fun j hj => (c j).choose_spec hj⟩
theorem ents_put {P : Nat → V → Hp → Prop} {ys : List V} {n j : Nat} {H : Hp} {u : V} (h : Ents P ys n H) (hu : P j u H) : Ents P (ys.set j u) n H :=
  ⟨by rw [List.length_set]; exact h.1, fun i hi => by
    obtain ⟨v, e, q⟩ := h.2 i hi
    by_cases e0 : i = j
    · subst e0
      exact ⟨u, by rw [List.getElem?_set_self (by rw [h.1]; exact hi)], hu⟩
    · exact ⟨v, by rw [List.getElem?_set_ne (Ne.symm e0)]; exact e, q⟩⟩
theorem ents_put2 {P P' : Nat → V → Hp → Prop} {ys : List V} {n j : Nat} {H : Hp} {u : V} (h : Ents P ys n H) (hu : P' j u H) (m : ∀ i v, i ≠ j → P i v H → P' i v H) : Ents P' (ys.set j u) n H :=
  ⟨by rw [List.length_set]; exact h.1, fun i hi => by
    obtain ⟨v, e, q⟩ := h.2 i hi
    by_cases e0 : i = j
    · subst e0
      exact ⟨u, by rw [List.getElem?_set_self (by rw [h.1]; exact hi)], hu⟩
    · exact ⟨v, by rw [List.getElem?_set_ne (Ne.symm e0)]; exact e, m i v e0 q⟩⟩
theorem ixN_nat {k n : Nat} (h : k < n) : ixN n (k : Int) = some k := by
  unfold ixN
  rw [if_pos (by omega), if_pos (by omega)]; rfl
theorem seq_nat {k n : Nat} (h : k < n) : seqIndex? (k : Int) n = some k := (ixN_seq (ixN_nat h)).1
def vI (n : Nat) : V := V.int (n : Nat)
structure OrdOk (n : Nat) (ol : List Nat) : Prop where
  len : ol.length = n
  nd : ol.Nodup
  lt : ∀ x ∈ ol, x < n
theorem OrdOk.start (n : Nat) : OrdOk n (List.range n) := ⟨List.length_range, List.nodup_range, fun x h => List.mem_range.mp h⟩
theorem OrdOk.turn {n m h : Nat} {tl : List Nat} (o : OrdOk n (h :: tl)) : OrdOk n (tl.take m ++ h :: tl.drop m) := by
  have p : (tl.take m ++ h :: tl.drop m).Perm (h :: tl) := by
    have := List.perm_middle (a := h) (l₁ := tl.take m) (l₂ := tl.drop m)
    rw [List.take_append_drop] at this
    exact this
  exact ⟨by rw [p.length_eq]; exact o.len, p.nodup_iff.mpr o.nd, fun x hx => o.lt x (p.mem_iff.mp hx)⟩
theorem RowsL.ne {R : KindR Pr w K mg base} {W m n : Nat} {rs : Nat → Nat → R.S.W} {b a : Addr} {H : Hp} (h : RowsL R W m n rs (.ref b) H) (n1 : 1 ≤ n) (d : Dr H a) : b ≠ a := by
  rintro rfl
  obtain ⟨b', us, e, hb, en⟩ := h
  cases e
  obtain ⟨u, eu, p, vs, rfl, _⟩ := en.2 0 n1
  obtain ⟨x, d | ⟨y, d⟩⟩ := d
  · rw [hb] at d; cases d; cases eu
  · rw [hb] at d; cases d; cases eu
theorem RowsL.samx {R : KindR Pr w K mg base} {W m n : Nat} {rs : Nat → Nat → R.S.W} {v : V} {a : Addr} {H H' : Hp} (s : SameX a H H') (d : Dr H a) (n1 : 1 ≤ n) (h : RowsL R W m n rs v H) : RowsL R W m n rs v H' := by
  have h' := h
  obtain ⟨b, us, rfl, hb, e⟩ := h
  exact ⟨b, us, rfl, s _ _ (h'.ne n1 d) hb, e.mono fun _ _ _ q => KindR.Row.same (s.tt d) q⟩
/-- what stands at a place of a row in steps -/
def StpP (R : KindR Pr w K mg base) (ol : List Nat) (k : Nat) : Nat → V → Hp → Prop := fun q u H => ∃ x : R.S.W, R.is H u x ∧ R.S.sz 2 x ∧ ((∀ i : Nat, k < i → ol[i]? ≠ some q) → x = R.S.zero)
theorem StpP.same {R : KindR Pr w K mg base} {ol : List Nat} {k q : Nat} {u : V} {H H' : Hp} (s : SameT H H') (h : StpP R ol k q u H) : StpP R ol k q u H' := by
  obtain ⟨x, a, b⟩ := h
  exact ⟨x, R.same s a, b⟩
def StpR (R : KindR Pr w K mg base) (W : Nat) (ol : List Nat) : Nat → V → Hp → Prop := fun k u H => ∃ x, R.Row W x 2 u H ∧ x (ol.getD k 0) = R.S.one ∧ ∀ q, q < k → x (ol.getD q 0) = R.S.zero
theorem StpR.same {R : KindR Pr w K mg base} {W : Nat} {ol : List Nat} {k : Nat} {u : V} {H H' : Hp} (s : SameT H H') (h : StpR R W ol k u H) : StpR R W ol k u H' := by
  obtain ⟨x, a, b⟩ := h
  exact ⟨x, KindR.Row.same s a, b⟩
def sp_steps (T : Txt K mg t) : Sp := fun vs H Q _ => ∃ (R : KindR Pr w K mg base), ∃ nm p, ∃ (a : Addr), ∃ so, ∃ (n W : Nat), So T R nm p ∧ vs = [.ref a, so, .int (n : Nat), .int (W : Nat)] ∧ (Dr H a ∧ SortAt H so nm p ∧ n ≤ W ∧ W ≤ 100) ∧
  ∀ v H' (o : Nat → Nat) (rs : Nat → Nat → R.S.W), SameX a H H' → Dr H' a → RowsL R W 2 n rs v H' → (∀ i, i < n → o i < W) → (∀ i, i < n → rs i (o i) = R.S.one) → (∀ i j, i < j → j < n → rs j (o i) = R.S.zero) → Q v H'
theorem ok_law_steps (T : Txt K mg t) : FnOk Pr w K mg base CX0 38 t.law_steps t.d_law_steps ["_law_state_here", "_law_sort_here", "_law_many", "_law_wide"] (sp_steps (w := w) (base := base) T) := by
  refine T.F_law_steps.ok sc_law_steps (fun vs H Q E h => ?_) (fun cdv A outer s H vs Q E hr h => ?_)
  · obtain ⟨R, nm, p, a, so, n, W, _, rfl, _⟩ := h
    rfl
  · obtain ⟨R, nm, p, a, so, n, W, hS, rfl, ⟨hD, hso, hn, hW⟩, k⟩ := h
    have sl : 1000 < sizeLine := by decide
    refine ⟨_, (pss_cons (ps_set (i := 4) sc_law_steps.nd rfl (Or.inl rfl) (pe_lrange rfl rfl T.z_list rfl T.z_range (pa_cons (pv 3) pa_nil))) (pss_cons (ps_for PassesOwn.never rfl (pi_range1 rfl T.z_range (pa_cons (pv 3) pa_nil)) (pg_name (i := 5) sc_law_steps.nd rfl (Or.inl rfl)) (pss_one (ps_expr (pe_bm PySem.F.plainAttrs_list PySem.F.slot_list_insert PySem.F.type_list_insert mt_insert (pv 4) (pa_cons (pe_call (ok_law_next T) (hr.mono (by decide)) rfl T.m_law_next T.F_law_next.kp T.b_law_next .nil pass0 (pa_cons (pv 0) (pa_cons (pv 3) pa_nil))) (pa_cons (pe_bm PySem.F.plainAttrs_list PySem.F.slot_list_pop PySem.F.type_list_pop mt_popAt (pv 4) (pa_cons pe_int pa_nil)) pa_nil)))))) (pss_cons (ps_set (i := 6) sc_law_steps.nd rfl (Or.inl rfl) (pe_lst pa_nil)) (pss_cons (ps_for PassesOwn.never rfl (pi_range1 rfl T.z_range (pa_cons (pv 2) pa_nil)) (pg_name (i := 5) sc_law_steps.nd rfl (Or.inl rfl)) (pss_cons (ps_forget 8 (ps_hideA 8 "#1" (by decide) (ps_setC (i₀ := 7) (xs := ["_law_j"]) (by show List.Nodup (["_law_state_here", "_law_sort_here", "_law_many", "_law_wide", "_law_order", "_law_k", "_law_rows", "_law_row", "#1"] : List Str); decide +kernel) rfl (Or.inl rfl) rfl (show CompOk ["_law_state_here", "_law_sort_here", "_law_many", "_law_wide", "_law_order", "_law_k", "_law_rows", "_law_row", "#1"] (defScope s_law_steps) _ from ⟨rfl, by decide +kernel, by decide +kernel, by decide +kernel, by decide +kernel, by decide +kernel⟩) (pi_range1 rfl T.z_range (pa_cons (pv 3) pa_nil)) (fun _ _ _ _ _ => (pg_name (i := 9) (by show List.Nodup (["_law_state_here", "_law_sort_here", "_law_many", "_law_wide", "_law_order", "_law_k", "_law_rows", "_law_row", "#1", "_law_j"] : List Str); decide +kernel) rfl (Or.inl rfl))) (fun _ _ _ _ _ => (pe_call (ok_law_number (w := w) (base := base) T) (hr.mono (by decide)) rfl T.m_law_number T.F_law_number.kp T.b_law_number .nil pass0 (pa_cons (pv 1) (pa_cons pe_int pa_nil))))))) (pss_cons (ps_for PassesOwn.never rfl (pi_list (pe_slice sl_list (pv 4) (po_some (pe_op op_add (pv 5) pe_int)) po_none)) (pg_name (i := 8) sc_law_steps.nd rfl (Or.inl rfl)) (pss_one (ps_asg (pe_call (ok_law_weight T) (hr.mono (by decide)) rfl T.m_law_weight T.F_law_weight.kp T.b_law_weight .nil pass0 (pa_cons (pv 0) (pa_cons (pv 1) pa_nil))) (pg_sub (pv 7) (pv 8) set_list)))) (pss_cons (ps_asg (pe_call (ok_law_number T) (hr.mono (by decide)) rfl T.m_law_number T.F_law_number.kp T.b_law_number .nil pass0 (pa_cons (pv 1) (pa_cons pe_int pa_nil))) (pg_sub (pv 7) (pe_ix ix_list (pv 4) (pv 5) (fun _ _ => rfl)) set_list)) (pss_one (ps_expr (pe_bm PySem.F.plainAttrs_list PySem.F.slot_list_append PySem.F.type_list_append mt_append (pv 6) (pa_cons (pe_callTy call_tuple_of (by rfl) T.z_tuple boot_tuple (pa_cons (pv 7) pa_nil)) pa_nil)))))))) (pss_one (ps_ret (pv 6))))))), ?_⟩
    refine ⟨_, rfl, W, rfl, (by omega), fun op no => ?_⟩
    have t1 := same_upd (o := .lst ((List.range W).map vI)) no
    have k1 : upd H op (.lst ((List.range W).map vI)) op = some (.lst ((List.range W).map vI)) := upd_same
    have opa := ne_dr hD no
    show gName 4 (.ref op) [some (.ref a), some so, some (.int (n : Nat)), some (.int (W : Nat)), none, none, none, none, none] (upd H op (.lst ((List.range W).map vI))) _
    refine ⟨_, rfl, _, rfl, (by omega), (by omega), for_range (lo := 0) (n := (W : Int).toNat) (fun i σ H2 => ∃ v5 ol, σ = [some (.ref a), some so, some (.int (n : Nat)), some (.int (W : Nat)), some (.ref op), v5, none, none, none] ∧ SameX a H H2 ∧ Dr H2 a ∧ H2 op = some (.lst (ol.map vI)) ∧ OrdOk W ol) ⟨_, _, rfl, .of t1, hD.same t1, k1, OrdOk.start W⟩ ?_ ?_⟩
    · rintro i σ H2 hi ⟨v5, ol, rfl, q, d2, ho, O⟩
      have hW0 : 0 < W := by omega
      obtain ⟨h0, tl, rfl⟩ : ∃ h tl, ol = h :: tl := by
        cases ol with
        | nil => have := O.len; simp at this; omega
        | cons h tl => exact ⟨h, tl, rfl⟩
      have tlen : tl.length + 1 = W := O.len
      refine ⟨_, rfl, .inl ⟨rfl, _, SqL.of ho⟩, _, rfl, _, rfl, a, _, rfl, ⟨d2, by omega, by omega⟩, fun r H3 s3 d3 u0 u1 => ?_⟩
      have ho3 := s3 _ _ opa ho
      refine ⟨_, rfl, .inl ⟨rfl, _, SqL.of ho3⟩, op, _, 0, 0, vI h0, rfl, rfl, ho3, (by decide), (by decide), seq_nat (k := 0) (by rw [List.length_map]; simp), rfl, ?_⟩
      refine ⟨op, tl.map vI, r, vI h0, rfl, rfl, upd_same, u0, (by omega), (by rw [List.length_map]; omega), ?_⟩
      have d4 : Dr (upd (upd H3 op (.lst (tl.map vI))) op (.lst ((tl.map vI).take (min r.toNat (tl.map vI).length) ++ vI h0 :: (tl.map vI).drop (min r.toNat (tl.map vI).length)))) a := (d3.put opa).put opa
      refine ⟨_, tl.take (min r.toNat (tl.map vI).length) ++ h0 :: tl.drop (min r.toNat (tl.map vI).length), rfl, ((q.trans s3).put no).put no, d4, ?_, O.turn⟩
      rw [upd_same, List.map_append, List.map_cons, List.map_take, List.map_drop]
    · rintro σ H2 ⟨v5, ol, rfl, q, d2, ho, O⟩
      have olen := O.len
      refine ⟨(by show 0 ≤ sizeLine; decide), fun rp nr => ?_⟩
      have rpa := ne_dr d2 nr
      have nrH : H rp = none := by
        cases e : H rp with
        | none => rfl
        | some o =>
          have := q rp o rpa e
          rw [nr] at this
          cases this
      have rpo : rp ≠ op := fun e => by rw [e, ho] at nr; cases nr
      have t3 := same_upd (o := .lst []) nr
      have k3 : upd H2 rp (.lst []) rp = some (.lst []) := upd_same
      have q3 := q.put (o := .lst []) nrH
      have d3 := d2.same t3
      have ho3 := t3 _ _ ho
      show gName 6 (.ref rp) [some (.ref a), some so, some (.int (n : Nat)), some (.int (W : Nat)), some (.ref op), v5, none, none, none] (upd H2 rp (.lst [])) _
      revert k3 q3 d3 ho3
      generalize upd H2 rp (.lst []) = H3
      intro k3 q3 d3 ho3
      refine ⟨_, rfl, _, rfl, (by omega), (by omega), for_range (lo := 0) (n := (n : Int).toNat) (fun i σ H4 => ∃ v5 v7 v8 ys, σ = [some (.ref a), some so, some (.int (n : Nat)), some (.int (W : Nat)), some (.ref op), v5, some (.ref rp), v7, v8] ∧ SameX a H H4 ∧ Dr H4 a ∧ H4 op = some (.lst (ol.map vI)) ∧ H4 rp = some (.lst ys) ∧ Ents (StpR R W ol) ys i H4) ⟨_, _, _, [], rfl, q3, d3, ho3, k3, Ents.nil⟩ ?_ ?_⟩
      · rintro i σ H4 hi ⟨v5, v7, v8, ys, rfl, q4, d4, ho4, hy4, e4⟩
        have hi : i < n := by omega
        have ysl := e4.1
        refine ⟨rfl, _, rfl, _, rfl, (by omega), (by omega), comp_go (n := W) (fun j zs H5 => Same H4 H5 ∧ Ents (StpP R ol i) zs j H5) (by omega) ⟨Same.refl _, Ents.nil⟩ (fun j ys H2 q => q.2.1) ?_ ?_ ?_⟩
        · rintro j zs H5 hj ⟨q5, e5⟩
          refine ⟨(show j < (W : Int).toNat by omega), fun y H' hy => ?_⟩
          obtain ⟨rfl, rfl⟩ := hy
          refine ⟨⟨[some _], rfl, rfl⟩, _, rfl, R, nm, p, so, 0, hS, rfl, ⟨hso.same ((q4.trans (.of q5)).tt hD), by decide, by decide⟩, fun v H6 x s6 f6 e0 _ _ z6 => ?_⟩
          exact ⟨q5.trans s6, (e5.mono fun _ _ _ z => StpP.same s6.t z).snoc ⟨x, f6, R.S.sz_mono _ _ _ (by decide) z6, fun _ => e0 rfl⟩⟩
        · rintro zs H5 ⟨q5, e5⟩
          show (W : Int).toNat ≤ W
          omega
        · rintro zs H5 wp ⟨q5, e5⟩ nw
          have s6 := same_upd (o := .lst zs) nw
          have nw4 : H4 wp = none := q5.free nw
          have wpa := ne_dr d4 nw4
          have wpo : wp ≠ op := fun e => by rw [e, ho4] at nw4; cases nw4
          have wpr : wp ≠ rp := fun e => by rw [e, hy4] at nw4; cases nw4
          have k6 : upd H5 wp (.lst zs) wp = some (.lst zs) := upd_same
          have q6 := q5.trans s6
          have e6 := e5.mono fun _ _ _ z => StpP.same s6.t z
          revert q6 k6 e6
          generalize upd H5 wp (.lst zs) = H6
          intro k6 q6 e6
          show gName 7 (.ref wp) [some (.ref a), some so, some (.int (n : Nat)), some (.int (W : Nat)), some (.ref op), some (.int (0 + (i : Int))), some (.ref rp), v7, none] H6 _
          refine ⟨_, rfl, _, rfl, _, _, rfl, rfl, _, rfl, op, _, rfl, SqL.of (q6 _ _ ho4), fun cp nc => ?_⟩
          have ce : cutV (ol.map vI) (some (0 + (i : Int) + 1)) none = (ol.drop (i + 1)).map vI := by
            rw [show (0 : Int) + (i : Int) + 1 = ((i + 1 : Nat) : Int) by omega, cut_drop (by rw [List.length_map]; omega), List.map_drop]
          rw [ce]
          have s7 := same_upd (o := .lst ((ol.drop (i + 1)).map vI)) nc
          have k7 : upd H6 cp (.lst ((ol.drop (i + 1)).map vI)) cp = some (.lst ((ol.drop (i + 1)).map vI)) := upd_same
          have cpw : cp ≠ wp := fun e => by rw [e, k6] at nc; cases nc
          have q7 := q6.trans s7
          have cpa := ne_dr (d4.same q6) nc
          have k67 := s7 _ _ k6
          have e7 := e6.mono fun _ _ _ z => StpP.same s7.t z
          revert q7 k7 k67 e7
          generalize upd H6 cp (.lst ((ol.drop (i + 1)).map vI)) = H7
          intro k7 q7 k67 e7
          refine ⟨cp, rfl, ⟨_, SqL.of k7⟩, for_list (K := K) (a := cp) (xs := (ol.drop (i + 1)).map vI) (fun _ σ H8 => ∃ v8 zs, σ = [some (.ref a), some so, some (.int (n : Nat)), some (.int (W : Nat)), some (.ref op), some (.int (0 + (i : Int))), some (.ref rp), some (.ref wp), v8] ∧ SameX a H4 H8 ∧ Dr H8 a ∧ H8 cp = some (.lst ((ol.drop (i + 1)).map vI)) ∧ H8 wp = some (.lst zs) ∧ Ents (StpP R ol i) zs W H8) ⟨_, zs, rfl, .of q7, d4.same q7, k7, k67, e7⟩ (fun _ σ H2 _ ⟨_, _, _, _, _, h, _⟩ => SqL.of h) ?_ ?_⟩
          · rintro t' y σ H8 hy ⟨v8, zs, rfl, q8, d8, h8c, h8w, e8⟩
            obtain ⟨j, ej, rfl⟩ : ∃ j, ol[i + 1 + t']? = some j ∧ y = vI j := by
              rw [List.getElem?_map, List.getElem?_drop] at hy
              cases e : ol[i + 1 + t']? with
              | none => rw [e] at hy; cases hy
              | some j => rw [e] at hy; exact ⟨j, rfl, (Option.some.inj hy).symm⟩
            have hj : j < W := O.lt j (List.mem_of_getElem? ej)
            refine ⟨_, rfl, _, rfl, R, nm, p, a, so, hS, rfl, ⟨d8, hso.same ((q4.trans q8).tt hD)⟩, fun v H9 x s9 d9 f9 z9 => ?_⟩
            have h9w := s9 _ _ wpa h8w
            have h9c := s9 _ _ cpa h8c
            refine ⟨_, rfl, _, rfl, wp, zs, _, j, rfl, rfl, h9w, ixN_nat (by rw [e8.1]; exact hj), ?_⟩
            have st := sameT_lst (o := .lst (zs.set j v)) h9w
            refine ⟨_, zs.set j v, rfl, (q8.trans s9).put nw4, d9.put wpa, by rw [upd_ne cpw]; exact h9c, upd_same, ?_⟩
            refine (ents_put (e8.mono fun _ _ _ z => StpP.same (s9.tt d8) z) ⟨x, f9, z9, fun h => absurd ej (h _ (by omega))⟩).mono fun _ _ _ z => StpP.same st z
          · rintro σ H8 ⟨v8, zs, rfl, q8, d8, h8c, h8w, e8⟩
            have qq := q4.trans q8
            refine ⟨_, rfl, R, nm, p, so, 1, hS, rfl, ⟨hso.same (qq.tt hD), by decide, by decide⟩, fun v H9 x s9 f9 _ e1 _ z9 => ?_⟩
            cases e1 rfl
            have d9 := d8.same s9
            have h9w := s9 _ _ h8w
            have h9o := s9 _ _ (q8 _ _ opa ho4)
            have h9y := s9 _ _ (q8 _ _ rpa hy4)
            have hil : i < ol.length := by omega
            have eo : ol[i]? = some ol[i] := List.getElem?_eq_getElem hil
            have oi : ol.getD i 0 = ol[i] := by rw [List.getD_eq_getElem?_getD, eo]; rfl
            have oW : ol[i] < W := O.lt _ (List.getElem_mem hil)
            have ao : atI (ol.map vI) (0 + (i : Int)) = some (vI ol[i]) := by
              rw [Int.zero_add]
              exact atI_nat (by rw [List.getElem?_map, eo]; rfl)
            refine ⟨_, rfl, _, rfl, _, rfl, _, _, _, _, rfl, rfl, SqL.of h9o, ao, wp, zs, _, ol[i], rfl, rfl, h9w, ixN_nat (by rw [e8.1]; exact oW), ?_⟩
            have st := sameT_lst (o := .lst (zs.set ol[i] v)) h9w
            have ef := ents_put2 (P' := fun q u H => ∃ x : R.S.W, R.is H u x ∧ R.S.sz 2 x ∧ (q = ol[i] → x = R.S.one) ∧ (q ≠ ol[i] → (∀ j : Nat, i < j → ol[j]? ≠ some q) → x = R.S.zero)) (j := ol[i]) (u := v) (e8.mono fun _ _ _ z => StpP.same s9.t z) ⟨_, f9, R.S.sz_mono _ _ _ (by decide) z9, fun _ => rfl, fun z => absurd rfl z⟩ (fun q u ne ⟨x, a1, a2, a3⟩ => ⟨x, a1, a2, fun z => absurd z ne, fun _ => a3⟩)
            obtain ⟨xf, ef⟩ := ents_pick R.S.zero ef
            have q10 : SameX a H4 (upd H9 wp (.lst (zs.set ol[i] v))) := (q8.trans (.of s9)).put nw4
            have d10 := d9.put (o := .lst (zs.set ol[i] v)) wpa
            have k10 : upd H9 wp (.lst (zs.set ol[i] v)) wp = some (.lst (zs.set ol[i] v)) := upd_same
            have h10y : upd H9 wp (.lst (zs.set ol[i] v)) rp = some (.lst ys) := by rw [upd_ne (Ne.symm wpr)]; exact h9y
            have h10o : upd H9 wp (.lst (zs.set ol[i] v)) op = some (.lst (ol.map vI)) := by rw [upd_ne (Ne.symm wpo)]; exact h9o
            revert q10 d10 k10 h10y h10o st
            generalize upd H9 wp (.lst (zs.set ol[i] v)) = H10
            intro st q10 d10 k10 h10y h10o
            refine ⟨_, rfl, .inl ⟨rfl, _, SqL.of h10y⟩, _, rfl, wp, _, rfl, .inl ⟨SqL.of k10, fun tp nt => ?_⟩⟩
            have s11 := same_upd (o := .tup (zs.set ol[i] v)) nt
            have k11 : upd H10 tp (.tup (zs.set ol[i] v)) tp = some (.tup (zs.set ol[i] v)) := upd_same
            revert s11 k11
            generalize upd H10 tp (.tup (zs.set ol[i] v)) = H11
            intro s11 k11
            have h11y := s11 _ _ h10y
            have q11 := q10.trans (.of s11)
            have d11 := d10.same s11
            refine ⟨rp, ys, _, rfl, rfl, h11y, (by omega), ?_⟩
            have st2 := sameT_lst (o := .lst (ys ++ [V.ref tp])) h11y
            refine ⟨_, _, _, ys ++ [V.ref tp], rfl, (q4.trans q11).put nrH, d11.put rpa, by rw [upd_ne (Ne.symm rpo)]; exact s11 _ _ h10o, upd_same, ?_⟩
            refine Ents.snoc (e4.mono fun _ _ _ z => StpR.same ((q11.tt d4).trans st2) z) ⟨xf, ⟨tp, _, rfl, st2 _ _ k11, ef.mono fun _ _ _ z => ⟨R.same (st.trans (s11.t.trans st2)) z.1, z.2.1⟩⟩, ?_, fun q hq => ?_⟩
            · obtain ⟨u, eu, z⟩ := ef.2 ol[i] oW
              rw [oi]
              exact z.2.2.1 rfl
            · have hql : q < ol.length := by omega
              have eq' : ol[q]? = some ol[q] := List.getElem?_eq_getElem hql
              have oq : ol.getD q 0 = ol[q] := by rw [List.getD_eq_getElem?_getD, eq']; rfl
              obtain ⟨u, eu, z⟩ := ef.2 ol[q] (O.lt _ (List.getElem_mem hql))
              rw [oq]
              have nd := List.pairwise_iff_getElem.mp (List.nodup_iff_pairwise_ne.mp O.nd)
              refine z.2.2.2 (nd q i hql hil hq) fun j hj ej => ?_
              obtain ⟨hjl, e2⟩ := List.getElem?_eq_some_iff.mp ej
              exact nd q j hql hjl (by omega) e2.symm
      · rintro σ H4 ⟨v5, v7, v8, ys, rfl, q4, d4, ho4, hy4, e4⟩
        rw [show (n : Int).toNat = n by omega] at e4
        obtain ⟨rs, e5⟩ := ents_pick (fun _ => R.S.zero) e4
        refine ⟨_, rfl, k _ _ (fun i => ol.getD i 0) rs q4 d4 ⟨rp, ys, rfl, hy4, e5.mono fun _ _ _ z => z.1⟩ (fun i hi => ?_) (fun i hi => ?_) (fun i j hij hj => ?_)⟩
        · have hil : i < ol.length := by omega
          show ol.getD i 0 < W
          rw [List.getD_eq_getElem?_getD, List.getElem?_eq_getElem hil]
          exact O.lt _ (List.getElem_mem hil)
        · obtain ⟨u, _, z⟩ := e5.2 i hi
          exact z.2.1
        · obtain ⟨u, _, z⟩ := e5.2 j hj
          exact z.2.2 i hij
theorem sm_trunc {S : SR} {f : Nat → S.W} {k : Nat} : ∀ {n : Nat}, k ≤ n → (∀ j, k ≤ j → j < n → f j = S.zero) → sm S f n = sm S f k
  | 0, h, _ => by rw [show k = 0 by omega]
  | n + 1, h, z => by
    by_cases e : k = n + 1
    · rw [e]
    · show S.add _ _ = _
      rw [z n (by omega) (by omega), S.add_zero]
      exact sm_trunc (by omega) fun j h1 h2 => z j h1 (by omega)
theorem lin_cut {S : SR} {c : Nat → S.W} {rs : Nat → Nat → S.W} {k n j : Nat} (h : k ≤ n) : lin S (fun i => if i < k then c i else S.zero) rs n j = lin S c rs k j := by
  unfold lin
  rw [sm_trunc h fun i h1 _ => by dsimp only; rw [if_neg (by omega), f_zm]]
  exact sm_congr fun i hi => by dsimp only; rw [if_pos hi]
def MixP (R : KindR Pr w K mg base) (W m n : Nat) (rs : Nat → Nat → R.S.W) : Nat → V → Hp → Prop := fun i u H => ∃ x : (Nat → R.S.W) × (Nat → R.S.W), R.Row W x.1 m u H ∧ (∀ j, j < W → x.1 j = lin R.S x.2 rs n j) ∧ (i < n → x.2 i = R.S.one) ∧ ∀ j, i < j → j < n → i < n → x.2 j = R.S.zero
theorem MixP.same {R : KindR Pr w K mg base} {W m n i : Nat} {rs : Nat → Nat → R.S.W} {u : V} {H H' : Hp} (s : SameT H H') (h : MixP R W m n rs i u H) : MixP R W m n rs i u H' := by
  obtain ⟨x, a, b⟩ := h
  exact ⟨x, KindR.Row.same s a, b⟩
def ExW2 (R : KindR Pr w K mg base) : Nat → V → Hp → Prop := fun _ u H => ∃ x : R.S.W, R.is H u x ∧ R.S.sz 2 x
theorem ExW2.same {R : KindR Pr w K mg base} {j : Nat} {u : V} {H H' : Hp} (s : SameT H H') (h : ExW2 R j u H) : ExW2 R j u H' := by
  obtain ⟨x, a, b⟩ := h
  exact ⟨x, R.same s a, b⟩
def sp_mixed (T : Txt K mg t) : Sp := fun vs H Q _ => ∃ (R : KindR Pr w K mg base), ∃ nm p, ∃ (a : Addr), ∃ so rv, ∃ (W m n more : Nat), ∃ rs, So T R nm p ∧ vs = [.ref a, so, rv, .int (more : Nat)] ∧ (Dr H a ∧ SortAt H so nm p ∧ RowsL R W m n rs rv H ∧ 1 ≤ n ∧ n ≤ 100 ∧ more ≤ 100 ∧ W ≤ 1000 ∧ Sml R.S (n * (2 + m + 1) + (2 + m))) ∧
  ∀ v H' (ms B : Nat → Nat → R.S.W), SameX a H H' → Dr H' a → RowsL R W (n * (2 + m + 1)) (n + more) ms v H' → (∀ i, i < n + more → ∀ j, j < W → ms i j = lin R.S (B i) rs n j) → (∀ i, i < n → B i i = R.S.one) → (∀ i j, i < j → j < n → B i j = R.S.zero) → Q v H'
theorem ok_law_mixed (T : Txt K mg t) : FnOk Pr w K mg base CX0 39 t.law_mixed t.d_law_mixed ["_law_state_here", "_law_sort_here", "_law_rows", "_law_more"] (sp_mixed (w := w) (base := base) T) := by
  refine T.F_law_mixed.ok sc_law_mixed (fun vs H Q E h => ?_) (fun cdv A outer s H vs Q E hr h => ?_)
  · obtain ⟨R, nm, p, a, so, rv, W, m, n, more, rs, _, rfl, _⟩ := h
    rfl
  · obtain ⟨R, nm, p, a, so, rv, W, m, n, more, rs, hS, rfl, ⟨hD, hso, hR, n1, hn, hm, hW, hz⟩, k⟩ := h
    have sl : 1000 < sizeLine := by decide
    refine ⟨_, (pss_cons (ps_set (i := 4) sc_law_mixed.nd rfl (Or.inl rfl) (pe_callB call_len (by rfl) T.z_len PySem.boot_len (pa_cons (pe_ix ix_list (pv 2) pe_int (fun _ _ => rfl)) pa_nil))) (pss_cons (ps_set (i := 5) sc_law_mixed.nd rfl (Or.inl rfl) (pe_lst pa_nil)) (pss_cons (ps_for PassesOwn.never rfl (pi_range1 rfl T.z_range (pa_cons (pe_callB call_len (by rfl) T.z_len PySem.boot_len (pa_cons (pv 2) pa_nil)) pa_nil)) (pg_name (i := 6) sc_law_mixed.nd rfl (Or.inl rfl)) (pss_cons (ps_set (i := 7) sc_law_mixed.nd rfl (Or.inl rfl) (pe_op op_cat (pe_comp (xs := ["_law_j"]) rfl (show CompOk ["_law_state_here", "_law_sort_here", "_law_rows", "_law_more", "_law_wide", "_law_mixed_here", "_law_k", "_law_by_here"] (defScope s_law_mixed) _ from ⟨rfl, by decide +kernel, by decide +kernel, by decide +kernel, by decide +kernel, by decide +kernel⟩) (pi_range1 rfl T.z_range (pa_cons (pv 6) pa_nil)) (fun _ _ _ _ _ => (pg_name (i := 8) (by show List.Nodup (["_law_state_here", "_law_sort_here", "_law_rows", "_law_more", "_law_wide", "_law_mixed_here", "_law_k", "_law_by_here", "_law_j"] : List Str); decide +kernel) rfl (Or.inl rfl))) (fun _ _ _ _ _ => (pe_call (ok_law_weight (w := w) (base := base) T) (hr.mono (by decide)) rfl T.m_law_weight T.F_law_weight.kp T.b_law_weight .nil pass0 (pa_cons (pv 0) (pa_cons (pv 1) pa_nil))))) (pe_lst (pa_cons (pe_call (ok_law_number T) (hr.mono (by decide)) rfl T.m_law_number T.F_law_number.kp T.b_law_number .nil pass0 (pa_cons (pv 1) (pa_cons pe_int pa_nil))) pa_nil)))) (pss_one (ps_expr (pe_bm PySem.F.plainAttrs_list PySem.F.slot_list_append PySem.F.type_list_append mt_append (pv 5) (pa_cons (pe_call (ok_law_sum T) (hr.mono (by decide)) rfl T.m_law_sum T.F_law_sum.kp T.b_law_sum .nil pass0 (pa_cons (pv 1) (pa_cons (pv 7) (pa_cons (pv 2) (pa_cons (pv 4) pa_nil))))) pa_nil)))))) (pss_cons (ps_for PassesOwn.never rfl (pi_range1 rfl T.z_range (pa_cons (pv 3) pa_nil)) (pg_name (i := 6) sc_law_mixed.nd rfl (Or.inl rfl)) (pss_one (ps_expr (pe_bm PySem.F.plainAttrs_list PySem.F.slot_list_append PySem.F.type_list_append mt_append (pv 5) (pa_cons (pe_call (ok_law_sum T) (hr.mono (by decide)) rfl T.m_law_sum T.F_law_sum.kp T.b_law_sum .nil pass0 (pa_cons (pv 1) (pa_cons (pe_comp (xs := ["_law_row"]) rfl (show CompOk ["_law_state_here", "_law_sort_here", "_law_rows", "_law_more", "_law_wide", "_law_mixed_here", "_law_k", "_law_by_here"] (defScope s_law_mixed) _ from ⟨rfl, by decide +kernel, by decide +kernel, by decide +kernel, by decide +kernel, by decide +kernel⟩) (pi_list (pv 2)) (fun _ _ _ _ _ => (pg_name (i := 8) (by show List.Nodup (["_law_state_here", "_law_sort_here", "_law_rows", "_law_more", "_law_wide", "_law_mixed_here", "_law_k", "_law_by_here", "_law_row"] : List Str); decide +kernel) rfl (Or.inl rfl))) (fun _ _ _ _ _ => (pe_call (ok_law_weight (w := w) (base := base) T) (hr.mono (by decide)) rfl T.m_law_weight T.F_law_weight.kp T.b_law_weight .nil pass0 (pa_cons (pv 0) (pa_cons (pv 1) pa_nil))))) (pa_cons (pv 2) (pa_cons (pv 4) pa_nil))))) pa_nil))))) (pss_one (ps_ret (pv 5))))))), ?_⟩
    obtain ⟨b, us, rfl, hb, eR⟩ := id hR
    obtain ⟨u0, eu0, ru0⟩ := eR.2 0 n1
    refine ⟨_, rfl, _, _, _, _, rfl, rfl, SqL.of hb, atI_nat (j := 0) eu0, _, _, rfl, ru0.len, ?_⟩
    show gName 4 (.int (W : Nat)) [some (.ref a), some so, some (.ref b), some (.int (more : Nat)), none, none, none, none] H _
    refine ⟨(by show 0 ≤ sizeLine; decide), fun mp nm0 => ?_⟩
    have t1 := same_upd (o := .lst []) nm0
    have k1 : upd H mp (.lst []) mp = some (.lst []) := upd_same
    have mpa := ne_dr hD nm0
    show gName 5 (.ref mp) [some (.ref a), some so, some (.ref b), some (.int (more : Nat)), some (.int (W : Nat)), none, none, none] (upd H mp (.lst [])) _
    have zl : ∀ i, i < n → (i + 1) * (2 + m + 1) ≤ n * (2 + m + 1) := fun i hi => Nat.mul_le_mul_right _ hi
    refine ⟨_, rfl, _, _, rfl, (hR.same t1).len, _, rfl, (by omega), (by omega), for_range (lo := 0) (n := (n : Int).toNat) (fun i σ H2 => ∃ v6 v7 ys, σ = [some (.ref a), some so, some (.ref b), some (.int (more : Nat)), some (.int (W : Nat)), some (.ref mp), v6, v7] ∧ SameX a H H2 ∧ Dr H2 a ∧ H2 mp = some (.lst ys) ∧ Ents (MixP R W (n * (2 + m + 1)) n rs) ys i H2) ⟨_, _, [], rfl, .of t1, hD.same t1, k1, Ents.nil⟩ ?_ ?_⟩
    · rintro i σ H2 hi ⟨v6, v7, ys, rfl, q, d2, h2, e2⟩
      have hi : i < n := by omega
      have ysl := e2.1
      refine ⟨_, rfl, _, rfl, (by omega), (by omega), comp_go (n := i) (fun j zs H3 => SameX a H2 H3 ∧ Dr H3 a ∧ Ents (ExW2 R) zs j H3) (by omega) ⟨SameX.refl _ _, d2, Ents.nil⟩ (fun j ys H2 q => q.2.2.1) ?_ ?_ ?_⟩
      · rintro j zs H3 hj ⟨q3, d3, e3⟩
        refine ⟨(show j < (0 + (i : Int)).toNat by omega), fun y H' hy => ?_⟩
        obtain ⟨rfl, rfl⟩ := hy
        refine ⟨⟨[some _], rfl, rfl⟩, _, rfl, _, rfl, R, nm, p, a, so, hS, rfl, ⟨d3, hso.same ((q.trans q3).tt hD)⟩, fun v H4 x s4 d4 f4 z4 => ?_⟩
        exact ⟨q3.trans s4, d4, (e3.mono fun _ _ _ z => ExW2.same (s4.tt d3) z).snoc ⟨x, f4, z4⟩⟩
      · rintro zs H3 ⟨q3, d3, e3⟩
        show (0 + (i : Int)).toNat ≤ i
        omega
      · rintro zs H3 cp ⟨q3, d3, e3⟩ nc
        have s4 := same_upd (o := .lst zs) nc
        have k4 : upd H3 cp (.lst zs) cp = some (.lst zs) := upd_same
        have q4 := q3.trans (.of s4)
        have d4 := d3.same s4
        have e4 := e3.mono fun _ _ _ z => ExW2.same s4.t z
        revert k4 q4 d4 e4
        generalize upd H3 cp (.lst zs) = H4
        intro k4 q4 d4 e4
        refine ⟨_, rfl, R, nm, p, so, 1, hS, rfl, ⟨hso.same ((q.trans q4).tt hD), by decide, by decide⟩, fun ov H5 x5 s5 f5 _ o5 _ z5 => ?_⟩
        cases o5 rfl
        refine ⟨(by show 1 ≤ sizeLine; decide), fun p6 n6 => ?_⟩
        have s6 := same_upd (o := .lst [ov]) n6
        have k6 : upd H5 p6 (.lst [ov]) p6 = some (.lst [ov]) := upd_same
        revert s6 k6
        generalize upd H5 p6 (.lst [ov]) = H6
        intro s6 k6
        have zsl := e4.1
        refine ⟨cp, p6, _, _, rfl, rfl, (s5.trans s6) _ _ k4, k6, (by show zs.length + 1 ≤ _; omega), fun p7 n7 => ?_⟩
        have s7 := same_upd (o := .lst (zs ++ [ov])) n7
        have k7 : upd H6 p7 (.lst (zs ++ [ov])) p7 = some (.lst (zs ++ [ov])) := upd_same
        have s57 := s5.trans (s6.trans s7)
        have f7 := R.same (s6.trans s7).t f5
        show gName 7 (.ref p7) [some (.ref a), some so, some (.ref b), some (.int (more : Nat)), some (.int (W : Nat)), some (.ref mp), some (.int (0 + (i : Int))), v7] (upd H6 p7 (.lst (zs ++ [ov]))) _
        revert k7 s57 f7
        generalize upd H6 p7 (.lst (zs ++ [ov])) = H7
        intro k7 s57 f7
        have e57 := e4.mono fun _ _ _ z => ExW2.same s57.t z
        obtain ⟨c0, e7⟩ := ents_pick (P := fun _ x u H => R.is H u x ∧ R.S.sz 2 x) R.S.zero e57
        have q7 := q4.trans (.of s57)
        have d7 := d4.same s57
        have qq := q.trans q7
        have hR7 : RowsL R W m n rs (.ref b) H7 := RowsL.samx qq hD n1 hR
        have h7 := q7 _ _ mpa h2
        have ec : Ents (R.Wt (fun j => if j < i then c0 j else R.S.one) 2) (zs ++ [ov]) (i + 1) H7 := by
          refine Ents.snoc (e7.mono fun j u hj z => ?_) ?_
          · show R.is H7 u (if j < i then c0 j else R.S.one) ∧ R.S.sz 2 (if j < i then c0 j else R.S.one)
            rw [if_pos hj]
            exact z
          · show R.is H7 ov (if i < i then c0 i else R.S.one) ∧ R.S.sz 2 (if i < i then c0 i else R.S.one)
            rw [if_neg (Nat.lt_irrefl i)]
            exact ⟨f7, R.S.sz_mono _ _ _ (by decide) z5⟩
        have zli := zl i hi
        refine ⟨_, rfl, .inl ⟨rfl, _, SqL.of h7⟩, _, rfl, _, rfl, _, rfl, _, rfl, R, nm, p, so, _, _, i + 1, n, W, 2, m, _, rs, hS, rfl, ⟨hso.same (qq.tt hD), SeqOf.list k7 ec, hR7.seq, hi, hW, by omega, hz.le (by omega)⟩, fun sv H8 s8 r8 => ?_⟩
        have h8 := s8 _ _ h7
        refine ⟨mp, ys, sv, rfl, rfl, h8, (by omega), ?_⟩
        have st := sameT_lst (o := .lst (ys ++ [sv])) h8
        refine ⟨_, _, ys ++ [sv], rfl, (qq.trans (.of s8)).put nm0, (d7.same s8).put mpa, upd_same, ?_⟩
        refine Ents.snoc (e2.mono fun _ _ _ z => MixP.same (((q7.trans (.of s8)).tt d2).trans st) z) ⟨(_, fun j => if j < i + 1 then (if j < i then c0 j else R.S.one) else R.S.zero), KindR.Row.same st (Row.up zli r8), fun j hj => ?_, fun _ => ?_, fun j h1 h2 h3 => ?_⟩
        · show lin R.S _ rs (i + 1) j = _
          rw [lin_cut (by omega)]
        · show (if i < i + 1 then (if i < i then c0 i else R.S.one) else R.S.zero) = R.S.one
          rw [if_pos (Nat.lt_succ_self i), if_neg (Nat.lt_irrefl i)]
        · show (if j < i + 1 then (if j < i then c0 j else R.S.one) else R.S.zero) = R.S.zero
          rw [if_neg (by omega)]
    · rintro σ H2 ⟨v6, v7, ys, rfl, q, d2, h2, e2⟩
      rw [show (n : Int).toNat = n by omega] at e2
      refine ⟨_, rfl, _, rfl, (by omega), (by omega), for_range (lo := 0) (n := (more : Int).toNat) (fun i σ H3 => ∃ v6 v7 ys, σ = [some (.ref a), some so, some (.ref b), some (.int (more : Nat)), some (.int (W : Nat)), some (.ref mp), v6, v7] ∧ SameX a H H3 ∧ Dr H3 a ∧ H3 mp = some (.lst ys) ∧ Ents (MixP R W (n * (2 + m + 1)) n rs) ys (n + i) H3) ⟨_, _, ys, rfl, q, d2, h2, e2⟩ ?_ ?_⟩
      · rintro i σ H2 hi ⟨v6, v7, ys, rfl, q, d2, h2, e2⟩
        have hi : i < more := by omega
        have ysl := e2.1
        have hR2 := RowsL.samx q hD n1 hR
        obtain ⟨b', us2, eb, hb2, eR2⟩ := id hR2
        cases eb
        have bne := hR2.ne n1 d2
        refine ⟨_, rfl, .inl ⟨rfl, _, SqL.of h2⟩, _, rfl, _, rfl, b, rfl, ⟨_, SqL.of hb2⟩, comp_go (n := n) (fun j zs H3 => SameX a H2 H3 ∧ Dr H3 a ∧ Ents (ExW2 R) zs j H3) (by omega) ⟨SameX.refl _ _, d2, Ents.nil⟩ (fun j ys H2 q => q.2.2.1) ?_ ?_ ?_⟩
        · rintro j zs H3 hj ⟨q3, d3, e3⟩
          obtain ⟨u, eu, _⟩ := eR2.2 j hj
          refine ⟨⟨_, _, SqL.of (q3 _ _ bne hb2), eu⟩, fun y H' hy => ?_⟩
          obtain ⟨rfl, hy⟩ := hy
          refine ⟨⟨[some _], rfl, rfl⟩, _, rfl, _, rfl, R, nm, p, a, so, hS, rfl, ⟨d3, hso.same ((q.trans q3).tt hD)⟩, fun v H4 x s4 d4 f4 z4 => ?_⟩
          exact ⟨q3.trans s4, d4, (e3.mono fun _ _ _ z => ExW2.same (s4.tt d3) z).snoc ⟨x, f4, z4⟩⟩
        · rintro zs H3 ⟨q3, d3, e3⟩
          exact ⟨_, SqL.of (q3 _ _ bne hb2), by rw [eR2.1]; exact Nat.le_refl _⟩
        · rintro zs H3 cp ⟨q3, d3, e3⟩ nc
          have s4 := same_upd (o := .lst zs) nc
          have k4 : upd H3 cp (.lst zs) cp = some (.lst zs) := upd_same
          have q4 := q3.trans (.of s4)
          have d4 := d3.same s4
          have e4 := e3.mono fun _ _ _ z => ExW2.same s4.t z
          revert k4 q4 d4 e4
          generalize upd H3 cp (.lst zs) = H4
          intro k4 q4 d4 e4
          obtain ⟨c0, e7⟩ := ents_pick R.S.zero e4
          have qq := q.trans q4
          have hR7 : RowsL R W m n rs (.ref b) H4 := RowsL.samx qq hD n1 hR
          have h7 := q4 _ _ mpa h2
          refine ⟨_, rfl, _, rfl, R, nm, p, so, _, _, n, n, W, 2, m, c0, rs, hS, rfl, ⟨hso.same (qq.tt hD), SeqOf.list k4 e7, hR7.seq, Nat.le_refl _, hW, by omega, hz⟩, fun sv H8 s8 r8 => ?_⟩
          have h8 := s8 _ _ h7
          refine ⟨mp, ys, sv, rfl, rfl, h8, (by omega), ?_⟩
          have st := sameT_lst (o := .lst (ys ++ [sv])) h8
          refine ⟨_, _, ys ++ [sv], rfl, (qq.trans (.of s8)).put nm0, (d4.same s8).put mpa, upd_same, ?_⟩
          exact Ents.snoc (e2.mono fun _ _ _ z => MixP.same (((q4.trans (.of s8)).tt d2).trans st) z) ⟨(_, c0), KindR.Row.same st r8, fun j hj => rfl, fun h => absurd (show n + i < n from h) (by omega), fun j h1 h2 h3 => absurd (show n + i < n from h3) (by omega)⟩
      · rintro σ H2 ⟨v6, v7, ys, rfl, q, d2, h2, e2⟩
        rw [show (more : Int).toNat = more by omega] at e2
        obtain ⟨f, e3⟩ := ents_pick (fun _ => R.S.zero, fun _ => R.S.zero) e2
        refine ⟨_, rfl, k _ _ (fun i => (f i).1) (fun i => (f i).2) q d2 ⟨mp, ys, rfl, h2, e3.mono fun _ _ _ z => z.1⟩ (fun i hi => ?_) (fun i hi => ?_) (fun i j hij hj => ?_)⟩
        · obtain ⟨u, _, z⟩ := e3.2 i hi
          exact z.2.1
        · obtain ⟨u, _, z⟩ := e3.2 i (by omega)
          exact z.2.2.1 hi
        · obtain ⟨u, _, z⟩ := e3.2 i (by omega)
          exact z.2.2.2 j hij hj (by omega)
/-! a machine as data -/
structure Gd (k : Nat) (d : PyData) : Prop where
  lay : d.canLay0 = true
  dep : d.depth ≤ k
  mix : noMix d d = true
theorem gd_all {k : Nat} : ∀ {ds : List PyData}, (∀ d ∈ ds, Gd k d) → PyData.canLayAll0 ds = true ∧ PyData.depthAll ds ≤ k ∧ noMixAll ds ds = true
  | [], _ => ⟨by simp [PyData.canLayAll0], by simp [PyData.depthAll], by simp [noMixAll]⟩
  | d :: ds, h => by
    obtain ⟨a, b, c⟩ := gd_all (ds := ds) fun x hx => h x (List.mem_cons_of_mem _ hx)
    have g := h d (List.mem_cons_self ..)
    have gd := g.dep
    exact ⟨by simp [PyData.canLayAll0, g.lay, a], by simp only [PyData.depthAll]; omega, by simp [noMixAll, g.mix, c]⟩
theorem Gd.tup {k : Nat} {ds : List PyData} (h : ∀ d ∈ ds, Gd k d) : Gd (k + 1) (.tuple ds) := by
  obtain ⟨a, b, c⟩ := gd_all h
  exact ⟨by simp [PyData.canLay0, a], by simp only [PyData.depth]; omega, by simp [noMix, c]⟩
theorem Gd.up {j k : Nat} {d : PyData} (h : Gd j d) (e : j ≤ k) : Gd k d := ⟨h.lay, Nat.le_trans h.dep e, h.mix⟩
theorem Gd.sh {k : Nat} {d : PyData} (h : Gd k d) (e : k ≤ 64) : shaped d = true := by
  have hd := h.dep
  unfold shaped
  rw [h.lay, decide_eq_true (by omega)]; rfl
theorem So.gd {T : Txt K mg t} {R : KindR Pr w K mg base} {nm : Str} {p : Int} (h : So T R nm p) (x : R.S.W) : Gd 2 (R.S.data x) := by
  refine ⟨canLay_of_shaped (R.S.sh x), ?_, R.S.nm x x⟩
  cases h with
  | fr => show PyData.depth (.tuple [.int _, .int _]) ≤ 2; simp [PyData.depth, PyData.depthAll]
  | re => show PyData.depth (.int _) ≤ 2; simp [PyData.depth]
theorem isAll_of {H : Hp} : ∀ (d : Nat → PyData) (vs : List V), (∀ j u, vs[j]? = some u → Is K H u (d j)) → IsAll K H vs ((List.range vs.length).map d)
  | _, [], _ => .nil
  | d, v :: vs, h => by
    rw [List.length_cons, List.range_succ_eq_map, List.map_cons, List.map_map]
    exact .cons (h 0 v rfl) (isAll_of (fun j => d (j + 1)) vs fun j u e => h (j + 1) u (by simpa using e))
def tupD (n : Nat) (d : Nat → PyData) : PyData := .tuple ((List.range n).map d)
theorem tup_is {Pd : Nat → V → Hp → Prop} {n : Nat} {v : V} {H : Hp} {d : Nat → PyData} (h : TupOf Pd n v H) (k : ∀ j u, j < n → Pd j u H → Is K H u (d j)) : Is K H v (tupD n d) := by
  obtain ⟨p, vs, rfl, hp, e⟩ := h
  have a := isAll_of (K := K) (H := H) d vs fun j u ej => by
    obtain ⟨hj, q⟩ := e.at ej
    exact k j u hj q
  rw [e.1] at a
  exact .tup (SqT.of hp) a
theorem tup_gd {k n : Nat} {d : Nat → PyData} (h : ∀ j, Gd k (d j)) : Gd (k + 1) (tupD n d) := Gd.tup fun x hx => by
  obtain ⟨j, _, rfl⟩ := List.mem_map.mp hx
  exact h j
theorem ok_law_whole (T : Txt K mg t) : FnOk Pr w K mg base CX0 1 t.law_whole t.d_law_whole ["_law_thing"] sp_whole := by
  refine T.F_law_whole.ok sc_law_whole (fun vs H Q E h => ?_) (fun cdv A outer s H vs Q E hr h => ?_)
  · obtain ⟨i, rfl, _⟩ := h
    rfl
  · obtain ⟨i, rfl, k⟩ := h
    refine ⟨_, (pss_one (ps_ret (pe_and (pe_callB call_isi (by rfl) T.z_isinstance boot_isinstance (pa_cons (pv 0) (pa_cons (pe_bltn (v := .ty "int") rfl T.z_int boot_int rfl) pa_nil))) (pe_one (pe_not (pe_callB call_isi (by rfl) T.z_isinstance boot_isinstance (pa_cons (pv 0) (pa_cons (pe_bltn (v := .ty "bool") rfl T.z_bool boot_bool rfl) pa_nil)))))))), ?_⟩
    (repeat (first | apply Exists.intro | refine And.intro rfl ?_ | refine And.intro (by with_reducible assumption) ?_ | refine And.intro (SqT.of (by assumption)) ?_ | refine And.intro (SqL.of (by assumption)) ?_ | refine And.intro (TyOf.int _) ?_ | refine And.intro (TyOf.tup (by assumption)) ?_ | refine And.intro T.k_ii ?_ | refine And.intro T.k_ib ?_ | refine And.intro T.k_tt ?_ | refine And.intro T.k_bb ?_ | refine And.intro T.nP ?_ | refine And.intro T.iF_is_field ?_ | refine And.intro T.iR_is_field ?_ | refine And.intro T.k_ll ?_))
    (try refine iteT ?_)
    (repeat (first | apply Exists.intro | refine And.intro rfl ?_ | refine And.intro (by with_reducible assumption) ?_ | refine And.intro (SqT.of (by assumption)) ?_ | refine And.intro (SqL.of (by assumption)) ?_ | refine And.intro (TyOf.int _) ?_ | refine And.intro (TyOf.tup (by assumption)) ?_ | refine And.intro T.k_ii ?_ | refine And.intro T.k_ib ?_ | refine And.intro T.k_tt ?_ | refine And.intro T.k_bb ?_ | refine And.intro T.nP ?_ | refine And.intro T.iF_is_field ?_ | refine And.intro T.iR_is_field ?_ | refine And.intro T.k_ll ?_))
    exact k
def sp_lis (T : Txt K mg t) : Sp := fun vs H Q _ => ∃ (R : KindR Pr w K mg base), ∃ nm p so v x, So T R nm p ∧ vs = [so, v] ∧ (SortAt H so nm p ∧ R.is H v x) ∧ Q (.bl true) H
theorem ok_law_is (T : Txt K mg t) : FnOk Pr w K mg base CX0 2 t.law_is t.d_law_is ["_law_sort_here", "_law_thing"] (sp_lis (w := w) (base := base) T) := by
  refine T.F_law_is.ok sc_law_is (fun vs H Q E h => ?_) (fun cdv A outer s H vs Q E hr h => ?_)
  · obtain ⟨R, nm, p, so, v, x, _, rfl, _⟩ := h
    rfl
  · obtain ⟨R, nm, p, so, v, x, hS, rfl, ⟨⟨q, rfl, hq⟩, hx⟩, k⟩ := h
    refine ⟨_, (pss_cons (ps_if (pt_cmpR op_eq (pe_ix ix_tup (pv 0) pe_int (fun _ _ => rfl)) pe_str (nomark _)) (pss_one (ps_ret (pe_and (pe_call (ok_law_whole T) (hr.mono (by decide)) rfl T.m_law_whole T.F_law_whole.kp T.b_law_whole .nil pass0 (pa_cons (pv 1) pa_nil)) (pe_one (pe_chain op_le op_lt pe_int (pv 1) (pe_ix ix_tup (pv 0) pe_int (fun _ _ => rfl))))))) pss_nil) (pss_cons (ps_if (PW.pt (pw_or (pt_not (pt_val (pe_callB call_isi (by rfl) T.z_isinstance boot_isinstance (pa_cons (pv 1) (pa_cons (pe_bltn (v := .ty "tuple") rfl T.z_tuple boot_tuple rfl) pa_nil))))) (pw_or (pt_cmpR op_ne (pe_callB call_len (by rfl) T.z_len PySem.boot_len (pa_cons (pv 1) pa_nil)) pe_int (nomark _)) (pw_or (pt_not (pt_val (pe_call (ok_law_whole T) (hr.mono (by decide)) rfl T.m_law_whole T.F_law_whole.kp T.b_law_whole .nil pass0 (pa_cons (pe_ix ix_tup (pv 1) pe_int (fun _ _ => rfl)) pa_nil)))) (pw_or1 (pt_not (pt_val (pe_call (ok_law_whole T) (hr.mono (by decide)) rfl T.m_law_whole T.F_law_whole.kp T.b_law_whole .nil pass0 (pa_cons (pe_ix ix_tup (pv 1) pe_int (fun _ _ => rfl)) pa_nil))))))))) (pss_one (ps_ret pe_bl)) pss_nil) (pss_one (ps_ret (pe_and (pe_cmpR op_gt (pe_ix ix_tup (pv 1) pe_int (fun _ _ => rfl)) pe_int (nomark _)) (pe_one (pe_cmpR op_eq (pe_call (ok_law_divisor T) (hr.mono (by decide)) rfl T.m_law_divisor T.F_law_divisor.kp T.b_law_divisor .nil pass0 (pa_cons (pe_ix ix_tup (pv 1) pe_int (fun _ _ => rfl)) (pa_cons (pe_ix ix_tup (pv 1) pe_int (fun _ _ => rfl)) pa_nil))) pe_int (nomark _)))))))), ?_⟩
    cases hS with
    | fr =>
      obtain ⟨px, rfl, hx⟩ := hx
      have hl : LenV K (.ref px) H 2 := .inr ⟨_, SqT.of hx, rfl⟩
      refine ⟨_, rfl, _, _, _, _, rfl, rfl, SqT.of hq, rfl, rfl, _, rfl, ?_⟩
      rw [show decide (V.str ("fractions" : Str) = V.str ("residues" : Str)) = false by decide +kernel]
      refine iteF ?_
      refine ⟨_, rfl, _, _, _, _, rfl, TyOf.tup hx, T.k_tt, _, rfl, ?_⟩
      (try refine iteF ?_)
      refine ⟨_, rfl, _, _, rfl, hl, rfl, _, rfl, ?_⟩
      (try dsimp only)
      refine iteNI (fun ne => absurd rfl ne) (fun _ => ?_)
      refine ⟨_, rfl, _, _, _, _, rfl, rfl, SqT.of hx, rfl, _, rfl, _, rfl, ?_⟩
      (try refine iteF ?_)
      refine ⟨_, rfl, _, _, _, _, rfl, rfl, SqT.of hx, rfl, _, rfl, _, rfl, ?_⟩
      (try refine iteF ?_)
      (try refine iteF ?_)
      refine ⟨_, rfl, _, _, _, _, rfl, rfl, SqT.of hx, rfl, _, _, rfl, rfl, _, rfl, ?_⟩
      refine iteP (fun _ => ?_) (fun h0 => absurd x.p (by omega))
      refine ⟨_, rfl, _, _, _, _, rfl, rfl, SqT.of hx, rfl, _, rfl, _, _, _, _, rfl, rfl, SqT.of hx, rfl, _, _, rfl, rfl, ?_⟩
      rw [show decide (V.int (dv x.t x.b) = V.int 1) = true from decI x.l]
      exact k
    | re p hp hq' hi =>
      cases (show v = .int x.x from hx)
      have x0 := x.h0
      have x1 := x.h1
      refine ⟨_, rfl, _, _, _, _, rfl, rfl, SqT.of hq, rfl, rfl, _, rfl, ?_⟩
      rw [show decide (V.str ("residues" : Str) = V.str ("residues" : Str)) = true by decide +kernel]
      refine iteT ?_
      refine ⟨_, rfl, _, rfl, _, rfl, ?_⟩
      refine iteT ?_
      refine ⟨_, rfl, _, _, rfl, rfl, _, rfl, ?_⟩
      refine iteP (fun _ => ?_) (fun h0 => absurd x0 (by omega))
      refine ⟨_, rfl, _, _, _, _, rfl, rfl, SqT.of hq, rfl, _, _, rfl, rfl, ?_⟩
      have e : Q (V.bl (decide (Re.x (p := p) x < p))) H := by rw [decide_eq_true x1]; exact k
      exact e
/-! lists of rows as data -/
theorem lst_gd {k n : Nat} {d : Nat → PyData} (h : ∀ j, Gd k (d j)) : Gd (k + 1) (.list ((List.range n).map d)) := by
  obtain ⟨a, b, c⟩ := gd_all (k := k) (ds := (List.range n).map d) fun x hx => by
    obtain ⟨j, _, rfl⟩ := List.mem_map.mp hx
    exact h j
  exact ⟨by simp [PyData.canLay0, a], by simp only [PyData.depth]; omega, by simp [noMix, c]⟩
theorem RowsL.is {R : KindR Pr w K mg base} {W m n : Nat} {rs : Nat → Nat → R.S.W} {v : V} {H : Hp} (h : RowsL R W m n rs v H) : Is K H v (.list ((List.range n).map fun i => tupD W fun j => R.S.data (rs i j))) := by
  obtain ⟨b, us, rfl, hb, e⟩ := h
  have a := isAll_of (K := K) (H := H) (fun i => tupD W fun j => R.S.data (rs i j)) us fun j u ej => by
    obtain ⟨hj, q⟩ := e.at ej
    exact tup_is q fun i u' _ q' => R.isd q'.1
  rw [e.1] at a
  exact .lst (SqL.of hb) a
theorem rows_gd {T : Txt K mg t} {R : KindR Pr w K mg base} {nm : Str} {p : Int} (hS : So T R nm p) {W n : Nat} {rs : Nat → Nat → R.S.W} : Gd 4 (.list ((List.range n).map fun i => tupD W fun j => R.S.data (rs i j))) := lst_gd fun i => tup_gd fun j => hS.gd (rs i j)
theorem tupD_congr {n : Nat} {d d' : Nat → PyData} (h : ∀ j, j < n → d j = d' j) : tupD n d = tupD n d' := by
  unfold tupD
  congr 1
  exact List.map_congr_left fun j hj => h j (List.mem_range.mp hj)
theorem wts_is {R : KindR Pr w K mg base} {m n : Nat} {c : Nat → R.S.W} {b : Addr} {us : List V} {H : Hp} (hb : H b = some (.lst us)) (e : Ents (R.Wt c m) us n H) : Is K H (.ref b) (.list ((List.range n).map fun i => R.S.data (c i))) := by
  have a := isAll_of (K := K) (H := H) (fun i => R.S.data (c i)) us fun j u ej => by
    obtain ⟨hj, q⟩ := e.at ej
    exact R.isd q.1
  rw [e.1] at a
  exact .lst (SqL.of hb) a
theorem Row.neF {T : Txt K mg t} {R : KindR Pr w K mg base} {nm : Str} {p : Int} (hS : So T R nm p) {n m m' : Nat} {x y : Nat → R.S.W} {u v : V} {H : Hp} {Q : VK} (hu : R.Row n x m u H) (hv : R.Row n y m' v H) (e : ∀ j, j < n → x j = y j) (q : Q (.bl false) H) : rNeD K u v H Q := by
  have hu' := Row.congr e hu
  have g : Gd 3 (tupD n fun j => R.S.data (y j)) := tup_gd fun j => hS.gd (y j)
  exact ⟨_, _, tup_is hu' fun i u' _ q' => R.isd q'.1, tup_is hv fun i u' _ q' => R.isd q'.1, g.sh (by decide), g.sh (by decide), g.mix, by rw [PySem.Spec.same_self]; exact q⟩
theorem wts_neF {T : Txt K mg t} {R : KindR Pr w K mg base} {nm : Str} {p : Int} (hS : So T R nm p) {n m m' : Nat} {c : Nat → R.S.W} {b b' : Addr} {us us' : List V} {H : Hp} {Q : VK} (h1 : H b = some (.lst us)) (e1 : Ents (R.Wt c m) us n H) (h2 : H b' = some (.lst us')) (e2 : Ents (R.Wt c m') us' n H) (q : Q (.bl false) H) : rNeD K (.ref b) (.ref b') H Q := by
  have g : Gd 3 (.list ((List.range n).map fun i => R.S.data (c i))) := lst_gd fun j => hS.gd (c j)
  exact ⟨_, _, wts_is h1 e1, wts_is h2 e2, g.sh (by decide), g.sh (by decide), g.mix, by rw [PySem.Spec.same_self]; exact q⟩
--K33
/-! inverses -/
theorem full_spn {S : SR} {F : Fld S} {W n : Nat} {vs : Nat → Nat → S.W} (rs : List (Nat → S.W)) (h : (kpL F W rs).length = W) (g : ∀ r ∈ rs, Spn S W n vs r) (u : Nat → S.W) : Spn S W n vs u := by
  have h1 := clr_from (F := F) (w := W) (n := n) (vs := vs) (ks := kpL F W rs) (u := u) (kpL_spn rs g)
  refine (h1.mul (F.neg S.one)).congr fun j hj => ?_
  rw [(kpL_Kp (F := F) (w := W) rs).full h j hj, f_za, f_nm, f_om, f_nn]
theorem if0 (n : Nat) : (if n = 0 then 0 else n) = n := by split <;> omega
theorem mrk_spn {S : SR} {n : Nat} {A : Nat → Nat → S.W} : ∀ r ∈ rws (mrk S n A) n, Spn S n n A r := fun r hr => by
  obtain ⟨i, hi, rfl⟩ := rws_mem hr
  exact (Spn.gen (vs := A) hi).congr fun j hj => cat_lt hj
theorem mrk_count {S : SR} {F : Fld S} {n : Nat} {A : Nat → Nat → S.W} (h : Ind S n n A) : (kpL F n (rws (mrk S n A) n)).length = n :=
  kpL_count _ mrk_spn h fun i hi => ⟨_, rws_of hi, fun j hj => (cat_lt hj).symm⟩
def sp_inverse_of (w : World) (K : PySem.W.Frag) (mg : Str → Option Value) (base : Heap) : Sp := fun vs H Q _ => ∃ (R : KindR Pr w K mg base), ∃ kv tv, ∃ (z n : Nat), ∃ A, vs = [kv, tv] ∧ (KAt R.C R.fs H kv ∧ R.Tab n n A (z - 1) tv H ∧ n ≤ 400 ∧ 1 ≤ z ∧ Sml R.S (z * 4 ^ n)) ∧
  (¬ Ind R.S n n A → ∀ H', Same H H' → Q .non H') ∧ ∀ v H' X, Same H H' → R.Tab n n X (zk z n) v H' → (∀ i, i < n → ∀ j, j < n → lin R.S (X i) A n j = unitW R.S i j) → Q v H'
theorem ok_inverse_of (T : Txt K mg t) : FnOk Pr w K mg base CX0 46 t.inverse_of t.d_inverse_of ["kind", "table"] (sp_inverse_of w K mg base) := by
  refine T.F_inverse_of.ok sc_inverse_of (fun vs H Q E h => ?_) (fun cdv A outer s H vs Q E hr h => ?_)
  · obtain ⟨R, kv, tv, z, n, A, rfl, _⟩ := h
    rfl
  · obtain ⟨R, kv, tv, z, n, Tb, rfl, ⟨hk, hT, hn, z1, hS⟩, k0, k1⟩ := h
    refine ⟨_, (pss_cons (ps_expr (pe_call (ok_need_field T) (hr.mono (by decide)) rfl T.m_need_field T.F_need_field.kp T.b_need_field .nil pass0 (pa_cons (pv 0) pa_nil))) (pss_cons (ps_set (i := 2) sc_inverse_of.nd rfl (Or.inr rfl) (pe_callB call_len (by rfl) T.z_len PySem.boot_len (pa_cons (pv 1) pa_nil))) (pss_cons (ps_set (i := 3) sc_inverse_of.nd rfl (Or.inr rfl) (pe_call (ok_kept_marked T) (hr.mono (by decide)) rfl T.m_kept_marked T.F_kept_marked.kp T.b_kept_marked .nil pass0 (pa_cons (pv 0) (pa_cons (pv 1) pa_nil)))) (pss_cons (ps_if (pt_cmpR op_lt (pe_callB call_len (by rfl) T.z_len PySem.boot_len (pa_cons (pv 3) pa_nil)) (pv 2) (nomark _)) (pss_one (ps_ret pe_non)) pss_nil) (pss_one (ps_ret (pe_callTy call_tuple_of (by rfl) T.z_tuple boot_tuple (pa_cons (pe_comp (xs := ["place"]) rfl (show CompOk ["kind", "table", "size", "kept"] (defScope s_inverse_of) _ from ⟨rfl, by decide +kernel, by decide +kernel, by decide +kernel, by decide +kernel, by decide +kernel⟩) (pi_range1 rfl T.z_range (pa_cons (pv 2) pa_nil)) (fun _ _ _ _ _ => (pg_name (i := 4) (by show List.Nodup (["kind", "table", "size", "kept", "place"] : List Str); decide +kernel) rfl (Or.inl rfl))) (fun _ _ _ _ _ => (pe_callTy (show CallR _ (.type "tuple") (fun xs H Q => ∃ p ys, xs = [.ref p] ∧ ((SqL K H p ys ∧ ∀ l, H l = none → Q (.ref l) (upd H l (.tup ys))) ∨ (SqT K H p ys ∧ Q (.ref p) H))) from call_tuple_of) (by rfl) T.z_tuple boot_tuple (pa_cons (pe_call (ok_parts_by (w := w) (base := base) T) (hr.mono (by decide)) rfl T.m_parts_by T.F_parts_by.kp T.b_parts_by .nil pass0 (pa_cons (pv 0) (pa_cons (pv 3) (pa_cons (pv 2) (pa_cons (pe_call (ok_unit (w := w) (base := base) T) (hr.mono (by decide)) rfl T.m_unit T.F_unit.kp T.b_unit .nil pass0 (pa_cons (pv 0) (pa_cons (pv 2) (pa_cons (pv 4) pa_nil)))) pa_nil))))) pa_nil)))) pa_nil)))))))), ?_⟩
    refine ⟨_, rfl, R, kv, rfl, hk, ?_⟩
    refine ⟨_, rfl, _, _, rfl, hT.len, ?_⟩
    show gName 2 (.int (n : Nat)) [some kv, some tv, none, none] H _
    refine ⟨_, rfl, _, rfl, R, kv, tv, n, z, n, Tb, rfl, ⟨hk, hT, hn, hn, z1, hS⟩, fun a H1 s1 hK => ?_⟩
    show gName 3 (.ref a) [some kv, some tv, some (.int (n : Nat)), none] H1 _
    have hK' := hK
    obtain ⟨us, ha, eK⟩ := hK'
    have KP := kpL_Kp (F := R.F) (w := if n = 0 then 0 else n) (rws (mrk R.S n Tb) n)
    have kl := KP.len
    rw [if0] at kl
    refine ⟨_, rfl, _, _, rfl, (show LenV K (.ref a) H1 (kpL R.F (if n = 0 then 0 else n) (rws (mrk R.S n Tb) n)).length from .inl ⟨_, SqL.of ha, eK.1.symm⟩), _, rfl, _, _, rfl, rfl, _, rfl, ?_⟩
    refine iteP (fun lt => ?_) (fun ge => ?_)
    · refine k0 (fun ind => ?_) _ s1
      have := mrk_count (F := R.F) ind
      rw [if0] at lt
      omega
    · have full : (kpL R.F n (rws (mrk R.S n Tb) n)).length = n := by
        rw [if0] at ge
        omega
      have all := full_spn (F := R.F) _ full (mrk_spn (A := Tb))
      refine ⟨_, rfl, _, rfl, (by omega), (by omega), comp_go (n := n) (fun j ys H2 => Same H H2 ∧ KeptL R (n + n) z (kpL R.F (if n = 0 then 0 else n) (rws (mrk R.S n Tb) n)) a H2 ∧ Ents (fun i u H => ∃ x, R.Row n x (zk z n) u H ∧ ∀ j, j < n → lin R.S x Tb n j = unitW R.S i j) ys j H2) (by omega) ⟨s1, hK, Ents.nil⟩ (fun j ys H2 q => q.2.2.1) ?_ ?_ ?_⟩
      · rintro j ys H2 hj ⟨q, K2, e⟩
        refine ⟨(show j < (n : Int).toNat by omega), fun y H' hy => ?_⟩
        obtain ⟨rfl, rfl⟩ := hy
        refine ⟨⟨[some _], rfl, rfl⟩, _, rfl, _, rfl, _, rfl, _, rfl, _, rfl, _, rfl, R, kv, _, _, n, j, z - 1, rfl, ⟨hk.same q, by omega, rfl, by omega⟩, fun uv H3 s3 r3 => ?_⟩
        refine ⟨R, kv, a, uv, n, z, n, Tb, _, rfl, ⟨hk.same (q.trans s3), K2.same s3, r3, hn, hn, z1, hS⟩, fun ns => absurd (all _) ns, fun lp us H4 c s4 hl4 e4 eq4 => ?_⟩
        refine ⟨lp, us, rfl, .inl ⟨SqL.of hl4, fun l2 n2 => ?_⟩⟩
        have s5 := same_upd (o := .tup us) n2
        have s35 := s3.trans (s4.trans s5)
        refine ⟨q.trans s35, K2.same s35, (e.mono fun _ _ _ ⟨x, r, z⟩ => ⟨x, KindR.Row.same s35.t r, z⟩).snoc ⟨c, ⟨l2, us, rfl, upd_same, e4.mono fun _ _ _ z => KindR.Wt.same s5.t z⟩, fun j hj => (eq4 j hj).symm⟩⟩
      · rintro ys H2 ⟨q, K2, e⟩
        show (n : Int).toNat ≤ n
        omega
      · rintro ys H2 l ⟨q, K2, e⟩ nl
        have s3 := same_upd (o := .lst ys) nl
        refine ⟨l, ys, rfl, .inl ⟨SqL.of upd_same, fun l2 n2 => ?_⟩⟩
        have s4 := same_upd (o := .tup ys) n2
        obtain ⟨X, e2⟩ := ents_pick (P := fun i x u H => R.Row n x (zk z n) u H ∧ ∀ j, j < n → lin R.S x Tb n j = unitW R.S i j) (fun _ => R.S.zero) e
        refine k1 _ _ X (q.trans (s3.trans s4)) ⟨l2, ys, rfl, upd_same, e2.mono fun _ _ _ z => KindR.Row.same (s3.trans s4).t z.1⟩ fun i hi => ?_
        obtain ⟨u, _, z⟩ := e2.2 i hi
        exact z.2
/-- a left inverse of free rows is a right one -/
theorem inv_right {S : SR} {F : Fld S} {n : Nat} {A X : Nat → Nat → S.W} (I : Ind S n n A) (h : ∀ i, i < n → ∀ j, j < n → lin S (X i) A n j = unitW S i j) : ∀ i, i < n → ∀ j, j < n → lin S (A i) X n j = unitW S i j := fun i hi j hj => by
  have key := I (fun q => S.add (lin S (A i) X n q) (F.neg (unitW S i q))) (fun q hq => ?_) j hj
  · exact f_eq (F := F) key
  · rw [lin_add, lin_neg F]
    have e1 : lin S (fun k => lin S (A i) X n k) A n q = A i q := by
      have := lin_lin (S := S) (A i) X A n n q
      show lin S (fun k => sm S (fun r => S.mul (A i r) (X r k)) n) A n q = _
      rw [← this, sm_congr (g := fun r => S.mul (A i r) (unitW S r q)) fun r hr => by rw [h r hr q hq]]
      rw [sm_one (i := q) hq fun r hr ne => by unfold unitW; rw [if_neg (Ne.symm ne), S.mul_zero]]
      unfold unitW
      rw [if_pos rfl, S.mul_one]
    have e2 : lin S (fun k => unitW S i k) A n q = A i q := lin_one hi
    rw [e1, e2]
    exact F.add_neg _
def sp_lby (T : Txt K mg t) : Sp := fun vs H Q _ => ∃ (R : KindR Pr w K mg base), ∃ nm p so ov hv, ∃ (n m1 m2 : Nat), ∃ X A, So T R nm p ∧ vs = [so, ov, hv] ∧ (SortAt H so nm p ∧ R.Tab n n X m1 ov H ∧ R.Tab n n A m2 hv H ∧ n ≤ 400 ∧ Sml R.S (n * (m1 + m2 + 1) + (m1 + m2))) ∧ ∀ v H', Same H H' → R.Tab n n (fun i => lin R.S (X i) A n) (n * (m1 + m2 + 1)) v H' → Q v H'
theorem ok_law_by (T : Txt K mg t) : FnOk Pr w K mg base CX0 39 t.law_by t.d_law_by ["_law_sort_here", "_law_one", "_law_other"] (sp_lby (w := w) (base := base) T) := by
  refine T.F_law_by.ok sc_law_by (fun vs H Q E h => ?_) (fun cdv A outer s H vs Q E hr h => ?_)
  · obtain ⟨R, nm, p, so, ov, hv, n, m1, m2, X, A, _, rfl, _⟩ := h
    rfl
  · obtain ⟨R, nm, p, so, ov, hv, n, m1, m2, X, Tb, hS, rfl, ⟨hso, hX, hT, hn, hz⟩, k⟩ := h
    refine ⟨_, (pss_one (ps_ret (pe_callTy call_tuple_of (by rfl) T.z_tuple boot_tuple (pa_cons (pe_comp (xs := ["_law_row"]) rfl (show CompOk ["_law_sort_here", "_law_one", "_law_other"] (defScope s_law_by) _ from ⟨rfl, by decide +kernel, by decide +kernel, by decide +kernel, by decide +kernel, by decide +kernel⟩) (pi_tup (pv 1)) (fun _ _ _ _ _ => (pg_name (i := 3) (by show List.Nodup (["_law_sort_here", "_law_one", "_law_other", "_law_row"] : List Str); decide +kernel) rfl (Or.inl rfl))) (fun _ _ _ _ _ => (pe_call (ok_law_sum (w := w) (base := base) T) (hr.mono (by decide)) rfl T.m_law_sum T.F_law_sum.kp T.b_law_sum .nil pass0 (pa_cons (pv 0) (pa_cons (pv 3) (pa_cons (pv 2) (pa_cons (pe_callB (show CallR _ (.builtin "len") (fun xs H Q => ∃ x n, xs = [x] ∧ LenV K x H n ∧ Q (V.int (n : Nat)) H) from call_len) (by rfl) T.z_len PySem.boot_len (pa_cons (pv 1) pa_nil)) pa_nil))))))) pa_nil)))), ?_⟩
    have hX0 := hX
    obtain ⟨op, us, rfl, ho, eo⟩ := hX
    refine ⟨_, rfl, op, rfl, ⟨_, SqT.of ho⟩, comp_go (n := n) (fun j ys H2 => Same H H2 ∧ Ents (fun i u H => R.Row n (lin R.S (X i) Tb n) (n * (m1 + m2 + 1)) u H) ys j H2) (by omega) ⟨Same.refl _, Ents.nil⟩ (fun j ys H2 q => q.2.1) ?_ ?_ ?_⟩
    · rintro j ys H2 hj ⟨q, e⟩
      obtain ⟨u, eu, pu⟩ := eo.2 j hj
      refine ⟨⟨_, _, SqT.of (q _ _ ho), eu⟩, fun y H' hy => ?_⟩
      obtain ⟨rfl, hy⟩ := hy
      have := hy _ (SqT.of (q _ _ ho))
      rw [eu] at this
      cases this
      refine ⟨⟨[some _], rfl, rfl⟩, _, rfl, _, rfl, _, rfl, _, rfl, _, _, rfl, (KindR.Tab.same q.t hX0).len, R, nm, p, so, _, _, n, n, n, m1, m2, X j, Tb, hS, rfl, ⟨hso.same q.t, (KindR.Row.same q.t pu).seq, (KindR.Tab.same q.t hT).seq, Nat.le_refl _, by omega, by omega, hz⟩, fun v H3 s3 r3 => ?_⟩
      exact ⟨q.trans s3, (e.mono fun _ _ _ z => KindR.Row.same s3.t z).snoc r3⟩
    · rintro ys H2 ⟨q, e⟩
      exact ⟨_, SqT.of (q _ _ ho), by rw [eo.1]; exact Nat.le_refl _⟩
    · rintro ys H2 l ⟨q, e⟩ nl
      have s3 := same_upd (o := .lst ys) nl
      refine ⟨l, ys, rfl, .inl ⟨SqL.of upd_same, fun l2 n2 => ?_⟩⟩
      have s4 := same_upd (o := .tup ys) n2
      exact k _ _ (q.trans (s3.trans s4)) ⟨l2, ys, rfl, upd_same, e.mono fun _ _ _ z => KindR.Row.same (s3.trans s4).t z⟩
def sp_ones (T : Txt K mg t) : Sp := fun vs H Q _ => ∃ (R : KindR Pr w K mg base), ∃ nm p so, ∃ (n : Nat), So T R nm p ∧ vs = [so, .int (n : Nat)] ∧ (SortAt H so nm p ∧ n ≤ 400) ∧ ∀ v H', Same H H' → R.Tab n n (unitW R.S) 0 v H' → Q v H'
theorem ok_law_ones (T : Txt K mg t) : FnOk Pr w K mg base CX0 2 t.law_ones t.d_law_ones ["_law_sort_here", "_law_many"] (sp_ones (w := w) (base := base) T) := by
  refine T.F_law_ones.ok sc_law_ones (fun vs H Q E h => ?_) (fun cdv A outer s H vs Q E hr h => ?_)
  · obtain ⟨R, nm, p, so, n, _, rfl, _⟩ := h
    rfl
  · obtain ⟨R, nm, p, so, n, hS, rfl, ⟨hso, hn⟩, k⟩ := h
    refine ⟨_, (pss_one (ps_ret (pe_callTy call_tuple_of (by rfl) T.z_tuple boot_tuple (pa_cons (pe_comp (xs := ["_law_k"]) rfl (show CompOk ["_law_sort_here", "_law_many"] (defScope s_law_ones) _ from ⟨rfl, by decide +kernel, by decide +kernel, by decide +kernel, by decide +kernel, by decide +kernel⟩) (pi_range1 rfl T.z_range (pa_cons (pv 1) pa_nil)) (fun _ _ _ _ _ => (pg_name (i := 2) (by show List.Nodup (["_law_sort_here", "_law_many", "_law_k"] : List Str); decide +kernel) rfl (Or.inr rfl))) (fun _ _ _ _ _ => (pe_callTy (show CallR _ (.type "tuple") (fun xs H Q => ∃ p ys, xs = [.ref p] ∧ ((SqL K H p ys ∧ ∀ l, H l = none → Q (.ref l) (upd H l (.tup ys))) ∨ (SqT K H p ys ∧ Q (.ref p) H))) from call_tuple_of) (by rfl) T.z_tuple boot_tuple (pa_cons (pe_comp (xs := ["_law_j"]) rfl (show CompOk ["_law_sort_here", "_law_many", "_law_k"] (rlS (defScope s_law_ones) _) _ from ⟨rfl, by decide +kernel, by decide +kernel, by decide +kernel, by decide +kernel, by decide +kernel⟩) (pi_range1 rfl T.z_range (pa_cons (pv 1) pa_nil)) (fun _ _ _ _ _ => (pg_name (i := 3) (by show List.Nodup (["_law_sort_here", "_law_many", "_law_k", "_law_j"] : List Str); decide +kernel) rfl (Or.inl rfl))) (fun _ _ _ _ _ => (pe_call (ok_law_number (w := w) (base := base) T) (hr.mono (by decide)) rfl T.m_law_number T.F_law_number.kp T.b_law_number .nil pass0 (pa_cons (pv 0) (pa_cons (pe_callTy call_int1 (by rfl) T.z_int boot_int (pa_cons (pe_cmpR op_eq (pv 3) (pv 2) (nomark _)) pa_nil)) pa_nil))))) pa_nil)))) pa_nil)))), ?_⟩
    refine ⟨_, rfl, _, rfl, (by omega), (by omega), comp_go (n := n) (fun j ys H2 => Same H H2 ∧ Ents (fun i u H => R.Row n (unitW R.S i) 0 u H) ys j H2) (by omega) ⟨Same.refl _, Ents.nil⟩ (fun j ys H2 q => q.2.1) ?_ ?_ ?_⟩
    · rintro j ys H2 hj ⟨q, e⟩
      refine ⟨(show j < (n : Int).toNat by omega), fun y H' hy => ?_⟩
      obtain ⟨rfl, rfl⟩ := hy
      refine ⟨⟨[some _], rfl, rfl⟩, ?_⟩
      refine ⟨_, rfl, _, rfl, (by omega), (by omega), comp_go (n := n) (fun i zs H3 => Same H' H3 ∧ Ents (R.Wt (unitW R.S j) 0) zs i H3) (by omega) ⟨Same.refl _, Ents.nil⟩ (fun j ys H2 q => q.2.1) ?_ ?_ ?_⟩
      · rintro i zs H3 hi ⟨q3, e3⟩
        refine ⟨(show i < (n : Int).toNat by omega), fun y H' hy => ?_⟩
        obtain ⟨rfl, rfl⟩ := hy
        refine ⟨⟨[some _], rfl, rfl⟩, _, rfl, _, rfl, _, rfl, rfl, .inr ⟨_, rfl, ?_⟩⟩
        by_cases e0 : i = j
        · rw [show (decide (V.int ((0 : Int) + (i : Int)) = V.int ((0 : Int) + (j : Int)))) = true from decI (by omega)]
          refine ⟨R, nm, p, so, 1, hS, rfl, ⟨hso.same (q.trans q3).t, by decide, by decide⟩, fun v H4 x s4 f4 _ o4 _ z4 => ?_⟩
          cases o4 rfl
          refine ⟨q3.trans s4, (e3.mono fun _ _ _ z => KindR.Wt.same s4.t z).snoc ?_⟩
          show R.is H4 v (unitW R.S j i) ∧ R.S.sz 0 (unitW R.S j i)
          unfold unitW
          rw [if_pos e0]
          exact ⟨f4, z4⟩
        · rw [show (decide (V.int ((0 : Int) + (i : Int)) = V.int ((0 : Int) + (j : Int)))) = false from decide_eq_false (fun z => by injection z with z; omega)]
          refine ⟨R, nm, p, so, 0, hS, rfl, ⟨hso.same (q.trans q3).t, by decide, by decide⟩, fun v H4 x s4 f4 o4 _ _ z4 => ?_⟩
          cases o4 rfl
          refine ⟨q3.trans s4, (e3.mono fun _ _ _ z => KindR.Wt.same s4.t z).snoc ?_⟩
          show R.is H4 v (unitW R.S j i) ∧ R.S.sz 0 (unitW R.S j i)
          unfold unitW
          rw [if_neg e0]
          exact ⟨f4, z4⟩
      · rintro zs H3 ⟨q3, e3⟩
        show (n : Int).toNat ≤ n
        omega
      · rintro zs H3 l ⟨q3, e3⟩ nl
        have s3 := same_upd (o := .lst zs) nl
        refine ⟨l, zs, rfl, .inl ⟨SqL.of upd_same, fun l2 n2 => ?_⟩⟩
        have s4 := same_upd (o := .tup zs) n2
        have q4 := q3.trans (s3.trans s4)
        exact ⟨q.trans q4, (e.mono fun _ _ _ z => KindR.Row.same q4.t z).snoc ⟨l2, zs, rfl, upd_same, e3.mono fun _ _ _ z => KindR.Wt.same (s3.trans s4).t z⟩⟩
    · rintro ys H2 ⟨q, e⟩
      show (n : Int).toNat ≤ n
      omega
    · rintro ys H2 l ⟨q, e⟩ nl
      have s3 := same_upd (o := .lst ys) nl
      refine ⟨l, ys, rfl, .inl ⟨SqL.of upd_same, fun l2 n2 => ?_⟩⟩
      have s4 := same_upd (o := .tup ys) n2
      exact k _ _ (q.trans (s3.trans s4)) ⟨l2, ys, rfl, upd_same, e.mono fun _ _ _ z => KindR.Row.same (s3.trans s4).t z⟩
--FIN
/-! the law -/
theorem eqF (R : KindR Pr w K mg base) {H : Hp} {x y : V} {a b : R.S.W} {Q : VK} (hx : R.is H x a) (hy : R.is H y b) (e : a ≠ b) (q : Q (.bl false) H) : rEqD K x y H Q :=
  ⟨_, _, R.isd hx, R.isd hy, R.S.sh _, R.S.sh _, R.S.nm _ _, by rw [R.S.ne _ _ e]; exact q⟩
theorem ind_scale {S : SR} (F : Fld S) {w n : Nat} {rs : Nat → Nat → S.W} {b : Nat → S.W} (h : Ind S w n rs) (hb : ∀ i, i < n → b i ≠ S.zero) : Ind S w n fun i j => S.mul (b i) (rs i j) := by
  intro c hc i hi
  have := h (fun i => S.mul (c i) (b i)) (fun j hj => by
    rw [← hc j hj]
    exact sm_congr fun k _ => S.mul_assoc _ _ _) i hi
  rw [S.mul_comm] at this
  exact f_no F this (hb i hi)
theorem Tab.neF {T : Txt K mg t} {R : KindR Pr w K mg base} {nm : Str} {p : Int} (hS : So T R nm p) {n k m m' : Nat} {x y : Nat → Nat → R.S.W} {u v : V} {H : Hp} {Q : VK} (hu : R.Tab k n x m u H) (hv : R.Tab k n y m' v H) (e : ∀ i, i < k → ∀ j, j < n → x i j = y i j) (q : Q (.bl false) H) : rNeD K u v H Q := by
  have hu' : R.Tab k n y m u H := hu.mono (SameT.refl _) fun i _ hi q => Row.congr (e i hi) q
  have g : Gd 4 (tupD k fun i => tupD n fun j => R.S.data (y i j)) := tup_gd fun i => tup_gd fun j => hS.gd (y i j)
  exact ⟨_, _, tup_is hu' fun i u' _ q' => tup_is q' fun i u' _ q' => R.isd q'.1, tup_is hv fun i u' _ q' => tup_is q' fun i u' _ q' => R.isd q'.1, g.sh (by decide), g.sh (by decide), g.mix, by rw [PySem.Spec.same_self]; exact q⟩
theorem Tab.up {R : KindR Pr w K mg base} {k n m m' : Nat} {x : Nat → Nat → R.S.W} {v : V} {H : Hp} (h : m ≤ m' ∨ ∀ k y, R.S.sz k y) (r : R.Tab k n x m v H) : R.Tab k n x m' v H := r.mono (SameT.refl _) fun _ _ _ q => q.mono (SameT.refl _) fun _ _ _ q => ⟨q.1, h.elim (fun h => R.S.sz_mono _ _ _ h q.2) fun h => h _ _⟩
def sp_law (K : PySem.W.Frag) : Sp := fun vs H Q _ => ∃ (a : Addr) (ns : List Int), vs = [.ref a] ∧ SqL K H a (ns.map V.int) ∧ ns.length ≤ 63 ∧ ∀ H', Q (.bl true) H'
theorem pow44 {W : Nat} (h : W ≤ 4) : 4 ^ W ≤ 256 := Nat.le_trans (Nat.pow_le_pow_right (by decide) h) (by decide)
theorem ents_skipT {R : KindR Pr w K mg base} {W m n k : Nat} {rs : Nat → Nat → R.S.W} {us : List V} {H : Hp} (h : Ents (fun i u H => R.Row W (rs i) m u H) us (n + 1) H) (hk : k < n + 1) : Ents (fun i u H => R.Row W (rs (skp k i)) m u H) (us.take k ++ us.drop (k + 1)) n H := by
  have hl := h.1
  have tl : (us.take k).length = k := by rw [List.length_take]; omega
  refine ⟨by rw [List.length_append, List.length_drop, tl]; omega, fun i hi => ?_⟩
  by_cases h1 : i < k
  · obtain ⟨v, ev, q⟩ := h.2 i (by omega)
    refine ⟨v, by rw [List.getElem?_append_left (by omega), List.getElem?_take, if_pos h1]; exact ev, ?_⟩
    show R.Row W (rs (skp k i)) m v H
    unfold skp
    rw [if_pos h1]; exact q
  · obtain ⟨v, ev, q⟩ := h.2 (i + 1) (by omega)
    refine ⟨v, by rw [List.getElem?_append_right (by omega), tl, List.getElem?_drop, show k + 1 + (i - k) = i + 1 by omega]; exact ev, ?_⟩
    show R.Row W (rs (skp k i)) m v H
    unfold skp
    rw [if_neg h1]; exact q
def repl {α : Type} (k : Nat) (y : α) (x : Nat → α) : Nat → α := fun i => if i = k then y else x i
theorem ents_repl {R : KindR Pr w K mg base} {W m n k : Nat} {rs : Nat → Nat → R.S.W} {y : Nat → R.S.W} {us : List V} {u : V} {H : Hp} (h : Ents (fun i u H => R.Row W (rs i) m u H) us n H) (r : R.Row W y m u H) (hk : k < n) : Ents (fun i u H => R.Row W (repl k y rs i) m u H) (us.take k ++ [u] ++ us.drop (k + 1)) n H := by
  have hl := h.1
  have tl : (us.take k).length = k := by rw [List.length_take]; omega
  have tl2 : (us.take k ++ [u]).length = k + 1 := by rw [List.length_append, tl]; rfl
  refine ⟨by rw [List.length_append, tl2, List.length_drop]; omega, fun i hi => ?_⟩
  by_cases h2 : i = k
  · subst h2
    refine ⟨u, by rw [List.getElem?_append_left (by omega), List.getElem?_append_right (by omega), tl, Nat.sub_self]; rfl, ?_⟩
    show R.Row W (repl i y rs i) m u H
    unfold repl
    rw [if_pos rfl]; exact r
  · obtain ⟨v, ev, q⟩ := h.2 i hi
    have q' : R.Row W (repl k y rs i) m v H := by unfold repl; rw [if_neg h2]; exact q
    by_cases h1 : i < k
    · exact ⟨v, by rw [List.getElem?_append_left (by omega), List.getElem?_append_left (by omega), List.getElem?_take, if_pos h1]; exact ev, q'⟩
    · exact ⟨v, by rw [List.getElem?_append_right (by omega), tl2, List.getElem?_drop, show k + 1 + (i - (k + 1)) = i by omega]; exact ev, q'⟩
theorem cut_to {xs : List V} {k : Nat} : cutV xs none (some (k : Int)) = xs.take k := cut_take xs k
theorem unit_ind {S : SR} {n : Nat} : Ind S n n (unitW S) := ind_up (fun i => i) (fun i hi => hi) (fun i _ => if_pos rfl) fun i j h _ => if_neg (by omega)
/-- a table with a row in the span of the others has no inverse -/
theorem no_inv {S : SR} (F : Fld S) {n k : Nat} {A X : Nat → Nat → S.W} {y : Nat → S.W} (hy : Spn S (n + 1) n (fun i => A (skp k i)) y) (hX : ∀ i, i < n + 1 → ∀ j, j < n + 1 → lin S (X i) (repl k y A) (n + 1) j = unitW S i j) (hk : k < n + 1) : False := by
  have all : ∀ i, i < n + 1 → Spn S (n + 1) n (fun i => A (skp k i)) (repl k y A i) := fun i hi => by
    by_cases e : i = k
    · unfold repl; rw [if_pos e]; exact hy
    · unfold repl
      rw [if_neg e]
      by_cases lt : i < k
      · have := Spn.gen (S := S) (w := n + 1) (n := n) (i := i) (vs := fun i => A (skp k i)) (by omega)
        unfold skp at this
        rw [if_pos lt] at this
        exact this
      · have := Spn.gen (S := S) (w := n + 1) (n := n) (i := i - 1) (vs := fun i => A (skp k i)) (by omega)
        unfold skp at this
        rw [if_neg (by omega), show i - 1 + 1 = i by omega] at this
        exact this
  have := steinitz F (unit_ind (S := S) (n := n + 1)) fun i hi => (Spn.lin (c := X i) all).congr fun j hj => (hX i hi j hj).symm
  omega
theorem ind_not2 {S : SR} (F : Fld S) {n k : Nat} {A : Nat → Nat → S.W} {y : Nat → S.W} (hy : Spn S (n + 1) n (fun i => A (skp k i)) y) (hk : k < n + 1) : ¬ Ind S (n + 1) (n + 1) (repl k y A) := fun ind => by
  refine ind_not F ind hk (hy.imp fun c hc j hj => ?_)
  rw [show repl k y A k = y from if_pos rfl, hc j hj]
  exact sm_congr fun i _ => by
    have : repl k y A (skp k i) = A (skp k i) := if_neg (by unfold skp; split <;> omega)
    show S.mul (c i) (A (skp k i) j) = S.mul (c i) (repl k y A (skp k i) j)
    rw [this]
theorem ok_law (T : Txt K mg t) : FnOk Pr w K mg base CX0 50 t.law t.d_law ["_law_script"] (sp_law K) := by
  refine T.F_law.ok sc_law (fun vs H Q E h => ?_) (fun cdv A outer s H vs Q E hr h => ?_)
  · obtain ⟨a, ns, rfl, _⟩ := h
    rfl
  · obtain ⟨a0, ns, rfl, hS0, hlen, k⟩ := h
    have sl : 10000 < sizeLine := by decide
    refine ⟨_, (pss_cons (ps_set (i := 1) sc_law.nd rfl (Or.inr rfl) (pe_call (ok_law_state T) (hr.mono (by decide)) rfl T.m_law_state T.F_law_state.kp T.b_law_state .nil pass0 (pa_cons (pv 0) pa_nil))) (pss_cons (ps_set (i := 2) sc_law.nd rfl (Or.inr rfl) (pe_call (ok_law_sort T) (hr.mono (by decide)) rfl T.m_law_sort T.F_law_sort.kp T.b_law_sort .nil pass0 (pa_cons (pv 1) pa_nil))) (pss_cons (ps_set (i := 3) sc_law.nd rfl (Or.inl rfl) (pe_op op_add pe_int (pe_call (ok_law_next T) (hr.mono (by decide)) rfl T.m_law_next T.F_law_next.kp T.b_law_next .nil pass0 (pa_cons (pv 1) (pa_cons pe_int pa_nil))))) (pss_cons (ps_if (PW.pt (pw_and (pt_cmpR op_eq (pe_ix ix_tup (pv 2) pe_int (fun _ _ => rfl)) pe_str (nomark _)) (pw_and1 (pt_cmpR op_eq (pe_call (ok_law_next T) (hr.mono (by decide)) rfl T.m_law_next T.F_law_next.kp T.b_law_next .nil pass0 (pa_cons (pv 1) (pa_cons pe_int pa_nil))) pe_int (nomark _))))) (pss_one (ps_set (i := 3) sc_law.nd rfl (Or.inl rfl) (pe_op op_add pe_int (pe_call (ok_law_next T) (hr.mono (by decide)) rfl T.m_law_next T.F_law_next.kp T.b_law_next .nil pass0 (pa_cons (pv 1) (pa_cons pe_int pa_nil)))))) pss_nil) (pss_cons (ps_set (i := 4) sc_law.nd rfl (Or.inl rfl) (pe_lst pa_nil)) (pss_cons (ps_for PassesOwn.never rfl (pi_list (pe_call (ok_law_steps T) (hr.mono (by decide)) rfl T.m_law_steps T.F_law_steps.kp T.b_law_steps .nil pass0 (pa_cons (pv 1) (pa_cons (pv 2) (pa_cons (pv 3) (pa_cons (pv 3) pa_nil)))))) (pg_name (i := 5) sc_law.nd rfl (Or.inl rfl)) (pss_cons (ps_set (i := 6) sc_law.nd rfl (Or.inl rfl) (pe_call (ok_law_weight T) (hr.mono (by decide)) rfl T.m_law_weight T.F_law_weight.kp T.b_law_weight .nil pass0 (pa_cons (pv 1) (pa_cons (pv 2) pa_nil)))) (pss_cons (ps_if (pt_cmpR (op_eqD hr.units) (pv 6) (pe_call (ok_law_number T) (hr.mono (by decide)) rfl T.m_law_number T.F_law_number.kp T.b_law_number .nil pass0 (pa_cons (pv 2) (pa_cons pe_int pa_nil))) (nomark _)) (pss_one (ps_set (i := 6) sc_law.nd rfl (Or.inl rfl) (pe_call (ok_law_number T) (hr.mono (by decide)) rfl T.m_law_number T.F_law_number.kp T.b_law_number .nil pass0 (pa_cons (pv 2) (pa_cons (pe_un un_neg pe_int) pa_nil))))) pss_nil) (pss_one (ps_expr (pe_bm PySem.F.plainAttrs_list PySem.F.slot_list_append PySem.F.type_list_append mt_append (pv 4) (pa_cons (pe_call (ok_law_sum T) (hr.mono (by decide)) rfl T.m_law_sum T.F_law_sum.kp T.b_law_sum .nil pass0 (pa_cons (pv 2) (pa_cons (pe_lst (pa_cons (pv 6) pa_nil)) (pa_cons (pe_lst (pa_cons (pv 5) pa_nil)) (pa_cons (pv 3) pa_nil))))) pa_nil))))))) (pss_cons (ps_set (i := 7) sc_law.nd rfl (Or.inl rfl) (pe_callTy call_tuple_of (by rfl) T.z_tuple boot_tuple (pa_cons (pe_call (ok_law_mixed T) (hr.mono (by decide)) rfl T.m_law_mixed T.F_law_mixed.kp T.b_law_mixed .nil pass0 (pa_cons (pv 1) (pa_cons (pv 2) (pa_cons (pv 4) (pa_cons pe_int pa_nil))))) pa_nil))) (pss_cons (ps_set (i := 8) sc_law.nd rfl (Or.inl rfl) (pe_call (ok_inverse_of T) (hr.mono (by decide)) rfl T.m_inverse_of T.F_inverse_of.kp T.b_inverse_of .nil pass0 (pa_cons (pe_call (ok_law_kind T) (hr.mono (by decide)) rfl T.m_law_kind T.F_law_kind.kp T.b_law_kind .nil pass0 (pa_cons (pv 2) pa_nil)) (pa_cons (pv 7) pa_nil)))) (pss_cons (ps_if (PW.pt (pw_or (pt_not (pt_val (pe_callB call_isi (by rfl) T.z_isinstance boot_isinstance (pa_cons (pv 8) (pa_cons (pe_bltn (v := .ty "tuple") rfl T.z_tuple boot_tuple rfl) pa_nil))))) (pw_or1 (pt_cmpR op_ne (pe_callB call_len (by rfl) T.z_len PySem.boot_len (pa_cons (pv 8) pa_nil)) (pv 3) (nomark _))))) (pss_one (ps_ret pe_bl)) pss_nil) (pss_cons (ps_for PassesOwn.never rfl (pi_tup (pv 8)) (pg_name (i := 5) sc_law.nd rfl (Or.inl rfl)) (pss_one (ps_if (PW.pt (pw_or (pt_not (pt_val (pe_callB call_isi (by rfl) T.z_isinstance boot_isinstance (pa_cons (pv 5) (pa_cons (pe_bltn (v := .ty "tuple") rfl T.z_tuple boot_tuple rfl) pa_nil))))) (pw_or (pt_cmpR op_ne (pe_callB call_len (by rfl) T.z_len PySem.boot_len (pa_cons (pv 5) pa_nil)) (pv 3) (nomark _)) (pw_or1 (pt_not (pt_val (pe_callB (call_all rfl) (by rfl) T.z_all boot_all (pa_cons (pe_comp (xs := ["_law_x"]) rfl (show CompOk ["_law_script", "_law_state_here", "_law_sort_here", "_law_many", "_law_rows", "_law_row", "_law_by_here", "_law_table", "_law_found", "_law_ones_here", "_law_at", "_law_others"] (defScope s_law) _ from ⟨rfl, by decide +kernel, by decide +kernel, by decide +kernel, by decide +kernel, by decide +kernel⟩) (pi_tup (pv 5)) (fun _ _ _ _ _ => (pg_name (i := 12) (by show List.Nodup (["_law_script", "_law_state_here", "_law_sort_here", "_law_many", "_law_rows", "_law_row", "_law_by_here", "_law_table", "_law_found", "_law_ones_here", "_law_at", "_law_others", "_law_x"] : List Str); decide +kernel) rfl (Or.inl rfl))) (fun _ _ _ _ _ => (pe_call (ok_law_is (w := w) (base := base) T) (hr.mono (by decide)) rfl T.m_law_is T.F_law_is.kp T.b_law_is .nil pass0 (pa_cons (pv 2) (pa_cons (pv 12) pa_nil))))) pa_nil)))))))) (pss_one (ps_ret pe_bl)) pss_nil))) (pss_cons (ps_set (i := 9) sc_law.nd rfl (Or.inl rfl) (pe_call (ok_law_ones T) (hr.mono (by decide)) rfl T.m_law_ones T.F_law_ones.kp T.b_law_ones .nil pass0 (pa_cons (pv 2) (pa_cons (pv 3) pa_nil)))) (pss_cons (ps_if (PW.pt (pw_or (pt_cmpR (op_neD hr.units) (pe_call (ok_law_by T) (hr.mono (by decide)) rfl T.m_law_by T.F_law_by.kp T.b_law_by .nil pass0 (pa_cons (pv 2) (pa_cons (pv 8) (pa_cons (pv 7) pa_nil)))) (pv 9) (nomark _)) (pw_or1 (pt_cmpR (op_neD hr.units) (pe_call (ok_law_by T) (hr.mono (by decide)) rfl T.m_law_by T.F_law_by.kp T.b_law_by .nil pass0 (pa_cons (pv 2) (pa_cons (pv 7) (pa_cons (pv 8) pa_nil)))) (pv 9) (nomark _))))) (pss_one (ps_ret pe_bl)) pss_nil) (pss_cons (ps_set (i := 10) sc_law.nd rfl (Or.inl rfl) (pe_call (ok_law_next T) (hr.mono (by decide)) rfl T.m_law_next T.F_law_next.kp T.b_law_next .nil pass0 (pa_cons (pv 1) (pa_cons (pv 3) pa_nil)))) (pss_cons (ps_set (i := 11) sc_law.nd rfl (Or.inl rfl) (pe_op op_catA (pe_slice sl_tupA (pv 7) po_none (po_some (pv 10))) (pe_slice sl_tupA (pv 7) (po_some (pe_op op_add (pv 10) pe_int)) po_none))) (pss_cons (ps_set (i := 5) sc_law.nd rfl (Or.inl rfl) (pe_call (ok_law_sum T) (hr.mono (by decide)) rfl T.m_law_sum T.F_law_sum.kp T.b_law_sum .nil pass0 (pa_cons (pv 2) (pa_cons (pe_comp (xs := ["_law_one"]) rfl (show CompOk ["_law_script", "_law_state_here", "_law_sort_here", "_law_many", "_law_rows", "_law_row", "_law_by_here", "_law_table", "_law_found", "_law_ones_here", "_law_at", "_law_others"] (defScope s_law) _ from ⟨rfl, by decide +kernel, by decide +kernel, by decide +kernel, by decide +kernel, by decide +kernel⟩) (pi_tup (pv 11)) (fun _ _ _ _ _ => (pg_name (i := 12) (by show List.Nodup (["_law_script", "_law_state_here", "_law_sort_here", "_law_many", "_law_rows", "_law_row", "_law_by_here", "_law_table", "_law_found", "_law_ones_here", "_law_at", "_law_others", "_law_one"] : List Str); decide +kernel) rfl (Or.inl rfl))) (fun _ _ _ _ _ => (pe_call (ok_law_weight (w := w) (base := base) T) (hr.mono (by decide)) rfl T.m_law_weight T.F_law_weight.kp T.b_law_weight .nil pass0 (pa_cons (pv 1) (pa_cons (pv 2) pa_nil))))) (pa_cons (pv 11) (pa_cons (pv 3) pa_nil)))))) (pss_cons (ps_if (pt_cmpR op_notN (pe_call (ok_inverse_of T) (hr.mono (by decide)) rfl T.m_inverse_of T.F_inverse_of.kp T.b_inverse_of .nil pass0 (pa_cons (pe_call (ok_law_kind T) (hr.mono (by decide)) rfl T.m_law_kind T.F_law_kind.kp T.b_law_kind .nil pass0 (pa_cons (pv 2) pa_nil)) (pa_cons (pe_op op_catA (pe_op op_catA (pe_slice sl_tupA (pv 7) po_none (po_some (pv 10))) (pe_tup (pa_cons (pv 5) pa_nil))) (pe_slice sl_tupA (pv 7) (po_some (pe_op op_add (pv 10) pe_int)) po_none)) pa_nil))) pe_non (nomark _)) (pss_one (ps_ret pe_bl)) pss_nil) (pss_one (ps_ret (pe_cmpR (op_eqD hr.units) (pe_call (ok_inverse_of T) (hr.mono (by decide)) rfl T.m_inverse_of T.F_inverse_of.kp T.b_inverse_of .nil pass0 (pa_cons (pe_call (ok_law_kind T) (hr.mono (by decide)) rfl T.m_law_kind T.F_law_kind.kp T.b_law_kind .nil pass0 (pa_cons (pv 2) pa_nil)) (pa_cons (pe_tup pa_nil) pa_nil))) (pe_tup pa_nil) (nomark _)))))))))))))))))))), ?_⟩
    refine ⟨_, rfl, a0, ns, rfl, hS0, hlen, fun a H1 na s1 d1 => ?_⟩
    refine ⟨_, rfl, a, rfl, d1, fun R nm p so H2 hS hso s2 d2 => ?_⟩
    show gName 2 so [some (.ref a0), some (.ref a), none, none, none, none, none, none, none, none, none, none] H2 _
    refine ⟨_, rfl, a, 4, rfl, ⟨d2, by decide, by decide⟩, fun r3 H3 s3 d3 u3 w3 => ⟨_, _, rfl, rfl, ?_⟩⟩
    obtain ⟨n3, e3, b3⟩ : ∃ n : Nat, (1 : Int) + r3 = n ∧ 1 ≤ n ∧ n ≤ 4 := ⟨(1 + r3).toNat, by omega, by omega, by omega⟩
    have hso3 := hso.same (s3.tt d2)
    show gName 3 (.int (1 + r3)) [some (.ref a0), some (.ref a), some so, none, none, none, none, none, none, none, none, none] H3 _
    rw [e3]
    refine (fun (key : ∀ (n : Nat) (H4 : Hp), SameX a H3 H4 → Dr H4 a → 1 ≤ n → n ≤ 8 → (n ≤ 4 ∨ ∀ k y, R.S.sz k y) → (?F : L2.St → Hp → Prop) [some (.ref a0), some (.ref a), some so, some (.int (n : Nat)), none, none, none, none, none, none, none, none] H4) => ?main) ?rest
    case main =>
      obtain ⟨sq, rfl, hsq⟩ := id hso3
      refine ⟨_, rfl, _, _, _, _, rfl, rfl, SqT.of hsq, rfl, rfl, _, rfl, ?_⟩
      cases hS with
      | fr =>
        rw [show decide (V.str ("fractions" : Str) = V.str ("residues" : Str)) = false by decide +kernel]
        (try refine iteF ?_)
        (try refine iteF ?_)
        exact key n3 H3 (SameX.refl _ _) d3 b3.1 (by omega) (.inl b3.2)
      | re p hp hq hi =>
        rw [show decide (V.str ("residues" : Str) = V.str ("residues" : Str)) = true by decide +kernel]
        refine iteT ?_
        refine ⟨_, rfl, a, 6, rfl, ⟨d3, by decide, by decide⟩, fun r4 H4 s4 d4 u4 w4 => ⟨rfl, _, rfl, ?_⟩⟩
        refine iteI (fun _ => ?_) (fun _ => ?_)
        · (try refine iteT ?_)
          refine ⟨_, rfl, a, 4, rfl, ⟨d4, by decide, by decide⟩, fun r5 H5 s5 d5 u5 w5 => ⟨_, _, rfl, rfl, ?_⟩⟩
          obtain ⟨n5, e5, b5⟩ : ∃ n : Nat, (5 : Int) + r5 = n ∧ 1 ≤ n ∧ n ≤ 8 := ⟨(5 + r5).toNat, by omega, by omega, by omega⟩
          show gName 3 (.int (5 + r5)) _ H5 _
          rw [e5]
          exact key n5 H5 (s4.trans s5) d5 b5.1 b5.2 (.inr fun _ _ => trivial)
        · (try refine iteF ?_)
          exact key n3 H4 s4 d4 b3.1 (by omega) (.inl b3.2)
    case rest =>
      intro n H4 s4 d4 n1 n8 hF
      have hso4 := hso3.same (s4.tt d3)
      clear hso3 hso s1 s2 s3 u3 w3 b3 e3 s4 d3
      have hZ : Sml R.S (500 * 4 ^ n) := by
        rcases hF with hF | hF
        · have := pow44 hF
          exact .inl (by omega)
        · exact .inr hF
      have hZ2 : Sml R.S (n * (zk 500 n + 499 + 1) + (zk 500 n + 499)) := by
        rcases hF with hF | hF
        · have := pow44 hF
          have h1 : zk 500 n + 499 + 1 ≤ 129000 := by unfold zk; omega
          have h2 := Nat.mul_le_mul hF h1
          exact .inl (by omega)
        · exact .inr hF
      refine ⟨(by show 0 ≤ sizeLine; decide), fun rp nr => ?_⟩
      have t5 := same_upd (o := .lst []) nr
      have k5 : upd H4 rp (.lst []) rp = some (.lst []) := upd_same
      have rpa := ne_dr d4 nr
      show gName 4 (.ref rp) [some (.ref a0), some (.ref a), some so, some (.int (n : Nat)), none, none, none, none, none, none, none, none] (upd H4 rp (.lst [])) _
      revert t5 k5
      generalize upd H4 rp (.lst []) = H5
      intro t5 k5
      refine ⟨_, rfl, _, rfl, _, rfl, _, rfl, R, nm, p, a, so, n, n, hS, rfl, ⟨d4.same t5, hso4.same t5.t, Nat.le_refl _, by omega⟩, fun sv H6 o rs s6 d6 hR6 o1 o2 o3 => ?_⟩
      have I0 : Ind R.S n n rs := ind_up o o1 o2 o3
      have q6 : SameX a H4 H6 := (SameX.of t5).trans s6
      have k6 := s6 _ _ rpa k5
      have bne : ∀ b, sv = .ref b → b ≠ a := fun b e => by subst e; exact hR6.ne n1 d6
      obtain ⟨b, us, rfl, hb, eb⟩ := id hR6
      have bne := bne b rfl
      have brp : b ≠ rp := fun e => by
        rw [e, k6] at hb
        cases hb
        have := eb.1
        simp at this
        omega
      clear o1 o2 o3 s6 t5 k5
      refine ⟨b, rfl, ⟨_, SqL.of hb⟩, for_list (K := K) (a := b) (xs := us) (fun i σ H7 => ∃ v5 v6 zs, σ = [some (.ref a0), some (.ref a), some so, some (.int (n : Nat)), some (.ref rp), v5, v6, none, none, none, none, none] ∧ SameX a H4 H7 ∧ Dr H7 a ∧ H7 b = some (.lst us) ∧ SameT H6 H7 ∧ H7 rp = some (.lst zs) ∧ Ents (fun i u H => ∃ c : R.S.W, c ≠ R.S.zero ∧ R.Row n (fun j => R.S.mul c (rs i j)) 5 u H) zs i H7) ⟨_, _, [], rfl, q6, d6, hb, SameT.refl _, k6, Ents.nil⟩ (fun i σ H2 _ ⟨_, _, _, _, _, _, h, _⟩ => SqL.of h) ?_ ?_⟩
      · rintro i y σ H7 hi ⟨v5, v6, zs, rfl, q7, d7, hb7, t7, hz7, e7⟩
        obtain ⟨hi', ry⟩ := eb.at hi
        have zsl := e7.1
        refine ⟨_, rfl, _, rfl, R, nm, p, a, so, hS, rfl, ⟨d7, hso4.same (q7.tt d4)⟩, fun wv H8 x8 s8 d8 f8 z8 => ?_⟩
        show gName 6 wv [some (.ref a0), some (.ref a), some so, some (.int (n : Nat)), some (.ref rp), some y, v6, none, none, none, none, none] H8 _
        refine ⟨_, rfl, _, rfl, R, nm, p, so, 0, hS, rfl, ⟨hso4.same ((q7.trans s8).tt d4), by decide, by decide⟩, fun zv H9 x9 s9 f9 e9 _ _ z9 => ?_⟩
        cases e9 rfl
        refine (fun (key : ∀ (c : R.S.W) (cv : V) (H10 : Hp), Same H8 H10 → R.is H10 cv c → c ≠ R.S.zero → R.S.sz 2 c → (?G : L2.St → Hp → Prop) [some (.ref a0), some (.ref a), some so, some (.int (n : Nat)), some (.ref rp), some y, some cv, none, none, none, none, none] H10) => ?main2) ?rest2
        case main2 =>
          by_cases e : x8 = R.S.zero
          · refine R.eqD (R.same s9.t f8) f9 e ⟨_, rfl, ?_⟩
            refine iteT ?_
            refine ⟨_, rfl, _, rfl, R, nm, p, so, -1, hS, rfl, ⟨hso4.same ((q7.trans s8).trans (.of s9) |>.tt d4), by decide, by decide⟩, fun mv H10 x10 s10 f10 _ _ e10 z10 => ?_⟩
            exact key x10 mv H10 (s9.trans s10) f10 (e10 (by decide)) (R.S.sz_mono _ _ _ (by decide) z10)
          · refine eqF R (R.same s9.t f8) f9 e ⟨_, rfl, ?_⟩
            (try refine iteF ?_)
            exact key x8 wv H9 s9 (R.same s9.t f8) e z8
        case rest2 =>
          intro c cv H10 s10 f10 c0 cz
          have q10 := (q7.trans s8).trans (.of s10)
          have d10 := d8.same s10
          have q710 := s8.trans (.of s10)
          have hz10 := q710 _ _ rpa hz7
          refine ⟨_, rfl, .inl ⟨rfl, _, SqL.of hz10⟩, _, rfl, _, rfl, (by show 1 ≤ sizeLine; decide), fun p11 n11 => ?_⟩
          have s11 := same_upd (o := .lst [cv]) n11
          have k11 : upd H10 p11 (.lst [cv]) p11 = some (.lst [cv]) := upd_same
          revert s11 k11
          generalize upd H10 p11 (.lst [cv]) = H11
          intro s11 k11
          refine ⟨_, rfl, (by show 1 ≤ sizeLine; decide), fun p12 n12 => ?_⟩
          have s12 := same_upd (o := .lst [y]) n12
          have k12 : upd H11 p12 (.lst [y]) p12 = some (.lst [y]) := upd_same
          revert s12 k12
          generalize upd H11 p12 (.lst [y]) = H12
          intro s12 k12
          have s1012 := s11.trans s12
          have q12 := q710.trans (.of s1012)
          have ec : Ents (R.Wt (fun _ => c) 2) [cv] 1 H12 := Ents.nil.snoc ⟨R.same s1012.t f10, cz⟩
          have er : Ents (fun i' u H => R.Row n ((fun _ => rs i) i') 2 u H) [y] 1 H12 := Ents.nil.snoc (KindR.Row.same (t7.trans (q12.tt d7)) ry)
          refine ⟨_, rfl, R, nm, p, so, _, _, 1, 1, n, 2, 2, fun _ => c, fun _ => rs i, hS, rfl, ⟨hso4.same ((q10.trans (.of s1012)).tt d4), SeqOf.list (s12 _ _ k11) ec, SeqOf.list k12 er, Nat.le_refl _, by omega, by decide, .inl (by decide)⟩, fun sv H13 s13 r13 => ?_⟩
          have s1013 := s1012.trans s13
          have hz13 := s1013 _ _ hz10
          refine ⟨rp, zs, sv, rfl, rfl, hz13, (by omega), ?_⟩
          have st := sameT_lst (o := .lst (zs ++ [sv])) hz13
          have q13 := q710.trans (.of s1013)
          refine ⟨_, _, zs ++ [sv], rfl, ((q10.trans (.of s1013)).put nr), (d10.same s1013).put rpa, by rw [upd_ne brp]; exact s1013 _ _ (q710 _ _ bne hb7), (t7.trans (q13.tt d7)).trans st, upd_same, ?_⟩
          refine Ents.snoc (e7.mono fun _ _ _ ⟨c, h1, h2⟩ => ⟨c, h1, KindR.Row.same ((q13.tt d7).trans st) h2⟩) ⟨c, c0, KindR.Row.same st (Row.congr (fun j _ => ?_) r13)⟩
          show R.S.add R.S.zero (R.S.mul c (rs i j)) = R.S.mul c (rs i j)
          exact f_za _
      · rintro σ H7 ⟨v5, v6, zs, rfl, q7, d7, hb7, t7, hz7, e7⟩
        rw [eb.1] at e7
        obtain ⟨cf, e7⟩ := ents_pick (P := fun i c u H => c ≠ R.S.zero ∧ R.Row n (fun j => R.S.mul c (rs i j)) 5 u H) R.S.zero e7
        have hR7 : RowsL R n 5 n (fun i j => R.S.mul (cf i) (rs i j)) (.ref rp) H7 := ⟨rp, zs, rfl, hz7, e7.mono fun _ _ _ z => z.2⟩
        have I1 : Ind R.S n n fun i j => R.S.mul (cf i) (rs i j) := ind_scale R.F I0 fun i hi => by
          obtain ⟨u, _, z⟩ := e7.2 i hi
          exact z.1
        have hso7 := hso4.same (q7.tt d4)
        clear e7 hz7 t7 hb7 q7 hb eb hR6 hso4 I0 bne brp k6 q6 d6 d4 rpa nr
        refine ⟨_, rfl, _, rfl, _, rfl, R, nm, p, a, so, _, n, 5, n, 0, _, hS, rfl, ⟨d7, hso7, hR7, n1, by omega, by decide, by omega, .inl (by omega)⟩, fun mv H8 ms B s8 d8 hR8 m1 m2 m3 => ?_⟩
        have I2 : Ind R.S n n ms := ind_mix I1 (ind_down (fun i => i) (fun i hi => hi) m2 m3) fun i hi => m1 i (by omega)
        have hso8 := hso7.same (s8.tt d7)
        obtain ⟨mp, mus, rfl, hm, em⟩ := hR8
        refine ⟨mp, mus, rfl, .inl ⟨SqL.of hm, fun tp nt => ?_⟩⟩
        have s9 := same_upd (o := .tup mus) nt
        have k9 : upd H8 tp (.tup mus) tp = some (.tup mus) := upd_same
        show gName 7 (.ref tp) [some (.ref a0), some (.ref a), some so, some (.int (n : Nat)), some (.ref rp), v5, v6, none, none, none, none, none] (upd H8 tp (.tup mus)) _
        revert s9 k9
        generalize upd H8 tp (.tup mus) = H9
        intro s9 k9
        have hT9 : R.Tab n n ms (n * (2 + 5 + 1)) (.ref tp) H9 := ⟨tp, mus, rfl, k9, em.mono fun _ _ _ z => KindR.Row.same s9.t z⟩
        have up9 : ∀ {k h v H}, R.Tab k h ms (n * (2 + 5 + 1)) v H → R.Tab k h ms 499 v H := fun h => Tab.up (.inl (by omega)) h
        have hso9 := hso8.same s9.t
        have d9 := d8.same s9
        clear m1 m2 m3 I1 hso7 hso8 d7 d8 s8 s9 hm em k9 nt hR7
        refine ⟨_, rfl, R, nm, p, so, hS, rfl, hso9, fun kv H10 s10 hk10 => ?_⟩
        refine ⟨_, rfl, R, kv, _, 500, n, ms, rfl, ⟨hk10, KindR.Tab.same s10.t (up9 hT9), by omega, by decide, hZ⟩, fun ni => absurd I2 ni, fun fv H11 X s11 hX11 eX => ?_⟩
        show gName 8 fv [some (.ref a0), some (.ref a), some so, some (.int (n : Nat)), some (.ref rp), v5, v6, some (.ref tp), none, none, none, none] H11 _
        have hT11 := KindR.Tab.same (s10.trans s11).t hT9
        have hso11 := hso9.same (s10.trans s11).t
        have d11 := d9.same (s10.trans s11)
        obtain ⟨fp, fus, rfl, hf, ef⟩ := id hX11
        clear hT9 hso9 d9 s10 s11 hk10
        refine ⟨_, rfl, _, _, _, _, rfl, TyOf.tup hf, T.k_tt, _, rfl, ?_⟩
        (try refine iteF ?_)
        refine ⟨_, rfl, _, _, rfl, hX11.len, _, rfl, rfl, _, rfl, ?_⟩
        (try dsimp only)
        refine iteNI (fun ne => absurd rfl ne) (fun _ => ?_)
        refine ⟨_, rfl, fp, rfl, ⟨_, SqT.of hf⟩, for_it (n := n) (fun i σ H12 => ∃ v5, σ = [some (.ref a0), some (.ref a), some so, some (.int (n : Nat)), some (.ref rp), v5, v6, some (.ref tp), some (.ref fp), none, none, none] ∧ Same H11 H12) ⟨_, rfl, Same.refl _⟩ ?_ ?_⟩
        · rintro i σ H12 hi ⟨v5, rfl, q12⟩
          obtain ⟨u, eu, pu⟩ := ef.2 i hi
          refine ⟨⟨_, _, SqT.of (q12 _ _ hf), eu⟩, fun z H' hz' => ?_⟩
          obtain ⟨rfl, hz'⟩ := hz'
          have := hz' _ (SqT.of (q12 _ _ hf))
          rw [eu] at this
          cases this
          have pu' := KindR.Row.same q12.t pu
          obtain ⟨up, uvs, rfl, hup, eu'⟩ := id pu'
          refine ⟨_, rfl, _, _, _, _, rfl, TyOf.tup hup, T.k_tt, _, rfl, ?_⟩
          (try refine iteF ?_)
          refine ⟨_, rfl, _, _, rfl, pu'.len, _, rfl, rfl, _, rfl, ?_⟩
          (try dsimp only)
          refine iteNI (fun ne => absurd rfl ne) (fun _ => ?_)
          refine ⟨_, rfl, up, rfl, ⟨_, SqT.of hup⟩, comp_go (n := n) (fun j ys H2 => ys = List.replicate j (V.bl true) ∧ H2 = H') (by omega) ⟨rfl, rfl⟩ (fun j ys H2 q => by rw [q.1, List.length_replicate]) ?_ ?_ ?_⟩
          · rintro j ys H2 hj ⟨rfl, rfl⟩
            obtain ⟨x, ex, px⟩ := eu'.2 j hj
            refine ⟨⟨_, _, SqT.of hup, ex⟩, fun y H' hy => ?_⟩
            obtain ⟨rfl, hy⟩ := hy
            have := hy _ (SqT.of hup)
            rw [ex] at this
            cases this
            refine ⟨⟨[some _], rfl, rfl⟩, _, rfl, _, rfl, R, nm, p, so, _, _, hS, rfl, ⟨hso11.same q12.t, px.1⟩, ?_, rfl⟩
            rw [← List.replicate_succ']
          · rintro ys H2 ⟨rfl, rfl⟩
            exact ⟨_, SqT.of hup, by rw [eu'.1]; exact Nat.le_refl _⟩
          · rintro ys H2 l ⟨rfl, rfl⟩ nl
            have s13 := same_upd (o := .lst (List.replicate n (V.bl true))) nl
            refine ⟨l, List.replicate n true, rfl, SqL.of (by rw [upd_same, List.map_replicate]), _, congrArg V.bl (show (List.replicate n true).all id = true by rw [List.all_eq_true]; intro x hx; exact (List.mem_replicate.mp hx).2), ?_⟩
            (try refine iteF ?_)
            (try refine iteF ?_)
            exact ⟨_, rfl, q12.trans s13⟩
        · rintro σ H12 ⟨v5, rfl, q12⟩
          refine ⟨⟨_, SqT.of (q12 _ _ hf), by rw [ef.1]; exact Nat.le_refl _⟩, ?_⟩
          have hT12 := KindR.Tab.same q12.t hT11
          have hX12 := KindR.Tab.same q12.t hX11
          have hso12 := hso11.same q12.t
          have d12 := d11.same q12
          clear hT11 hX11 hso11 d11 q12 hf ef
          refine ⟨_, rfl, _, rfl, R, nm, p, so, n, hS, rfl, ⟨hso12, by omega⟩, fun ov H13 s13 r13 => ?_⟩
          show gName 9 ov [some (.ref a0), some (.ref a), some so, some (.int (n : Nat)), some (.ref rp), v5, v6, some (.ref tp), some (.ref fp), none, none, none] H13 _
          refine ⟨_, rfl, _, rfl, _, rfl, R, nm, p, so, _, _, n, zk 500 n, 499, X, ms, hS, rfl, ⟨hso12.same s13.t, KindR.Tab.same s13.t hX12, KindR.Tab.same s13.t (up9 hT12), by omega, hZ2⟩, fun bv H14 s14 r14 => ?_⟩
          refine ⟨_, rfl, Tab.neF hS r14 (KindR.Tab.same s14.t r13) eX ⟨_, rfl, ?_⟩⟩
          (try refine iteF ?_)
          have s1314 := s13.trans s14
          refine ⟨_, rfl, _, rfl, _, rfl, R, nm, p, so, _, _, n, 499, zk 500 n, ms, X, hS, rfl, ⟨hso12.same s1314.t, KindR.Tab.same s1314.t (up9 hT12), KindR.Tab.same s1314.t hX12, by omega, by rw [Nat.add_comm 499 (zk 500 n)]; exact hZ2⟩, fun bv2 H15 s15 r15 => ?_⟩
          refine ⟨_, rfl, Tab.neF hS r15 (KindR.Tab.same (s14.trans s15).t r13) (inv_right (F := R.F) I2 eX) ⟨_, rfl, ?_⟩⟩
          (try refine iteF ?_)
          (try refine iteF ?_)
          have q15 := s1314.trans s15
          have hT15 := KindR.Tab.same q15.t hT12
          have hso15 := hso12.same q15.t
          have d15 := d12.same q15
          clear hT12 hX12 hso12 d12 q15 s1314 s13 s14 s15 r13 r14 r15 eX
          refine ⟨_, rfl, _, rfl, a, _, rfl, ⟨d15, by omega, by omega⟩, fun r16 H16 s16 d16 u16 w16 => ?_⟩
          obtain ⟨q, eq, bq⟩ : ∃ q : Nat, r16 = q ∧ q < n := ⟨r16.toNat, by omega, by omega⟩
          subst eq
          show gName 10 (.int (q : Nat)) [some (.ref a0), some (.ref a), some so, some (.int (n : Nat)), some (.ref rp), v5, v6, some (.ref tp), some (.ref fp), some ov, none, none] H16 _
          obtain ⟨tp', tus, e', ht, et⟩ := KindR.Tab.same (s16.tt d15) hT15
          cases e'
          have hso16 := hso15.same (s16.tt d15)
          have tul := et.1
          obtain ⟨n', rfl⟩ : ∃ n', n = n' + 1 := ⟨n - 1, by omega⟩
          clear hT15 hso15 d15 s16
          refine ⟨_, rfl, _, rfl, _, rfl, tp, tus, rfl, SqT.of ht, ht, fun p17 H17 s17 h17 => ?_⟩
          rw [cut_to] at h17
          refine ⟨_, rfl, _, rfl, _, _, rfl, rfl, _, rfl, tp, tus, rfl, SqT.of (s17 _ _ ht), s17 _ _ ht, fun p18 H18 s18 h18 => ?_⟩
          have ce : cutV tus (some ((q : Int) + 1)) none = tus.drop (q + 1) := cut_drop (xs := tus) (k := q + 1) (by omega)
          rw [ce] at h18
          refine ⟨_, _, _, _, rfl, rfl, s18 _ _ h17, h18, (by rw [List.length_take, List.length_drop]; omega), fun p19 H19 s19 h19 => ?_⟩
          have s1719 := s17.trans (s18.trans s19)
          show gName 11 (.ref p19) [some (.ref a0), some (.ref a), some so, some (.int ((n' + 1 : Nat) : Int)), some (.ref rp), v5, v6, some (.ref tp), some (.ref fp), some ov, some (.int (q : Nat)), none] H19 _
          have eo : Ents (fun i u H => R.Row (n' + 1) (ms (skp q i)) ((n' + 1) * (2 + 5 + 1)) u H) (tus.take q ++ tus.drop (q + 1)) n' H19 := (ents_skipT et bq).mono fun _ _ _ z => KindR.Row.same s1719.t z
          have ht19 := s1719 _ _ ht
          have et19 := et.mono fun _ _ _ z => KindR.Row.same s1719.t z
          have hso19 := hso16.same s1719.t
          have d19 := d16.same s1719
          clear s17 s18 s19 s1719 h17 h18 ht et hso16 d16
          refine ⟨_, rfl, _, rfl, p19, rfl, ⟨_, SqT.of h19⟩, comp_go (n := n') (fun j zs H3 => SameX a H19 H3 ∧ Dr H3 a ∧ Ents (ExW2 R) zs j H3) (by omega) ⟨SameX.refl _ _, d19, Ents.nil⟩ (fun j ys H2 q => q.2.2.1) ?_ ?_ ?_⟩
          · rintro j zs H3 hj ⟨q3, d3, e3⟩
            obtain ⟨u, eu, _⟩ := eo.2 j hj
            refine ⟨⟨_, _, SqT.of (q3.tt d19 _ _ h19), eu⟩, fun y H' hy => ?_⟩
            obtain ⟨rfl, hy⟩ := hy
            refine ⟨⟨[some _], rfl, rfl⟩, _, rfl, _, rfl, R, nm, p, a, so, hS, rfl, ⟨d3, hso19.same (q3.tt d19)⟩, fun v H4 x s4 d4 f4 z4 => ?_⟩
            exact ⟨q3.trans s4, d4, (e3.mono fun _ _ _ z => ExW2.same (s4.tt d3) z).snoc ⟨x, f4, z4⟩⟩
          · rintro zs H3 ⟨q3, d3, e3⟩
            exact ⟨_, SqT.of (q3.tt d19 _ _ h19), by rw [eo.1]; exact Nat.le_refl _⟩
          rintro cs H20 cp ⟨q20, d20, e20⟩ nc
          have s21 := same_upd (o := .lst cs) nc
          have k21 : upd H20 cp (.lst cs) cp = some (.lst cs) := upd_same
          have q21 := q20.trans (.of s21)
          have d21 := d20.same s21
          have e21 := e20.mono fun _ _ _ z => ExW2.same s21.t z
          revert k21 q21 d21 e21
          generalize upd H20 cp (.lst cs) = H21
          intro k21 q21 d21 e21
          obtain ⟨c0, e21⟩ := ents_pick R.S.zero e21
          have e21 : Ents (R.Wt c0 2) cs n' H21 := e21
          have eo21 : Ents (fun i u H => R.Row (n' + 1) (ms (skp q i)) ((n' + 1) * (2 + 5 + 1)) u H) (tus.take q ++ tus.drop (q + 1)) n' H21 := eo.mono fun _ _ _ z => KindR.Row.same (q21.tt d19) z
          have hO : TupOf (fun i u H => R.Row (n' + 1) (ms (skp q i)) ((n' + 1) * (2 + 5 + 1)) u H) n' (.ref p19) H21 := ⟨p19, _, rfl, q21.tt d19 _ _ h19, eo21⟩
          refine ⟨_, rfl, _, rfl, R, nm, p, so, _, _, n', n', n' + 1, 2, (n' + 1) * (2 + 5 + 1), c0, fun i => ms (skp q i), hS, rfl, ⟨hso19.same (q21.tt d19), SeqOf.list k21 e21, hO.seq, Nat.le_refl _, by omega, by omega, .inl (by have := Nat.mul_le_mul (show n' ≤ 8 by omega) (show 2 + (n' + 1) * (2 + 5 + 1) + 1 ≤ 100 by omega); omega)⟩, fun yv H22 s22 r22 => ?_⟩
          show gName 5 yv [some (.ref a0), some (.ref a), some so, some (.int ((n' + 1 : Nat) : Int)), some (.ref rp), v5, v6, some (.ref tp), some (.ref fp), some ov, some (.int (q : Nat)), some (.ref p19)] H22 _
          have q22 := q21.trans (.of s22)
          have ht22 := q22.tt d19 _ _ ht19
          have et22 := et19.mono fun _ _ _ z => KindR.Row.same (q22.tt d19) z
          have hso22 := hso19.same (q22.tt d19)
          have hy : Spn R.S (n' + 1) n' (fun i => ms (skp q i)) (lin R.S c0 (fun i => ms (skp q i)) n') := ⟨c0, fun j _ => rfl⟩
          clear q21 q20 s21 s22 k21 e21 eo21 hO d20 e20 nc eo h19 hso19 d21 q22 ht19 et19 d19
          refine ⟨_, rfl, R, nm, p, so, hS, rfl, hso22, fun kv2 H23 s23 hk23 => ?_⟩
          refine ⟨_, rfl, _, rfl, _, rfl, tp, tus, rfl, SqT.of (s23 _ _ ht22), s23 _ _ ht22, fun p24 H24 s24 h24 => ?_⟩
          rw [cut_to] at h24
          refine ⟨_, rfl, (by show 1 ≤ sizeLine; decide), fun p25 n25 => ?_⟩
          have s25 := same_upd (o := .tup [yv]) n25
          have k25 : upd H24 p25 (.tup [yv]) p25 = some (.tup [yv]) := upd_same
          revert s25 k25
          generalize upd H24 p25 (.tup [yv]) = H25
          intro s25 k25
          refine ⟨_, _, _, _, rfl, rfl, s25 _ _ h24, k25, (by rw [List.length_take]; show _ + 1 ≤ _; omega), fun p26 H26 s26 h26 => ?_⟩
          have s2326 := s23.trans (s24.trans (s25.trans s26))
          refine ⟨_, rfl, _, rfl, _, _, rfl, rfl, _, rfl, tp, tus, rfl, SqT.of (s2326 _ _ ht22), s2326 _ _ ht22, fun p27 H27 s27 h27 => ?_⟩
          rw [ce] at h27
          refine ⟨_, _, _, _, rfl, rfl, s27 _ _ h26, h27, (by rw [List.length_append, List.length_take, List.length_drop]; show _ + 1 + _ ≤ _; omega), fun p28 H28 s28 h28 => ?_⟩
          have q28 := s2326.trans (s27.trans s28)
          have fitY : n' * (2 + (n' + 1) * (2 + 5 + 1) + 1) ≤ 499 ∨ ∀ k y, R.S.sz k y := hF.imp (fun h => by have := Nat.mul_le_mul (show n' ≤ 3 by omega) (show 2 + (n' + 1) * (2 + 5 + 1) + 1 ≤ 35 by omega); omega) id
          have ry : R.Row (n' + 1) (lin R.S c0 (fun i => ms (skp q i)) n') 499 yv H28 := (KindR.Row.same q28.t r22).mono (SameT.refl _) fun _ _ _ z => ⟨z.1, fitY.elim (fun h => R.S.sz_mono _ _ _ h z.2) fun h => h _ _⟩
          have hT28 : R.Tab (n' + 1) (n' + 1) (repl q (lin R.S c0 (fun i => ms (skp q i)) n') ms) 499 (.ref p28) H28 := ⟨p28, _, rfl, h28, ents_repl (et22.mono fun _ _ _ z => Row.up (by omega) (KindR.Row.same q28.t z)) ry bq⟩
          refine ⟨R, kv2, _, 500, n' + 1, _, rfl, ⟨hk23.same (s24.trans (s25.trans (s26.trans (s27.trans s28)))), hT28, by omega, by decide, hZ⟩, fun _ H29 s29 => ?_, fun v H' X _ _ eX => absurd (no_inv R.F hy eX bq) id⟩
          refine ⟨rfl, _, rfl, ?_⟩
          (try refine iteF ?_)
          have q29 := q28.trans s29
          refine ⟨_, rfl, R, nm, p, so, hS, rfl, hso22.same q29.t, fun kv3 H30 s30 hk30 => ?_⟩
          refine ⟨(by show 0 ≤ sizeLine; decide), fun p31 n31 => ?_⟩
          have s31 := same_upd (o := .tup []) n31
          have k31 : upd H30 p31 (.tup []) p31 = some (.tup []) := upd_same
          revert s31 k31
          generalize upd H30 p31 (.tup []) = H31
          intro s31 k31
          refine ⟨R, kv3, _, 500, 0, fun _ _ => R.S.zero, rfl, ⟨hk30.same s31, ⟨p31, _, rfl, k31, Ents.nil⟩, by decide, by decide, .inl (by decide)⟩, fun ni => absurd (fun c _ i hi => absurd hi (Nat.not_lt_zero i)) ni, fun v H32 X s32 hX32 _ => ?_⟩
          obtain ⟨vp, vvs, rfl, hv, ev⟩ := hX32
          cases List.length_eq_zero_iff.mp ev.1
          refine ⟨(by show 0 ≤ sizeLine; decide), fun p33 n33 => ?_⟩
          have s33 := same_upd (o := .tup []) n33
          refine ⟨.tuple [], .tuple [], .tup (SqT.of (s33 _ _ hv)) .nil, .tup (SqT.of upd_same) .nil, rfl, rfl, by simp [noMix, noMixAll], ?_⟩
          rw [PySem.Spec.same_self]
          exact k _
theorem law_binds (T : Txt K mg t) : ∀ (s : Shared) (u : Value), BindsTo s t.d_law ⟨[u], []⟩ [("_law_script", u)] := by
  obtain ⟨oc, od, kV, doc, pm, an, cdv, ct, osl, e, _, _⟩ := T.F_law.ex
  rw [e]
  exact fun s u => .of_eq rfl
end
abbrev FD (n q : Str) (s : Stmt) (c d e : Value) (v : Option Addr) (g j : Value) : FuncData := PySem.W.fnOf n q (defArgs s) (defBody s) (defScope s) .none c d e v g j
abbrev NS (K : PySem.W.Frag) (x : Str) (a : Addr) : Prop := PySem.W.nsIn K mainGlobals x = some (some (.ref a))
abbrev HL (K : PySem.W.Frag) (a : Addr) (b : Value) (u : Option Addr) (d : FuncData) (w : Array (Option Value)) : Prop := K.lookup a = some ⟨b, u, .func d, w⟩
abbrev KI (K : PySem.W.Frag) (a : Addr) : Prop := PySem.W.keepIn K (.ref a) = true
theorem txt_mk {K : PySem.W.Frag} {h : Heap} {mg : Str → Option Value} (X : K.In h) (G : h.Ns mainGlobals mg) {A0 A1 A2 A3 A4 A5 A6 A7 A8 A9 A10 A11 A12 A13 A14 A15 A16 A17 A18 A19 A20 A21 A22 A23 A24 A25 A26 A27 A28 A29 A30 A31 A32 A33 A34 A35 A36 A37 A38 A39 A40 A41 A42 A43 A44 A45 A46 A47 A48 A49 A50 A51 A52 : Addr} {b0 c0 d0 e0 g0 j0 b1 c1 d1 e1 g1 j1 b2 c2 d2 e2 g2 j2 b3 c3 d3 e3 g3 j3 b4 c4 d4 e4 g4 j4 b5 c5 d5 e5 g5 j5 b6 c6 d6 e6 g6 j6 b7 c7 d7 e7 g7 j7 b8 c8 d8 e8 g8 j8 b9 c9 d9 e9 g9 j9 b10 c10 d10 e10 g10 j10 b11 c11 d11 e11 g11 j11 b12 c12 d12 e12 g12 j12 b13 c13 d13 e13 g13 j13 b14 c14 d14 e14 g14 j14 b15 c15 d15 e15 g15 j15 b16 c16 d16 e16 g16 j16 b17 c17 d17 e17 g17 j17 b18 c18 d18 e18 g18 j18 b19 c19 d19 e19 g19 j19 b20 c20 d20 e20 g20 j20 b21 c21 d21 e21 g21 j21 b22 c22 d22 e22 g22 j22 b23 c23 d23 e23 g23 j23 b24 c24 d24 e24 g24 j24 b25 c25 d25 e25 g25 j25 b26 c26 d26 e26 g26 j26 b27 c27 d27 e27 g27 j27 b28 c28 d28 e28 g28 j28 b29 c29 d29 e29 g29 j29 b30 c30 d30 e30 g30 j30 b31 c31 d31 e31 g31 j31 b32 c32 d32 e32 g32 j32 b33 c33 d33 e33 g33 j33 b34 c34 d34 e34 g34 j34 b35 c35 d35 e35 g35 j35 b36 c36 d36 e36 g36 j36 b37 c37 d37 e37 g37 j37 b38 c38 d38 e38 g38 j38 b39 c39 d39 e39 g39 j39 b40 c40 d40 e40 g40 j40 b41 c41 d41 e41 g41 j41 b42 c42 d42 e42 g42 j42 b43 c43 d43 e43 g43 j43 b44 c44 d44 e44 g44 j44 b45 c45 d45 e45 g45 j45 b46 c46 d46 e46 g46 j46 b47 c47 d47 e47 g47 j47 b48 c48 d48 e48 g48 j48 b49 c49 d49 e49 g49 j49 : Value} {u0 v0 u1 v1 u2 v2 u3 v3 u4 v4 u5 v5 u6 v6 u7 v7 u8 v8 u9 v9 u10 v10 u11 v11 u12 v12 u13 v13 u14 v14 u15 v15 u16 v16 u17 v17 u18 v18 u19 v19 u20 v20 u21 v21 u22 v22 u23 v23 u24 v24 u25 v25 u26 v26 u27 v27 u28 v28 u29 v29 u30 v30 u31 v31 u32 v32 u33 v33 u34 v34 u35 v35 u36 v36 u37 v37 u38 v38 u39 v39 u40 v40 u41 v41 u42 v42 u43 v43 u44 v44 u45 v45 u46 v46 u47 v47 u48 v48 u49 v49 : Option Addr} {w0 w1 w2 w3 w4 w5 w6 w7 w8 w9 w10 w11 w12 w13 w14 w15 w16 w17 w18 w19 w20 w21 w22 w23 w24 w25 w26 w27 w28 w29 w30 w31 w32 w33 w34 w35 w36 w37 w38 w39 w40 w41 w42 w43 w44 w45 w46 w47 w48 w49 : Array (Option Value)}
 (N0 : NS K "Fractions" A0)
 (pg0 : PySem.W.plainGet K A0 Str.empty = true)
 (hd0 : PySem.W.hasDictIn K A0 = true)
 (po0 : PySem.W.plainOver K A0 = true)
 (sa0 : PySem.W.findIn K (.ref A0) "__setattr__" = some (some (.builtin "object.__setattr__")))
 (mk0 : PySem.W.makesIn K A0 = true)
 (kp0 : KI K A0)
 (in0 : PySem.W.findIn K (.ref A0) "__init__" = some (some (.builtin "object.__init__")))
 (N1 : NS K "Residues" A1)
 (pg1 : PySem.W.plainGet K A1 Str.empty = true)
 (hd1 : PySem.W.hasDictIn K A1 = true)
 (po1 : PySem.W.plainOver K A1 = true)
 (sa1 : PySem.W.findIn K (.ref A1) "__setattr__" = some (some (.builtin "object.__setattr__")))
 (mk1 : PySem.W.makesIn K A1 = true)
 (kp1 : KI K A1)
 (N2 : NS K "Field" A2)
 (pg2 : PySem.W.plainGet K A2 Str.empty = true)
 (hd2 : PySem.W.hasDictIn K A2 = true)
 (po2 : PySem.W.plainOver K A2 = true)
 (sa2 : PySem.W.findIn K (.ref A2) "__setattr__" = some (some (.builtin "object.__setattr__")))
 (mk2 : PySem.W.makesIn K A2 = true)
 (kp2 : KI K A2)
 (in2 : PySem.W.findIn K (.ref A2) "__init__" = some (some (.builtin "object.__init__")))
 (n0 : NS K "is_whole" A3)
 (l0 : HL K A3 b0 u0 (FD "is_whole" "is_whole" s_is_whole c0 d0 e0 v0 g0 j0) w0)
 (q0 : PySem.W.codeIn K g0 "is_whole" = true)
 (k0 : KI K A3)
 (n1 : NS K "divisor" A4)
 (l1 : HL K A4 b1 u1 (FD "divisor" "divisor" s_divisor c1 d1 e1 v1 g1 j1) w1)
 (q1 : PySem.W.codeIn K g1 "divisor" = true)
 (k1 : KI K A4)
 (n2 : NS K "fraction" A5)
 (l2 : HL K A5 b2 u2 (FD "fraction" "fraction" s_fraction c2 d2 e2 v2 g2 j2) w2)
 (q2 : PySem.W.codeIn K g2 "fraction" = true)
 (k2 : KI K A5)
 (n3 : NS K "is_prime" A6)
 (l3 : HL K A6 b3 u3 (FD "is_prime" "is_prime" s_is_prime c3 d3 e3 v3 g3 j3) w3)
 (q3 : PySem.W.codeIn K g3 "is_prime" = true)
 (k3 : KI K A6)
 (n4 : PySem.W.findIn K (.ref A0) "nought" = some (some (.ref A7)))
 (i4 : PySem.W.isFn K (.ref A7) = true)
 (l4 : HL K A7 b4 u4 (FD "nought" "Fractions.nought" s_Fractions_nought c4 d4 e4 v4 g4 j4) w4)
 (q4 : PySem.W.codeIn K g4 "Fractions.nought" = true)
 (k4 : KI K A7)
 (n5 : PySem.W.findIn K (.ref A0) "one" = some (some (.ref A8)))
 (i5 : PySem.W.isFn K (.ref A8) = true)
 (l5 : HL K A8 b5 u5 (FD "one" "Fractions.one" s_Fractions_one c5 d5 e5 v5 g5 j5) w5)
 (q5 : PySem.W.codeIn K g5 "Fractions.one" = true)
 (k5 : KI K A8)
 (n6 : PySem.W.findIn K (.ref A0) "plus" = some (some (.ref A9)))
 (i6 : PySem.W.isFn K (.ref A9) = true)
 (l6 : HL K A9 b6 u6 (FD "plus" "Fractions.plus" s_Fractions_plus c6 d6 e6 v6 g6 j6) w6)
 (q6 : PySem.W.codeIn K g6 "Fractions.plus" = true)
 (k6 : KI K A9)
 (n7 : PySem.W.findIn K (.ref A0) "times" = some (some (.ref A10)))
 (i7 : PySem.W.isFn K (.ref A10) = true)
 (l7 : HL K A10 b7 u7 (FD "times" "Fractions.times" s_Fractions_times c7 d7 e7 v7 g7 j7) w7)
 (q7 : PySem.W.codeIn K g7 "Fractions.times" = true)
 (k7 : KI K A10)
 (n8 : PySem.W.findIn K (.ref A1) "__init__" = some (some (.ref A11)))
 (i8 : PySem.W.isFn K (.ref A11) = true)
 (l8 : HL K A11 b8 u8 (FD "__init__" "Residues.__init__" s_Residues___init__ c8 d8 e8 v8 g8 j8) w8)
 (q8 : PySem.W.codeIn K g8 "Residues.__init__" = true)
 (k8 : KI K A11)
 (n9 : PySem.W.findIn K (.ref A1) "nought" = some (some (.ref A12)))
 (i9 : PySem.W.isFn K (.ref A12) = true)
 (l9 : HL K A12 b9 u9 (FD "nought" "Residues.nought" s_Residues_nought c9 d9 e9 v9 g9 j9) w9)
 (q9 : PySem.W.codeIn K g9 "Residues.nought" = true)
 (k9 : KI K A12)
 (n10 : PySem.W.findIn K (.ref A1) "one" = some (some (.ref A13)))
 (i10 : PySem.W.isFn K (.ref A13) = true)
 (l10 : HL K A13 b10 u10 (FD "one" "Residues.one" s_Residues_one c10 d10 e10 v10 g10 j10) w10)
 (q10 : PySem.W.codeIn K g10 "Residues.one" = true)
 (k10 : KI K A13)
 (n11 : PySem.W.findIn K (.ref A1) "plus" = some (some (.ref A14)))
 (i11 : PySem.W.isFn K (.ref A14) = true)
 (l11 : HL K A14 b11 u11 (FD "plus" "Residues.plus" s_Residues_plus c11 d11 e11 v11 g11 j11) w11)
 (q11 : PySem.W.codeIn K g11 "Residues.plus" = true)
 (k11 : KI K A14)
 (n12 : PySem.W.findIn K (.ref A1) "times" = some (some (.ref A15)))
 (i12 : PySem.W.isFn K (.ref A15) = true)
 (l12 : HL K A15 b12 u12 (FD "times" "Residues.times" s_Residues_times c12 d12 e12 v12 g12 j12) w12)
 (q12 : PySem.W.codeIn K g12 "Residues.times" = true)
 (k12 : KI K A15)
 (n13 : PySem.W.findIn K (.ref A2) "is_field" = some (some (.ref A16)))
 (i13 : PySem.W.isFn K (.ref A16) = true)
 (l13 : HL K A16 b13 u13 (FD "is_field" "Field.is_field" s_Field_is_field c13 d13 e13 v13 g13 j13) w13)
 (q13 : PySem.W.codeIn K g13 "Field.is_field" = true)
 (k13 : KI K A16)
 (n14 : PySem.W.findIn K (.ref A0) "minus" = some (some (.ref A17)))
 (i14 : PySem.W.isFn K (.ref A17) = true)
 (l14 : HL K A17 b14 u14 (FD "minus" "Fractions.minus" s_Fractions_minus c14 d14 e14 v14 g14 j14) w14)
 (q14 : PySem.W.codeIn K g14 "Fractions.minus" = true)
 (k14 : KI K A17)
 (n15 : PySem.W.findIn K (.ref A0) "inverse" = some (some (.ref A18)))
 (i15 : PySem.W.isFn K (.ref A18) = true)
 (l15 : HL K A18 b15 u15 (FD "inverse" "Fractions.inverse" s_Fractions_inverse c15 d15 e15 v15 g15 j15) w15)
 (q15 : PySem.W.codeIn K g15 "Fractions.inverse" = true)
 (k15 : KI K A18)
 (n16 : PySem.W.findIn K (.ref A1) "minus" = some (some (.ref A19)))
 (i16 : PySem.W.isFn K (.ref A19) = true)
 (l16 : HL K A19 b16 u16 (FD "minus" "Residues.minus" s_Residues_minus c16 d16 e16 v16 g16 j16) w16)
 (q16 : PySem.W.codeIn K g16 "Residues.minus" = true)
 (k16 : KI K A19)
 (n17 : PySem.W.findIn K (.ref A1) "inverse" = some (some (.ref A20)))
 (i17 : PySem.W.isFn K (.ref A20) = true)
 (l17 : HL K A20 b17 u17 (FD "inverse" "Residues.inverse" s_Residues_inverse c17 d17 e17 v17 g17 j17) w17)
 (q17 : PySem.W.codeIn K g17 "Residues.inverse" = true)
 (k17 : KI K A20)
 (n18 : NS K "noughts" A21)
 (l18 : HL K A21 b18 u18 (FD "noughts" "noughts" s_noughts c18 d18 e18 v18 g18 j18) w18)
 (q18 : PySem.W.codeIn K g18 "noughts" = true)
 (k18 : KI K A21)
 (n19 : NS K "unit" A22)
 (l19 : HL K A22 b19 u19 (FD "unit" "unit" s_unit c19 d19 e19 v19 g19 j19) w19)
 (q19 : PySem.W.codeIn K g19 "unit" = true)
 (k19 : KI K A22)
 (n20 : NS K "times_row" A23)
 (l20 : HL K A23 b20 u20 (FD "times_row" "times_row" s_times_row c20 d20 e20 v20 g20 j20) w20)
 (q20 : PySem.W.codeIn K g20 "times_row" = true)
 (k20 : KI K A23)
 (n21 : NS K "need_field" A24)
 (l21 : HL K A24 b21 u21 (FD "need_field" "need_field" s_need_field c21 d21 e21 v21 g21 j21) w21)
 (q21 : PySem.W.codeIn K g21 "need_field" = true)
 (k21 : KI K A24)
 (n22 : NS K "leading" A25)
 (l22 : HL K A25 b22 u22 (FD "leading" "leading" s_leading c22 d22 e22 v22 g22 j22) w22)
 (q22 : PySem.W.codeIn K g22 "leading" = true)
 (k22 : KI K A25)
 (n23 : NS K "plus_row" A26)
 (l23 : HL K A26 b23 u23 (FD "plus_row" "plus_row" s_plus_row c23 d23 e23 v23 g23 j23) w23)
 (q23 : PySem.W.codeIn K g23 "plus_row" = true)
 (k23 : KI K A26)
 (n24 : NS K "cleared" A27)
 (l24 : HL K A27 b24 u24 (FD "cleared" "cleared" s_cleared c24 d24 e24 v24 g24 j24) w24)
 (q24 : PySem.W.codeIn K g24 "cleared" = true)
 (k24 : KI K A27)
 (n25 : NS K "keep" A28)
 (l25 : HL K A28 b25 u25 (FD "keep" "keep" s_keep c25 d25 e25 v25 g25 j25) w25)
 (q25 : PySem.W.codeIn K g25 "keep" = true)
 (k25 : KI K A28)
 (n26 : NS K "kept_rows" A29)
 (l26 : HL K A29 b26 u26 (FD "kept_rows" "kept_rows" s_kept_rows c26 d26 e26 v26 g26 j26) w26)
 (q26 : PySem.W.codeIn K g26 "kept_rows" = true)
 (k26 : KI K A29)
 (n27 : NS K "width_of" A30)
 (l27 : HL K A30 b27 u27 (FD "width_of" "width_of" s_width_of c27 d27 e27 v27 g27 j27) w27)
 (q27 : PySem.W.codeIn K g27 "width_of" = true)
 (k27 : KI K A30)
 (n28 : NS K "marked" A31)
 (l28 : HL K A31 b28 u28 (FD "marked" "marked" s_marked c28 d28 e28 v28 g28 j28) w28)
 (q28 : PySem.W.codeIn K g28 "marked" = true)
 (k28 : KI K A31)
 (n29 : NS K "kept_marked" A32)
 (l29 : HL K A32 b29 u29 (FD "kept_marked" "kept_marked" s_kept_marked c29 d29 e29 v29 g29 j29) w29)
 (q29 : PySem.W.codeIn K g29 "kept_marked" = true)
 (k29 : KI K A32)
 (n30 : NS K "parts_by" A33)
 (l30 : HL K A33 b30 u30 (FD "parts_by" "parts_by" s_parts_by c30 d30 e30 v30 g30 j30) w30)
 (q30 : PySem.W.codeIn K g30 "parts_by" = true)
 (k30 : KI K A33)
 (n31 : NS K "inverse_of" A34)
 (l31 : HL K A34 b31 u31 (FD "inverse_of" "inverse_of" s_inverse_of c31 d31 e31 v31 g31 j31) w31)
 (q31 : PySem.W.codeIn K g31 "inverse_of" = true)
 (k31 : KI K A34)
 (n32 : NS K "_law_next" A35)
 (l32 : HL K A35 b32 u32 (FD "_law_next" "_law_next" s_law_next c32 d32 e32 v32 g32 j32) w32)
 (q32 : PySem.W.codeIn K g32 "_law_next" = true)
 (k32 : KI K A35)
 (n33 : NS K "_law_state" A36)
 (l33 : HL K A36 b33 u33 (FD "_law_state" "_law_state" s_law_state c33 d33 e33 v33 g33 j33) w33)
 (q33 : PySem.W.codeIn K g33 "_law_state" = true)
 (k33 : KI K A36)
 (n34 : NS K "_law_divisor" A37)
 (l34 : HL K A37 b34 u34 (FD "_law_divisor" "_law_divisor" s_law_divisor c34 d34 e34 v34 g34 j34) w34)
 (q34 : PySem.W.codeIn K g34 "_law_divisor" = true)
 (k34 : KI K A37)
 (n35 : NS K "_law_low" A38)
 (l35 : HL K A38 b35 u35 (FD "_law_low" "_law_low" s_law_low c35 d35 e35 v35 g35 j35) w35)
 (q35 : PySem.W.codeIn K g35 "_law_low" = true)
 (k35 : KI K A38)
 (n36 : NS K "_law_plus" A39)
 (l36 : HL K A39 b36 u36 (FD "_law_plus" "_law_plus" s_law_plus c36 d36 e36 v36 g36 j36) w36)
 (q36 : PySem.W.codeIn K g36 "_law_plus" = true)
 (k36 : KI K A39)
 (n37 : NS K "_law_times" A40)
 (l37 : HL K A40 b37 u37 (FD "_law_times" "_law_times" s_law_times c37 d37 e37 v37 g37 j37) w37)
 (q37 : PySem.W.codeIn K g37 "_law_times" = true)
 (k37 : KI K A40)
 (n38 : NS K "_law_number" A41)
 (l38 : HL K A41 b38 u38 (FD "_law_number" "_law_number" s_law_number c38 d38 e38 v38 g38 j38) w38)
 (q38 : PySem.W.codeIn K g38 "_law_number" = true)
 (k38 : KI K A41)
 (n39 : NS K "_law_sort" A42)
 (l39 : HL K A42 b39 u39 (FD "_law_sort" "_law_sort" s_law_sort c39 d39 e39 v39 g39 j39) w39)
 (q39 : PySem.W.codeIn K g39 "_law_sort" = true)
 (k39 : KI K A42)
 (n40 : NS K "_law_kind" A43)
 (l40 : HL K A43 b40 u40 (FD "_law_kind" "_law_kind" s_law_kind c40 d40 e40 v40 g40 j40) w40)
 (q40 : PySem.W.codeIn K g40 "_law_kind" = true)
 (k40 : KI K A43)
 (n41 : NS K "_law_weight" A44)
 (l41 : HL K A44 b41 u41 (FD "_law_weight" "_law_weight" s_law_weight c41 d41 e41 v41 g41 j41) w41)
 (q41 : PySem.W.codeIn K g41 "_law_weight" = true)
 (k41 : KI K A44)
 (n42 : NS K "_law_whole" A45)
 (l42 : HL K A45 b42 u42 (FD "_law_whole" "_law_whole" s_law_whole c42 d42 e42 v42 g42 j42) w42)
 (q42 : PySem.W.codeIn K g42 "_law_whole" = true)
 (k42 : KI K A45)
 (n43 : NS K "_law_is" A46)
 (l43 : HL K A46 b43 u43 (FD "_law_is" "_law_is" s_law_is c43 d43 e43 v43 g43 j43) w43)
 (q43 : PySem.W.codeIn K g43 "_law_is" = true)
 (k43 : KI K A46)
 (n44 : NS K "_law_sum" A47)
 (l44 : HL K A47 b44 u44 (FD "_law_sum" "_law_sum" s_law_sum c44 d44 e44 v44 g44 j44) w44)
 (q44 : PySem.W.codeIn K g44 "_law_sum" = true)
 (k44 : KI K A47)
 (n45 : NS K "_law_steps" A48)
 (l45 : HL K A48 b45 u45 (FD "_law_steps" "_law_steps" s_law_steps c45 d45 e45 v45 g45 j45) w45)
 (q45 : PySem.W.codeIn K g45 "_law_steps" = true)
 (k45 : KI K A48)
 (n46 : NS K "_law_mixed" A49)
 (l46 : HL K A49 b46 u46 (FD "_law_mixed" "_law_mixed" s_law_mixed c46 d46 e46 v46 g46 j46) w46)
 (q46 : PySem.W.codeIn K g46 "_law_mixed" = true)
 (k46 : KI K A49)
 (n47 : NS K "_law_ones" A50)
 (l47 : HL K A50 b47 u47 (FD "_law_ones" "_law_ones" s_law_ones c47 d47 e47 v47 g47 j47) w47)
 (q47 : PySem.W.codeIn K g47 "_law_ones" = true)
 (k47 : KI K A50)
 (n48 : NS K "_law_by" A51)
 (l48 : HL K A51 b48 u48 (FD "_law_by" "_law_by" s_law_by c48 d48 e48 v48 g48 j48) w48)
 (q48 : PySem.W.codeIn K g48 "_law_by" = true)
 (k48 : KI K A51)
 (n49 : NS K "law" A52)
 (l49 : HL K A52 b49 u49 (FD "law" "law" s_law c49 d49 e49 v49 g49 j49) w49)
 (q49 : PySem.W.codeIn K g49 "law" = true)
 (k49 : KI K A52)
 (z_isinstance : PySem.W.nsIn K mainGlobals "isinstance" = some none)
 (z_int : PySem.W.nsIn K mainGlobals "int" = some none)
 (z_bool : PySem.W.nsIn K mainGlobals "bool" = some none)
 (z_abs : PySem.W.nsIn K mainGlobals "abs" = some none)
 {tk_c_GREATEST_PRIME : Tok}
 (c_GREATEST_PRIME : PySem.W.nsIn K mainGlobals "GREATEST_PRIME" = some (some (.int 1000000 tk_c_GREATEST_PRIME)))
 (z_tuple : PySem.W.nsIn K mainGlobals "tuple" = some none)
 (z_range : PySem.W.nsIn K mainGlobals "range" = some none)
 (z_zip : PySem.W.nsIn K mainGlobals "zip" = some none)
 (z_len : PySem.W.nsIn K mainGlobals "len" = some none)
 (z_enumerate : PySem.W.nsIn K mainGlobals "enumerate" = some none)
 (z_list : PySem.W.nsIn K mainGlobals "list" = some none)
 (z_all : PySem.W.nsIn K mainGlobals "all" = some none)
 (k_ii : PySem.W.kitOne K (.type "int") (.type "int") = some true)
 (k_ib : PySem.W.kitOne K (.type "int") (.type "bool") = some false)
 (k_tt : PySem.W.kitOne K (.type "tuple") (.type "tuple") = some true)
 (k_bb : PySem.W.kitOne K (.type "bool") (.type "bool") = some true)
 (nP : PySem.W.findIn K (.ref A1) "prime" = some none)
 (iF_is_field : PySem.W.findIn K (.ref A0) "is_field" = some (some (.ref A16)))
 (iR_is_field : PySem.W.findIn K (.ref A1) "is_field" = some (some (.ref A16)))
 (k_ll : PySem.W.kitOne K (.type "list") (.type "list") = some true)
 : ∃ t : Adr, Txt K mg t :=
 ⟨{ is_whole := A3, d_is_whole := FD "is_whole" "is_whole" s_is_whole c0 d0 e0 v0 g0 j0, divisor := A4, d_divisor := FD "divisor" "divisor" s_divisor c1 d1 e1 v1 g1 j1, fraction := A5, d_fraction := FD "fraction" "fraction" s_fraction c2 d2 e2 v2 g2 j2, is_prime := A6, d_is_prime := FD "is_prime" "is_prime" s_is_prime c3 d3 e3 v3 g3 j3, Fractions_nought := A7, d_Fractions_nought := FD "nought" "Fractions.nought" s_Fractions_nought c4 d4 e4 v4 g4 j4, Fractions_one := A8, d_Fractions_one := FD "one" "Fractions.one" s_Fractions_one c5 d5 e5 v5 g5 j5, Fractions_plus := A9, d_Fractions_plus := FD "plus" "Fractions.plus" s_Fractions_plus c6 d6 e6 v6 g6 j6, Fractions_times := A10, d_Fractions_times := FD "times" "Fractions.times" s_Fractions_times c7 d7 e7 v7 g7 j7, Residues___init__ := A11, d_Residues___init__ := FD "__init__" "Residues.__init__" s_Residues___init__ c8 d8 e8 v8 g8 j8, Residues_nought := A12, d_Residues_nought := FD "nought" "Residues.nought" s_Residues_nought c9 d9 e9 v9 g9 j9, Residues_one := A13, d_Residues_one := FD "one" "Residues.one" s_Residues_one c10 d10 e10 v10 g10 j10, Residues_plus := A14, d_Residues_plus := FD "plus" "Residues.plus" s_Residues_plus c11 d11 e11 v11 g11 j11, Residues_times := A15, d_Residues_times := FD "times" "Residues.times" s_Residues_times c12 d12 e12 v12 g12 j12, Field_is_field := A16, d_Field_is_field := FD "is_field" "Field.is_field" s_Field_is_field c13 d13 e13 v13 g13 j13, Fractions_minus := A17, d_Fractions_minus := FD "minus" "Fractions.minus" s_Fractions_minus c14 d14 e14 v14 g14 j14, Fractions_inverse := A18, d_Fractions_inverse := FD "inverse" "Fractions.inverse" s_Fractions_inverse c15 d15 e15 v15 g15 j15, Residues_minus := A19, d_Residues_minus := FD "minus" "Residues.minus" s_Residues_minus c16 d16 e16 v16 g16 j16, Residues_inverse := A20, d_Residues_inverse := FD "inverse" "Residues.inverse" s_Residues_inverse c17 d17 e17 v17 g17 j17, noughts := A21, d_noughts := FD "noughts" "noughts" s_noughts c18 d18 e18 v18 g18 j18, unit := A22, d_unit := FD "unit" "unit" s_unit c19 d19 e19 v19 g19 j19, times_row := A23, d_times_row := FD "times_row" "times_row" s_times_row c20 d20 e20 v20 g20 j20, need_field := A24, d_need_field := FD "need_field" "need_field" s_need_field c21 d21 e21 v21 g21 j21, leading := A25, d_leading := FD "leading" "leading" s_leading c22 d22 e22 v22 g22 j22, plus_row := A26, d_plus_row := FD "plus_row" "plus_row" s_plus_row c23 d23 e23 v23 g23 j23, cleared := A27, d_cleared := FD "cleared" "cleared" s_cleared c24 d24 e24 v24 g24 j24, keep := A28, d_keep := FD "keep" "keep" s_keep c25 d25 e25 v25 g25 j25, kept_rows := A29, d_kept_rows := FD "kept_rows" "kept_rows" s_kept_rows c26 d26 e26 v26 g26 j26, width_of := A30, d_width_of := FD "width_of" "width_of" s_width_of c27 d27 e27 v27 g27 j27, marked := A31, d_marked := FD "marked" "marked" s_marked c28 d28 e28 v28 g28 j28, kept_marked := A32, d_kept_marked := FD "kept_marked" "kept_marked" s_kept_marked c29 d29 e29 v29 g29 j29, parts_by := A33, d_parts_by := FD "parts_by" "parts_by" s_parts_by c30 d30 e30 v30 g30 j30, inverse_of := A34, d_inverse_of := FD "inverse_of" "inverse_of" s_inverse_of c31 d31 e31 v31 g31 j31, law_next := A35, d_law_next := FD "_law_next" "_law_next" s_law_next c32 d32 e32 v32 g32 j32, law_state := A36, d_law_state := FD "_law_state" "_law_state" s_law_state c33 d33 e33 v33 g33 j33, law_divisor := A37, d_law_divisor := FD "_law_divisor" "_law_divisor" s_law_divisor c34 d34 e34 v34 g34 j34, law_low := A38, d_law_low := FD "_law_low" "_law_low" s_law_low c35 d35 e35 v35 g35 j35, law_plus := A39, d_law_plus := FD "_law_plus" "_law_plus" s_law_plus c36 d36 e36 v36 g36 j36, law_times := A40, d_law_times := FD "_law_times" "_law_times" s_law_times c37 d37 e37 v37 g37 j37, law_number := A41, d_law_number := FD "_law_number" "_law_number" s_law_number c38 d38 e38 v38 g38 j38, law_sort := A42, d_law_sort := FD "_law_sort" "_law_sort" s_law_sort c39 d39 e39 v39 g39 j39, law_kind := A43, d_law_kind := FD "_law_kind" "_law_kind" s_law_kind c40 d40 e40 v40 g40 j40, law_weight := A44, d_law_weight := FD "_law_weight" "_law_weight" s_law_weight c41 d41 e41 v41 g41 j41, law_whole := A45, d_law_whole := FD "_law_whole" "_law_whole" s_law_whole c42 d42 e42 v42 g42 j42, law_is := A46, d_law_is := FD "_law_is" "_law_is" s_law_is c43 d43 e43 v43 g43 j43, law_sum := A47, d_law_sum := FD "_law_sum" "_law_sum" s_law_sum c44 d44 e44 v44 g44 j44, law_steps := A48, d_law_steps := FD "_law_steps" "_law_steps" s_law_steps c45 d45 e45 v45 g45 j45, law_mixed := A49, d_law_mixed := FD "_law_mixed" "_law_mixed" s_law_mixed c46 d46 e46 v46 g46 j46, law_ones := A50, d_law_ones := FD "_law_ones" "_law_ones" s_law_ones c47 d47 e47 v47 g47 j47, law_by := A51, d_law_by := FD "_law_by" "_law_by" s_law_by c48 d48 e48 v48 g48 j48, law := A52, d_law := FD "law" "law" s_law c49 d49 e49 v49 g49 j49, Fractions := A0, Residues := A1, Field := A2 },
   { F_is_whole := fun_mk (st := s_is_whole) l0 q0 k0,
     b_is_whole := (fun_mk (st := s_is_whole) l0 q0 k0).binds (ps := ["thing"]) fun _ _ _ _ _ _ us hl => match us, hl with | [_], _ => rfl,
     m_is_whole := PySem.W.mg_of X G n0,
     F_divisor := fun_mk (st := s_divisor) l1 q1 k1,
     b_divisor := (fun_mk (st := s_divisor) l1 q1 k1).binds (ps := ["one", "other"]) fun _ _ _ _ _ _ us hl => match us, hl with | [_, _], _ => rfl,
     m_divisor := PySem.W.mg_of X G n1,
     F_fraction := fun_mk (st := s_fraction) l2 q2 k2,
     b_fraction := (fun_mk (st := s_fraction) l2 q2 k2).binds (ps := ["top", "bottom"]) fun _ _ _ _ _ _ us hl => match us, hl with | [_, _], _ => rfl,
     m_fraction := PySem.W.mg_of X G n2,
     F_is_prime := fun_mk (st := s_is_prime) l3 q3 k3,
     b_is_prime := (fun_mk (st := s_is_prime) l3 q3 k3).binds (ps := ["number"]) fun _ _ _ _ _ _ us hl => match us, hl with | [_], _ => rfl,
     m_is_prime := PySem.W.mg_of X G n3,
     F_Fractions_nought := fun_mk (st := s_Fractions_nought) l4 q4 k4,
     b_Fractions_nought := (fun_mk (st := s_Fractions_nought) l4 q4 k4).binds (ps := ["self"]) fun _ _ _ _ _ _ us hl => match us, hl with | [_], _ => rfl,
     t_Fractions_nought := ⟨n4, i4, k4⟩,
     F_Fractions_one := fun_mk (st := s_Fractions_one) l5 q5 k5,
     b_Fractions_one := (fun_mk (st := s_Fractions_one) l5 q5 k5).binds (ps := ["self"]) fun _ _ _ _ _ _ us hl => match us, hl with | [_], _ => rfl,
     t_Fractions_one := ⟨n5, i5, k5⟩,
     F_Fractions_plus := fun_mk (st := s_Fractions_plus) l6 q6 k6,
     b_Fractions_plus := (fun_mk (st := s_Fractions_plus) l6 q6 k6).binds (ps := ["self", "x", "y"]) fun _ _ _ _ _ _ us hl => match us, hl with | [_, _, _], _ => rfl,
     t_Fractions_plus := ⟨n6, i6, k6⟩,
     F_Fractions_times := fun_mk (st := s_Fractions_times) l7 q7 k7,
     b_Fractions_times := (fun_mk (st := s_Fractions_times) l7 q7 k7).binds (ps := ["self", "x", "y"]) fun _ _ _ _ _ _ us hl => match us, hl with | [_, _, _], _ => rfl,
     t_Fractions_times := ⟨n7, i7, k7⟩,
     F_Residues___init__ := fun_mk (st := s_Residues___init__) l8 q8 k8,
     b_Residues___init__ := (fun_mk (st := s_Residues___init__) l8 q8 k8).binds (ps := ["self", "prime"]) fun _ _ _ _ _ _ us hl => match us, hl with | [_, _], _ => rfl,
     t_Residues___init__ := ⟨n8, i8, k8⟩,
     F_Residues_nought := fun_mk (st := s_Residues_nought) l9 q9 k9,
     b_Residues_nought := (fun_mk (st := s_Residues_nought) l9 q9 k9).binds (ps := ["self"]) fun _ _ _ _ _ _ us hl => match us, hl with | [_], _ => rfl,
     t_Residues_nought := ⟨n9, i9, k9⟩,
     F_Residues_one := fun_mk (st := s_Residues_one) l10 q10 k10,
     b_Residues_one := (fun_mk (st := s_Residues_one) l10 q10 k10).binds (ps := ["self"]) fun _ _ _ _ _ _ us hl => match us, hl with | [_], _ => rfl,
     t_Residues_one := ⟨n10, i10, k10⟩,
     F_Residues_plus := fun_mk (st := s_Residues_plus) l11 q11 k11,
     b_Residues_plus := (fun_mk (st := s_Residues_plus) l11 q11 k11).binds (ps := ["self", "x", "y"]) fun _ _ _ _ _ _ us hl => match us, hl with | [_, _, _], _ => rfl,
     t_Residues_plus := ⟨n11, i11, k11⟩,
     F_Residues_times := fun_mk (st := s_Residues_times) l12 q12 k12,
     b_Residues_times := (fun_mk (st := s_Residues_times) l12 q12 k12).binds (ps := ["self", "x", "y"]) fun _ _ _ _ _ _ us hl => match us, hl with | [_, _, _], _ => rfl,
     t_Residues_times := ⟨n12, i12, k12⟩,
     F_Field_is_field := fun_mk (st := s_Field_is_field) l13 q13 k13,
     b_Field_is_field := (fun_mk (st := s_Field_is_field) l13 q13 k13).binds (ps := ["self"]) fun _ _ _ _ _ _ us hl => match us, hl with | [_], _ => rfl,
     t_Field_is_field := ⟨n13, i13, k13⟩,
     F_Fractions_minus := fun_mk (st := s_Fractions_minus) l14 q14 k14,
     b_Fractions_minus := (fun_mk (st := s_Fractions_minus) l14 q14 k14).binds (ps := ["self", "x"]) fun _ _ _ _ _ _ us hl => match us, hl with | [_, _], _ => rfl,
     t_Fractions_minus := ⟨n14, i14, k14⟩,
     F_Fractions_inverse := fun_mk (st := s_Fractions_inverse) l15 q15 k15,
     b_Fractions_inverse := (fun_mk (st := s_Fractions_inverse) l15 q15 k15).binds (ps := ["self", "x"]) fun _ _ _ _ _ _ us hl => match us, hl with | [_, _], _ => rfl,
     t_Fractions_inverse := ⟨n15, i15, k15⟩,
     F_Residues_minus := fun_mk (st := s_Residues_minus) l16 q16 k16,
     b_Residues_minus := (fun_mk (st := s_Residues_minus) l16 q16 k16).binds (ps := ["self", "x"]) fun _ _ _ _ _ _ us hl => match us, hl with | [_, _], _ => rfl,
     t_Residues_minus := ⟨n16, i16, k16⟩,
     F_Residues_inverse := fun_mk (st := s_Residues_inverse) l17 q17 k17,
     b_Residues_inverse := (fun_mk (st := s_Residues_inverse) l17 q17 k17).binds (ps := ["self", "x"]) fun _ _ _ _ _ _ us hl => match us, hl with | [_, _], _ => rfl,
     t_Residues_inverse := ⟨n17, i17, k17⟩,
     F_noughts := fun_mk (st := s_noughts) l18 q18 k18,
     b_noughts := (fun_mk (st := s_noughts) l18 q18 k18).binds (ps := ["kind", "size"]) fun _ _ _ _ _ _ us hl => match us, hl with | [_, _], _ => rfl,
     m_noughts := PySem.W.mg_of X G n18,
     F_unit := fun_mk (st := s_unit) l19 q19 k19,
     b_unit := (fun_mk (st := s_unit) l19 q19 k19).binds (ps := ["kind", "size", "place"]) fun _ _ _ _ _ _ us hl => match us, hl with | [_, _, _], _ => rfl,
     m_unit := PySem.W.mg_of X G n19,
     F_times_row := fun_mk (st := s_times_row) l20 q20 k20,
     b_times_row := (fun_mk (st := s_times_row) l20 q20 k20).binds (ps := ["kind", "by", "row"]) fun _ _ _ _ _ _ us hl => match us, hl with | [_, _, _], _ => rfl,
     m_times_row := PySem.W.mg_of X G n20,
     F_need_field := fun_mk (st := s_need_field) l21 q21 k21,
     b_need_field := (fun_mk (st := s_need_field) l21 q21 k21).binds (ps := ["kind"]) fun _ _ _ _ _ _ us hl => match us, hl with | [_], _ => rfl,
     m_need_field := PySem.W.mg_of X G n21,
     F_leading := fun_mk (st := s_leading) l22 q22 k22,
     b_leading := (fun_mk (st := s_leading) l22 q22 k22).binds (ps := ["kind", "row", "width"]) fun _ _ _ _ _ _ us hl => match us, hl with | [_, _, _], _ => rfl,
     m_leading := PySem.W.mg_of X G n22,
     F_plus_row := fun_mk (st := s_plus_row) l23 q23 k23,
     b_plus_row := (fun_mk (st := s_plus_row) l23 q23 k23).binds (ps := ["kind", "one", "other"]) fun _ _ _ _ _ _ us hl => match us, hl with | [_, _, _], _ => rfl,
     m_plus_row := PySem.W.mg_of X G n23,
     F_cleared := fun_mk (st := s_cleared) l24 q24 k24,
     b_cleared := (fun_mk (st := s_cleared) l24 q24 k24).binds (ps := ["kind", "kept", "row"]) fun _ _ _ _ _ _ us hl => match us, hl with | [_, _, _], _ => rfl,
     m_cleared := PySem.W.mg_of X G n24,
     F_keep := fun_mk (st := s_keep) l25 q25 k25,
     b_keep := (fun_mk (st := s_keep) l25 q25 k25).binds (ps := ["kind", "kept", "row", "width"]) fun _ _ _ _ _ _ us hl => match us, hl with | [_, _, _, _], _ => rfl,
     m_keep := PySem.W.mg_of X G n25,
     F_kept_rows := fun_mk (st := s_kept_rows) l26 q26 k26,
     b_kept_rows := (fun_mk (st := s_kept_rows) l26 q26 k26).binds (ps := ["kind", "rows", "width"]) fun _ _ _ _ _ _ us hl => match us, hl with | [_, _, _], _ => rfl,
     m_kept_rows := PySem.W.mg_of X G n26,
     F_width_of := fun_mk (st := s_width_of) l27 q27 k27,
     b_width_of := (fun_mk (st := s_width_of) l27 q27 k27).binds (ps := ["rows"]) fun _ _ _ _ _ _ us hl => match us, hl with | [_], _ => rfl,
     m_width_of := PySem.W.mg_of X G n27,
     F_marked := fun_mk (st := s_marked) l28 q28 k28,
     b_marked := (fun_mk (st := s_marked) l28 q28 k28).binds (ps := ["kind", "rows"]) fun _ _ _ _ _ _ us hl => match us, hl with | [_, _], _ => rfl,
     m_marked := PySem.W.mg_of X G n28,
     F_kept_marked := fun_mk (st := s_kept_marked) l29 q29 k29,
     b_kept_marked := (fun_mk (st := s_kept_marked) l29 q29 k29).binds (ps := ["kind", "rows"]) fun _ _ _ _ _ _ us hl => match us, hl with | [_, _], _ => rfl,
     m_kept_marked := PySem.W.mg_of X G n29,
     F_parts_by := fun_mk (st := s_parts_by) l30 q30 k30,
     b_parts_by := (fun_mk (st := s_parts_by) l30 q30 k30).binds (ps := ["kind", "kept", "count", "row"]) fun _ _ _ _ _ _ us hl => match us, hl with | [_, _, _, _], _ => rfl,
     m_parts_by := PySem.W.mg_of X G n30,
     F_inverse_of := fun_mk (st := s_inverse_of) l31 q31 k31,
     b_inverse_of := (fun_mk (st := s_inverse_of) l31 q31 k31).binds (ps := ["kind", "table"]) fun _ _ _ _ _ _ us hl => match us, hl with | [_, _], _ => rfl,
     m_inverse_of := PySem.W.mg_of X G n31,
     F_law_next := fun_mk (st := s_law_next) l32 q32 k32,
     b_law_next := (fun_mk (st := s_law_next) l32 q32 k32).binds (ps := ["_law_state_here", "_law_many"]) fun _ _ _ _ _ _ us hl => match us, hl with | [_, _], _ => rfl,
     m_law_next := PySem.W.mg_of X G n32,
     F_law_state := fun_mk (st := s_law_state) l33 q33 k33,
     b_law_state := (fun_mk (st := s_law_state) l33 q33 k33).binds (ps := ["_law_script"]) fun _ _ _ _ _ _ us hl => match us, hl with | [_], _ => rfl,
     m_law_state := PySem.W.mg_of X G n33,
     F_law_divisor := fun_mk (st := s_law_divisor) l34 q34 k34,
     b_law_divisor := (fun_mk (st := s_law_divisor) l34 q34 k34).binds (ps := ["_law_one", "_law_other"]) fun _ _ _ _ _ _ us hl => match us, hl with | [_, _], _ => rfl,
     m_law_divisor := PySem.W.mg_of X G n34,
     F_law_low := fun_mk (st := s_law_low) l35 q35 k35,
     b_law_low := (fun_mk (st := s_law_low) l35 q35 k35).binds (ps := ["_law_top", "_law_bottom"]) fun _ _ _ _ _ _ us hl => match us, hl with | [_, _], _ => rfl,
     m_law_low := PySem.W.mg_of X G n35,
     F_law_plus := fun_mk (st := s_law_plus) l36 q36 k36,
     b_law_plus := (fun_mk (st := s_law_plus) l36 q36 k36).binds (ps := ["_law_sort_here", "_law_x", "_law_y"]) fun _ _ _ _ _ _ us hl => match us, hl with | [_, _, _], _ => rfl,
     m_law_plus := PySem.W.mg_of X G n36,
     F_law_times := fun_mk (st := s_law_times) l37 q37 k37,
     b_law_times := (fun_mk (st := s_law_times) l37 q37 k37).binds (ps := ["_law_sort_here", "_law_x", "_law_y"]) fun _ _ _ _ _ _ us hl => match us, hl with | [_, _, _], _ => rfl,
     m_law_times := PySem.W.mg_of X G n37,
     F_law_number := fun_mk (st := s_law_number) l38 q38 k38,
     b_law_number := (fun_mk (st := s_law_number) l38 q38 k38).binds (ps := ["_law_sort_here", "_law_number_here"]) fun _ _ _ _ _ _ us hl => match us, hl with | [_, _], _ => rfl,
     m_law_number := PySem.W.mg_of X G n38,
     F_law_sort := fun_mk (st := s_law_sort) l39 q39 k39,
     b_law_sort := (fun_mk (st := s_law_sort) l39 q39 k39).binds (ps := ["_law_state_here"]) fun _ _ _ _ _ _ us hl => match us, hl with | [_], _ => rfl,
     m_law_sort := PySem.W.mg_of X G n39,
     F_law_kind := fun_mk (st := s_law_kind) l40 q40 k40,
     b_law_kind := (fun_mk (st := s_law_kind) l40 q40 k40).binds (ps := ["_law_sort_here"]) fun _ _ _ _ _ _ us hl => match us, hl with | [_], _ => rfl,
     m_law_kind := PySem.W.mg_of X G n40,
     F_law_weight := fun_mk (st := s_law_weight) l41 q41 k41,
     b_law_weight := (fun_mk (st := s_law_weight) l41 q41 k41).binds (ps := ["_law_state_here", "_law_sort_here"]) fun _ _ _ _ _ _ us hl => match us, hl with | [_, _], _ => rfl,
     m_law_weight := PySem.W.mg_of X G n41,
     F_law_whole := fun_mk (st := s_law_whole) l42 q42 k42,
     b_law_whole := (fun_mk (st := s_law_whole) l42 q42 k42).binds (ps := ["_law_thing"]) fun _ _ _ _ _ _ us hl => match us, hl with | [_], _ => rfl,
     m_law_whole := PySem.W.mg_of X G n42,
     F_law_is := fun_mk (st := s_law_is) l43 q43 k43,
     b_law_is := (fun_mk (st := s_law_is) l43 q43 k43).binds (ps := ["_law_sort_here", "_law_thing"]) fun _ _ _ _ _ _ us hl => match us, hl with | [_, _], _ => rfl,
     m_law_is := PySem.W.mg_of X G n43,
     F_law_sum := fun_mk (st := s_law_sum) l44 q44 k44,
     b_law_sum := (fun_mk (st := s_law_sum) l44 q44 k44).binds (ps := ["_law_sort_here", "_law_many", "_law_rows", "_law_wide"]) fun _ _ _ _ _ _ us hl => match us, hl with | [_, _, _, _], _ => rfl,
     m_law_sum := PySem.W.mg_of X G n44,
     F_law_steps := fun_mk (st := s_law_steps) l45 q45 k45,
     b_law_steps := (fun_mk (st := s_law_steps) l45 q45 k45).binds (ps := ["_law_state_here", "_law_sort_here", "_law_many", "_law_wide"]) fun _ _ _ _ _ _ us hl => match us, hl with | [_, _, _, _], _ => rfl,
     m_law_steps := PySem.W.mg_of X G n45,
     F_law_mixed := fun_mk (st := s_law_mixed) l46 q46 k46,
     b_law_mixed := (fun_mk (st := s_law_mixed) l46 q46 k46).binds (ps := ["_law_state_here", "_law_sort_here", "_law_rows", "_law_more"]) fun _ _ _ _ _ _ us hl => match us, hl with | [_, _, _, _], _ => rfl,
     m_law_mixed := PySem.W.mg_of X G n46,
     F_law_ones := fun_mk (st := s_law_ones) l47 q47 k47,
     b_law_ones := (fun_mk (st := s_law_ones) l47 q47 k47).binds (ps := ["_law_sort_here", "_law_many"]) fun _ _ _ _ _ _ us hl => match us, hl with | [_, _], _ => rfl,
     m_law_ones := PySem.W.mg_of X G n47,
     F_law_by := fun_mk (st := s_law_by) l48 q48 k48,
     b_law_by := (fun_mk (st := s_law_by) l48 q48 k48).binds (ps := ["_law_sort_here", "_law_one", "_law_other"]) fun _ _ _ _ _ _ us hl => match us, hl with | [_, _, _], _ => rfl,
     m_law_by := PySem.W.mg_of X G n48,
     F_law := fun_mk (st := s_law) l49 q49 k49,
     b_law := (fun_mk (st := s_law) l49 q49 k49).binds (ps := ["_law_script"]) fun _ _ _ _ _ _ us hl => match us, hl with | [_], _ => rfl,
     m_law := PySem.W.mg_of X G n49,
     C_Fractions := ⟨pg0, hd0, po0, sa0⟩,
     m_Fractions := PySem.W.mg_of X G N0,
     M_Fractions := ⟨mk0, in0, kp0⟩,
     C_Residues := ⟨pg1, hd1, po1, sa1⟩,
     m_Residues := PySem.W.mg_of X G N1,
     M_Residues := ⟨mk1, n8, i8, kp1⟩,
     C_Field := ⟨pg2, hd2, po2, sa2⟩,
     m_Field := PySem.W.mg_of X G N2,
     M_Field := ⟨mk2, in2, kp2⟩,
     z_isinstance := PySem.W.mg_none_of X G z_isinstance,
     z_int := PySem.W.mg_none_of X G z_int,
     z_bool := PySem.W.mg_none_of X G z_bool,
     z_abs := PySem.W.mg_none_of X G z_abs,
     c_GREATEST_PRIME := ⟨_, PySem.W.mg_of X G c_GREATEST_PRIME⟩,
     z_tuple := PySem.W.mg_none_of X G z_tuple,
     z_range := PySem.W.mg_none_of X G z_range,
     z_zip := PySem.W.mg_none_of X G z_zip,
     z_len := PySem.W.mg_none_of X G z_len,
     z_enumerate := PySem.W.mg_none_of X G z_enumerate,
     z_list := PySem.W.mg_none_of X G z_list,
     z_all := PySem.W.mg_none_of X G z_all,
     k_ii := k_ii,
     k_ib := k_ib,
     k_tt := k_tt,
     k_bb := k_bb,
     nP := nP,
     iF_is_field := iF_is_field,
     iR_is_field := iR_is_field,
     k_ll := k_ll }⟩
end K33
open PySem PySem.W PyProof.Rows
set_option maxRecDepth 100000 in
set_option maxHeartbeats 0 in
theorem PySem.Challenge.cw_weighwalk_k33_inverse_holds : PySem.Challenge.rw_weighwalk_k33_inverse.Holds := by
  w_on; o_law
  refine H33.holds_ (by assumption) ?hw ?hc
  (case hw => w_witness2)
  unfold H33.hook
  k_fill
  refine L2.walk_ofK (l := PySem.Challenge.rw_weighwalk_k33_inverse) (n := 63) (k := 50) (x := "_law_script") (CX := L2.CX0) (sp := K33.sp_law) rfl (by decide) rfl ⟨rfl, by decide, by decide⟩ (by decide +kernel) (fun w h Y => PySem.W.kIn_of Y) ?F ?S ?C
  case F =>
    intro w mg fa h KX G hmg
    have T : ∃ t, K33.Txt (L2.KOf KX) mg t := by
      dsimp only [L2.KOf]
      refine' K33.txt_mk KX G ?N0 ?pg0 ?hd0 ?po0 ?sa0 ?mk0 ?kp0 ?in0 ?N1 ?pg1 ?hd1 ?po1 ?sa1 ?mk1 ?kp1 ?N2 ?pg2 ?hd2 ?po2 ?sa2 ?mk2 ?kp2 ?in2 ?n0 ?l0 ?q0 ?k0 ?n1 ?l1 ?q1 ?k1 ?n2 ?l2 ?q2 ?k2 ?n3 ?l3 ?q3 ?k3 ?n4 ?i4 ?l4 ?q4 ?k4 ?n5 ?i5 ?l5 ?q5 ?k5 ?n6 ?i6 ?l6 ?q6 ?k6 ?n7 ?i7 ?l7 ?q7 ?k7 ?n8 ?i8 ?l8 ?q8 ?k8 ?n9 ?i9 ?l9 ?q9 ?k9 ?n10 ?i10 ?l10 ?q10 ?k10 ?n11 ?i11 ?l11 ?q11 ?k11 ?n12 ?i12 ?l12 ?q12 ?k12 ?n13 ?i13 ?l13 ?q13 ?k13 ?n14 ?i14 ?l14 ?q14 ?k14 ?n15 ?i15 ?l15 ?q15 ?k15 ?n16 ?i16 ?l16 ?q16 ?k16 ?n17 ?i17 ?l17 ?q17 ?k17 ?n18 ?l18 ?q18 ?k18 ?n19 ?l19 ?q19 ?k19 ?n20 ?l20 ?q20 ?k20 ?n21 ?l21 ?q21 ?k21 ?n22 ?l22 ?q22 ?k22 ?n23 ?l23 ?q23 ?k23 ?n24 ?l24 ?q24 ?k24 ?n25 ?l25 ?q25 ?k25 ?n26 ?l26 ?q26 ?k26 ?n27 ?l27 ?q27 ?k27 ?n28 ?l28 ?q28 ?k28 ?n29 ?l29 ?q29 ?k29 ?n30 ?l30 ?q30 ?k30 ?n31 ?l31 ?q31 ?k31 ?n32 ?l32 ?q32 ?k32 ?n33 ?l33 ?q33 ?k33 ?n34 ?l34 ?q34 ?k34 ?n35 ?l35 ?q35 ?k35 ?n36 ?l36 ?q36 ?k36 ?n37 ?l37 ?q37 ?k37 ?n38 ?l38 ?q38 ?k38 ?n39 ?l39 ?q39 ?k39 ?n40 ?l40 ?q40 ?k40 ?n41 ?l41 ?q41 ?k41 ?n42 ?l42 ?q42 ?k42 ?n43 ?l43 ?q43 ?k43 ?n44 ?l44 ?q44 ?k44 ?n45 ?l45 ?q45 ?k45 ?n46 ?l46 ?q46 ?k46 ?n47 ?l47 ?q47 ?k47 ?n48 ?l48 ?q48 ?k48 ?n49 ?l49 ?q49 ?k49 ?z_isinstance ?z_int ?z_bool ?z_abs ?c_GREATEST_PRIME ?z_tuple ?z_range ?z_zip ?z_len ?z_enumerate ?z_list ?z_all ?k_ii ?k_ib ?k_tt ?k_bb ?nP ?iF_is_field ?iR_is_field ?k_ll
      (case N0 | pg0 | hd0 | po0 | sa0 | mk0 | kp0 | in0 | N1 | pg1 | hd1 | po1 | sa1 | mk1 | kp1 | N2 | pg2 | hd2 | po2 | sa2 | mk2 | kp2 | in2 | n0 => show _ = _; k_is)
      (case l0 => exact H33.lk_is_whole _)
      (case q0 | k0 | n1 => show _ = _; k_is)
      (case l1 => exact H33.lk_divisor _)
      (case q1 | k1 | n2 => show _ = _; k_is)
      (case l2 => exact H33.lk_fraction _)
      (case q2 | k2 | n3 => show _ = _; k_is)
      (case l3 => exact H33.lk_is_prime _)
      (case q3 | k3 | n4 | i4 => show _ = _; k_is)
      (case l4 => exact H33.lk_Fractions_nought _)
      (case q4 | k4 | n5 | i5 => show _ = _; k_is)
      (case l5 => exact H33.lk_Fractions_one _)
      (case q5 | k5 | n6 | i6 => show _ = _; k_is)
      (case l6 => exact H33.lk_Fractions_plus _)
      (case q6 | k6 | n7 | i7 => show _ = _; k_is)
      (case l7 => exact H33.lk_Fractions_times _)
      (case q7 | k7 | n8 | i8 => show _ = _; k_is)
      (case l8 => exact H33.lk_Residues___init__ _)
      (case q8 | k8 | n9 | i9 => show _ = _; k_is)
      (case l9 => exact H33.lk_Residues_nought _)
      (case q9 | k9 | n10 | i10 => show _ = _; k_is)
      (case l10 => exact H33.lk_Residues_one _)
      (case q10 | k10 | n11 | i11 => show _ = _; k_is)
      (case l11 => exact H33.lk_Residues_plus _)
      (case q11 | k11 | n12 | i12 => show _ = _; k_is)
      (case l12 => exact H33.lk_Residues_times _)
      (case q12 | k12 | n13 | i13 => show _ = _; k_is)
      (case l13 => exact H33.lk_Field_is_field _)
      (case q13 | k13 | n14 | i14 => show _ = _; k_is)
      (case l14 => exact H33.lk_Fractions_minus _)
      (case q14 | k14 | n15 | i15 => show _ = _; k_is)
      (case l15 => exact H33.lk_Fractions_inverse _)
      (case q15 | k15 | n16 | i16 => show _ = _; k_is)
      (case l16 => exact H33.lk_Residues_minus _)
      (case q16 | k16 | n17 | i17 => show _ = _; k_is)
      (case l17 => exact H33.lk_Residues_inverse _)
      (case q17 | k17 | n18 => show _ = _; k_is)
      (case l18 => exact H33.lk_noughts _)
      (case q18 | k18 | n19 => show _ = _; k_is)
      (case l19 => exact H33.lk_unit _)
      (case q19 | k19 | n20 => show _ = _; k_is)
      (case l20 => exact H33.lk_times_row _)
      (case q20 | k20 | n21 => show _ = _; k_is)
      (case l21 => exact H33.lk_need_field _)
      (case q21 | k21 | n22 => show _ = _; k_is)
      (case l22 => exact H33.lk_leading _)
      (case q22 | k22 | n23 => show _ = _; k_is)
      (case l23 => exact H33.lk_plus_row _)
      (case q23 | k23 | n24 => show _ = _; k_is)
      (case l24 => exact H33.lk_cleared _)
      (case q24 | k24 | n25 => show _ = _; k_is)
      (case l25 => exact H33.lk_keep _)
      (case q25 | k25 | n26 => show _ = _; k_is)
      (case l26 => exact H33.lk_kept_rows _)
      (case q26 | k26 | n27 => show _ = _; k_is)
      (case l27 => exact H33.lk_width_of _)
      (case q27 | k27 | n28 => show _ = _; k_is)
      (case l28 => exact H33.lk_marked _)
      (case q28 | k28 | n29 => show _ = _; k_is)
      (case l29 => exact H33.lk_kept_marked _)
      (case q29 | k29 | n30 => show _ = _; k_is)
      (case l30 => exact H33.lk_parts_by _)
      (case q30 | k30 | n31 => show _ = _; k_is)
      (case l31 => exact H33.lk_inverse_of _)
      (case q31 | k31 | n32 => show _ = _; k_is)
      (case l32 => exact H33.lk__law_next _)
      (case q32 | k32 | n33 => show _ = _; k_is)
      (case l33 => exact H33.lk__law_state _)
      (case q33 | k33 | n34 => show _ = _; k_is)
      (case l34 => exact H33.lk__law_divisor _)
      (case q34 | k34 | n35 => show _ = _; k_is)
      (case l35 => exact H33.lk__law_low _)
      (case q35 | k35 | n36 => show _ = _; k_is)
      (case l36 => exact H33.lk__law_plus _)
      (case q36 | k36 | n37 => show _ = _; k_is)
      (case l37 => exact H33.lk__law_times _)
      (case q37 | k37 | n38 => show _ = _; k_is)
      (case l38 => exact H33.lk__law_number _)
      (case q38 | k38 | n39 => show _ = _; k_is)
      (case l39 => exact H33.lk__law_sort _)
      (case q39 | k39 | n40 => show _ = _; k_is)
      (case l40 => exact H33.lk__law_kind _)
      (case q40 | k40 | n41 => show _ = _; k_is)
      (case l41 => exact H33.lk__law_weight _)
      (case q41 | k41 | n42 => show _ = _; k_is)
      (case l42 => exact H33.lk__law_whole _)
      (case q42 | k42 | n43 => show _ = _; k_is)
      (case l43 => exact H33.lk__law_is _)
      (case q43 | k43 | n44 => show _ = _; k_is)
      (case l44 => exact H33.lk__law_sum _)
      (case q44 | k44 | n45 => show _ = _; k_is)
      (case l45 => exact H33.lk__law_steps _)
      (case q45 | k45 | n46 => show _ = _; k_is)
      (case l46 => exact H33.lk__law_mixed _)
      (case q46 | k46 | n47 => show _ = _; k_is)
      (case l47 => exact H33.lk__law_ones _)
      (case q47 | k47 | n48 => show _ = _; k_is)
      (case l48 => exact H33.lk__law_by _)
      (case q48 | k48 | n49 => show _ = _; k_is)
      (case l49 => exact H33.lk_law _)
      (case q49 | k49 | z_isinstance | z_int | z_bool | z_abs | c_GREATEST_PRIME | z_tuple | z_range | z_zip | z_len | z_enumerate | z_list | z_all => show _ = _; k_is)
      (case k_ii => kit_is)
      (case k_ib => kit_is)
      (case k_tt => kit_is)
      (case k_bb => kit_is)
      (case nP => k_is)
      (case iF_is_field => k_is)
      (case iR_is_field => k_is)
      (case k_ll => kit_is)
    obtain ⟨t, T⟩ := T
    have e0 := hmg.symm.trans T.m_law
    cases e0
    exact ⟨_, K33.law_binds T, fun base kb nb => K33.ok_law T⟩
  case S => exact fun K H a ns hl hO hS => ⟨a, ns, rfl, hS, hl, fun _ => rfl⟩
  case C => exact fun _ _ _ _ z => z
