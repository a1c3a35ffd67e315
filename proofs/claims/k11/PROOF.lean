import PyProof.Rows.All
import Wide.All
import OpenK.AllK
import Wide.FinOn
import Lean
import PyProof.EqAt
import PyProof.EqKinds
import PyProof.TupleCall
import PySem.Challenge.RW_weighwalk_k11_rows_and_tables
set_option Elab.async false
set_option linter.all false
set_option maxRecDepth 100000
namespace L2
open PySem PySem.Spec PyProof.Rows

abbrev Key := Sum Int Str
def keyIs : Key → Value → Bool
  | .inl k, v => Value.isInt k v
  | .inr x, v => Value.isStrOf x v
def keyH (w : World) : Key → Int
  | .inl k => hashInt k
  | .inr x => hashStr w x
theorem keyIs_shape : ∀ {k : Key} {v : Value}, keyIs k v = true → (∃ i t, k = Sum.inl i ∧ v = Value.int i t) ∨ (∃ x t, k = Sum.inr x ∧ v = Value.str x t)
  | .inl i, v, h => by
    obtain ⟨t, e⟩ := Value.isInt_shape (k := i) (v := v) h
    exact .inl ⟨i, t, rfl, e⟩
  | .inr x, v, h => by
    obtain ⟨t, e⟩ := Value.isStrOf_shape (x := x) (v := v) h
    exact .inr ⟨x, t, rfl, e⟩
theorem keyIs_int (i : Int) (t : Tok) : keyIs (.inl i) (.int i t) = true := by simp [keyIs, Value.isInt]
theorem keyIs_str (x : Str) (t : Tok) : keyIs (.inr x) (.str x t) = true := by simp [keyIs, Value.isStrOf]
theorem key_ll (a b : Int) : decide ((Sum.inl a : Key) = Sum.inl b) = (a == b) := by
  by_cases e : a = b
  · subst e; simp
  · have h : ¬ (Sum.inl a : Key) = Sum.inl b := fun q => e (Sum.inl.inj q)
    rw [decide_eq_false h]
    exact (beq_eq_false_iff_ne.mpr e).symm
theorem key_rr (a b : Str) : decide ((Sum.inr a : Key) = Sum.inr b) = decide (a = b) := by
  by_cases e : a = b
  · subst e; simp
  · have h : ¬ (Sum.inr a : Key) = Sum.inr b := fun q => e (Sum.inr.inj q)
    rw [decide_eq_false h, decide_eq_false e]
theorem key_lr (a : Int) (b : Str) : decide ((Sum.inl a : Key) = Sum.inr b) = false := decide_eq_false (fun q => nomatch q)
theorem key_rl (a : Str) (b : Int) : decide ((Sum.inr a : Key) = Sum.inl b) = false := decide_eq_false (fun q => nomatch q)

def mixKind (prog : Program) (w : World) : PySem.KeyKind prog w Key where
  is := keyIs
  hash := keyH w
  inj := fun v a b ha hb => by
    rcases keyIs_shape ha with ⟨i, t, rfl, rfl⟩ | ⟨x, t, rfl, rfl⟩
    · rcases keyIs_shape hb with ⟨j, u, rfl, e⟩ | ⟨y, u, rfl, e⟩
      · injection e with e1 _; rw [e1]
      · exact nomatch e
    · rcases keyIs_shape hb with ⟨j, u, rfl, e⟩ | ⟨y, u, rfl, e⟩
      · exact nomatch e
      · injection e with e1 _; rw [e1]
  byValue := fun k v h => by
    rcases keyIs_shape h with ⟨i, t, rfl, rfl⟩ | ⟨x, t, rfl, rfl⟩ <;> rfl
  pyHash := fun hv h => by
    rcases keyIs_shape hv with ⟨i, t, rfl, rfl⟩ | ⟨x, t, rfl, rfl⟩
    · exact wpAny_pyHash_int h
    · exact wpAny_pyHash_str h
  eqBool := fun hu hv h => by
    rcases keyIs_shape hu with ⟨i, t, rfl, rfl⟩ | ⟨x, t, rfl, rfl⟩
    · rcases keyIs_shape hv with ⟨j, u, rfl, rfl⟩ | ⟨y, u, rfl, rfl⟩
      · rw [key_ll] at h; exact wpAny_eqBool_int h
      · rw [key_lr] at h; exact SeqAt.EqAt.int_str i t y u _ _ _ _ h
    · rcases keyIs_shape hv with ⟨j, u, rfl, rfl⟩ | ⟨y, u, rfl, rfl⟩
      · rw [key_rl] at h; exact SeqAt.EqAt.str_int x t j u _ _ _ _ h
      · rw [key_rr] at h; exact wpAny_eqBool_str h
  «strs» := fun k x t v h => by
    rcases keyIs_shape h with ⟨i, u, rfl, e⟩ | ⟨y, u, rfl, e⟩
    · exact nomatch e
    · injection e with e1 _
      subst e1
      cases v <;> rfl

theorem mixKind_int (prog : Program) (w : World) (i : Int) (t : Tok) : (mixKind prog w).is (.inl i) (.int i t) = true := keyIs_int i t
theorem mixKind_str (prog : Program) (w : World) (x : Str) (t : Tok) : (mixKind prog w).is (.inr x) (.str x t) = true := keyIs_str x t
end L2

namespace L2
open PySem PySem.Spec PyProof.Rows

inductive V where
  | non | bl (b : Bool) | int (i : Int) | str (x : Str) | byt (b : Array UInt8) | flt (b : UInt64) | ref (a : Addr) | ty (n : String)
  deriving DecidableEq

def RelV : V → Value → Prop
  | .non, u => u = Value.none
  | .bl b, u => u = Value.bool b
  | .int i, u => ∃ t, u = Value.int i t
  | .str x, u => ∃ t, u = Value.str x t
  | .byt b, u => ∃ t, u = Value.bytes b t
  | .flt b, u => ∃ t, u = Value.float b t
  | .ref a, u => u = Value.ref a
  | .ty n, u => u = Value.type n

abbrev Vals : List V → List Value → Prop := Paired RelV
theorem Vals.length {xs : List V} {us : List Value} (r : Vals xs us) : xs.length = us.length := Paired.length r
theorem Vals.get : ∀ {xs : List V} {us : List Value} {i : Nat} {x : V}, Vals xs us → xs[i]? = some x → ∃ u, us[i]? = some u ∧ RelV x u
  | _, _, _, _, .nil, e => by simp at e
  | _, _, 0, _, .cons r _, e => by simp at e; subst e; exact ⟨_, rfl, r⟩
  | _, _, i + 1, x, .cons _ t, e => by
    obtain ⟨u, h1, h2⟩ := Vals.get (i := i) (x := x) t (by simpa using e)
    exact ⟨u, by simpa using h1, h2⟩
theorem Vals.set {x : V} {u : Value} (r : RelV x u) : ∀ {xs : List V} {us : List Value} (i : Nat), Vals xs us → Vals (xs.set i x) (us.set i u)
  | _, _, _, .nil => .nil
  | _, _, 0, .cons _ t => .cons r t
  | _, _, i + 1, .cons q t => .cons q (Vals.set r i t)
theorem Vals.append : ∀ {xs ys : List V} {us ws : List Value}, Vals xs us → Vals ys ws → Vals (xs ++ ys) (us ++ ws)
  | _, _, _, _, .nil, s => s
  | _, _, _, _, .cons r t, s => .cons r (Vals.append t s)
theorem Vals.take : ∀ {xs : List V} {us : List Value} (n : Nat), Vals xs us → Vals (xs.take n) (us.take n)
  | _, _, 0, _ => .nil
  | _, _, _ + 1, .nil => .nil
  | _, _, n + 1, .cons r t => .cons r (Vals.take n t)
theorem Vals.drop : ∀ {xs : List V} {us : List Value} (n : Nat), Vals xs us → Vals (xs.drop n) (us.drop n)
  | _, _, 0, r => r
  | _, _, _ + 1, .nil => .nil
  | _, _, n + 1, .cons _ t => Vals.drop n t
theorem Vals.none_of : ∀ {xs : List V} {us : List Value} {i : Nat}, Vals xs us → xs[i]? = none → us[i]? = none := fun {xs us i} r e => by
  have h1 := r.length
  have h2 : xs.length ≤ i := List.getElem?_eq_none_iff.mp e
  exact List.getElem?_eq_none_iff.mpr (by omega)

def RelO : Option V → Option Value → Prop
  | some v, some u => RelV v u
  | none, none => True
  | _, _ => False
def KV {κ : Type} : List (κ × V) → List (κ × Value) → Prop := Paired fun (p : κ × V) (q : κ × Value) => p.1 = q.1 ∧ RelV p.2 q.2

def kV : Key → V
  | .inl i => .int i
  | .inr x => .str x

inductive HO where
  /-- a list -/
  | lst (xs : List V)
  /-- a tuple (never changes) -/
  | tup (xs : List V)
  /-- a dict whose keys are ints and texts; one whose keys are tuples of ints and texts (the empty one is both) -/
  | dK (kvs : List (Key × V)) | dT (kvs : List (List Key × V))
  /-- a set of ints: its members, its size -/
  | set (S : Int → Bool) (n : Nat)
  /-- an instance of the class at C, its dict at dx, its attributes -/
  | ins (C dx : Addr) (fs : List (Str × V))
  /-- the dict of the instance at x -/
  | own (x : Addr)
  /-- the dict of an exception -/
  | xd (fs : List (Str × V))
  /-- a bound method, f of x -/
  | met (f x : Addr)
  /-- a range object lo, lo + 1, .. below hi -/
  | rng (lo hi : Int)
  /-- a thing that is known to the object (the script; a dict while a loop walks it): read, never written while it is so -/
  | frz (o : Obj) (u : HO)
  /-- a code object's table -/
  | tbl (ps : Array Value)
  /-- any other thing, by what is true of its one object (a def of one's own: SetO a S n := HO.ext fun h => ..) -/
  | ext (φ : Heap → Prop)

abbrev Hp := Addr → Option HO
def upd (H : Hp) (a : Addr) (o : HO) : Hp := fun b => if b = a then some o else H b
theorem upd_same {H : Hp} {a : Addr} {o : HO} : upd H a o a = some o := by unfold upd; rw [if_pos rfl]
theorem upd_ne {H : Hp} {a b : Addr} {o : HO} (h : b ≠ a) : upd H a o b = H b := by unfold upd; rw [if_neg h]
theorem upd_upd {H : Hp} {a : Addr} {o u : HO} : upd (upd H a o) a u = upd H a u := by
  funext b; unfold upd; split <;> rfl
theorem ne_of_none {H : Hp} {a b : Addr} {o : HO} (h : H a = some o) (h' : H b = none) : a ≠ b := by
  intro e; subst e; rw [h] at h'; cases h'

section
variable (P : Program) (w : World)
def ObjOk (H : Hp) (h : Heap) (a : Addr) : HO → Prop
  | .lst xs => xs.length ≤ sizeLine ∧ ∃ (its : List Value) (n : Nat), Vals xs its ∧ h.get? a = some { cls := .type "list", data := .seq its.toArray n }
  | .tup xs => xs.length ≤ sizeLine ∧ ∃ its : List Value, Vals xs its ∧ IsTup h a its.toArray
  | .dK kvs => kvs.length ≤ sizeLine ∧ (a == sysModules) = false ∧ ∃ vs, KV kvs vs ∧ h.DictOf (mixKind P w) a vs
  | .dT kvs => kvs.length ≤ sizeLine ∧ (a == sysModules) = false ∧ ∃ xs : List (List Key × Addr × Value),
      Paired (fun (p : List Key × V) (q : List Key × Addr × Value) => p.1 = q.1 ∧ H q.2.1 = some (.tup (p.1.map kV)) ∧ RelV p.2 q.2.2) kvs xs ∧
      ∃ o es ep, h.get? a = some o ∧ o.ExactDict ∧ o.data = .dict es ep ∧ es.toList = xs.map (entryOfKey (tupleKind (mixKind P w))) ∧ (xs.map (·.1)).Nodup
  | .set S n => h.SetOf (intKind P w) a S n
  | .ins C dx fs => H dx = some (.own a) ∧ fs.length ≤ 1000 ∧ dx ≠ a ∧ h.get? a = some (PySem.W.instObj C dx) ∧
      ∃ mA, h.Ns1 dx mA ∧ (∀ f, RelO (fs.lookup f) (mA f)) ∧ PySem.Within mA (fs.map (·.1))
  | .own _ => ∃ o, h.get? a = some o
  | .xd fs => ∃ mA, h.Ns1 a mA ∧ ∀ f, RelO (fs.lookup f) (mA f)
  | .rng lo hi => ∃ t u v, h.get? a = some { cls := .type "range", data := .fields #[.int lo t, .int hi u, .int 1 v] }
  | .frz o u => h.get? a = some o ∧ ObjOk H h a u
  | .tbl ps => h.get? a = some { cls := .none, data := .fields ps }
  | .met f x => h.get? a = some (PySem.W.methodObj (.ref f) (.ref x))
  | .ext φ => φ h ∧ (∃ o, h.get? a = some o) ∧ ∀ h1 h2 : Heap, φ h1 → (∀ o, h1.get? a = some o → h2.get? a = some o) → φ h2
def HOk (H : Hp) (h : Heap) : Prop := ∀ a o, H a = some o → ObjOk P w H h a o
end

section
variable {P : Program} {w : World} {H H' : Hp} {h h' : Heap} {a : Addr} {o : HO}
theorem ObjOk.lt (x : ObjOk P w H h a o) : a < h.objs.size := by
  cases o with
  | lst xs => obtain ⟨_, _, _, _, e⟩ := x; exact Heap.lt_size e
  | tup xs => obtain ⟨_, _, _, p⟩ := x; exact p.lt
  | dK kvs => obtain ⟨_, _, _, _, o, _, _, e, _⟩ := x; exact Heap.lt_size e
  | dT kvs => obtain ⟨_, _, _, _, o, _, _, e, _⟩ := x; exact Heap.lt_size e
  | set S n => obtain ⟨o, _, _, _, e, _⟩ := x; exact Heap.lt_size e
  | ins C dx fs => obtain ⟨_, _, _, e, _⟩ := x; exact Heap.lt_size e
  | own y => obtain ⟨_, e⟩ := x; exact Heap.lt_size e
  | xd fs => obtain ⟨_, ⟨_, _, _, e, _⟩, _⟩ := x; exact Heap.lt_size e
  | rng lo hi => obtain ⟨_, _, _, e⟩ := x; exact Heap.lt_size e
  | frz ob u => obtain ⟨e, _⟩ := x; exact Heap.lt_size e
  | tbl ps => exact Heap.lt_size (show h.get? a = some _ from x)
  | met f y => exact Heap.lt_size (show h.get? a = some _ from x)
  | ext φ => obtain ⟨_, ⟨_, e⟩, _⟩ := x; exact Heap.lt_size e
theorem Paired.mapP {α β : Type} {F G : α → β → Prop} : ∀ {l₁ : List α} {l₂ : List β}, Paired F l₁ l₂ → (∀ a b, F a b → G a b) → Paired G l₁ l₂
  | _, _, .nil, _ => .nil
  | _, _, .cons r t, f => .cons (f _ _ r) (Paired.mapP t f)
theorem ObjOk.stay (x : ObjOk P w H h a o) (k : ∀ b u, (b = a ∨ H b = some (.own a)) → h.get? b = some u → h'.get? b = some u)
    (ho : ∀ b, H b = some (.own a) → H' b = some (.own a)) (ht : ∀ b xs, H b = some (.tup xs) → H' b = some (.tup xs)) : ObjOk P w H' h' a o := by
  induction o with
  | lst xs => obtain ⟨z, its, n, r, e⟩ := x; exact ⟨z, its, n, r, k _ _ (.inl rfl) e⟩
  | tup xs => obtain ⟨z, its, r, ob, e, c⟩ := x; exact ⟨z, its, r, ob, k _ _ (.inl rfl) e, c⟩
  | dK kvs => obtain ⟨z, y, vs, r, ob, es, ep, e, c⟩ := x; exact ⟨z, y, vs, r, ob, es, ep, k _ _ (.inl rfl) e, c⟩
  | dT kvs =>
    obtain ⟨z, y, xs, r, ob, es, ep, e, c⟩ := x
    exact ⟨z, y, xs, Paired.mapP r fun p q z => ⟨z.1, ht _ _ z.2.1, z.2.2⟩, ob, es, ep, k _ _ (.inl rfl) e, c⟩
  | set S n => obtain ⟨ob, es, ep, t, e, c⟩ := x; exact ⟨ob, es, ep, t, k _ _ (.inl rfl) e, c⟩
  | ins C dx fs =>
    obtain ⟨d, z, ne, e, mA, ⟨od, es, ep, e2, c⟩, r⟩ := x
    exact ⟨ho _ d, z, ne, k _ _ (.inl rfl) e, mA, ⟨od, es, ep, k _ _ (.inr d) e2, c⟩, r⟩
  | own y => obtain ⟨ob, e⟩ := x; exact ⟨ob, k _ _ (.inl rfl) e⟩
  | xd fs => obtain ⟨mA, ⟨od, es, ep, e, c⟩, r⟩ := x; exact ⟨mA, ⟨od, es, ep, k _ _ (.inl rfl) e, c⟩, r⟩
  | rng lo hi => obtain ⟨t, u, v, e⟩ := x; exact ⟨t, u, v, k _ _ (.inl rfl) e⟩
  | frz ob u ih => obtain ⟨e, q⟩ := x; exact ⟨k _ _ (.inl rfl) e, ih q⟩
  | tbl ps =>
    have e : h.get? a = some { cls := .none, data := .fields ps } := x
    show h'.get? a = some { cls := .none, data := .fields ps }
    exact k a _ (.inl rfl) e
  | met f y =>
    have e : h.get? a = some (PySem.W.methodObj (.ref f) (.ref y)) := x
    show h'.get? a = some (PySem.W.methodObj (.ref f) (.ref y))
    exact k a _ (.inl rfl) e
  | ext φ => obtain ⟨p, ⟨o, e⟩, st⟩ := x; exact ⟨st _ _ p fun o q => k _ _ (.inl rfl) q, ⟨o, k _ _ (.inl rfl) e⟩, st⟩
theorem HOk.lt (x : HOk P w H h) (e : H a = some o) : a < h.objs.size := (x a o e).lt
theorem HOk.fresh (x : HOk P w H h) (e : h.objs.size ≤ a) : H a = none := by
  cases q : H a with
  | none => rfl
  | some u => exact absurd (Nat.lt_of_lt_of_le (x.lt q) e) (Nat.lt_irrefl _)
theorem HOk.kept (x : HOk P w H h) (k : ∀ b u, h.get? b = some u → h'.get? b = some u) : HOk P w H h' := fun a o e =>
  (x a o e).stay (fun b u _ q => k b u q) (fun _ q => q) fun _ _ q => q
theorem HOk.laid (x : HOk P w H h) (k : ∀ b u, h.get? b = some u → h'.get? b = some u) (hp : h.objs.size ≤ a) (new : ObjOk P w (upd H a o) h' a o) : HOk P w (upd H a o) h' := fun b u e => by
  have hn := x.fresh hp
  by_cases hb : b = a
  · subst hb; rw [upd_same] at e; cases e; exact new
  · rw [upd_ne hb] at e
    exact (x b u e).stay (fun c v _ q => k c v q) (fun c q => by rw [upd_ne (ne_of_none q hn)]; exact q) fun c xs q => by rw [upd_ne (ne_of_none q hn)]; exact q
end

def Rd (H : Hp) (a : Addr) (u : HO) : Prop := H a = some u ∨ ∃ o, H a = some (.frz o u)
theorem Rd.of {H : Hp} {a : Addr} {u : HO} (h : H a = some u) : Rd H a u := .inl h
theorem Rd.ok {P : Program} {w : World} {H : Hp} {h : Heap} {a : Addr} {u : HO} (r : Rd H a u) (x : HOk P w H h) : ObjOk P w H h a u := by
  rcases r with r | ⟨o, r⟩
  · exact x a u r
  · obtain ⟨_, q⟩ := x a _ r
    exact q
def Mut : Option HO → Prop
  | some (.lst _) => True
  | some (.dK _) => True
  | some (.dT _) => True
  | some (.set _ _) => True
  | some (.ins _ _ _) => True
  | some (.ext _) => True
  | _ => False
section
variable {P : Program} {w : World} {H : Hp} {h h' : Heap} {x e : Addr} {o' : HO}
theorem HOk.write (ok : HOk P w H h) (mu : Mut (H x)) (he : e = x ∨ H e = some (.own x)) (k : ∀ b u, b ≠ e → h.get? b = some u → h'.get? b = some u) (heo : ∃ u, h'.get? e = some u)
    (new : ObjOk P w (upd H x o') h' x o') : HOk P w (upd H x o') h' := fun b u q => by
  have nown : ∀ c y, H c = some (.own y) → c ≠ x := fun c y r z => by subst z; rw [r] at mu; exact mu
  have ntup : ∀ c xs, H c = some (.tup xs) → c ≠ x := fun c xs r z => by subst z; rw [r] at mu; exact mu
  by_cases hb : b = x
  · subst hb; rw [upd_same] at q; cases q; exact new
  · rw [upd_ne hb] at q
    by_cases hbe : b = e
    · have q' : H b = some (.own x) := by
        rcases he with z | z
        · exact absurd (hbe.trans z) hb
        · rw [hbe]; exact z
      rw [q] at q'; cases q'
      obtain ⟨v, hv⟩ := heo
      exact ⟨v, by rw [hbe]; exact hv⟩
    · refine (ok b u q).stay (fun c v hc r => k c v ?_ r) (fun c r => by rw [upd_ne (nown c b r)]; exact r) fun c xs r => by rw [upd_ne (ntup c xs r)]; exact r
      rcases hc with rfl | hc
      · exact hbe
      · rintro rfl
        rcases he with z | z
        · exact nown c b hc z
        · rw [hc] at z; cases z; exact hb rfl
end

structure Un (fs ex : List Addr) (H H' : Hp) (h h' : Heap) : Prop where
  keep : ∀ b o, h.get? b = some o → H b = none → b ∉ fs → b ∉ ex → h'.get? b = some o
  slot : ∀ b o, h.get? b = some o → H b = none → b ∈ fs → b ∉ ex → ∃ sl, h'.get? b = some { o with slots := sl }
  free : ∀ b o, h.get? b = some o → H b = none → b ∉ ex → H' b = none
  there : ∀ b o, h.get? b = some o → b ∉ ex → ∃ o', h'.get? b = some o'
  tups : ∀ b xs, H b = some (.tup xs) → H' b = some (.tup xs)
  frzs : ∀ b o u, H b = some (.frz o u) → H' b = some (.frz o u)
  tbls : ∀ b ps, H b = some (.tbl ps) → ∃ more, H' b = some (.tbl (ps ++ more))
section
variable {fs fs' ex ex' : List Addr} {H H1 H2 : Hp} {h h1 h2 h' : Heap} {a x e : Addr} {o : HO}
theorem Un.any (u : Un fs ex H H1 h h1) {b : Addr} {ob : Obj} (q : h.get? b = some ob) (n : H b = none) (hx : b ∉ ex) : ∃ sl, h1.get? b = some { ob with slots := sl } := by
  by_cases hb : b ∈ fs
  · exact u.slot b ob q n hb hx
  · exact ⟨ob.slots, u.keep b ob q n hb hx⟩
theorem Un.trans (a : Un fs ex H H1 h h1) (b : Un fs ex H1 H2 h1 h2) : Un fs ex H H2 h h2 where
  keep := fun c ob q n hc hx => b.keep c ob (a.keep c ob q n hc hx) (a.free c ob q n hx) hc hx
  slot := fun c ob q n hc hx => by
    obtain ⟨sl, e1⟩ := a.slot c ob q n hc hx
    obtain ⟨sl', e2⟩ := b.slot c _ e1 (a.free c ob q n hx) hc hx
    exact ⟨sl', e2⟩
  free := fun c ob q n hx => by
    obtain ⟨o', e1⟩ := a.there c ob q hx
    exact b.free c o' e1 (a.free c ob q n hx) hx
  there := fun c ob q hx => by
    obtain ⟨o', e1⟩ := a.there c ob q hx
    exact b.there c o' e1 hx
  tups := fun c xs q => b.tups c xs (a.tups c xs q)
  frzs := fun c ob xs q => b.frzs c ob xs (a.frzs c ob xs q)
  tbls := fun c ps q => by
    obtain ⟨m1, e1⟩ := a.tbls c ps q
    obtain ⟨m2, e2⟩ := b.tbls c _ e1
    exact ⟨m1 ++ m2, by rw [e2, Array.append_assoc]⟩
theorem Un.kept (k : ∀ b u, h.get? b = some u → h'.get? b = some u) : Un fs ex H H h h' :=
  ⟨fun b ob q _ _ _ => k b ob q, fun b ob q _ _ _ => ⟨ob.slots, k b ob q⟩, fun _ _ _ n _ => n, fun b ob q _ => ⟨ob, k b ob q⟩, fun _ _ q => q, fun _ _ _ q => q, fun _ ps q => ⟨#[], by rw [q]; simp⟩⟩
theorem Un.refl : Un fs ex H H h h := Un.kept fun _ _ q => q
theorem Un.laid (k : ∀ b u, h.get? b = some u → h'.get? b = some u) (hp : h.objs.size ≤ a) (hn : H a = none) : Un fs ex H (upd H a o) h h' where
  keep := fun b u q _ _ _ => k b u q
  slot := fun b u q _ _ _ => ⟨u.slots, k b u q⟩
  free := fun b u q n _ => by rw [upd_ne (Nat.ne_of_lt (Nat.lt_of_lt_of_le (Heap.lt_size q) hp))]; exact n
  there := fun b u q _ => ⟨u, k b u q⟩
  tups := fun b xs q => by rw [upd_ne (ne_of_none q hn)]; exact q
  frzs := fun b u xs q => by rw [upd_ne (ne_of_none q hn)]; exact q
  tbls := fun b ps q => ⟨#[], by rw [upd_ne (ne_of_none q hn), q]; simp⟩
theorem Un.write (mu : Mut (H x)) (he : e = x ∨ H e = some (.own x)) (k : ∀ b u, b ≠ e → h.get? b = some u → h'.get? b = some u) (heo : ∃ u, h'.get? e = some u) : Un fs ex H (upd H x o) h h' := by
  have hx : ∀ b, H b = none → b ≠ x := fun b n z => by subst z; rw [n] at mu; exact mu
  have hb : ∀ b, H b = none → b ≠ e := fun b n z => by
    subst z
    rcases he with r | r
    · exact hx b n r
    · rw [n] at r; cases r
  have hm : ∀ b u, H b = some u → ¬ Mut (some u) → b ≠ x := fun b u q nm z => by subst z; rw [q] at mu; exact nm mu
  refine ⟨fun b u q n _ _ => k b u (hb b n) q, fun b u q n _ _ => ⟨u.slots, k b u (hb b n) q⟩, fun b u q n _ => by rw [upd_ne (hx b n)]; exact n, fun b u q _ => ?_,
    fun b xs q => by rw [upd_ne (hm b _ q fun z => z)]; exact q, fun b u xs q => by rw [upd_ne (hm b _ q fun z => z)]; exact q, fun b ps q => ⟨#[], by rw [upd_ne (hm b _ q fun z => z), q]; simp⟩⟩
  by_cases hbe : b = e
  · subst hbe; exact heo
  · exact ⟨u, k b u hbe q⟩
theorem Un.mono (u : Un fs ex H H1 h h1) (hs : ∀ b ∈ fs, b ∈ fs') (hx : ∀ b ∈ ex, b ∈ ex') : Un fs' ex' H H1 h h1 :=
  ⟨fun b ob q n hb he => u.keep b ob q n (fun z => hb (hs b z)) fun z => he (hx b z), fun _ _ q n _ he => u.any q n fun z => he (hx _ z), fun b ob q n he => u.free b ob q n fun z => he (hx b z), fun b ob q he => u.there b ob q fun z => he (hx b z), u.tups, u.frzs, u.tbls⟩
end

def trk (h : Heap) (H : Hp) : List Addr := (List.range h.objs.size).filter fun a => (H a).isSome
def hidT (h : Heap) (H : Hp) : Heap := PySem.W.hideAll h (trk h H)
theorem hidT_size (h : Heap) (H : Hp) : (hidT h H).objs.size = h.objs.size := PySem.W.hideAll_size _ _
theorem hidT_get {h : Heap} {H : Hp} {b : Addr} {o : Obj} (e : h.get? b = some o) (n : H b = none) : (hidT h H).get? b = some o :=
  PySem.W.hideAll_get _ e fun hm => by
    have q : (H b).isSome = true := (List.mem_filter.mp hm).2
    rw [n] at q; simp at q
theorem of_hidT {h : Heap} {H : Hp} {b : Addr} {o : Obj} (e : (hidT h H).get? b = some o) : h.get? b = some o ∧ H b = none := by
  have e' : h.get? b = some o := PySem.W.of_hideAll (trk h H) e
  refine ⟨e', ?_⟩
  cases q : H b with
  | none => rfl
  | some x =>
    have hm : b ∈ trk h H := List.mem_filter.mpr ⟨List.mem_range.mpr (Heap.lt_size e'), by simp [q]⟩
    have z : (hidT h H).get? b = none := PySem.W.hideAll_none (trk h H) hm
    rw [z] at e; cases e

def allNews (g h : Heap) (L : Addr) : List (Addr × Obj) := (List.range h.objs.size).filterMap fun a => if a = L ∨ (g.get? a).isSome = true then none else (h.get? a).map fun o => (a, o)
def rest (g h : Heap) (L d : Addr) : List (Addr × Obj) := (allNews g h L).filter fun p => decide (p.1 ≠ d)
end L2

namespace L2
open PySem PySem.Spec PyProof.Rows

structure Mod (K : PySem.W.Frag) (mg : Str → Option Value) (base : Heap) : Prop where
  kin : K.In base
  glob : base.Ns mainGlobals mg
  blt : ∃ mb, base.Ns builtinsNs mb ∧ ∀ x : Str, x ≠ "__name__" → mb x = bootBuiltins x
  nolimit : base.NoLimit
  seer : base.NoSeer

structure Cx where
  prog : Program
  w : World
  K : PySem.W.Frag
  mg : Str → Option Value
  base : Heap
  A : Around
  N : List Str
  s₀ : Shared
  H₀ : Hp
  env : Env
  outer : List Env
  stack : List Env
  ex : List Addr
  fn : Str → Bool
  calm : Bool
  pn : List (Addr × Obj)
  xe : Value → Shared → Prop
def frs (l : List Env) : List Addr := l.filterMap (·.frame)
abbrev Cx.fs (X : Cx) : List Addr := frs X.outer

def Vis (sc : Scope) (x : Str) : Prop := sc.names.lookup x = some .local ∨ sc.names.lookup x = some .cell ∨ sc.names.lookup x = some .free
def Loc (sc : Scope) (x : Str) : Prop := sc.names.lookup x = some .local ∨ sc.names.lookup x = some .cell
def Look (env : Env) (h : Heap) (m : Str → Option Value) (x : Str) (u : Value) : Prop :=
  (env.kindOf x = some .local ∧ m x = some u) ∨ ((env.kindOf x = some .cell ∨ env.kindOf x = some .free) ∧ ∃ c, env.cells.lookup x = some c ∧ h.IsCell c (some u))

structure Cx.Ok (X : Cx) : Prop where
  mod : Mod X.K X.mg X.base
  kind : X.env.scope.kind = .function
  glob : X.env.globals = mainGlobals
  blt : X.env.builtins = builtinsNs
  above : X.s₀.heap.objs.size ≤ X.env.locals
  inj : ∀ x y c, X.env.cells.lookup x = some c → X.env.cells.lookup y = some c → x = y
  has : ∀ x, (X.env.kindOf x = some .cell ∨ X.env.kindOf x = some .free) → ∃ c, X.env.cells.lookup x = some c
  cab : ∀ x c, X.fn x = true → X.env.cells.lookup x = some c → X.s₀.heap.objs.size ≤ c
  hd : X.calm = true → X.A.handled = none
  frames : X.A.frames = some X.stack
  stk : X.stack = X.outer ∨ (X.stack = X.env :: X.outer ∧ X.env.frame = some X.env.locals)
  exf : ∀ b ∈ X.ex, b ≠ X.env.locals ∧ ∀ x c, X.env.cells.lookup x = some c → c ≠ b
  bs : ∀ b o, X.base.get? b = some o → X.s₀.heap.get? b = some o ∧ X.H₀ b = none
  bsz : X.base.objs.size ≤ X.s₀.heap.objs.size
  noex : ∀ b o, X.base.get? b = some o → b ∉ X.ex
  exfs : ∀ b ∈ X.ex, b ∉ X.fs
  funs : X.s₀.heap.FunFrames X.base X.outer
  frf : ∀ b ∈ X.fs, X.H₀ b = none

structure Inv (X : Cx) (pins : List (Addr × Obj)) (σ : List (Option V)) (H : Hp) (s : Shared) : Prop where
  ok : X.Ok
  os : s.os = X.s₀.os
  bare : AllBare s.gens
  base : Un X.fs X.ex X.H₀ H X.s₀.heap s.heap
  loc : ∃ m, s.heap.Ns X.env.locals m ∧ ∀ (i : Nat) (x : Str) (v : V), X.N[i]? = some x → σ[i]? = some (some v) → Vis X.env.scope x → ∃ u, RelV v u ∧ Look X.env s.heap m x u
  cell : ∀ x c, X.env.cells.lookup x = some c → ∃ v, s.heap.IsCell c v
  free : H X.env.locals = none
  freeC : ∀ x c, X.env.cells.lookup x = some c → H c = none
  pin : ∀ p ∈ X.pn ++ pins, s.heap.get? p.1 = some p.2 ∧ H p.1 = none ∧ p.1 ≠ X.env.locals ∧ p.1 ∉ X.fs ∧ ∀ v, p.2.data ≠ .cell v
  hok : HOk X.prog X.w H s.heap
  len : σ.length = X.N.length

section
variable {X : Cx} {pins : List (Addr × Obj)} {σ : List (Option V)} {H H' : Hp} {s : Shared} {h' : Heap}

theorem Cx.Ok.nofr (ok : X.Ok) {b : Addr} {o : Obj} (e : X.base.get? b = some o) : b ∉ X.fs := fun hb => by
  have := (ok.funs.mem hb).1
  rw [e] at this; cases this
theorem Inv.bs (I : Inv X pins σ H s) : ∀ b o, X.base.get? b = some o → s.heap.get? b = some o ∧ H b = none := fun b o e =>
  ⟨I.base.keep b o (I.ok.bs b o e).1 (I.ok.bs b o e).2 (I.ok.nofr e) (I.ok.noex b o e), I.base.free b o (I.ok.bs b o e).1 (I.ok.bs b o e).2 (I.ok.noex b o e)⟩
theorem Inv.bk (I : Inv X pins σ H s) : ∀ b o, X.base.get? b = some o → s.heap.get? b = some o := fun b o e => (I.bs b o e).1
theorem Inv.mod (I : Inv X pins σ H s) : Mod X.K X.mg X.base := I.ok.mod
theorem Inv.kIn (I : Inv X pins σ H s) : X.K.In s.heap := I.ok.mod.kin.keeps I.bk
theorem Inv.nolimit (I : Inv X pins σ H s) : s.heap.NoLimit := I.ok.mod.nolimit.keeps I.bk
theorem Inv.fr (I : Inv X pins σ H s) : ∃ m, Fr X.base X.env.locals s.heap m :=
  let ⟨m, hn, _⟩ := I.loc
  ⟨m, hn, I.bk, Nat.le_trans I.ok.bsz I.ok.above⟩
theorem Inv.lt (I : Inv X pins σ H s) : X.env.locals < s.heap.objs.size := let ⟨_, hn, _⟩ := I.loc; hn.lt
theorem Inv.sz (I : Inv X pins σ H s) : X.s₀.heap.objs.size ≤ s.heap.objs.size := Nat.le_trans I.ok.above (Nat.le_of_lt I.lt)
theorem Inv.nofs (I : Inv X pins σ H s) {a : Addr} (h : s.heap.objs.size ≤ a) : a ∉ X.fs := fun hb => by
  obtain ⟨_, o, ho, _⟩ := I.ok.funs.mem hb
  exact absurd (Nat.lt_of_lt_of_le (Heap.lt_size ho) (Nat.le_trans I.sz h)) (Nat.lt_irrefl _)
theorem Inv.cne (I : Inv X pins σ H s) : ∀ x c, X.env.cells.lookup x = some c → c ≠ X.env.locals := fun x c e z => by
  obtain ⟨v, o, ho, hd⟩ := I.cell x c e
  obtain ⟨m, ⟨o', es, ep, ho', hd', _⟩, _⟩ := I.loc
  rw [z, ho'] at ho; cases ho; rw [hd'] at hd; cases hd
theorem Inv.funs (I : Inv X pins σ H s) : s.heap.FunFrames X.base X.outer := by
  have all : ∀ (l : List Env), (∀ b ∈ frs l, b ∈ X.fs) → X.s₀.heap.FunFrames X.base l → s.heap.FunFrames X.base l := by
    intro l
    induction l with
    | nil => intro _ _; trivial
    | cons env r ih =>
      intro hs hl
      obtain ⟨hk, ⟨L, o, hf, hn, ho, hd⟩, hr⟩ := hl
      have hL : L ∈ X.fs := hs L (by unfold frs; rw [List.filterMap_cons, hf]; exact List.mem_cons_self)
      obtain ⟨sl, e⟩ := I.base.slot L o ho (I.ok.frf L hL) hL fun z => I.ok.exfs L z hL
      exact ⟨hk, ⟨L, _, hf, hn, e, hd⟩, ih (fun b hb => hs b (by unfold frs; rw [List.filterMap_cons, hf]; exact List.mem_cons_of_mem _ hb)) hr⟩
  exact all X.outer (fun _ hb => hb) I.ok.funs

theorem Inv.stack (I : Inv X pins σ H s) : s.heap.FunFrames X.base X.stack := by
  rcases I.ok.stk with e | ⟨e, hf⟩
  · rw [e]; exact I.funs
  · rw [e]
    obtain ⟨m, hn, _⟩ := I.loc
    refine .cons (by rw [I.ok.kind]; decide) hf hn ?_ I.funs
    exact Heap.get?_none_of_le (Nat.le_trans I.ok.bsz I.ok.above)
theorem Inv.stkSub (I : Inv X pins σ H s) : ∀ b ∈ frs X.stack, b ∈ X.env.locals :: X.fs := fun b hb => by
  rcases I.ok.stk with e | ⟨e, hf⟩
  · rw [e] at hb; exact List.mem_cons_of_mem _ hb
  · rw [e] at hb
    unfold frs at hb
    rw [List.filterMap_cons, hf] at hb
    exact hb
theorem Inv.stkFree (I : Inv X pins σ H s) : ∀ b ∈ frs X.stack, H b = none := fun b hb => by
  rcases List.mem_cons.mp (I.stkSub b hb) with e | hb
  · rw [e]; exact I.free
  · obtain ⟨_, o, ho, _⟩ := I.ok.funs.mem hb
    exact I.base.free b o ho (I.ok.frf b hb) fun z => I.ok.exfs b z hb

theorem Inv.step {g' : Array GenState} {t' : Nat} {d' : Drawn} {ch : List Addr} (I : Inv X pins σ H s)
    (hch : ∀ b ∈ ch, (b ∈ X.ex ∨ X.s₀.heap.objs.size ≤ b) ∧ b ≠ X.env.locals ∧ (∀ x c, X.env.cells.lookup x = some c → c ≠ b) ∧ ∀ p ∈ X.pn ++ pins, p.1 ≠ b)
    (keep : ∀ b o, b ≠ X.env.locals → b ∉ X.fs → b ∉ ch → s.heap.get? b = some o → H b = none → h'.get? b = some o)
    (slot : ∀ b o, b ≠ X.env.locals → b ∈ X.fs → b ∉ ch → s.heap.get? b = some o → H b = none → ∃ sl, h'.get? b = some { o with slots := sl }) (free : ∀ b o, b ∉ ch → s.heap.get? b = some o → H b = none → H' b = none)
    (there : ∀ b o, b ∉ ch → s.heap.get? b = some o → ∃ o', h'.get? b = some o')
    (tups : ∀ b xs, H b = some (.tup xs) → H' b = some (.tup xs)) (frzs : ∀ b o u, H b = some (.frz o u) → H' b = some (.frz o u)) (tbls : ∀ b ps, H b = some (.tbl ps) → ∃ more, H' b = some (.tbl (ps ++ more)))
    (ns : ∀ m, s.heap.Ns X.env.locals m → h'.Ns X.env.locals m) (hok : HOk X.prog X.w H' h') (hg : AllBare g') :
    Inv X pins σ H' { s with heap := h', gens := g', drawn := d', toks := t' } := by
  have neL : ∀ b o, X.s₀.heap.get? b = some o → b ≠ X.env.locals := fun b o e => Nat.ne_of_lt (Nat.lt_of_lt_of_le (Heap.lt_size e) I.ok.above)
  have neC : ∀ b o, X.s₀.heap.get? b = some o → b ∉ X.ex → b ∉ ch := fun b o e hx hb => by
    rcases (hch b hb).1 with z | z
    · exact hx z
    · exact absurd (Nat.lt_of_lt_of_le (Heap.lt_size e) z) (Nat.lt_irrefl _)
  have cellK : ∀ x c, X.env.cells.lookup x = some c → ∀ v, s.heap.IsCell c v → h'.IsCell c v := fun x c e v ⟨o, ho, hd⟩ => by
    have nch : c ∉ ch := fun z => (hch c z).2.2.1 x c e rfl
    by_cases hc : c ∈ X.fs
    · obtain ⟨sl, q⟩ := slot c o (I.cne x c e) hc nch ho (I.freeC x c e)
      exact ⟨_, q, hd⟩
    · exact ⟨o, keep c o (I.cne x c e) hc nch ho (I.freeC x c e), hd⟩
  refine ⟨I.ok, I.os, hg, ⟨fun b o e n hb hx => ?_, fun b o e n hb hx => ?_, fun b o e n hx => ?_, fun b o e hx => ?_, fun b xs e => tups b xs (I.base.tups b xs e), fun b o xs e => frzs b o xs (I.base.frzs b o xs e), fun b ps e => ?_⟩, ?_, fun x c e => ?_, ?_, fun x c e => ?_, fun p hp => ?_, hok, I.len⟩
  · exact keep b o (neL b o e) hb (neC b o e hx) (I.base.keep b o e n hb hx) (I.base.free b o e n hx)
  · obtain ⟨sl, e1⟩ := I.base.slot b o e n hb hx
    obtain ⟨sl', e2⟩ := slot b _ (neL b o e) hb (neC b o e hx) e1 (I.base.free b o e n hx)
    exact ⟨sl', e2⟩
  · obtain ⟨o', e1⟩ := I.base.there b o e hx
    exact free b o' (neC b o e hx) e1 (I.base.free b o e n hx)
  · obtain ⟨o', e1⟩ := I.base.there b o e hx
    exact there b o' (neC b o e hx) e1
  · obtain ⟨m1, e1⟩ := I.base.tbls b ps e
    obtain ⟨m2, e2⟩ := tbls b _ e1
    exact ⟨m1 ++ m2, by rw [e2, Array.append_assoc]⟩
  · obtain ⟨m, hn, hl⟩ := I.loc
    refine ⟨m, ns m hn, fun i x v e1 e2 e3 => ?_⟩
    obtain ⟨u, r, l⟩ := hl i x v e1 e2 e3
    refine ⟨u, r, ?_⟩
    rcases l with l | ⟨k, c, e, z⟩
    · exact .inl l
    · exact .inr ⟨k, c, e, cellK x c e _ z⟩
  · obtain ⟨v, z⟩ := I.cell x c e
    exact ⟨v, cellK x c e v z⟩
  · obtain ⟨m, ⟨o, _, _, ho, _⟩, _⟩ := I.loc
    exact free _ o (fun z => (hch _ z).2.1 rfl) ho I.free
  · obtain ⟨v, o, ho, hd⟩ := I.cell x c e
    exact free c o (fun z => (hch c z).2.2.1 x c e rfl) ho (I.freeC x c e)
  · obtain ⟨e, n, ne, nf, d⟩ := I.pin p hp
    have nch : p.1 ∉ ch := fun z => (hch p.1 z).2.2.2 p hp rfl
    exact ⟨keep p.1 p.2 ne nf nch e n, free p.1 p.2 nch e n, ne, nf, d⟩
theorem Inv.un {t' : Nat} (I : Inv X pins σ H s) (u : Un X.fs [] H H' s.heap h') (hok : HOk X.prog X.w H' h') : Inv X pins σ H' { s with heap := h', toks := t' } := by
  obtain ⟨m, ⟨o, es, ep, ho, r⟩, _⟩ := id I.loc
  obtain ⟨sl, hL⟩ := u.any ho I.free (by simp)
  exact I.step (g' := s.gens) (d' := s.drawn) (ch := []) (fun _ z => nomatch z) (fun b o _ hb _ e n => u.keep b o e n hb (by simp)) (fun b o _ hb _ e n => u.slot b o e n hb (by simp)) (fun b o _ e n => u.free b o e n (by simp)) (fun b o _ e => u.there b o e (by simp)) u.tups u.frzs u.tbls (fun m' hm => by
    obtain ⟨o', es', ep', ho', r'⟩ := hm
    rw [ho] at ho'; cases ho'
    exact ⟨_, es', ep', hL, r'⟩) hok I.bare
theorem Inv.call {g' : Array GenState} {t' : Nat} {d' : Drawn} {ch : List Addr} (I : Inv X pins σ H s) (u : Un (frs X.stack) ch H H' s.heap h') (hok : HOk X.prog X.w H' h') (hg : AllBare g')
    (hch : ∀ b ∈ ch, (b ∈ X.ex ∨ X.s₀.heap.objs.size ≤ b) ∧ b ≠ X.env.locals ∧ (∀ x c, X.env.cells.lookup x = some c → c ≠ b) ∧ ∀ p ∈ X.pn ++ pins, p.1 ≠ b) :
    Inv X pins σ H' { s with heap := h', gens := g', drawn := d', toks := t' } := by
  obtain ⟨m, ⟨o, es, ep, ho, r⟩, _⟩ := id I.loc
  obtain ⟨sl, hL⟩ := u.any ho I.free fun z => (hch _ z).2.1 rfl
  exact I.step (ch := ch) hch (fun b o hL hb hc e n => u.keep b o e n (fun z => (List.mem_cons.mp (I.stkSub b z)).elim hL hb) hc) (fun b o _ _ hc e n => u.any e n hc) (fun b o hc e n => u.free b o e n hc) (fun b o hc e => u.there b o e hc) u.tups u.frzs u.tbls (fun m' hm => by
    obtain ⟨o', es', ep', ho', r'⟩ := hm
    rw [ho] at ho'; cases ho'
    exact ⟨_, es', ep', hL, r'⟩) hok hg
theorem Inv.turned {t' : Nat} {it : Addr} (I : Inv X pins σ H s) (k : ∀ b o, b ≠ it → s.heap.get? b = some o → h'.get? b = some o) (hn : H it = none) (hL : it ≠ X.env.locals)
    (h1 : it ∈ X.ex ∨ X.s₀.heap.objs.size ≤ it) (h2 : ∀ x c, X.env.cells.lookup x = some c → c ≠ it) (h3 : ∀ p ∈ X.pn ++ pins, p.1 ≠ it) : Inv X pins σ H { s with heap := h', toks := t' } := by
  have nit : ∀ b u, H b = some u → b ≠ it := fun b u e z => by rw [z, hn] at e; cases e
  refine I.step (g' := s.gens) (d' := s.drawn) (ch := [it]) (fun b hb => ?_) (fun b o _ _ hc e _ => k b o (fun z => hc (by simp [z])) e) (fun b o _ _ hc e _ => ⟨o.slots, k b o (fun z => hc (by simp [z])) e⟩) (fun _ _ _ _ n => n)
    (fun b o hc e => ⟨o, k b o (fun z => hc (by simp [z])) e⟩) (fun _ _ e => e) (fun _ _ _ e => e) (fun b ps e => ⟨#[], by rw [e]; simp⟩) (fun m hm => ?_) (fun b u e => ?_) I.bare
  · have e : b = it := by simpa using hb
    subst e
    exact ⟨h1, hL, h2, h3⟩
  · obtain ⟨o, es, ep, ho, r⟩ := hm
    exact ⟨o, es, ep, k _ o (Ne.symm hL) ho, r⟩
  · refine (I.hok b u e).stay (fun c v hc q => k c v ?_ q) (fun _ q => q) fun _ _ q => q
    rcases hc with z | z
    · rw [z]; exact nit b u e
    · exact nit c _ z
theorem Inv.tok (I : Inv X pins σ H s) (t : Nat) : Inv X pins σ H { s with toks := t } := I.un (h' := s.heap) (t' := t) Un.refl I.hok
theorem Inv.kept {t' : Nat} (I : Inv X pins σ H s) (k : ∀ b u, s.heap.get? b = some u → h'.get? b = some u) : Inv X pins σ H { s with heap := h', toks := t' } := I.un (Un.kept k) (I.hok.kept k)
theorem Inv.laid {a : Addr} {o : HO} {t' : Nat} (I : Inv X pins σ H s) (k : ∀ b u, s.heap.get? b = some u → h'.get? b = some u) (hp : s.heap.objs.size ≤ a) (new : ObjOk X.prog X.w (upd H a o) h' a o) :
    Inv X pins σ (upd H a o) { s with heap := h', toks := t' } := I.un (Un.laid k hp (I.hok.fresh hp)) (I.hok.laid k hp new)
theorem Inv.write {x e : Addr} {o : HO} {t' : Nat} (I : Inv X pins σ H s) (mu : Mut (H x)) (he : e = x ∨ H e = some (.own x)) (k : ∀ b u, b ≠ e → s.heap.get? b = some u → h'.get? b = some u) (heo : ∃ u, h'.get? e = some u)
    (new : ObjOk X.prog X.w (upd H x o) h' x o) : Inv X pins σ (upd H x o) { s with heap := h', toks := t' } := I.un (Un.write mu he k heo) (I.hok.write mu he k heo new)
theorem Inv.weak {σ' : List (Option V)} (I : Inv X pins σ H s) (hl : σ'.length = σ.length) (w : ∀ (i : Nat) v, σ'[i]? = some (some v) → σ[i]? = some (some v)) : Inv X pins σ' H s :=
  ⟨I.ok, I.os, I.bare, I.base, let ⟨m, hn, hl'⟩ := I.loc; ⟨m, hn, fun i x v e1 e2 e3 => hl' i x v e1 (w i v e2) e3⟩, I.cell, I.free, I.freeC, I.pin, I.hok, hl.trans I.len⟩
theorem Inv.pins_of {pins' : List (Addr × Obj)} (I : Inv X pins σ H s) (h : ∀ p ∈ pins', s.heap.get? p.1 = some p.2 ∧ H p.1 = none ∧ p.1 ≠ X.env.locals ∧ p.1 ∉ X.fs ∧ ∀ v, p.2.data ≠ .cell v) : Inv X pins' σ H s :=
  ⟨I.ok, I.os, I.bare, I.base, I.loc, I.cell, I.free, I.freeC, fun p hp => (List.mem_append.mp hp).elim (fun z => I.pin p (List.mem_append_left _ z)) (h p), I.hok, I.len⟩

theorem nodup_ix {N : List Str} (hN : N.Nodup) {i j : Nat} {x : Str} (a : N[i]? = some x) (b : N[j]? = some x) : i = j := by
  obtain ⟨h1, e1⟩ := List.getElem?_eq_some_iff.mp a
  obtain ⟨h2, e2⟩ := List.getElem?_eq_some_iff.mp b
  exact (List.getElem_inj hN).mp (e1.trans e2.symm)

theorem store_ok2 {M : Model} {A : Around} {E : Value → Shared → Prop} {i : Nat} {x : Str} {v : V} {u : Value} {Q : Unit → Shared → Prop} (I : Inv X pins σ H s) (hN : X.N.Nodup) (hi : X.N[i]? = some x) (hx : Loc X.env.scope x) (r : RelV v u)
    (h : ∀ s', Inv X pins (σ.set i (some v)) H s' → (∃ a, Heap.SameBut a s.heap s'.heap ∧ (a = X.env.locals ∨ X.env.cells.lookup x = some a)) → Q () s') (hf : X.fn x = true ∨ X.env.scope.names.lookup x = some .local := by first | exact .inl rfl | exact .inr rfl | assumption) : wpAny M A (storeName X.env x u) Q E s := by
  obtain ⟨m, hn, hl⟩ := id I.loc
  have hcls : (X.env.scope.kind == .class || (X.env.scope.kind == .module && X.env.locals != X.env.globals)) = false := by rw [I.ok.kind]; rfl
  have hiσ : i < σ.length := by rw [I.len]; exact (List.getElem?_eq_some_iff.mp hi).1
  have cne := I.cne
  have tracked : ∀ {a : Addr} {h' : Heap}, (∃ o, s.heap.get? a = some o ∧ H a = none) → Heap.SameBut a s.heap h' → HOk X.prog X.w H h' := fun {a h'} ha hs b ob e => by
    obtain ⟨_, _, hfree⟩ := ha
    refine (I.hok b ob e).stay (fun c w' hc q => (hs.2 c ?_).trans q) (fun _ q => q) fun _ _ q => q
    rintro rfl
    rcases hc with rfl | hc
    · rw [hfree] at e; cases e
    · rw [hfree] at hc; cases hc
  rcases hx with hk | hk
  · refine wpAny_storeName_local hk hn (fun h' hn' hs => ?_) hcls
    obtain ⟨oL, _, _, hoL, _⟩ := id hn
    refine h _ ⟨I.ok, I.os, I.bare, ⟨fun b o e n hb hx => ?_, fun b o e n hb hx => ?_, I.base.free, fun b o e hx => ?_, I.base.tups, I.base.frzs, I.base.tbls⟩, ⟨_, hn', fun j y v' e1 e2 e3 => ?_⟩, fun y c e => ?_, I.free, I.freeC, fun p hp => ?_, tracked ⟨oL, hoL, I.free⟩ hs, by simpa using I.len⟩ ⟨_, hs, .inl rfl⟩
    · exact (hs.2 b (Nat.ne_of_lt (Nat.lt_of_lt_of_le (Heap.lt_size e) I.ok.above))).trans (I.base.keep b o e n hb hx)
    · obtain ⟨sl, e1⟩ := I.base.slot b o e n hb hx
      exact ⟨sl, (hs.2 b (Nat.ne_of_lt (Nat.lt_of_lt_of_le (Heap.lt_size e) I.ok.above))).trans e1⟩
    · obtain ⟨o', e1⟩ := I.base.there b o e hx
      exact ⟨o', (hs.2 b (Nat.ne_of_lt (Nat.lt_of_lt_of_le (Heap.lt_size e) I.ok.above))).trans e1⟩
    · by_cases hj : j = i
      · subst hj
        rw [hi] at e1; cases e1
        rw [List.getElem?_set_self hiσ] at e2
        cases e2
        exact ⟨u, r, .inl ⟨hk, by simp⟩⟩
      · rw [List.getElem?_set_ne (Ne.symm hj)] at e2
        obtain ⟨u', r', q⟩ := hl j y v' e1 e2 e3
        refine ⟨u', r', ?_⟩
        rcases q with ⟨k, e⟩ | ⟨k, c, e, z⟩
        · refine .inl ⟨k, ?_⟩
          have : y ≠ x := fun e => hj (nodup_ix hN e1 (e ▸ hi))
          simp [this, e]
        · exact .inr ⟨k, c, e, z.sameBut hs (cne y c e)⟩
    · obtain ⟨w', z⟩ := I.cell y c e
      exact ⟨w', z.sameBut hs (cne y c e)⟩
    · obtain ⟨e, n, ne, nf, d⟩ := I.pin p hp
      exact ⟨(hs.2 p.1 ne).trans e, n, ne, nf, d⟩
  · have hfn : X.fn x = true := by
      rcases hf with z | z
      · exact z
      · rw [z] at hk; cases hk
    obtain ⟨c, hc⟩ := I.ok.has x (.inl hk)
    obtain ⟨w', z⟩ := I.cell x c hc
    refine wpAny_storeName_cell I.ok.kind hk hc z (fun h' hc' hs => ?_)
    obtain ⟨oc, hoc, hocd⟩ := id z
    refine h { s with heap := h' } ⟨I.ok, I.os, I.bare, ⟨fun b o e n hb hx => ?_, fun b o e n hb hx => ?_, I.base.free, fun b o e hx => ?_, I.base.tups, I.base.frzs, I.base.tbls⟩, ⟨m, hn.sameBut hs (Ne.symm (cne x c hc)), fun j y v' e1 e2 e3 => ?_⟩, fun y c' e => ?_, I.free, I.freeC, fun p hp => ?_, tracked ⟨oc, hoc, I.freeC x c hc⟩ hs, by simpa using I.len⟩ ⟨c, hs, .inr hc⟩
    · exact (hs.2 b (Nat.ne_of_lt (Nat.lt_of_lt_of_le (Heap.lt_size e) (I.ok.cab x c hfn hc)))).trans (I.base.keep b o e n hb hx)
    · obtain ⟨sl, e1⟩ := I.base.slot b o e n hb hx
      exact ⟨sl, (hs.2 b (Nat.ne_of_lt (Nat.lt_of_lt_of_le (Heap.lt_size e) (I.ok.cab x c hfn hc)))).trans e1⟩
    · obtain ⟨o', e1⟩ := I.base.there b o e hx
      exact ⟨o', (hs.2 b (Nat.ne_of_lt (Nat.lt_of_lt_of_le (Heap.lt_size e) (I.ok.cab x c hfn hc)))).trans e1⟩
    · by_cases hj : j = i
      · subst hj
        rw [hi] at e1; cases e1
        rw [List.getElem?_set_self hiσ] at e2
        cases e2
        exact ⟨u, r, .inr ⟨.inl hk, c, hc, hc'⟩⟩
      · rw [List.getElem?_set_ne (Ne.symm hj)] at e2
        obtain ⟨u', r', q⟩ := hl j y v' e1 e2 e3
        refine ⟨u', r', ?_⟩
        rcases q with q | ⟨k, c', e, z'⟩
        · exact .inl q
        · refine .inr ⟨k, c', e, z'.sameBut hs ?_⟩
          rintro rfl
          exact hj (nodup_ix hN e1 (I.ok.inj _ _ _ e hc ▸ hi))
    · by_cases hcc : c' = c
      · subst hcc; exact ⟨_, hc'⟩
      · obtain ⟨w2, z2⟩ := I.cell y c' e
        exact ⟨w2, z2.sameBut hs hcc⟩
    · obtain ⟨e, n, ne, nf, d⟩ := I.pin p hp
      refine ⟨(hs.2 p.1 ?_).trans e, n, ne, nf, d⟩
      intro q
      rw [q, hoc] at e
      have q' : oc = p.2 := Option.some.inj e
      exact d w' (by rw [← q']; exact hocd)
theorem store_ok {M : Model} {A : Around} {E : Value → Shared → Prop} {i : Nat} {x : Str} {v : V} {u : Value} {Q : Unit → Shared → Prop} (I : Inv X pins σ H s) (hN : X.N.Nodup) (hi : X.N[i]? = some x) (hx : Loc X.env.scope x) (r : RelV v u)
    (h : ∀ s', Inv X pins (σ.set i (some v)) H s' → Q () s') (hf : X.fn x = true ∨ X.env.scope.names.lookup x = some .local := by first | exact .inl rfl | exact .inr rfl | assumption) : wpAny M A (storeName X.env x u) Q E s :=
  store_ok2 I hN hi hx r (fun s' I' _ => h s' I') hf
theorem Inv.call' {s' : Shared} {ch : List Addr} (I : Inv X pins σ H s) (ho : s'.os = s.os) (u : Un (frs X.stack) ch H H' s.heap s'.heap) (hok : HOk X.prog X.w H' s'.heap) (hg : AllBare s'.gens)
    (hch : ∀ b ∈ ch, (b ∈ X.ex ∨ X.s₀.heap.objs.size ≤ b) ∧ b ≠ X.env.locals ∧ (∀ x c, X.env.cells.lookup x = some c → c ≠ b) ∧ ∀ p ∈ X.pn ++ pins, p.1 ≠ b) : Inv X pins σ H' s' := by
  obtain ⟨h', g', d', t', o'⟩ := s'
  have e : o' = s.os := ho
  subst e
  exact I.call (g' := g') (t' := t') (d' := d') u hok hg hch
end

abbrev XK := Value → Option Addr → Hp → Prop
abbrev St := List (Option V)
abbrev VK := V → Hp → Prop
abbrev TE := St → Hp → VK → Prop
abbrev TT := St → Hp → (Bool → Hp → Prop) → Prop
abbrev TA := St → Hp → (List V → Hp → Prop) → Prop
structure Ends where
  nx : St → Hp → Prop
  rt : VK
  bk : St → Hp → Prop := fun _ _ => False
  ct : St → Hp → Prop := fun _ _ => False
abbrev TS := Ends → St → Hp → Prop

def EP (X : Cx) (pins : List (Addr × Obj)) (σ : St) (Q : VK) (u : Value) (s' : Shared) : Prop := ∃ v H', Inv X pins σ H' s' ∧ RelV v u ∧ Q v H'
def TP (X : Cx) (pins : List (Addr × Obj)) (σ : St) (Q : Bool → Hp → Prop) (b : Bool) (s' : Shared) : Prop := ∃ H', Inv X pins σ H' s' ∧ Q b H'
def AP (X : Cx) (pins : List (Addr × Obj)) (σ : St) (Q : List V → Hp → Prop) (us : List Value) (s' : Shared) : Prop := ∃ vs H', Inv X pins σ H' s' ∧ Vals vs us ∧ Q vs H'
def SP (X : Cx) (pins : List (Addr × Obj)) (D : Ends) (f : Flow) (s' : Shared) : Prop :=
  match f with
  | .next => ∃ σ' H', Inv X pins σ' H' s' ∧ D.nx σ' H'
  | .brk => ∃ σ' H', Inv X pins σ' H' s' ∧ D.bk σ' H'
  | .cont => ∃ σ' H', Inv X pins σ' H' s' ∧ D.ct σ' H'
  | .ret u => ∃ v σ' H', Inv X pins σ' H' s' ∧ RelV v u ∧ D.rt v H'

def PE (X : Cx) (e : Expr) (t : TE) : Prop :=
  ∀ (pins : List (Addr × Obj)) (s : Shared) (σ : St) (H : Hp) (Q : VK), Inv X pins σ H s → t σ H Q → wpAny (model X.prog X.w) X.A (eval e X.env) (EP X pins σ Q) X.xe s
def PT (X : Cx) (e : Expr) (t : TT) : Prop :=
  ∀ (pins : List (Addr × Obj)) (s : Shared) (σ : St) (H : Hp) (Q : Bool → Hp → Prop), Inv X pins σ H s → t σ H Q → wpAny (model X.prog X.w) X.A (isTrue e X.env (eval e X.env)) (TP X pins σ Q) X.xe s
def PW (X : Cx) (e : Expr) (t : TT) : Prop :=
  ∀ (whole : Sem Value) (pins : List (Addr × Obj)) (s : Shared) (σ : St) (H : Hp) (Q : Bool → Hp → Prop), Inv X pins σ H s → t σ H Q → wpAny (model X.prog X.w) X.A (isTrue e X.env whole) (TP X pins σ Q) X.xe s
theorem PW.pt {X : Cx} {e : Expr} {t : TT} (h : PW X e t) : PT X e t := h _
def PA (X : Cx) (es : List Expr) (t : TA) : Prop :=
  ∀ (pos : Pos) (pins : List (Addr × Obj)) (s : Shared) (σ : St) (H : Hp) (Q : List V → Hp → Prop), Inv X pins σ H s → t σ H Q → wpAny (model X.prog X.w) X.A (spliced (backTo pos (starEach es X.env))) (AP X pins σ Q) X.xe s
def PS (X : Cx) (st : Stmt) (t : TS) : Prop :=
  ∀ (pins : List (Addr × Obj)) (s : Shared) (σ : St) (H : Hp) (D : Ends), Inv X pins σ H s → t D σ H → wpAny (model X.prog X.w) X.A (exec st X.env) (SP X pins D) X.xe s
def PSs (X : Cx) (st : List Stmt) (t : TS) : Prop :=
  ∀ (pins : List (Addr × Obj)) (s : Shared) (σ : St) (H : Hp) (D : Ends), Inv X pins σ H s → t D σ H → wpAny (model X.prog X.w) X.A (execs st X.env) (SP X pins D) X.xe s
theorem thn {α : Type} {t : Sem α} {Q Q' : α → Shared → Prop} {M : Model} {A : Around} {E : Value → Shared → Prop} {s : Shared} (h : wpAny M A t Q E s) (hQ : ∀ a s, Q a s → Q' a s) : wpAny M A t Q' E s := wpAny_mono h hQ fun _ _ x => x
end L2

namespace L2
open PySem PySem.Spec PyProof.Rows
section
variable {X : Cx}


def tVar (i : Nat) : TE := fun σ H Q => ∃ v, σ[i]? = some (some v) ∧ Q v H
def tC (v : V) : TE := fun _ H Q => Q v H
theorem pe_var {i : Nat} {x : Str} {pos : Pos} (hN : X.N[i]? = some x) (hv : Vis X.env.scope x) (hd : (x == ("__debug__" : Str)) = false := by decide) (hcd : (x == ("__classdict__" : Str)) = false := by decide) : PE X (.Name x pos) (tVar i) := by
  intro pins s σ H Q I h
  obtain ⟨v, e, h⟩ := h
  obtain ⟨m, hn, hl⟩ := I.loc
  obtain ⟨u, r, l⟩ := hl i x v hN e hv
  have fin : EP X pins σ Q u s := ⟨v, H, I, r, h⟩
  rcases l with ⟨hk, hm⟩ | ⟨hk, c, hc, hcell⟩
  · exact wpAny_Name (wpAny_loadName_local I.ok.kind hk hn hm fin) hd
  · rcases hk with hk | hk
    · exact wpAny_Name (wpAny_loadName_cell I.ok.kind hk hc hcell fin) hd
    · exact wpAny_Name (wpAny_loadName_free I.ok.kind hk hc hcell fin hcd) hd
theorem pe_int {i j pos} : PE X (.Constant (.int i) j pos) (tC (.int i)) := fun _ _ _ H _ I h => wpAny_Constant_int ⟨.int i, H, I.tok _, ⟨_, rfl⟩, h⟩
theorem pe_bl {b j pos} : PE X (.Constant (.bool b) j pos) (tC (.bl b)) := fun _ _ _ H _ I h => Constant_bool ⟨.bl b, H, I, rfl, h⟩
theorem pe_non {j pos} : PE X (.Constant .none j pos) (tC .non) := fun _ _ _ H _ I h => Constant_none ⟨.non, H, I, rfl, h⟩
theorem pe_str {x j pos} : PE X (.Constant (.str x) j pos) (tC (.str x)) := fun _ _ _ H _ I h => Calls.Constant_str ⟨.str x, H, I.tok _, ⟨_, rfl⟩, h⟩

def Gl (X : Cx) (x : Str) : Prop := X.env.kindOf x = some .globalImplicit
theorem ld_glob {E : Value → Shared → Prop} {pins : List (Addr × Obj)} {s : Shared} {σ : St} {H : Hp} {x : Str} {u : Value} {pos : Pos} {Q : Value → Shared → Prop} (I : Inv X pins σ H s) (hg : Gl X x) (hm : X.mg x = some u) (h : Q u s)
    (hd : (x == ("__debug__" : Str)) = false := by decide) : wpAny (model X.prog X.w) X.A (eval (.Name x pos) X.env) Q E s :=
  Calls.Name_function_global I.ok.kind hg (Calls.loadGlobal_global (by rw [I.ok.glob]; exact I.mod.glob.keeps I.bk) hm h) hd
theorem ld_blt {E : Value → Shared → Prop} {pins : List (Addr × Obj)} {s : Shared} {σ : St} {H : Hp} {x : Str} {u : Value} {pos : Pos} {Q : Value → Shared → Prop} (I : Inv X pins σ H s) (hg : Gl X x) (hm : X.mg x = none) (hv : bootBuiltins x = some u) (h : Q u s)
    (hn : x ≠ "__name__" := by decide) (hd : (x == ("__debug__" : Str)) = false := by decide) : wpAny (model X.prog X.w) X.A (eval (.Name x pos) X.env) Q E s := by
  obtain ⟨mb, h1, h2⟩ := I.mod.blt
  exact Calls.Name_function_global I.ok.kind hg (Calls.loadGlobal_builtin (by rw [I.ok.glob]; exact I.mod.glob.keeps I.bk) hm (by rw [I.ok.blt]; exact h1.keeps I.bk) ((h2 x hn).trans hv) h) hd
theorem pe_glob {x : Str} {v : V} {u : Value} {pos : Pos} (hg : Gl X x) (hm : X.mg x = some u) (r : RelV v u) (hd : (x == ("__debug__" : Str)) = false := by decide) : PE X (.Name x pos) (tC v) :=
  fun _ _ _ H _ I h => ld_glob I hg hm ⟨v, H, I, r, h⟩ hd
theorem pe_bltn {x : Str} {v : V} {u : Value} {pos : Pos} (hg : Gl X x) (hm : X.mg x = none) (hv : bootBuiltins x = some u) (r : RelV v u) (hn : x ≠ "__name__" := by decide) (hd : (x == ("__debug__" : Str)) = false := by decide) : PE X (.Name x pos) (tC v) :=
  fun _ _ _ H _ I h => ld_blt I hg hm hv ⟨v, H, I, r, h⟩ hn hd

variable {a b : Expr} {ta tb : TE} {pos : Pos}

def tB (t : TE) : TT := fun σ H Q => t σ H fun x H1 => ∃ c, x = .bl c ∧ Q c H1
theorem pt_val {e : Expr} {t : TE} (h : PE X e t) (he : ∀ whole, isTrue e X.env whole = (do let v ← whole; standAt e.pos; holding [v] (truthy v)) := by intro _; rfl) : PT X e (tB t) := by
  intro pins s σ H Q I hw
  refine isTrue_plain (thn (h pins s σ H _ I hw) fun v s1 ⟨x, H1, I1, r1, q1⟩ => ?_) (he _)
  obtain ⟨d, rfl, q⟩ := q1
  cases r1
  exact wpAny_truthy_bool ⟨H1, I1, q⟩

variable {tA tB' : TT} {rest : List Expr}
def tAnd (t u : TT) : TT := fun σ H Q => t σ H fun c H1 => if c = true then u σ H1 Q else Q false H1
def tOr (t u : TT) : TT := fun σ H Q => t σ H fun c H1 => if c = true then Q true H1 else u σ H1 Q
def tNot (t : TT) : TT := fun σ H Q => t σ H fun c H1 => Q (!c) H1
theorem pw_and1 (ha : PT X a tA) : PW X (.BoolOp .And [a] pos) tA := by
  intro wh pins s σ H Q I h
  refine isTrue_and (thn (ha pins s σ H Q I h) fun c s1 e => ?_)
  cases c with
  | true => exact isTrue_and_nil e
  | false => exact e
theorem pw_or1 (ha : PT X a tA) : PW X (.BoolOp .Or [a] pos) tA := by
  intro wh pins s σ H Q I h
  refine isTrue_or (thn (ha pins s σ H Q I h) fun c s1 e => ?_)
  cases c with
  | false => exact isTrue_or_nil e
  | true => exact e
theorem pw_and (ha : PT X a tA) (hb : PW X (.BoolOp .And (b :: rest) pos) tB') : PW X (.BoolOp .And (a :: b :: rest) pos) (tAnd tA tB') := by
  intro wh pins s σ H Q I h
  refine isTrue_and (thn (ha pins s σ H _ I h) fun c s1 ⟨H1, I1, q1⟩ => ?_)
  cases c with
  | true => exact hb wh pins s1 σ H1 Q I1 q1
  | false => exact ⟨H1, I1, q1⟩
theorem pw_or (ha : PT X a tA) (hb : PW X (.BoolOp .Or (b :: rest) pos) tB') : PW X (.BoolOp .Or (a :: b :: rest) pos) (tOr tA tB') := by
  intro wh pins s σ H Q I h
  refine isTrue_or (thn (ha pins s σ H _ I h) fun c s1 ⟨H1, I1, q1⟩ => ?_)
  cases c with
  | true => exact ⟨H1, I1, q1⟩
  | false => exact hb wh pins s1 σ H1 Q I1 q1
theorem pt_not (ha : PT X a tA) : PT X (.UnaryOp .Not a pos) (tNot tA) := by
  intro pins s σ H Q I h
  exact isTrue_not (ha pins s σ H (fun c H1 => Q (!c) H1) I h)
def tAndV (ta tb : TE) : TE := fun σ H Q => ta σ H fun x H1 => ∃ c, x = .bl c ∧ if c = true then tb σ H1 Q else Q (.bl false) H1
def tOrV (ta tb : TE) : TE := fun σ H Q => ta σ H fun x H1 => ∃ c, x = .bl c ∧ if c = true then Q (.bl true) H1 else tb σ H1 Q
def tNotV (ta : TE) : TE := fun σ H Q => ta σ H fun x H1 => ∃ c, x = .bl c ∧ Q (.bl (!c)) H1
theorem pe_one {op} {t : TE} (h : PE X a t) : PE X (.BoolOp op [a] pos) t := fun pins s σ H Q I hw => BoolOp_one (h pins s σ H Q I hw)
theorem pe_and (ha : PE X a ta) (hb : PE X (.BoolOp .And (b :: rest) pos) tb) : PE X (.BoolOp .And (a :: b :: rest) pos) (tAndV ta tb) := by
  intro pins s σ H Q I h
  refine BoolOp_and (thn (ha pins s σ H _ I h) fun v s1 ⟨x, H1, I1, r1, q1⟩ => ?_)
  obtain ⟨c, rfl, q1⟩ := q1
  cases r1
  refine wpAny_truthy_bool ?_
  cases c with
  | true => exact hb pins s1 σ H1 Q I1 q1
  | false => exact ⟨.bl false, H1, I1, rfl, q1⟩
theorem pe_or (ha : PE X a ta) (hb : PE X (.BoolOp .Or (b :: rest) pos) tb) : PE X (.BoolOp .Or (a :: b :: rest) pos) (tOrV ta tb) := by
  intro pins s σ H Q I h
  refine BoolOp_or (thn (ha pins s σ H _ I h) fun v s1 ⟨x, H1, I1, r1, q1⟩ => ?_)
  obtain ⟨c, rfl, q1⟩ := q1
  cases r1
  refine wpAny_truthy_bool ?_
  cases c with
  | false => exact hb pins s1 σ H1 Q I1 q1
  | true => exact ⟨.bl true, H1, I1, rfl, q1⟩
theorem pe_not (ha : PE X a ta) : PE X (.UnaryOp .Not a pos) (tNotV ta) := by
  intro pins s σ H Q I h
  refine UnaryOp_ (thn (ha pins s σ H _ I h) fun v s1 ⟨x, H1, I1, r1, q1⟩ => ?_)
  obtain ⟨c, rfl, q1⟩ := q1
  cases r1
  exact not_of (wpAny_truthy_bool ⟨.bl (!c), H1, I1, rfl, q1⟩)
end
end L2

namespace L2
open PySem PySem.Spec PyProof.Rows

def SqL (K : PySem.W.Frag) (H : Hp) (a : Addr) (xs : List V) : Prop :=
  Rd H a (.lst xs) ∨
    ∃ (o : Obj) (its : Array Value) (n : Nat), K.lookup a = some o ∧ o.cls = .type "list" ∧ o.dict = none ∧ o.data = .seq its n ∧ its.size ≤ sizeLine ∧ Vals xs its.toList
def SqT (K : PySem.W.Frag) (H : Hp) (a : Addr) (xs : List V) : Prop :=
  Rd H a (.tup xs) ∨
    ∃ (o : Obj) (its : Array Value) (n : Nat), K.lookup a = some o ∧ o.cls = .type "tuple" ∧ o.data = .seq its n ∧ its.size ≤ sizeLine ∧ Vals xs its.toList
def absV : Value → Option V
  | .none => some .non
  | .bool b => some (.bl b)
  | .int i _ => some (.int i)
  | .str x _ => some (.str x)
  | .bytes b _ => some (.byt b)
  | .float b _ => some (.flt b)
  | .ref a => some (.ref a)
  | .type n => some (.ty n)
  | _ => none
theorem RelV.abs {x : V} {u : Value} (r : RelV x u) : absV u = some x := by
  cases x with
  | non => cases r; rfl
  | bl _ => cases r; rfl
  | int _ => obtain ⟨t, rfl⟩ := r; rfl
  | str _ => obtain ⟨t, rfl⟩ := r; rfl
  | byt _ => obtain ⟨t, rfl⟩ := r; rfl
  | flt _ => obtain ⟨t, rfl⟩ := r; rfl
  | ref _ => cases r; rfl
  | ty _ => cases r; rfl
theorem RelV.inj {x y : V} {u : Value} (r : RelV x u) (q : RelV y u) : x = y := Option.some.inj (r.abs.symm.trans q.abs)
theorem Vals.inj : ∀ {xs ys : List V} {us : List Value}, Vals xs us → Vals ys us → xs = ys
  | _, _, _, .nil, .nil => rfl
  | _, _, _, .cons r t, .cons r' t' => by rw [r.inj r', Vals.inj t t']
section
variable {X : Cx} {pins : List (Addr × Obj)} {σ : St} {H : Hp} {s : Shared} {a : Addr} {xs ys : List V}
theorem SqL.of {K : PySem.W.Frag} (h : H a = some (.lst xs)) : SqL K H a xs := .inl (.inl h)
theorem SqT.of {K : PySem.W.Frag} (h : H a = some (.tup xs)) : SqT K H a xs := .inl (.inl h)
theorem Inv.list (I : Inv X pins σ H s) (h : SqL X.K H a xs) : ∃ its : List Value, Vals xs its ∧ PlainL s.heap a its.toArray ∧ xs.length ≤ sizeLine := by
  rcases h with h | ⟨o, its, n, hk, hc, hd, hs, hz, r⟩
  · obtain ⟨z, its, n, r, e⟩ := h.ok I.hok
    exact ⟨its, r, ⟨_, n, e, rfl, rfl, rfl⟩, z⟩
  · refine ⟨its.toList, r, ⟨o, n, I.kIn a o hk, hc, hd, by simpa using hs⟩, ?_⟩
    have e := r.length
    simp only [Array.length_toList] at e
    omega
theorem Inv.tuple (I : Inv X pins σ H s) (h : SqT X.K H a xs) : ∃ its : List Value, Vals xs its ∧ IsTup s.heap a its.toArray ∧ xs.length ≤ sizeLine := by
  rcases h with h | ⟨o, its, n, hk, hc, hs, hz, r⟩
  · obtain ⟨z, its, r, p⟩ := h.ok I.hok
    exact ⟨its, r, p, z⟩
  · refine ⟨its.toList, r, ⟨o, I.kIn a o hk, hc, n, by simpa using hs⟩, ?_⟩
    have e := r.length
    simp only [Array.length_toList] at e
    omega
theorem Inv.list_inj (I : Inv X pins σ H s) (h : SqL X.K H a xs) (h' : SqL X.K H a ys) : xs = ys := by
  obtain ⟨its, r, ⟨o, n, e, _, _, d⟩, _⟩ := I.list h
  obtain ⟨its', r', ⟨o', n', e', _, _, d'⟩, _⟩ := I.list h'
  rw [e] at e'; cases e'
  rw [d] at d'
  injection d' with d1 _
  have : its = its' := by simpa using congrArg Array.toList d1
  subst this
  exact r.inj r'
theorem Inv.tuple_inj (I : Inv X pins σ H s) (h : SqT X.K H a xs) (h' : SqT X.K H a ys) : xs = ys := by
  obtain ⟨its, r, ⟨o, e, _, n, d⟩, _⟩ := I.tuple h
  obtain ⟨its', r', ⟨o', e', _, n', d'⟩, _⟩ := I.tuple h'
  rw [e] at e'; cases e'
  rw [d] at d'
  injection d' with d1 _
  have : its = its' := by simpa using congrArg Array.toList d1
  subst this
  exact r.inj r'
end

abbrev Cx.wish (X : Cx) (E : Value → Shared → Prop) : Cx := { X with xe := E }
abbrev Cx.nox (X : Cx) : Cx := X.wish fun _ _ => False
theorem Cx.Ok.wish {X : Cx} (ok : X.Ok) (E : Value → Shared → Prop) : (X.wish E).Ok :=
  ⟨ok.mod, ok.kind, ok.glob, ok.blt, ok.above, ok.inj, ok.has, ok.cab, ok.hd, ok.frames, ok.stk, ok.exf, ok.bs, ok.bsz, ok.noex, ok.exfs, ok.funs, ok.frf⟩
theorem Cx.Ok.unwish {X : Cx} {E : Value → Shared → Prop} (ok : (X.wish E).Ok) : X.Ok :=
  ⟨ok.mod, ok.kind, ok.glob, ok.blt, ok.above, ok.inj, ok.has, ok.cab, ok.hd, ok.frames, ok.stk, ok.exf, ok.bs, ok.bsz, ok.noex, ok.exfs, ok.funs, ok.frf⟩
section
variable {X : Cx} {pins : List (Addr × Obj)} {σ : St} {H : Hp} {s : Shared} {E : Value → Shared → Prop}
theorem Inv.wish (I : Inv X pins σ H s) (E : Value → Shared → Prop) : Inv (X.wish E) pins σ H s := ⟨I.ok.wish E, I.os, I.bare, I.base, I.loc, I.cell, I.free, I.freeC, I.pin, I.hok, I.len⟩
theorem Inv.unwish (I : Inv (X.wish E) pins σ H s) : Inv X pins σ H s := ⟨I.ok.unwish, I.os, I.bare, I.base, I.loc, I.cell, I.free, I.freeC, I.pin, I.hok, I.len⟩
theorem SP.unwish {D : Ends} {f : Flow} {s' : Shared} (h : SP (X.wish E) pins D f s') : SP X pins D f s' := by
  cases f with
  | next => obtain ⟨σ', H', I, q⟩ := h; exact ⟨σ', H', I.unwish, q⟩
  | brk => obtain ⟨σ', H', I, q⟩ := h; exact ⟨σ', H', I.unwish, q⟩
  | cont => obtain ⟨σ', H', I, q⟩ := h; exact ⟨σ', H', I.unwish, q⟩
  | ret u => obtain ⟨v, σ', H', I, r, q⟩ := h; exact ⟨v, σ', H', I.unwish, r, q⟩
theorem PE.nox {e : Expr} {t : TE} (h : PE X.nox e t) : PE X e t := fun pins s σ H Q I hw =>
  wpAny_mono (h pins s σ H Q (I.wish _) hw) (fun _ _ ⟨v, H', I', r, q⟩ => ⟨v, H', I'.unwish, r, q⟩) fun _ _ z => False.elim z
theorem PT.nox {e : Expr} {t : TT} (h : PT X.nox e t) : PT X e t := fun pins s σ H Q I hw =>
  wpAny_mono (h pins s σ H Q (I.wish _) hw) (fun _ _ ⟨H', I', q⟩ => ⟨H', I'.unwish, q⟩) fun _ _ z => False.elim z
theorem PSs.nox {st : List Stmt} {t : TS} (h : PSs X.nox st t) : PSs X st t := fun pins s σ H D I hw =>
  wpAny_mono (h pins s σ H D (I.wish _) hw) (fun _ _ q => q.unwish) fun _ _ z => False.elim z
end

section
variable {X : Cx} {st : Stmt} {rest : List Stmt} {t u : TS} {e : Expr} {te : TE} {pos : Pos}
def tNext : TS := fun D σ H => D.nx σ H
def tSeq (t u : TS) : TS := fun D σ H => t { D with nx := u D } σ H
theorem pss_nil : PSs X [] tNext := fun _ _ σ H _ I h => wpAny_execs_nil ⟨σ, H, I, h⟩
theorem pss_cons (h1 : PS X st t) (h2 : PSs X rest u) : PSs X (st :: rest) (tSeq t u) := by
  intro pins s σ H D I h
  refine wpAny_execs_cons (thn (h1 pins s σ H { D with nx := u D } I h) fun f s1 q => ?_)
  cases f with
  | next =>
    obtain ⟨σ', H', I', q⟩ := q
    exact h2 pins s1 σ' H' D I' q
  | ret v => exact q
  | brk => exact q
  | cont => exact q
theorem pss_one (h1 : PS X st t) : PSs X [st] t := by
  intro pins s σ H D I h
  refine wpAny_execs_cons (thn (h1 pins s σ H D I h) fun f s1 q => ?_)
  cases f with
  | next => exact wpAny_execs_nil q
  | ret v => exact q
  | brk => exact q
  | cont => exact q
theorem Inv.quiet {pins : List (Addr × Obj)} {σ : St} {H : Hp} {s : Shared} (I : Inv X pins σ H s) : interactive X.env = false := by simp [interactive, I.ok.kind]
def tDrop (te : TE) : TS := fun D σ H => te σ H fun _ H1 => D.nx σ H1
theorem ps_expr (he : PE X e te) (hs : swapsWith e none pos.line X.env = pure false := by rfl) : PS X (.Expr e pos) (tDrop te) := by
  intro pins s σ H D I h
  exact wpAny_Expr_any (thn (he pins s σ H _ I h) fun v s1 ⟨x, H1, I1, r1, q1⟩ => ⟨σ, H1, I1, q1⟩) I.quiet hs
def tRet (te : TE) : TS := fun D σ H => te σ H D.rt
theorem ps_ret (he : PE X e te) : PS X (.Return (some e) pos) (tRet te) := by
  intro pins s σ H D I h
  exact wpAny_Return_some (thn (he pins s σ H _ I h) fun v s1 ⟨x, H1, I1, r1, q1⟩ => ⟨x, σ, H1, I1, r1, q1⟩)
def tIfS (c : TT) (t u : TS) : TS := fun D σ H => c σ H fun b H1 => if b = true then t D σ H1 else u D σ H1
theorem ps_if {c : Expr} {a b : List Stmt} {tc : TT} (hc : PT X c tc) (ha : PSs X a t) (hb : PSs X b u) : PS X (.If c a b pos) (tIfS tc t u) := by
  intro pins s σ H D I h
  refine wpAny_If (thn (hc pins s σ H _ I h) fun d s1 ⟨H1, I1, q1⟩ => ?_)
  cases d with
  | true => exact ha pins s1 σ H1 D I1 q1
  | false => exact hb pins s1 σ H1 D I1 q1
def tNever : TS := fun _ _ _ => False
theorem ps_never : PS X st tNever := fun _ _ _ _ _ _ h => h.elim
end

abbrev TG := V → St → Hp → (St → Hp → Prop) → Prop
abbrev TGs := List V → St → Hp → (St → Hp → Prop) → Prop
def PG (X : Cx) (target : Expr) (t : TG) : Prop :=
  ∀ (pins : List (Addr × Obj)) (s : Shared) (σ : St) (H : Hp) (v : V) (u : Value) (Q : St → Hp → Prop), Inv X pins σ H s → RelV v u → t v σ H Q →
    wpAny (model X.prog X.w) X.A (assign target X.env u) (fun _ s' => ∃ σ' H', Inv X pins σ' H' s' ∧ Q σ' H') X.xe s
def PGs (X : Cx) (ts : List Expr) (t : TGs) : Prop :=
  ∀ (pins : List (Addr × Obj)) (s : Shared) (σ : St) (H : Hp) (vs : List V) (us : List Value) (Q : St → Hp → Prop), Inv X pins σ H s → Vals vs us → t vs σ H Q →
    wpAny (model X.prog X.w) X.A (assignInOrder ((assignEach ts X.env).map (·.2)) us) (fun _ s' => ∃ σ' H', Inv X pins σ' H' s' ∧ Q σ' H') X.xe s
abbrev TSet := V → V → V → Hp → (Hp → Prop) → Prop
def PSet (X : Cx) (t : TSet) : Prop :=
  ∀ (pins : List (Addr × Obj)) (s : Shared) (σ : St) (H : Hp) (o i v : V) (ov iv u : Value) (Q : Hp → Prop), Inv X pins σ H s → RelV o ov → RelV i iv → RelV v u → t o i v H Q →
    wpAny (model X.prog X.w) X.A (setItem ov iv u) (fun _ s' => ∃ H', Inv X pins σ H' s' ∧ Q H') X.xe s
section
variable {X : Cx} {pos : Pos}
def gName (i : Nat) : TG := fun v σ H Q => Q (σ.set i (some v)) H
theorem pg_name {i : Nat} {x : Str} (hN : X.N.Nodup) (hi : X.N[i]? = some x) (hx : Loc X.env.scope x) (hf : X.fn x = true ∨ X.env.scope.names.lookup x = some .local := by first | exact .inl rfl | exact .inr rfl | assumption) : PG X (.Name x pos) (gName i) := by
  intro pins s σ H v u Q I r h
  exact wpAny_assign_Name (store_ok I hN hi hx r (fun s' I' => ⟨_, H, I', h⟩) hf)
def gNil : TGs := fun vs σ H Q => vs = [] ∧ Q σ H
def gCons (t : TG) (u : TGs) : TGs := fun vs σ H Q => ∃ v r, vs = v :: r ∧ t v σ H fun σ' H' => u r σ' H' Q
theorem pgs_nil : PGs X [] gNil := by
  intro pins s σ H vs us Q I r h
  obtain ⟨e, h⟩ := h
  subst e
  cases r
  exact assignInOrder_nil ⟨σ, H, I, h⟩
theorem pgs_cons {e : Expr} {es : List Expr} {t : TG} {u : TGs} (h1 : PG X e t) (h2 : PGs X es u)
    (hs : (assignEach (e :: es) X.env).map (·.2) = assign e X.env :: (assignEach es X.env).map (·.2) := by rfl) : PGs X (e :: es) (gCons t u) := by
  intro pins s σ H vs us Q I r h
  obtain ⟨v, vr, e1, h⟩ := h
  subst e1
  cases r with
  | cons r rr =>
    rw [hs]
    refine assignInOrder_cons (thn (h1 pins s σ H _ _ _ I r h) fun _ s1 ⟨σ1, H1, I1, q1⟩ => ?_)
    exact h2 pins s1 σ1 H1 _ _ Q I1 rr q1
def gTup (K : PySem.W.Frag) (n : Nat) (t : TGs) : TG := fun v σ H Q => ∃ a xs, v = .ref a ∧ SqT K H a xs ∧ xs.length = n ∧ t xs σ H Q
theorem pg_tup {es : List Expr} {k : Nat} {t : TGs} {n : Nat} (hc : X.calm = true) (h : PGs X es t)
    (hn : (assignEach es X.env).length = n := by rfl) (hst : (assignEach es X.env).findIdx? (·.1) = none := by rfl) : PG X (.Tuple es k pos) (gTup X.K n t) := by
  intro pins s σ H v u Q I r hw
  obtain ⟨a, xs, e1, hq, hl, hw⟩ := hw
  subst e1
  cases r
  obtain ⟨its, rv, ht, hz⟩ := I.tuple hq
  refine assign_Tuple_tuple (I.ok.hd hc) ht (by simp [hn, ← hl, rv.length]) hst fun h' hx => ?_
  have I1 : Inv X pins σ H { s with heap := h' } := I.kept (t' := s.toks) fun b o e => hx b o (Nat.ne_of_lt (Heap.lt_size e)) e
  exact h pins _ σ H xs _ Q I1 (by simpa using rv) hw
def gSub (to ti : TE) (t : TSet) : TG := fun v σ H Q => to σ H fun o H1 => ti σ H1 fun i H2 => t o i v H2 fun H3 => Q σ H3
theorem pg_sub {o i : Expr} {to ti : TE} {t : TSet} (ho : PE X o to) (hi : PE X i ti) (hs : PSet X t)
    (ha : ∀ v, assign (.Subscript o i pos) X.env v = (do
      let ov ← holding [v] (eval o X.env)
      let iv ← holding [v, ov] (eval i X.env)
      standAt pos
      holding [v, ov, iv] (setItem ov iv v)
      release [v, ov, iv] []) := by intro _; rfl) : PG X (.Subscript o i pos) (gSub to ti t) := by
  intro pins s σ H v u Q I r h
  rw [ha]
  refine wpAny_bind (wpAny_holding (thn (ho pins s σ H _ I h) fun ov s1 ⟨x, H1, I1, r1, q1⟩ => ?_))
  refine wpAny_bind (wpAny_holding (thn (hi pins s1 σ H1 _ I1 q1) fun iv s2 ⟨y, H2, I2, r2, q2⟩ => ?_))
  refine wpAny_bind (wpAny_standAt (wpAny_bind (wpAny_holding (thn (hs pins s2 σ H2 x y v ov iv u _ I2 r1 r2 r q2) fun _ s3 ⟨H3, I3, q3⟩ => ?_))))
  exact wpAny_release ⟨σ, H3, I3, q3⟩
def tAsg (te : TE) (g : TG) : TS := fun D σ H => te σ H fun x H1 => g x σ H1 D.nx
theorem ps_asg {tg e : Expr} {te : TE} {g : TG} (he : PE X e te) (hg : PG X tg g) (hs : swapsWithSole [tg] e pos.line X.env = pure false := by rfl) (hw : swappedStores [tg] e X.env = pure none := by rfl)
    (h1 : (assignEach [tg] X.env).map (·.2) = [assign tg X.env] := by rfl) : PS X (.Assign [tg] e pos) (tAsg te g) := by
  intro pins s σ H D I h
  refine wpAny_Assign_stores (thn (he pins s σ H _ I h) fun v s1 ⟨x, H1, I1, r1, q1⟩ => ?_) hs hw
  rw [h1]
  exact thn (hg pins s1 σ H1 x v _ I1 r1 q1) fun _ s2 q => q
theorem ps_set {i : Nat} {x : Str} {e : Expr} {te : TE} {pos' : Pos} (hN : X.N.Nodup) (hi : X.N[i]? = some x) (hx : Loc X.env.scope x) (he : PE X e te) (hs : swapsWith e (some (.Name x pos')) pos.line X.env = pure false := by rfl) (hf : X.fn x = true ∨ X.env.scope.names.lookup x = some .local := by first | exact .inl rfl | exact .inr rfl | assumption) :
    PS X (.Assign [.Name x pos'] e pos) (tAsg te (gName i)) := by
  intro pins s σ H D I h
  refine wpAny_Assign_Name (thn (he pins s σ H _ I h) fun v s1 ⟨y, H1, I1, r1, q1⟩ => ?_) hs
  exact store_ok I1 hN hi hx r1 (fun s2 I2 => ⟨_, H1, I2, q1⟩) hf
def tPar (i j : Nat) (ta : TA) : TS := fun D σ H => ta σ H fun vs H1 => ∃ v w, vs = [v, w] ∧ D.nx ((σ.set i (some v)).set j (some w)) H1
theorem ps_par {i j : Nat} {x y : Str} {a b : Expr} {ta : TA} {px py pt : Pos} {kt k2 pt2} (hc : X.calm = true) (hN : X.N.Nodup) (hi : X.N[i]? = some x) (hj : X.N[j]? = some y) (hij : i ≠ j)
    (hx : X.env.scope.names.lookup x = some .local) (hy : X.env.scope.names.lookup y = some .local) (ha : PA X [a, b] ta)
    (hw : swappedStores [.Tuple [.Name x px, .Name y py] kt pt] (.Tuple [a, b] k2 pt2) X.env = pure (some [x, y]))
    (hs : swapsWithSole [.Tuple [.Name x px, .Name y py] kt pt] (.Tuple [a, b] k2 pt2) pos.line X.env = pure false := by rfl) :
    PS X (.Assign [.Tuple [.Name x px, .Name y py] kt pt] (.Tuple [a, b] k2 pt2) pos) (tPar i j ta) := by
  intro pins s σ H D I h
  rw [exec_Assign_arm]
  refine wpAny_bind (wpAny_standAt ?_)
  rw [hs]
  refine wpAny_bind (wpAny_pure ?_)
  rw [if_neg (by decide)]
  refine wpAny_bind (Tuple_ (thn (ha _ pins s σ H _ I h) fun us s1 ⟨vs, H1, I1, r1, q1⟩ => ?_))
  obtain ⟨v, w, e1, q1⟩ := q1
  subst e1
  obtain ⟨u1, u2, rfl, rv, rw'⟩ : ∃ u1 u2, us = [u1, u2] ∧ RelV v u1 ∧ RelV w u2 := by
    cases r1 with
    | cons p q =>
      cases q with
      | cons p' q' =>
        cases q'
        exact ⟨_, _, rfl, p, p'⟩
  refine wpAny_newObj_type ?_ (by show 2 ≤ sizeLine; decide)
  have I2 : Inv X pins σ H1 { s1 with heap := s1.heap.push { cls := .type "tuple", data := .seq [u1, u2].toArray } } := I1.kept (t' := s1.toks) fun b o e => Heap.get?_push_of_some _ e
  rw [hw]
  refine wpAny_bind (wpAny_pure ?_)
  show wpAny (model X.prog X.w) X.A (do rule "assign.swapped-stores"; let items ← unpackItems (.ref s1.heap.objs.size) 2 none; assignInOrder [fun v => bindName X.env y v, fun v => bindName X.env x v] items.reverse; pure Flow.next) _ _ _
  refine wpAny_bind (wpAny_rule (wpAny_bind (unpackItems_tuple (items := #[u1, u2]) (I.ok.hd hc) (IsTup.new s1.heap _) fun h' hx' => ?_)))
  have I3 := I2.kept (h' := h') (t' := s1.toks) fun b o e => hx' b o (Nat.ne_of_lt (Heap.lt_size e)) e
  show wpAny _ _ (assignInOrder [fun v => bindName X.env y v, fun v => bindName X.env x v] [u2, u1] >>= fun _ => pure Flow.next) _ _ _
  refine wpAny_bind (assignInOrder_cons (wpAny_bindName (store_ok I3 hN hj (.inl hy) rw' (fun s2 I4 => ?_) (.inr hy))))
  refine assignInOrder_cons (wpAny_bindName (store_ok I4 hN hi (.inl hx) rv (fun s3 I5 => assignInOrder_nil (wpAny_pure ?_)) (.inr hx)))
  rw [List.set_comm _ _ (Ne.symm hij)] at I5
  exact ⟨_, H1, I5, q1⟩
end

section
variable {X : Cx} {pos : Pos}
def tWhile (c : TT) (tb : TS) : TS := fun D σ H => ∃ W : Nat → St → Hp → Prop, (∃ m, W m σ H) ∧ ∀ m σ H, W m σ H →
  c σ H fun b H1 => if b = true then ∃ N : St → Hp → Prop, (∀ σ' H', N σ' H' → ∃ m', m' < m ∧ W m' σ' H') ∧ tb { D with nx := N, ct := N, bk := D.nx } σ H1 else D.nx σ H1
theorem ps_while {c : Expr} {body : List Stmt} {tc : TT} {tb : TS} (hp : PassesOwn (model X.prog X.w) X.A X.env X.xe) (hc : PT X c tc) (hb : PSs X body tb) : PS X (.While c body [] pos) (tWhile tc tb) := by
  intro pins s σ H D I h
  obtain ⟨W, ⟨m0, w0⟩, turn⟩ := h
  refine wpAny_While (codeAny_whileLoop (fun n s' => ∃ σ' H', Inv X pins σ' H' s' ∧ W n σ' H') ?_ m0 ⟨σ, H, I, w0⟩)
  rintro n s1 ⟨σ1, H1, I1, w1⟩
  refine wpAny_passesOwn hp (thn (hc pins s1 σ1 H1 _ I1 (turn n σ1 H1 w1)) fun b s2 ⟨H2, I2, q2⟩ => ?_)
  cases b with
  | true =>
    obtain ⟨N, hN, q2⟩ := q2
    rw [if_pos rfl]
    refine wpAny_passesOwn hp (thn (hb pins s2 σ1 H2 _ I2 q2) fun f s3 q3 => ?_)
    cases f with
    | next =>
      obtain ⟨σ3, H3, I3, n3⟩ := q3
      obtain ⟨m', hm, w3⟩ := hN σ3 H3 n3
      exact ⟨m', hm, σ3, H3, I3, w3⟩
    | cont =>
      obtain ⟨σ3, H3, I3, n3⟩ := q3
      obtain ⟨m', hm, w3⟩ := hN σ3 H3 n3
      exact ⟨m', hm, σ3, H3, I3, w3⟩
    | brk => exact q3
    | ret v => exact q3
  | false =>
    rw [if_neg Bool.false_ne_true]
    exact wpAny_execs_nil ⟨σ1, H2, I2, q2⟩
end

structure It where
  go : Nat → Hp → Prop
  yld : Nat → Hp → V → Hp → Prop
  stop : Nat → Hp → Prop
def FpOk (X : Cx) (pins : List (Addr × Obj)) (H : Hp) (b : Addr) : Prop :=
  H b = none ∧ b ≠ X.env.locals ∧ b ∉ X.fs ∧ (b ∈ X.ex ∨ X.s₀.heap.objs.size ≤ b) ∧ (∀ x c, X.env.cells.lookup x = some c → c ≠ b) ∧ ∀ p ∈ X.pn ++ pins, p.1 ≠ b
theorem Inv.fpOk {X : Cx} {pins : List (Addr × Obj)} {σ : St} {H H' : Hp} {s : Shared} {b : Addr} (I : Inv X pins σ H s) (hb : s.heap.objs.size ≤ b) (hn : H' b = none) : FpOk X pins H' b := by
  refine ⟨hn, Nat.ne_of_gt (Nat.lt_of_lt_of_le I.lt hb), I.nofs hb, .inr (Nat.le_trans I.sz hb), fun x c e z => ?_, fun p hp z => ?_⟩
  · obtain ⟨v, q⟩ := I.cell x c e
    exact absurd (Nat.lt_of_lt_of_le q.lt (by rw [z]; exact hb)) (Nat.lt_irrefl _)
  · exact absurd (Nat.lt_of_lt_of_le (Heap.lt_size (I.pin p hp).1) (by rw [z]; exact hb)) (Nat.lt_irrefl _)
structure Turn (P : Program) (w : World) (K : PySem.W.Frag) (tg : Expr) (J : It) (fp : List Addr) (it : Addr) (tn : Nat → Heap → Prop) : Prop where
  mem : it ∈ fp
  obj : ∀ i h, tn i h → ∀ b ∈ fp, ∃ o, h.get? b = some o ∧ ∀ v, o.data ≠ .cell v
  keep : ∀ i h h', tn i h → (∀ b ∈ fp, ∀ o, h.get? b = some o → h'.get? b = some o) → tn i h'
  item : ∀ (X : Cx), X.prog = P → X.w = w → X.K = K → X.calm = true → ∀ (i : Nat) (pins : List (Addr × Obj)) (s : Shared) (σ : St) (H : Hp) (E : Value → Shared → Prop), Inv X pins σ H s → (∀ b ∈ fp, FpOk X pins H b) → tn i s.heap → J.go i H →
    wpAny (model P w) X.A (pyNext (.ref it)) (fun r s1 => ∃ u, r = some u ∧
      wpAny (model P w) X.A (letOwnedTupleGo tg (.ref it) u) (fun _ s2 => ∃ x H', Inv X pins σ H' s2 ∧ RelV x u ∧ J.yld i H x H' ∧ tn (i + 1) s2.heap ∧ ∀ b ∈ fp, H' b = none) E s1) E s
  done : ∀ (X : Cx), X.prog = P → X.w = w → X.K = K → X.calm = true → ∀ (i : Nat) (pins : List (Addr × Obj)) (s : Shared) (σ : St) (H : Hp) (E : Value → Shared → Prop), Inv X pins σ H s → (∀ b ∈ fp, FpOk X pins H b) → tn i s.heap → J.stop i H →
    wpAny (model P w) X.A (pyNext (.ref it)) (fun r s1 => r = none ∧ Inv X pins σ H s1) E s
  self : ∀ (A : Around) (i : Nat) (s : Shared) (Q : Value → Shared → Prop) (E : Value → Shared → Prop), tn i s.heap → Q (.ref it) s → wpAny (model P w) A (pyIter (.ref it)) Q E s
abbrev TI := St → Hp → (It → Hp → Prop) → Prop
def PIE (X : Cx) (pins : List (Addr × Obj)) (σ : St) (tg : Expr) (R : It → Hp → Prop) (itv : Value) (s2 : Shared) : Prop :=
  ∃ (it : Addr) (fp : List Addr) (tn : Nat → Heap → Prop) (J : It) (H' : Hp), itv = .ref it ∧ Inv X pins σ H' s2 ∧ Turn X.prog X.w X.K tg J fp it tn ∧ tn 0 s2.heap ∧ (∀ b ∈ fp, FpOk X pins H' b) ∧ R J H'
def PI (X : Cx) (tg iter : Expr) (wi : TI) : Prop :=
  ∀ (pins : List (Addr × Obj)) (s : Shared) (σ : St) (H : Hp) (R : It → Hp → Prop), Inv X pins σ H s → wi σ H R →
    wpAny (model X.prog X.w) X.A (eval iter X.env) (fun v s1 => wpAny (model X.prog X.w) X.A (pyIter v) (PIE X pins σ tg R) X.xe s1) X.xe s

theorem go_of {M : Model} {A : Around} {E : Value → Shared → Prop} {s : Shared} {tg : Expr} {it : Addr} {u : Value} {o : Obj} {n : String} {vs : Array Value} {Q : Unit → Shared → Prop} (ho : s.heap.get? it = some o) (hc : o.cls = .type n) (hd : o.data = .fields vs)
    (hn : ["enumerate", "zip", "dict_itemiterator", "dict_reverseitemiterator", "odict_iterator", "itertools.zip_longest", "itertools.pairwise"].contains n = false) (hQ : Q () s) : wpAny M A (letOwnedTupleGo tg (.ref it) u) Q E s := by
  unfold letOwnedTupleGo
  cases tg <;> first
    | exact wpAny_pure hQ
    | (cases u <;> first
        | exact wpAny_pure hQ
        | (refine wpAny_bind (wpAny_load ho ?_)
           rw [hc, hd]
           show wpAny M A (if (["enumerate", "zip", "dict_itemiterator", "dict_reverseitemiterator", "odict_iterator", "itertools.zip_longest", "itertools.pairwise"].contains n && vs[0]? == some (rawInt _)) = true then _ else _) Q E s
           rw [if_neg (by intro h; rw [hn, Bool.false_and] at h; cases h)]
           exact wpAny_pure hQ))

def Itl (K : PySem.W.Frag) (a : Addr) : It :=
  ⟨fun i H => ∃ xs x, SqL K H a xs ∧ xs[i]? = some x, fun i H x H' => H' = H ∧ ∀ xs, SqL K H a xs → xs[i]? = some x, fun i H => ∃ xs, SqL K H a xs ∧ xs.length ≤ i⟩
def Itt (K : PySem.W.Frag) (a : Addr) : It :=
  ⟨fun i H => ∃ xs x, SqT K H a xs ∧ xs[i]? = some x, fun i H x H' => H' = H ∧ ∀ xs, SqT K H a xs → xs[i]? = some x, fun i H => ∃ xs, SqT K H a xs ∧ xs.length ≤ i⟩
def Itr (lo : Int) (n : Nat) : It := ⟨fun i _ => i < n, fun i H x H' => H' = H ∧ x = .int (lo + i), fun i _ => n ≤ i⟩
theorem turn_list {P : Program} {w : World} {K : PySem.W.Frag} {tg : Expr} (a it : Addr) : Turn P w K tg (Itl K a) [it] it (fun i h => h.IsListIter it a i) where
  mem := by simp
  obj := fun i h st b hb => by
    have e : b = it := by simpa using hb
    subst e
    obtain ⟨o, e, c, d⟩ := st
    exact ⟨o, e, fun v z => by rw [d] at z; cases z⟩
  keep := fun i h h' st k => st.at fun o e => k it (by simp) o e
  item := by
    intro X hP hw hK hc i pins s σ H E I hf st hg
    subst hP hw hK
    obtain ⟨xs, x, hq, hx⟩ := hg
    obtain ⟨its, rv, p, hz⟩ := I.list hq
    obtain ⟨u, hu, ru⟩ := rv.get hx
    obtain ⟨f0, f1, f2, f3, f4, f5⟩ := hf it (by simp)
    refine wpAny_pyNext_list_item st p.isList (x := u) (by simpa using hu) fun h' st' sb => ?_
    have I1 : Inv X pins σ H { s with heap := h' } := I.turned (t' := s.toks) (fun b o hb e => (sb.2 b hb).trans e) f0 f1 f3 f4 f5
    obtain ⟨o, e, c, d⟩ := id st'
    exact ⟨u, rfl, go_of (s := { s with heap := h' }) e c d (by decide) ⟨x, H, I1, ru, ⟨rfl, fun ys hy => by rw [I.list_inj hy hq]; exact hx⟩, st', fun b hb => (hf b hb).1⟩⟩
  done := by
    intro X hP hw hK hc i pins s σ H E I hf st hg
    subst hP hw hK
    obtain ⟨xs, hq, hx⟩ := hg
    obtain ⟨its, rv, p, hz⟩ := I.list hq
    obtain ⟨f0, f1, f2, f3, f4, f5⟩ := hf it (by simp)
    have hl := rv.length
    exact wpAny_pyNext_list_end (I.ok.hd hc) st p.isList (by simp; omega) fun h' eb => ⟨rfl, I.turned (t' := s.toks) (fun b o hb e => eb b o hb e) f0 f1 f3 f4 f5⟩
  self := fun _ _ _ _ _ st h => wpAny_pyIter_listiter st h
theorem turn_tuple {P : Program} {w : World} {K : PySem.W.Frag} {tg : Expr} (a it : Addr) : Turn P w K tg (Itt K a) [it] it (fun i h => h.IsTupleIter it a i) where
  mem := by simp
  obj := fun i h st b hb => by
    have e : b = it := by simpa using hb
    subst e
    obtain ⟨o, e, c, d⟩ := st
    exact ⟨o, e, fun v z => by rw [d] at z; cases z⟩
  keep := fun i h h' st k => st.at fun o e => k it (by simp) o e
  item := by
    intro X hP hw hK hc i pins s σ H E I hf st hg
    subst hP hw hK
    obtain ⟨xs, x, hq, hx⟩ := hg
    obtain ⟨its, rv, p, hz⟩ := I.tuple hq
    obtain ⟨u, hu, ru⟩ := rv.get hx
    obtain ⟨f0, f1, f2, f3, f4, f5⟩ := hf it (by simp)
    refine wpAny_pyNext_tuple_item st (show s.heap.IsTuple a its.toArray from p) (x := u) (by simpa using hu) fun h' st' sb => ?_
    have I1 : Inv X pins σ H { s with heap := h' } := I.turned (t' := s.toks) (fun b o hb e => (sb.2 b hb).trans e) f0 f1 f3 f4 f5
    obtain ⟨o, e, c, d⟩ := id st'
    exact ⟨u, rfl, go_of (s := { s with heap := h' }) e c d (by decide) ⟨x, H, I1, ru, ⟨rfl, fun ys hy => by rw [I.tuple_inj hy hq]; exact hx⟩, st', fun b hb => (hf b hb).1⟩⟩
  done := by
    intro X hP hw hK hc i pins s σ H E I hf st hg
    subst hP hw hK
    obtain ⟨xs, hq, hx⟩ := hg
    obtain ⟨its, rv, p, hz⟩ := I.tuple hq
    obtain ⟨f0, f1, f2, f3, f4, f5⟩ := hf it (by simp)
    have hl := rv.length
    exact wpAny_pyNext_tuple_end (I.ok.hd hc) st (show s.heap.IsTuple a its.toArray from p) (by simp; omega) fun h' eb => ⟨rfl, I.turned (t' := s.toks) (fun b o hb e => eb b o hb e) f0 f1 f3 f4 f5⟩
  self := fun _ _ _ _ _ st h => wpAny_pyIter_tupleiter st h
theorem turn_range {P : Program} {w : World} {K : PySem.W.Frag} {tg : Expr} (it : Addr) (lo : Int) (n : Nat) : Turn P w K tg (Itr lo n) [it] it (fun i h => IsRangeIter h it (lo + (i : Nat) * 1) ((n : Int) - (i : Nat)) 1) where
  mem := by simp
  obj := fun i h st b hb => by
    have e : b = it := by simpa using hb
    subst e
    exact ⟨_, st, fun v z => by
      have z' : Data.fields _ = Data.cell v := z
      cases z'⟩
  keep := fun i h h' st k => k it (by simp) _ st
  item := by
    intro X hP hw hK hc i pins s σ H E I hf st hg
    subst hP hw hK
    obtain ⟨f0, f1, f2, f3, f4, f5⟩ := hf it (by simp)
    have W := Walks.range (prog := X.prog) (w := X.w) (I.ok.hd hc) it lo 1 n
    refine W.item i s _ _ hg st fun v h' tk hv st' kk => ?_
    obtain ⟨t, rfl⟩ := hv
    have I1 : Inv X pins σ H { s with heap := h', toks := tk } := I.turned (fun b o hb e => kk b o (by simpa using hb) e) f0 f1 f3 f4 f5
    refine ⟨_, rfl, go_of (s := { s with heap := h', toks := tk }) (n := "range_iterator") st' rfl rfl (by decide) ⟨.int (lo + i), H, I1, ⟨t, ?_⟩, ⟨rfl, rfl⟩, st', fun b hb => (hf b hb).1⟩⟩
    rw [Int.mul_one]
  done := by
    intro X hP hw hK hc i pins s σ H E I hf st hg
    subst hP hw hK
    obtain ⟨f0, f1, f2, f3, f4, f5⟩ := hf it (by simp)
    exact wpAny_pyNext_range_end (I.ok.hd hc) st (by have : n ≤ i := hg; omega) fun h' eb => ⟨rfl, I.turned (t' := s.toks) (fun b o hb e => eb b o hb e) f0 f1 f3 f4 f5⟩
  self := fun _ _ _ _ _ st h => wpAny_pyIter_rangeiter st h
end L2

namespace L2
open PySem PySem.Spec PyProof.Rows
section
variable {X : Cx} {tg : Expr}
def iList (K : PySem.W.Frag) (tl : TE) : TI := fun σ H R => tl σ H fun x H1 => ∃ a, x = .ref a ∧ (∃ xs, SqL K H1 a xs) ∧ R (Itl K a) H1
def iTup (K : PySem.W.Frag) (tl : TE) : TI := fun σ H R => tl σ H fun x H1 => ∃ a, x = .ref a ∧ (∃ xs, SqT K H1 a xs) ∧ R (Itt K a) H1
theorem pi_list {l : Expr} {tl : TE} (hl : PE X l tl) : PI X tg l (iList X.K tl) := by
  intro pins s σ H R I h
  refine thn (hl pins s σ H _ I h) fun v s1 ⟨x, H1, I1, r1, q1⟩ => ?_
  obtain ⟨a, e, ⟨xs, hq⟩, q⟩ := q1
  subst e
  cases r1
  obtain ⟨its, rv, p, hz⟩ := I1.list hq
  refine wpAny_pyIter_list p.isList ?_
  refine ⟨s1.heap.objs.size, [s1.heap.objs.size], _, _, H1, rfl, I1.kept (t' := s1.toks) fun b o e => Heap.get?_push_of_some _ e, turn_list a _, ⟨_, Heap.get?_push_size _ rfl, rfl, rfl⟩, fun b hb => ?_, q⟩
  have e : b = s1.heap.objs.size := by simpa using hb
  subst e
  exact I1.fpOk (Nat.le_refl _) (I1.hok.fresh (Nat.le_refl _))
theorem pi_tup {l : Expr} {tl : TE} (hl : PE X l tl) : PI X tg l (iTup X.K tl) := by
  intro pins s σ H R I h
  refine thn (hl pins s σ H _ I h) fun v s1 ⟨x, H1, I1, r1, q1⟩ => ?_
  obtain ⟨a, e, ⟨xs, hq⟩, q⟩ := q1
  subst e
  cases r1
  obtain ⟨its, rv, p, hz⟩ := I1.tuple hq
  refine wpAny_pyIter_tuple (show s1.heap.IsTuple a its.toArray from p) ?_
  refine ⟨s1.heap.objs.size, [s1.heap.objs.size], _, _, H1, rfl, I1.kept (t' := s1.toks) fun b o e => Heap.get?_push_of_some _ e, turn_tuple a _, ⟨_, Heap.get?_push_size _ rfl, rfl, rfl⟩, fun b hb => ?_, q⟩
  have e : b = s1.heap.objs.size := by simpa using hb
  subst e
  exact I1.fpOk (Nat.le_refl _) (I1.hok.fresh (Nat.le_refl _))
theorem range_it {pins : List (Addr × Obj)} {σ : St} {H : Hp} {s : Shared} {R : It → Hp → Prop} {E : Value → Shared → Prop} {lo hi : Int} {t u v : Tok} {tk : Nat} (I : Inv X pins σ H s) (h1 : -(2 ^ 62) ≤ lo) (h2 : lo < 2 ^ 62) (h3 : -(2 ^ 62) ≤ hi) (h4 : hi < 2 ^ 62)
    (q : R (Itr lo (hi - lo).toNat) H) : wpAny (model X.prog X.w) X.A (pyIter (.ref s.heap.objs.size)) (PIE X pins σ tg R) E { s with heap := s.heap.push { cls := .type "range", data := .fields #[.int lo t, .int hi u, .int 1 v] }, toks := tk } := by
  refine wpAny_pyIter_range (IsRange.new ..) (small_one h1 h2 h3 h4) ?_
  have I1 : Inv X pins σ H { s with heap := s.heap.push { cls := .type "range", data := .fields #[.int lo t, .int hi u, .int 1 v] }, toks := tk } := I.kept fun b o e => Heap.get?_push_of_some _ e
  refine ⟨(s.heap.push { cls := .type "range", data := .fields #[.int lo t, .int hi u, .int 1 v] }).objs.size, [(s.heap.push { cls := .type "range", data := .fields #[.int lo t, .int hi u, .int 1 v] }).objs.size], _, _, H, rfl,
    I1.kept (t' := tk) fun b o e => Heap.get?_push_of_some _ e, turn_range _ lo (hi - lo).toNat, ?_, fun b hb => ?_, q⟩
  · have e1 : lo + ((0 : Nat) : Int) * 1 = lo := by simp
    have e2 : (((hi - lo).toNat : Nat) : Int) - ((0 : Nat) : Int) = Builtin.Range.rangeSize lo hi 1 := by rw [rangeSize_one]; split <;> omega
    show IsRangeIter _ _ (lo + ((0 : Nat) : Int) * 1) ((((hi - lo).toNat : Nat) : Int) - ((0 : Nat) : Int)) 1
    rw [e1, e2]
    exact Heap.get?_push_size _ rfl
  · have e : b = (s.heap.push { cls := .type "range", data := .fields #[.int lo t, .int hi u, .int 1 v] }).objs.size := by simpa using hb
    subst e
    exact I1.fpOk (Nat.le_refl _) (I1.hok.fresh (Nat.le_refl _))
def iRng1 (ta : TA) : TI := fun σ H R => ta σ H fun vs H1 => ∃ j : Int, vs = [.int j] ∧ -(2 ^ 62) ≤ j ∧ j < 2 ^ 62 ∧ R (Itr 0 j.toNat) H1
theorem pi_range1 {a : Expr} {ta : TA} {p pos : Pos} (hg : Gl X "range") (hm : X.mg "range" = none) (ha : PA X [a] ta) (hs : starEach [a] X.env = [(false, eval a X.env)] := by rfl) : PI X tg (.Call (.Name "range" p) [a] [] pos) (iRng1 ta) := by
  intro pins s σ H R I h
  refine Call_ (ld_blt I hg hm boot_range (PyProof.Rows.callWith_type1 (thn (ha pos pins s σ H _ I h) fun us s1 ⟨vs, H1, I1, r1, q1⟩ => ?_) hs rfl))
  obtain ⟨j, e, q1, q2, q⟩ := q1
  subst e
  cases r1 with
  | cons r rr =>
    cases rr
    obtain ⟨t, rfl⟩ := r
    exact call_range_1 (range_it I1 (by omega) (by omega) q1 q2 (by simpa using q))

def tFor (wi : TI) (g : TG) (tb : TS) : TS := fun D σ H => wi σ H fun J H1 => ∃ W : Nat → Nat → St → Hp → Prop, (∃ m, W 0 m σ H1) ∧ ∀ i m σ H, W i m σ H →
  (J.stop i H ∧ D.nx σ H) ∨ (J.go i H ∧ ∃ N : St → Hp → Prop, (∀ σ' H', N σ' H' → ∃ m', m' < m ∧ W (i + 1) m' σ' H') ∧ ∀ x H', J.yld i H x H' → g x σ H' fun σ2 H2 => tb { D with nx := N, ct := N, bk := D.nx } σ2 H2)
def pinsAt (fp : List Addr) (h : Heap) : List (Addr × Obj) := fp.filterMap fun b => (h.get? b).map fun o => (b, o)
theorem mem_pinsAt {fp : List Addr} {h : Heap} {b : Addr} {o : Obj} (hb : b ∈ fp) (e : h.get? b = some o) : (b, o) ∈ pinsAt fp h := List.mem_filterMap.mpr ⟨b, hb, by rw [e]; rfl⟩
theorem of_pinsAt {fp : List Addr} {h : Heap} {p : Addr × Obj} (hp : p ∈ pinsAt fp h) : p.1 ∈ fp ∧ h.get? p.1 = some p.2 := by
  obtain ⟨b, hb, e⟩ := List.mem_filterMap.mp hp
  cases q : h.get? b with
  | none => rw [q] at e; cases e
  | some o =>
    rw [q] at e
    have e' : (b, o) = p := Option.some.inj e
    subst e'
    exact ⟨hb, q⟩
theorem Inv.pinned {pins : List (Addr × Obj)} {σ : St} {H : Hp} {s : Shared} {fp : List Addr} (I : Inv X pins σ H s) (hf : ∀ b ∈ fp, FpOk X pins H b) (ho : ∀ b ∈ fp, ∃ o, s.heap.get? b = some o ∧ ∀ v, o.data ≠ .cell v) : Inv X (pins ++ pinsAt fp s.heap) σ H s :=
  I.pins_of fun p hp => (List.mem_append.mp hp).elim (fun z => I.pin p (List.mem_append_right _ z)) fun z => by
    obtain ⟨hb, e⟩ := of_pinsAt z
    obtain ⟨f0, f1, f2, _⟩ := hf p.1 hb
    obtain ⟨o, e', d⟩ := ho p.1 hb
    rw [e] at e'; cases e'
    exact ⟨e, f0, f1, f2, d⟩
theorem Inv.unpinned {pins pl : List (Addr × Obj)} {σ : St} {H : Hp} {s : Shared} (I : Inv X (pins ++ pl) σ H s) : Inv X pins σ H s := I.pins_of fun p hp => I.pin p (List.mem_append_right _ (List.mem_append_left _ hp))
theorem ps_for {iter : Expr} {body : List Stmt} {wi : TI} {g : TG} {tb : TS} {pos : Pos} (hp : PassesOwn (model X.prog X.w) X.A X.env X.xe) (hc : X.calm = true) (hi : PI X tg iter wi) (hg : PG X tg g) (hb : PSs X body tb)
    (hs : ∀ x, foldedSetIterable iter X.env x = pure x := by intro _; rfl) : PS X (.For tg iter body [] pos) (tFor wi g tb) := by
  intro pins s σ H D I h
  refine wpAny_For (thn (hi pins s σ H _ I h) fun v s1 h1 => thn h1 fun itv s2 h2 => ?_) hs
  obtain ⟨it, fp, tn, J, H2, e, I2, T, st2, f2, W, ⟨m0, w0⟩, turn⟩ := h2
  subst e
  -- what stays true of the iterator's objects through the loop
  have stat : ∀ {H' : Hp}, (∀ b ∈ fp, H' b = none) → ∀ b ∈ fp, FpOk X pins H' b := fun hn b hb => ⟨hn b hb, (f2 b hb).2⟩
  refine codeAny_forLoop_any (fun n s' => ∃ i σ' H', Inv X pins σ' H' s' ∧ tn i s'.heap ∧ (∀ b ∈ fp, H' b = none) ∧ W i n σ' H') ?_ m0 ⟨0, σ, H2, I2, st2, fun b hb => (f2 b hb).1, w0⟩
  rintro n s3 ⟨i, σ3, H3, I3, st3, fr3, w3⟩
  rcases turn i n σ3 H3 w3 with ⟨stop, qn⟩ | ⟨go, N, hN, step⟩
  · refine wpAny_passesOwn hp (thn (T.done X rfl rfl rfl hc i pins s3 σ3 H3 X.xe I3 (stat fr3) st3 stop) fun r s4 ⟨hr, I4⟩ => ?_)
    subst hr
    exact wpAny_execs_nil ⟨σ3, H3, I4, qn⟩
  · refine wpAny_passesOwn hp (thn (T.item X rfl rfl rfl hc i pins s3 σ3 H3 X.xe I3 (stat fr3) st3 go) fun r s4 ⟨u, hr, h4⟩ => ?_)
    subst hr
    refine wpAny_passesOwn hp (thn h4 fun _ s5 ⟨x, H5, I5, r5, y5, st5, fr5⟩ => ?_)
    have I5' := I5.pinned (stat fr5) (T.obj _ _ st5)
    refine wpAny_passesOwn hp (thn (hg _ s5 σ3 H5 x u _ I5' r5 (step x H5 y5)) fun _ s6 ⟨σ6, H6, I6, q6⟩ => ?_)
    refine wpAny_passesOwn hp (thn (hb _ s6 σ6 H6 _ I6 q6) fun f s7 q7 => ?_)
    have again : ∀ {σ7 : St} {H7 : Hp}, Inv X (pins ++ pinsAt fp s5.heap) σ7 H7 s7 → N σ7 H7 → ∃ m, m < n ∧ ∃ i σ' H', Inv X pins σ' H' s7 ∧ tn i s7.heap ∧ (∀ b ∈ fp, H' b = none) ∧ W i m σ' H' := fun {σ7 H7} I7 n7 => by
      obtain ⟨m', hm, w7⟩ := hN σ7 H7 n7
      refine ⟨m', hm, i + 1, σ7, H7, I7.unpinned, T.keep _ _ _ st5 fun b hb o e => (I7.pin (b, o) (List.mem_append_right _ (List.mem_append_right _ (mem_pinsAt hb e)))).1, fun b hb => ?_, w7⟩
      obtain ⟨o, e, d⟩ := T.obj _ _ st5 b hb
      exact (I7.pin (b, o) (List.mem_append_right _ (List.mem_append_right _ (mem_pinsAt hb e)))).2.1
    cases f with
    | next => obtain ⟨σ7, H7, I7, n7⟩ := q7; exact again I7 n7
    | cont => obtain ⟨σ7, H7, I7, n7⟩ := q7; exact again I7 n7
    | brk => obtain ⟨σ7, H7, I7, q7⟩ := q7; exact ⟨σ7, H7, I7.unpinned, q7⟩
    | ret v => obtain ⟨x7, σ7, H7, I7, r7, q7⟩ := q7; exact ⟨x7, σ7, H7, I7.unpinned, r7, q7⟩
end

theorem for_list {K : PySem.W.Frag} {a : Addr} {xs : List V} {g : TG} {tb : TS} {D : Ends} {σ : St} {H : Hp} (Pv : Nat → St → Hp → Prop) (h0 : Pv 0 σ H) (hl : ∀ i σ H, i ≤ xs.length → Pv i σ H → SqL K H a xs)
    (hs : ∀ i x σ H, xs[i]? = some x → Pv i σ H → g x σ H fun σ2 H2 => tb { D with nx := Pv (i + 1), ct := Pv (i + 1), bk := D.nx } σ2 H2) (hd : ∀ σ H, Pv xs.length σ H → D.nx σ H) :
    ∃ W : Nat → Nat → St → Hp → Prop, (∃ m, W 0 m σ H) ∧ ∀ i m σ H, W i m σ H →
      ((Itl K a).stop i H ∧ D.nx σ H) ∨ ((Itl K a).go i H ∧ ∃ N : St → Hp → Prop, (∀ σ' H', N σ' H' → ∃ m', m' < m ∧ W (i + 1) m' σ' H') ∧ ∀ x H', (Itl K a).yld i H x H' → g x σ H' fun σ2 H2 => tb { D with nx := N, ct := N, bk := D.nx } σ2 H2) := by
  refine ⟨fun i m σ H => m = xs.length - i ∧ i ≤ xs.length ∧ Pv i σ H, ⟨xs.length, by simp, Nat.zero_le _, h0⟩, ?_⟩
  rintro i m σ H ⟨rfl, hi, p⟩
  have q := hl i σ H hi p
  by_cases hlt : i < xs.length
  · refine .inr ⟨⟨xs, xs[i], q, by simp [hlt]⟩, Pv (i + 1), fun σ' H' p' => ⟨xs.length - (i + 1), by omega, rfl, hlt, p'⟩, fun x H' y => ?_⟩
    obtain ⟨e, y⟩ := y
    subst e
    exact hs i x σ _ (y xs q) p
  · have e : i = xs.length := by omega
    subst e
    exact .inl ⟨⟨xs, q, Nat.le_refl _⟩, hd σ H p⟩
theorem for_range {lo : Int} {n : Nat} {g : TG} {tb : TS} {D : Ends} {σ : St} {H : Hp} (Pv : Nat → St → Hp → Prop) (h0 : Pv 0 σ H)
    (hs : ∀ i σ H, i < n → Pv i σ H → g (.int (lo + i)) σ H fun σ2 H2 => tb { D with nx := Pv (i + 1), ct := Pv (i + 1), bk := D.nx } σ2 H2) (hd : ∀ σ H, Pv n σ H → D.nx σ H) :
    ∃ W : Nat → Nat → St → Hp → Prop, (∃ m, W 0 m σ H) ∧ ∀ i m σ H, W i m σ H →
      ((Itr lo n).stop i H ∧ D.nx σ H) ∨ ((Itr lo n).go i H ∧ ∃ N : St → Hp → Prop, (∀ σ' H', N σ' H' → ∃ m', m' < m ∧ W (i + 1) m' σ' H') ∧ ∀ x H', (Itr lo n).yld i H x H' → g x σ H' fun σ2 H2 => tb { D with nx := N, ct := N, bk := D.nx } σ2 H2) := by
  refine ⟨fun i m σ H => m = n - i ∧ i ≤ n ∧ Pv i σ H, ⟨n, by simp, Nat.zero_le _, h0⟩, ?_⟩
  rintro i m σ H ⟨rfl, hi, p⟩
  by_cases hlt : i < n
  · refine .inr ⟨hlt, Pv (i + 1), fun σ' H' p' => ⟨n - (i + 1), by omega, rfl, hlt, p'⟩, fun x H' y => ?_⟩
    obtain ⟨e, y⟩ := y
    subst e y
    exact hs i σ _ hlt p
  · have e : i = n := by omega
    subst e
    exact .inl ⟨Nat.le_refl _, hd σ H p⟩
end L2

namespace L2
open PySem PySem.Spec PyProof.Rows

abbrev R2 := V → V → Hp → VK → Prop
def OpR (X : Cx) (f : Value → Value → Sem Value) (r : R2) : Prop :=
  ∀ (pins : List (Addr × Obj)) (s : Shared) (σ : St) (H : Hp) (x y : V) (v u : Value) (Q : VK), Inv X pins σ H s → RelV x v → RelV y u → r x y H Q →
    wpAny (model X.prog X.w) X.A (f v u) (EP X pins σ Q) X.xe s
def UnR (X : Cx) (f : Value → Sem Value) (r : V → Hp → VK → Prop) : Prop :=
  ∀ (pins : List (Addr × Obj)) (s : Shared) (σ : St) (H : Hp) (x : V) (v : Value) (Q : VK), Inv X pins σ H s → RelV x v → r x H Q →
    wpAny (model X.prog X.w) X.A (f v) (EP X pins σ Q) X.xe s
def CallR (X : Cx) (f : Value) (r : List V → Hp → VK → Prop) : Prop :=
  ∀ (pins : List (Addr × Obj)) (s : Shared) (σ : St) (H : Hp) (xs : List V) (us : List Value) (Q : VK), Inv X pins σ H s → Vals xs us → r xs H Q →
    wpAny (model X.prog X.w) X.A (call f us) (EP X pins σ Q) X.xe s

def tOp (r : R2) (ta tb : TE) : TE := fun σ H Q => ta σ H fun x H1 => tb σ H1 fun y H2 => r x y H2 Q
def tUn (r : V → Hp → VK → Prop) (ta : TE) : TE := fun σ H Q => ta σ H fun x H1 => r x H1 Q
def rI (C : Int → Int → Prop) (g : Int → Int → V) : R2 := fun x y H Q => ∃ i j, x = .int i ∧ y = .int j ∧ C i j ∧ Q (g i j) H
def rI0 (g : Int → Int → V) : R2 := fun x y H Q => ∃ i j, x = .int i ∧ y = .int j ∧ Q (g i j) H
def rU (g : Int → V) : V → Hp → VK → Prop := fun x H Q => ∃ i, x = .int i ∧ Q (g i) H

section
variable {X : Cx} {a b c : Expr} {ta tb tc : TE} {pos : Pos}

theorem binT (ha : PE X a ta) (hb : PE X b tb) {pins : List (Addr × Obj)} {s : Shared} {σ : St} {H : Hp} {R : V → V → Hp → Prop} (I : Inv X pins σ H s)
    (h : ta σ H fun x H1 => tb σ H1 fun y H2 => R x y H2) {Q : Value → Shared → Prop} {f : Value → Value → Sem Value}
    (hf : ∀ v u s2 x y H2, Inv X pins σ H2 s2 → RelV x v → RelV y u → R x y H2 → wpAny (model X.prog X.w) X.A (f v u) Q X.xe s2) :
    wpAny (model X.prog X.w) X.A (eval a X.env) (fun v s₁ => wpAny (model X.prog X.w) X.A (eval b X.env) (fun u s₂ => wpAny (model X.prog X.w) X.A (f v u) Q X.xe s₂) X.xe s₁) X.xe s := by
  refine thn (ha pins s σ H _ I h) fun v s1 ⟨x, H1, I1, r1, q1⟩ => ?_
  refine thn (hb pins s1 σ H1 _ I1 q1) fun u s2 ⟨y, H2, I2, r2, q2⟩ => ?_
  exact hf v u s2 x y H2 I2 r1 r2 q2

theorem pe_op {op : Operator} {r : R2} (ho : OpR X (binaryOp op) r) (ha : PE X a ta) (hb : PE X b tb) : PE X (.BinOp a op b pos) (tOp r ta tb) := by
  intro pins s σ H Q I h
  exact wpAny_BinOp (binT ha hb I h fun v u s2 x y H2 I2 rx ry q => ho pins s2 σ H2 x y v u Q I2 rx ry q)
theorem pe_un {op : UnaryOp} {r : V → Hp → VK → Prop} (ho : UnR X (unaryOp op) r) (ha : PE X a ta) : PE X (.UnaryOp op a pos) (tUn r ta) := by
  intro pins s σ H Q I h
  exact UnaryOp_ (thn (ha pins s σ H _ I h) fun v s1 ⟨x, H1, I1, r1, q1⟩ => ho pins s1 σ H1 x v Q I1 r1 q1)

theorem opI {f : Value → Value → Sem Value} {C : Int → Int → Prop} {g : Int → Int → Int}
    (rule : ∀ (i j : Int) (t u : Tok) (s : Shared) (Q : Value → Shared → Prop) (E : Value → Shared → Prop), C i j → Q (.int (g i j) s.toks) { s with toks := s.toks + 1 } → wpAny (model X.prog X.w) X.A (f (.int i t) (.int j u)) Q E s) :
    OpR X f (rI C fun i j => .int (g i j)) := by
  intro pins s σ H x y v u Q I rx ry h
  obtain ⟨i, j, rfl, rfl, hc, q⟩ := h
  obtain ⟨t, rfl⟩ := rx
  obtain ⟨t', rfl⟩ := ry
  exact rule i j t t' s _ _ hc ⟨.int (g i j), H, I.tok _, ⟨_, rfl⟩, q⟩
theorem opI0 {f : Value → Value → Sem Value} {g : Int → Int → Int}
    (rule : ∀ (i j : Int) (t u : Tok) (s : Shared) (Q : Value → Shared → Prop) (E : Value → Shared → Prop), Q (.int (g i j) s.toks) { s with toks := s.toks + 1 } → wpAny (model X.prog X.w) X.A (f (.int i t) (.int j u)) Q E s) :
    OpR X f (rI0 fun i j => .int (g i j)) := by
  intro pins s σ H x y v u Q I rx ry h
  obtain ⟨i, j, rfl, rfl, q⟩ := h
  obtain ⟨t, rfl⟩ := rx
  obtain ⟨t', rfl⟩ := ry
  exact rule i j t t' s _ _ ⟨.int (g i j), H, I.tok _, ⟨_, rfl⟩, q⟩
theorem opB0 {f : Value → Value → Sem Value} {g : Int → Int → Bool}
    (rule : ∀ (i j : Int) (t u : Tok) (s : Shared) (Q : Value → Shared → Prop) (E : Value → Shared → Prop), Q (.bool (g i j)) s → wpAny (model X.prog X.w) X.A (f (.int i t) (.int j u)) Q E s) :
    OpR X f (rI0 fun i j => .bl (g i j)) := by
  intro pins s σ H x y v u Q I rx ry h
  obtain ⟨i, j, rfl, rfl, q⟩ := h
  obtain ⟨t, rfl⟩ := rx
  obtain ⟨t', rfl⟩ := ry
  exact rule i j t t' s _ _ ⟨.bl (g i j), H, I, rfl, q⟩

def CPow (i j : Int) : Prop := 0 ≤ j ∧ j ≤ 1000000 ∧ i.natAbs < 2 ^ 64
def CMul (i j : Int) : Prop := (-(2 ^ 64) < i ∧ i < 2 ^ 64) ∨ (-(2 ^ 64) < j ∧ j < 2 ^ 64)
theorem CMul.ok {i j : Int} (h : CMul i j) : IntMulOk i j := by
  rcases h with ⟨h1, h2⟩ | ⟨h1, h2⟩
  · exact .of_left (intBits_le_64 h1 h2)
  · exact .of_right (intBits_le_64 h1 h2)

theorem op_add : OpR X (binaryOp .Add) (rI0 fun i j => .int (i + j)) := opI0 fun _ _ _ _ _ _ _ q => add_int q
theorem op_sub : OpR X (binaryOp .Sub) (rI0 fun i j => .int (i - j)) := opI0 fun _ _ _ _ _ _ _ q => sub_int q
theorem op_mul : OpR X (binaryOp .Mult) (rI CMul fun i j => .int (i * j)) := opI fun _ _ _ _ _ _ _ hc q => mul_int q hc.ok
theorem op_modN : OpR X (binaryOp .Mod) (rI (fun _ j => j ≠ 0) fun i j => .int (i.fmod j)) := opI fun _ _ _ _ _ _ _ hc q => mod_int' hc q
theorem op_pow : OpR X (binaryOp .Pow) (rI CPow fun i j => .int (i ^ j.toNat)) := opI fun _ _ _ _ _ _ _ hc q => pow_int_small hc.1 hc.2.1 hc.2.2 q


theorem unI {f : Value → Sem Value} {g : Int → Int}
    (rule : ∀ (i : Int) (t : Tok) (s : Shared) (Q : Value → Shared → Prop) (E : Value → Shared → Prop), Q (.int (g i) s.toks) { s with toks := s.toks + 1 } → wpAny (model X.prog X.w) X.A (f (.int i t)) Q E s) :
    UnR X f (rU fun i => .int (g i)) := by
  intro pins s σ H x v Q I rx h
  obtain ⟨i, rfl, q⟩ := h
  obtain ⟨t, rfl⟩ := rx
  exact rule i t s _ _ ⟨.int (g i), H, I.tok _, ⟨_, rfl⟩, q⟩
theorem un_neg : UnR X (unaryOp .USub) (rU fun i => .int (-i)) := unI fun _ _ _ _ _ q => neg_int q

end

def scal : V → V → Bool
  | .non, .non => true | .non, .int _ => true | .int _, .non => true | .non, .bl _ => true | .bl _, .non => true | .non, .str _ => true | .str _, .non => true
  | .int _, .int _ => true | .bl _, .bl _ => true | .str _, .str _ => true | .byt _, .byt _ => true
  | .int _, .str _ => true | .str _, .int _ => true | .bl _, .str _ => true | .str _, .bl _ => true
  | _, _ => false
def rEq : R2 := fun x y H Q => scal x y = true ∧ Q (.bl (decide (x = y))) H
def rNe : R2 := fun x y H Q => scal x y = true ∧ Q (.bl (!decide (x = y))) H

theorem dec_int {i j : Int} : decide (V.int i = V.int j) = (i == j) := by
  rw [Bool.eq_iff_iff]
  simp
theorem dec_bl {i j : Bool} : decide (V.bl i = V.bl j) = (i == j) := by
  rw [Bool.eq_iff_iff]
  simp
theorem dec_str {i j : Str} : decide (V.str i = V.str j) = (i == j) := by
  rw [Bool.eq_iff_iff]
  simp
theorem dec_byt {i j : Array UInt8} : decide (V.byt i = V.byt j) = (i.toList == j.toList) := by
  rw [Bool.eq_iff_iff]
  cases i
  cases j
  simp

section
variable {X : Cx} {a b c : Expr} {ta tb tc : TE} {pos : Pos}
theorem fin_bl {pins : List (Addr × Obj)} {σ : St} {H : Hp} {s : Shared} {Q : VK} {k k' : Bool} (I : Inv X pins σ H s) (q : Q (.bl k) H) (e : k = k') : EP X pins σ Q (.bool k') s := by
  subst e
  exact ⟨.bl k, H, I, rfl, q⟩
theorem op_eq : OpR X (compareOp .Eq) rEq := by
  intro pins s σ H x y v u Q I rx ry h
  obtain ⟨hs, q⟩ := h
  cases x with
  | non =>
    cases rx
    cases y with
    | non => cases ry; exact PySem.EqNone.eq_none_none (fin_bl I q (by simp))
    | bl j => cases ry; exact PySem.EqNone.eq_none_bool (fin_bl I q (by simp))
    | int j => obtain ⟨t', rfl⟩ := ry; exact PySem.EqNone.eq_none_int (fin_bl I q (by simp))
    | str j => obtain ⟨t', rfl⟩ := ry; exact PySem.EqNone.eq_none_str (fin_bl I q (by simp))
    | _ => exact absurd (show false = true from hs) Bool.false_ne_true
  | bl i =>
    cases rx
    cases y with
    | non => cases ry; exact PySem.EqNone.eq_bool_none (fin_bl I q (by simp))
    | bl j => cases ry; exact eq_bool (fin_bl I q dec_bl)
    | str j => obtain ⟨t', rfl⟩ := ry; exact PySem.EqMixed.eq_bool_str (fin_bl I q (by simp))
    | _ => exact absurd (show false = true from hs) Bool.false_ne_true
  | int i =>
    obtain ⟨t, rfl⟩ := rx
    cases y with
    | non => cases ry; exact PySem.EqNone.eq_int_none (fin_bl I q (by simp))
    | int j => obtain ⟨t', rfl⟩ := ry; exact eq_int (fin_bl I q dec_int)
    | str j => obtain ⟨t', rfl⟩ := ry; exact PySem.EqMixed.eq_int_str (fin_bl I q (by simp))
    | _ => exact absurd (show false = true from hs) Bool.false_ne_true
  | str i =>
    obtain ⟨t, rfl⟩ := rx
    cases y with
    | non => cases ry; exact PySem.EqNone.eq_str_none (fin_bl I q (by simp))
    | bl j => cases ry; exact PySem.EqMixed.eq_str_bool (fin_bl I q (by simp))
    | int j => obtain ⟨t', rfl⟩ := ry; exact PySem.EqMixed.eq_str_int (fin_bl I q (by simp))
    | str j => obtain ⟨t', rfl⟩ := ry; exact eq_str (fin_bl I q dec_str)
    | _ => exact absurd (show false = true from hs) Bool.false_ne_true
  | byt i =>
    obtain ⟨t, rfl⟩ := rx
    cases y with
    | byt j => obtain ⟨t', rfl⟩ := ry; exact PySem.W.eq_bytes (fin_bl I q dec_byt)
    | _ => exact absurd (show false = true from hs) Bool.false_ne_true
  | _ => cases y <;> exact absurd (show false = true from hs) Bool.false_ne_true
theorem op_ne : OpR X (compareOp .NotEq) rNe := by
  intro pins s σ H x y v u Q I rx ry h
  obtain ⟨hs, q⟩ := h
  cases x with
  | non =>
    cases rx
    cases y with
    | non => cases ry; exact PySem.EqNone.ne_none_none (fin_bl I q (by simp))
    | bl j => cases ry; exact PySem.EqNone.ne_none_bool (fin_bl I q (by simp))
    | int j => obtain ⟨t', rfl⟩ := ry; exact PySem.EqNone.ne_none_int (fin_bl I q (by simp))
    | str j => obtain ⟨t', rfl⟩ := ry; exact PySem.EqNone.ne_none_str (fin_bl I q (by simp))
    | _ => exact absurd (show false = true from hs) Bool.false_ne_true
  | bl i =>
    cases rx
    cases y with
    | non => cases ry; exact PySem.EqNone.ne_bool_none (fin_bl I q (by simp))
    | bl j => cases ry; exact ne_bool (fin_bl I q (congrArg not dec_bl))
    | str j => obtain ⟨t', rfl⟩ := ry; exact PySem.EqMixed.ne_bool_str (fin_bl I q (by simp))
    | _ => exact absurd (show false = true from hs) Bool.false_ne_true
  | int i =>
    obtain ⟨t, rfl⟩ := rx
    cases y with
    | non => cases ry; exact PySem.EqNone.ne_int_none (fin_bl I q (by simp))
    | int j => obtain ⟨t', rfl⟩ := ry; exact ne_int (fin_bl I q (congrArg not dec_int))
    | str j => obtain ⟨t', rfl⟩ := ry; exact PySem.EqMixed.ne_int_str (fin_bl I q (by simp))
    | _ => exact absurd (show false = true from hs) Bool.false_ne_true
  | str i =>
    obtain ⟨t, rfl⟩ := rx
    cases y with
    | non => cases ry; exact PySem.EqNone.ne_str_none (fin_bl I q (by simp))
    | bl j => cases ry; exact PySem.EqMixed.ne_str_bool (fin_bl I q (by simp))
    | int j => obtain ⟨t', rfl⟩ := ry; exact PySem.EqMixed.ne_str_int (fin_bl I q (by simp))
    | str j => obtain ⟨t', rfl⟩ := ry; exact ne_str (fin_bl I q (congrArg not dec_str))
    | _ => exact absurd (show false = true from hs) Bool.false_ne_true
  | byt i =>
    obtain ⟨t, rfl⟩ := rx
    cases y with
    | byt j => obtain ⟨t', rfl⟩ := ry; exact PySem.W.ne_bytes (fin_bl I q (congrArg not dec_byt))
    | _ => exact absurd (show false = true from hs) Bool.false_ne_true
  | _ => cases y <;> exact absurd (show false = true from hs) Bool.false_ne_true

theorem op_lt : OpR X (compareOp .Lt) (rI0 fun i j => .bl (decide (i < j))) := opB0 fun _ _ _ _ _ _ _ q => lt_int q
theorem op_le : OpR X (compareOp .LtE) (rI0 fun i j => .bl (decide (i ≤ j))) := opB0 fun _ _ _ _ _ _ _ q => le_int q
theorem op_gt : OpR X (compareOp .Gt) (rI0 fun i j => .bl (decide (j < i))) := opB0 fun _ _ _ _ _ _ _ q => gt_int q

theorem op_isN : OpR X (compareOp .Is) (fun x y H Q => y = .non ∧ Q (.bl (decide (x = .non))) H) := by
  intro pins s σ H x y v u Q I rx ry h
  obtain ⟨rfl, q⟩ := h
  cases ry
  refine is_none_gen (fin_bl I q ?_)
  cases x <;> first
    | (cases rx; rfl)
    | (obtain ⟨t, rfl⟩ := rx; rfl)
theorem op_notN : OpR X (compareOp .IsNot) (fun x y H Q => y = .non ∧ Q (.bl (!decide (x = .non))) H) := by
  intro pins s σ H x y v u Q I rx ry h
  obtain ⟨rfl, q⟩ := h
  cases ry
  refine isnot_none_gen (fin_bl I q ?_)
  cases x <;> first
    | (cases rx; rfl)
    | (obtain ⟨t, rfl⟩ := rx; rfl)


theorem OpR.or {f : Value → Value → Sem Value} {r r' : R2} (h : OpR X f r) (h' : OpR X f r') : OpR X f (fun x y H Q => r x y H Q ∨ r' x y H Q) := by
  intro pins s σ H x y v u Q I rx ry q
  rcases q with q | q
  · exact h pins s σ H x y v u Q I rx ry q
  · exact h' pins s σ H x y v u Q I rx ry q

theorem nomark (b : Expr) {op : CmpOp} (h : op ≠ .In := by decide) (h2 : op ≠ .NotIn := by decide) : behindInMarks op b = false := by
  have e1 : (op == CmpOp.In) = false := by cases op <;> first | rfl | exact absurd rfl h
  have e2 : (op == CmpOp.NotIn) = false := by cases op <;> first | rfl | exact absurd rfl h2
  cases b <;> simp [behindInMarks, e1, e2]
theorem pe_cmpR {op : CmpOp} {r : R2} (ho : OpR X (compareOp op) r) (ha : PE X a ta) (hb : PE X b tb) (hm : behindInMarks op b = false) : PE X (.Compare a [op] [b] pos) (tOp r ta tb) := by
  intro pins s σ H Q I h
  exact wpAny_Compare1 (binT ha hb I h fun v u s2 x y H2 I2 rx ry q => ho pins s2 σ H2 x y v u Q I2 rx ry q) hm
def tTest (t : TE) : TT := fun σ H Q => t σ H fun x H' => ∃ k, x = .bl k ∧ Q k H'
theorem pt_cmpR {op : CmpOp} {r : R2} (ho : OpR X (compareOp op) r) (ha : PE X a ta) (hb : PE X b tb) (hm : behindInMarks op b = false) : PT X (.Compare a [op] [b] pos) (tTest (tOp r ta tb)) := by
  intro pins s σ H Q I h
  refine wpAny_isTrue_Compare1 (thn (ha pins s σ H _ I h) fun v s1 ⟨x, H1, I1, r1, q1⟩ => thn (hb pins s1 σ H1 _ I1 q1) fun u s2 ⟨y, H2, I2, r2, q2⟩ =>
    thn (ho pins s2 σ H2 x y v u _ I2 r1 r2 q2) fun c s3 ⟨z, H3, I3, r3, k, e, q3⟩ => ?_) hm
  subst e
  cases r3
  exact wpAny_truthy_bool ⟨H3, I3, q3⟩

theorem line63 : (sizeLine : Nat) < 2 ^ 63 := by rw [sizeLine_eq]; decide



theorem vals1 {x : V} {us : List Value} (r : Vals [x] us) : ∃ u, us = [u] ∧ RelV x u := by
  cases r with
  | cons r1 r2 => cases r2; exact ⟨_, rfl, r1⟩
theorem vals2 {x y : V} {us : List Value} (r : Vals [x, y] us) : ∃ u w', us = [u, w'] ∧ RelV x u ∧ RelV y w' := by
  cases r with
  | cons r1 r2 =>
    cases r2 with
    | cons r3 r4 => cases r4; exact ⟨_, _, rfl, r1, r3⟩
theorem call_abs : CallR X (.builtin "abs") (fun xs H Q => ∃ i, xs = [.int i] ∧ Q (.int (if i < 0 then -i else i)) H) := by
  intro pins s σ H xs us Q I r h
  obtain ⟨i, rfl, q⟩ := h
  obtain ⟨u, rfl, t, rfl⟩ := vals1 r
  exact call_abs_int fun u tk => ⟨.int (if i < 0 then -i else i), H, I.tok _, ⟨_, rfl⟩, q⟩
theorem call_min2 (hc : X.calm = true) : CallR X (.builtin "min") (fun xs H Q => ∃ i j, xs = [.int i, .int j] ∧ Q (.int (if j < i then j else i)) H) := by
  intro pins s σ H xs us Q I r h
  obtain ⟨i, j, rfl, q⟩ := h
  obtain ⟨u, w', rfl, ⟨t, rfl⟩, ⟨t', rfl⟩⟩ := vals2 r
  refine min_two_ints (I.ok.hd hc) fun h' tk k => ⟨_, H, I.kept k, ?_, q⟩
  by_cases hj : j < i
  · rw [if_pos hj, if_pos hj]; exact ⟨_, rfl⟩
  · rw [if_neg hj, if_neg hj]; exact ⟨_, rfl⟩
theorem call_int1 : CallR X (.type "int") (fun xs H Q => (∃ i, xs = [.int i] ∧ Q (.int i) H) ∨ ∃ k, xs = [.bl k] ∧ Q (.int (if k then 1 else 0)) H) := by
  intro pins s σ H xs us Q I r h
  rcases h with ⟨i, rfl, q⟩ | ⟨k, rfl, q⟩
  · obtain ⟨u, rfl, t, rfl⟩ := vals1 r
    exact call_int_int ⟨.int i, H, I, ⟨_, rfl⟩, q⟩
  · obtain ⟨u, rfl, r1⟩ := vals1 r
    cases r1
    exact call_int_bool ⟨.int (if k then 1 else 0), H, I.tok _, ⟨_, rfl⟩, q⟩
def LenV (K : PySem.W.Frag) (x : V) (H : Hp) (n : Nat) : Prop :=
  match x with
  | .str y => y.length ≤ sizeLine ∧ n = y.length
  | .byt y => y.size ≤ sizeLine ∧ n = y.size
  | .ref p => (∃ xs, SqL K H p xs ∧ n = xs.length) ∨ ∃ xs, SqT K H p xs ∧ n = xs.length
  | _ => False
theorem call_len : CallR X (.builtin "len") (fun xs H Q => ∃ x n, xs = [x] ∧ LenV X.K x H n ∧ Q (.int n) H) := by
  intro pins s σ H xs us Q I r h
  obtain ⟨x, n, rfl, e, q⟩ := h
  obtain ⟨u, rfl, rx⟩ := vals1 r
  have hl := line63
  have hs : sizeLine = 16777216 := sizeLine_eq
  cases x with
  | str y =>
    obtain ⟨t, rfl⟩ := rx
    obtain ⟨hy, e'⟩ : y.length ≤ sizeLine ∧ n = y.length := e
    subst e'
    exact len_str (by omega) ⟨.int _, H, I.tok _, ⟨_, rfl⟩, q⟩
  | byt y =>
    obtain ⟨t, rfl⟩ := rx
    obtain ⟨hy, e'⟩ : y.size ≤ sizeLine ∧ n = y.size := e
    subst e'
    exact PySem.W.len_bytes (by omega) ⟨.int _, H, I.tok _, ⟨_, rfl⟩, q⟩
  | ref p =>
    cases rx
    have e' : (∃ xs, SqL X.K H p xs ∧ n = xs.length) ∨ ∃ xs, SqT X.K H p xs ∧ n = xs.length := e
    rcases e' with ⟨xs, hx, e'⟩ | ⟨xs, hx, e'⟩
    · subst e'
      obtain ⟨its, r', pl, hz⟩ := I.list hx
      have hlen := r'.length
      exact Calls.call_len_list pl.isList (by simp only [List.size_toArray]; omega) ⟨.int xs.length, H, I.tok _, ⟨_, by simp only [List.size_toArray]; rw [hlen]⟩, q⟩
    · subst e'
      obtain ⟨its, r', pl, hz⟩ := I.tuple hx
      have hlen := r'.length
      exact len_tuple pl (by simp only [List.size_toArray]; omega) ⟨.int xs.length, H, I.tok _, ⟨_, by simp only [List.size_toArray]; rw [hlen]⟩, q⟩
  | _ => exact (show False from e).elim
end
end L2

namespace L2
open PySem PySem.Spec PyProof.Rows

structure ObjM (h : Heap) (x dx C : Addr) (mA : Str → Option Value) : Prop where
  obj : h.get? x = some (PySem.W.instObj C dx)
  ns : h.Ns1 dx mA
  ne : dx ≠ x

theorem lookIn_ns {h : Heap} {dx : Addr} {mA : Str → Option Value} (n : h.Ns1 dx mA) : ∃ od, h.get? dx = some od ∧ ∀ name, PySem.W.lookIn name od = some (mA name) := by
  obtain ⟨o, es, ep, ho, hd, hk, _, hm⟩ := n
  refine ⟨o, ho, fun name => ?_⟩
  have e := hm name
  unfold nsFind findBy at e
  rw [← Array.find?_toList] at e
  unfold PySem.W.lookIn
  rw [hd]
  dsimp only
  split
  · rename_i y q
    rw [q] at e
    exact congrArg some e
  · rename_i q
    rw [q] at e
    have a : es.toList.any (·.refKey) = false := by
      rw [List.any_eq_false]
      intro y hy
      obtain ⟨z, t, hkey⟩ := hk y (Array.mem_toList_iff.mp hy)
      simp [DictEntry.refKey, hkey]
    have a' : ¬ es.toList.any (·.refKey) = true := by rw [a]; exact Bool.false_ne_true
    rw [if_neg a']
    exact congrArg some e

theorem ObjM.look {h : Heap} {x dx C : Addr} {mA : Str → Option Value} (I : ObjM h x dx C mA) : ∃ od, PySem.W.InstAt h x (PySem.W.instObj C dx) C (some od) ∧ ∀ name, PySem.W.lookIn name od = some (mA name) :=
  let ⟨od, ho, hl⟩ := lookIn_ns I.ns
  ⟨od, ⟨I.obj, rfl, rfl, ho⟩, hl⟩

section
variable {prog : Program} {w : World} {A : Around} {E : Value → Shared → Prop} {s : Shared} {K : PySem.W.Frag} {x dx C f : Addr} {mA : Str → Option Value} {name : Str} {v : Value}

theorem get_map {expr : Bool} {Q : Value → Shared → Prop} (X : K.In s.heap) (I : ObjM s.heap x dx C mA) (hg : PySem.W.plainGet K C name = true) (hh : PySem.W.hasDictIn K C = true)
    (ha : PySem.W.findIn K (.ref C) name = some none) (hv : mA name = some v) (hv' : PySem.W.handedIn v = true) (h : Q v { s with toks := s.toks + 1 }) :
    wpAny (model prog w) A (getAttr (.ref x) name expr) Q E s := by
  obtain ⟨od, J, hl⟩ := I.look
  exact PySem.W.get_value X J (PySem.W.plainGet_of hg).1 (PySem.W.findObj_own hh ha rfl (by rw [hl, hv])) hv' h


theorem get_meth {pl : Sem Bool} {Q : Value × List Value → Shared → Prop} (X : K.In s.heap) (I : ObjM s.heap x dx C mA) (hg : PySem.W.plainGet K C name = true)
    (hf : PySem.W.findIn K (.ref C) name = some (some (.ref f))) (ht : PySem.W.isFn K (.ref f) = true) (hv : mA name = none) (h : Q (.ref f, [.ref x]) s) :
    wpAny (model prog w) A (getMethod (.ref x) name pl) Q E s := by
  obtain ⟨od, J, hl⟩ := I.look
  exact PySem.W.method_fn X J (PySem.W.plainGet_of hg).1 (PySem.W.plainGet_of hg).2 hf (beq_iff_eq.mp ht) (by show (PySem.W.lookIn name od).map (·.isSome) = some false; rw [hl, hv]; rfl) h

theorem set_map {ns : List Str} {Q : Unit → Shared → Prop} (X : K.In s.heap) (I : ObjM s.heap x dx C mA)
    (hs : PySem.W.findIn K (.ref C) "__setattr__" = some (some (.builtin "object.__setattr__"))) (hp : PySem.W.plainOver K C = true) (ht : PySem.W.takerIn K C name = some none) (hh : PySem.W.hasDictIn K C = true)
    (hw : PySem.Within mA ns) (hsz : ns.length ≤ sizeLine)
    (h : ∀ h', ObjM h' x dx C (fun y => if y = name then some v else mA y) → Heap.SameBut dx s.heap h' → Q () { s with heap := h', toks := s.toks + 2 }) :
    wpAny (model prog w) A (setAttr (.ref x) name v) Q E s := by
  obtain ⟨od, J, hl⟩ := I.look
  refine PySem.W.set_plain X J hs (PySem.W.osa_open (s := { s with toks := s.toks + 1 }) (r := none) X J hp ht fun b => ?_)
  obtain ⟨cd, hc, hd'⟩ := PySem.W.any_some hh
  have hx : s.heap.get? x = some ⟨.ref C, some dx, .plain, #[]⟩ := I.obj
  refine wpAny_bind (wpAny_pure (wpAny_bind (wpAny_bind (wpAny_loadPart hx (wpAny_bind (PySem.W.Looks.here (s := { s with toks := s.toks + 1 }) (PySem.W.looks_clsIn X hc) ?_))))))
  rw [hd']
  refine wpAny_pure (a := some dx) (wpAny_bind (wpAny_pure (wpAny_bind ?_)))
  refine wpAny_nsSet1 (s := { s with toks := s.toks + 1 }) I.ns fun h' hn2 hs2 => ?_
  obtain ⟨oD, esD, epD, hoD, hdD, hcD⟩ := hn2.count (PySem.Within.cons name v hw)
  refine wpAny_bind (wpAny_lookBehind hoD (by rw [hdD]; exact pastItsLine_dict (Nat.le_trans hcD (by rw [List.length_cons]; omega))) ?_)
  exact wpAny_pure (h _ ⟨(hs2.2 _ (Ne.symm I.ne)).trans I.obj, hn2, I.ne⟩ hs2)

theorem make_map {R : Result → Shared → Prop} {vs : List Value} {kw : List (Str × Value)} (X : K.In s.heap) (hm : PySem.W.makesIn K C = true)
    (hi : PySem.W.findIn K (.ref C) "__init__" = some (some (.ref f))) (hf : PySem.W.typeIn K (.ref f) = some (.type "function"))
    (h : codeAny (model prog w) (A.under (.builtin "type.__call__" ⟨.ref C :: vs, kw⟩)) (.call (.ref f) ⟨.ref (s.heap.objs.size + 1) :: vs, kw⟩) (PySem.W.InitBack (s.heap.objs.size + 1) R)
      { s with heap := (s.heap.push PySem.W.emptyDict).push (PySem.W.instObj C s.heap.objs.size) }) :
    codeAny (model prog w) A (.call (.ref C) ⟨vs, kw⟩) R s := by
  obtain ⟨hh, g, d, t, os⟩ := s
  exact PySem.W.make_core (PySem.W.makes_of X hm) (PySem.W.looks_findIn X hi) (fun self => PySem.W.bind_fn X self hf) (.inl rfl) h
theorem make_map0 {R : Result → Shared → Prop} (X : K.In s.heap) (hm : PySem.W.makesIn K C = true)
    (hi : PySem.W.findIn K (.ref C) "__init__" = some (some (.builtin "object.__init__")))
    (hb : ∀ self, PySem.W.Looks (model prog w) s.heap (bindSpecial (.builtin "object.__init__") self) (.builtin "object.__init__", [self]))
    (h : codeAny (model prog w) (A.under (.builtin "type.__call__" ⟨[.ref C], []⟩)) (.call (.builtin "object.__init__") ⟨[.ref (s.heap.objs.size + 1)], []⟩) (PySem.W.InitBack (s.heap.objs.size + 1) R)
      { s with heap := (s.heap.push PySem.W.emptyDict).push (PySem.W.instObj C s.heap.objs.size) }) :
    codeAny (model prog w) A (.call (.ref C) ⟨[], []⟩) R s := by
  obtain ⟨hh, g, d, t, os⟩ := s
  exact PySem.W.make_core (PySem.W.makes_of X hm) (PySem.W.looks_findIn X hi) hb (.inr ⟨rfl, rfl⟩) h
end

def putF (f : Str) (v : V) : List (Str × V) → List (Str × V)
  | [] => [(f, v)]
  | (g, x) :: r => if g = f then (g, v) :: r else (g, x) :: putF f v r
theorem lookup_putF (f g : Str) (v : V) : ∀ fs : List (Str × V), (putF f v fs).lookup g = if g = f then some v else fs.lookup g
  | [] => by
    show List.lookup g [(f, v)] = _
    by_cases h : g = f
    · have hb : (g == f) = true := beq_iff_eq.mpr h
      simp only [List.lookup, hb, if_pos h]
    · have hb : (g == f) = false := beq_eq_false_iff_ne.mpr h
      simp only [List.lookup, hb, if_neg h]
  | (k, x) :: r => by
    have ih := lookup_putF f g v r
    rw [show putF f v ((k, x) :: r) = (if k = f then (k, v) :: r else (k, x) :: putF f v r) from rfl]
    by_cases hk : k = f
    · rw [if_pos hk]
      by_cases h : g = k
      · have hb : (g == k) = true := beq_iff_eq.mpr h
        simp only [List.lookup, hb, if_pos (h.trans hk)]
      · have hb : (g == k) = false := beq_eq_false_iff_ne.mpr h
        simp only [List.lookup, hb, if_neg (fun e : g = f => h (e.trans hk.symm))]
    · rw [if_neg hk]
      by_cases h : g = k
      · have hb : (g == k) = true := beq_iff_eq.mpr h
        simp only [List.lookup, hb, if_neg (fun e : g = f => hk (h.symm.trans e))]
      · have hb : (g == k) = false := beq_eq_false_iff_ne.mpr h
        simp only [List.lookup, hb]
        exact ih
theorem keys_putF (f : Str) (v : V) : ∀ fs : List (Str × V), f ∈ (putF f v fs).map (·.1) ∧ ∀ g, g ∈ fs.map (·.1) → g ∈ (putF f v fs).map (·.1)
  | [] => ⟨by simp [putF], fun g h => by simp at h⟩
  | (k, x) :: r => by
    obtain ⟨i1, i2⟩ := keys_putF f v r
    rw [show putF f v ((k, x) :: r) = (if k = f then (k, v) :: r else (k, x) :: putF f v r) from rfl]
    by_cases hk : k = f
    · rw [if_pos hk]
      subst hk
      exact ⟨by simp, fun g h => by simpa using h⟩
    · rw [if_neg hk]
      refine ⟨?_, fun g h => ?_⟩
      · rw [List.map_cons]
        exact List.mem_cons_of_mem _ i1
      · rw [List.map_cons] at h ⊢
        rcases List.mem_cons.mp h with e | e
        · exact List.mem_cons.mpr (.inl e)
        · exact List.mem_cons_of_mem _ (i2 g e)
theorem length_putF (f : Str) (v : V) : ∀ fs : List (Str × V), (putF f v fs).length ≤ fs.length + 1
  | [] => by simp [putF]
  | (k, x) :: r => by
    have ih := length_putF f v r
    rw [show putF f v ((k, x) :: r) = (if k = f then (k, v) :: r else (k, x) :: putF f v r) from rfl]
    by_cases hk : k = f
    · rw [if_pos hk, List.length_cons, List.length_cons]; omega
    · rw [if_neg hk, List.length_cons, List.length_cons]; omega

theorem RelO.some_of {v : V} {o : Option Value} (r : RelO (some v) o) : ∃ u, o = some u ∧ RelV v u := by
  cases o with
  | none => exact (show False from r).elim
  | some u => exact ⟨u, rfl, r⟩
theorem RelO.none_of {o : Option Value} (r : RelO none o) : o = none := by
  cases o with
  | none => rfl
  | some u => exact (show False from r).elim
theorem handed_of {v : V} {u : Value} (r : RelV v u) : PySem.W.handedIn u = true := by
  cases v with
  | non => cases (show u = Value.none from r); rfl
  | bl b => cases (show u = Value.bool b from r); rfl
  | int i => obtain ⟨t, e⟩ := (show ∃ t, u = Value.int i t from r); cases e; rfl
  | str x => obtain ⟨t, e⟩ := (show ∃ t, u = Value.str x t from r); cases e; rfl
  | byt b => obtain ⟨t, e⟩ := (show ∃ t, u = Value.bytes b t from r); cases e; rfl
  | flt b => obtain ⟨t, e⟩ := (show ∃ t, u = Value.float b t from r); cases e; rfl
  | ref a => cases (show u = Value.ref a from r); rfl
  | ty n => cases (show u = Value.type n from r); rfl

section
variable {P : Program} {w : World} {H H' : Hp} {h h' : Heap} {a C dx : Addr} {fs fs' : List (Str × V)}
theorem ins_get (hok : HOk P w H h) (e : H a = some (.ins C dx fs)) : ∃ mA, ObjM h a dx C mA ∧ (∀ f, RelO (fs.lookup f) (mA f)) ∧ PySem.Within mA (fs.map (·.1)) ∧ fs.length ≤ 1000 ∧ H dx = some (.own a) := by
  obtain ⟨d, z, ne, ob, mA, n, r, q⟩ := (show ObjOk P w H h a (.ins C dx fs) from hok a _ e)
  exact ⟨mA, ⟨ob, n, ne⟩, r, q, z, d⟩
end

structure Cls (K : PySem.W.Frag) (C : Addr) : Prop where
  pg : PySem.W.plainGet K C Str.empty = true
  hd : PySem.W.hasDictIn K C = true
  po : PySem.W.plainOver K C = true
  sa : PySem.W.findIn K (.ref C) "__setattr__" = some (some (.builtin "object.__setattr__"))
theorem Cls.get {K : PySem.W.Frag} {C : Addr} (c : Cls K C) (f : Str) : PySem.W.plainGet K C f = true := c.pg
def NoAttr (K : PySem.W.Frag) (C : Addr) (f : Str) : Prop := PySem.W.findIn K (.ref C) f = some none
theorem NoAttr.taker {K : PySem.W.Frag} {C : Addr} {f : Str} (n : NoAttr K C f) : PySem.W.takerIn K C f = some none := by
  unfold PySem.W.takerIn
  rw [show PySem.W.findIn K (.ref C) f = some none from n]
  rfl
structure Con (K : PySem.W.Frag) (C : Addr) (f : Str) (v : V) (u : Value) : Prop where
  at_ : PySem.W.findIn K (.ref C) f = some (some u)
  rel : RelV v u
  get : PySem.W.specialIn K u "__get__" = some none
  cp : PySem.W.copiedNames.contains f = false
structure Meth (K : PySem.W.Frag) (C : Addr) (m : Str) (f : Addr) : Prop where
  at_ : PySem.W.findIn K (.ref C) m = some (some (.ref f))
  fn : PySem.W.isFn K (.ref f) = true
  kp : PySem.W.keepIn K (.ref f) = true

section
variable {X : Cx} {pins : List (Addr × Obj)} {σ : St} {H : Hp} {s : Shared} {a C dx : Addr} {fs : List (Str × V)} {f : Str} {v : V} {A : Around} {E : Value → Shared → Prop}

theorem getattr_ok {b : Bool} {Q : Value → Shared → Prop} (I : Inv X pins σ H s) (e : H a = some (.ins C dx fs)) (c : Cls X.K C) (n : NoAttr X.K C f) (l : fs.lookup f = some v)
    (h : ∀ u s', Inv X pins σ H s' → RelV v u → Q u s') : wpAny (model X.prog X.w) A (getAttr (.ref a) f b) Q E s := by
  obtain ⟨mA, O, r, _, _, _⟩ := ins_get I.hok e
  obtain ⟨u, hu, ru⟩ := RelO.some_of (v := v) (o := mA f) (by rw [← l]; exact r f)
  exact get_map I.kIn O (c.get f) c.hd n hu (handed_of ru) (h u _ (I.tok _) ru)


theorem getmeth_ok {m : Str} {g : Addr} {pl : Sem Bool} {Q : Value × List Value → Shared → Prop} (I : Inv X pins σ H s) (e : H a = some (.ins C dx fs)) (c : Cls X.K C) (k : Meth X.K C m g) (l : fs.lookup m = none)
    (h : Q (.ref g, [.ref a]) s) : wpAny (model X.prog X.w) A (getMethod (.ref a) m pl) Q E s := by
  obtain ⟨mA, O, r, _, _, _⟩ := ins_get I.hok e
  have hn : mA m = none := RelO.none_of (by rw [← l]; exact r m)
  exact get_meth I.kIn O (c.get m) k.at_ k.fn hn h

theorem setattr_ok {y : V} {u : Value} {Q : Unit → Shared → Prop} (I : Inv X pins σ H s) (e : H a = some (.ins C dx fs)) (c : Cls X.K C) (n : NoAttr X.K C f) (hl : fs.length < 1000) (ry : RelV y u)
    (h : ∀ s', Inv X pins σ (upd H a (.ins C dx (putF f y fs))) s' → Q () s') : wpAny (model X.prog X.w) A (setAttr (.ref a) f u) Q E s := by
  obtain ⟨mA, O, r, wi, _, ho⟩ := ins_get I.hok e
  have hz : (fs.map (·.1)).length ≤ sizeLine := by rw [List.length_map, sizeLine_eq]; omega
  refine set_map I.kIn O c.sa c.po n.taker c.hd wi hz fun h' O' sb => h _ ?_
  have hd : ∃ o, h'.get? dx = some o := let ⟨o, _, _, e', _⟩ := O'.ns; ⟨o, e'⟩
  refine I.write (x := a) (e := dx) (by rw [e]; exact True.intro) (.inr ho) (fun b q hb z => (sb.2 b hb).trans z) hd ?_
  refine ⟨by rw [upd_ne O.ne]; exact ho, ?_, O.ne, O'.obj, _, O'.ns, fun g => ?_, fun g hg => ?_⟩
  · have := length_putF f y fs; omega
  · show RelO ((putF f y fs).lookup g) (if g = f then some u else mA g)
    rw [lookup_putF]
    by_cases q : g = f
    · rw [if_pos q, if_pos q]; exact ry
    · rw [if_neg q, if_neg q]; exact r g
  · by_cases q : g = f
    · rw [q]; exact (keys_putF f y fs).1
    · refine (keys_putF f y fs).2 g (wi g fun z => hg ?_)
      show (if g = f then some u else mA g) = none
      rw [if_neg q]; exact z

theorem Inv.made (I : Inv X pins σ H s) : Inv X pins σ (upd (upd H s.heap.objs.size (.own (s.heap.objs.size + 1))) (s.heap.objs.size + 1) (.ins C s.heap.objs.size []))
    { s with heap := (s.heap.push PySem.W.emptyDict).push (PySem.W.instObj C s.heap.objs.size) } := by
  have e1 : (s.heap.push PySem.W.emptyDict).get? s.heap.objs.size = some PySem.W.emptyDict := Heap.get?_push_size s.heap rfl
  have e2 : ((s.heap.push PySem.W.emptyDict).push (PySem.W.instObj C s.heap.objs.size)).get? (s.heap.objs.size + 1) = some (PySem.W.instObj C s.heap.objs.size) := by
    have := Heap.get?_push_size (s.heap.push PySem.W.emptyDict) (o := PySem.W.instObj C s.heap.objs.size) rfl
    rwa [Heap.size_push] at this
  have e3 : (s.heap.push PySem.W.emptyDict).Ns s.heap.objs.size (fun _ => none) := ⟨PySem.W.emptyDict, #[], _, e1, rfl, (fun e he => absurd he (by simp)), fun _ => rfl⟩
  have I1 := I.laid (a := s.heap.objs.size) (o := .own (s.heap.objs.size + 1)) (h' := s.heap.push PySem.W.emptyDict) (t' := s.toks) (fun b u q => Heap.get?_push_of_some _ q) (Nat.le_refl _) ⟨_, e1⟩
  refine I1.laid (a := s.heap.objs.size + 1) (o := .ins C s.heap.objs.size []) (t' := s.toks) (fun b u q => Heap.get?_push_of_some _ q) (Nat.le_of_eq (Heap.size_push _ _)) ?_
  have ne : s.heap.objs.size ≠ s.heap.objs.size + 1 := Nat.ne_of_lt (Nat.lt_succ_self _)
  refine ⟨by rw [upd_ne ne, upd_same], Nat.zero_le _, ne, e2, fun _ => none, (Heap.Ns1.of_empty e3).at fun o q => Heap.get?_push_of_some _ q, fun _ => True.intro, fun y hy => absurd rfl hy⟩

theorem attr_of {prog : Program} {w : World} {env : Env} {e : Expr} {f : Str} {pos : Pos} {s : Shared} {Q : Value → Shared → Prop} (hb : attributeBase e f env (eval e env) = eval e env)
    (h : wpAny (model prog w) A (eval e env) (fun o s₁ => wpAny (model prog w) A (getAttr o f true) Q E s₁) E s) : wpAny (model prog w) A (eval (.Attribute e f pos) env) Q E s :=
  Attribute_any_ h (by rw [arm_eval_Attribute, hb])
end

def tFld (K : PySem.W.Frag) (ta : TE) (f : Str) : TE := fun σ H Q => ta σ H fun x H1 => ∃ a C dx fs v, x = .ref a ∧ H1 a = some (.ins C dx fs) ∧ Cls K C ∧ NoAttr K C f ∧ fs.lookup f = some v ∧ Q v H1
def sFld (K : PySem.W.Frag) (ta tv : TE) (f : Str) : TS := fun D σ H => tv σ H fun y H1 => ta σ H1 fun x H2 => ∃ a C dx fs, x = .ref a ∧ H2 a = some (.ins C dx fs) ∧ Cls K C ∧ NoAttr K C f ∧ fs.length < 1000 ∧
  D.nx σ (upd H2 a (.ins C dx (putF f y fs)))

section
variable {X : Cx} {o e value : Expr} {f : Str} {pos pos' tpos : Pos} {ta tv : TE}
theorem pe_fld (he : PE X e ta) (hb : attributeBase e f X.env (eval e X.env) = eval e X.env) : PE X (.Attribute e f pos) (tFld X.K ta f) := by
  intro pins s σ H Q I h
  refine attr_of hb (thn (he pins s σ H _ I h) fun u s1 ⟨x, H1, I1, rx, a, C, dx, fs, v, ex, ea, c, n, l, q⟩ => ?_)
  subst ex
  obtain rfl : u = Value.ref a := rx
  exact getattr_ok I1 ea c n l fun u' s2 I2 ru => ⟨v, H1, I2, ru, q⟩
theorem ps_fld (ha : PE X o ta) (hv : PE X value tv) (hs : swapsWith value (some (.Attribute o f pos')) pos.line X.env = pure false) : PS X (.Assign [.Attribute o f pos'] value pos) (sFld X.K ta tv f) := by
  intro pins s σ H D I h
  refine plainObj_wpAny_Assign_Attribute (thn (hv pins s σ H _ I h) fun u s1 ⟨y, H1, I1, ry, q⟩ => thn (ha pins s1 σ H1 _ I1 q) fun ov s2 ⟨x, H2, I2, rx, a, C, dx, fs, ex, ea, c, n, l, q2⟩ => ?_) hs
  subst ex
  obtain rfl : ov = Value.ref a := rx
  exact setattr_ok I2 ea c n l ry fun s3 I3 => ⟨σ, _, I3, q2⟩

end

section
variable {X : Cx} {pins : List (Addr × Obj)} {σ : St} {H : Hp} {s : Shared} {A : Around} {E : Value → Shared → Prop} {Q : Value → Shared → Prop} {c : Value} {b : Bool}
inductive TyOf (K : PySem.W.Frag) (H : Hp) : V → Value → Prop where
  | non : TyOf K H .non (.type "NoneType")
  | bl (x : Bool) : TyOf K H (.bl x) (.type "bool")
  | int (i : Int) : TyOf K H (.int i) (.type "int")
  | str (x : Str) : TyOf K H (.str x) (.type "str")
  | flt (x : UInt64) : TyOf K H (.flt x) (.type "float")
  | lst {a : Addr} {xs : List V} (e : H a = some (.lst xs)) : TyOf K H (.ref a) (.type "list")
  | frz {a : Addr} {o : Obj} {xs : List V} (e : H a = some (.frz o (.lst xs))) : TyOf K H (.ref a) (.type "list")
  | tup {a : Addr} {xs : List V} (e : H a = some (.tup xs)) : TyOf K H (.ref a) (.type "tuple")
  | dK {a : Addr} {kvs : List (Key × V)} (e : H a = some (.dK kvs)) : TyOf K H (.ref a) (.type "dict")
  | dT {a : Addr} {kvs : List (List Key × V)} (e : H a = some (.dT kvs)) : TyOf K H (.ref a) (.type "dict")
  | ins {a C dx : Addr} {fs : List (Str × V)} (e : H a = some (.ins C dx fs)) (cl : Cls K C) (ha : PySem.W.findIn K (.ref C) "__class__" = some (some (.builtin "object.__class__")))
      (hn : PySem.W.specialIn K (.builtin "object.__class__") "__get__" = some (some (.builtin "getset_descriptor.__get__"))) (htk : PySem.W.takesIn K (.builtin "object.__class__") = some true)
      (hm : PySem.W.mroIn K C (.type "object") = some true) : TyOf K H (.ref a) (.ref C)
theorem isinst_ok {x : V} {u t : Value} (I : Inv X pins σ H s) (rx : RelV x u) (ty : TyOf X.K H x t) (e : PySem.W.kitOne X.K t c = some b) (h : ∀ tk, Q (.bool b) { s with toks := tk }) :
    wpAny (model X.prog X.w) A (call (.builtin "isinstance") [u, c]) Q E s := by
  cases ty with
  | non => cases (show u = Value.none from rx); exact PySem.W.kia_one PySem.W.kitx_none I.kIn True.intro e (fun z => nomatch z) h
  | bl y => cases (show u = Value.bool y from rx); exact PySem.W.kia_one PySem.W.kitx_bool I.kIn True.intro e (fun z => nomatch z) h
  | int i => obtain ⟨t, q⟩ := (show ∃ t, u = Value.int i t from rx); cases q; exact PySem.W.kia_one PySem.W.kitx_int I.kIn True.intro e (fun z => nomatch z) h
  | str y => obtain ⟨t, q⟩ := (show ∃ t, u = Value.str y t from rx); cases q; exact PySem.W.kia_one PySem.W.kitx_str I.kIn True.intro e (fun z => nomatch z) h
  | flt y => obtain ⟨t, q⟩ := (show ∃ t, u = Value.float y t from rx); cases q; exact PySem.W.kia_one PySem.W.kitx_float I.kIn True.intro e (fun z => nomatch z) h
  | @lst a xs ea =>
    cases (show u = Value.ref a from rx)
    obtain ⟨_, _, n, _, h1⟩ := (show ObjOk X.prog X.w H s.heap a (.lst xs) from I.hok a _ ea)
    exact PySem.W.kia_one PySem.W.kitx_list I.kIn ⟨_, h1, rfl⟩ e (fun z => nomatch z) h
  | @frz a ob xs ea =>
    cases (show u = Value.ref a from rx)
    obtain ⟨_, _, _, n, _, h1⟩ := (show ObjOk X.prog X.w H s.heap a (.frz ob (.lst xs)) from I.hok a _ ea)
    exact PySem.W.kia_one PySem.W.kitx_list I.kIn ⟨_, h1, rfl⟩ e (fun z => nomatch z) h
  | @tup a xs ea =>
    cases (show u = Value.ref a from rx)
    obtain ⟨_, _, _, p⟩ := (show ObjOk X.prog X.w H s.heap a (.tup xs) from I.hok a _ ea)
    obtain ⟨o, h1, h2, _⟩ := p
    exact PySem.W.kia_one PySem.W.kitx_tuple I.kIn ⟨o, h1, h2⟩ e (fun z => nomatch z) h
  | @dK a kvs ea =>
    cases (show u = Value.ref a from rx)
    obtain ⟨_, _, vs, _, p⟩ := (show ObjOk X.prog X.w H s.heap a (.dK kvs) from I.hok a _ ea)
    obtain ⟨o, es, ep, h1, h2, _⟩ := p
    exact PySem.W.kia_one PySem.W.kitx_dict I.kIn ⟨o, h1, h2.1⟩ e (fun z => nomatch z) h
  | @dT a kvs ea =>
    cases (show u = Value.ref a from rx)
    obtain ⟨_, _, xs, _, o, es, ep, h1, h2, _⟩ := (show ObjOk X.prog X.w H s.heap a (.dT kvs) from I.hok a _ ea)
    exact PySem.W.kia_one PySem.W.kitx_dict I.kIn ⟨o, h1, h2.1⟩ e (fun z => nomatch z) h
  | @ins a C dx fs ea cl ha hn htk hm =>
    cases (show u = Value.ref a from rx)
    obtain ⟨mA, O, _⟩ := ins_get I.hok ea
    obtain ⟨od, J, _⟩ := O.look
    exact PySem.W.kia_one (PySem.W.kitx_own (cl.get _) cl.hd ha hn htk hm) I.kIn J e (fun z => nomatch z) h
end
end L2

namespace L2
open PySem PySem.Spec PyProof.Rows

structure Room (k : Nat) (A : Around) : Prop where
  hd : A.handled = none
  dp : A.depth + 3 * k + 5 < recursionLimit
  un : A.units + 16 * k + 200 < cLine
theorem Room.mono {j k : Nat} {A : Around} (r : Room k A) (h : j ≤ k) : Room j A := ⟨r.hd, by have := r.dp; omega, by have := r.un; omega⟩
theorem Room.deeper {k : Nat} {A : Around} (r : Room (k + 1) A) (env : Env) : Room k (A.deeper env) :=
  ⟨r.hd, by have := r.dp; show A.depth + 1 + 3 * k + 5 < _; omega, by have := r.un; show A.units + 3 + 16 * k + 200 < _; omega⟩
theorem Room.in1 {k : Nat} {A : Around} (r : Room (k + 1) A) : Room k A.in1 :=
  ⟨r.hd, by have := r.dp; show A.depth + 3 * k + 5 < _; omega, by have := r.un; show A.units + 1 + 16 * k + 200 < _; omega⟩
theorem make_depth {A : Around} {C : Addr} {us : List Value} {kw : List (Str × Value)} : (A.under (.builtin "type.__call__" ⟨.ref C :: us, kw⟩)).depth = A.depth + 1 := by
  first | rfl | simp [Around.under, Code.weight, Code.isCreation, Code.isGuard, Code.isCaller, Code.frames, Code.isFrame, guardIds]
theorem make_units {A : Around} {C : Addr} {us : List Value} {kw : List (Str × Value)} : (A.under (.builtin "type.__call__" ⟨.ref C :: us, kw⟩)).units = A.units + 1 := by
  first | rfl | simp [Around.under, Code.cUnits, Code.frames, Code.isFrame]
theorem Room.make {k : Nat} {A : Around} (r : Room (k + 1) A) (C : Addr) (us : List Value) (kw : List (Str × Value)) : Room k (A.under (.builtin "type.__call__" ⟨.ref C :: us, kw⟩)) :=
  ⟨r.hd, by have := r.dp; rw [make_depth]; omega, by have := r.un; rw [make_units]; omega⟩
theorem Room.depth {k : Nat} {A : Around} (r : Room k A) : A.depth < recursionLimit := by have := r.dp; omega
theorem Room.units {k : Nat} {A : Around} (r : Room k A) : A.units + 64 < cLine := by have := r.un; omega

def tNil : TA := fun _ H Q => Q [] H
def tCons (ta : TE) (tr : TA) : TA := fun σ H Q => ta σ H fun x H1 => tr σ H1 fun xs H2 => Q (x :: xs) H2
section
variable {X : Cx} {e : Expr} {es : List Expr} {te : TE} {t : TA} {pos : Pos}
theorem pa_nil : PA X [] tNil := fun _ _ _ _ H Q I h => Calls.spliced_nil ⟨[], H, I, .nil, h⟩
theorem pa_cons (ha : PE X e te) (hr : PA X es t) (hs : starEach (e :: es) X.env = (false, eval e X.env) :: starEach es X.env := by rfl) : PA X (e :: es) (tCons te t) := by
  intro pos pins s σ H Q I h
  rw [hs]
  show wpAny _ _ (spliced ((false, eval e X.env) :: backTo pos (starEach es X.env))) _ _ s
  refine Calls.spliced_cons (thn (ha pins s σ H _ I h) fun u s1 ⟨x, H1, I1, r1, q1⟩ => ?_)
  exact thn (hr pos pins s1 σ H1 _ I1 q1) fun us s2 ⟨xs, H2, I2, r2, q2⟩ => ⟨x :: xs, H2, I2, .cons r1 r2, q2⟩

def tTup (t : TA) : TE := fun σ H Q => t σ H fun xs H1 => xs.length ≤ sizeLine ∧ ∀ p, H1 p = none → Q (.ref p) (upd H1 p (.tup xs))
def tLst (t : TA) : TE := fun σ H Q => t σ H fun xs H1 => xs.length ≤ sizeLine ∧ ∀ p, H1 p = none → Q (.ref p) (upd H1 p (.lst xs))
theorem pe_tup {x1} (h : PA X es t) : PE X (.Tuple es x1 pos) (tTup t) := by
  intro pins s σ H Q I hq
  refine wpAny_Tuple_spliced (thn (h pos pins s σ H _ I hq) fun us s1 ⟨xs, H1, I1, r, z, q⟩ => ⟨by rw [← r.length]; exact z, ?_⟩)
  have hf : H1 s1.heap.objs.size = none := I1.hok.fresh (Nat.le_refl _)
  refine ⟨.ref s1.heap.objs.size, upd H1 s1.heap.objs.size (.tup xs), I1.laid (t' := s1.toks) (fun b u e => Heap.get?_push_of_some _ e) (Nat.le_refl _) ?_, rfl, q _ hf⟩
  exact ⟨z, us, r, ⟨_, Heap.get?_push_size _ rfl, rfl, _, rfl⟩⟩
theorem pe_lst (h : PA X es t) : PE X (.List es pos) (tLst t) := by
  intro pins s σ H Q I hq
  refine wpAny_List_spliced (thn (h pos pins s σ H _ I hq) fun us s1 ⟨xs, H1, I1, r, z, q⟩ => ⟨by rw [← r.length]; exact z, ?_⟩)
  have hf : H1 s1.heap.objs.size = none := I1.hok.fresh (Nat.le_refl _)
  refine ⟨.ref s1.heap.objs.size, upd H1 s1.heap.objs.size (.lst xs), I1.laid (t' := s1.toks) (fun b u e => Heap.get?_push_of_some _ e) (Nat.le_refl _) ?_, rfl, q _ hf⟩
  exact ⟨z, us, 0, r, Heap.get?_push_size _ rfl⟩
end

abbrev Sp := List V → Hp → VK → XK → Prop
abbrev CXT := List Env → Hp → Shared → XK → Value → Shared → Prop

structure Env0 (P : Program) (w : World) (K : PySem.W.Frag) (mg : Str → Option Value) (base : Heap) (A : Around) (outer : List Env) (s : Shared) (H : Hp) : Prop where
  frames : A.frames = some outer
  mod : Mod K mg base
  bs : ∀ b o, base.get? b = some o → s.heap.get? b = some o ∧ H b = none
  bsz : base.objs.size ≤ s.heap.objs.size
  funs : s.heap.FunFrames base outer
  frf : ∀ b ∈ frs outer, H b = none
  hok : HOk P w H s.heap
  bare : AllBare s.gens
def CE (outer : List Env) (P : Program) (w : World) (H : Hp) (s : Shared) (Q : VK) (u : Value) (s' : Shared) : Prop :=
  ∃ v H', s'.os = s.os ∧ AllBare s'.gens ∧ Un (frs outer) [] H H' s.heap s'.heap ∧ HOk P w H' s'.heap ∧ RelV v u ∧ Q v H'
def CR (CX : CXT) (outer : List Env) (P : Program) (w : World) (H : Hp) (s : Shared) (Q : VK) (E : XK) (r : Result) (s' : Shared) : Prop :=
  match r with
  | .ok (.ret u) => CE outer P w H s Q u s'
  | .ok _ => False
  | .error e => CX outer H s E e s'
structure FnOk (P : Program) (w : World) (K : PySem.W.Frag) (mg : Str → Option Value) (base : Heap) (CX : CXT) (k : Nat) (f : Addr) (fd : FuncData) (ps : List Str) (sp : Sp) : Prop where
  len : ∀ vs H Q E, sp vs H Q E → vs.length = ps.length
  run : ∀ (A : Around) (outer : List Env) (s : Shared) (H : Hp) (args : Args) (us : List Value) (vs : List V) (Q : VK) (E : XK), Room k A → Env0 P w K mg base A outer s H → BindsTo s fd args (ps.zip us) → Vals vs us → sp vs H Q E →
    codeAny (model P w) A (.call (.ref f) args) (CR CX outer P w H s Q E) s
theorem FnOk.mono {P : Program} {w : World} {K : PySem.W.Frag} {mg : Str → Option Value} {base : Heap} {CX : CXT} {j k : Nat} {f : Addr} {fd : FuncData} {ps : List Str} {sp : Sp} (F : FnOk P w K mg base CX j f fd ps sp) (h : j ≤ k) :
    FnOk P w K mg base CX k f fd ps sp := ⟨F.len, fun A outer s H args us vs Q E hr => F.run A outer s H args us vs Q E (hr.mono h)⟩
theorem FnOk.imp {P : Program} {w : World} {K : PySem.W.Frag} {mg : Str → Option Value} {base : Heap} {CX : CXT} {k : Nat} {f : Addr} {fd : FuncData} {ps : List Str} {sp sp' : Sp} (F : FnOk P w K mg base CX k f fd ps sp)
    (h : ∀ vs H Q E, sp' vs H Q E → sp vs H Q E) : FnOk P w K mg base CX k f fd ps sp' :=
  ⟨fun vs H Q E q => F.len vs H Q E (h _ _ _ _ q), fun A outer s H args us vs Q E hr he hb hv hs => F.run A outer s H args us vs Q E hr he hb hv (h _ _ _ _ hs)⟩

theorem Env0.make {P : Program} {w : World} {K : PySem.W.Frag} {mg : Str → Option Value} {base : Heap} {A : Around} {outer : List Env} {s : Shared} {H : Hp} (e : Env0 P w K mg base A outer s H) (C : Addr) (us : List Value) (kw : List (Str × Value)) :
    Env0 P w K mg base (A.under (.builtin "type.__call__" ⟨.ref C :: us, kw⟩)) outer s H := ⟨by first | exact e.frames | (simpa [Around.under, Code.envs, Code.isFrame, pushEnvs] using e.frames), e.mod, e.bs, e.bsz, e.funs, e.frf, e.hok, e.bare⟩
theorem Env0.in1 {P : Program} {w : World} {K : PySem.W.Frag} {mg : Str → Option Value} {base : Heap} {A : Around} {outer : List Env} {s : Shared} {H : Hp} (e : Env0 P w K mg base A outer s H) :
    Env0 P w K mg base A.in1 outer s H := ⟨e.frames, e.mod, e.bs, e.bsz, e.funs, e.frf, e.hok, e.bare⟩

section
variable {X : Cx} {pins : List (Addr × Obj)} {σ : St} {H : Hp} {s s' : Shared}
theorem Inv.env0 (I : Inv X pins σ H s) : Env0 X.prog X.w X.K X.mg X.base X.A X.stack s H :=
  ⟨I.ok.frames, I.ok.mod, I.bs, Nat.le_trans I.ok.bsz I.sz, I.stack, I.stkFree, I.hok, I.bare⟩
theorem Inv.after {Q : VK} {u : Value} (I : Inv X pins σ H s) (h : CE X.stack X.prog X.w H s Q u s') : EP X pins σ Q u s' := by
  obtain ⟨v, H', os, bare, un, hok, r, q⟩ := h
  obtain ⟨hh, g, d, t, os'⟩ := s'
  obtain rfl : os' = s.os := os
  exact ⟨v, H', I.call (h' := hh) (g' := g) (d' := d) (t' := t) (ch := []) un hok bare (fun b z => absurd z (by simp)), r, q⟩
end

def tCall (sp : Sp) (dvs : List V) (E : XK) (t : TA) : TE := fun σ H Q => t σ H fun vs H1 => sp (vs ++ dvs) H1 Q E
def tMeth (C : Addr) (m : Str) (sp : Sp) (dvs : List V) (E : XK) (ta : TE) (t : TA) : TE := fun σ H Q => ta σ H fun x H1 => ∃ a dx fs, x = .ref a ∧ H1 a = some (.ins C dx fs) ∧ fs.lookup m = none ∧
  t σ H1 fun vs H2 => sp (x :: (vs ++ dvs)) H2 Q E
def tMake (C : Addr) (sp : Sp) (dvs : List V) (E : XK) (t : TA) : TE := fun σ H Q => t σ H fun vs H1 => ∀ x dx, H1 x = none → H1 dx = none → dx ≠ x →
  sp (.ref x :: (vs ++ dvs)) (upd (upd H1 dx (.own x)) x (.ins C dx [])) (fun v H2 => v = .non ∧ Q (.ref x) H2) E

def Binds (K : PySem.W.Frag) (fd : FuncData) (ps : List Str) (ds : List Value) : Prop :=
  ∀ (s : Shared) (us : List Value), K.In s.heap → (us ++ ds).length = ps.length → BindsTo s fd ⟨us, []⟩ (ps.zip (us ++ ds))
theorem Binds.all {K : PySem.W.Frag} {fd : FuncData} {ps : List Str} (h : ∀ us : List Value, us.length = ps.length → bindArgs fd ⟨us, []⟩ = pure (ps.zip us)) : Binds K fd ps [] := fun s us _ hl => by
  rw [List.append_nil] at hl ⊢
  exact .of_eq (h us hl)

def Passes (CX : CXT) (X : Cx) (E : XK) : Prop := ∀ (pins : List (Addr × Obj)) (σ : St) (H : Hp) (s : Shared) (e : Value) (s' : Shared), Inv X pins σ H s → CX X.stack H s E e s' → X.xe e s'

section
variable {X : Cx} {CX : CXT} {k : Nat} {f C : Addr} {fd : FuncData} {ps : List Str} {sp : Sp} {dvs : List V} {ds : List Value} {E : XK} {x m : Str} {p pos apos : Pos} {e o : Expr} {es : List Expr} {ta : TE} {t : TA}

theorem run_fn {pins : List (Addr × Obj)} {σ : St} {H : Hp} {s : Shared} {Q : VK} {us : List Value} {vs : List V} (F : FnOk X.prog X.w X.K X.mg X.base CX k f fd ps sp) (hr : Room k X.A) (hb : Binds X.K fd ps ds) (hd : Vals dvs ds) (hx : Passes CX X E)
    (I : Inv X pins σ H s) (r : Vals vs us) (h : sp (vs ++ dvs) H Q E) : wpAny (model X.prog X.w) X.A (call (.ref f) us) (EP X pins σ Q) X.xe s := by
  have r2 : Vals (vs ++ dvs) (us ++ ds) := r.append hd
  have hl : (us ++ ds).length = ps.length := by rw [← r2.length]; exact F.len _ _ _ _ h
  refine wpAny_call (codeAny_mono (F.run X.A X.stack s H ⟨us, []⟩ (us ++ ds) (vs ++ dvs) Q E hr I.env0 (hb s us I.kIn hl) r2 h) fun r s' hq => ?_)
  cases r with
  | error e => exact hx pins σ H s e s' I hq
  | ok fl =>
    cases fl with
    | ret u => exact I.after hq
    | next => exact False.elim hq
    | brk => exact False.elim hq
    | cont => exact False.elim hq

theorem pe_call (F : FnOk X.prog X.w X.K X.mg X.base CX k f fd ps sp) (hr : Room k X.A) (hg : Gl X x) (hm : X.mg x = some (.ref f)) (hk : PySem.W.keepIn X.K (.ref f) = true) (hb : Binds X.K fd ps ds) (hd : Vals dvs ds) (hx : Passes CX X E)
    (ha : PA X (e :: es) t) (hdb : (x == ("__debug__" : Str)) = false := by decide) (he : starEach (e :: es) X.env = (false, eval e X.env) :: starEach es X.env := by rfl) (hpl : (backTo pos (starEach es X.env)).any (·.1) = false := by rfl) :
    PE X (.Call (.Name x p) (e :: es) [] pos) (tCall sp dvs E t) := by
  intro pins s σ H Q I h
  refine wpAny_Call_Name_kw (ld_glob I hg hm ?_ hdb)
  refine PySem.W.callWith_K (h₀ := X.base) I.ok.mod.kin hk (thn (ha pos pins s σ H _ I h) fun us s1 ⟨vs, H1, I1, r, q⟩ => ⟨I1.kIn, ?_⟩) he hpl
  exact run_fn F hr hb hd hx I1 r q

theorem pe_meth {pl : Sem Bool} (he : PE X o ta) (c : Cls X.K C) (hm : Meth X.K C m f) (F : FnOk X.prog X.w X.K X.mg X.base CX k f fd ps sp) (hr : Room k X.A) (hb : Binds X.K fd ps ds) (hd : Vals dvs ds) (hx : Passes CX X E) (ha : PA X (e :: es) t)
    (hst : starEach (e :: es) X.env = (false, eval e X.env) :: starEach es X.env := by rfl) (hpl : (backTo pos (starEach es X.env)).any (·.1) = false := by rfl)
    (ht : eval (.Call (.Attribute o m apos) (e :: es) [] pos) X.env = (do
      let ov ← eval o X.env
      standAt apos.atName
      let (f, first) ← holding [ov] (getMethod ov m pl)
      callWith pos f first (backTo pos (starEach (e :: es) X.env)) (backToKw pos (keywordEach [] X.env))) := by rfl) :
    PE X (.Call (.Attribute o m apos) (e :: es) [] pos) (tMeth C m sp dvs E ta t) := by
  intro pins s σ H Q I h
  refine PySem.W.methodCall_KW (pl := pl) (thn (he pins s σ H _ I h) fun u s1 ⟨x, H1, I1, rx, a, dx, fs, ex, ea, l, q⟩ => ?_) ht
  subst ex
  obtain rfl : u = Value.ref a := rx
  refine getmeth_ok I1 ea c hm l ?_
  refine PySem.W.callWith_K (first := [.ref a]) (h₀ := X.base) I.ok.mod.kin hm.kp (thn (ha pos pins s1 σ H1 _ I1 q) fun us s2 ⟨vs, H2, I2, r, q2⟩ => ⟨I2.kIn, ?_⟩) hst hpl
  exact run_fn (us := .ref a :: us) (vs := .ref a :: vs) F hr hb hd hx I2 (.cons rfl r) q2
theorem pe_meth0 {pl : Sem Bool} (he : PE X o ta) (c : Cls X.K C) (hm : Meth X.K C m f) (F : FnOk X.prog X.w X.K X.mg X.base CX k f fd ps sp) (hr : Room k X.A) (hb : Binds X.K fd ps ds) (hd : Vals dvs ds) (hx : Passes CX X E)
    (ht : eval (.Call (.Attribute o m apos) [] [] pos) X.env = (do
      let ov ← eval o X.env
      standAt apos.atName
      let (f, first) ← holding [ov] (getMethod ov m pl)
      callWith pos f first (backTo pos (starEach [] X.env)) (backToKw pos (keywordEach [] X.env))) := by rfl) :
    PE X (.Call (.Attribute o m apos) [] [] pos) (tMeth C m sp dvs E ta tNil) := by
  intro pins s σ H Q I h
  refine PySem.W.methodCall_KW (pl := pl) (thn (he pins s σ H _ I h) fun u s1 ⟨x, H1, I1, rx, a, dx, fs, ex, ea, l, q⟩ => ?_) ht
  subst ex
  obtain rfl : u = Value.ref a := rx
  refine getmeth_ok I1 ea c hm l ?_
  exact PySem.W.callWith_K0 (first := [.ref a]) I1.kIn hm.kp (run_fn (us := [.ref a]) (vs := [.ref a]) F hr hb hd hx I1 (.cons rfl .nil) q)

structure Mk (K : PySem.W.Frag) (C f : Addr) : Prop where
  makes : PySem.W.makesIn K C = true
  init : PySem.W.findIn K (.ref C) "__init__" = some (some (.ref f))
  fn : PySem.W.isFn K (.ref f) = true
  kp : PySem.W.keepIn K (.ref C) = true

theorem run_make {pins : List (Addr × Obj)} {σ : St} {H : Hp} {s : Shared} {Q : VK} {us : List Value} {vs : List V} (M : Mk X.K C f) (F : FnOk X.prog X.w X.K X.mg X.base CX k f fd ps sp) (hr : Room (k + 1) X.A) (hb : Binds X.K fd ps ds) (hd : Vals dvs ds)
    (hx : Passes CX X E) (I : Inv X pins σ H s) (r : Vals vs us)
    (h : ∀ x dx, H x = none → H dx = none → dx ≠ x → sp (.ref x :: (vs ++ dvs)) (upd (upd H dx (.own x)) x (.ins C dx [])) (fun v H2 => v = .non ∧ Q (.ref x) H2) E) :
    wpAny (model X.prog X.w) X.A (call (.ref C) us) (EP X pins σ Q) X.xe s := by
  have hq := h (s.heap.objs.size + 1) s.heap.objs.size (I.hok.fresh (Nat.le_succ _)) (I.hok.fresh (Nat.le_refl _)) (Nat.ne_of_lt (Nat.lt_succ_self _))
  have I2 := Inv.made (C := C) I
  have r2 : Vals (V.ref (s.heap.objs.size + 1) :: (vs ++ dvs)) (Value.ref (s.heap.objs.size + 1) :: (us ++ ds)) := .cons rfl (r.append hd)
  have hl : (Value.ref (s.heap.objs.size + 1) :: us ++ ds).length = ps.length := by
    have e := r2.length
    rw [F.len _ _ _ _ hq] at e
    exact e.symm
  refine wpAny_call (make_map (f := f) I.kIn M.makes M.init (beq_iff_eq.mp M.fn) (codeAny_mono (F.run _ X.stack _ _ ⟨Value.ref (s.heap.objs.size + 1) :: us, []⟩ (Value.ref (s.heap.objs.size + 1) :: (us ++ ds)) _ _ E (hr.make C us [])
    (I2.env0.make C us []) (hb _ (Value.ref (s.heap.objs.size + 1) :: us) I2.kIn hl) r2 hq) fun r s' hq' => ?_))
  cases r with
  | error e => exact hx pins σ _ _ e s' I2 hq'
  | ok fl =>
    cases fl with
    | ret u =>
      obtain ⟨v, H', I3, rv, ev, q3⟩ := I2.after hq'
      subst ev
      exact ⟨rv, ⟨V.ref (s.heap.objs.size + 1), H', I3, rfl, q3⟩⟩
    | next => exact False.elim hq'
    | brk => exact False.elim hq'
    | cont => exact False.elim hq'
theorem pe_make (M : Mk X.K C f) (F : FnOk X.prog X.w X.K X.mg X.base CX k f fd ps sp) (hr : Room (k + 1) X.A) (hg : Gl X x) (hm : X.mg x = some (.ref C)) (hb : Binds X.K fd ps ds) (hd : Vals dvs ds) (hx : Passes CX X E)
    (ha : PA X (e :: es) t) (hdb : (x == ("__debug__" : Str)) = false := by decide) (he : starEach (e :: es) X.env = (false, eval e X.env) :: starEach es X.env := by rfl) (hpl : (backTo pos (starEach es X.env)).any (·.1) = false := by rfl) :
    PE X (.Call (.Name x p) (e :: es) [] pos) (tMake C sp dvs E t) := by
  intro pins s σ H Q I h
  refine wpAny_Call_Name_kw (ld_glob I hg hm ?_ hdb)
  refine PySem.W.callWith_K (h₀ := X.base) I.ok.mod.kin M.kp (thn (ha pos pins s σ H _ I h) fun us s1 ⟨vs, H1, I1, r, q⟩ => ⟨I1.kIn, ?_⟩) he hpl
  exact run_make M F hr hb hd hx I1 r q
end

section
variable {X : Cx} {CX : CXT} {k : Nat} {f C : Addr} {fd : FuncData} {ps ks : List Str} {sp : Sp} {E : XK} {x m : Str} {p pos apos kpos : Pos} {e o : Expr} {es : List Expr} {kws : List Keyword} {te ta : TE} {t tk : TA} {nm : Option Str}

structure KBinds (K : PySem.W.Frag) (fd : FuncData) (ps ks : List Str) (g : List Value → List Value → List Value) (gV : List V → List V → List V) : Prop where
  to : ∀ (s : Shared) (us ws : List Value), K.In s.heap → (g us ws).length = ps.length → BindsTo s fd ⟨us, ks.zip ws⟩ (ps.zip (g us ws))
  rel : ∀ {vs : List V} {us : List Value} {zs : List V} {ws : List Value}, Vals vs us → Vals zs ws → Vals (gV vs zs) (g us ws)
variable {g : List Value → List Value → List Value} {gV : List V → List V → List V}
end

structure FnScope (N P : List Str) (sc : Scope) : Prop where
  kind : sc.kind = .function
  co : sc.isCoroutine = false
  gen : sc.isGenerator = false
  nd : N.Nodup
  pre : N.take P.length = P
  par : ∀ x ∈ P, sc.names.lookup x = some .local ∨ sc.names.lookup x = some .cell
  nofree : ∀ y ∈ sc.names, y.2 ≠ .free

theorem bindL_out {kindOf : Str → Option NameKind} {x : Str} : ∀ {binds : List (Str × Value)} {m : Str → Option Value}, (∀ v, (x, v) ∉ binds) → bindL kindOf binds m x = m x
  | [], _, _ => rfl
  | (n, v) :: r, m, h => by
    unfold bindL
    rw [bindL_out fun w hw => h w (List.mem_cons_of_mem _ hw)]
    split
    · have : x ≠ n := by rintro rfl; exact h v List.mem_cons_self
      simp [this]
    · rfl
theorem bindC_out {kindOf : Str → Option NameKind} {x : Str} : ∀ {binds : List (Str × Value)} {m : Str → Option Value}, (∀ v, (x, v) ∉ binds) → bindC kindOf binds m x = m x
  | [], _, _ => rfl
  | (n, v) :: r, m, h => by
    unfold bindC
    rw [bindC_out fun w hw => h w (List.mem_cons_of_mem _ hw)]
    split
    · rfl
    · have : x ≠ n := by rintro rfl; exact h v List.mem_cons_self
      simp [this]
theorem bindL_get {kindOf : Str → Option NameKind} {x : Str} {v : Value} : ∀ {P : List Str} {vs : List Value} {i : Nat} {m : Str → Option Value}, P.Nodup → P[i]? = some x → vs[i]? = some v → kindOf x = some .local →
    bindL kindOf (P.zip vs) m x = some v
  | [], _, _, _, _, h, _, _ => by simp at h
  | _ :: _, [], _, _, _, _, h, _ => by simp at h
  | p :: P, w :: vs, 0, m, nd, h1, h2, hk => by
    simp at h1 h2; subst h1; subst h2
    show bindL kindOf ((p, w) :: P.zip vs) m p = _
    unfold bindL
    rw [bindL_out fun v hv => (List.nodup_cons.mp nd).1 (List.of_mem_zip hv).1, if_pos hk]
    simp
  | p :: P, w :: vs, i + 1, m, nd, h1, h2, hk => by
    show bindL kindOf ((p, w) :: P.zip vs) m x = _
    unfold bindL
    exact bindL_get (i := i) (List.nodup_cons.mp nd).2 (by simpa using h1) (by simpa using h2) hk
theorem bindC_get {kindOf : Str → Option NameKind} {x : Str} {v : Value} : ∀ {P : List Str} {vs : List Value} {i : Nat} {m : Str → Option Value}, P.Nodup → P[i]? = some x → vs[i]? = some v → kindOf x ≠ some .local →
    bindC kindOf (P.zip vs) m x = some v
  | [], _, _, _, _, h, _, _ => by simp at h
  | _ :: _, [], _, _, _, _, h, _ => by simp at h
  | p :: P, w :: vs, 0, m, nd, h1, h2, hk => by
    simp at h1 h2; subst h1; subst h2
    show bindC kindOf ((p, w) :: P.zip vs) m p = _
    unfold bindC
    rw [bindC_out fun v hv => (List.nodup_cons.mp nd).1 (List.of_mem_zip hv).1, if_neg hk]
    simp
  | p :: P, w :: vs, i + 1, m, nd, h1, h2, hk => by
    show bindC kindOf ((p, w) :: P.zip vs) m x = _
    unfold bindC
    exact bindC_get (i := i) (List.nodup_cons.mp nd).2 (by simpa using h1) (by simpa using h2) hk

def start (N : List Str) (vs : List V) : St := vs.map some ++ List.replicate (N.length - vs.length) none

def cxOf (CX : CXT) (P : Program) (w : World) (K : PySem.W.Frag) (mg : Str → Option Value) (base : Heap) (N : List Str) (qual : Str) (scope : Scope) (f : Addr) (cd : Value) (A : Around) (outer : List Env) (s : Shared) (H : Hp) (E : XK) : Cx where
  prog := P
  w := w
  K := K
  mg := mg
  base := base
  A := A.deeper (envOfC qual scope s.heap.objs.size f cd)
  N := N
  s₀ := s
  H₀ := H
  env := envOfC qual scope s.heap.objs.size f cd
  outer := outer
  stack := envOfC qual scope s.heap.objs.size f cd :: outer
  ex := []
  calm := true
  fn := fun _ => true
  pn := []
  xe := fun e s' => wpAny (model P w) (A.deeper (envOfC qual scope s.heap.objs.size f cd)) (leaving (envOfC qual scope s.heap.objs.size f cd) e) (fun _ s'' => CX outer H s E e s'') (fun e' s'' => CX outer H s E e' s'') s'

theorem cell_has {sc : Scope} {n : Nat} {x : Str} (h : sc.names.lookup x = some .cell) : ∃ c, (cellsFrom n sc.names []).lookup x = some c := by
  have q := PySem.W.cellsFrom_some sc.names n [] (.inl h)
  exact Option.isSome_iff_exists.mp q

theorem inv_start {CX : CXT} {P : Program} {w : World} {K : PySem.W.Frag} {mg : Str → Option Value} {base : Heap} {N ps : List Str} {qual : Str} {scope : Scope} {f : Addr} {cd : Value} {A : Around} {outer : List Env} {s s1 : Shared} {H : Hp} {E : XK} {us : List Value} {vs : List V}
    (S : FnScope N ps scope) (hd : A.handled = none) (e0 : Env0 P w K mg base A outer s H) (hl : vs.length = ps.length) (r : Vals vs us)
    (x : InCallC s s.heap.objs.size (bindL (envOfC qual scope s.heap.objs.size f cd).kindOf (ps.zip us) fun _ => none) (cellsFrom (s.heap.objs.size + 1) scope.names []) (bindC (envOfC qual scope s.heap.objs.size f cd).kindOf (ps.zip us) fun _ => none) s1) :
    Inv (cxOf CX P w K mg base N qual scope f cd A outer s H E) [] (start N vs) H s1 := by
  have hpl : ps.length ≤ N.length := by have := congrArg List.length S.pre; rw [List.length_take] at this; omega
  obtain ⟨h1, tk, rfl, hk⟩ := x.done
  have noA : ∀ b : Addr, b ∉ (cxOf CX P w K mg base N qual scope f cd A outer s H E).ex := fun b z => absurd (show b ∈ ([] : List Addr) from z) (by simp)
  refine ⟨⟨e0.mod, S.kind, rfl, rfl, Nat.le_refl _, fun y z c h1 h2 => ?_, fun y hy => ?_, fun y c _ h => ?_, fun _ => hd, Around.frames_deeper e0.frames, .inr ⟨rfl, rfl⟩, fun b z => absurd z (noA b), e0.bs, e0.bsz, fun b _ _ => noA b, fun b z => absurd z (noA b), e0.funs, e0.frf⟩,
    rfl, e0.bare, Un.kept hk, ⟨_, x.toInCall.ns, fun i y v h1 h2 h3 => ?_⟩, fun y c h => ⟨_, x.cell y c h⟩, e0.hok.fresh (Nat.le_refl _), fun y c h => ?_, fun p hp => absurd (show p ∈ ([] : List (Addr × Obj)) from hp) (by simp), e0.hok.kept hk, ?_⟩
  · exact name_of_addr x.apart (PySem.mem_of_lookup h1) (PySem.mem_of_lookup h2)
  · have hy : scope.names.lookup y = some .cell ∨ scope.names.lookup y = some .free := hy
    rcases hy with hy | hy
    · exact cell_has hy
    · exact absurd rfl (S.nofree _ (PySem.mem_of_lookup hy))
  · exact Nat.le_of_lt (x.above y c (PySem.mem_of_lookup h))
  · have hi : i < vs.length := by
      unfold start at h2
      by_cases hi : i < vs.length
      · exact hi
      · rw [List.getElem?_append_right (by simpa using hi)] at h2
        rw [List.getElem?_replicate] at h2
        split at h2 <;> cases h2
    have ha : vs[i]? = some v := by
      unfold start at h2
      rw [List.getElem?_append_left (by simpa using hi), List.getElem?_map] at h2
      cases e : vs[i]? with
      | none => rw [e] at h2; cases h2
      | some a => rw [e] at h2; cases h2; rfl
    obtain ⟨u, hu, rv⟩ := r.get ha
    have hp : ps[i]? = some y := by
      rw [← S.pre, List.getElem?_take_of_lt (by omega)]; exact h1
    have ndP : ps.Nodup := by rw [← S.pre]; exact S.nd.sublist (List.take_sublist _ _)
    refine ⟨u, rv, ?_⟩
    rcases S.par y (List.mem_of_getElem? hp) with k | k
    · exact .inl ⟨k, bindL_get ndP hp hu k⟩
    · obtain ⟨c, e⟩ := cell_has (n := s.heap.objs.size + 1) k
      refine .inr ⟨.inl k, c, e, ?_⟩
      have q := x.cell y c e
      rw [bindC_get ndP hp hu (by show scope.names.lookup y ≠ _; rw [k]; decide)] at q
      exact q
  · exact e0.hok.fresh (Nat.le_of_lt (x.above y c (PySem.mem_of_lookup h)))
  · unfold start
    show _ = N.length
    rw [List.length_append, List.length_map, List.length_replicate]
    omega

theorem fn_of {CX : CXT} {P : Program} {w : World} {K : PySem.W.Frag} {mg : Str → Option Value} {base : Heap} {k : Nat} {f : Addr} {name qual : Str} {params : Arguments} {body : List Stmt} {scope : Scope} {dV kV doc pm cdv ct oc : Value} {an od : Option Addr}
    {osl : Array (Option Value)} {N ps : List Str} {sp : Sp} (lk : K.lookup f = some ⟨oc, od, .func (PySem.W.fnOf name qual params body scope dV kV doc pm an cdv ct), osl⟩) (hcd : PySem.W.codeIn K cdv qual = true) (S : FnScope N ps scope)
    (len : ∀ vs H Q E, sp vs H Q E → vs.length = ps.length)
    (hbody : ∀ (A : Around) (outer : List Env) (s : Shared) (H : Hp) (vs : List V) (Q : VK) (E : XK), Room k (A.deeper (envOfC qual scope s.heap.objs.size f cdv)) → sp vs H Q E →
      ∃ t, PSs (cxOf CX P w K mg base N qual scope f cdv A outer s H E) body t ∧ t { nx := fun _ H' => Q .non H', rt := Q } (start N vs) H) :
    FnOk P w K mg base CX (k + 1) f (PySem.W.fnOf name qual params body scope dV kV doc pm an cdv ct) ps sp := by
  refine ⟨len, fun A outer s H args us vs Q E hr e0 hb r hsp => ?_⟩
  have hl := len _ _ _ _ hsp
  have KX : K.In s.heap := e0.mod.kin.keeps fun b o e => (e0.bs b o e).1
  have lim : s.heap.NoLimit := e0.mod.nolimit.keeps fun b o e => (e0.bs b o e).1
  have hkind : ∀ y ∈ ps.zip us, scope.names.lookup y.1 = some .local ∨ (scope.names.lookup y.1 = some .cell ∧ ((cellsFrom (s.heap.objs.size + 1) scope.names []).lookup y.1).isSome = true) := fun ⟨n, v⟩ hy => by
    rcases S.par n (List.of_mem_zip hy).1 with q | q
    · exact .inl q
    · exact .inr ⟨q, PySem.W.cellsFrom_some _ _ _ (.inl q)⟩
  refine codeAny_call_function hr.depth (KX _ _ lk) rfl S.co S.gen rfl (PySem.W.codeRec_of KX hcd) (hb _ _ _ _ ?_)
  refine wpAny_newFunctionEnv_cells S.kind hkind fun env he s1 x => ?_
  subst he
  refine ⟨lim.keeps x.toInCall.keep, codeAny_func ?_⟩
  obtain ⟨t, ht, hq⟩ := hbody A outer s H vs Q E (hr.deeper _) hsp
  have I : Inv (cxOf CX P w K mg base N qual scope f cdv A outer s H E) [] (start N vs) H s1 := inv_start S hr.hd e0 hl r x
  refine wpAny_mono (ht [] s1 (start N vs) H _ I hq) (fun fl s' hs => ?_) fun e s' hs => hs
  have fin : ∀ {σ' : St} {H' : Hp} {v : V} {u : Value}, Inv (cxOf CX P w K mg base N qual scope f cdv A outer s H E) [] σ' H' s' → RelV v u → Q v H' → CE outer P w H s Q u s' :=
    fun {σ' H' v u} J rv q => ⟨v, H', J.os, J.bare, J.base, J.hok, rv, q⟩
  cases fl with
  | ret u =>
    obtain ⟨v, σ', H', J, rv, q⟩ := hs
    exact fin J rv q
  | next =>
    obtain ⟨σ', H', J, q⟩ := hs
    exact fin (v := V.non) (u := Value.none) J rfl q
  | brk =>
    obtain ⟨_, _, _, q⟩ := hs
    exact False.elim q
  | cont =>
    obtain ⟨_, _, _, q⟩ := hs
    exact False.elim q
end L2

namespace L2
open PySem PySem.Spec PyProof.Rows
section
variable {X : Cx} {x : Str} {p pos : Pos} {e : Expr} {es : List Expr} {t : TA} {id T : String} {r : List V → Hp → VK → Prop}

def tCB (r : List V → Hp → VK → Prop) (t : TA) : TE := fun σ H Q => t σ H fun vs H1 => r vs H1 Q
theorem pe_callB (hc : CallR X (.builtin id) r) (hg : Gl X x) (hm : X.mg x = none) (hv : bootBuiltins x = some (.builtin id)) (ha : PA X (e :: es) t) (hn : x ≠ "__name__" := by decide) (hdb : (x == ("__debug__" : Str)) = false := by decide)
    (he : starEach (e :: es) X.env = (false, eval e X.env) :: starEach es X.env := by rfl) (hpl : (backTo pos (starEach es X.env)).any (·.1) = false := by rfl) : PE X (.Call (.Name x p) (e :: es) [] pos) (tCB r t) := by
  intro pins s σ H Q I h
  refine wpAny_Call_Name_kw (ld_blt I hg hm hv ?_ hn hdb)
  exact PyProof.Rows.callWith_builtin1 (thn (ha pos pins s σ H _ I h) fun us s1 ⟨vs, H1, I1, r1, q1⟩ => hc pins s1 σ H1 vs us Q I1 r1 q1) he hpl
theorem pe_callTy (hc : CallR X (.type T) r) (hg : Gl X x) (hm : X.mg x = none) (hv : bootBuiltins x = some (.type T)) (ha : PA X (e :: es) t) (hn : x ≠ "__name__" := by decide) (hdb : (x == ("__debug__" : Str)) = false := by decide)
    (he : starEach (e :: es) X.env = (false, eval e X.env) :: starEach es X.env := by rfl) (hpl : (backTo pos (starEach es X.env)).any (·.1) = false := by rfl) : PE X (.Call (.Name x p) (e :: es) [] pos) (tCB r t) := by
  intro pins s σ H Q I h
  refine wpAny_Call_Name_kw (ld_blt I hg hm hv ?_ hn hdb)
  exact PyProof.Rows.callWith_type1 (thn (ha pos pins s σ H _ I h) fun us s1 ⟨vs, H1, I1, r1, q1⟩ => hc pins s1 σ H1 vs us Q I1 r1 q1) he hpl
end
end L2

namespace HT
open PySem PyProof.Rows



section
open PySem.SeqAt
open PySem.AutoSeq1 (wpAny_loadPart')
open PySem.MeetsSeq PySem.MeetsSeq2 PySem.MeetsSeq3

end

section
variable {prog : Program} {w : World} {A : Around} {E : Value → Shared → Prop} {s : Shared}



def sIx (n d : Nat) : Option Int → Nat
  | none => d
  | some v => if v < 0 then (v + (n : Int)).toNat else min v.toNat n
theorem sIx_none (n d : Nat) : sIx n d none = d := rfl
theorem sIx_nat (n d k : Nat) : sIx n d (some (k : Int)) = min k n := by
  show (if (k : Int) < 0 then ((k : Int) + (n : Int)).toNat else min (k : Int).toNat n) = min k n
  rw [if_neg (by omega), Int.toNat_natCast]

end
end HT

namespace L2
open PySem PySem.Spec PyProof.Rows

abbrev TO := St → Hp → (Option Int → Hp → Prop) → Prop
def PO (X : Cx) (e : Option Expr) (t : TO) : Prop :=
  ∀ (pins : List (Addr × Obj)) (s : Shared) (σ : St) (H : Hp) (Q : Option Int → Hp → Prop), Inv X pins σ H s → t σ H Q →
    wpAny (model X.prog X.w) X.A (evalPart e X.env) (fun u s' => ∃ o H', Inv X pins σ H' s' ∧ IsPart u o ∧ Q o H') X.xe s
def tNoPart : TO := fun _ H Q => Q none H
def tPart (t : TE) : TO := fun σ H Q => t σ H fun x H1 => ∃ i, x = .int i ∧ Q (some i) H1


section
variable {X : Cx} {e : Expr} {te : TE} {lo hi : Option Expr} {tl th : TO} {pos p2 : Pos}

theorem po_none : PO X none tNoPart := by
  intro pins s σ H Q I h
  rw [evalPart_none]
  exact wpAny_pure ⟨none, H, I, .none, h⟩
theorem po_some (h : PE X e te) : PO X (some e) (tPart te) := by
  intro pins s σ H Q I hw
  rw [evalPart_some]
  refine thn (h pins s σ H _ I hw) fun u s1 ⟨x, H1, I1, r1, q1⟩ => ?_
  obtain ⟨i, rfl, q⟩ := q1
  obtain ⟨t, rfl⟩ := r1
  exact ⟨some i, H1, I1, .int i t, q⟩

def SlR (X : Cx) (r : V → Option Int → Option Int → Hp → VK → Prop) : Prop :=
  ∀ (pins : List (Addr × Obj)) (s : Shared) (σ : St) (H : Hp) (x : V) (v vl vu : Value) (lo hi : Option Int) (sl : Addr) (Q : VK), Inv X pins σ H s → RelV x v → s.heap.IsSliceOf sl vl vu .none → IsPart vl lo → IsPart vu hi → r x lo hi H Q →
    ∃ T id, typeLookup (.type T) "__getitem__" = pure (some (.builtin id)) ∧ s.TypeIs v T ∧ wpAny (model X.prog X.w) X.A (getItem v (.ref sl)) (EP X pins σ Q) X.xe s
theorem SlR.or {r r' : V → Option Int → Option Int → Hp → VK → Prop} (h : SlR X r) (h' : SlR X r') : SlR X (fun x lo hi H Q => r x lo hi H Q ∨ r' x lo hi H Q) := by
  intro pins s σ H x v vl vu lo hi sl Q I rx hs pl pu q
  rcases q with q | q
  · exact h pins s σ H x v vl vu lo hi sl Q I rx hs pl pu q
  · exact h' pins s σ H x v vl vu lo hi sl Q I rx hs pl pu q
def tSl (r : V → Option Int → Option Int → Hp → VK → Prop) (te : TE) (tl th : TO) : TE := fun σ H Q => te σ H fun x H1 => tl σ H1 fun l H2 => th σ H2 fun u H3 => r x l u H3 Q
theorem pe_slice {r : V → Option Int → Option Int → Hp → VK → Prop} (hr : SlR X r) (he : PE X e te) (hl : PO X lo tl) (hu : PO X hi th) : PE X (.Subscript e (.Slice lo hi none p2) pos) (tSl r te tl th) := by
  intro pins s σ H Q I h
  refine Subscript_ (thn (he pins s σ H _ I h) fun v s1 ⟨x, H1, I1, r1, q1⟩ => ?_)
  refine wpAny_Slice (thn (hl pins s1 σ H1 _ I1 q1) fun vl s2 ⟨l, H2, I2, pl, q2⟩ => thn (hu pins s2 σ H2 _ I2 q2) fun vu s3 ⟨u, H3, I3, pu, q3⟩ => ?_)
  rw [evalPart_none]
  refine wpAny_pure ?_
  have I4 : Inv X pins σ H3 { s3 with heap := s3.heap.push { cls := .type "slice", data := .fields #[vl, vu, .none] } } := I3.kept (t' := s3.toks) fun b ob q => Heap.get?_push_of_some _ q
  obtain ⟨T, id, hT, ht, hg⟩ := hr pins { s3 with heap := s3.heap.push { cls := .type "slice", data := .fields #[vl, vu, .none] } } σ H3 x v vl vu l u s3.heap.objs.size Q I4 r1 (Heap.IsSliceOf.new ..) pl pu q3
  show wpAny (model X.prog X.w) X.A (subscriptTail e (.Slice lo hi none p2) v (.ref s3.heap.objs.size)) (EP X pins σ Q) X.xe { s3 with heap := s3.heap.push { cls := .type "slice", data := .fields #[vl, vu, .none] } }
  exact tail_any (ops := [.ref s3.heap.objs.size, v]) ht hT hg (by with_unfolding_all rfl)

def cutV (xs : List V) (lo hi : Option Int) : List V := (xs.drop (HT.sIx xs.length 0 lo)).take (HT.sIx xs.length xs.length hi - HT.sIx xs.length 0 lo)
theorem cutV_length (xs : List V) (lo hi : Option Int) : (cutV xs lo hi).length ≤ xs.length := by
  unfold cutV
  rw [List.length_take, List.length_drop]
  omega

end
end L2

namespace L2
open PySem PySem.Spec PyProof.Rows

def ixN (n : Nat) (i : Int) : Option Nat := if 0 ≤ i then (if i < n then some i.toNat else none) else if -(n : Int) ≤ i then some (i + n).toNat else none
def atI {α : Type} (xs : List α) (i : Int) : Option α := (ixN xs.length i).bind fun j => xs[j]?
theorem ixN_seq {n : Nat} {i : Int} {j : Nat} (h : ixN n i = some j) : seqIndex? i n = some j ∧ j < n ∧ -(n : Int) ≤ i ∧ i < n := by
  unfold ixN at h
  by_cases h0 : 0 ≤ i
  · rw [if_pos h0] at h
    by_cases h1 : i < n
    · rw [if_pos h1] at h
      have e : i.toNat = j := Option.some.inj h
      exact ⟨by rw [seqIndex_of h0 h1, e], by omega, by omega, h1⟩
    · rw [if_neg h1] at h; cases h
  · rw [if_neg h0] at h
    by_cases h1 : -(n : Int) ≤ i
    · rw [if_pos h1] at h
      have e : (i + n).toNat = j := Option.some.inj h
      exact ⟨by rw [seqIndex_neg (by omega) h1, e], by omega, h1, by omega⟩
    · rw [if_neg h1] at h; cases h
theorem atI_get {α : Type} {xs : List α} {i : Int} {v : α} (h : atI xs i = some v) : ∃ j, seqIndex? i xs.length = some j ∧ xs[j]? = some v ∧ j < xs.length ∧ -(xs.length : Int) ≤ i ∧ i < xs.length := by
  unfold atI at h
  cases e : ixN xs.length i with
  | none => rw [e] at h; cases h
  | some j =>
    rw [e] at h
    obtain ⟨h1, h2, h3, h4⟩ := ixN_seq e
    exact ⟨j, h1, h, h2, h3, h4⟩
theorem atI_nat {α : Type} {xs : List α} {j : Nat} {v : α} (h : xs[j]? = some v) : atI xs (j : Int) = some v := by
  have hj : j < xs.length := (List.getElem?_eq_some_iff.mp h).1
  have e : ixN xs.length (j : Int) = some j := by
    unfold ixN
    rw [if_pos (by omega), if_pos (by omega)]; simp
  unfold atI; rw [e]; exact h

def PlainIx (b : Expr) : Prop := ∀ o i, subscripted b false o i = operate [o, i] (getItem o i)
def IxR (X : Cx) (r : R2) : Prop :=
  ∀ (value slice : Expr) (pins : List (Addr × Obj)) (s : Shared) (σ : St) (H : Hp) (x y : V) (v u : Value) (Q : VK), Inv X pins σ H s → RelV x v → RelV y u → r x y H Q →
    subscripted slice false v u = operate [v, u] (getItem v u) → wpAny (model X.prog X.w) X.A (subscriptTail value slice v u) (EP X pins σ Q) X.xe s
def MtR (X : Cx) (id : String) (r : V → List V → Hp → VK → Prop) : Prop :=
  ∀ (pins : List (Addr × Obj)) (s : Shared) (σ : St) (H : Hp) (x : V) (xs : List V) (v : Value) (us : List Value) (Q : VK), Inv X pins σ H s → RelV x v → Vals xs us → r x xs H Q →
    wpAny (model X.prog X.w) X.A (call (.builtin id) (v :: us)) (EP X pins σ Q) X.xe s
section
variable {X : Cx} {a b : Expr} {ta tb : TE} {pos : Pos}
theorem IxR.or {r r' : R2} (h : IxR X r) (h' : IxR X r') : IxR X (fun x y H Q => r x y H Q ∨ r' x y H Q) := by
  intro value slice pins s σ H x y v u Q I rx ry q hs
  rcases q with q | q
  · exact h value slice pins s σ H x y v u Q I rx ry q hs
  · exact h' value slice pins s σ H x y v u Q I rx ry q hs
theorem MtR.or {id : String} {r r' : V → List V → Hp → VK → Prop} (h : MtR X id r) (h' : MtR X id r') : MtR X id (fun x xs H Q => r x xs H Q ∨ r' x xs H Q) := by
  intro pins s σ H x xs v us Q I rx rs q
  rcases q with q | q
  · exact h pins s σ H x xs v us Q I rx rs q
  · exact h' pins s σ H x xs v us Q I rx rs q
theorem pe_ix {r : R2} (hr : IxR X r) (ha : PE X a ta) (hb : PE X b tb) (hs : PlainIx b) : PE X (.Subscript a b pos) (tOp r ta tb) := by
  intro pins s σ H Q I h
  exact Subscript_ (binT ha hb I h fun v u s2 x y H2 I2 rx ry q => hr a b pins s2 σ H2 x y v u Q I2 rx ry q (hs _ _))

def rIxL (K : PySem.W.Frag) : R2 := fun x y H Q => ∃ p xs i v, x = .ref p ∧ y = .int i ∧ SqL K H p xs ∧ atI xs i = some v ∧ Q v H
def rIxT (K : PySem.W.Frag) : R2 := fun x y H Q => ∃ p xs i v, x = .ref p ∧ y = .int i ∧ SqT K H p xs ∧ atI xs i = some v ∧ Q v H
theorem ix_list : IxR X (rIxL X.K) := by
  intro value slice pins s σ H x y v u Q I rx ry h hs
  obtain ⟨p, xs, i, z, rfl, rfl, hq, he, q⟩ := h
  cases rx
  obtain ⟨t, rfl⟩ := ry
  obtain ⟨its, r, pl, hz⟩ := I.list hq
  obtain ⟨j, h1, h2, h3, h4, h5⟩ := atI_get he
  obtain ⟨w, ew, rw'⟩ := r.get h2
  have hl := r.length
  have hn := line63
  have fin : EP X pins σ Q w s := ⟨z, H, I, rw', q⟩
  by_cases h0 : 0 ≤ i
  · have hj : i.toNat = j := by
      rw [seqIndex_of h0 h5] at h1
      exact Option.some.inj h1
    exact item_listR pl.isList h0 (by omega) (by rw [hj]; simpa using ew) fin hs
  · have hj : (i + (its.toArray.size : Int)).toNat = j := by
      rw [seqIndex_neg (by omega) h4] at h1
      rw [List.size_toArray, ← hl]
      exact Option.some.inj h1
    exact subscriptTail_builtinR (x := w) pl.isList.typeIs slot_list_getitem.lookup
      (wpAny_getItem_list_neg (Q := fun r s' => r = w ∧ EP X pins σ Q r s') pl.isList (by omega) (by rw [List.size_toArray] <;> omega) (by omega) (by rw [hj]; simpa using ew) ⟨rfl, fin⟩) hs
theorem ix_tup : IxR X (rIxT X.K) := by
  intro value slice pins s σ H x y v u Q I rx ry h hs
  obtain ⟨p, xs, i, z, rfl, rfl, hq, he, q⟩ := h
  cases rx
  obtain ⟨t, rfl⟩ := ry
  obtain ⟨its, r, pl, hz⟩ := I.tuple hq
  obtain ⟨j, h1, h2, h3, h4, h5⟩ := atI_get he
  obtain ⟨w, ew, rw'⟩ := r.get h2
  have hl := r.length
  have hn := line63
  have fin : EP X pins σ Q w s := ⟨z, H, I, rw', q⟩
  exact subscriptTail_builtinR (x := w) pl.typeIs slot_tuple_getitem.lookup
    (getItem_tuple (j := j) (Q := fun r s' => r = w ∧ EP X pins σ Q r s') pl (by omega) (by omega) (by rw [List.size_toArray, ← hl]; exact h1) (by simpa using ew) ⟨rfl, fin⟩) hs

theorem mapSeq_set (its : List Value) (n j : Nat) (u : Value) : Obj.mapSeq (·.setIfInBounds j u) { cls := .type "list", data := .seq its.toArray n } = { cls := .type "list", data := .seq (its.set j u).toArray n } := by
  simp [Obj.mapSeq]
theorem Inv.lst {pins : List (Addr × Obj)} {σ : St} {H : Hp} {s : Shared} {p : Addr} {xs : List V} (I : Inv X pins σ H s) (h : H p = some (.lst xs)) :
    ∃ (its : List Value) (n : Nat), Vals xs its ∧ s.heap.get? p = some { cls := .type "list", data := .seq its.toArray n } ∧ xs.length ≤ sizeLine := by
  obtain ⟨z, its, n, r, e⟩ := I.hok p _ h
  exact ⟨its, n, r, e, z⟩
theorem Inv.lstUpd {pins : List (Addr × Obj)} {σ : St} {H : Hp} {s : Shared} {p : Addr} {xs ys : List V} {its its' : List Value} {n n' : Nat} {f : Obj → Obj} (I : Inv X pins σ H s) (h : H p = some (.lst xs))
    (ho : s.heap.get? p = some { cls := .type "list", data := .seq its.toArray n }) (hf : f { cls := .type "list", data := .seq its.toArray n } = { cls := .type "list", data := .seq its'.toArray n' }) (r : Vals ys its') (hz : ys.length ≤ sizeLine) (t : Nat) :
    Inv X pins σ (upd H p (.lst ys)) { s with heap := s.heap.update p f, toks := t } := by
  have e : (s.heap.update p f).get? p = some { cls := .type "list", data := .seq its'.toArray n' } := by
    rw [Heap.get?_update_self f ho (by rw [hf] <;> rfl), hf]
  refine I.write (x := p) (e := p) (by rw [h]; trivial) (.inl rfl) (fun b u hb q => (Heap.get?_update_other _ _ (Ne.symm hb)).trans q) ⟨_, e⟩ ?_
  exact ⟨hz, its', n', r, e⟩
def rSetL : V → V → V → Hp → (Hp → Prop) → Prop := fun o i v H Q => ∃ p xs k j, o = .ref p ∧ i = .int k ∧ H p = some (.lst xs) ∧ ixN xs.length k = some j ∧ Q (upd H p (.lst (xs.set j v)))
theorem set_list : PSet X rSetL := by
  intro pins s σ H o i v ov iv u Q I ro ri rv h
  obtain ⟨p, xs, k, j, rfl, rfl, hp, hj, q⟩ := h
  cases ro
  obtain ⟨t, rfl⟩ := ri
  obtain ⟨its, n, r, ho, hz⟩ := I.lst hp
  obtain ⟨h1, h2, h3, h4⟩ := ixN_seq hj
  have hl := r.length
  have hn := line63
  have I' : Inv X pins σ (upd H p (.lst (xs.set j v))) { s with heap := s.heap.update p (Obj.mapSeq (·.setIfInBounds j u)) } :=
    I.lstUpd hp ho (mapSeq_set its n j u) (r.set rv j) (by rw [List.length_set]; exact hz) s.toks
  by_cases h0 : 0 ≤ k
  · have hk : k.toNat = j := by
      rw [seqIndex_of h0 h4] at h1
      exact Option.some.inj h1
    exact PySem.W.ki_setAt ho h0 (by omega) (by rw [List.size_toArray, ← hl]; exact h4) (by rw [hk]; exact ⟨_, I', q⟩)
  · have hk : (k + (its.toArray.size : Int)).toNat = j := by
      rw [seqIndex_neg (by omega) h3] at h1
      rw [List.size_toArray, ← hl]
      exact Option.some.inj h1
    exact PySem.W.ki_setBack ho (by omega) (by rw [List.size_toArray, ← hl]; exact h3) (by omega) (by rw [hk]; exact ⟨_, I', q⟩)

theorem slice_bounds (lo hi : Option Int) (n : Nat) : (sliceBounds lo hi none n).1 = ((HT.sIx n 0 lo : Nat) : Int) ∧ (sliceBounds lo hi none n).2.1 = ((HT.sIx n n hi : Nat) : Int) ∧ (sliceBounds lo hi none n).2.2 = 1 := by
  refine ⟨?_, ?_, rfl⟩
  · cases lo with
    | none => simp [sliceBounds, HT.sIx]
    | some i =>
      simp only [sliceBounds, HT.sIx, Option.getD_none, show (1 : Int) > 0 by decide, if_true]
      by_cases h : i < 0
      · simp only [h, if_true] <;> omega
      · simp only [h, if_false] <;> omega
  · cases hi with
    | none => simp [sliceBounds, HT.sIx]
    | some i =>
      simp only [sliceBounds, HT.sIx, Option.getD_none, show (1 : Int) > 0 by decide, if_true]
      by_cases h : i < 0
      · simp only [h, if_true] <;> omega
      · simp only [h, if_false] <;> omega
theorem slicePick_cut (its : List Value) (lo hi : Option Int) : slicePick its.toArray lo hi none = ((its.drop (HT.sIx its.length 0 lo)).take (HT.sIx its.length its.length hi - HT.sIx its.length 0 lo)).toArray := by
  obtain ⟨h1, h2, h3⟩ := slice_bounds lo hi its.toArray.size
  unfold slicePick
  rw [h1, h2, h3]
  simp only [sliceRange_one, pick_run, List.size_toArray] <;> rfl
def rSlL (K : PySem.W.Frag) : V → Option Int → Option Int → Hp → VK → Prop := fun x lo hi H Q => ∃ a xs, x = .ref a ∧ SqL K H a xs ∧ ∀ p, H p = none → Q (.ref p) (upd H p (.lst (cutV xs lo hi)))
theorem sl_list : SlR X (rSlL X.K) := by
  intro pins s σ H x v vl vu lo hi sl Q I rx hs pl pu h
  obtain ⟨a, xs, rfl, hx, q⟩ := h
  cases rx
  obtain ⟨its, r, ht, hz⟩ := I.list hx
  have hlen := r.length
  refine ⟨"list", _, slot_list_getitem.lookup, ht.isList.typeIs, ?_⟩
  refine wpAny_getItem_list_slice ht.isList hs pl pu .none (by simp) ?_ (by rw [List.size_toArray] <;> omega)
  rw [slicePick_cut, ← hlen]
  refine ⟨.ref s.heap.objs.size, _, I.laid (t' := s.toks) (o := .lst (cutV xs lo hi)) (fun b ob q => Heap.get?_push_of_some _ q) (Nat.le_refl _) ?_, rfl, q _ (I.hok.fresh (Nat.le_refl _))⟩
  exact ⟨Nat.le_trans (cutV_length xs lo hi) hz, _, 0, (r.drop (HT.sIx xs.length 0 lo)).take (HT.sIx xs.length xs.length hi - HT.sIx xs.length 0 lo), Heap.get?_push_size _ rfl⟩


theorem CallR.or {f : Value} {r r' : List V → Hp → VK → Prop} (h : CallR X f r) (h' : CallR X f r') : CallR X f (fun xs H Q => r xs H Q ∨ r' xs H Q) := by
  intro pins s σ H xs us Q I rs q
  rcases q with q | q
  · exact h pins s σ H xs us Q I rs q
  · exact h' pins s σ H xs us Q I rs q
theorem call_tuple_of : CallR X (.type "tuple") (fun xs H Q => ∃ p ys, xs = [.ref p] ∧ ((SqL X.K H p ys ∧ ∀ l, H l = none → Q (.ref l) (upd H l (.tup ys))) ∨ (SqT X.K H p ys ∧ Q (.ref p) H))) := by
  intro pins s σ H xs us Q I r h
  obtain ⟨p, ys, rfl, h⟩ := h
  obtain ⟨u, rfl, rx⟩ := vals1 r
  cases rx
  rcases h with ⟨hq, q⟩ | ⟨hq, q⟩
  · obtain ⟨its, r', pl, hz⟩ := I.list hq
    have hlen := r'.length
    refine call_tuple_list pl.isList (fun h' kp => ?_) (by simp only [List.size_toArray] <;> omega)
    have I1 : Inv X pins σ H { s with heap := h' } := I.kept (t' := s.toks) kp
    have I2 : Inv X pins σ (upd H h'.objs.size (.tup ys)) { s with heap := h'.push { cls := .type "tuple", data := .seq its.toArray } } :=
      I1.laid (t' := s.toks) (fun b o e => Heap.get?_push_of_some _ e) (Nat.le_refl _) (show ObjOk X.prog X.w _ _ _ (.tup ys) from ⟨hz, its, r', IsTup.new _ _⟩)
    exact ⟨.ref h'.objs.size, _, I2, rfl, q _ (I1.hok.fresh (Nat.le_refl _))⟩
  · obtain ⟨its, r', pl, hz⟩ := I.tuple hq
    exact call_tuple_same pl ⟨.ref p, H, I, rfl, q⟩

def tyV (K : PySem.W.Frag) (T : String) (x : V) (H : Hp) : Prop := match x with
  | .str _ => T = "str"
  | .int _ => T = "int"
  | .ref p => (T = "list" ∧ ∃ xs, SqL K H p xs) ∨ (T = "tuple" ∧ ∃ o, K.lookup p = some o ∧ o.cls = .type "tuple" ∧ o.dict = none) ∨
      (T = "dict" ∧ ((∃ kvs, H p = some (.dK kvs)) ∨ ∃ kvs, H p = some (.dT kvs))) ∨ (T = "set" ∧ ∃ S n, H p = some (.set S n))
  | _ => False
theorem tyV_is {pins : List (Addr × Obj)} {σ : St} {H : Hp} {s : Shared} {T : String} {x : V} {v : Value} (I : Inv X pins σ H s) (r : RelV x v) (ty : tyV X.K T x H) :
    s.TypeIs v T ∧ ∀ a, v = .ref a → ∃ ob, s.heap.get? a = some ob ∧ ob.dict = none := by
  cases x with
  | str z =>
    obtain ⟨t, rfl⟩ := r
    cases (show T = "str" from ty)
    exact ⟨typeIs_str s z t, fun _ e => nomatch e⟩
  | int i =>
    obtain ⟨t, rfl⟩ := r
    cases (show T = "int" from ty)
    exact ⟨typeIs_int s i t, fun _ e => nomatch e⟩
  | ref p =>
    cases r
    rcases ty with ⟨rfl, xs, hq⟩ | ⟨rfl, o, hk, hc, hd⟩ | ⟨rfl, hk⟩ | ⟨rfl, S, n, hk⟩
    · obtain ⟨its, _, pl, _⟩ := I.list hq
      refine ⟨pl.isList.typeIs, fun a e => ?_⟩
      cases e
      obtain ⟨o, n, e, c, hd, _⟩ := pl
      exact ⟨o, e, hd⟩
    · refine ⟨⟨o, I.kIn p o hk, hc⟩, fun a e => ?_⟩
      cases e
      exact ⟨o, I.kIn _ o hk, hd⟩
    · have z : ∃ o, s.heap.get? p = some o ∧ o.ExactDict := by
        rcases hk with ⟨kvs, hk⟩ | ⟨kvs, hk⟩
        · obtain ⟨_, _, _, _, o, _, _, e, ex, _⟩ := I.hok p _ hk
          exact ⟨o, e, ex⟩
        · obtain ⟨_, _, _, _, o, _, _, e, ex, _⟩ := I.hok p _ hk
          exact ⟨o, e, ex⟩
      obtain ⟨o, e, ex⟩ := z
      refine ⟨⟨o, e, ex.1⟩, fun a e2 => ?_⟩
      cases e2
      exact ⟨o, e, ex.2.1⟩
    · obtain ⟨o, _, _, _, e, ex, _⟩ := I.hok p _ hk
      refine ⟨⟨o, e, ex.1⟩, fun a e2 => ?_⟩
      cases e2
      exact ⟨o, e, ex.2.1⟩
  | _ => exact False.elim ty
def tBM (K : PySem.W.Frag) (T : String) (r : V → List V → Hp → VK → Prop) (to : TE) (t : TA) : TE := fun σ H Q => to σ H fun x H1 => tyV K T x H1 ∧ t σ H1 fun xs H2 => r x xs H2 Q
variable {o e : Expr} {es : List Expr} {to : TE} {t : TA} {name : Str} {apos cpos : Pos} {T id : String} {r : V → List V → Hp → VK → Prop}
theorem pe_bm (pa : PlainAttrs T) (slot : Slot T name id) (hty : typeOf (.builtin id) = pure (.type "method_descriptor")) (hm : MtR X id r) (ho : PE X o to) (ha : PA X (e :: es) t)
    (hbase : attributeBase o name X.env (eval o X.env) = eval o X.env := by rfl)
    (hfew : ((backTo cpos (starEach (e :: es) X.env)).all (fun x => !x.1) && (backToKw cpos (keywordEach [] X.env)).all (fun x => x.1.isSome)
      && decide ((e :: es).length + ([] : List Keyword).length + (if ([] : List Keyword).isEmpty then 0 else 1) < 30)) = true := by rfl)
    (hline : (apos.endLine == cpos.line) = true := by rfl) (hs : starEach (e :: es) X.env = (false, eval e X.env) :: starEach es X.env := by rfl) (hplain : (backTo cpos (starEach es X.env)).any (·.1) = false := by rfl) :
    PE X (.Call (.Attribute o name apos) (e :: es) [] cpos) (tBM X.K T r to t) := by
  intro pins s σ H Q I h
  refine wpAny_Call_method_late hbase hfew hline rfl (thn (ho pins s σ H _ I h) fun v s1 ⟨x, H1, I1, r1, ty, q1⟩ => ?_)
  obtain ⟨h1, h2⟩ := tyV_is I1 r1 ty
  refine ⟨T, id, pa, slot, hty, h1, h2, ?_⟩
  have hA := ha cpos pins s1 σ H1 _ I1 q1
  rw [hs] at hA ⊢
  refine Calls.callWith_builtin (by show (false || (backTo cpos (starEach es X.env)).any (·.1)) = false; rw [hplain] <;> rfl) (Calls.evalArgs_plain ?_)
  exact thn hA fun us s2 ⟨vs, H2, I2, r2, q2⟩ => hm pins s2 σ H2 x vs v us Q I2 r1 r2 q2
end
end L2

namespace L2
open PySem PySem.Spec PyProof.Rows

def MtM (X : Cx) (id : String) (r : V → List V → Hp → VK → Prop) : Prop :=
  ∀ (pins : List (Addr × Obj)) (s : Shared) (σ : St) (H : Hp) (x : V) (xs : List V) (v : Value) (us : List Value) (Q : VK), Inv X pins σ H s → RelV x v → Vals xs us → r x xs H Q →
    wpAny (model X.prog X.w) X.A (call (.builtin id) (v :: us)) (EP X pins σ Q) X.xe s

theorem Vals.one : ∀ {x : V} {us : List Value}, Vals [x] us → ∃ u, us = [u] ∧ RelV x u
  | _, _, .cons r .nil => ⟨_, rfl, r⟩
theorem Vals.two : ∀ {x y : V} {us : List Value}, Vals [x, y] us → ∃ u v, us = [u, v] ∧ RelV x u ∧ RelV y v
  | _, _, _, .cons r (.cons q .nil) => ⟨_, _, rfl, r, q⟩
theorem Vals.zero : ∀ {us : List Value}, Vals [] us → us = []
  | _, .nil => rfl
theorem Vals.eraseIdx : ∀ {xs : List V} {us : List Value} (i : Nat), Vals xs us → Vals (xs.eraseIdx i) (us.eraseIdx i)
  | _, _, _, .nil => .nil
  | _, _, 0, .cons _ t => t
  | _, _, i + 1, .cons r t => .cons r (Vals.eraseIdx i t)
theorem Vals.reverse {xs : List V} {us : List Value} (h : Vals xs us) : Vals xs.reverse us.reverse := by
  induction h with
  | nil => exact .nil
  | cons r t ih => rw [List.reverse_cons, List.reverse_cons]; exact Vals.append ih (.cons r .nil)
theorem len_erase {α : Type} : ∀ (l : List α) (i : Nat), (l.eraseIdx i).length ≤ l.length
  | [], _ => Nat.le_refl _
  | _ :: _, 0 => Nat.le_succ _
  | _ :: r, i + 1 => Nat.succ_le_succ (len_erase r i)

section
variable {X : Cx} {pins : List (Addr × Obj)} {σ : St} {H : Hp} {s : Shared} {l b : Addr} {xs ys zs : List V}

theorem Inv.lset {its its' : List Value} {n : Nat} {f : Array Value → Array Value} {t' : Nat} (I : Inv X pins σ H s) (hH : H l = some (.lst xs))
    (e : s.heap.get? l = some { cls := .type "list", data := .seq its.toArray n }) (hf : f its.toArray = its'.toArray) (hv : Vals ys its') (hz : ys.length ≤ sizeLine) :
    Inv X pins σ (upd H l (.lst ys)) { s with heap := s.heap.update l (Obj.mapSeq f), toks := t' } := by
  have q := PySem.IsL.update e f
  rw [hf] at q
  refine I.write (x := l) (e := l) (by rw [hH]; exact trivial) (.inl rfl) (fun b' u hb hu => (Heap.get?_update_other s.heap (Obj.mapSeq f) (Ne.symm hb)).trans hu) ⟨_, q⟩ ?_
  exact ⟨hz, its', _, hv, q⟩
theorem Inv.fresh (I : Inv X pins σ H s) : H s.heap.objs.size = none := I.hok.fresh (Nat.le_refl _)
theorem Inv.lstM (I : Inv X pins σ H s) (hH : H l = some (.lst xs)) : xs.length ≤ sizeLine ∧ ∃ (its : List Value) (n : Nat), Vals xs its ∧ xs.length = its.length ∧ s.heap.get? l = some { cls := .type "list", data := .seq its.toArray n } := by
  obtain ⟨z, its, n, r, e⟩ := I.hok l _ hH
  exact ⟨z, its, n, r, r.length, e⟩

end

section
variable {X : Cx}

def rAppend : V → List V → Hp → VK → Prop := fun x vs H Q => ∃ l xs y, x = .ref l ∧ vs = [y] ∧ H l = some (.lst xs) ∧ xs.length < sizeLine ∧ Q .non (upd H l (.lst (xs ++ [y])))
theorem mt_append : MtM X "list.append" rAppend := by
  intro pins s σ H x vs v us Q I rx rv h
  obtain ⟨l, xs, y, rfl, rfl, hH, hz, q⟩ := h
  cases rx
  obtain ⟨u, rfl, ru⟩ := rv.one
  obtain ⟨z, its, n, r, hl, e⟩ := I.lstM hH
  refine call_meets F.slot_list_append ⟨_, e, rfl⟩ F.entry_list_append (F.args_list_append_2 _ _) (PySem.list_append l its.toArray n u (by rw [List.size_toArray]; omega)) ⟨e, ?_⟩
  refine ⟨.non, _, I.lset (its' := its ++ [u]) hH e (by simp) (r.append (.cons ru .nil)) ?_, rfl, q⟩
  rw [List.length_append, List.length_singleton]
  omega



def rPopAt : V → List V → Hp → VK → Prop := fun x vs H Q => ∃ l xs i k y, x = .ref l ∧ vs = [.int i] ∧ H l = some (.lst xs) ∧ -(2 ^ 63) ≤ i ∧ i < 2 ^ 63 ∧ seqIndex? i xs.length = some k ∧ xs[k]? = some y ∧ Q y (upd H l (.lst (xs.eraseIdx k)))
theorem mt_popAt : MtM X "list.pop" rPopAt := by
  intro pins s σ H x vs v us Q I rx rv h
  obtain ⟨l, xs, i, k, y, rfl, rfl, hH, h1, h2, hk, hy, q⟩ := h
  cases rx
  obtain ⟨u, rfl, ru⟩ := rv.one
  obtain ⟨t, rfl⟩ := ru
  obtain ⟨z, its, n, r, hl, e⟩ := I.lstM hH
  obtain ⟨w, hw, rw'⟩ := r.get hy
  refine call_meets F.slot_list_pop ⟨_, e, rfl⟩ F.entry_list_pop (F.args_list_pop_2 _ _)
    (MeetsSeq.list_pop_at l its.toArray n i t k w (fitsIndex_both h1 h2) (by rw [List.size_toArray, ← hl]; exact hk) (by rw [← Array.getElem?_toList]; exact hw) (by rw [List.size_toArray]; omega)) ⟨e, ?_⟩
  refine ⟨y, _, I.lset (its' := its.eraseIdx k) hH e ?_ (r.eraseIdx k) ?_, rw', q⟩
  · show its.toArray.eraseIdxIfInBounds k = (its.eraseIdx k).toArray
    rw [List.eraseIdxIfInBounds_toArray]
  · have := len_erase xs k
    omega




end

section
variable {prog : Program} {w : World} {A : Around} {E : Value → Shared → Prop} {s : Shared}
set_option maxRecDepth 100000 in
end

section
variable {X : Cx}
end
end L2

namespace Att
open PySem PySem.W PySem.Calls PyProof.Rows

theorem ints_of_wellAll {P : Params} {h : Heap} : ∀ (ns : List Int) (vs : List Value), WellAll P h vs (ns.map WData.int) → IntsAre vs ns := by
  intro ns
  induction ns with
  | nil =>
    intro vs w
    rw [List.map_nil] at w
    cases w
    exact .nil
  | cons n ns ih =>
    intro vs w
    rw [List.map_cons] at w
    cases w with
    | cons a b =>
      cases a
      exact .cons _ _ (ih _ b)

theorem script_of {l : OpenLaw} {n : Nat} (hn : l.most = some n) {P : Params} {h : Heap} {args : List WData} {vals : List Value}
    (hpre : l.row.toRowW.claim.pre args = true) (hwl : WellAll P h vals args) :
    ∃ a vs ns, vals = [Value.ref a] ∧ args = [WData.list (ns.map WData.int)] ∧ h.get? a = some { cls := .type "list", data := .seq vs.toArray } ∧ IntsAre vs ns ∧ ns.length ≤ n := by
  have hsh : WShape.hasAll [] args [.list .int] = true := (pre_splitW hpre).1
  have hc : l.pre.holds [] { args := args } = true := (pre_splitW hpre).2
  obtain ⟨d, r, rfl, h1, h2⟩ := hasAllW_cons hsh
  obtain rfl := hasAllW_nil h2
  obtain ⟨xs, rfl, h3⟩ := hasW_list h1
  obtain ⟨ns, rfl⟩ := items_int h3
  have hlen : ns.length ≤ n := by
    unfold OpenLaw.pre at hc
    have h4 : (WTm.not (.lt (.lit (.int (n : Int))) (.len (.arg 0)))).holds [] { args := [.list (ns.map .int)] } = true := by
      have h4 := (holds_andW hc).1
      rw [hn] at h4
      exact h4
    have h5 := condW_of h4 (w_not (w_lt w_lit (w_len_list (w_arg rfl))))
    rw [List.length_map] at h5
    refine Nat.le_of_not_lt fun q => ?_
    have q' : (n : Int) < ((ns.length : Nat) : Int) := by omega
    first
      | (rw [decide_eq_true q'] at h5; exact absurd h5 (by decide))
      | (simp at h5; omega)
  cases hwl with
  | cons w1 w2 =>
    cases w2
    cases w1 with
    | list ho hall => exact ⟨_, _, ns, rfl, rfl, ho, ints_of_wellAll ns _ hall, hlen⟩

theorem post_true (l : OpenLaw) (args : List WData) : l.row.toRowW.claim.post args (.bool true) args = true :=
  postW_of (r := l.row.toRowW) (X := (true == true))
    (show WShape.has [] (.bool true) .bool = true by first | rfl | decide | simp [WShape.has, WShape.arms, WShape.armsAll])
    (show (WTm.eq .res (.lit (.bool true))).value [] { args := args, res := some (.bool true), after := args } = some (.bool (true == true)) from w_eq_bool (w_res rfl) w_lit) rfl


theorem attach_call {l : OpenLaw} {n : Nat} {q : Program} {loose : List Str} {XP : (Str → Option Value) → Heap → Prop} {YP : World → Heap → Prop} {d : DefRec}
    (hn : l.most = some n) (hdf : d.params.defaults = [])
    (call : ∀ (w : World) (s₀ s₁ : Shared) (mg mb : Str → Option Value) (fa : Addr) (o : Obj) (pm cd doc : Value) (a : Addr) (vs : List Value) (ns : List Int),
      Ground q loose [] XP w s₀ mg mb s₁.heap → YP w s₁.heap →
      s₁.heap.get? fa = some o → o.data = .func (docDef d.name d.params d.body d.scope pm cd doc) → s₁.heap.CodeRec cd d.name → mg d.name = some (.ref fa) →
      s₁.heap.get? a = some { cls := .type "list", data := .seq vs.toArray } → IntsAre vs ns → ns.length ≤ n → s₁.gens = #[] →
      codeAny (model l.prog w) callerA (.call (.ref fa) ⟨[.ref a], []⟩) (fun r s' => r = .ok (.ret (.bool true)) ∧ OldK s₁.heap s'.heap ∧ s'.os = s₁.os ∧ AllBare s'.gens) s₁) :
    WalkO q loose XP YP l.row.toRowW d [] (fun f vs => PySem.call f vs) := by
  intro w s₀ s₁ mg mb G Y fa o pm cd doc dV kV ho hd hcd hD hmg hg args vals as hpre hlay hrd hwl hlo
  obtain rfl : dV = .none := Dflts.none hD hdf
  obtain rfl : kV = .none := Dflts.noKw hD
  obtain ⟨a, vs, ns, rfl, rfl, hobj, hints, hlen⟩ := script_of hn hpre hwl
  refine enter_call (codeAny_mono (call w s₀ s₁ mg mb fa o pm cd doc a vs ns G Y ho (fd_plain hd) hcd hmg hobj hints hlen hg) fun r s' hq => ?_)
  obtain ⟨rfl, h2, h3, h4⟩ := hq
  exact ⟨.inl ⟨.bool true, .bool true, [], rfl, fun _ => rfl, .bool true, post_true l _, fun _ => ⟨List.Pairwise.nil, fun _ hm => (nomatch hm)⟩⟩, h2, h3, h4⟩


section
variable {prog : Program} {w : World} {A : Around} {E : Value → Shared → Prop} {s : Shared} {K : Frag}





def ledger (h : Heap) (L d : Addr) : List (Addr × Obj) := (List.range h.objs.size).filterMap fun a => if a = L ∨ a = d then none else (h.get? a).map fun o => (a, o)

end
end Att

namespace L2
open PySem PySem.Spec PyProof.Rows

theorem vals_ints : ∀ {vs : List Value} {ns : List Int}, IntsAre vs ns → Vals (ns.map V.int) vs
  | _, _, .nil => .nil
  | _, _, .cons n t h => .cons ⟨t, rfl⟩ (vals_ints h)

def Only (H : Hp) : Prop := ∀ b, H b = none ∨ ∃ o xs, H b = some (.frz o (.lst xs))

theorem law_call {P : Program} {w : World} {K : PySem.W.Frag} {mg mb : Str → Option Value} {CX : CXT} {k : Nat} {fa a : Addr} {fd : FuncData} {x : Str} {sp : Sp} {s₁ : Shared} {vs : List Value} {ns : List Int}
    (KX : K.In s₁.heap) (hns : s₁.heap.Ns mainGlobals mg) (hb : s₁.heap.Ns builtinsNs mb) (hbb : ∀ x : Str, x ≠ "__name__" → mb x = bootBuiltins x) (hlim : s₁.heap.NoLimit) (hsee : s₁.heap.NoSeer) (hg : s₁.gens = #[])
    (ha : s₁.heap.get? a = some { cls := .type "list", data := .seq vs.toArray }) (hi : IntsAre vs ns) (hl : ns.length ≤ sizeLine) (hr : Room k callerA)
    (F : ∀ base : Heap, K.In base → base.Ns mainGlobals mg → FnOk P w K mg base CX k fa fd [x] sp) (hbind : ∀ (s : Shared) (u : Value), BindsTo s fd ⟨[u], []⟩ [(x, u)])
    (hsp : ∀ H : Hp, Only H → SqL K H a (ns.map V.int) → sp [.ref a] H (fun v _ => v = .bl true) fun _ _ _ => False)
    (hCX : ∀ H e s', CX [] H s₁ (fun _ _ _ => False) e s' → False) :
    codeAny (model P w) callerA (.call (.ref fa) ⟨[.ref a], []⟩) (fun r s' => r = .ok (.ret (.bool true)) ∧ OldK s₁.heap s'.heap ∧ s'.os = s₁.os ∧ AllBare s'.gens) s₁ := by
  have rv := vals_ints hi
  have lenV := hi.length
  -- from an abstract heap in which nothing but the script may be tracked
  have core : ∀ H : Hp, Only H → SqL K H a (ns.map V.int) → HOk P w H s₁.heap → (∀ b, H b ≠ none → b = a) → (H a ≠ none → K.lookup a = none) →
      codeAny (model P w) callerA (.call (.ref fa) ⟨[.ref a], []⟩) (fun r s' => r = .ok (.ret (.bool true)) ∧ OldK s₁.heap s'.heap ∧ s'.os = s₁.os ∧ AllBare s'.gens) s₁ := by
    intro H hO hS hok hA hK
    have base_of : ∀ {b : Addr} {o : Obj}, s₁.heap.get? b = some o → H b = none → (hidT s₁.heap H).get? b = some o := fun e n => hidT_get e n
    have noA : ∀ {b : Addr} {o : Obj} {es : Array DictEntry} {ep : Nat}, s₁.heap.get? b = some o → o.data = .dict es ep → H b = none := fun {b o es ep} e d => by
      cases q : H b with
      | none => rfl
      | some u =>
        have e' : b = a := hA b (by rw [q]; simp)
        subst e'
        rw [ha] at e; cases e
        have d' : Data.seq vs.toArray _ = Data.dict es ep := d
        cases d'
    have nsK : ∀ {b : Addr} {m : Str → Option Value}, s₁.heap.Ns b m → (hidT s₁.heap H).Ns b m := fun {b m} ⟨o, es, ep, e, d, r⟩ => ⟨o, es, ep, base_of e (noA e d), d, r⟩
    have hKb : K.In (hidT s₁.heap H) := fun b o e => base_of (KX b o e) (by
      cases q : H b with
      | none => rfl
      | some u =>
        have e' : b = a := hA b (by rw [q]; simp)
        subst e'
        rw [hK (by rw [q]; simp)] at e; cases e)
    have hM : Mod K mg (hidT s₁.heap H) := ⟨hKb, nsK hns, ⟨mb, nsK hb, hbb⟩, let ⟨mc, h1, h2⟩ := hlim; ⟨mc, nsK h1, h2⟩,
      ⟨let ⟨mc, h1, h2⟩ := hsee.statics; ⟨mc, nsK h1, h2⟩, let ⟨mc, h1, h2⟩ := hsee.mods; ⟨mc, nsK h1, h2⟩, let ⟨mc, h1, h2⟩ := hsee.imp; ⟨mc, nsK h1, h2⟩, by
        obtain ⟨mg', bm, ob, n1, n2, n3, n4, n5⟩ := hsee.main
        refine ⟨mg', bm, ob, nsK n1, n2, base_of n3 ?_, n4, n5⟩
        cases q : H bm with
        | none => rfl
        | some u =>
          have e' : bm = a := hA bm (by rw [q]; simp)
          subst e'
          rw [ha] at n3; cases n3
          exact absurd (show Value.type "list" = Value.type "module" from n4) (fun z => by injection z with z; exact absurd z (by decide))⟩⟩
    have e0 : Env0 P w K mg (hidT s₁.heap H) callerA [] s₁ H := ⟨rfl, hM, fun b o e => of_hidT e, Nat.le_of_eq (hidT_size _ _), trivial, fun b hb => absurd (show b ∈ ([] : List Addr) from hb) (by simp), hok, .of_eq hg⟩
    refine codeAny_mono ((F _ hKb (nsK hns)).run callerA [] s₁ H ⟨[.ref a], []⟩ [.ref a] [.ref a] _ _ hr e0 (hbind s₁ (.ref a)) (.cons rfl .nil) (hsp H hO hS)) fun r s' h => ?_
    cases r with
    | error e => exact (hCX H e s' h).elim
    | ok fl =>
      cases fl with
      | next => exact False.elim h
      | brk => exact False.elim h
      | cont => exact False.elim h
      | ret u =>
        obtain ⟨v, H', os, bare, un, hok', r', q⟩ := h
        have q' : v = .bl true := q
        subst q'
        obtain rfl : u = Value.bool true := r'
        refine ⟨rfl, OldK.of_keep fun b o e => ?_, os, bare⟩
        cases q : H b with
        | none => exact un.keep b o e q (by intro z; exact absurd (show b ∈ ([] : List Addr) from z) (by simp)) (by simp)
        | some u =>
          rcases hO b with z | ⟨ob, xs, z⟩
          · rw [q] at z; cases z
          · have z2 := un.frzs b ob _ z
            obtain ⟨e1, _⟩ := hok b _ z
            obtain ⟨e2, _⟩ := hok' b _ z2
            rw [e] at e1; cases e1
            exact e2
  cases hk : K.lookup a with
  | some o =>
    -- the script is one of the module's own objects
    have e := KX a o hk
    rw [ha] at e
    cases e
    refine core (fun _ => none) (fun _ => .inl rfl) (.inr ⟨_, vs.toArray, _, hk, rfl, rfl, rfl, by rw [List.size_toArray, lenV]; exact hl, by simpa using rv⟩) (fun b u z => by have z' : (none : Option HO) = some u := z; cases z') (fun b z => absurd rfl z) fun z => absurd rfl z
  | none =>
    refine core (fun b => if b = a then some (.frz { cls := .type "list", data := .seq vs.toArray } (.lst (ns.map V.int))) else none) (fun b => ?_) (.inl (.inr ⟨{ cls := .type "list", data := .seq vs.toArray }, if_pos rfl⟩)) (fun b u z => ?_) (fun b z => ?_) fun _ => hk
    · by_cases hb : b = a
      · exact .inr ⟨_, _, if_pos hb⟩
      · exact .inl (if_neg hb)
    · by_cases hb : b = a
      · have z' := (if_pos hb).symm.trans z
        cases z'
        subst hb
        exact ⟨ha, by rw [List.length_map]; exact hl, vs, _, rv, ha⟩
      · have z' := (if_neg hb).symm.trans z
        cases z'
    · by_cases hb : b = a
      · exact hb
      · exact absurd (if_neg hb) z
end L2

namespace L2
open PySem PySem.Spec PyProof.Rows

abbrev KOf {K : PySem.W.Frag} {h : Heap} (_ : K.In h) : PySem.W.Frag := K

theorem walk_of {l : PySem.W.OpenLaw} {n k : Nat} {q : Program} {loose : List Str} {XP : (Str → Option Value) → Heap → Prop} {YP : World → Heap → Prop} {d : DefRec} {K : Params → PySem.W.Frag} {CX : World → CXT} {sp : World → Sp} {x : Str}
    (hn : l.most = some n) (hn2 : n ≤ sizeLine) (hdf : d.params.defaults = []) (hr : Room k callerA) (hq : importsNone q = true)
    (hY : ∀ (w : World) (h : Heap), YP w h → (K w.params).In h)
    (F : ∀ (w : World) (mg : Str → Option Value) (fa : Addr) (h : Heap), (K w.params).In h → h.Ns mainGlobals mg → mg d.name = some (.ref fa) →
      ∃ fd : FuncData, (∀ (s : Shared) (u : Value), BindsTo s fd ⟨[u], []⟩ [(x, u)]) ∧
        ∀ base : Heap, (K w.params).In base → base.Ns mainGlobals mg → FnOk l.prog w (K w.params) mg base (CX w) k fa fd [x] (sp w))
    (hsp : ∀ (w : World) (H : Hp) (a : Addr) (ns : List Int), ns.length ≤ n → Only H → SqL (K w.params) H a (ns.map V.int) → sp w [.ref a] H (fun v _ => v = .bl true) fun _ _ _ => False)
    (hCX : ∀ (w : World) (H : Hp) (s : Shared) (e : Value) (s' : Shared), CX w [] H s (fun _ _ _ => False) e s' → False) :
    PySem.W.WalkO q loose XP YP l.row.toRowW d [] (fun f vs => PySem.call f vs) := by
  refine Att.attach_call hn hdf fun w s₀ s₁ mg mb fa o pm cd doc a vs ns G Y ho hd hcd hmg hobj hints hlen hg => ?_
  have KX := hY w _ Y
  obtain ⟨fd, hb, hF⟩ := F w mg fa _ KX G.T.g hmg
  exact law_call KX G.T.g G.T.b G.T.builtins G.T.nolimit (G.T.seer hq) hg hobj hints (Nat.le_trans hlen hn2) hr hF hb (fun H hO hS => hsp w H a ns hlen hO hS) fun H e s' => hCX w H s₁ e s'
theorem walk_ofK {l : PySem.W.OpenLaw} {n k : Nat} {q : Program} {loose : List Str} {XP : (Str → Option Value) → Heap → Prop} {YP : World → Heap → Prop} {d : DefRec} {K : Params → PySem.W.Frag} {CX : CXT} {sp : PySem.W.Frag → Sp} {x : Str}
    (hn : l.most = some n) (hn2 : n ≤ sizeLine) (hdf : d.params.defaults = []) (hr : Room k callerA) (hq : importsNone q = true)
    (hY : ∀ (w : World) (h : Heap), YP w h → (K w.params).In h)
    (F : ∀ (w : World) (mg : Str → Option Value) (fa : Addr) (h : Heap), (K w.params).In h → h.Ns mainGlobals mg → mg d.name = some (.ref fa) →
      ∃ fd : FuncData, (∀ (s : Shared) (u : Value), BindsTo s fd ⟨[u], []⟩ [(x, u)]) ∧
        ∀ base : Heap, (K w.params).In base → base.Ns mainGlobals mg → FnOk l.prog w (K w.params) mg base CX k fa fd [x] (sp (K w.params)))
    (hsp : ∀ (K : PySem.W.Frag) (H : Hp) (a : Addr) (ns : List Int), ns.length ≤ n → Only H → SqL K H a (ns.map V.int) → sp K [.ref a] H (fun v _ => v = .bl true) fun _ _ _ => False)
    (hCX : ∀ (H : Hp) (s : Shared) (e : Value) (s' : Shared), CX [] H s (fun _ _ _ => False) e s' → False) :
    PySem.W.WalkO q loose XP YP l.row.toRowW d [] (fun f vs => PySem.call f vs) :=
  walk_of (K := K) (CX := fun _ => CX) (sp := fun w => sp (K w.params)) hn hn2 hdf hr hq hY F (fun w H a ns h1 h2 h3 => hsp (K w.params) H a ns h1 h2 h3) fun _ H s e s' => hCX H s e s'
end L2


namespace L2
open PySem PySem.Spec PyProof.Rows

def inClass (s : Stmt) (j : Nat) : Stmt := match s with
  | .ClassDef _ _ _ body _ _ _ _ _ _ _ => body.getD j (.Pass ⟨0, 0, 0, 0⟩)
  | _ => .Pass ⟨0, 0, 0, 0⟩
def defArgs (s : Stmt) : Arguments := match s with
  | .FunctionDef _ a _ _ _ _ _ _ _ _ => a
  | _ => { posonlyargs := [], args := [], vararg := none, kwonlyargs := [], kw_defaults := [], kwarg := none, defaults := [] }
def defBody (s : Stmt) : List Stmt := match s with
  | .FunctionDef _ _ b _ _ _ _ _ _ _ => b
  | _ => []
def defScope (s : Stmt) : Scope := match s with
  | .FunctionDef _ _ _ _ _ _ sc _ _ _ => sc
  | _ => { kind := .function, names := [], isGenerator := false, isCoroutine := false }

abbrev CX0 : CXT := fun _ _ _ _ _ _ => False
abbrev E0 : XK := fun _ _ _ => False
theorem pass0 {X : Cx} : Passes CX0 X E0 := fun _ _ _ _ _ _ _ h => h.elim

structure Fun (K : PySem.W.Frag) (x qual : Str) (st : Stmt) (f : Addr) (fd : FuncData) : Prop where
  ex : ∃ (oc : Value) (od : Option Addr) (kV doc pm : Value) (an : Option Addr) (cdv ct : Value) (osl : Array (Option Value)),
    fd = PySem.W.fnOf x qual (defArgs st) (defBody st) (defScope st) .none kV doc pm an cdv ct ∧ K.lookup f = some ⟨oc, od, .func fd, osl⟩ ∧ PySem.W.codeIn K cdv qual = true
  kp : PySem.W.keepIn K (.ref f) = true
section
variable {P : Program} {w : World} {K : PySem.W.Frag} {mg : Str → Option Value} {base : Heap}
theorem Fun.ok {x qual : Str} {st : Stmt} {f : Addr} {fd : FuncData} {N ps : List Str} {k : Nat} {sp : Sp} (F : Fun K x qual st f fd) (S : FnScope N ps (defScope st)) (len : ∀ vs H Q E, sp vs H Q E → vs.length = ps.length)
    (hbody : ∀ (cdv : Value) (A : Around) (outer : List Env) (s : Shared) (H : Hp) (vs : List V) (Q : VK) (E : XK), Room k (A.deeper (envOfC qual (defScope st) s.heap.objs.size f cdv)) → sp vs H Q E →
      ∃ t, PSs (cxOf CX0 P w K mg base N qual (defScope st) f cdv A outer s H E).nox (defBody st) t ∧ t { nx := fun _ H' => Q .non H', rt := Q } (start N vs) H) : FnOk P w K mg base CX0 (k + 1) f fd ps sp := by
  obtain ⟨oc, od, kV, doc, pm, an, cdv, ct, osl, rfl, lk, hcd⟩ := F.ex
  refine fn_of lk hcd S len fun A outer s H vs Q E hr hsp => ?_
  obtain ⟨t, h, q⟩ := hbody cdv A outer s H vs Q E hr hsp
  exact ⟨t, h.nox, q⟩
theorem Fun.binds {x qual : Str} {st : Stmt} {f : Addr} {fd : FuncData} {ps : List Str} (F : Fun K x qual st f fd)
    (h : ∀ (kV doc pm : Value) (an : Option Addr) (cdv ct : Value) (us : List Value), us.length = ps.length → bindArgs (PySem.W.fnOf x qual (defArgs st) (defBody st) (defScope st) .none kV doc pm an cdv ct) ⟨us, []⟩ = pure (ps.zip us)) : Binds K fd ps [] := by
  obtain ⟨oc, od, kV, doc, pm, an, cdv, ct, osl, rfl, lk, hcd⟩ := F.ex
  exact .all (h kV doc pm an cdv ct)
theorem fun_mk {x qual : Str} {st : Stmt} {f : Addr} {oc : Value} {od an : Option Addr} {osl : Array (Option Value)} {kV doc pm cdv ct : Value} (l : K.lookup f = some ⟨oc, od, .func (PySem.W.fnOf x qual (defArgs st) (defBody st) (defScope st) .none kV doc pm an cdv ct), osl⟩)
    (c : PySem.W.codeIn K cdv qual = true) (k : PySem.W.keepIn K (.ref f) = true) : Fun K x qual st f (PySem.W.fnOf x qual (defArgs st) (defBody st) (defScope st) .none kV doc pm an cdv ct) := ⟨⟨oc, od, kV, doc, pm, an, cdv, ct, osl, rfl, l, c⟩, k⟩
end
theorem hu_of {A : Around} {k : Nat} (hr : Room k A) : A.units + 1 < cLine := Nat.lt_of_le_of_lt (Nat.add_le_add_left (by decide : 1 ≤ 64) _) hr.units

section
variable {X : Cx}
theorem pv (i : Nat) {x : Str} {pos : Pos} (hN : X.N[i]? = some x := by rfl) (hv : Vis X.env.scope x := by first | exact Or.inl rfl | exact Or.inr (Or.inl rfl) | exact Or.inr (Or.inr rfl)) (hd : (x == ("__debug__" : Str)) = false := by decide)
    (hcd : (x == ("__classdict__" : Str)) = false := by decide) : PE X (.Name x pos) (tVar i) := pe_var hN hv hd hcd
end

theorem iteF {A B : Prop} (h : B) : if false = true then A else B := by
  rw [if_neg Bool.false_ne_true]
  exact h
theorem iteT {A B : Prop} (h : A) : if true = true then A else B := by
  rw [if_pos rfl]
  exact h

def Same (H H' : Hp) : Prop := ∀ b o, H b = some o → H' b = some o
theorem Same.refl (H : Hp) : Same H H := fun _ _ h => h
theorem Same.trans {H H1 H2 : Hp} (a : Same H H1) (b : Same H1 H2) : Same H H2 := fun c o h => b c o (a c o h)
theorem Same.free {H H' : Hp} (e : Same H H') {l : Addr} (h : H' l = Option.none) : H l = Option.none := by
  cases q : H l with
  | none => rfl
  | some o =>
    rw [e l o q] at h
    cases h
theorem Same.seq {K : PySem.W.Frag} {H H' : Hp} {a : Addr} {xs : List V} (e : Same H H') (h : SqL K H a xs) : SqL K H' a xs := by
  rcases h with (h | ⟨o, h⟩) | h
  · exact .inl (.inl (e _ _ h))
  · exact .inl (.inr ⟨o, e _ _ h⟩)
  · exact .inr h

end L2

set_option maxHeartbeats 4000000
namespace L2
open PySem PySem.Spec PyProof.Rows PySem.SeqAt
section
variable {X : Cx}
def CDivB (_ j : Int) : Prop := j ≠ 0 ∧ j.natAbs.log2 < 9000
theorem op_fdivB : OpR X (binaryOp .FloorDiv) (rI CDivB fun i j => .int (i.fdiv j)) := opI fun _ _ _ _ _ _ _ hc q => floordiv_int hc.1 q (Or.inl (PyProof.noPylong_of_log2 hc.2))
def rIsi (K : PySem.W.Frag) : List V → Hp → VK → Prop := fun xs H Q => ∃ x n t b, xs = [x, .ty n] ∧ TyOf K H x t ∧ PySem.W.kitOne K t (.type n) = some b ∧ Q (.bl b) H
theorem call_isi : CallR X (.builtin "isinstance") (rIsi X.K) := by
  intro pins s σ H xs us Q I r h
  obtain ⟨x, n, t, b, rfl, ty, e, q⟩ := h
  cases r with
  | cons rx r1 =>
    cases r1 with
    | cons ry r2 =>
      cases r2
      cases ry
      exact isinst_ok I rx ty e fun tk => ⟨.bl b, H, I.tok _, rfl, q⟩
structure MkO (K : PySem.W.Frag) (C : Addr) : Prop where
  makes : PySem.W.makesIn K C = true
  init : PySem.W.findIn K (.ref C) "__init__" = some (some (.builtin "object.__init__"))
  kp : PySem.W.keepIn K (.ref C) = true
def tMakeO (C : Addr) : TE := fun _ H Q => ∀ x dx, H x = none → H dx = none → dx ≠ x → Q (.ref x) (upd (upd H dx (.own x)) x (.ins C dx []))
theorem pe_makeO {C : Addr} {x : Str} {p pos : Pos} (M : MkO X.K C) (hg : Gl X x) (hm : X.mg x = some (.ref C)) (hdb : (x == ("__debug__" : Str)) = false := by decide) : PE X (.Call (.Name x p) [] [] pos) (tMakeO C) := by
  intro pins s σ H Q I h
  refine wpAny_Call_Name_kw (ld_glob I hg hm ?_ hdb)
  refine PySem.W.callWith_K0 I.kIn M.kp ?_
  have hq := h (s.heap.objs.size + 1) s.heap.objs.size (I.hok.fresh (Nat.le_succ _)) (I.hok.fresh (Nat.le_refl _)) (Nat.ne_of_lt (Nat.lt_succ_self _))
  have I2 := Inv.made (C := C) I
  have Y := PySem.W.makes_of (M := model X.prog X.w) I.kIn M.makes
  refine wpAny_call (make_map0 I.kIn M.makes M.init (fun self => PySem.W.Looks.of_pure (PySem.W.oi_bind self)) ?_)
  have t1 : PySem.W.Looks (model X.prog X.w) ((s.heap.push PySem.W.emptyDict).push (PySem.W.instObj C s.heap.objs.size)) (typeOf (.ref (s.heap.objs.size + 1))) (.ref C) :=
    (PySem.W.Looks.ld (o := PySem.W.instObj C s.heap.objs.size) (by have e : ((s.heap.push PySem.W.emptyDict).push (PySem.W.instObj C s.heap.objs.size)).get? (s.heap.push PySem.W.emptyDict).objs.size = some (PySem.W.instObj C s.heap.objs.size) := Heap.get?_push_size _ rfl; rw [Heap.size_push] at e; exact e)).andThen .now
  have t2 : PySem.W.Looks (model X.prog X.w) ((s.heap.push PySem.W.emptyDict).push (PySem.W.instObj C s.heap.objs.size)) (isInstance (.ref (s.heap.objs.size + 1)) (.type "object")) true :=
    t1.andThen (Y.top.keeps fun b o e => Heap.get?_push_of_some _ (Heap.get?_push_of_some _ e))
  refine PySem.codeAny_call_builtin PySem.W.oi_plain PySem.W.entry_oi (@PySem.W.check_slot (model X.prog X.w) _ _ _ "object.__init__" "object" "__init__" (.ref (s.heap.objs.size + 1)) [] [] _ PySem.W.oi_kind PySem.W.oi_split t2 (PySem.W.oi_args (.ref (s.heap.objs.size + 1))) ?_)
  rw [PySem.W.oi_run]
  exact wpAny_pure (And.intro rfl ⟨V.ref (s.heap.objs.size + 1), _, I2, rfl, hq⟩)
end
mutual
inductive Is (K : PySem.W.Frag) (H : Hp) : V → PyData → Prop
  | non : Is K H .non .none
  | bl (b : Bool) : Is K H (.bl b) (.bool b)
  | int (i : Int) : Is K H (.int i) (.int i)
  | str (x : Str) : Is K H (.str x) (.str x)
  | tup {a : Addr} {xs : List V} {ds : List PyData} : SqT K H a xs → IsAll K H xs ds → Is K H (.ref a) (.tuple ds)
  | lst {a : Addr} {xs : List V} {ds : List PyData} : SqL K H a xs → IsAll K H xs ds → Is K H (.ref a) (.list ds)
inductive IsAll (K : PySem.W.Frag) (H : Hp) : List V → List PyData → Prop
  | nil : IsAll K H [] []
  | cons {v : V} {vs : List V} {d : PyData} {ds : List PyData} : Is K H v d → IsAll K H vs ds → IsAll K H (v :: vs) (d :: ds)
end
theorem Same.tup {K : PySem.W.Frag} {H H' : Hp} {a : Addr} {xs : List V} (e : Same H H') (h : SqT K H a xs) : SqT K H' a xs := by
  rcases h with (h | ⟨o, h⟩) | h
  · exact .inl (.inl (e _ _ h))
  · exact .inl (.inr ⟨o, e _ _ h⟩)
  · exact .inr h
mutual
theorem Is.same {K : PySem.W.Frag} {H H' : Hp} (e : Same H H') : ∀ {v : V} {d : PyData}, Is K H v d → Is K H' v d
  | _, _, .non => .non
  | _, _, .bl b => .bl b
  | _, _, .int i => .int i
  | _, _, .str x => .str x
  | _, _, .tup h r => .tup (e.tup h) (IsAll.same e r)
  | _, _, .lst h r => .lst (e.seq h) (IsAll.same e r)
theorem IsAll.same {K : PySem.W.Frag} {H H' : Hp} (e : Same H H') : ∀ {v : List V} {d : List PyData}, IsAll K H v d → IsAll K H' v d
  | _, _, .nil => .nil
  | _, _, .cons a r => .cons (Is.same e a) (IsAll.same e r)
end
section
variable {X : Cx} {pins : List (Addr × Obj)} {σ : St} {H : Hp} {s : Shared}
mutual
theorem Is.reads (I : Inv X pins σ H s) : ∀ {v : V} {d : PyData} {u : Value}, Is X.K H v d → RelV v u → ∃ as, Reads s.heap u d as
  | _, _, _, .non, r => by cases r; exact ⟨_, .none⟩
  | _, _, _, .bl b, r => by cases r; exact ⟨_, .bool b⟩
  | _, _, _, .int i, r => by obtain ⟨t, rfl⟩ := r; exact ⟨_, .int i t⟩
  | _, _, _, .str x, r => by obtain ⟨t, rfl⟩ := r; exact ⟨_, .str x t⟩
  | _, _, _, .tup h a, r => by
    cases r
    obtain ⟨its, rv, ⟨o, ho, hc, n, hd⟩, _⟩ := I.tuple h
    obtain ⟨as, hr⟩ := IsAll.reads I a rv
    exact ⟨as, .tuple ho hc hd (by simpa using hr)⟩
  | _, _, _, .lst h a, r => by
    cases r
    obtain ⟨its, rv, ⟨o, n, ho, hc, _, hd⟩, _⟩ := I.list h
    obtain ⟨as, hr⟩ := IsAll.reads I a rv
    exact ⟨_, .list ho hc hd (by simpa using hr)⟩
theorem IsAll.reads (I : Inv X pins σ H s) : ∀ {vs : List V} {ds : List PyData} {us : List Value}, IsAll X.K H vs ds → Vals vs us → ∃ as, ReadsAll s.heap us ds as
  | _, _, _, .nil, .nil => ⟨_, .nil⟩
  | _, _, _, .cons a r, .cons q t => by
    obtain ⟨as, h1⟩ := Is.reads I a q
    obtain ⟨bs, h2⟩ := IsAll.reads I r t
    exact ⟨_, .cons h1 h2⟩
end
def rEqD (K : PySem.W.Frag) : R2 := fun x y H Q => ∃ d d', Is K H x d ∧ Is K H y d' ∧ shaped d = true ∧ shaped d' = true ∧ noMix d d' = true ∧ Q (.bl (PySem.Spec.same d d')) H
theorem op_eqD (hu : X.A.units + 64 < cLine) : OpR X (compareOp .Eq) (rEqD X.K) := by
  intro pins s σ H x y v u Q I rx ry h
  obtain ⟨d, d', hx, hy, sx, sy, nm, q⟩ := h
  obtain ⟨as, ra⟩ := hx.reads I rx
  obtain ⟨bs, rb⟩ := hy.reads I ry
  exact eq_dataH_same ra rb sx sy hu nm ⟨.bl _, H, I, rfl, q⟩
end
theorem iteI {i j : Int} {A B : Prop} (h1 : i = j → A) (h2 : ¬ i = j → B) : if decide (V.int i = V.int j) = true then A else B := by
  by_cases h : i = j
  · rw [if_pos (decide_eq_true (congrArg V.int h))]; exact h1 h
  · rw [if_neg (by simpa using h)]; exact h2 h
theorem iteNI {i j : Int} {A B : Prop} (h1 : ¬ i = j → A) (h2 : i = j → B) : if (!decide (V.int i = V.int j)) = true then A else B := by
  by_cases h : i = j
  · rw [if_neg (by simpa using h)]; exact h2 h
  · rw [if_pos (by simpa using h)]; exact h1 h
theorem iteP {p A B : Prop} [Decidable p] (h1 : p → A) (h2 : ¬ p → B) : if decide p = true then A else B := by
  by_cases h : p
  · rw [if_pos (decide_eq_true h)]; exact h1 h
  · rw [if_neg (by simpa using h)]; exact h2 h
theorem same_upd {H : Hp} {p : Addr} {o : HO} (h : H p = none) : Same H (upd H p o) := fun b u e => by
  rw [upd_ne (ne_of_none e h)]; exact e
end L2
namespace L2
open PySem PySem.Spec PyProof.Rows

section
variable {κ : Type} [DecidableEq κ]
def valV (kvs : List (κ × V)) (k : κ) : Option V := (kvs.find? fun kv => decide (kv.1 = k)).map (·.2)
def putK (kvs : List (κ × V)) (k : κ) (v : V) : List (κ × V) :=
  if (kvs.any fun kv => decide (kv.1 = k)) = true then kvs.map (fun kv => if kv.1 = k then (kv.1, v) else kv) else kvs ++ [(k, v)]
def dropK (kvs : List (κ × V)) (k : κ) : List (κ × V) := kvs.filter fun kv => decide (kv.1 ≠ k)

theorem valV_pos {p : κ × V} {r : List (κ × V)} {k : κ} (e : p.1 = k) : valV (p :: r) k = some p.2 := by simp [valV, List.find?_cons, e]
theorem valV_neg {p : κ × V} {r : List (κ × V)} {k : κ} (e : ¬ p.1 = k) : valV (p :: r) k = valV r k := by simp [valV, List.find?_cons, e]
theorem valV_any (k : κ) : ∀ kvs : List (κ × V), (kvs.any fun kv => decide (kv.1 = k)) = (valV kvs k).isSome
  | [] => rfl
  | p :: r => by
    rw [List.any_cons]
    by_cases e : p.1 = k
    · simp only [valV_pos e, decide_eq_true e, Bool.true_or, Option.isSome_some]
    · rw [valV_neg e, decide_eq_false e, Bool.false_or]; exact valV_any k r
theorem length_putK (kvs : List (κ × V)) (k : κ) (v : V) : (putK kvs k v).length ≤ kvs.length + 1 := by
  unfold putK
  split
  · rw [List.length_map]; omega
  · rw [List.length_append, List.length_cons, List.length_nil]; omega

theorem RelO.isSome_eq {o : Option V} {u : Option Value} (r : RelO o u) : o.isSome = u.isSome := by
  cases o with
  | none => cases u with
    | none => rfl
    | some _ => exact (show False from r).elim
  | some _ => cases u with
    | none => exact (show False from r).elim
    | some _ => rfl
theorem RelO.getD {o : Option V} {u : Option Value} {d : V} {d' : Value} (r : RelO o u) (rd : RelV d d') : RelV (o.getD d) (u.getD d') := by
  cases o with
  | none => cases u with
    | none => exact rd
    | some _ => exact (show False from r).elim
  | some _ => cases u with
    | none => exact (show False from r).elim
    | some _ => exact r

theorem KV.val {kvs : List (κ × V)} {vs : List (κ × Value)} (r : KV kvs vs) (k : κ) : RelO (valV kvs k) (valueAt vs k) := by
  unfold KV at r
  induction r with
  | nil => exact True.intro
  | @cons p q ps qs h t ih =>
    obtain ⟨h1, h2⟩ := h
    by_cases e : p.1 = k
    · have e' : q.1 = k := h1.symm.trans e
      have b : valueAt (q :: qs) k = some q.2 := by simp [valueAt, List.find?_cons, e']
      rw [valV_pos e, b]; exact h2
    · have e' : ¬ q.1 = k := fun z => e (h1.trans z)
      have b : valueAt (q :: qs) k = valueAt qs k := by simp [valueAt, List.find?_cons, e']
      rw [valV_neg e, b]; exact ih
theorem KV.any {kvs : List (κ × V)} {vs : List (κ × Value)} (r : KV kvs vs) (k : κ) : (kvs.any fun kv => decide (kv.1 = k)) = vs.any fun kv => decide (kv.1 = k) := by
  unfold KV at r
  induction r with
  | nil => rfl
  | cons h t ih => rw [List.any_cons, List.any_cons, ih, h.1]
theorem KV.repl {kvs : List (κ × V)} {vs : List (κ × Value)} (r : KV kvs vs) (k : κ) {y : V} {u : Value} (ry : RelV y u) :
    KV (kvs.map fun kv => if kv.1 = k then (kv.1, y) else kv) (vs.map fun kv => if kv.1 = k then (kv.1, u) else kv) := by
  unfold KV at r ⊢
  induction r with
  | nil => exact .nil
  | @cons p q ps qs h t ih =>
    rw [List.map_cons, List.map_cons]
    refine .cons ?_ ih
    obtain ⟨h1, h2⟩ := h
    by_cases e : p.1 = k
    · rw [if_pos e, if_pos (h1.symm.trans e)]; exact ⟨h1, ry⟩
    · rw [if_neg e, if_neg (fun z => e (h1.trans z))]; exact ⟨h1, h2⟩
theorem KV.put {kvs : List (κ × V)} {vs : List (κ × Value)} (r : KV kvs vs) (k : κ) {y : V} {u : Value} (ry : RelV y u) : KV (putK kvs k y) (stored vs k u) := by
  unfold putK stored
  rw [r.any k]
  by_cases e : (vs.any fun kv => decide (kv.1 = k)) = true
  · rw [if_pos e, if_pos e]; exact r.repl k ry
  · rw [if_neg e, if_neg e]; exact Paired.snoc r ⟨rfl, ry⟩
theorem KV.drop {kvs : List (κ × V)} {vs : List (κ × Value)} (r : KV kvs vs) (k : κ) : KV (dropK kvs k) (without vs k) := by
  unfold KV at r ⊢
  unfold dropK without
  induction r with
  | nil => exact .nil
  | @cons p q ps qs h t ih =>
    obtain ⟨h1, h2⟩ := h
    rw [List.filter_cons, List.filter_cons]
    by_cases e : p.1 = k
    · have a : ¬ decide (p.1 ≠ k) = true := by simp [e]
      have b : ¬ decide (q.1 ≠ k) = true := by simp [h1.symm.trans e]
      rw [if_neg a, if_neg b]; exact ih
    · have e' : ¬ q.1 = k := fun z => e (h1.trans z)
      have a : decide (p.1 ≠ k) = true := by simp [e]
      have b : decide (q.1 ≠ k) = true := by simp [e']
      rw [if_pos a, if_pos b]; exact .cons ⟨h1, h2⟩ ih
theorem KV.keys {kvs : List (κ × V)} {vs : List (κ × Value)} (r : KV kvs vs) : kvs.map (·.1) = vs.map (·.1) := by
  unfold KV at r
  induction r with
  | nil => rfl
  | cons h t ih => rw [List.map_cons, List.map_cons, ih, h.1]
theorem KV.length {kvs : List (κ × V)} {vs : List (κ × Value)} (r : KV kvs vs) : kvs.length = vs.length := Paired.length r
end


theorem kV_is {P : Program} {w : World} {k : Key} {u : Value} (r : RelV (kV k) u) : (mixKind P w).is k u = true := by
  cases k with
  | inl i => obtain ⟨t, e⟩ := (show ∃ t, u = Value.int i t from r); subst e; exact mixKind_int P w i t
  | inr x => obtain ⟨t, e⟩ := (show ∃ t, u = Value.str x t from r); subst e; exact mixKind_str P w x t
theorem items_are {P : Program} {w : World} : ∀ {ks : List Key} {us : List Value}, Vals (ks.map kV) us → ItemsAre (mixKind P w) ks us
  | [], _, r => by rw [List.map_nil] at r; cases r; exact .nil
  | k :: ks, _, r => by
    rw [List.map_cons] at r
    cases r with
    | cons h t => exact .cons (kV_is h) (items_are t)

abbrev KT (H : Hp) : List (List Key × V) → List (List Key × Addr × Value) → Prop := Paired fun p q => p.1 = q.1 ∧ H q.2.1 = some (.tup (p.1.map kV)) ∧ RelV p.2 q.2.2
theorem KT.val {H : Hp} {kvs : List (List Key × V)} {xs : List (List Key × Addr × Value)} (r : KT H kvs xs) (k : List Key) : RelO (valV kvs k) ((atKey xs k).map (·.2)) := by
  induction r with
  | nil => exact True.intro
  | @cons p q ps qs h t ih =>
    obtain ⟨h1, _, h2⟩ := h
    by_cases e : p.1 = k
    · have e' : q.1 = k := h1.symm.trans e
      have b : atKey (q :: qs) k = some q.2 := by simp [atKey, List.find?_cons, e']
      rw [valV_pos e, b]; exact h2
    · have e' : ¬ q.1 = k := fun z => e (h1.trans z)
      have b : atKey (q :: qs) k = atKey qs k := by simp [atKey, List.find?_cons, e']
      rw [valV_neg e, b]; exact ih
theorem KT.repl {H : Hp} {kvs : List (List Key × V)} {xs : List (List Key × Addr × Value)} (r : KT H kvs xs) (k : List Key) {y : V} {u : Value} (ry : RelV y u) :
    KT H (kvs.map fun kv => if kv.1 = k then (kv.1, y) else kv) (xs.map (putAt k u)) := by
  induction r with
  | nil => exact .nil
  | @cons p q ps qs h t ih =>
    rw [List.map_cons, List.map_cons]
    refine .cons ?_ ih
    obtain ⟨h1, h2, h3⟩ := h
    unfold putAt
    by_cases e : p.1 = k
    · rw [if_pos e, if_pos (h1.symm.trans e)]; exact ⟨h1, h2, ry⟩
    · rw [if_neg e, if_neg (fun z => e (h1.trans z))]; exact ⟨h1, h2, h3⟩
theorem KT.put {H : Hp} {kvs : List (List Key × V)} {xs : List (List Key × Addr × Value)} (r : KT H kvs xs) (k : List Key) {b : Addr} {y : V} {u : Value} (hb : H b = some (.tup (k.map kV))) (ry : RelV y u) :
    KT H (putK kvs k y) (storedH xs k b u) := by
  have e : (kvs.any fun kv => decide (kv.1 = k)) = (atKey xs k).isSome := by
    rw [valV_any, (r.val k).isSome_eq, Option.isSome_map]
  unfold putK storedH
  rw [e]
  by_cases q : (atKey xs k).isSome = true
  · rw [if_pos q, if_pos q]; exact r.repl k ry
  · rw [if_neg q, if_neg q]; exact Paired.snoc r ⟨rfl, hb, ry⟩
theorem KT.keeps {H H' : Hp} {kvs : List (List Key × V)} {xs : List (List Key × Addr × Value)} (r : KT H kvs xs) (ht : ∀ b ys, H b = some (.tup ys) → H' b = some (.tup ys)) : KT H' kvs xs :=
  Paired.mapP r fun _ _ z => ⟨z.1, ht _ _ z.2.1, z.2.2⟩

section
variable {P : Program} {w : World} {H : Hp} {h : Heap} {a : Addr}
theorem rd_of {u : HO} (ok : HOk P w H h) (e : Rd H a u) : ObjOk P w H h a u := e.ok ok
theorem dk_rd {kvs : List (Key × V)} (ok : HOk P w H h) (e : Rd H a (.dK kvs)) : kvs.length ≤ sizeLine ∧ (a == sysModules) = false ∧ ∃ vs, KV kvs vs ∧ h.DictOf (mixKind P w) a vs :=
  show ObjOk P w H h a (.dK kvs) from rd_of ok e
theorem dk_of {kvs : List (Key × V)} (ok : HOk P w H h) (e : H a = some (.dK kvs)) : kvs.length ≤ sizeLine ∧ (a == sysModules) = false ∧ ∃ vs, KV kvs vs ∧ h.DictOf (mixKind P w) a vs := dk_rd ok (.inl e)
theorem key_of {ks : List Key} (ok : HOk P w H h) (e : H a = some (.tup (ks.map kV))) : (tupleKind (mixKind P w)).is h ks a := by
  obtain ⟨_, its, r, o, h1, h2, n, h3⟩ := (show ObjOk P w H h a (.tup (ks.map kV)) from ok a _ e)
  exact ⟨o, its.toArray, n, h1, h2, h3, by simpa using items_are r⟩
theorem dt_rd {kvs : List (List Key × V)} (ok : HOk P w H h) (e : Rd H a (.dT kvs)) : kvs.length ≤ sizeLine ∧ (a == sysModules) = false ∧
    ∃ xs, KT H kvs xs ∧ h.DictOfH (tupleKind (mixKind P w)) a xs := by
  obtain ⟨z, y, xs, r, o, es, ep, h1, h2, h3, h4, h5⟩ := (show ObjOk P w H h a (.dT kvs) from rd_of ok e)
  refine ⟨z, y, xs, r, o, es, ep, h1, h2, h3, h4, fun x hx => ?_, h5⟩
  have all : ∀ {l : List (List Key × V)} {m : List (List Key × Addr × Value)}, KT H l m → ∀ x ∈ m, (tupleKind (mixKind P w)).is h x.1 x.2.1 := by
    intro l m q
    induction q with
    | nil => intro x hx; exact nomatch hx
    | @cons p q ps qs hq t ih =>
      intro x hx
      rcases List.mem_cons.mp hx with e | hx
      · subst e
        exact key_of ok (by rw [← hq.1]; exact hq.2.1)
      · exact ih x hx
  exact all r x hx
end

def DGet (H : Hp) (a : Addr) (y : V) (r : Option V) : Prop :=
  (∃ kvs k, Rd H a (.dK kvs) ∧ y = kV k ∧ r = valV kvs k) ∨ ∃ kvs k b, Rd H a (.dT kvs) ∧ y = .ref b ∧ H b = some (.tup (k.map kV)) ∧ r = valV kvs k
def DPut (H : Hp) (a : Addr) (y v : V) (H' : Hp) : Prop :=
  (∃ kvs k, H a = some (.dK kvs) ∧ y = kV k ∧ kvs.length < sizeLine ∧ H' = upd H a (.dK (putK kvs k v))) ∨
  ∃ kvs k b, H a = some (.dT kvs) ∧ y = .ref b ∧ H b = some (.tup (k.map kV)) ∧ kvs.length < sizeLine ∧ H' = upd H a (.dT (putK kvs k v))
theorem DGet.k {H : Hp} {a : Addr} {kvs : List (Key × V)} {k : Key} (e : H a = some (.dK kvs)) : DGet H a (kV k) (valV kvs k) := .inl ⟨kvs, k, .inl e, rfl, rfl⟩
theorem DGet.t {H : Hp} {a b : Addr} {kvs : List (List Key × V)} {k : List Key} (e : H a = some (.dT kvs)) (eb : H b = some (.tup (k.map kV))) : DGet H a (.ref b) (valV kvs k) := .inr ⟨kvs, k, b, .inl e, rfl, eb, rfl⟩
theorem DPut.k {H : Hp} {a : Addr} {kvs : List (Key × V)} {k : Key} {v : V} (e : H a = some (.dK kvs)) (hl : kvs.length < sizeLine) : DPut H a (kV k) v (upd H a (.dK (putK kvs k v))) := .inl ⟨kvs, k, e, rfl, hl, rfl⟩
theorem DPut.t {H : Hp} {a b : Addr} {kvs : List (List Key × V)} {k : List Key} {v : V} (e : H a = some (.dT kvs)) (eb : H b = some (.tup (k.map kV))) (hl : kvs.length < sizeLine) :
    DPut H a (.ref b) v (upd H a (.dT (putK kvs k v))) := .inr ⟨kvs, k, b, e, rfl, eb, hl, rfl⟩


section
variable {X : Cx} {pins : List (Addr × Obj)} {σ : St} {H : Hp} {s : Shared} {a : Addr} {y v : V} {u r : Value} {o : Option V} {A : Around} {E : Value → Shared → Prop}

theorem Inv.big (I : Inv X pins σ H s) : sysModules < s.heap.objs.size := by
  have h : mainGlobals < s.heap.objs.size := (I.mod.glob.keeps I.bk).lt
  exact Nat.lt_trans (by decide) h

theorem d_getItem {Q : Value → Shared → Prop} (hu : A.units + 1 < cLine) (I : Inv X pins σ H s) (g : DGet H a y (some v)) (ry : RelV y u) (h : ∀ w' s', Inv X pins σ H s' → RelV v w' → Q w' s') :
    wpAny (model X.prog X.w) A (getItem (.ref a) u) Q E s := by
  rcases g with ⟨kvs, k, e, ey, l⟩ | ⟨kvs, k, b, e, ey, eb, l⟩
  · subst ey
    obtain ⟨z, hd, vs, rel, dd⟩ := dk_rd I.hok e
    obtain ⟨w', hw, rw'⟩ := RelO.some_of (v := v) (o := valueAt vs k) (by rw [l]; exact rel.val k)
    exact wpAny_getItem_of (kV_is ry) dd.mapOf hw (h w' _ (I.tok _) rw')
  · subst ey
    cases (show u = Value.ref b from ry)
    obtain ⟨z, hd, xs, rel, dd⟩ := dt_rd I.hok e
    obtain ⟨w', hw, rw'⟩ := RelO.some_of (v := v) (o := (atKey xs k).map (·.2)) (by rw [l]; exact rel.val k)
    obtain ⟨p, hp, hp2⟩ := Option.map_eq_some_iff.mp hw
    refine wpAny_getItem_heap (tupleKind_room_in1 hu) (key_of I.hok eb) dd hp ?_
    rw [hp2]
    exact h w' _ (I.tok _) rw'
theorem d_write {h' : Heap} {t' : Nat} {ob : HO} (I : Inv X pins σ H s) (mu : Mut (H a)) (hs : Heap.SameBut a s.heap h') (he : ∃ q, h'.get? a = some q) (new : ObjOk X.prog X.w (upd H a ob) h' a ob) :
    Inv X pins σ (upd H a ob) { s with heap := h', toks := t' } :=
  I.write (x := a) (e := a) mu (.inl rfl) (fun b q hb z => (hs.2 b hb).trans z) he new
theorem dk_new {P : Program} {w : World} {H' : Hp} {h' : Heap} {kvs : List (Key × V)} {vs : List (Key × Value)} (z : kvs.length ≤ sizeLine) (hd : (a == sysModules) = false) (rel : KV kvs vs) (dd : h'.DictOf (mixKind P w) a vs) :
    ObjOk P w H' h' a (.dK kvs) := ⟨z, hd, vs, rel, dd⟩
end

section
variable {X : Cx} {pins : List (Addr × Obj)} {σ : St} {H : Hp} {s : Shared} {a : Addr} {kvs : List (Key × V)} {k : Key} {u : Value} {A : Around} {E : Value → Shared → Prop}
end


def NoSl (i : Expr) : Prop := ∀ ov iv, subscripted i false ov iv = operate [ov, iv] (getItem ov iv)
theorem subD_of {prog : Program} {w : World} {A : Around} {E : Value → Shared → Prop} {s : Shared} {env : Env} {value slice : Expr} {pos : Pos} {T id : String} {Q : Value → Shared → Prop}
    (hl : typeLookup (.type T) "__getitem__" = pure (some (.builtin id))) (hs : NoSl slice)
    (h : wpAny (model prog w) A (eval value env) (fun o s₁ => wpAny (model prog w) A (eval slice env) (fun i s₂ => s₂.TypeIs o T ∧ wpAny (model prog w) A (getItem o i) Q E s₂) E s₁) E s) :
    wpAny (model prog w) A (eval (.Subscript value slice pos) env) Q E s := by
  refine Subscript_ (wpAny_mono h (fun o s₁ h₁ => wpAny_mono h₁ (fun i s₂ h₂ => ?_) fun _ _ x => x) fun _ _ x => x)
  obtain ⟨hT, h₂⟩ := h₂
  unfold subscriptTail
  refine wpAny_bind ?_
  rw [getitemInPython_of_ne hT.not_modules]
  refine wpAny_bind (wpAny_specialOf hT hl ?_)
  have fin : wpAny (model prog w) A (subscripted slice false o i) (fun r s₃ => wpAny (model prog w) A (letTemporaryGo value o r >>= fun _ => pure r) Q E s₃) E s₂ := by
    rw [hs o i]
    exact wpAny_operating (wpAny_mono h₂ (fun r s₃ h₃ => wpAny_bind (wpAny_letTemporaryGo (wpAny_pure h₃))) fun _ _ x => x)
  first
    | exact wpAny_pure (wpAny_bind fin)
    | exact wpAny_bind (wpAny_pure (wpAny_bind fin))
    | exact wpAny_bind fin

theorem dict_typeIs {X : Cx} {pins : List (Addr × Obj)} {σ : St} {H : Hp} {s : Shared} {a : Addr} {y : V} {o : Option V} (I : Inv X pins σ H s) (g : DGet H a y o) : s.TypeIs (.ref a) "dict" := by
  rcases g with ⟨kvs, k, e, _, _⟩ | ⟨kvs, k, b, e, _, _, _⟩
  · obtain ⟨_, _, vs, _, dd⟩ := dk_rd I.hok e
    exact dd.typeIs
  · obtain ⟨_, _, xs, _, dd⟩ := dt_rd I.hok e
    exact dd.typeIs

def tDGet (td ty : TE) : TE := fun σ H Q => td σ H fun x H1 => ty σ H1 fun y H2 => ∃ a v, x = .ref a ∧ DGet H2 a y (some v) ∧ Q v H2

section
variable {X : Cx} {o i e value : Expr} {pos pos' tpos : Pos} {td ty tv : TE}
theorem pe_dget (hu : X.A.units + 1 < cLine) (ho : PE X o td) (hi : PE X i ty) (hs : NoSl i) : PE X (.Subscript o i pos) (tDGet td ty) := by
  intro pins s σ H Q I h
  refine subD_of PySem.F.slot_dict_getitem.lookup hs (thn (ho pins s σ H _ I h) fun u s1 ⟨x, H1, I1, rx, q1⟩ => thn (hi pins s1 σ H1 _ I1 q1) fun iv s2 ⟨y, H2, I2, ry, a, v, ex, g, q2⟩ => ?_)
  subst ex
  obtain rfl : u = Value.ref a := rx
  exact ⟨dict_typeIs I2 g, d_getItem hu I2 g ry fun w' s3 I3 rw' => ⟨v, H2, I3, rw', q2⟩⟩
end


theorem dk_empty {P : Program} {w : World} {H : Hp} (h : Heap) (hb : sysModules < h.objs.size) : ObjOk P w H (h.push { cls := .type "dict", data := .dict #[] }) h.objs.size (.dK []) :=
  ⟨Nat.zero_le _, beq_eq_false_iff_ne.mpr (Ne.symm (Nat.ne_of_lt hb)), [], .nil, Heap.DictOf.new h⟩
section
variable {X : Cx} {pos : Pos}
end

def tPairs : List (TE × TE) → St → Hp → (List (V × V) → Hp → Prop) → Prop
  | [], _, H, Q => Q [] H
  | (tk, tv) :: r, σ, H, Q => tk σ H fun x H1 => tv σ H1 fun y H2 => tPairs r σ H2 fun ps H3 => Q ((x, y) :: ps) H3
abbrev VV : List (V × V) → List (Value × Value) → Prop := Paired fun p q => RelV p.1 q.1 ∧ RelV p.2 q.2
def PPs (X : Cx) (pos : Pos) (keys : List (Option Expr)) (values : List Expr) (trs : List (TE × TE)) : Prop :=
  ∀ (pins : List (Addr × Obj)) (s : Shared) (σ : St) (H : Hp) (Q : List (V × V) → Hp → Prop), Inv X pins σ H s → tPairs trs σ H Q →
    wpAny (model X.prog X.w) X.A (evalPairs (pairTrees keys values X.env pos)) (fun vs s' => ∃ ps H', Inv X pins σ H' s' ∧ VV ps vs ∧ Q ps H') X.xe s
theorem pps_nil {X : Cx} {pos : Pos} : PPs X pos [] [] [] := fun pins s σ H Q I h => pairTrees_nil_walk ⟨[], H, I, .nil, h⟩
theorem pps_cons {X : Cx} {pos : Pos} {k v : Expr} {ks : List (Option Expr)} {vs : List Expr} {tk tv : TE} {trs : List (TE × TE)} (hk : PE X k tk) (hv : PE X v tv) (hr : PPs X pos ks vs trs) :
    PPs X pos (some k :: ks) (v :: vs) ((tk, tv) :: trs) := fun pins s σ H Q I h =>
  pairTrees_cons_walk (thn (hk pins s σ H _ I h) fun u s1 ⟨x, H1, I1, rx, q1⟩ => thn (hv pins s1 σ H1 _ I1 q1) fun w2 s2 ⟨y, H2, I2, ry, q2⟩ =>
    thn (hr pins s2 σ H2 _ I2 q2) fun ws s3 ⟨ps, H3, I3, rel, q3⟩ => ⟨(x, y) :: ps, H3, I3, .cons ⟨rx, ry⟩ rel, q3⟩)

def mergeK (kvs more : List (Key × V)) : List (Key × V) := more.foldl (fun acc kv => putK acc kv.1 kv.2) kvs
theorem KV.merge : ∀ {more : List (Key × V)} {rs : List (Key × Value)} {kvs : List (Key × V)} {vs : List (Key × Value)}, KV more rs → KV kvs vs → KV (mergeK kvs more) (merged vs rs) := by
  intro more rs kvs vs r
  unfold KV at r
  induction r generalizing kvs vs with
  | nil => intro q; exact q
  | @cons p q ps qs h t ih =>
    intro r0
    have e : KV (putK kvs p.1 p.2) (stored vs q.1 q.2) := by
      have := r0.put p.1 h.2
      rw [← h.1]; exact this
    exact ih e
theorem length_mergeK : ∀ (more kvs : List (Key × V)), (mergeK kvs more).length ≤ kvs.length + more.length
  | [], kvs => by show kvs.length ≤ kvs.length + 0; omega
  | p :: r, kvs => by
    have h1 := length_mergeK r (putK kvs p.1 p.2)
    have h2 := length_putK kvs p.1 p.2
    show (mergeK (putK kvs p.1 p.2) r).length ≤ _
    rw [List.length_cons]; omega
theorem carries_of {P : Program} {w : World} : ∀ {kvs : List (Key × V)} {ws : List (Value × Value)}, VV (kvs.map fun kv => (kV kv.1, kv.2)) ws → ∃ rs, Carries (mixKind P w) ws rs ∧ KV kvs rs
  | [], _, r => by rw [List.map_nil] at r; cases r; exact ⟨[], True.intro, .nil⟩
  | p :: kvs, _, r => by
    rw [List.map_cons] at r
    cases r with
    | @cons a b as bs h t =>
      obtain ⟨rs, c, q⟩ := carries_of (P := P) (w := w) t
      obtain ⟨b1, b2⟩ := b
      exact ⟨(p.1, b2) :: rs, ⟨kV_is h.1, rfl, c⟩, .cons ⟨rfl, h.2⟩ q⟩
def tDisp (trs : List (TE × TE)) : TE := fun σ H Q => ∀ p, H p = none → tPairs trs σ (upd H p (.dK [])) fun ps H2 => H2 p = some (.dK []) ∧ ∃ kvs : List (Key × V), ps = kvs.map (fun kv => (kV kv.1, kv.2)) ∧ kvs.length ≤ 15 ∧ Q (.ref p) (upd H2 p (.dK (mergeK [] kvs)))
theorem pe_disp {X : Cx} {pos : Pos} {keys : List (Option Expr)} {values : List Expr} {trs : List (TE × TE)} (h : PPs X pos keys values trs) (hall : keys.all (·.isSome) = true) (hl : keys.length = values.length) (h0 : keys ≠ [])
    (h15 : keys.length ≤ 15) : PE X (.Dict keys values pos) (tDisp trs) := by
  intro pins s σ H Q I q
  have hn := I.hok.fresh (Nat.le_refl s.heap.objs.size)
  have I1 := I.laid (a := s.heap.objs.size) (o := .dK []) (h' := s.heap.push { cls := .type "dict", data := .dict #[] }) (t' := s.toks) (fun _ _ q => Heap.get?_push_of_some _ q) (Nat.le_refl _) (dk_empty s.heap I.big)
  refine wpAny_Dict_walk (knd := mixKind X.prog X.w) hall hl h0 h15 (thn (h pins _ σ _ _ I1 (q _ hn)) fun ws s2 ⟨ps, H2, I2, rel, e, kvs, ep, lk, q2⟩ => ?_)
  subst ep
  obtain ⟨rs, c, rk⟩ := carries_of (P := X.prog) (w := X.w) rel
  obtain ⟨z, hd, vs0, r0, dd⟩ := dk_of I2.hok e
  cases r0
  refine ⟨rs, c, dd, fun h' dd' hs => ⟨.ref s.heap.objs.size, _, ?_, rfl, q2⟩⟩
  have hz : (mergeK [] kvs).length ≤ sizeLine := by
    have h1 := length_mergeK kvs []
    rw [List.length_nil] at h1
    rw [sizeLine_eq]; omega
  have he : ∃ q, h'.get? s.heap.objs.size = some q := let ⟨q, _, _, hq, _⟩ := dd'; ⟨q, hq⟩
  exact d_write I2 (by rw [e]; exact True.intro) hs he (dk_new hz hd (rk.merge .nil) dd')


structure M1 (X : Cx) (o : Expr) (m : Str) (apos : Pos) (e : Expr) (cpos : Pos) : Prop where
  base : attributeBase o m X.env (eval o X.env) = eval o X.env
  few : ((backTo cpos (starEach [e] X.env)).all (fun x => !x.1) && (backToKw cpos (keywordEach [] X.env)).all (fun x => x.1.isSome)
    && decide (([e] : List Expr).length + ([] : List Keyword).length + (if ([] : List Keyword).isEmpty then 0 else 1) < 30)) = true
  line : (apos.endLine == cpos.line) = true
  trees : backTo cpos (starEach [e] X.env) = [(false, eval e X.env)]
structure M2 (X : Cx) (o : Expr) (m : Str) (apos : Pos) (e f : Expr) (cpos : Pos) : Prop where
  base : attributeBase o m X.env (eval o X.env) = eval o X.env
  few : ((backTo cpos (starEach [e, f] X.env)).all (fun x => !x.1) && (backToKw cpos (keywordEach [] X.env)).all (fun x => x.1.isSome)
    && decide (([e, f] : List Expr).length + ([] : List Keyword).length + (if ([] : List Keyword).isEmpty then 0 else 1) < 30)) = true
  line : (apos.endLine == cpos.line) = true
  trees : backTo cpos (starEach [e, f] X.env) = [(false, eval e X.env), (false, eval f X.env)]


section
variable {X : Cx} {pins : List (Addr × Obj)} {σ : St} {H : Hp} {s : Shared} {a : Addr} {y d : V} {u r : Value} {o : Option V} {A : Around} {E : Value → Shared → Prop}
end

section
variable {X : Cx} {o e f : Expr} {apos cpos : Pos} {td ty tx : TE}
end

section
variable {X : Cx} {pins : List (Addr × Obj)} {σ : St} {H : Hp} {s : Shared} {a : Addr} {kvs : List (Key × V)} {A : Around} {E : Value → Shared → Prop}
end


section
variable {X : Cx} {pins : List (Addr × Obj)} {σ : St} {H : Hp} {s : Shared} {a : Addr} {y : V} {u : Value} {A : Around} {E : Value → Shared → Prop}
end
end L2

namespace Mine
@[irreducible] def dv (a b : Int) : Int := (Int.gcd a b : Int)
theorem dv_nonneg (a b : Int) : 0 ≤ dv a b := by unfold dv; exact Int.natCast_nonneg _
theorem dv_fmod (a b : Int) : dv b (a.fmod b) = dv a b := by
  unfold dv
  have e : a.fmod b = a - a.fdiv b * b := by rw [Int.fmod_def, Int.mul_comm]
  rw [e, Int.gcd_sub_mul_right_right, Int.gcd_comm]
theorem dv_zero (a : Int) : dv a 0 = (a.natAbs : Int) := by
  unfold dv; rw [Int.gcd_zero_right]
theorem dv_abs (a b : Int) : dv (a.natAbs : Int) (b.natAbs : Int) = dv a b := by
  unfold dv Int.gcd; simp
theorem fmod_abs_lt (a b : Int) (h : b ≠ 0) : (a.fmod b).natAbs < b.natAbs := by
  rcases Int.lt_trichotomy b 0 with hb | hb | hb
  · have e : a.fmod b = -((-a).fmod (-b)) := by
      simp [Int.neg_fmod_neg] 
    have h1 := Int.fmod_nonneg_of_pos (-a) (show 0 < -b by omega)
    have h2 := Int.fmod_lt_of_pos (-a) (show 0 < -b by omega)
    omega
  · exact absurd hb h
  · have h1 := Int.fmod_nonneg_of_pos a hb
    have h2 := Int.fmod_lt_of_pos a hb
    omega
theorem d_turn {a b g r : Int} (h : dv g r = dv a b) (hr : 0 < r) : 0 ≤ r ∧ 0 ≤ g.fmod r ∧ dv r (g.fmod r) = dv a b :=
  ⟨by omega, Int.fmod_nonneg_of_pos g hr, by rw [dv_fmod, h]⟩
theorem d_less {g r : Int} (hr : 0 < r) : (g.fmod r).toNat < r.toNat := by
  have h1 := Int.fmod_nonneg_of_pos g hr
  have h2 := Int.fmod_lt_of_pos g hr
  omega
theorem d_out {a b g r : Int} (h : dv g r = dv a b) (g0 : 0 ≤ g) (r0 : 0 ≤ r) (hr : ¬ 0 < r) : g = dv a b := by
  have e : r = 0 := by omega
  rw [← h, e, dv_zero]; omega
theorem l_turn {a b x y : Int} (h : dv x y = dv a b) : dv y (x.fmod y) = dv a b := by rw [dv_fmod, h]
theorem l_out {a b x y : Int} (h : dv x y = dv a b) (hy : y = 0) : (x.natAbs : Int) = dv a b := by
  rw [← h, hy, dv_zero]
theorem dv_left (a b : Int) : ∃ q, a = dv a b * q := by
  obtain ⟨q, hq⟩ := Int.gcd_dvd_left a b
  exact ⟨q, by unfold dv; exact hq⟩
theorem dv_right (a b : Int) : ∃ q, b = dv a b * q := by
  obtain ⟨q, hq⟩ := Int.gcd_dvd_right a b
  exact ⟨q, by unfold dv; exact hq⟩
theorem dv_eq_zero {a b : Int} (h : dv a b = 0) : a = 0 ∧ b = 0 := by
  obtain ⟨q, hq⟩ := dv_left a b
  obtain ⟨r, hr⟩ := dv_right a b
  rw [h] at hq hr
  exact ⟨by omega, by omega⟩
theorem dv_pos {a b : Int} (h : b ≠ 0) : 0 < dv a b := by
  have := dv_nonneg a b
  rcases (by omega : dv a b = 0 ∨ 0 < dv a b) with e | e
  · exact absurd (dv_eq_zero e).2 h
  · exact e
theorem dv_le (a b : Int) (h : b ≠ 0) : dv a b ≤ (b.natAbs : Int) := by
  have : Int.gcd a b ≤ b.natAbs := by
    unfold Int.gcd
    exact Nat.gcd_le_right _ (by omega)
  unfold dv; omega
theorem fdiv_mul {g q : Int} (hg : g ≠ 0) : (g * q).fdiv g = q := Int.mul_fdiv_cancel_left q hg
@[irreducible] def sg (a b : Int) : Int := if b < 0 then -(dv a b) else dv a b
@[irreducible] def tp (a b : Int) : Int := a.fdiv (sg a b)
@[irreducible] def bt (a b : Int) : Int := b.fdiv (sg a b)
theorem sg_pos {a b : Int} (h : ¬ b < 0) : sg a b = dv a b := by unfold sg; rw [if_neg h]
theorem sg_neg {a b : Int} (h : b < 0) : sg a b = -(dv a b) := by unfold sg; rw [if_pos h]
theorem sg_ne {a b : Int} (h : b ≠ 0) : sg a b ≠ 0 := by
  have := dv_pos (a := a) h
  unfold sg; split <;> omega
theorem tp_mul {a b : Int} (h : b ≠ 0) : sg a b * tp a b = a := by
  obtain ⟨q, hq⟩ := dv_left a b
  have hs := sg_ne (a := a) h
  have : ∃ k, a = sg a b * k := by
    unfold sg; split
    · exact ⟨-q, by rw [Int.neg_mul_neg]; exact hq⟩
    · exact ⟨q, hq⟩
  obtain ⟨k, hk⟩ := this
  have e : tp a b = k := by
    unfold tp
    conv => lhs; lhs; rw [hk]
    exact fdiv_mul hs
  rw [e]; exact hk.symm
theorem bt_mul {a b : Int} (h : b ≠ 0) : sg a b * bt a b = b := by
  obtain ⟨q, hq⟩ := dv_right a b
  have hs := sg_ne (a := a) h
  have : ∃ k, b = sg a b * k := by
    unfold sg; split
    · exact ⟨-q, by rw [Int.neg_mul_neg]; exact hq⟩
    · exact ⟨q, hq⟩
  obtain ⟨k, hk⟩ := this
  have e : bt a b = k := by
    unfold bt
    conv => lhs; lhs; rw [hk]
    exact fdiv_mul hs
  rw [e]; exact hk.symm
theorem bt_pos {a b : Int} (h : b ≠ 0) : 0 < bt a b := by
  have e := bt_mul (a := a) h
  have g := dv_pos (a := a) h
  rcases (by omega : 0 < bt a b ∨ bt a b ≤ 0) with p | p
  · exact p
  · exfalso
    by_cases hb : b < 0
    · rw [sg_neg hb, Int.neg_mul] at e
      have := Int.mul_nonpos_of_nonneg_of_nonpos (Int.le_of_lt g) p
      omega
    · rw [sg_pos hb] at e
      have := Int.mul_nonpos_of_nonneg_of_nonpos (Int.le_of_lt g) p
      omega
theorem cross {a b : Int} (h : b ≠ 0) : tp a b * b = a * bt a b := by
  have e1 := tp_mul (a := a) h
  have e2 := bt_mul (a := a) h
  calc tp a b * b = tp a b * (sg a b * bt a b) := by rw [e2]
    _ = (sg a b * tp a b) * bt a b := by rw [Int.mul_comm (sg a b) (tp a b), Int.mul_assoc]
    _ = a * bt a b := by rw [e1]
theorem natAbs_sg (a b : Int) : (sg a b).natAbs = Int.gcd a b := by
  unfold sg dv; split <;> omega
theorem gcd_scale {a b s t u : Int} (e1 : s * t = a) (e2 : s * u = b) : Int.gcd a b = s.natAbs * Int.gcd t u := by
  rw [← e1, ← e2, Int.gcd_mul_left]
theorem low {a b : Int} (h : b ≠ 0) : dv (tp a b) (bt a b) = 1 := by
  have e := gcd_scale (tp_mul (a := a) h) (bt_mul (a := a) h)
  rw [natAbs_sg] at e
  have p := dv_pos (a := a) h
  have q : 0 < Int.gcd a b := by unfold dv at p; omega
  have : Int.gcd a b * Int.gcd (tp a b) (bt a b) = Int.gcd a b * 1 := by rw [← e, Nat.mul_one]
  have := Nat.eq_of_mul_eq_mul_left q this
  unfold dv; rw [this]; rfl
theorem coprime_eq {a b c d : Int} (hb : 0 < b) (hd : 0 < d) (h1 : dv a b = 1) (h2 : dv c d = 1) (e : a * d = c * b) : a = c ∧ b = d := by
  have g1 : Nat.Coprime b.natAbs a.natAbs := by
    have : Int.gcd a b = 1 := by unfold dv at h1; omega
    unfold Int.gcd at this
    exact Nat.Coprime.symm this
  have g2 : Nat.Coprime d.natAbs c.natAbs := by
    have : Int.gcd c d = 1 := by unfold dv at h2; omega
    unfold Int.gcd at this
    exact Nat.Coprime.symm this
  have en : a.natAbs * d.natAbs = c.natAbs * b.natAbs := by rw [← Int.natAbs_mul, ← Int.natAbs_mul, e]
  have d1 : b.natAbs ∣ d.natAbs := g1.dvd_of_dvd_mul_left ⟨c.natAbs, by rw [en, Nat.mul_comm]⟩
  have d2 : d.natAbs ∣ b.natAbs := g2.dvd_of_dvd_mul_left ⟨a.natAbs, by rw [← en, Nat.mul_comm]⟩
  have eb : b.natAbs = d.natAbs := Nat.dvd_antisymm d1 d2
  have ebd : b = d := by omega
  refine ⟨?_, ebd⟩
  rw [ebd] at e
  exact Int.eq_of_mul_eq_mul_right (by omega) e
theorem tp_uniq {a b x y : Int} (h : b ≠ 0) (hy : 0 < y) (hl : dv x y = 1) (e : a * y = x * b) : tp a b = x ∧ bt a b = y := by
  refine coprime_eq (bt_pos h) hy (low h) hl ?_
  have c := cross (a := a) h
  -- tp*y = x*bt : multiply by b
  have : (tp a b * y) * b = (x * bt a b) * b := by
    calc (tp a b * y) * b = (tp a b * b) * y := by rw [Int.mul_assoc, Int.mul_comm y b, ← Int.mul_assoc]
      _ = (a * bt a b) * y := by rw [c]
      _ = (a * y) * bt a b := by rw [Int.mul_assoc, Int.mul_comm (bt a b) y, ← Int.mul_assoc]
      _ = (x * b) * bt a b := by rw [e]
      _ = (x * bt a b) * b := by rw [Int.mul_assoc, Int.mul_comm b, ← Int.mul_assoc]
  exact Int.eq_of_mul_eq_mul_right h this
theorem natAbs_fdiv_le (a s : Int) (k : Int) (e : s * k = a) (hs : s ≠ 0) : k.natAbs ≤ a.natAbs := by
  have : a.natAbs = s.natAbs * k.natAbs := by rw [← e, Int.natAbs_mul]
  rw [this]
  exact Nat.le_mul_of_pos_left _ (by omega)
theorem tp_le {a b : Int} (h : b ≠ 0) : (tp a b).natAbs ≤ a.natAbs := natAbs_fdiv_le a _ _ (tp_mul h) (sg_ne h)
theorem bt_le {a b : Int} (h : b ≠ 0) : (bt a b).natAbs ≤ b.natAbs := natAbs_fdiv_le b _ _ (bt_mul h) (sg_ne h)

theorem same_cross {a b c d : Int} (hb : b ≠ 0) (hd : d ≠ 0) (e : a * d = c * b) : tp a b = tp c d ∧ bt a b = bt c d := by
  refine tp_uniq hb (bt_pos hd) (low hd) ?_
  have h := cross (a := c) hd
  have : (a * bt c d) * d = (tp c d * b) * d := by
    calc (a * bt c d) * d = (a * d) * bt c d := by rw [Int.mul_assoc, Int.mul_comm (bt c d) d, ← Int.mul_assoc]
      _ = (c * b) * bt c d := by rw [e]
      _ = (c * bt c d) * b := by rw [Int.mul_assoc, Int.mul_comm b, ← Int.mul_assoc]
      _ = (tp c d * d) * b := by rw [h]
      _ = (tp c d * b) * d := by rw [Int.mul_assoc, Int.mul_comm d b, ← Int.mul_assoc]
  exact Int.eq_of_mul_eq_mul_right hd this
theorem lo_self {x y : Int} (hy : 0 < y) (hl : dv x y = 1) : tp x y = x ∧ bt x y = y := tp_uniq (by omega) hy hl rfl
theorem ne_mul {a b : Int} (ha : a ≠ 0) (hb : b ≠ 0) : a * b ≠ 0 := Int.mul_ne_zero ha hb
theorem plus_assoc {a b c d e f T B T' B' : Int} (hb : b ≠ 0) (hd : d ≠ 0) (hf : f ≠ 0) (hB : B ≠ 0) (hB' : B' ≠ 0)
    (h1 : T * (b * d) = (a * d + c * b) * B) (h2 : T' * (d * f) = (c * f + e * d) * B') :
    tp (T * f + e * B) (B * f) = tp (a * B' + T' * b) (b * B') ∧ bt (T * f + e * B) (B * f) = bt (a * B' + T' * b) (b * B') := by
  refine same_cross (ne_mul hB hf) (ne_mul hb hB') ?_
  have k : ((T * f + e * B) * (b * B')) * ((b * d) * (d * f)) = ((a * B' + T' * b) * (B * f)) * ((b * d) * (d * f)) := by
    grind
  exact Int.eq_of_mul_eq_mul_right (ne_mul (ne_mul hb hd) (ne_mul hd hf)) k
theorem times_assoc {a b c d e f T B T' B' : Int} (hb : b ≠ 0) (hd : d ≠ 0) (hf : f ≠ 0) (hB : B ≠ 0) (hB' : B' ≠ 0)
    (h1 : T * (b * d) = (a * c) * B) (h2 : T' * (d * f) = (c * e) * B') :
    tp (T * e) (B * f) = tp (a * T') (b * B') ∧ bt (T * e) (B * f) = bt (a * T') (b * B') := by
  refine same_cross (ne_mul hB hf) (ne_mul hb hB') ?_
  have k : ((T * e) * (b * B')) * ((b * d) * (d * f)) = ((a * T') * (B * f)) * ((b * d) * (d * f)) := by
    grind
  exact Int.eq_of_mul_eq_mul_right (ne_mul (ne_mul hb hd) (ne_mul hd hf)) k
theorem distrib {a b c d e f T B P U R V : Int} (hb : b ≠ 0) (hd : d ≠ 0) (hf : f ≠ 0) (hB : B ≠ 0) (hU : U ≠ 0) (hV : V ≠ 0)
    (h1 : T * (d * f) = (c * f + e * d) * B) (h2 : P * (b * d) = (a * c) * U) (h3 : R * (b * f) = (a * e) * V) :
    tp (a * T) (b * B) = tp (P * V + R * U) (U * V) ∧ bt (a * T) (b * B) = bt (P * V + R * U) (U * V) := by
  refine same_cross (ne_mul hb hB) (ne_mul hU hV) ?_
  have k : ((a * T) * (U * V)) * ((d * f) * ((b * d) * (b * f))) = ((P * V + R * U) * (b * B)) * ((d * f) * ((b * d) * (b * f))) := by
    grind
  exact Int.eq_of_mul_eq_mul_right (ne_mul (ne_mul hd hf) (ne_mul (ne_mul hb hd) (ne_mul hb hf))) k
theorem plus_comm {a b c d : Int} : tp (a * d + c * b) (b * d) = tp (c * b + a * d) (d * b) ∧ bt (a * d + c * b) (b * d) = bt (c * b + a * d) (d * b) := by
  rw [Int.add_comm, Int.mul_comm b d]; exact ⟨rfl, rfl⟩
theorem times_comm {a b c d : Int} : tp (a * c) (b * d) = tp (c * a) (d * b) ∧ bt (a * c) (b * d) = bt (c * a) (d * b) := by
  rw [Int.mul_comm a c, Int.mul_comm b d]; exact ⟨rfl, rfl⟩
theorem plus_zero {a b : Int} (hb : 0 < b) (hl : dv a b = 1) : tp (a * 1 + 0 * b) (b * 1) = a ∧ bt (a * 1 + 0 * b) (b * 1) = b := by
  have e1 : a * 1 + 0 * b = a := by omega
  have e2 : b * 1 = b := by omega
  rw [e1, e2]; exact lo_self hb hl
theorem times_one {a b : Int} (hb : 0 < b) (hl : dv a b = 1) : tp (a * 1) (b * 1) = a ∧ bt (a * 1) (b * 1) = b := by
  rw [Int.mul_one, Int.mul_one]; exact lo_self hb hl
theorem dv01 : dv 0 1 = 1 := by unfold dv; decide
theorem dv11 : dv 1 1 = 1 := by unfold dv; decide
theorem times_zero {a b : Int} (hb : 0 < b) : tp (a * 0) (b * 1) = 0 ∧ bt (a * 0) (b * 1) = 1 :=
  tp_uniq (by omega) (by omega) dv01 (by omega)
theorem dv_comm (a b : Int) : dv a b = dv b a := by unfold dv; rw [Int.gcd_comm]

open PySem
theorem abs_start (a b : Int) : dv (if a < 0 then -a else a) (if b < 0 then -b else b) = dv a b := by
  have e : ∀ x : Int, (if x < 0 then -x else x) = (x.natAbs : Int) := fun x => by split <;> omega
  rw [e, e, dv_abs]
theorem start1 (a b : Int) : 0 ≤ (if a < 0 then -a else a) ∧ 0 ≤ (if b < 0 then -b else b) ∧ dv (if a < 0 then -a else a) (if b < 0 then -b else b) = dv a b :=
  ⟨by split <;> omega, by split <;> omega, abs_start a b⟩
theorem out2 {a b x y : Int} (h : dv x y = dv a b) (hy : y = 0) : (if x < 0 then -x else x) = dv a b := by
  rw [← l_out h hy]; split <;> omega

structure S1 (x : Int) : Prop where
  lo : -10000000000000000000000000000000 ≤ x
  hi : x ≤ 10000000000000000000000000000000
structure S2 (x : Int) : Prop where
  lo : -1000000000000000000000000000000000000000000000000000000000000000 ≤ x
  hi : x ≤ 1000000000000000000000000000000000000000000000000000000000000000
structure Po (x : Int) : Prop where
  lo : 0 < x
theorem S1.two {x : Int} (h : S1 x) : S2 x := ⟨by have := h.lo; omega, by have := h.hi; omega⟩
theorem S1.zero : S1 0 := ⟨by decide, by decide⟩
theorem S1.one : S1 1 := ⟨by decide, by decide⟩
theorem Po.one : Po 1 := ⟨by decide⟩
theorem S2.lt {y : Int} (h : S2 y) : y.natAbs < 2 ^ 210 := by
  have : (2 : Nat) ^ 210 > 1000000000000000000000000000000000000000000000000000000000000000 := by decide
  have := h.lo
  have := h.hi
  omega
theorem mul_in {x y : Int} (hx : S1 x) (hy : S1 y) : -100000000000000000000000000000000000000000000000000000000000000 ≤ x * y ∧ x * y ≤ 100000000000000000000000000000000000000000000000000000000000000 := by
  have x0 := hx.lo
  have x1 := hx.hi
  have y0 := hy.lo
  have y1 := hy.hi
  have h : (x * y).natAbs = x.natAbs * y.natAbs := Int.natAbs_mul x y
  have k : x.natAbs * y.natAbs ≤ 10000000000000000000000000000000 * 10000000000000000000000000000000 := Nat.mul_le_mul (by omega) (by omega)
  omega
theorem S2.mul {x y : Int} (hx : S1 x) (hy : S1 y) : S2 (x * y) := ⟨by have := mul_in hx hy; omega, by have := mul_in hx hy; omega⟩
theorem Po.mul {x y : Int} (hx : Po x) (hy : Po y) : Po (x * y) := ⟨Int.mul_pos hx.lo hy.lo⟩
theorem Po.ne {x : Int} (h : Po x) : x ≠ 0 := by have := h.lo; omega
theorem Po.sg {a b : Int} (h : Po b) : dv a b = sg a b := (sg_pos (by have := h.lo; omega)).symm
theorem S1.tp {a b : Int} (h : S1 a) (p : Po b) : S1 (tp a b) := by
  have l := tp_le (a := a) p.ne
  have := h.lo
  have := h.hi
  exact ⟨by omega, by omega⟩
theorem S2.tp {a b : Int} (h : S2 a) (p : Po b) : S2 (tp a b) := by
  have l := tp_le (a := a) p.ne
  have := h.lo
  have := h.hi
  exact ⟨by omega, by omega⟩
theorem S1.bt {a b : Int} (h : S1 b) (p : Po b) : S1 (bt a b) := by
  have l := bt_le (a := a) p.ne
  have := h.lo
  have := h.hi
  exact ⟨by omega, by omega⟩
theorem S2.bt {a b : Int} (h : S2 b) (p : Po b) : S2 (bt a b) := by
  have l := bt_le (a := a) p.ne
  have := h.lo
  have := h.hi
  exact ⟨by omega, by omega⟩
theorem Po.bt {a b : Int} (p : Po b) : Po (bt a b) := ⟨bt_pos p.ne⟩
theorem S2.dv {a b : Int} (h : S2 b) (p : Po b) : S2 (dv a b) := by
  have := dv_le a b p.ne
  have := dv_nonneg a b
  have := h.lo
  have := h.hi
  exact ⟨by omega, by omega⟩
structure Low (a b : Int) : Prop where
  one : dv a b = 1
theorem cp {a b c d : Int} (_ : Low (tp (c * b + a * d) (d * b)) (bt (c * b + a * d) (d * b))) : tp (a * d + c * b) (b * d) = tp (c * b + a * d) (d * b) ∧ bt (a * d + c * b) (b * d) = bt (c * b + a * d) (d * b) := plus_comm
theorem ct {a b c d : Int} (_ : Low (tp (c * a) (d * b)) (bt (c * a) (d * b))) : tp (a * c) (b * d) = tp (c * a) (d * b) ∧ bt (a * c) (b * d) = bt (c * a) (d * b) := times_comm
end Mine
namespace Mine
def Pr (p : Nat) : Prop := 2 ≤ p ∧ ∀ d, 2 ≤ d → d * d ≤ p → ¬ p % d = 0
theorem Pr.div {p d : Nat} (h : Pr p) (hd : d ∣ p) : d = 1 ∨ d = p := by
  obtain ⟨k, hk⟩ := hd
  have p2 := h.1
  rcases (by omega : d = 0 ∨ d = 1 ∨ 2 ≤ d) with e | e | e
  · rw [e, Nat.zero_mul] at hk; omega
  · exact .inl e
  · rcases (by omega : k = 0 ∨ k = 1 ∨ 2 ≤ k) with f | f | f
    · rw [f, Nat.mul_zero] at hk; omega
    · rw [f, Nat.mul_one] at hk; exact .inr hk.symm
    · exfalso
      rcases Nat.le_total d k with g | g
      · have : d * d ≤ p := by rw [hk]; exact Nat.mul_le_mul_left d g
        exact h.2 d e this (by rw [hk]; exact Nat.mul_mod_right d k)
      · have : k * k ≤ p := by rw [hk]; exact Nat.mul_le_mul_right k g
        exact h.2 k f this (by rw [hk]; exact Nat.mul_mod_left d k)
theorem Pr.cop {p a : Nat} (h : Pr p) (ha : ¬ p ∣ a) : Nat.Coprime p a := by
  have d1 := Nat.gcd_dvd_left p a
  have d2 := Nat.gcd_dvd_right p a
  rcases h.div d1 with e | e
  · exact e
  · rw [e] at d2; exact absurd d2 ha
theorem Pr.mul {p a b : Nat} (h : Pr p) (hd : p ∣ a * b) : p ∣ a ∨ p ∣ b := by
  by_cases c : p ∣ a
  · exact .inl c
  · exact .inr ((h.cop c).dvd_of_dvd_mul_left hd)
theorem small {p a : Nat} (h0 : 0 < a) (h1 : a < p) : ¬ p ∣ a := fun h => by
  have := Nat.le_of_dvd h0 h
  omega
theorem hole : ∀ (n : Nat) (l : List Nat), l.Nodup → (∀ a ∈ l, a < n) → l.length ≤ n
  | 0, l, _, h => by
    cases l with
    | nil => exact Nat.le_refl 0
    | cons a r => exact absurd (h a (List.mem_cons_self ..)) (by omega)
  | n + 1, l, nd, h => by
    by_cases c : n ∈ l
    · have e := List.length_erase_of_mem c
      have := hole n (l.erase n) (nd.erase n) (fun a ha => by
        have m := (List.Nodup.mem_erase_iff nd).mp ha
        have := h a m.2
        have := m.1
        omega)
      omega
    · have := hole n l nd (fun a ha => by
        have := h a ha
        have : a ≠ n := fun e => c (e ▸ ha)
        omega)
      omega
theorem fe {a p : Int} (hp : 0 < p) : a.fmod p = a % p := Int.fmod_eq_emod_of_nonneg a (Int.le_of_lt hp)
theorem em1 (a b p : Int) : (a % p * b) % p = (a * b) % p := by rw [Int.mul_emod, Int.emod_emod_of_dvd a (Int.dvd_refl p), ← Int.mul_emod]
theorem em2 (a b p : Int) : (a * (b % p)) % p = (a * b) % p := by rw [Int.mul_comm, em1, Int.mul_comm]
theorem r_in {a p : Int} (hp : 0 < p) : 0 ≤ a.fmod p ∧ a.fmod p < p := ⟨Int.fmod_nonneg_of_pos a hp, Int.fmod_lt_of_pos a hp⟩
theorem r_pa {x y z p : Int} (hp : 0 < p) : ((x + y).fmod p + z).fmod p = (x + (y + z).fmod p).fmod p := by
  simp only [fe hp, Int.emod_add_emod, Int.add_emod_emod, Int.add_assoc]
theorem r_ta {x y z p : Int} (hp : 0 < p) : ((x * y).fmod p * z).fmod p = (x * (y * z).fmod p).fmod p := by
  simp only [fe hp, em1, em2, Int.mul_assoc]
theorem r_d {x y z p : Int} (hp : 0 < p) : (x * (y + z).fmod p).fmod p = ((x * y).fmod p + (x * z).fmod p).fmod p := by
  simp only [fe hp, em2, Int.emod_add_emod, Int.add_emod_emod, Int.mul_add]
theorem r_self {x p : Int} (h0 : 0 ≤ x) (h1 : x < p) : x.fmod p = x := by
  rw [fe (by omega)]; exact Int.emod_eq_of_lt h0 h1
def ri (p x : Int) : Int := (x ^ (p.toNat - 2)) % p
def PI (n : Int) : Prop := 2 ≤ n ∧ ∀ d : Int, 2 ≤ d → d * d ≤ n → ¬ n.fmod d = 0
noncomputable def isP (n : Int) : Bool := @decide (PI n) (Classical.propDecidable _)
theorem isP_true {n : Int} (h : isP n = true) : PI n := @of_decide_eq_true _ (Classical.propDecidable _) h
theorem isP_of {n : Int} (h : PI n) : isP n = true := @decide_eq_true _ (Classical.propDecidable _) h
theorem sq_lt {d f n : Int} (hd : 2 ≤ d) (hf : 2 ≤ f) (h : d * d ≤ n) (g : ¬ f * f ≤ n) : d < f := by
  rcases Int.lt_or_le d f with e | e
  · exact e
  · have : f * f ≤ d * d := Int.mul_le_mul e e (by omega) (by omega)
    omega
theorem sq_le {f n : Int} (hf : 2 ≤ f) (h : f * f ≤ n) : f + 1 ≤ n := by
  have : 2 * f ≤ f * f := Int.mul_le_mul_of_nonneg_right hf (by omega)
  omega
theorem p_check (n k : Nat) (h2 : 2 ≤ n) (hk : n < k * k) (h : (List.range k).all (fun d => d < 2 || n % d != 0) = true) : isP (n : Int) = true := by
  refine isP_of ⟨by omega, fun d hd hdd e => ?_⟩
  have hk2 : ¬ (k : Int) * (k : Int) ≤ (n : Int) := by
    have : ((n : Nat) : Int) < ((k * k : Nat) : Int) := by omega
    rw [Int.natCast_mul] at this; omega
  have kk : 2 ≤ (k : Int) := by
    rcases (by omega : k = 0 ∨ k = 1 ∨ 2 ≤ k) with c | c | c
    · subst c; omega
    · subst c; omega
    · omega
  have lt := sq_lt hd kk hdd hk2
  have dn : (d.toNat : Int) = d := Int.toNat_of_nonneg (by omega)
  have := List.all_eq_true.mp h d.toNat (List.mem_range.mpr (by omega))
  rw [← dn, fe (by omega), ← Int.natCast_emod] at e
  have e' : n % d.toNat = 0 := by omega
  simp [e'] at this
  omega
theorem p999983 : isP 999983 = true := p_check 999983 1000 (by decide) (by decide) (by decide +kernel)
theorem p65537 : isP 65537 = true := p_check 65537 257 (by decide) (by decide) (by decide +kernel)
theorem p2 : isP 2 = true := p_check 2 2 (by decide) (by decide) (by decide +kernel)
theorem p3 : isP 3 = true := p_check 3 2 (by decide) (by decide) (by decide +kernel)
theorem p5 : isP 5 = true := p_check 5 3 (by decide) (by decide) (by decide +kernel)
theorem p7 : isP 7 = true := p_check 7 3 (by decide) (by decide) (by decide +kernel)
theorem p11 : isP 11 = true := p_check 11 4 (by decide) (by decide) (by decide +kernel)
theorem p13 : isP 13 = true := p_check 13 4 (by decide) (by decide) (by decide +kernel)
theorem p101 : isP 101 = true := p_check 101 11 (by decide) (by decide) (by decide +kernel)
end Mine
namespace Mine
open PySem PySem.SeqAt
structure SR where
  W : Type
  add : W → W → W
  mul : W → W → W
  zero : W
  one : W
  add_comm : ∀ x y, add x y = add y x
  add_assoc : ∀ x y z, add (add x y) z = add x (add y z)
  mul_comm : ∀ x y, mul x y = mul y x
  mul_assoc : ∀ x y z, mul (mul x y) z = mul x (mul y z)
  distrib : ∀ x y z, mul x (add y z) = add (mul x y) (mul x z)
  add_zero : ∀ x, add x zero = x
  mul_one : ∀ x, mul x one = x
  mul_zero : ∀ x, mul x zero = zero
  zo : zero ≠ one
  sz : Nat → W → Prop
  sz_mono : ∀ m n x, m ≤ n → sz m x → sz n x
  sz_add : ∀ m n x y, sz m x → sz n y → sz (m + n + 1) (add x y)
  sz_mul : ∀ m n x y, sz m x → sz n y → sz (m + n) (mul x y)
  sz_zero : sz 0 zero
  sz_one : sz 0 one
  data : W → PyData
  sh : ∀ x, shaped (data x) = true
  nm : ∀ x y, noMix (data x) (data y) = true
  eq : ∀ x, PySem.Spec.same (data x) (data x) = true
  ne : ∀ x y, x ≠ y → PySem.Spec.same (data x) (data y) = false
structure Fr where
  t : Int
  b : Int
  p : 0 < b
  l : dv t b = 1
theorem Fr.eq_of {x y : Fr} (h1 : x.t = y.t) (h2 : x.b = y.b) : x = y := by
  cases x; cases y; cases h1; cases h2; rfl
theorem Fr.nb (x : Fr) : x.b ≠ 0 := by have := x.p; omega
def Fr.of (a b : Int) (h : 0 < b) : Fr := ⟨tp a b, bt a b, bt_pos (by omega), low (by omega)⟩
theorem Fr.of_cross (a b : Int) (h : 0 < b) : (Fr.of a b h).t * b = a * (Fr.of a b h).b := cross (by omega)
def Fr.add (x y : Fr) : Fr := Fr.of (x.t * y.b + y.t * x.b) (x.b * y.b) (Int.mul_pos x.p y.p)
def Fr.mul (x y : Fr) : Fr := Fr.of (x.t * y.t) (x.b * y.b) (Int.mul_pos x.p y.p)
def Fr.zero : Fr := ⟨0, 1, by decide, dv01⟩
def Fr.one : Fr := ⟨1, 1, by decide, dv11⟩
def Fr.sz (n : Nat) (x : Fr) : Prop := x.t.natAbs ≤ 2 ^ n ∧ x.b.natAbs ≤ 2 ^ n
theorem pw_add (m n : Nat) : (2 : Nat) ^ (m + n) = 2 ^ m * 2 ^ n := Nat.pow_add 2 m n
theorem mul_sz {a b : Int} {m n : Nat} (h1 : a.natAbs ≤ 2 ^ m) (h2 : b.natAbs ≤ 2 ^ n) : (a * b).natAbs ≤ 2 ^ (m + n) := by
  rw [Int.natAbs_mul, pw_add]; exact Nat.mul_le_mul h1 h2
theorem sum_sz {a b c d : Int} {m n : Nat} (h1 : a.natAbs ≤ 2 ^ m) (h2 : b.natAbs ≤ 2 ^ n) (h3 : c.natAbs ≤ 2 ^ n) (h4 : d.natAbs ≤ 2 ^ m) : (a * b + c * d).natAbs ≤ 2 ^ (m + n + 1) := by
  have k1 := mul_sz h1 h2
  have k2 := mul_sz h3 h4
  rw [Nat.add_comm n m] at k2
  have k3 : (a * b + c * d).natAbs ≤ (a * b).natAbs + (c * d).natAbs := Int.natAbs_add_le _ _
  have k4 : (2 : Nat) ^ (m + n + 1) = 2 ^ (m + n) * 2 := Nat.pow_succ ..
  omega
theorem of_sz {a b : Int} {h : 0 < b} {m : Nat} (h1 : a.natAbs ≤ 2 ^ m) (h2 : b.natAbs ≤ 2 ^ m) : (Fr.of a b h).sz m :=
  ⟨Nat.le_trans (tp_le (by omega)) h1, Nat.le_trans (bt_le (by omega)) h2⟩
theorem pw_le {m n : Nat} (h : m ≤ n) : (2 : Nat) ^ m ≤ 2 ^ n := Nat.pow_le_pow_right (by decide) h
def frSR : SR where
  W := Fr
  add := Fr.add
  mul := Fr.mul
  zero := Fr.zero
  one := Fr.one
  add_comm x y := Fr.eq_of plus_comm.1 plus_comm.2
  add_assoc x y z :=
    have h := plus_assoc (f := z.b) (e := z.t) x.nb y.nb z.nb (Fr.add x y).nb (Fr.add y z).nb (Fr.of_cross _ _ (Int.mul_pos x.p y.p)) (Fr.of_cross _ _ (Int.mul_pos y.p z.p))
    Fr.eq_of h.1 h.2
  mul_comm x y := Fr.eq_of times_comm.1 times_comm.2
  mul_assoc x y z :=
    have h := times_assoc (f := z.b) (e := z.t) x.nb y.nb z.nb (Fr.mul x y).nb (Fr.mul y z).nb (Fr.of_cross _ _ (Int.mul_pos x.p y.p)) (Fr.of_cross _ _ (Int.mul_pos y.p z.p))
    Fr.eq_of h.1 h.2
  distrib x y z :=
    have h := distrib (a := x.t) (f := z.b) (e := z.t) x.nb y.nb z.nb (Fr.add y z).nb (Fr.mul x y).nb (Fr.mul x z).nb (Fr.of_cross _ _ (Int.mul_pos y.p z.p)) (Fr.of_cross _ _ (Int.mul_pos x.p y.p)) (Fr.of_cross _ _ (Int.mul_pos x.p z.p))
    Fr.eq_of h.1 h.2
  add_zero x := Fr.eq_of (plus_zero x.p x.l).1 (plus_zero x.p x.l).2
  mul_one x := Fr.eq_of (times_one x.p x.l).1 (times_one x.p x.l).2
  mul_zero x := Fr.eq_of (times_zero x.p).1 (times_zero x.p).2
  zo h := by have : (0 : Int) = 1 := congrArg Fr.t h; omega
  sz := Fr.sz
  sz_mono m n x h s := ⟨Nat.le_trans s.1 (pw_le h), Nat.le_trans s.2 (pw_le h)⟩
  sz_add m n x y h1 h2 := of_sz (sum_sz h1.1 h2.2 h2.1 h1.2) (Nat.le_trans (mul_sz h1.2 h2.2) (pw_le (Nat.le_succ _)))
  sz_mul m n x y h1 h2 := of_sz (mul_sz h1.1 h2.1) (mul_sz h1.2 h2.2)
  sz_zero := ⟨by decide, by decide⟩
  sz_one := ⟨by decide, by decide⟩
  data x := .tuple [.int x.t, .int x.b]
  sh x := rfl
  nm x y := by simp [noMix, noMixAll]
  eq x := by simp [PySem.Spec.same, PySem.Spec.sameAll]
  ne x y h := by
    simp [PySem.Spec.same, PySem.Spec.sameAll]
    intro h1 h2
    exact h (Fr.eq_of h1 h2)
structure Re (p : Int) where
  x : Int
  h0 : 0 ≤ x
  h1 : x < p
theorem Re.eq_of {p : Int} {a b : Re p} (h : a.x = b.x) : a = b := by cases a; cases b; cases h; rfl
def Re.of (p : Int) (hp : 0 < p) (x : Int) : Re p := ⟨x.fmod p, (r_in hp).1, (r_in hp).2⟩
def resSR (p : Int) (hp : 2 ≤ p) : SR where
  W := Re p
  add a b := Re.of p (by omega) (a.x + b.x)
  mul a b := Re.of p (by omega) (a.x * b.x)
  zero := ⟨0, by omega, by omega⟩
  one := ⟨1, by omega, by omega⟩
  add_comm a b := Re.eq_of (by show (a.x + b.x).fmod p = (b.x + a.x).fmod p; rw [Int.add_comm])
  add_assoc a b c := Re.eq_of (r_pa (by omega))
  mul_comm a b := Re.eq_of (by show (a.x * b.x).fmod p = (b.x * a.x).fmod p; rw [Int.mul_comm])
  mul_assoc a b c := Re.eq_of (r_ta (by omega))
  distrib a b c := Re.eq_of (r_d (by omega))
  add_zero a := Re.eq_of (by show (a.x + 0).fmod p = a.x; rw [Int.add_zero]; exact r_self a.h0 a.h1)
  mul_one a := Re.eq_of (by show (a.x * 1).fmod p = a.x; rw [Int.mul_one]; exact r_self a.h0 a.h1)
  mul_zero a := Re.eq_of (by show (a.x * 0).fmod p = 0; rw [Int.mul_zero]; exact r_self (by omega) (by omega))
  zo h := by have : (0 : Int) = 1 := congrArg Re.x h; omega
  sz _ _ := True
  sz_mono _ _ _ _ _ := trivial
  sz_add _ _ _ _ _ _ := trivial
  sz_mul _ _ _ _ _ _ := trivial
  sz_zero := trivial
  sz_one := trivial
  data a := .int a.x
  sh _ := rfl
  nm _ _ := by simp [noMix]
  eq _ := by simp [PySem.Spec.same]
  ne a b h := by
    simp [PySem.Spec.same]
    intro e
    exact h (Re.eq_of e)
def cAdd : Option Int → Option Int → Option Int
  | none, y => y
  | x, none => x
  | some a, some b => some (if b < a then b else a)
def cMul : Option Int → Option Int → Option Int
  | some a, some b => some (a + b)
  | _, _ => none
def cData : Option Int → PyData
  | none => .none
  | some i => .int i
def costSR : SR where
  W := Option Int
  add := cAdd
  mul := cMul
  zero := none
  one := some 0
  add_comm x y := by
    cases x <;> cases y <;> simp only [cAdd]
    congr 1; split <;> split <;> omega
  add_assoc x y z := by
    cases x <;> cases y <;> cases z <;> simp only [cAdd]
    congr 1; repeat (split <;> try omega)
  mul_comm x y := by
    cases x <;> cases y <;> simp only [cMul]
    congr 1; omega
  mul_assoc x y z := by
    cases x <;> cases y <;> cases z <;> simp only [cMul]
    congr 1; omega
  distrib x y z := by
    cases x <;> cases y <;> cases z <;> simp only [cMul, cAdd]
    congr 1; repeat (split <;> try omega)
  add_zero x := by cases x <;> rfl
  mul_one x := by
    cases x with
    | none => rfl
    | some a => simp only [cMul]; congr 1; omega
  mul_zero x := by cases x <;> rfl
  zo h := by cases h
  sz _ _ := True
  sz_mono _ _ _ _ _ := trivial
  sz_add _ _ _ _ _ _ := trivial
  sz_mul _ _ _ _ _ _ := trivial
  sz_zero := trivial
  sz_one := trivial
  data := cData
  sh x := by cases x <;> rfl
  nm x y := by cases x <;> cases y <;> simp [cData, noMix]
  eq x := by cases x <;> simp [cData, PySem.Spec.same]
  ne x y h := by cases x <;> cases y <;> simp_all [cData, PySem.Spec.same]
def truthSR : SR where
  W := Bool
  add := fun a b => a || b
  mul := fun a b => a && b
  zero := false
  one := true
  add_comm x y := by cases x <;> cases y <;> rfl
  add_assoc x y z := by cases x <;> cases y <;> cases z <;> rfl
  mul_comm x y := by cases x <;> cases y <;> rfl
  mul_assoc x y z := by cases x <;> cases y <;> cases z <;> rfl
  distrib x y z := by cases x <;> cases y <;> cases z <;> rfl
  add_zero x := by cases x <;> rfl
  mul_one x := by cases x <;> rfl
  mul_zero x := by cases x <;> rfl
  zo h := by cases h
  sz _ _ := True
  sz_mono _ _ _ _ _ := trivial
  sz_add _ _ _ _ _ _ := trivial
  sz_mul _ _ _ _ _ _ := trivial
  sz_zero := trivial
  sz_one := trivial
  data := .bool
  sh _ := rfl
  nm _ _ := by simp [noMix]
  eq _ := by simp [PySem.Spec.same]
  ne a b h := by simp_all [PySem.Spec.same]
end Mine
namespace L2
open PySem PySem.Spec PyProof.Rows
/-- no files beside the program -/
class Plain (P : Program) : Prop where
  tree : P.given.tree = none
section
variable {X : Cx}
theorem Inv.seer {pins : List (Addr × Obj)} {σ : St} {H : Hp} {s : Shared} (I : Inv X pins σ H s) : s.heap.NoSeer := I.ok.mod.seer.keeps I.bk
theorem op_fdivP {k : Nat} (hr : Room k X.A) (hk : 34 ≤ k) (hP : X.prog.given.tree = none) (hst : X.stack = X.env :: X.outer := by rfl) (hgen : X.env.scope.isGenerator = false := by rfl) (hco : X.env.scope.isCoroutine = false := by rfl) :
    OpR X (binaryOp .FloorDiv) (rI (fun _ j => j ≠ 0) fun i j => .int (i.fdiv j)) := by
  intro pins s σ H x y v u Q I rx ry h
  obtain ⟨i, j, rfl, rfl, hc, q⟩ := h
  obtain ⟨t, rfl⟩ := rx
  obtain ⟨t', rfl⟩ := ry
  refine floordiv_int hc ⟨.int _, H, I.tok _, ⟨_, rfl⟩, q⟩ (Or.inr (PylongRoom.of I.nolimit ?_ (SeerAt.of I.seer hP (by rw [I.ok.frames, hst]) hgen hco I.ok.blt I.ok.glob)))
  have := hr.dp
  show X.A.depth + 100 < recursionLimit
  omega
def CMulG (i j : Int) : Prop := Builtin.Int.intBits i + Builtin.Int.intBits j ≤ 2 ^ 27
theorem mulOkG {a b : Int} (hc : CMulG a b) : IntMulOk a b := by
  have hc : Builtin.Int.intBits a + Builtin.Int.intBits b ≤ 2 ^ 27 := hc
  have e : Builtin.Int.intTooBig (Builtin.Int.intBits a + Builtin.Int.intBits b) = false := by
    unfold Builtin.Int.intTooBig bitsLine
    exact decide_eq_false (by omega)
  unfold IntMulOk
  rw [e]
  simp
theorem op_mulG : OpR X (binaryOp .Mult) (rI CMulG fun i j => .int (i * j)) := opI fun _ _ _ _ _ _ _ hc q => mul_int q (mulOkG hc)
end
end L2
namespace L2
open PySem PySem.Spec PyProof.Rows
def cloOf (cells : List (Str × Addr)) : List (Str × NameKind) → List (Str × Addr) → List (Str × Addr)
  | [], cs => cs
  | (n, k) :: r, cs => cloOf cells r (if (k == .free) = true then (n, (cells.lookup n).getD 0) :: cs else cs)
theorem clo_for {env : Env} : ∀ (names : List (Str × NameKind)) (cs : List (Str × Addr)), (∀ n, (n, NameKind.free) ∈ names → ∃ c, env.cells.lookup n = some c) →
    (forIn names cs fun (x : Str × NameKind) (r : List (Str × Addr)) => (match x with | (name, kind) => if (kind == NameKind.free) = true then (do let c ← cellOf env name; pure (ForInStep.yield ((name, c) :: r))) else pure (ForInStep.yield r) : Sem (ForInStep (List (Str × Addr))))) = pure (cloOf env.cells names cs)
  | [], cs, _ => rfl
  | (n, k) :: r, cs, h => by
    rw [List.forIn_cons]
    by_cases hk : k = .free
    · subst hk
      obtain ⟨c, hc⟩ := h n List.mem_cons_self
      have ih := clo_for (env := env) r ((n, c) :: cs) fun m hm => h m (List.mem_cons_of_mem _ hm)
      have e1 : cellOf env n = pure c := by unfold cellOf; rw [hc]
      simp only [beq_self_eq_true, if_true, e1, pure_bind]
      rw [ih]
      conv => rhs; unfold cloOf
      simp only [beq_self_eq_true, if_true, hc, Option.getD_some]
    · have hb : (k == NameKind.free) = false := by simpa using hk
      have ih := clo_for (env := env) r cs fun m hm => h m (List.mem_cons_of_mem _ hm)
      simp only [hb, Bool.false_eq_true, if_false, pure_bind]
      rw [ih]
      conv => rhs; unfold cloOf
      simp only [hb, Bool.false_eq_true, if_false]
theorem clo_closure {env : Env} {scope : Scope} (h : ∀ n, (n, NameKind.free) ∈ scope.names → ∃ c, env.cells.lookup n = some c) : closureFor scope env = pure (cloOf env.cells scope.names []) := by
  have e := clo_for (env := env) scope.names [] h
  unfold closureFor
  simp only [bind_pure]
  exact e
theorem clo_in {cells : List (Str × Addr)} : ∀ {names : List (Str × NameKind)} {cs : List (Str × Addr)}, (∀ n, (n, NameKind.free) ∈ names → ∃ c, cells.lookup n = some c) → ∀ {y c}, (cloOf cells names cs).lookup y = some c → cs.lookup y = some c ∨ cells.lookup y = some c
  | [], cs, _, y, c, e => .inl e
  | (n, k) :: r, cs, h, y, c, e => by
    unfold cloOf at e
    have h' : ∀ m, (m, NameKind.free) ∈ r → ∃ c, cells.lookup m = some c := fun m hm => h m (List.mem_cons_of_mem _ hm)
    rcases clo_in h' e with z | z
    · by_cases hk : k = .free
      · subst hk
        obtain ⟨d, hd⟩ := h n List.mem_cons_self
        simp only [beq_self_eq_true, if_true, hd, Option.getD_some] at z
        rw [List.lookup_cons] at z
        cases hy : (y == n) with
        | true =>
          rw [hy] at z
          have : y = n := beq_iff_eq.mp hy
          subst this
          exact .inr (hd.trans z)
        | false => rw [hy] at z; exact .inl z
      · have hb : (k == NameKind.free) = false := by simpa using hk
        simp only [hb, Bool.false_eq_true, if_false] at z
        exact .inl z
    · exact .inr z
theorem clo_has {cells : List (Str × Addr)} : ∀ {names : List (Str × NameKind)} {cs : List (Str × Addr)} {y : Str}, ((∃ c, cs.lookup y = some c) ∨ (y, NameKind.free) ∈ names) → ∃ c, (cloOf cells names cs).lookup y = some c
  | [], cs, y, h => by
    rcases h with h | h
    · exact h
    · cases h
  | (n, k) :: r, cs, y, h => by
    unfold cloOf
    refine clo_has ?_
    rcases h with ⟨c, h⟩ | h
    · left
      split
      · rw [List.lookup_cons]
        cases hy : (y == n) with
        | true => exact ⟨_, rfl⟩
        | false => exact ⟨c, h⟩
      · exact ⟨c, h⟩
    · rcases List.mem_cons.mp h with e | h
      · cases e
        left
        simp only [beq_self_eq_true, if_true]
        rw [List.lookup_cons, beq_self_eq_true]
        exact ⟨_, rfl⟩
      · exact .inr h
theorem compLoop_any {prog : Program} {w : World} {A : Around} {R : Result → Shared → Prop} {s : Shared} {elt target iter : Expr} {scope : Scope} {pos : Pos} {it acc : Value} {env : Env} (I : Nat → Shared → Prop)
    (turn : ∀ n s, I n s → wpAny (model prog w) A (pyNext it) (fun r s₁ => match r with
      | none => R (.ok .next) s₁
      | some v => wpAny (model prog w) A (letOwnedTupleGo target it v) (fun _ s₁' => wpAny (model prog w) A (assign target env v) (fun _ s₂ => wpAny (model prog w) A (eval elt env) (fun x s₃ =>
          wpAny (model prog w) A (call (.builtin "list.append") [acc, x]) (fun _ s₄ => ∃ m, m < n ∧ I m s₄) (fun _ _ => False) s₃) (fun _ _ => False) s₂) (fun _ _ => False) s₁') (fun _ _ => False) s₁) (fun _ _ => False) s)
    (n : Nat) (h : I n s) :
    codeAny (model prog w) A (.compLoop (.ListComp elt [⟨target, iter, [], 0⟩] scope pos) 0 it acc env) R s := by
  refine codeAny_loop rfl I (fun n s hI => ?_) n h
  show wpAny _ _ ((compTurn (.ListComp elt [⟨target, iter, [], 0⟩] scope pos) 0 it acc env).onRaise (fun x => do noteFrame x env; theTreesLotGoes x)) _ _ s
  refine wpAny_noted ?_
  rw [compTurn_list1]
  refine wpAny_bind (wpAny_standAt (wpAny_bind (wpAny_mono (turn n s hI) (fun r s₁ h₁ => ?_) fun _ _ h' => h'.elim)))
  cases r with
  | none => exact wpAny_pure h₁
  | some v =>
    exact wpAny_bind (wpAny_mono h₁ (fun _ s1' h1' => wpAny_bind (wpAny_mono h1' (fun _ s₂ h₂ => wpAny_bind (wpAny_bind (wpAny_mono h₂ (fun x s₃ h₃ => wpAny_bind (wpAny_mono h₃
      (fun _ s₄ h₄ => wpAny_pure (wpAny_pure ⟨rfl, h₄⟩)) fun _ _ h' => h'.elim)) fun _ _ h' => h'.elim))) fun _ _ h' => h'.elim)) fun _ _ h' => h'.elim)
theorem HOk.track {P : Program} {w : World} {H : Hp} {h : Heap} {a : Addr} {o : HO} (x : HOk P w H h) (n : H a = none) (new : ObjOk P w (upd H a o) h a o) : HOk P w (upd H a o) h := fun b u e => by
  by_cases hb : b = a
  · subst hb; rw [upd_same] at e; cases e; exact new
  · rw [upd_ne hb] at e
    exact (x b u e).stay (fun _ _ _ q => q) (fun c q => by rw [upd_ne (ne_of_none q n)]; exact q) fun c xs q => by rw [upd_ne (ne_of_none q n)]; exact q
theorem Un.track {fs ex : List Addr} {H H' : Hp} {h h' : Heap} {a : Addr} {o : HO} (u : Un fs ex H H' h h') (hp : h.objs.size ≤ a) (n : H' a = none) : Un fs ex H (upd H' a o) h h' where
  keep := u.keep
  slot := u.slot
  free := fun b ob q m hx => by rw [upd_ne (Nat.ne_of_lt (Nat.lt_of_lt_of_le (Heap.lt_size q) hp))]; exact u.free b ob q m hx
  there := u.there
  tups := fun b xs q => by have z := u.tups b xs q; rw [upd_ne (ne_of_none z n)]; exact z
  frzs := fun b ob xs q => by have z := u.frzs b ob xs q; rw [upd_ne (ne_of_none z n)]; exact z
  tbls := fun b ps q => by obtain ⟨m, z⟩ := u.tbls b ps q; exact ⟨m, by rw [upd_ne (ne_of_none z n)]; exact z⟩
def compCx (X : Cx) (scope : Scope) (xs : List Str) (C : Addr) (s : Shared) (H : Hp) (fp : List Addr) (pn : List (Addr × Obj)) : Cx :=
  { X with env := compEnvC scope (cloOf X.env.cells scope.names []) C X.env, N := X.N ++ xs, s₀ := s, H₀ := H, outer := X.stack, ex := fp, fn := fun _ => false, pn := pn, xe := fun _ _ => False }
structure CompOk (N : List Str) (S T : Scope) : Prop where
  kind : T.kind = .function
  cell : ∀ y ∈ T.names, y.2 ≠ .cell
  names : ∀ y ∈ T.names, y.2 = .local → T.names.lookup y.1 = some .local
  uniq : ∀ y ∈ T.names, T.names.lookup y.1 = some y.2
  free : ∀ y ∈ T.names, y.2 = .free → S.names.lookup y.1 = some .cell ∨ S.names.lookup y.1 = some .free
  vis : ∀ y ∈ N, T.names.lookup y ≠ some .local
def rl (env : Env) (z : Str × NameKind) : Str × NameKind := match z with | (n, k) => if (k == NameKind.free && env.scope.kind == .function && env.kindOf n == some .cell) then (n, NameKind.cell) else (n, k)
theorem rl_fst (env : Env) (n : Str) (k : NameKind) : (rl env (n, k)).1 = n := by unfold rl; dsimp only; split <;> rfl
theorem rl_snd (env : Env) (n : Str) (k : NameKind) : (rl env (n, k)).2 = k ∨ (k = .free ∧ (rl env (n, k)).2 = .cell) := by
  unfold rl
  dsimp only
  split
  · rename_i h
    simp only [Bool.and_eq_true] at h
    exact .inr ⟨by simpa using h.1.1, rfl⟩
  · exact .inl rfl
theorem rl_lookup {env : Env} : ∀ {names : List (Str × NameKind)} {y : Str} {k : NameKind}, (names.map (rl env)).lookup y = some k → names.lookup y = some k ∨ (names.lookup y = some .free ∧ k = .cell)
  | [], _, _, h => by cases h
  | (n, j) :: r, y, k, h => by
    have ih := @rl_lookup env r y k
    rw [List.map_cons, show rl env (n, j) = ((rl env (n, j)).1, (rl env (n, j)).2) from rfl, rl_fst, List.lookup_cons] at h
    rw [List.lookup_cons]
    cases hy : (y == n) with
    | true =>
      rw [hy] at h
      have h : (rl env (n, j)).2 = k := Option.some.inj h
      rcases rl_snd env n j with z | ⟨z1, z2⟩
      · exact .inl (by rw [← h, z])
      · exact .inr ⟨by rw [z1], by rw [← h, z2]⟩
    | false =>
      rw [hy] at h
      exact ih h
theorem relabel_free {env : Env} {scope : Scope} {y : Str} (hc : ∀ z ∈ scope.names, z.2 ≠ .cell) (h : (relabel scope env).names.lookup y = some .cell ∨ (relabel scope env).names.lookup y = some .free) : scope.names.lookup y = some .free := by
  have e : (relabel scope env).names = scope.names.map (rl env) := rfl
  rw [e] at h
  rcases h with h | h
  · rcases rl_lookup h with z | ⟨z, _⟩
    · exact absurd rfl (hc _ (PySem.mem_of_lookup z))
    · exact z
  · rcases rl_lookup h with z | ⟨z, _⟩
    · exact z
    · exact z
theorem relabel_local {env : Env} {scope : Scope} {y : Str} (h : (relabel scope env).names.lookup y = some .local) : scope.names.lookup y = some .local := by
  have e : (relabel scope env).names = scope.names.map (rl env) := rfl
  rw [e] at h
  rcases rl_lookup h with z | ⟨_, z⟩
  · exact z
  · cases z
theorem Un.but {fs ex : List Addr} {H H' : Hp} {h h1 h2 : Heap} {C : Addr} (u : Un fs ex H H' h h1) (hb : ∀ b o, b ≠ C → h1.get? b = some o → h2.get? b = some o) (hC : h.objs.size ≤ C) : Un fs ex H H' h h2 := by
  have ne : ∀ b o, h.get? b = some o → b ≠ C := fun b o e => Nat.ne_of_lt (Nat.lt_of_lt_of_le (Heap.lt_size e) hC)
  refine ⟨fun b o e n hf hx => hb b o (ne b o e) (u.keep b o e n hf hx), fun b o e n hf hx => ?_, u.free, fun b o e hx => ?_, u.tups, u.frzs, u.tbls⟩
  · obtain ⟨sl, q⟩ := u.slot b o e n hf hx
    exact ⟨sl, hb b _ (ne b o e) q⟩
  · obtain ⟨o', q⟩ := u.there b o e hx
    exact ⟨o', hb b _ (ne b o e) q⟩
theorem HOk.but {P : Program} {w : World} {H : Hp} {h1 h2 : Heap} {C : Addr} (x : HOk P w H h1) (hb : ∀ b o, b ≠ C → h1.get? b = some o → h2.get? b = some o) (n : H C = none) : HOk P w H h2 := fun b u e =>
  (x b u e).stay (fun c v hc q => hb c v (by
    rcases hc with rfl | hc
    · exact ne_of_none e n
    · exact ne_of_none hc n) q) (fun _ q => q) fun _ _ q => q
section
variable {X : Cx} {pins : List (Addr × Obj)} {σ : St} {H : Hp} {s : Shared} {scope : Scope} {xs : List Str} {fp : List Addr} {C : Addr}
theorem comp_free (I : Inv X pins σ H s) (ok : CompOk X.N X.env.scope scope) : ∀ n, (n, NameKind.free) ∈ scope.names → ∃ c, X.env.cells.lookup n = some c := fun n hn => I.ok.has n (ok.free _ hn rfl)
theorem comp_cell (I : Inv X pins σ H s) (ok : CompOk X.N X.env.scope scope) {y : Str} {c : Addr} (e : (cloOf X.env.cells scope.names []).lookup y = some c) : X.env.cells.lookup y = some c := by
  rcases clo_in (comp_free I ok) e with z | z
  · cases z
  · exact z
theorem comp_ok (I : Inv X pins σ H s) (ok : CompOk X.N X.env.scope scope) (hf : ∀ b ∈ fp, FpOk X pins H b) (hx : ∀ b ∈ fp, b < s.heap.objs.size) (hC : s.heap.objs.size ≤ C) :
    (compCx X scope xs C s H fp (X.pn ++ pins)).Ok where
  mod := I.mod
  kind := ok.kind
  glob := I.ok.glob
  blt := I.ok.blt
  above := hC
  inj := fun x y c h1 h2 => I.ok.inj x y c (comp_cell I ok h1) (comp_cell I ok h2)
  has := fun y hy => clo_has (.inr (PySem.mem_of_lookup (relabel_free ok.cell hy)))
  cab := fun x c h => by cases h
  hd := I.ok.hd
  frames := I.ok.frames
  stk := .inl rfl
  exf := fun b hb => ⟨Nat.ne_of_lt (Nat.lt_of_lt_of_le (hx b hb) hC), fun x c e => (hf b hb).2.2.2.2.1 x c (comp_cell I ok e)⟩
  bs := I.bs
  bsz := Nat.le_trans I.ok.bsz I.sz
  noex := fun b o e hb => by
    rcases (hf b hb).2.2.2.1 with z | z
    · exact I.ok.noex b o e z
    · exact absurd (Nat.lt_of_lt_of_le (Heap.lt_size e) (Nat.le_trans I.ok.bsz z)) (Nat.lt_irrefl _)
  exfs := fun b hb z => by
    rcases List.mem_cons.mp (I.stkSub b z) with q | q
    · exact (hf b hb).2.1 q
    · exact (hf b hb).2.2.1 q
  funs := I.stack
  frf := I.stkFree
theorem comp_start (I : Inv X pins σ H s) (ok : CompOk X.N X.env.scope scope) (hf : ∀ b ∈ fp, FpOk X pins H b) (hx : ∀ b ∈ fp, b < s.heap.objs.size) (hC : s.heap.objs.size ≤ C) {h' : Heap} {t' : Nat} {m : Str → Option Value}
    (hn : h'.Ns C m) (hk : ∀ b o, s.heap.get? b = some o → h'.get? b = some o) :
    Inv (compCx X scope xs C s H fp (X.pn ++ pins)) [] (σ ++ List.replicate xs.length none) H { s with heap := h', toks := t' } where
  ok := comp_ok I ok hf hx hC
  os := rfl
  bare := I.bare
  base := Un.kept hk
  loc := by
    refine ⟨m, hn, fun i x v e1 e2 e3 => ?_⟩
    have e1 : (X.N ++ xs)[i]? = some x := e1
    have hi : i < σ.length := by
      by_cases hi : i < σ.length
      · exact hi
      · rw [List.getElem?_append_right (by omega), List.getElem?_replicate] at e2
        split at e2 <;> cases e2
    rw [List.getElem?_append_left hi] at e2
    rw [List.getElem?_append_left (by rw [← I.len]; exact hi)] at e1
    have hxN : x ∈ X.N := List.mem_of_getElem? e1
    have e4 : (relabel scope X.env).names.lookup x = some .cell ∨ (relabel scope X.env).names.lookup x = some .free := by
      rcases e3 with z | z
      · exact absurd (relabel_local z) (ok.vis x hxN)
      · exact z
    have e5 := relabel_free ok.cell e4
    have e6 := ok.free _ (PySem.mem_of_lookup e5) rfl
    obtain ⟨m0, _, hl⟩ := I.loc
    obtain ⟨u, ru, lu⟩ := hl i x v e1 e2 (.inr e6)
    refine ⟨u, ru, .inr ⟨e4, ?_⟩⟩
    rcases lu with ⟨q, _⟩ | ⟨_, c, hc, o, ho, hd⟩
    · have q : X.env.scope.names.lookup x = some .local := q
      rcases e6 with z | z <;> (rw [q] at z; cases z)
    · obtain ⟨c', hc'⟩ := clo_has (cells := X.env.cells) (cs := []) (.inr (PySem.mem_of_lookup e5))
      have := comp_cell I ok hc'
      rw [hc] at this
      cases this
      exact ⟨c, hc', o, hk _ _ ho, hd⟩
  cell := fun x c e => by
    obtain ⟨v, o, ho, hd⟩ := I.cell x c (comp_cell I ok e)
    exact ⟨v, o, hk _ _ ho, hd⟩
  free := I.hok.fresh hC
  freeC := fun x c e => I.freeC x c (comp_cell I ok e)
  pin := fun p hp => by
    rw [List.append_nil] at hp
    obtain ⟨e, n, ne, nf, d⟩ := I.pin p hp
    refine ⟨hk _ _ e, n, Nat.ne_of_lt (Nat.lt_of_lt_of_le (Heap.lt_size e) hC), fun z => ?_, d⟩
    rcases List.mem_cons.mp (I.stkSub p.1 z) with q | q
    · exact ne q
    · exact nf q
  hok := I.hok.kept hk
  len := by
    show (σ ++ List.replicate xs.length none).length = (X.N ++ xs).length
    rw [List.length_append, List.length_append, List.length_replicate, I.len]
end
abbrev CTail (J : It) (k : Nat) (g : TG) (te : TE) (σ : St) (Q : VK) (H1 : Hp) : Prop := ∃ W : Nat → Nat → List V → Hp → Prop, (∃ m, W 0 m [] H1) ∧ ∀ i m ys H, W i m ys H →
  (J.stop i H ∧ ys.length ≤ sizeLine ∧ ∀ p, H p = none → Q (.ref p) (upd H p (.lst ys))) ∨
  (J.go i H ∧ ys.length < sizeLine ∧ ∀ x H', J.yld i H x H' → g x (σ ++ List.replicate k none) H' fun σ2 H2 => (∃ zs, σ2 = σ ++ zs ∧ zs.length = k) ∧ te σ2 H2 fun v H3 => ∃ m', m' < m ∧ W (i + 1) m' (ys ++ [v]) H3)
def tComp (k : Nat) (wi : TI) (g : TG) (te : TE) : TE := fun σ H Q => wi σ H fun J H1 => CTail J k g te σ Q H1
theorem pe_comp {X : Cx} {elt target iter : Expr} {scope : Scope} {pos : Pos} {wi : TI} {g : TG} {te : TE} {xs : List Str} (hc : X.calm = true) (ok : CompOk X.N X.env.scope scope) (hi : PI X target iter wi)
    (hg : ∀ C s H fp pn, PG (compCx X scope xs C s H fp pn) target g) (he : ∀ C s H fp pn, PE (compCx X scope xs C s H fp pn) elt te)
    (hs : ∀ x, foldedSetIterable iter X.env x = pure x := by intro _; rfl) : PE X (.ListComp elt [⟨target, iter, [], 0⟩] scope pos) (tComp xs.length wi g te) := by
  intro pins s σ H Q I h
  rw [eval_ListComp]
  refine wpAny_comprehension_free (use := none) rfl hs (clo_closure (comp_free I ok)) ok.kind ok.names (thn (hi pins s σ H _ I h) fun v s1 h1 => thn h1 fun itv s2 h2 => ?_)
  obtain ⟨it, fp, tn, J, H2, rfl, I2, T, st2, f2, W, ⟨m0, w0⟩, turn⟩ := h2
  refine wpAny_newObj_type (wpAny_newFunctionEnv ok.cell (by intro y hy; simp at hy) (fun h₁ hns₁ hsb₁ => ?_) ok.kind)
  dsimp only at hns₁ hsb₁ ⊢
  generalize hD : s2.heap.objs.size = D
  generalize hH3 : s2.heap.push { cls := .type "list", dict := none, data := .seq ([] : List Value).toArray } = h3 at hns₁ hsb₁ ⊢
  have k23 : ∀ b o, s2.heap.get? b = some o → h3.get? b = some o := fun b o e => hH3 ▸ Heap.get?_push_of_some _ e
  have hC : h3.objs.size = D + 1 := by rw [← hH3, Heap.size_push, hD]
  have eD3 : h3.get? D = some { cls := .type "list", dict := none, data := .seq ([] : List Value).toArray } := by
    rw [← hH3, ← hD]; exact Heap.get?_push_size _ rfl
  have I3 : Inv X pins σ H2 { s2 with heap := h3 } := I2.kept (t' := s2.toks) k23
  have fD : FpOk X pins H2 D := I2.fpOk (by omega) (I2.hok.fresh (by omega))
  have lt2 : ∀ b ∈ fp, b < D := fun b hb => by
    obtain ⟨o, e, _⟩ := T.obj 0 _ st2 b hb
    rw [← hD]
    exact Heap.lt_size e
  have f3 : ∀ b ∈ D :: fp, FpOk X pins H2 b := fun b hb => by
    rcases List.mem_cons.mp hb with rfl | hb
    · exact fD
    · exact f2 b hb
  have hx3 : ∀ b ∈ D :: fp, b < ({ s2 with heap := h3 } : Shared).heap.objs.size := fun b hb => by
    show b < h3.objs.size
    rcases List.mem_cons.mp hb with rfl | hb
    · rw [hC]; exact Nat.lt_succ_self _
    · rw [hC]; exact Nat.lt_succ_of_lt (lt2 b hb)
  have k31 : ∀ b o, h3.get? b = some o → h₁.get? b = some o := fun b o e => hsb₁.extBut b o (Nat.ne_of_lt (Heap.lt_size e)) (Heap.get?_push_of_some _ e)
  have okX := comp_ok (C := h3.objs.size) (xs := xs) I3 ok f3 hx3 (Nat.le_refl _)
  have I4 := comp_start (C := h3.objs.size) (xs := xs) (t' := s2.toks + ([] : List (Str × Value)).length) I3 ok f3 hx3 (Nat.le_refl _) hns₁ k31
  have mD : D ∈ D :: fp := List.mem_cons_self
  have neC : ∀ b ∈ D :: fp, b ≠ h3.objs.size := fun b hb => (okX.exf b hb).1
  have stat : ∀ {H' : Hp} {pl : List (Addr × Obj)}, (∀ b ∈ fp, H' b = none) → (∀ p ∈ pl, p.1 = D) → ∀ b ∈ fp, FpOk (compCx X scope xs h3.objs.size { s2 with heap := h3 } H2 (D :: fp) (X.pn ++ pins)) pl H' b := fun hn hpl b hb => by
    have hb' : b ∈ D :: fp := List.mem_cons_of_mem _ hb
    refine ⟨hn b hb, neC b hb', okX.exfs b hb', .inl hb', (okX.exf b hb').2, fun p hp => ?_⟩
    rcases List.mem_append.mp hp with hp | hp
    · exact (f2 b hb).2.2.2.2.2 p hp
    · rw [hpl p hp]
      exact Nat.ne_of_gt (lt2 b hb)
  have loop : codeAny (model X.prog X.w) X.A (.compLoop (.ListComp elt [⟨target, iter, [], 0⟩] scope pos) 0 (.ref it) (.ref D) (compEnvC scope (cloOf X.env.cells scope.names []) h3.objs.size X.env))
      (compPost (model X.prog X.w) X.A X.xe none (EP X pins σ Q) (.ref D) h3.objs.size) { s2 with heap := h₁, toks := s2.toks + ([] : List (Str × Value)).length } := by
    refine compLoop_any (fun n s' => ∃ i ys its k H', Inv (compCx X scope xs h3.objs.size { s2 with heap := h3 } H2 (D :: fp) (X.pn ++ pins)) [] (σ ++ List.replicate xs.length none) H' s' ∧
      s'.heap.get? D = some { cls := .type "list", data := .seq (its : List Value).toArray k } ∧ Vals ys its ∧ H' D = none ∧ tn i s'.heap ∧ (∀ b ∈ fp, H' b = none) ∧ W i n ys H') ?_ m0
      ⟨0, [], [], _, H2, I4, k31 _ _ eD3, .nil, fD.1, T.keep _ _ _ st2 (fun b _ o e => k31 b o (k23 b o e)), fun b hb => (f2 b hb).1, w0⟩
    rintro n s' ⟨i, ys, its, k, H', I', eD, rv, nD, st, fr, w⟩
    have Ip := I'.pins_of (pins' := [(D, { cls := .type "list", data := .seq its.toArray k })]) fun p hp => by
      rw [List.mem_singleton] at hp
      subst hp
      exact ⟨eD, nD, neC D mD, okX.exfs D mD, fun v z => by cases z⟩
    have one : ∀ p ∈ [(D, ({ cls := .type "list", data := .seq its.toArray k } : Obj))], p.1 = D := fun p hp => by rw [List.mem_singleton] at hp; rw [hp]
    rcases turn i n ys H' w with ⟨stop, hz, q⟩ | ⟨go, hz, step⟩
    · refine thn (T.done (compCx X scope xs h3.objs.size { s2 with heap := h3 } H2 (D :: fp) (X.pn ++ pins)) rfl rfl rfl hc i _ s' _ H' (fun _ _ => False) Ip (stat fr one) st stop) fun r s4 ⟨hr, J4⟩ => ?_
      subst hr
      obtain ⟨mm, hnm, _⟩ := J4.loc
      refine ⟨mm, hnm, fun h' sb => ?_⟩
      obtain ⟨eD4, nD4, _⟩ := J4.pin (D, { cls := .type "list", data := .seq its.toArray k }) (List.mem_append_right _ List.mem_cons_self)
      have hb : ∀ b o, b ≠ h3.objs.size → s4.heap.get? b = some o → h'.get? b = some o := fun b o hn e => sb.extBut b o hn e
      have u0 : Un (frs X.stack) (D :: fp) H2 H' h3 s4.heap := J4.base
      have u : Un (frs X.stack) (D :: fp) H2 H' s2.heap h' := ((Un.kept k23).trans u0).but hb (by omega)
      have os4 : s4.os = s2.os := J4.os
      refine ⟨.ref D, upd H' D (.lst ys), I2.call' (s' := { s4 with heap := h' }) (ch := D :: fp) os4 (u.track (by omega) nD4) ((J4.hok.but hb J4.free).track nD4 ⟨hz, its, k, rv, hb D _ (neC D mD) eD4⟩) J4.bare (fun b hb => ?_), rfl, q D nD4⟩
      have z := f3 b hb
      exact ⟨z.2.2.2.1, z.2.1, z.2.2.2.2.1, z.2.2.2.2.2⟩
    · refine thn (T.item (compCx X scope xs h3.objs.size { s2 with heap := h3 } H2 (D :: fp) (X.pn ++ pins)) rfl rfl rfl hc i _ s' _ H' (fun _ _ => False) Ip (stat fr one) st go) fun r s4 ⟨u, hr, h4⟩ => ?_
      subst hr
      refine thn h4 fun _ s5 ⟨x, H5, I5, r5, y5, st5, fr5⟩ => ?_
      have I5' := I5.pinned (stat fr5 one) (T.obj _ _ st5)
      refine thn (hg _ _ _ _ _ _ s5 _ H5 x u _ I5' r5 (step x H5 y5)) fun _ s6 ⟨σ6, H6, I6, ⟨zs, hz6, hl6⟩, q6⟩ => ?_
      refine thn (he _ _ _ _ _ _ s6 σ6 H6 _ I6 q6) fun xv s7 ⟨v, H7, I7, r7, m', hm', w7⟩ => ?_
      obtain ⟨eD7, nD7, _⟩ := I7.pin (D, { cls := .type "list", data := .seq its.toArray k }) (List.mem_append_right _ (List.mem_append_left _ List.mem_cons_self))
      have len := rv.length
      refine call_meets F.slot_list_append ⟨_, eD7, rfl⟩ F.entry_list_append (F.args_list_append_2 _ _) (PySem.list_append D its.toArray k xv (by rw [List.size_toArray]; omega)) ⟨eD7, ?_⟩
      have q := PySem.IsL.update eD7 (fun a => a.push xv)
      have other : ∀ b o, b ≠ D → s7.heap.get? b = some o → (s7.heap.update D (Obj.mapSeq fun a => a.push xv)).get? b = some o := fun b o hb e => (Heap.get?_update_other s7.heap _ (Ne.symm hb)).trans e
      have pinF : ∀ b ∈ fp, ∀ o, s5.heap.get? b = some o → s7.heap.get? b = some o ∧ H7 b = none := fun b hb o e =>
        ⟨(I7.pin (b, o) (List.mem_append_right _ (List.mem_append_right _ (mem_pinsAt hb e)))).1, (I7.pin (b, o) (List.mem_append_right _ (List.mem_append_right _ (mem_pinsAt hb e)))).2.1⟩
      have I7' := I7.pins_of (pins' := []) fun p hp => by cases hp
      have I8 := I7'.turned (t' := s7.toks) (it := D) other nD7 (neC D mD) (.inl mD) (okX.exf D mD).2 (fun p hp => by
        rw [List.append_nil] at hp
        exact fD.2.2.2.2.2 p hp)
      have I9 := I8.weak (σ' := σ ++ List.replicate xs.length none) (by rw [hz6, List.length_append, List.length_append, List.length_replicate, hl6]) (fun j v' e => by
        have hj : j < σ.length := by
          by_cases hj : j < σ.length
          · exact hj
          · rw [List.getElem?_append_right (by omega), List.getElem?_replicate] at e
            split at e <;> cases e
        rw [List.getElem?_append_left hj] at e
        rw [hz6, List.getElem?_append_left hj]
        exact e)
      have e9 : its.toArray.push xv = (its ++ [xv]).toArray := by simp
      rw [e9] at q
      refine ⟨m', hm', i + 1, ys ++ [v], its ++ [xv], _, H7, I9, q, rv.append (.cons r7 .nil), nD7, T.keep _ _ _ st5 (fun b hb o e => other b o (Nat.ne_of_lt (lt2 b hb)) (pinF b hb o e).1), fun b hb => ?_, w7⟩
      obtain ⟨o, e, _⟩ := T.obj _ _ st5 b hb
      exact (pinF b hb o e).2
  exact codeAny_compStart_list loop (T.self _ 0 _ _ _ (T.keep _ _ _ st2 fun b _ o e => k31 b o (k23 b o e)) loop)
end L2
namespace L2
open PySem PySem.Spec PyProof.Rows
section
variable {X : Cx} {pins : List (Addr × Obj)} {σ : St} {H : Hp} {s : Shared} {i : Nat} {y : Str}
end
end L2
namespace L2
open PySem PySem.Spec PyProof.Rows
section
variable {prog : Program} {w : World} {A : Around} {E : Value → Shared → Prop} {s : Shared}
theorem nextT_item {I t : Addr} {i : Nat} {vs : Array Value} {x : Value} {Q : Value → Shared → Prop} (hI : s.heap.IsTupleIter I t i) (ht : s.heap.IsTuple t vs) (e : vs[i]? = some x)
    (q : ∀ h', h'.IsTupleIter I t (i + 1) → Heap.SameBut I s.heap h' → Q x { s with heap := h' }) : wpAny (model prog w) A (Builtin.SmallTypes.nextOf (.ref I)) Q E s := by
  obtain ⟨o, eo, co, fo⟩ := id hI; obtain ⟨u, eu, _, n, fu⟩ := ht; unfold Builtin.SmallTypes.nextOf
  refine wpAny_bind (wpAny_callSpecial?_slot (name := Str.ofString "__next__") hI.typeIs F.slot_tuple_iterator_next (wpAny_call_entry F.slot_tuple_iterator_next hI.typeIs F.entry_tuple_iterator_next ?_ (F.args_tuple_iterator_next_1 _)))
  show wpAny _ _ (field (.ref I) 0 >>= _) _ _ s
  refine wpAny_bind (wpAny_field eo fo (x := .ref t) rfl ?_); show wpAny _ _ (if (Value.ref t == Value.none) = true then _ else _) _ _ s
  rw [if_neg (show ¬ ((Value.ref t == Value.none) = true) from Bool.false_ne_true)]; show wpAny _ _ (field (.ref I) 1 >>= _) _ _ s
  refine wpAny_bind (wpAny_field eo fo (x := .int i 0) rfl ?_); show wpAny _ _ (seqItems? (.ref t) >>= _) _ _ s
  refine wpAny_bind (wpAny_seqItems eu fu ?_); simp only [Int.toNat_natCast, e]
  refine wpAny_bind (wpAny_setField eo fo (by simp) (wpAny_pure ⟨x, rfl, wpAny_pure (q _ ?_ (Heap.SameBut.update ..))⟩))
  exact ⟨_, Heap.get?_update_self _ eo (Obj.isFreed_of_fields (Obj.data_mapFields fo _)), (Obj.cls_mapFields ..).trans co, by rw [Obj.data_mapFields fo]; simp [rawInt]⟩
theorem nextT_end {I t : Addr} {i : Nat} {vs : Array Value} {Q : Value → Shared → Prop} (hh : A.handled = none) (hI : s.heap.IsTupleIter I t i) (ht : s.heap.IsTuple t vs) (e : vs[i]? = none)
    (q : ∀ h' x, Heap.ExtBut I s.heap h' → (∃ o, h'.get? x = some o ∧ o.cls = .type "StopIteration") → E (.ref x) { s with heap := h' }) : wpAny (model prog w) A (Builtin.SmallTypes.nextOf (.ref I)) Q E s := by
  obtain ⟨o, eo, co, fo⟩ := id hI; obtain ⟨u, eu, _, n, fu⟩ := ht; unfold Builtin.SmallTypes.nextOf
  refine wpAny_bind (wpAny_callSpecial?_slot (name := Str.ofString "__next__") hI.typeIs F.slot_tuple_iterator_next (wpAny_call_entry F.slot_tuple_iterator_next hI.typeIs F.entry_tuple_iterator_next ?_ (F.args_tuple_iterator_next_1 _)))
  show wpAny _ _ (field (.ref I) 0 >>= _) _ _ s
  refine wpAny_bind (wpAny_field eo fo (x := .ref t) rfl ?_); show wpAny _ _ (if (Value.ref t == Value.none) = true then _ else _) _ _ s
  rw [if_neg (show ¬ ((Value.ref t == Value.none) = true) from Bool.false_ne_true)]; show wpAny _ _ (field (.ref I) 1 >>= _) _ _ s
  refine wpAny_bind (wpAny_field eo fo (x := .int i 0) rfl ?_); show wpAny _ _ (seqItems? (.ref t) >>= _) _ _ s
  refine wpAny_bind (wpAny_seqItems eu fu ?_); simp only [Int.toNat_natCast, e]
  refine wpAny_bind (wpAny_rule (wpAny_bind (wpAny_setField eo fo (by simp) ?_))); show wpAny _ _ (newExc (.type "StopIteration") [] >>= _) _ _ _
  refine wpAny_bind ?_; simp only [newExc, newTuple]
  refine wpAny_bind (wpAny_newObj_type ?_ (by size_fits)); refine wpAny_bind (m := firstArgMember _ _) (wpAny_of_eq (a := Value.none) (by first | rfl | (simp only [firstArgMember]; rfl)) ?_)
  refine wpAny_newObj_type ?_ (by size_fits); simp only [raiseNew]; refine wpAny_bind (wpAny_handled ?_)
  first | rw [show A.in1.handled = none from hh] | rw [hh]
  refine wpAny_bind (wpAny_pure (wpAny_throw ?_)); exact q _ _ (((Heap.SameBut.update ..).extBut.push _).push _) ⟨_, Heap.get?_push_size _ rfl, rfl⟩
end
inductive Sr
  | lst (a : Addr)
  | tup (a : Addr)
  | str (x : Str)
def Sr.it : Sr → Heap → Addr → Nat → Prop
  | .lst a, h, I, i => h.IsListIter I a i
  | .tup a, h, I, i => h.IsTupleIter I a i
  | .str x, h, I, i => ∃ t, h.IsStrIter I (strIterType x) x t i
def Sr.has : Sr → Heap → Array Value → Prop
  | .lst a, h, vs => h.IsList a vs
  | .tup a, h, vs => h.IsTuple a vs
  | .str x, _, vs => vs.size = x.cps.size
def Sr.is : Sr → Array Value → Nat → Value → Prop
  | .lst _, vs, i, v => vs[i]? = some v
  | .tup _, vs, i, v => vs[i]? = some v
  | .str x, _, i, v => ∃ c u, x.cps[i]? = some c ∧ v = .str ⟨#[c]⟩ u
def Sr.fp : Sr → Addr → List Addr
  | .lst a, I => [I, a]
  | .tup a, I => [I, a]
  | .str _, I => [I]
def Sr.off : Sr → Addr → Prop
  | .lst a, I => a ≠ I
  | .tup a, I => a ≠ I
  | .str _, _ => True
theorem Sr.it.mv {S : Sr} {h h' : Heap} {I : Addr} {i : Nat} (x : S.it h I i) (k : ∀ o, h.get? I = some o → h'.get? I = some o) : S.it h' I i := by
  cases S with
  | lst a => obtain ⟨o, e, r⟩ := x; exact ⟨o, k o e, r⟩
  | tup a => obtain ⟨o, e, r⟩ := x; exact ⟨o, k o e, r⟩
  | str z => obtain ⟨t, o, e, r⟩ := x; exact ⟨t, o, k o e, r⟩
theorem Sr.it.obj {S : Sr} {h : Heap} {I : Addr} {i : Nat} (x : S.it h I i) : ∃ o, h.get? I = some o ∧ ∀ v, o.data ≠ .cell v := by
  cases S with
  | lst a => obtain ⟨o, e, _, d⟩ := x; exact ⟨o, e, fun v z => by rw [d] at z; cases z⟩
  | tup a => obtain ⟨o, e, _, d⟩ := x; exact ⟨o, e, fun v z => by rw [d] at z; cases z⟩
  | str z => obtain ⟨t, o, e, _, d⟩ := x; exact ⟨o, e, fun v z => by rw [d] at z; cases z⟩
theorem Sr.has.mv {S : Sr} {h h' : Heap} {vs : Array Value} {I : Addr} (x : S.has h vs) (k : ∀ b o, b ≠ I → h.get? b = some o → h'.get? b = some o) (off : S.off I) : S.has h' vs := by
  cases S with
  | lst a => obtain ⟨o, e, r⟩ := x; exact ⟨o, k a o off e, r⟩
  | tup a => obtain ⟨o, e, r⟩ := x; exact ⟨o, k a o off e, r⟩
  | str z => exact x
theorem Sr.draws {prog : Program} {w : World} {A : Around} (S : Sr) (hh : A.handled = none) (I : Addr) (off : S.off I) (vs : Array Value) :
    Draws prog w A I (S.fp I) vs.size (S.is vs) (fun i h => S.it h I i ∧ S.has h vs) := by
  cases S with
  | lst a => exact Draws.list hh I a off vs
  | tup a => exact {
      live := fun _ _ st => let ⟨o, e, _⟩ := st.1; ⟨o, e⟩
      frame := fun _ _ _ st k => ⟨let ⟨o, e, r⟩ := st.1; ⟨o, k I (by simp [Sr.fp]) o e, r⟩, let ⟨o, e, r⟩ := st.2; ⟨o, k a (by simp [Sr.fp]) o e, r⟩⟩
      item := fun i s Q E hi st q => nextT_item st.1 st.2 (x := vs[i]) (by simp [hi]) fun h' a' b' => q _ h' s.toks (show vs[i]? = some vs[i] by simp [hi]) ⟨a', Heap.IsTuple.extBut st.2 b'.extBut off⟩ b'
      done := fun s Q E st q => nextT_end hh st.1 st.2 (by simp) q }
  | str x =>
    cases ha : x.cps.all (· < 128) with
    | true =>
      have e : strIterType x = "str_ascii_iterator" := by simp [strIterType, ha]
      exact {
        live := fun _ _ st => let ⟨_, o, e, _⟩ := st.1; ⟨o, e⟩
        frame := fun _ _ _ st k => ⟨let ⟨t, o, e, r⟩ := st.1; ⟨t, o, k I (by simp [Sr.fp]) o e, r⟩, st.2⟩
        item := fun i s Q E hi st q => by
          obtain ⟨⟨t, g⟩, z⟩ := st
          have hz : vs.size = x.cps.size := z
          rw [e] at g
          exact (Draws.strAscii (prog := prog) (w := w) hh I x t).item i s Q E (by omega) g fun v h' tk p st' sb => q v h' tk p ⟨⟨t, by rw [e]; exact st'⟩, z⟩ sb
        done := fun s Q E st q => by
          obtain ⟨⟨t, g⟩, z⟩ := st
          have hz : vs.size = x.cps.size := z
          rw [e, hz] at g
          exact (Draws.strAscii (prog := prog) (w := w) hh I x t).done s Q E g q }
    | false =>
      have e : strIterType x = "str_iterator" := by simp [strIterType, ha]
      exact {
        live := fun _ _ st => let ⟨_, o, e, _⟩ := st.1; ⟨o, e⟩
        frame := fun _ _ _ st k => ⟨let ⟨t, o, e, r⟩ := st.1; ⟨t, o, k I (by simp [Sr.fp]) o e, r⟩, st.2⟩
        item := fun i s Q E hi st q => by
          obtain ⟨⟨t, g⟩, z⟩ := st
          have hz : vs.size = x.cps.size := z
          rw [e] at g
          exact (Draws.strWide (prog := prog) (w := w) hh I x t).item i s Q E (by omega) g fun v h' tk p st' sb => q v h' tk p ⟨⟨t, by rw [e]; exact st'⟩, z⟩ sb
        done := fun s Q E st q => by
          obtain ⟨⟨t, g⟩, z⟩ := st
          have hz : vs.size = x.cps.size := z
          rw [e, hz] at g
          exact (Draws.strWide (prog := prog) (w := w) hh I x t).done s Q E g q }
end L2
namespace L2
open PySem PySem.Spec PyProof.Rows
structure ZA (S1 S2 : Sr) (z TI TO i1 i2 : Addr) : Prop where
  a : TI ≠ z
  b : TO ≠ z
  c : i1 ≠ z
  d : i2 ≠ z
  e : TI ≠ TO
  f : TI ≠ i1
  g : TI ≠ i2
  h : TO ≠ i1
  i : TO ≠ i2
  j : i1 ≠ i2
  k : ∀ x ∈ [z, TO, i1, i2], S1.off x ∧ S2.off x
structure ZS (S1 S2 : Sr) (v1 v2 : Array Value) (z TI TO i1 i2 : Addr) (n : Nat) (u : Value) (h : Heap) : Prop where
  z : IsZip h z TI TO u
  ti : IsPair h TI (.ref i1) (.ref i2)
  to : ∃ x y, IsPair h TO x y
  s1 : S1.it h i1 n
  s2 : S2.it h i2 n
  h1 : S1.has h v1
  h2 : S2.has h v2
section
variable {prog : Program} {w : World} {A : Around} {E : Value → Shared → Prop} {s : Shared} {S1 S2 : Sr} {v1 v2 : Array Value} {z TI TO i1 i2 : Addr} {n : Nat}
theorem zip_item (D : ZA S1 S2 z TI TO i1 i2) (hh : A.handled = none) (Z : ZS S1 S2 v1 v2 z TI TO i1 i2 n .none s.heap) (l1 : n < v1.size) (l2 : n < v2.size) {Q : Value → Shared → Prop}
    (q : ∀ x y h' tk, S1.is v1 n x → S2.is v2 n y → ZS S1 S2 v1 v2 z TI TO i1 i2 (n + 1) (rawInt s.heap.objs.size) h' → IsPair h' s.heap.objs.size x y → h'.objs.size = s.heap.objs.size + 1 →
      (∀ c o, c ≠ z → c ≠ TO → c ≠ i1 → c ≠ i2 → s.heap.get? c = some o → h'.get? c = some o) → Q (.ref s.heap.objs.size) { s with heap := h', toks := tk }) :
    wpAny (model prog w) A (Builtin.«zip.__next__» ⟨[.ref z], []⟩) (fun fin s' => ∃ v, fin = .done (.ret v) ∧ Q v s') E s := by
  obtain ⟨hp, g0, d0, tk0, os0⟩ := s
  obtain ⟨Zz, Zi, ⟨x0, y0, Zo⟩, Z1, Z2, Y1, Y2⟩ := Z
  have oz := D.k z (by simp); have oT := D.k TO (by simp); have o1 := D.k i1 (by simp); have o2 := D.k i2 (by simp)
  show wpAny _ _ (field (.ref z) 2 >>= _) _ _ _
  refine wpAny_bind (wpAny_field Zz rfl (x := .bool false) rfl ?_); show wpAny _ _ (field (.ref z) 3 >>= _) _ _ _
  refine wpAny_bind (wpAny_field Zz rfl (x := .ref TI) rfl ?_); refine wpAny_bind (wpAny_seqItems Zi rfl ?_)
  show wpAny _ _ (Builtin.SmallTypes.ownedTupleIsFree (.ref z) >>= _) _ _ _
  refine wpAny_bind ?_; unfold Builtin.SmallTypes.ownedTupleIsFree
  refine wpAny_bind (wpAny_field Zz rfl (x := .none) rfl (wpAny_pure ?_)); simp only [if_true]; refine wpAny_bind (wpAny_rule ?_)
  refine wpAny_bind (wpAny_field Zz rfl (x := .ref TO) rfl ?_)
  refine wpAny_bind (wpAny_setField_rec Zz (by simp) fun g1 Za b1 => ?_)
  replace Za : IsZip g1 z TI TO .ellipsis := Za
  replace b1 : Heap.SameBut z hp g1 := b1
  refine wpAny_bind ?_; simp only [List.zipIdx_cons, List.zipIdx_nil, List.forIn_cons, List.forIn_nil]
  -- the first one
  refine wpAny_bind (wpAny_bind (wpAny_onRaise ?_)); show wpAny _ _ (Builtin.SmallTypes.nextOf (.ref i1) >>= _) _ _ _
  refine wpAny_bind ((S1.draws hh i1 o1.1 v1).item n _ _ _ l1 ⟨Z1.mv fun o e => b1.extBut _ _ D.c e, Y1.mv (fun b o hb e => b1.extBut _ _ hb e) oz.1⟩ fun x g2 k2 px st2 b2 => wpAny_pure ?_)
  replace b2 : Heap.SameBut i1 g1 g2 := b2
  have To2 : IsPair g2 TO x0 y0 := b2.extBut _ _ D.h (b1.extBut _ _ D.b Zo)
  refine wpAny_bind (wpAny_seqItems To2 rfl ?_); refine wpAny_bind (wpAny_updateSeq_pair To2 fun g3 To3 b3 => ?_)
  replace To3 : IsPair g3 TO x y0 := To3
  replace b3 : Heap.SameBut TO g2 g3 := b3
  refine wpAny_bind (wpAny_letGo (wpAny_pure ?_))
  -- the second one
  refine wpAny_bind (wpAny_bind (wpAny_onRaise ?_)); show wpAny _ _ (Builtin.SmallTypes.nextOf (.ref i2) >>= _) _ _ _
  refine wpAny_bind ((S2.draws hh i2 o2.2 v2).item n _ _ _ l2 ⟨Z2.mv fun o e => b3.extBut _ _ D.i.symm (b2.extBut _ _ D.j.symm (b1.extBut _ _ D.d e)),
    ((Y2.mv (fun b o hb e => b1.extBut _ _ hb e) oz.2).mv (fun b o hb e => b2.extBut _ _ hb e) o1.2).mv (fun b o hb e => b3.extBut _ _ hb e) oT.2⟩ fun y g4 k4 py st4 b4 => wpAny_pure ?_)
  replace b4 : Heap.SameBut i2 g3 g4 := b4
  have To4 : IsPair g4 TO x y0 := b4.extBut _ _ D.i To3
  refine wpAny_bind (wpAny_seqItems To4 rfl ?_); refine wpAny_bind (wpAny_updateSeq_pair To4 fun g5 To5 b5 => ?_)
  replace To5 : IsPair g5 TO x y := To5
  replace b5 : Heap.SameBut TO g4 g5 := b5
  refine wpAny_bind (wpAny_letGo (wpAny_pure (wpAny_pure ?_)))
  refine wpAny_bind (wpAny_seqItems To5 rfl ?_); refine wpAny_bind (wpAny_newTuple ?_)
  have sz : g5.objs.size = hp.objs.size := by rw [b5.1, b4.1, b3.1, b2.1, b1.1]
  have Z5 : IsZip g5 z TI TO .ellipsis := b5.extBut _ _ D.b.symm (b4.extBut _ _ D.d.symm (b3.extBut _ _ D.b.symm (b2.extBut _ _ D.c.symm Za)))
  have up5 : ∀ c o, c ≠ z → c ≠ TO → c ≠ i1 → c ≠ i2 → hp.get? c = some o → g5.get? c = some o := fun c o n1 n2 n3 n4 e => b5.extBut _ _ n2 (b4.extBut _ _ n4 (b3.extBut _ _ n2 (b2.extBut _ _ n3 (b1.extBut _ _ n1 e))))
  have I1 : S1.it g5 i1 (n + 1) := st2.1.mv fun o e => b5.extBut _ _ D.h.symm (b4.extBut _ _ D.j (b3.extBut _ _ D.h.symm e))
  have I2 : S2.it g5 i2 (n + 1) := st4.1.mv fun o e => b5.extBut _ _ D.i.symm e
  have H1 : S1.has g5 v1 := ((st2.2.mv (fun b o hb e => b3.extBut _ _ hb e) oT.1).mv (fun b o hb e => b4.extBut _ _ hb e) o2.1).mv (fun b o hb e => b5.extBut _ _ hb e) oT.1
  have H2 : S2.has g5 v2 := st4.2.mv (fun b o hb e => b5.extBut _ _ hb e) oT.2
  have zlt : z < g5.objs.size := Heap.lt_size Z5
  show wpAny _ _ (Builtin.SmallTypes.ownedTupleHandOut (.ref z) (.ref g5.objs.size) >>= _) _ _ _
  refine wpAny_bind ?_; unfold Builtin.SmallTypes.ownedTupleHandOut
  have Z6 : IsZip (g5.push { cls := .type "tuple", data := .seq #[x, y] }) z TI TO .ellipsis := Heap.get?_push_of_some _ Z5
  refine wpAny_bind (wpAny_setField_rec Z6 (by simp) fun g7 Z7 b7 => ?_)
  replace Z7 : IsZip g7 z TI TO (rawInt g5.objs.size) := Z7
  refine wpAny_setField_rec Z7 (by simp) fun g8 Z8 b8 => ?_
  replace Z8 : IsZip g8 z TI TO (rawInt g5.objs.size) := Z8
  have up : ∀ c o, c ≠ z → g5.get? c = some o → g8.get? c = some o := fun c o n1 e => b8.extBut _ _ n1 (b7.extBut _ _ n1 (Heap.get?_push_of_some _ e))
  have T8 : IsPair g8 g5.objs.size x y := b8.extBut _ _ (Nat.ne_of_gt zlt) (b7.extBut _ _ (Nat.ne_of_gt zlt) (Heap.get?_push_size _ rfl))
  have sz8 : g8.objs.size = g5.objs.size + 1 := by rw [b8.1, b7.1, Heap.size_push]
  rw [sz] at Z8 T8 sz8
  refine wpAny_pure ⟨_, rfl, ?_⟩
  show Q (.ref g5.objs.size) _
  rw [sz]
  exact q x y g8 k4 px py ⟨Z8, up _ _ D.a (up5 _ _ D.a D.e D.f D.g Zi), ⟨_, _, up _ _ D.b To5⟩, I1.mv fun o e => up _ o D.c e, I2.mv fun o e => up _ o D.d e,
    H1.mv (fun b o hb e => up b o hb e) oz.1, H2.mv (fun b o hb e => up b o hb e) oz.2⟩ T8 sz8 fun c o n1 n2 n3 n4 e => up c o n1 (up5 c o n1 n2 n3 n4 e)
theorem zip_end (D : ZA S1 S2 z TI TO i1 i2) (hh : A.handled = none) (Z : ZS S1 S2 v1 v2 z TI TO i1 i2 n .none s.heap) (l : n = v1.size ∨ (n < v1.size ∧ n = v2.size)) {Q : Fin → Shared → Prop}
    (q : ∀ h' x tk, (∀ c o, c ≠ z → c ≠ TO → c ≠ i1 → c ≠ i2 → s.heap.get? c = some o → h'.get? c = some o) → (∃ o, h'.get? x = some o ∧ o.cls = .type "StopIteration") → E (.ref x) { s with heap := h', toks := tk }) :
    wpAny (model prog w) A (Builtin.«zip.__next__» ⟨[.ref z], []⟩) Q E s := by
  obtain ⟨hp, g0, d0, tk0, os0⟩ := s
  obtain ⟨Zz, Zi, ⟨x0, y0, Zo⟩, Z1, Z2, Y1, Y2⟩ := Z
  have oz := D.k z (by simp); have oT := D.k TO (by simp); have o1 := D.k i1 (by simp); have o2 := D.k i2 (by simp)
  show wpAny _ _ (field (.ref z) 2 >>= _) _ _ _
  refine wpAny_bind (wpAny_field Zz rfl (x := .bool false) rfl ?_); show wpAny _ _ (field (.ref z) 3 >>= _) _ _ _
  refine wpAny_bind (wpAny_field Zz rfl (x := .ref TI) rfl ?_); refine wpAny_bind (wpAny_seqItems Zi rfl ?_)
  show wpAny _ _ (Builtin.SmallTypes.ownedTupleIsFree (.ref z) >>= _) _ _ _
  refine wpAny_bind ?_; unfold Builtin.SmallTypes.ownedTupleIsFree
  refine wpAny_bind (wpAny_field Zz rfl (x := .none) rfl (wpAny_pure ?_)); simp only [if_true]; refine wpAny_bind (wpAny_rule ?_)
  refine wpAny_bind (wpAny_field Zz rfl (x := .ref TO) rfl ?_)
  refine wpAny_bind (wpAny_setField_rec Zz (by simp) fun g1 Za b1 => ?_)
  replace Za : IsZip g1 z TI TO .ellipsis := Za
  replace b1 : Heap.SameBut z hp g1 := b1
  refine wpAny_bind ?_; simp only [List.zipIdx_cons, List.zipIdx_nil, List.forIn_cons, List.forIn_nil]
  have W1 : S1.it g1 i1 n ∧ S1.has g1 v1 := ⟨Z1.mv fun o e => b1.extBut _ _ D.c e, Y1.mv (fun b o hb e => b1.extBut _ _ hb e) oz.1⟩
  refine wpAny_bind (wpAny_bind (wpAny_onRaise ?_)); show wpAny _ _ (Builtin.SmallTypes.nextOf (.ref i1) >>= _) _ _ _
  rcases l with l | ⟨l1, l2⟩
  · refine wpAny_bind ((S1.draws hh i1 o1.1 v1).done _ _ _ (l ▸ W1) fun g2 x b2 ⟨ox, ex, cx⟩ => ?_)
    have Zb : IsZip g2 z TI TO .ellipsis := b2 _ _ D.c.symm Za
    have xz : x ≠ z := fun e => by subst e; rw [Zb] at ex; cases ex; simp at cx
    refine wpAny_setField_rec Zb (by simp) fun g3 _ b3 => q g3 x tk0 (fun c o n1 _ n3 _ e => b3.extBut _ _ n1 (b2 _ _ n3 (b1.extBut _ _ n1 e))) ⟨ox, b3.extBut _ _ xz ex, cx⟩
  · refine wpAny_bind ((S1.draws hh i1 o1.1 v1).item n _ _ _ l1 W1 fun x g2 k2 px st2 b2 => wpAny_pure ?_)
    replace b2 : Heap.SameBut i1 g1 g2 := b2
    have To2 : IsPair g2 TO x0 y0 := b2.extBut _ _ D.h (b1.extBut _ _ D.b Zo)
    refine wpAny_bind (wpAny_seqItems To2 rfl ?_); refine wpAny_bind (wpAny_updateSeq_pair To2 fun g3 To3 b3 => ?_)
    replace b3 : Heap.SameBut TO g2 g3 := b3
    refine wpAny_bind (wpAny_letGo (wpAny_pure ?_)); refine wpAny_bind (wpAny_bind (wpAny_onRaise ?_)); show wpAny _ _ (Builtin.SmallTypes.nextOf (.ref i2) >>= _) _ _ _
    refine wpAny_bind ((S2.draws hh i2 o2.2 v2).done _ _ _ (l2 ▸ ⟨Z2.mv fun o e => b3.extBut _ _ D.i.symm (b2.extBut _ _ D.j.symm (b1.extBut _ _ D.d e)),
      ((Y2.mv (fun b o hb e => b1.extBut _ _ hb e) oz.2).mv (fun b o hb e => b2.extBut _ _ hb e) o1.2).mv (fun b o hb e => b3.extBut _ _ hb e) oT.2⟩) fun g4 x' b4 ⟨ox, ex, cx⟩ => ?_)
    have Zb : IsZip g4 z TI TO .ellipsis := b4 _ _ D.d.symm (b3.extBut _ _ D.b.symm (b2.extBut _ _ D.c.symm Za))
    have xz : x' ≠ z := fun e => by subst e; rw [Zb] at ex; cases ex; simp at cx
    refine wpAny_setField_rec Zb (by simp) fun g5 _ b5 => q g5 x' k2 (fun c o n1 n2 n3 n4 e => b5.extBut _ _ n1 (b4 _ _ n4 (b3.extBut _ _ n2 (b2.extBut _ _ n3 (b1.extBut _ _ n1 e))))) ⟨ox, b5.extBut _ _ xz ex, cx⟩
end
def Begins (h : Heap) (v : Value) (o : Obj) : Prop := ∀ (prog : Program) (w : World) (A : Around) (E : Value → Shared → Prop) (s : Shared) (Q : Value → Shared → Prop), (∀ b u, h.get? b = some u → s.heap.get? b = some u) →
  Q (.ref s.heap.objs.size) { s with heap := s.heap.push o } → wpAny (model prog w) A (pyIter v) Q E s
def Sr.val : Sr → Value → Prop
  | .lst a, v => v = .ref a
  | .tup a, v => v = .ref a
  | .str x, v => ∃ t, v = .str x t
theorem Sr.begins {S : Sr} {h : Heap} {v : Value} {vs : Array Value} (e : S.val v) (x : S.has h vs) : ∃ o : Obj, Begins h v o ∧ o.isFreed = false ∧ ∀ (h' : Heap) (I : Addr), h'.get? I = some o → S.it h' I 0 := by
  cases S with
  | lst a =>
    cases (show v = .ref a from e)
    exact ⟨_, fun _ _ _ _ s Q k q => wpAny_pyIter_list (let ⟨o, e, r⟩ := x; ⟨o, k a o e, r⟩) q, rfl, fun h' I e => ⟨_, e, rfl, rfl⟩⟩
  | tup a =>
    cases (show v = .ref a from e)
    exact ⟨_, fun _ _ _ _ s Q k q => wpAny_pyIter_tuple (let ⟨o, e, r⟩ := x; ⟨o, k a o e, r⟩) q, rfl, fun h' I e => ⟨_, e, rfl, rfl⟩⟩
  | str z =>
    obtain ⟨t, rfl⟩ := (show ∃ t, v = .str z t from e)
    exact ⟨_, fun _ _ _ _ s Q k q => wpAny_pyIter_strU q, rfl, fun h' I e => ⟨t, _, e, rfl, rfl⟩⟩
abbrev zh2 (h : Heap) (o1 o2 : Obj) : Heap := (h.push o1).push o2
abbrev zh3 (h : Heap) (o1 o2 : Obj) : Heap := (zh2 h o1 o2).push { cls := .type "tuple", data := .seq #[.ref h.objs.size, .ref (h.push o1).objs.size] }
abbrev zh4 (h : Heap) (o1 o2 : Obj) : Heap := (zh3 h o1 o2).push { cls := .type "tuple", data := .seq #[.none, .none] }
abbrev zh5 (h : Heap) (o1 o2 : Obj) : Heap := (zh4 h o1 o2).push { cls := .type "zip", data := .fields #[.none, .bool false, .bool false, .ref (zh2 h o1 o2).objs.size, .ref (zh3 h o1 o2).objs.size] }
theorem zip_new (a b : Value) (o1 o2 : Obj) : Meets (Builtin.«zip.__new__» ⟨[.type "zip", a, b], []⟩) (fun _ R s => Begins s.heap a o1 ∧ Begins s.heap b o2 ∧
      R (.ok (.ret (.ref (zh4 s.heap o1 o2).objs.size))) { s with heap := zh5 s.heap o1 o2 }) :=
  .of_wp fun prog w A R s h => by
    obtain ⟨hp, g, d, tk, os⟩ := s; obtain ⟨h1, h2, h⟩ := h
    have hsub := sub_zip
    have k1 : ∀ {A' : Around} {E' : Value → Shared → Prop} {Q : Value → Shared → Prop}, Q (.ref (Shared.heap ⟨hp, g, d, tk, os⟩).objs.size) ⟨hp.push o1, g, d, tk, os⟩ → wpAny (model prog w) A' (pyIter a) Q E' ⟨hp, g, d, tk, os⟩ := fun q => h1 _ _ _ _ _ _ (fun _ _ e => e) q
    have k2 : ∀ {A' : Around} {E' : Value → Shared → Prop} {Q : Value → Shared → Prop}, Q (.ref (Shared.heap ⟨hp.push o1, g, d, tk, os⟩).objs.size) ⟨(hp.push o1).push o2, g, d, tk, os⟩ → wpAny (model prog w) A' (pyIter b) Q E' ⟨hp.push o1, g, d, tk, os⟩ := fun q => h2 _ _ _ _ _ _ (fun _ _ e => Heap.get?_push_of_some _ e) q
    wp_walk using k1, k2
    exact ⟨_, rfl, h⟩
theorem call_zip {prog : Program} {w : World} {A : Around} {E : Value → Shared → Prop} {s : Shared} {S1 S2 : Sr} {v1 v2 : Array Value} {a b : Value} {Q : Value → Shared → Prop} (e1 : S1.val a) (e2 : S2.val b) (x1 : S1.has s.heap v1) (x2 : S2.has s.heap v2)
    (q : ∀ h', ZS S1 S2 v1 v2 (s.heap.objs.size + 4) (s.heap.objs.size + 2) (s.heap.objs.size + 3) s.heap.objs.size (s.heap.objs.size + 1) 0 .none h' → ZA S1 S2 (s.heap.objs.size + 4) (s.heap.objs.size + 2) (s.heap.objs.size + 3) s.heap.objs.size (s.heap.objs.size + 1) →
      (∀ c o, s.heap.get? c = some o → h'.get? c = some o) → Q (.ref (s.heap.objs.size + 4)) { s with heap := h' }) : wpAny (model prog w) A (call (.type "zip") [a, b]) Q E s := by
  obtain ⟨o1, B1, f1, I1⟩ := Sr.begins e1 x1
  obtain ⟨o2, B2, f2, I2⟩ := Sr.begins e2 x2
  refine callType_new F.called_zip (by decide) (F.typeCall_zip_2 _ _) (F.newCall_zip_2 _ _) (fun obj => F.args_object_init_3 obj _ _) F.entry_zip_new (zip_new a b o1 o2) ⟨B1, B2, ?_⟩
  have y1 : (s.heap.push o1).objs.size = s.heap.objs.size + 1 := Heap.size_push ..
  have y2 : (zh2 s.heap o1 o2).objs.size = s.heap.objs.size + 2 := by rw [Heap.size_push, y1]
  have y3 : (zh3 s.heap o1 o2).objs.size = s.heap.objs.size + 3 := by rw [Heap.size_push, y2]
  have y4 : (zh4 s.heap o1 o2).objs.size = s.heap.objs.size + 4 := by rw [Heap.size_push, y3]
  have g5 : (zh5 s.heap o1 o2).get? (zh4 s.heap o1 o2).objs.size = some _ := Heap.get?_push_size _ rfl
  have g4 : (zh5 s.heap o1 o2).get? (zh3 s.heap o1 o2).objs.size = some _ := Heap.get?_push_of_some _ (Heap.get?_push_size _ rfl)
  have g3 : (zh5 s.heap o1 o2).get? (zh2 s.heap o1 o2).objs.size = some _ := Heap.get?_push_of_some _ (Heap.get?_push_of_some _ (Heap.get?_push_size _ rfl))
  have g2 : (zh5 s.heap o1 o2).get? (s.heap.push o1).objs.size = some o2 := Heap.get?_push_of_some _ (Heap.get?_push_of_some _ (Heap.get?_push_of_some _ (Heap.get?_push_size _ f2)))
  have g1 : (zh5 s.heap o1 o2).get? s.heap.objs.size = some o1 := Heap.get?_push_of_some _ (Heap.get?_push_of_some _ (Heap.get?_push_of_some _ (Heap.get?_push_of_some _ (Heap.get?_push_size _ f1))))
  have up : ∀ c o, s.heap.get? c = some o → (zh5 s.heap o1 o2).get? c = some o := fun c o x => Heap.get?_push_of_some _ (Heap.get?_push_of_some _ (Heap.get?_push_of_some _ (Heap.get?_push_of_some _ (Heap.get?_push_of_some _ x))))
  have off : ∀ {S : Sr} {vs : Array Value} (k : Nat), S.has s.heap vs → S.off (s.heap.objs.size + k) := fun {S vs} k x => by
    cases S with
    | lst a => obtain ⟨o, e, _⟩ := x; exact Nat.ne_of_lt (Nat.lt_of_lt_of_le (Heap.lt_size e) (Nat.le_add_right _ k))
    | tup a => obtain ⟨o, e, _⟩ := x; exact Nat.ne_of_lt (Nat.lt_of_lt_of_le (Heap.lt_size e) (Nat.le_add_right _ k))
    | str z => exact trivial
  have keep : ∀ {S : Sr} {vs : Array Value}, S.has s.heap vs → S.has (zh5 s.heap o1 o2) vs := fun {S vs} x => by
    cases S with
    | lst a => obtain ⟨o, e, r⟩ := x; exact ⟨o, up _ _ e, r⟩
    | tup a => obtain ⟨o, e, r⟩ := x; exact ⟨o, up _ _ e, r⟩
    | str z => exact x
  show _ ∧ _
  rw [y2, y3, y4] at g5
  rw [y1, y2] at g3
  rw [y3] at g4
  rw [y1] at g2
  rw [y4]
  refine ⟨⟨_, g5, rfl⟩, q _ ⟨g5, g3, ⟨_, _, g4⟩, I1 _ _ g1, I2 _ _ g2, keep x1, keep x2⟩ ?_ up⟩
  have ne : ∀ i j : Nat, i ≠ j → s.heap.objs.size + i ≠ s.heap.objs.size + j := fun i j hn h => hn (Nat.add_left_cancel h)
  refine ⟨ne 2 4 (by decide), ne 3 4 (by decide), ne 0 4 (by decide), ne 1 4 (by decide), ne 2 3 (by decide), ne 2 0 (by decide), ne 2 1 (by decide), ne 3 0 (by decide), ne 3 1 (by decide), ne 0 1 (by decide), fun x hx => ?_⟩
  simp only [List.mem_cons, List.not_mem_nil, or_false] at hx
  rcases hx with rfl | rfl | rfl | rfl
  · exact ⟨off 4 x1, off 4 x2⟩
  · exact ⟨off 3 x1, off 3 x2⟩
  · exact ⟨off 0 x1, off 0 x2⟩
  · exact ⟨off 1 x1, off 1 x2⟩
end L2
namespace L2
open PySem PySem.Spec PyProof.Rows
end L2
namespace L2
open PySem PySem.Spec PyProof.Rows
section
variable {X : Cx} {pins : List (Addr × Obj)} {σ : St} {H : Hp} {s : Shared} {h' : Heap}
theorem Inv.turneds {t' : Nat} {ch : List Addr} (I : Inv X pins σ H s) (k : ∀ b o, b ∉ ch → s.heap.get? b = some o → h'.get? b = some o) (hf : ∀ b ∈ ch, FpOk X pins H b) : Inv X pins σ H { s with heap := h', toks := t' } := by
  have nit : ∀ b u, H b = some u → b ∉ ch := fun b u e z => by rw [(hf b z).1] at e; cases e
  refine I.step (g' := s.gens) (d' := s.drawn) (ch := ch) (fun b hb => ?_) (fun b o _ _ hc e _ => k b o hc e) (fun b o _ _ hc e _ => ⟨o.slots, k b o hc e⟩) (fun _ _ _ _ n => n) (fun b o hc e => ⟨o, k b o hc e⟩) (fun _ _ e => e) (fun _ _ _ e => e)
    (fun b ps e => ⟨#[], by rw [e]; simp⟩) (fun m hm => ?_) (fun b u e => ?_) I.bare
  · obtain ⟨f0, f1, f2, f3, f4, f5⟩ := hf b hb
    exact ⟨f3, f1, f4, f5⟩
  · obtain ⟨o, es, ep, ho, r⟩ := hm
    exact ⟨o, es, ep, k _ o (fun z => (hf _ z).2.1 rfl) ho, r⟩
  · refine (I.hok b u e).stay (fun c v hc q => k c v ?_ q) (fun _ q => q) fun _ _ q => q
    rcases hc with z | z
    · rw [z]; exact nit b u e
    · exact nit c _ z
theorem Inv.track {a : Addr} {o : HO} (I : Inv X pins σ H s) (hs : X.s₀.heap.objs.size ≤ a) (f : FpOk X pins H a) (new : ObjOk X.prog X.w (upd H a o) s.heap a o) : Inv X pins σ (upd H a o) s :=
  ⟨I.ok, I.os, I.bare, I.base.track hs f.1, I.loc, I.cell, by rw [upd_ne (Ne.symm f.2.1)]; exact I.free, fun x c e => by rw [upd_ne (f.2.2.2.2.1 x c e)]; exact I.freeC x c e, fun p hp => by
    obtain ⟨e, n, r⟩ := I.pin p hp
    exact ⟨e, by rw [upd_ne (f.2.2.2.2.2 p hp)]; exact n, r⟩, I.hok.track f.1 new, I.len⟩
end
def signs (x : Str) : List V := x.cps.toList.map fun c => V.str ⟨#[c]⟩
def Sr.vals (K : PySem.W.Frag) (H : Hp) : Sr → List V → Prop
  | .lst a, xs => SqL K H a xs
  | .tup a, xs => SqT K H a xs
  | .str x, xs => xs = signs x
def Sr.ofV : Sr → V → Prop
  | .lst a, v => v = .ref a
  | .tup a, v => v = .ref a
  | .str x, v => v = .str x
section
variable {X : Cx} {pins : List (Addr × Obj)} {σ : St} {H : Hp} {s : Shared} {S : Sr} {xs ys : List V}
theorem Sr.vals.get (I : Inv X pins σ H s) (h : S.vals X.K H xs) : ∃ vs, S.has s.heap vs ∧ vs.size = xs.length ∧ ∀ i x v, xs[i]? = some x → S.is vs i v → RelV x v := by
  cases S with
  | lst a =>
    obtain ⟨its, rv, p, hz⟩ := I.list h
    refine ⟨its.toArray, p.isList, by have := rv.length; simp; omega, fun i x v e1 e2 => ?_⟩
    obtain ⟨u, hu, ru⟩ := rv.get e1
    have e2 : its.toArray[i]? = some v := e2
    rw [List.getElem?_toArray, hu] at e2
    cases e2
    exact ru
  | tup a =>
    obtain ⟨its, rv, p, hz⟩ := I.tuple h
    refine ⟨its.toArray, (show s.heap.IsTuple a its.toArray from p), by have := rv.length; simp; omega, fun i x v e1 e2 => ?_⟩
    obtain ⟨u, hu, ru⟩ := rv.get e1
    have e2 : its.toArray[i]? = some v := e2
    rw [List.getElem?_toArray, hu] at e2
    cases e2
    exact ru
  | str z =>
    cases (show xs = signs z from h)
    refine ⟨Array.replicate z.cps.size .none, by show (Array.replicate _ _).size = _; simp, by simp [signs], fun i x v e1 e2 => ?_⟩
    obtain ⟨c, u, ec, rfl⟩ := (show ∃ c u, z.cps[i]? = some c ∧ v = .str ⟨#[c]⟩ u from e2)
    have : (signs z)[i]? = some (V.str ⟨#[c]⟩) := by simp [signs, ec]
    rw [this] at e1
    cases e1
    exact ⟨u, rfl⟩
theorem Sr.vals.inj (I : Inv X pins σ H s) (h : S.vals X.K H xs) (h' : S.vals X.K H ys) : xs = ys := by
  cases S with
  | lst a => exact I.list_inj h h'
  | tup a => exact I.tuple_inj h h'
  | str z => exact (show xs = signs z from h).trans (show ys = signs z from h').symm
theorem Sr.ofV.val {x : V} {u : Value} (e : S.ofV x) (r : RelV x u) : S.val u := by
  cases S with
  | lst a => cases (show x = .ref a from e); exact r
  | tup a => cases (show x = .ref a from e); exact r
  | str z => cases (show x = .str z from e); exact r
end
theorem Sr.vals.same {K : PySem.W.Frag} {H H' : Hp} {S : Sr} {xs : List V} (h : S.vals K H xs) (hl : ∀ a, SqL K H a xs → SqL K H' a xs) (ht : ∀ a, SqT K H a xs → SqT K H' a xs) : S.vals K H' xs := by
  cases S with
  | lst a => exact hl a h
  | tup a => exact ht a h
  | str z => exact h
def Itz (K : PySem.W.Frag) (S1 S2 : Sr) : It :=
  ⟨fun i H => ∃ xs ys x y, S1.vals K H xs ∧ S2.vals K H ys ∧ xs[i]? = some x ∧ ys[i]? = some y,
   fun i H v H' => ∃ p x y, v = .ref p ∧ H p = none ∧ H' = upd H p (.tup [x, y]) ∧ (∀ xs, S1.vals K H xs → xs[i]? = some x) ∧ ∀ ys, S2.vals K H ys → ys[i]? = some y,
   fun i H => ∃ xs ys, S1.vals K H xs ∧ S2.vals K H ys ∧ (i = xs.length ∨ (i < xs.length ∧ i = ys.length))⟩
theorem turn_zip {P : Program} {w : World} {K : PySem.W.Frag} {es : List Expr} {kk : Nat} {tp : Pos} {S1 S2 : Sr} {z TI TO i1 i2 : Addr} (D : ZA S1 S2 z TI TO i1 i2) :
    Turn P w K (.Tuple es kk tp) (Itz K S1 S2) [z, TI, TO, i1, i2] z (fun i h => IsZip h z TI TO .none ∧ IsPair h TI (.ref i1) (.ref i2) ∧ (∃ a b, IsPair h TO a b) ∧ S1.it h i1 i ∧ S2.it h i2 i) where
  mem := by simp
  obj := fun i h st b hb => by
    obtain ⟨hz, hi, ⟨a, a', ho⟩, h1, h2⟩ := st
    simp only [List.mem_cons, List.not_mem_nil, or_false] at hb
    rcases hb with rfl | rfl | rfl | rfl | rfl
    · exact ⟨_, hz, fun v z => by simp at z⟩
    · exact ⟨_, hi, fun v z => by simp at z⟩
    · exact ⟨_, ho, fun v z => by simp at z⟩
    · exact h1.obj
    · exact h2.obj
  keep := fun i h h' st k => by
    obtain ⟨hz, hi, ⟨a, a', ho⟩, h1, h2⟩ := st
    exact ⟨k z (by simp) _ hz, k TI (by simp) _ hi, ⟨a, a', k TO (by simp) _ ho⟩, h1.mv fun o e => k i1 (by simp) o e, h2.mv fun o e => k i2 (by simp) o e⟩
  item := by
    intro X hP hw hK hc i pins s σ H E I hf st hg
    subst hP hw hK
    obtain ⟨xs, ys, x, y, hx, hy, ex, ey⟩ := hg
    obtain ⟨v1, a1, z1, r1⟩ := Sr.vals.get I hx
    obtain ⟨v2, a2, z2, r2⟩ := Sr.vals.get I hy
    obtain ⟨hz, hi, ho, h1, h2⟩ := st
    have l1 := (List.getElem?_eq_some_iff.mp ex).1
    have l2 := (List.getElem?_eq_some_iff.mp ey).1
    have hT : s.TypeIs (.ref z) "zip" := ⟨_, hz, rfl⟩
    have lt : ∀ b ∈ [z, TI, TO, i1, i2], b ≠ s.heap.objs.size := fun b hb => by
      obtain ⟨a, a', ho⟩ := ho
      simp only [List.mem_cons, List.not_mem_nil, or_false] at hb
      rcases hb with rfl | rfl | rfl | rfl | rfl
      · exact Nat.ne_of_lt (Heap.lt_size hz)
      · exact Nat.ne_of_lt (Heap.lt_size hi)
      · exact Nat.ne_of_lt (Heap.lt_size ho)
      · obtain ⟨_, e, _⟩ := h1.obj; exact Nat.ne_of_lt (Heap.lt_size e)
      · obtain ⟨_, e, _⟩ := h2.obj; exact Nat.ne_of_lt (Heap.lt_size e)
    unfold pyNext
    refine wpAny_bind (wpAny_attempt (wpAny_callSpecial?_slot (name := Str.ofString "__next__") hT F.slot_zip_next (wpAny_call_entry F.slot_zip_next hT F.entry_zip_next
      (zip_item (A := X.A.in1) D (show X.A.in1.handled = none from I.ok.hd hc) ⟨hz, hi, ho, h1, h2, a1, a2⟩ (by omega) (by omega) fun xv yv h' tk px py Z hp hs up => wpAny_pure ?_) (F.args_zip_next_1 _))))
    refine ⟨_, rfl, wpAny_letOwnedTupleGo_zip Z.z fun h'' hz'' sb => ?_⟩
    have sb : Heap.SameBut z h' h'' := sb
    have kk : ∀ b o, b ∉ [z, TI, TO, i1, i2] → s.heap.get? b = some o → h''.get? b = some o := fun b o hb e => by
      simp only [List.mem_cons, List.not_mem_nil, or_false, not_or] at hb
      exact sb.extBut _ _ hb.1 (up b o hb.1 hb.2.2.1 hb.2.2.2.1 hb.2.2.2.2 e)
    have I1 : Inv X pins σ H { s with heap := h'', toks := tk } := I.turneds (t' := tk) kk hf
    have fT : FpOk X pins H s.heap.objs.size := I.fpOk (Nat.le_refl _) (I.hok.fresh (Nat.le_refl _))
    have zT : s.heap.objs.size ≠ z := Ne.symm (lt z (by simp))
    have oT : IsPair h'' s.heap.objs.size xv yv := sb.extBut _ _ zT hp
    have I2 : Inv X pins σ (upd H s.heap.objs.size (.tup [x, y])) { s with heap := h'', toks := tk } := I1.track (Nat.le_trans I.sz (Nat.le_refl _)) fT
      ⟨by show 2 ≤ sizeLine; decide, [xv, yv], .cons (r1 i x xv ex px) (.cons (r2 i y yv ey py) .nil), ⟨_, oT, rfl, _, rfl⟩⟩
    refine ⟨.ref s.heap.objs.size, _, I2, rfl, ⟨_, x, y, rfl, fT.1, rfl, fun xs' h => by rw [Sr.vals.inj I h hx]; exact ex, fun ys' h => by rw [Sr.vals.inj I h hy]; exact ey⟩, ⟨hz'', sb.extBut _ _ D.a Z.ti, ?_, Z.s1.mv fun o e => sb.extBut _ _ D.c e, Z.s2.mv fun o e => sb.extBut _ _ D.d e⟩, fun b hb => ?_⟩
    · obtain ⟨a, a', ho⟩ := Z.to
      exact ⟨a, a', sb.extBut _ _ D.b ho⟩
    · rw [upd_ne (lt b hb)]
      exact (hf b hb).1
  done := by
    intro X hP hw hK hc i pins s σ H E I hf st hg
    subst hP hw hK
    obtain ⟨xs, ys, hx, hy, l⟩ := hg
    obtain ⟨v1, a1, z1, r1⟩ := Sr.vals.get I hx
    obtain ⟨v2, a2, z2, r2⟩ := Sr.vals.get I hy
    obtain ⟨hz, hi, ho, h1, h2⟩ := st
    have hT : s.TypeIs (.ref z) "zip" := ⟨_, hz, rfl⟩
    unfold pyNext
    refine wpAny_bind (wpAny_attempt (wpAny_callSpecial?_slot (name := Str.ofString "__next__") hT F.slot_zip_next (wpAny_call_entry F.slot_zip_next hT F.entry_zip_next
      (zip_end (A := X.A.in1) D (show X.A.in1.handled = none from I.ok.hd hc) ⟨hz, hi, ho, h1, h2, a1, a2⟩ (by omega) fun h' e tk up ⟨o, eo, co⟩ => ?_) (F.args_zip_next_1 _))))
    refine wpAny_bind (wpAny_isInstance (T := "StopIteration") (b := true) ⟨o, eo, co⟩ isSubtype_stop ?_)
    refine wpAny_pure ⟨rfl, I.turneds (ch := [z, TI, TO, i1, i2]) (t' := tk) (fun b o hb e => ?_) hf⟩
    simp only [List.mem_cons, List.not_mem_nil, or_false, not_or] at hb
    exact up b o hb.1 hb.2.2.1 hb.2.2.2.1 hb.2.2.2.2 e
  self := fun _ _ _ _ _ st h => wpAny_pyIter_zip st.1 h
def iZip (K : PySem.W.Frag) (ta : TA) : TI := fun σ H R => ta σ H fun vs H1 => ∃ S1 S2 x y xs ys, vs = [x, y] ∧ Sr.ofV S1 x ∧ Sr.ofV S2 y ∧ S1.vals K H1 xs ∧ S2.vals K H1 ys ∧ R (Itz K S1 S2) H1
theorem pi_zip {X : Cx} {a b : Expr} {ta : TA} {p pos tp : Pos} {es : List Expr} {kk : Nat} (hg : Gl X "zip") (hm : X.mg "zip" = none) (ha : PA X [a, b] ta) (hs : starEach [a, b] X.env = [(false, eval a X.env), (false, eval b X.env)] := by rfl)
    (hs2 : starEach [b] X.env = [(false, eval b X.env)] := by rfl) : PI X (.Tuple es kk tp) (.Call (.Name "zip" p) [a, b] [] pos) (iZip X.K ta) := by
  intro pins s σ H R I h
  refine Call_ (ld_blt I hg hm boot_zip (PyProof.Rows.callWith_type1 (thn (ha pos pins s σ H _ I h) fun us s1 ⟨vs, H1, I1, r1, q1⟩ => ?_) (by rw [hs, hs2]) (by rw [hs2]; rfl)))
  obtain ⟨S1, S2, x, y, xs, ys, e, e1, e2, hx, hy, q⟩ := q1
  subst e
  cases r1 with
  | cons r rr =>
    cases rr with
    | cons r' rr =>
      cases rr
      obtain ⟨v1, a1, z1, _⟩ := Sr.vals.get I1 hx
      obtain ⟨v2, a2, z2, _⟩ := Sr.vals.get I1 hy
      refine call_zip (e1.val r) (e2.val r') a1 a2 fun h' Z D up => wpAny_pyIter_zip Z.z ⟨_, _, _, _, H1, rfl, I1.kept (t' := s1.toks) up, turn_zip D, ⟨Z.z, Z.ti, Z.to, Z.s1, Z.s2⟩, fun b hb => ?_, q⟩
      simp only [List.mem_cons, List.not_mem_nil, or_false] at hb
      have le : s1.heap.objs.size ≤ b := by rcases hb with rfl | rfl | rfl | rfl | rfl <;> omega
      exact I1.fpOk le (I1.hok.fresh le)
theorem for_zip {K : PySem.W.Frag} {S1 S2 : Sr} {xs ys : List V} {g : TG} {tb : TS} {D : Ends} {σ : St} {H : Hp} (Pv : Nat → St → Hp → Prop) (hll : xs.length = ys.length) (h0 : Pv 0 σ H) (hl : ∀ i σ H, i ≤ xs.length → Pv i σ H → S1.vals K H xs ∧ S2.vals K H ys)
    (hs : ∀ i x y p σ H, xs[i]? = some x → ys[i]? = some y → H p = none → Pv i σ H → g (.ref p) σ (upd H p (.tup [x, y])) fun σ2 H2 => tb { D with nx := Pv (i + 1), ct := Pv (i + 1), bk := D.nx } σ2 H2) (hd : ∀ σ H, Pv xs.length σ H → D.nx σ H) :
    ∃ W : Nat → Nat → St → Hp → Prop, (∃ m, W 0 m σ H) ∧ ∀ i m σ H, W i m σ H →
      ((Itz K S1 S2).stop i H ∧ D.nx σ H) ∨ ((Itz K S1 S2).go i H ∧ ∃ N : St → Hp → Prop, (∀ σ' H', N σ' H' → ∃ m', m' < m ∧ W (i + 1) m' σ' H') ∧ ∀ x H', (Itz K S1 S2).yld i H x H' → g x σ H' fun σ2 H2 => tb { D with nx := N, ct := N, bk := D.nx } σ2 H2) := by
  refine ⟨fun i m σ H => m = xs.length - i ∧ i ≤ xs.length ∧ Pv i σ H, ⟨xs.length, by simp, Nat.zero_le _, h0⟩, ?_⟩
  rintro i m σ H ⟨rfl, hi, p⟩
  obtain ⟨q1, q2⟩ := hl i σ H hi p
  by_cases hlt : i < xs.length
  · have hly : i < ys.length := by omega
    refine .inr ⟨⟨xs, ys, xs[i], ys[i], q1, q2, by simp [hlt], by simp [hly]⟩, Pv (i + 1), fun σ' H' p' => ⟨xs.length - (i + 1), by omega, rfl, hlt, p'⟩, fun x H' y => ?_⟩
    obtain ⟨pp, x', y', rfl, hn, rfl, y1, y2⟩ := y
    exact hs i x' y' pp σ H (y1 xs q1) (y2 ys q2) hn p
  · have e : i = xs.length := by omega
    subst e
    exact .inl ⟨⟨xs, ys, q1, q2, .inl rfl⟩, hd σ H p⟩
end L2
namespace L2
open PySem PySem.Spec PyProof.Rows
def SameT (H H' : Hp) : Prop := ∀ p vs, H p = some (.tup vs) → H' p = some (.tup vs)
theorem SameT.refl (H : Hp) : SameT H H := fun _ _ h => h
theorem SameT.trans {H H1 H2 : Hp} (x : SameT H H1) (y : SameT H1 H2) : SameT H H2 := fun p vs h => y p vs (x p vs h)
theorem Same.t {H H' : Hp} (x : Same H H') : SameT H H' := fun p vs h => x p _ h
def Ents (Pd : Nat → V → Hp → Prop) (ys : List V) (n : Nat) (H : Hp) : Prop := ys.length = n ∧ ∀ j, j < n → ∃ u, ys[j]? = some u ∧ Pd j u H
section
variable {Pd Pe : Nat → V → Hp → Prop} {ys : List V} {n : Nat} {H H' : Hp} {v : V}
theorem Ents.nil : Ents Pd [] 0 H := ⟨rfl, fun j h => absurd h (Nat.not_lt_zero j)⟩
theorem Ents.mono (h : Ents Pd ys n H) (s : ∀ j u, j < n → Pd j u H → Pe j u H') : Ents Pe ys n H' := ⟨h.1, fun j hj => by
  obtain ⟨u, e, p⟩ := h.2 j hj
  exact ⟨u, e, s j u hj p⟩⟩
theorem Ents.snoc (h : Ents Pd ys n H) (p : Pd n v H) : Ents Pd (ys ++ [v]) (n + 1) H := ⟨by rw [List.length_append, h.1]; rfl, fun j hj => by
  by_cases hn : j < n
  · obtain ⟨u, e, q⟩ := h.2 j hn
    exact ⟨u, by rw [List.getElem?_append_left (by rw [h.1]; exact hn)]; exact e, q⟩
  · have e : j = n := by omega
    subst e
    exact ⟨v, by rw [List.getElem?_append_right (by rw [h.1]; exact Nat.le_refl _), h.1, Nat.sub_self]; rfl, p⟩⟩
theorem Ents.at (h : Ents Pd ys n H) {j : Nat} {u : V} (e : ys[j]? = some u) : j < n ∧ Pd j u H := by
  have hj : j < n := by rw [← h.1]; exact (List.getElem?_eq_some_iff.mp e).1
  obtain ⟨u', e', p⟩ := h.2 j hj
  rw [e] at e'
  cases e'
  exact ⟨hj, p⟩
end
def TupOf (Pd : Nat → V → Hp → Prop) (n : Nat) (v : V) (H : Hp) : Prop := ∃ p vs, v = .ref p ∧ H p = some (.tup vs) ∧ Ents Pd vs n H
def SeqOf (K : PySem.W.Frag) (Pd : Nat → V → Hp → Prop) (n : Nat) (v : V) (H : Hp) : Prop := ∃ S vs, Sr.ofV S v ∧ S.vals K H vs ∧ (∀ H', Same H H' → S.vals K H' vs ∧ LenV K v H' vs.length) ∧ Ents Pd vs n H
theorem TupOf.seq {K : PySem.W.Frag} {Pd : Nat → V → Hp → Prop} {n : Nat} {v : V} {H : Hp} (h : TupOf Pd n v H) : SeqOf K Pd n v H := by
  obtain ⟨p, vs, rfl, hp, e⟩ := h
  exact ⟨.tup p, vs, rfl, SqT.of hp, fun H' q => ⟨SqT.of (q _ _ hp), .inr ⟨_, SqT.of (q _ _ hp), rfl⟩⟩, e⟩
theorem TupOf.mono {Pd Pe : Nat → V → Hp → Prop} {n : Nat} {v : V} {H H' : Hp} (h : TupOf Pd n v H) (s : SameT H H') (m : ∀ j u, j < n → Pd j u H → Pe j u H') : TupOf Pe n v H' := by
  obtain ⟨p, vs, rfl, hp, e⟩ := h
  exact ⟨p, vs, rfl, s _ _ hp, e.mono m⟩
theorem SeqOf.mono {K : PySem.W.Frag} {Pd Pe : Nat → V → Hp → Prop} {n : Nat} {v : V} {H H' : Hp} (h : SeqOf K Pd n v H) (s : Same H H') (m : ∀ j u, j < n → Pd j u H → Pe j u H') : SeqOf K Pe n v H' := by
  obtain ⟨S, vs, e, hv, hs, he⟩ := h
  exact ⟨S, vs, e, (hs _ s).1, fun H2 q => hs _ (s.trans q), he.mono m⟩
theorem SeqOf.list {K : PySem.W.Frag} {Pd : Nat → V → Hp → Prop} {n : Nat} {p : Addr} {vs : List V} {H : Hp} (hp : H p = some (.lst vs)) (e : Ents Pd vs n H) : SeqOf K Pd n (.ref p) H :=
  ⟨.lst p, vs, rfl, SqL.of hp, fun H' q => ⟨SqL.of (q _ _ hp), .inl ⟨_, SqL.of (q _ _ hp), rfl⟩⟩, e⟩
theorem TupOf.len {K : PySem.W.Frag} {Pd : Nat → V → Hp → Prop} {n : Nat} {v : V} {H : Hp} (h : TupOf Pd n v H) : LenV K v H n := by
  obtain ⟨p, vs, rfl, hp, e⟩ := h
  have e1 := e.1
  subst e1
  exact .inr ⟨_, SqT.of hp, rfl⟩
theorem SeqOf.len {K : PySem.W.Frag} {Pd : Nat → V → Hp → Prop} {n : Nat} {v : V} {H : Hp} (h : SeqOf K Pd n v H) : LenV K v H n := by
  obtain ⟨S, vs, _, _, hs, e⟩ := h
  have q := (hs _ (Same.refl _)).2
  rw [e.1] at q
  exact q
theorem comp_go {J : It} {n k : Nat} {g : TG} {te : TE} {σ : St} {Q : VK} {H1 : Hp} (Pv : Nat → List V → Hp → Prop) (hn : n ≤ 1000) (h0 : Pv 0 [] H1) (hl : ∀ i ys H, Pv i ys H → ys.length = i)
    (hgo : ∀ i ys H, i < n → Pv i ys H → J.go i H ∧ ∀ x H', J.yld i H x H' → g x (σ ++ List.replicate k none) H' fun σ2 H2 => (∃ zs, σ2 = σ ++ zs ∧ zs.length = k) ∧ te σ2 H2 fun v H3 => Pv (i + 1) (ys ++ [v]) H3)
    (hstop : ∀ ys H, Pv n ys H → J.stop n H) (hend : ∀ ys H p, Pv n ys H → H p = none → Q (.ref p) (upd H p (.lst ys))) :
    CTail J k g te σ Q H1 := by
  have z : 1000 < sizeLine := by decide
  refine ⟨fun i m ys H => m = n - i ∧ i ≤ n ∧ Pv i ys H, ⟨n, rfl, Nat.zero_le _, h0⟩, ?_⟩
  rintro i m ys H ⟨rfl, hi, p⟩
  have yl := hl i ys H p
  by_cases hlt : i < n
  · obtain ⟨a, b⟩ := hgo i ys H hlt p
    refine .inr ⟨a, by omega, fun x H' y => ?_⟩
    have c := b x H' y
    have e : (fun σ2 H2 => (∃ zs, σ2 = σ ++ zs ∧ zs.length = k) ∧ te σ2 H2 fun v H3 => ∃ m', m' < n - i ∧ m' = n - (i + 1) ∧ i + 1 ≤ n ∧ Pv (i + 1) (ys ++ [v]) H3) = fun σ2 H2 => (∃ zs, σ2 = σ ++ zs ∧ zs.length = k) ∧ te σ2 H2 fun v H3 => Pv (i + 1) (ys ++ [v]) H3 := by
      funext σ2 H2
      congr 2
      funext v H3
      exact propext ⟨fun ⟨_, _, _, _, q⟩ => q, fun q => ⟨_, by omega, rfl, hlt, q⟩⟩
    rw [e]
    exact c
  · have e : i = n := by omega
    subst e
    exact .inl ⟨hstop ys H p, by omega, fun q nq => hend ys H q p nq⟩
end L2
namespace L2
open PySem Mine
def KAt (C : Addr) (fs : List (Str × V)) (H : Hp) (k : V) : Prop := ∃ p dx, k = .ref p ∧ H p = some (.ins C dx fs)
theorem KAt.same {C : Addr} {fs : List (Str × V)} {H H' : Hp} {k : V} (e : Same H H') (h : KAt C fs H k) : KAt C fs H' k := by
  obtain ⟨p, dx, rfl, h⟩ := h
  exact ⟨p, dx, rfl, e _ _ h⟩
def spBin (C : Addr) (fs : List (Str × V)) (S : SR) (is : Hp → V → S.W → Prop) (f : S.W → S.W → S.W) : Sp := fun vs H Q _ => ∃ k x y a b m n, vs = [k, x, y] ∧
  (KAt C fs H k ∧ is H x a ∧ is H y b ∧ S.sz m a ∧ S.sz n b ∧ m + n ≤ 60000000) ∧ ∀ v H', Same H H' → is H' v (f a b) → Q v H'
def spNul (C : Addr) (fs : List (Str × V)) (S : SR) (is : Hp → V → S.W → Prop) (z : S.W) : Sp := fun vs H Q _ => ∃ k, vs = [k] ∧ KAt C fs H k ∧ ∀ v H', Same H H' → is H' v z → Q v H'
structure KindR (P : Program) (w : World) (K : PySem.W.Frag) (mg : Str → Option Value) (base : Heap) where
  S : SR
  C : Addr
  fs : List (Str × V)
  cl : Cls K C
  is : Hp → V → S.W → Prop
  same : ∀ {H H' : Hp} {v : V} {x : S.W}, SameT H H' → is H v x → is H' v x
  isd : ∀ {H : Hp} {v : V} {x : S.W}, is H v x → Is K H v (S.data x)
  f_plus : Addr
  d_plus : FuncData
  t_plus : Meth K C "plus" f_plus
  b_plus : Binds K d_plus ["self", "x", "y"] []
  l_plus : fs.lookup ("plus" : Str) = none
  G_plus : FnOk P w K mg base CX0 40 f_plus d_plus ["self", "x", "y"] (spBin C fs S is S.add)
  f_times : Addr
  d_times : FuncData
  t_times : Meth K C "times" f_times
  b_times : Binds K d_times ["self", "x", "y"] []
  l_times : fs.lookup ("times" : Str) = none
  G_times : FnOk P w K mg base CX0 40 f_times d_times ["self", "x", "y"] (spBin C fs S is S.mul)
  f_nought : Addr
  d_nought : FuncData
  t_nought : Meth K C "nought" f_nought
  b_nought : Binds K d_nought ["self"] []
  l_nought : fs.lookup ("nought" : Str) = none
  G_nought : FnOk P w K mg base CX0 40 f_nought d_nought ["self"] (spNul C fs S is S.zero)
section
variable {P : Program} {w : World} {K : PySem.W.Frag} {mg : Str → Option Value} {base : Heap}
theorem KindR.eqD (R : KindR P w K mg base) {H : Hp} {x y : V} {a b : R.S.W} {Q : VK} (hx : R.is H x a) (hy : R.is H y b) (e : a = b) (q : Q (.bl true) H) : rEqD K x y H Q :=
  ⟨_, _, R.isd hx, R.isd hy, R.S.sh _, R.S.sh _, R.S.nm _ _, by subst e; rw [R.S.eq]; exact q⟩
end
def IsF (H : Hp) (v : V) (a b : Int) : Prop := ∃ p, v = .ref p ∧ H p = some (.tup [.int a, .int b])
theorem IsF.same {H H' : Hp} {v : V} {a b : Int} (e : SameT H H') (h : IsF H v a b) : IsF H' v a b := by
  obtain ⟨p, rfl, h⟩ := h
  exact ⟨p, rfl, e _ _ h⟩
theorem IsF.is {K : PySem.W.Frag} {H : Hp} {v : V} {a b : Int} (h : IsF H v a b) : Is K H v (.tuple [.int a, .int b]) := by
  obtain ⟨p, rfl, h⟩ := h
  exact .tup (SqT.of h) (.cons (.int _) (.cons (.int _) .nil))
theorem IsF.new {H : Hp} {p : Addr} {a b : Int} : IsF (upd H p (.tup [.int a, .int b])) (.ref p) a b := ⟨p, rfl, upd_same⟩
def isFr (H : Hp) (v : V) (x : Fr) : Prop := IsF H v x.t x.b
def isRe (p : Int) (_ : Hp) (v : V) (x : Re p) : Prop := v = .int x.x
def cV : Option Int → V
  | none => .non
  | some i => .int i
def isCo (_ : Hp) (v : V) (x : Option Int) : Prop := v = cV x
def isTr (_ : Hp) (v : V) (x : Bool) : Prop := v = .bl x
def pfs (p : Int) : List (Str × V) := putF "prime" (.int p) []
theorem pfs_prime (p : Int) : (pfs p).lookup ("prime" : Str) = some (.int p) := by
  unfold pfs
  rw [lookup_putF, if_pos rfl]
theorem pfs_no (p : Int) {m : Str} (h : ¬ m = "prime") : (pfs p).lookup m = none := by
  unfold pfs
  rw [lookup_putF, if_neg h]; rfl
theorem same_made {H : Hp} {C x dx : Addr} {fs : List (Str × V)} (n : H x = none) (m : H dx = none) : Same H (upd (upd H dx (.own x)) x (.ins C dx fs)) := fun b o e => by
  rw [upd_ne (ne_of_none e n), upd_ne (ne_of_none e m)]; exact e
theorem cut_take (xs : List V) (k : Nat) : cutV xs none (some (k : Int)) = xs.take k := by
  unfold cutV
  rw [HT.sIx_none, HT.sIx_nat, List.drop_zero, Nat.sub_zero]
  by_cases h : k ≤ xs.length
  · rw [Nat.min_eq_left h]
  · rw [Nat.min_eq_right (by omega), List.take_length, List.take_of_length_le (by omega)]
theorem sz_bitsG {x : Int} {n : Nat} (h : x.natAbs ≤ 2 ^ n) : Builtin.Int.intBits x ≤ n + 1 := intBits_le_iff.mpr (Nat.lt_of_le_of_lt h (Nat.pow_lt_pow_right (by decide) (Nat.lt_succ_self _)))
theorem mulG {x y : Int} {m n : Nat} (h1 : x.natAbs ≤ 2 ^ m) (h2 : y.natAbs ≤ 2 ^ n) (h : m + n ≤ 60000000) : CMulG x y := by
  have a := sz_bitsG h1
  have b := sz_bitsG h2
  show _ ≤ 2 ^ 27
  have e : (2 : Nat) ^ 27 = 134217728 := by decide
  omega
def KindR.Wt {P : Program} {w : World} {K : PySem.W.Frag} {mg : Str → Option Value} {base : Heap} (R : KindR P w K mg base) (x : Nat → R.S.W) (m : Nat) : Nat → V → Hp → Prop := fun j u H => R.is H u (x j) ∧ R.S.sz m (x j)
abbrev KindR.Row {P : Program} {w : World} {K : PySem.W.Frag} {mg : Str → Option Value} {base : Heap} (R : KindR P w K mg base) (n : Nat) (x : Nat → R.S.W) (m : Nat) : V → Hp → Prop := TupOf (R.Wt x m) n
abbrev KindR.Seq {P : Program} {w : World} {K : PySem.W.Frag} {mg : Str → Option Value} {base : Heap} (R : KindR P w K mg base) (n : Nat) (x : Nat → R.S.W) (m : Nat) : V → Hp → Prop := SeqOf K (R.Wt x m) n
abbrev KindR.Tab {P : Program} {w : World} {K : PySem.W.Frag} {mg : Str → Option Value} {base : Heap} (R : KindR P w K mg base) (h n : Nat) (x : Nat → Nat → R.S.W) (m : Nat) : V → Hp → Prop := TupOf (fun j u H => R.Row n (x j) m u H) h
section
variable {P : Program} {w : World} {K : PySem.W.Frag} {mg : Str → Option Value} {base : Heap} {R : KindR P w K mg base} {h n m : Nat} {x : Nat → R.S.W} {y : Nat → Nat → R.S.W} {v : V} {H H' : Hp}
theorem KindR.Wt.same (s : SameT H H') {j : Nat} (e : R.Wt x m j v H) : R.Wt x m j v H' := ⟨R.same s e.1, e.2⟩
theorem KindR.Row.same (s : SameT H H') (e : R.Row n x m v H) : R.Row n x m v H' := e.mono s fun _ _ _ q => KindR.Wt.same s q
theorem KindR.Seq.same (s : Same H H') (e : R.Seq n x m v H) : R.Seq n x m v H' := e.mono s fun _ _ _ q => KindR.Wt.same s.t q
theorem KindR.Tab.same (s : SameT H H') (e : R.Tab h n y m v H) : R.Tab h n y m v H' := e.mono s fun _ _ _ q => KindR.Row.same s q
end
end L2
namespace Mine
def sm (S : SR) (f : Nat → S.W) : Nat → S.W
  | 0 => S.zero
  | n + 1 => S.add (sm S f n) (f n)
section
variable {S : SR}
theorem sm_congr {f g : Nat → S.W} : ∀ {n : Nat}, (∀ i, i < n → f i = g i) → sm S f n = sm S g n
  | 0, _ => rfl
  | n + 1, h => by
    show S.add _ _ = S.add _ _
    rw [sm_congr fun i hi => h i (Nat.lt_succ_of_lt hi), h n (Nat.lt_succ_self n)]
theorem sm_sz {f : Nat → S.W} {m : Nat} : ∀ {n : Nat}, (∀ i, i < n → S.sz m (f i)) → S.sz (n * (m + 1)) (sm S f n)
  | 0, _ => S.sz_mono 0 _ _ (Nat.zero_le _) S.sz_zero
  | n + 1, h => by
    have e : (n + 1) * (m + 1) = n * (m + 1) + m + 1 := by rw [Nat.succ_mul]; omega
    rw [e]
    exact S.sz_add _ _ _ _ (sm_sz fun i hi => h i (Nat.lt_succ_of_lt hi)) (h n (Nat.lt_succ_self n))
theorem sm_zero : ∀ n : Nat, sm S (fun _ => S.zero) n = S.zero
  | 0 => rfl
  | n + 1 => by show S.add _ _ = _; rw [sm_zero n, S.add_zero]
theorem sm_add (f g : Nat → S.W) : ∀ n : Nat, sm S (fun i => S.add (f i) (g i)) n = S.add (sm S f n) (sm S g n)
  | 0 => (S.add_zero S.zero).symm
  | n + 1 => by
    show S.add _ _ = S.add (S.add _ _) (S.add _ _)
    rw [sm_add f g n, S.add_assoc, S.add_assoc]
    congr 1
    rw [← S.add_assoc, S.add_comm (sm S g n) (f n), S.add_assoc]
theorem sm_mul (c : S.W) (f : Nat → S.W) : ∀ n : Nat, S.mul c (sm S f n) = sm S (fun i => S.mul c (f i)) n
  | 0 => S.mul_zero c
  | n + 1 => by
    show S.mul c (S.add _ _) = S.add _ _
    rw [S.distrib, sm_mul c f n]
theorem sm_mulr (c : S.W) (f : Nat → S.W) (n : Nat) : S.mul (sm S f n) c = sm S (fun i => S.mul (f i) c) n := by
  rw [S.mul_comm, sm_mul]
  exact sm_congr fun i _ => S.mul_comm _ _
theorem sm_swap (f : Nat → Nat → S.W) (k : Nat) : ∀ n : Nat, sm S (fun i => sm S (fun j => f i j) k) n = sm S (fun j => sm S (fun i => f i j) n) k
  | 0 => (sm_zero k).symm
  | n + 1 => by
    show S.add _ _ = _
    rw [sm_swap f k n, ← sm_add]
    rfl
theorem sm_assoc (r : Nat → S.W) (A : Nat → Nat → S.W) (b : Nat → S.W) (h w : Nat) :
    sm S (fun j => S.mul (sm S (fun i => S.mul (r i) (A i j)) h) (b j)) w = sm S (fun i => S.mul (r i) (sm S (fun j => S.mul (A i j) (b j)) w)) h := by
  have e1 : ∀ j, j < w → S.mul (sm S (fun i => S.mul (r i) (A i j)) h) (b j) = sm S (fun i => S.mul (r i) (S.mul (A i j) (b j))) h := fun j _ => by
    rw [sm_mulr]
    exact sm_congr fun i _ => S.mul_assoc _ _ _
  have e2 : ∀ i, i < h → S.mul (r i) (sm S (fun j => S.mul (A i j) (b j)) w) = sm S (fun j => S.mul (r i) (S.mul (A i j) (b j))) w := fun i _ => sm_mul _ _ _
  rw [sm_congr e1, sm_congr e2, sm_swap]
end
end Mine

set_option maxHeartbeats 0
lay_quick PySem.Challenge.pw_weighwalk_k11_rows_and_tables
namespace H11
open PySem PySem.W
noncomputable section
abbrev kh := @PySem.PyData.keyHash
def topT (i : Nat) : Stmt := Fast.tw9077655869000506260.main.body.getD i (.Pass ⟨0, 0, 0, 0⟩)
def s0 : Str := ⟨⟨[60, 109, 111, 100, 117, 108, 101, 62]⟩⟩
def s1 : Str := ⟨⟨[47, 99, 108, 97, 105, 109, 47, 99, 117, 116, 46, 112, 121]⟩⟩
def s2 : Str := ⟨⟨[95, 95, 109, 97, 105, 110, 95, 95]⟩⟩
def s3 : Str := ⟨⟨[95, 95, 110, 97, 109, 101, 95, 95]⟩⟩
def s4 : Str := ⟨⟨[119, 101, 105, 103, 104, 119, 97, 108, 107, 46, 101, 114, 114, 111, 114, 115]⟩⟩
def s5 : Str := ⟨⟨[95, 95, 100, 111, 99, 95, 95]⟩⟩
def s6 : Str := ⟨⟨[95, 95, 112, 97, 99, 107, 97, 103, 101, 95, 95]⟩⟩
def s7 : Str := ⟨⟨[95, 95, 108, 111, 97, 100, 101, 114, 95, 95]⟩⟩
def s8 : Str := ⟨⟨[95, 95, 115, 112, 101, 99, 95, 95]⟩⟩
def s9 : Str := ⟨⟨[95, 95, 97, 110, 110, 111, 116, 97, 116, 105, 111, 110, 115, 95, 95]⟩⟩
def s10 : Str := ⟨⟨[95, 95, 98, 117, 105, 108, 116, 105, 110, 115, 95, 95]⟩⟩
def s11 : Str := ⟨⟨[95, 95, 102, 105, 108, 101, 95, 95]⟩⟩
def s12 : Str := ⟨⟨[95, 95, 99, 97, 99, 104, 101, 100, 95, 95]⟩⟩
def s13 : Str := ⟨⟨[95, 119, 97, 108, 108]⟩⟩
def s14 : Str := ⟨⟨[99, 111, 108, 117, 109, 110, 95, 97, 116]⟩⟩
def s15 : Str := ⟨⟨[99, 111, 108, 117, 109, 110, 115, 95, 111, 102]⟩⟩
def s16 : Str := ⟨⟨[100, 111, 116]⟩⟩
def s17 : Str := ⟨⟨[114, 111, 119, 95, 98, 121]⟩⟩
def s18 : Str := ⟨⟨[98, 121, 95, 99, 111, 108, 117, 109, 110]⟩⟩
def s19 : Str := ⟨⟨[98, 121, 95, 116, 97, 98, 108, 101]⟩⟩
def s20 : Str := ⟨⟨[87, 101, 105, 103, 104, 69, 114, 114, 111, 114]⟩⟩
def s21 : Str := ⟨⟨[78, 111, 75, 105, 110, 100]⟩⟩
def s22 : Str := ⟨⟨[107]⟩⟩
def s23 : Str := ⟨⟨[119, 101, 105, 103, 104, 119, 97, 108, 107, 46, 116, 97, 98, 108, 101, 115]⟩⟩
def s24 : Str := ⟨⟨[107, 105, 110, 100]⟩⟩
def s25 : Str := ⟨⟨[114, 111, 119]⟩⟩
def s26 : Str := ⟨⟨[99, 111, 108, 117, 109, 110]⟩⟩
def s27 : Str := ⟨⟨[116, 111, 116, 97, 108]⟩⟩
def s28 : Str := ⟨⟨[120]⟩⟩
def s29 : Str := ⟨⟨[121]⟩⟩
def s30 : Str := ⟨⟨[95, 95, 109, 111, 100, 117, 108, 101, 95, 95]⟩⟩
def s31 : Str := ⟨⟨[95, 95, 113, 117, 97, 108, 110, 97, 109, 101, 95, 95]⟩⟩
def s32 : Str := ⟨⟨[95, 95, 102, 105, 114, 115, 116, 108, 105, 110, 101, 110, 111, 95, 95]⟩⟩
def s33 : Str := ⟨⟨[95, 95, 115, 116, 97, 116, 105, 99, 95, 97, 116, 116, 114, 105, 98, 117, 116, 101, 115, 95, 95]⟩⟩
def s34 : Str := ⟨⟨[95, 95, 119, 101, 97, 107, 114, 101, 102, 95, 95]⟩⟩
def s35 : Str := ⟨⟨[119, 101, 105, 103, 104, 119, 97, 108, 107, 46, 107, 105, 110, 100, 115]⟩⟩
def s36 : Str := ⟨⟨[78, 111, 87, 101, 105, 103, 104, 116]⟩⟩
def s37 : Str := ⟨⟨[78, 111, 84, 101, 120, 116]⟩⟩
def s38 : Str := ⟨⟨[105, 115, 95, 119, 104, 111, 108, 101]⟩⟩
def s39 : Str := ⟨⟨[100, 105, 118, 105, 115, 111, 114]⟩⟩
def s40 : Str := ⟨⟨[102, 114, 97, 99, 116, 105, 111, 110]⟩⟩
def s41 : Str := ⟨⟨[105, 115, 95, 112, 114, 105, 109, 101]⟩⟩
def s42 : Str := ⟨⟨[70, 73, 71, 85, 82, 69, 83]⟩⟩
def s43 : Str := ⟨⟨[48, 49, 50, 51, 52, 53, 54, 55, 56, 57]⟩⟩
def s44 : Str := ⟨⟨[77, 79, 83, 84, 95, 70, 73, 71, 85, 82, 69, 83]⟩⟩
def s45 : Str := ⟨⟨[71, 82, 69, 65, 84, 69, 83, 84, 95, 80, 82, 73, 77, 69]⟩⟩
def s46 : Str := ⟨⟨[105, 115, 95, 119, 114, 105, 116, 116, 101, 110]⟩⟩
def s47 : Str := ⟨⟨[114, 101, 97, 100, 95, 119, 104, 111, 108, 101]⟩⟩
def s48 : Str := ⟨⟨[110, 101, 101, 100, 95, 116, 101, 120, 116]⟩⟩
def s49 : Str := ⟨⟨[116, 104, 105, 110, 103]⟩⟩
def s50 : Str := ⟨⟨[119, 101, 105, 103, 104, 119, 97, 108, 107, 46, 114, 97, 116, 105, 111, 115]⟩⟩
def s51 : Str := ⟨⟨[111, 110, 101]⟩⟩
def s52 : Str := ⟨⟨[111, 116, 104, 101, 114]⟩⟩
def s53 : Str := ⟨⟨[103, 114, 101, 97, 116, 101, 115, 116]⟩⟩
def s54 : Str := ⟨⟨[114, 101, 115, 116]⟩⟩
def s55 : Str := ⟨⟨[108, 101, 102, 116]⟩⟩
def s56 : Str := ⟨⟨[116, 111, 112]⟩⟩
def s57 : Str := ⟨⟨[98, 111, 116, 116, 111, 109]⟩⟩
def s58 : Str := ⟨⟨[115, 104, 97, 114, 101, 100]⟩⟩
def s59 : Str := ⟨⟨[110, 117, 109, 98, 101, 114]⟩⟩
def s60 : Str := ⟨⟨[102, 97, 99, 116, 111, 114]⟩⟩
def s61 : Str := ⟨⟨[116, 101, 120, 116]⟩⟩
def s62 : Str := ⟨⟨[75, 105, 110, 100]⟩⟩
def s63 : Str := ⟨⟨[70, 105, 101, 108, 100]⟩⟩
def s64 : Str := ⟨⟨[95, 95, 100, 105, 99, 116, 95, 95]⟩⟩
def s65 : Str := ⟨⟨[105, 115, 95, 102, 105, 101, 108, 100]⟩⟩
def s66 : Str := ⟨⟨[112, 105, 99, 107, 115]⟩⟩
def s67 : Str := ⟨⟨[115, 101, 108, 102]⟩⟩
def s68 : Str := ⟨⟨[70, 105, 101, 108, 100, 46, 105, 115, 95, 102, 105, 101, 108, 100]⟩⟩
def s69 : Str := ⟨⟨[70, 105, 101, 108, 100, 46, 112, 105, 99, 107, 115]⟩⟩
def s70 : Str := ⟨⟨[80, 105, 99, 107, 105, 110, 103]⟩⟩
def s71 : Str := ⟨⟨[109, 105, 110, 117, 115]⟩⟩
def s72 : Str := ⟨⟨[105, 110, 118, 101, 114, 115, 101]⟩⟩
def s73 : Str := ⟨⟨[80, 105, 99, 107, 105, 110, 103, 46, 105, 115, 95, 102, 105, 101, 108, 100]⟩⟩
def s74 : Str := ⟨⟨[80, 105, 99, 107, 105, 110, 103, 46, 112, 105, 99, 107, 115]⟩⟩
def s75 : Str := ⟨⟨[80, 105, 99, 107, 105, 110, 103, 46, 109, 105, 110, 117, 115]⟩⟩
def s76 : Str := ⟨⟨[80, 105, 99, 107, 105, 110, 103, 46, 105, 110, 118, 101, 114, 115, 101]⟩⟩
def s77 : Str := ⟨⟨[70, 114, 97, 99, 116, 105, 111, 110, 115]⟩⟩
def s78 : Str := ⟨⟨[116, 111, 108, 100]⟩⟩
def s79 : Str := ⟨⟨[110, 111, 117, 103, 104, 116]⟩⟩
def s80 : Str := ⟨⟨[112, 108, 117, 115]⟩⟩
def s81 : Str := ⟨⟨[116, 105, 109, 101, 115]⟩⟩
def s82 : Str := ⟨⟨[105, 115, 95, 119, 101, 105, 103, 104, 116]⟩⟩
def s83 : Str := ⟨⟨[115, 104, 111, 119, 110]⟩⟩
def s84 : Str := ⟨⟨[114, 101, 97, 100]⟩⟩
def s85 : Str := ⟨⟨[70, 114, 97, 99, 116, 105, 111, 110, 115, 46, 116, 111, 108, 100]⟩⟩
def s86 : Str := ⟨⟨[70, 114, 97, 99, 116, 105, 111, 110, 115, 46, 110, 111, 117, 103, 104, 116]⟩⟩
def s87 : Str := ⟨⟨[70, 114, 97, 99, 116, 105, 111, 110, 115, 46, 111, 110, 101]⟩⟩
def s88 : Str := ⟨⟨[70, 114, 97, 99, 116, 105, 111, 110, 115, 46, 112, 108, 117, 115]⟩⟩
def s89 : Str := ⟨⟨[70, 114, 97, 99, 116, 105, 111, 110, 115, 46, 116, 105, 109, 101, 115]⟩⟩
def s90 : Str := ⟨⟨[70, 114, 97, 99, 116, 105, 111, 110, 115, 46, 109, 105, 110, 117, 115]⟩⟩
def s91 : Str := ⟨⟨[70, 114, 97, 99, 116, 105, 111, 110, 115, 46, 105, 110, 118, 101, 114, 115, 101]⟩⟩
def s92 : Str := ⟨⟨[70, 114, 97, 99, 116, 105, 111, 110, 115, 46, 105, 115, 95, 119, 101, 105, 103, 104, 116]⟩⟩
def s93 : Str := ⟨⟨[70, 114, 97, 99, 116, 105, 111, 110, 115, 46, 115, 104, 111, 119, 110]⟩⟩
def s94 : Str := ⟨⟨[112, 105, 101, 99, 101, 115]⟩⟩
def s95 : Str := ⟨⟨[70, 114, 97, 99, 116, 105, 111, 110, 115, 46, 114, 101, 97, 100]⟩⟩
def s96 : Str := ⟨⟨[82, 101, 115, 105, 100, 117, 101, 115]⟩⟩
def s97 : Str := ⟨⟨[95, 95, 105, 110, 105, 116, 95, 95]⟩⟩
def s98 : Str := ⟨⟨[112, 114, 105, 109, 101]⟩⟩
def s99 : Str := ⟨⟨[82, 101, 115, 105, 100, 117, 101, 115, 46, 95, 95, 105, 110, 105, 116, 95, 95]⟩⟩
def s100 : Str := ⟨⟨[82, 101, 115, 105, 100, 117, 101, 115, 46, 116, 111, 108, 100]⟩⟩
def s101 : Str := ⟨⟨[82, 101, 115, 105, 100, 117, 101, 115, 46, 110, 111, 117, 103, 104, 116]⟩⟩
def s102 : Str := ⟨⟨[82, 101, 115, 105, 100, 117, 101, 115, 46, 111, 110, 101]⟩⟩
def s103 : Str := ⟨⟨[82, 101, 115, 105, 100, 117, 101, 115, 46, 112, 108, 117, 115]⟩⟩
def s104 : Str := ⟨⟨[82, 101, 115, 105, 100, 117, 101, 115, 46, 116, 105, 109, 101, 115]⟩⟩
def s105 : Str := ⟨⟨[82, 101, 115, 105, 100, 117, 101, 115, 46, 109, 105, 110, 117, 115]⟩⟩
def s106 : Str := ⟨⟨[82, 101, 115, 105, 100, 117, 101, 115, 46, 105, 110, 118, 101, 114, 115, 101]⟩⟩
def s107 : Str := ⟨⟨[82, 101, 115, 105, 100, 117, 101, 115, 46, 105, 115, 95, 119, 101, 105, 103, 104, 116]⟩⟩
def s108 : Str := ⟨⟨[82, 101, 115, 105, 100, 117, 101, 115, 46, 115, 104, 111, 119, 110]⟩⟩
def s109 : Str := ⟨⟨[82, 101, 115, 105, 100, 117, 101, 115, 46, 114, 101, 97, 100]⟩⟩
def s110 : Str := ⟨⟨[67, 111, 115, 116, 115]⟩⟩
def s111 : Str := ⟨⟨[67, 111, 115, 116, 115, 46, 116, 111, 108, 100]⟩⟩
def s112 : Str := ⟨⟨[67, 111, 115, 116, 115, 46, 110, 111, 117, 103, 104, 116]⟩⟩
def s113 : Str := ⟨⟨[67, 111, 115, 116, 115, 46, 111, 110, 101]⟩⟩
def s114 : Str := ⟨⟨[67, 111, 115, 116, 115, 46, 112, 108, 117, 115]⟩⟩
def s115 : Str := ⟨⟨[67, 111, 115, 116, 115, 46, 116, 105, 109, 101, 115]⟩⟩
def s116 : Str := ⟨⟨[67, 111, 115, 116, 115, 46, 105, 115, 95, 119, 101, 105, 103, 104, 116]⟩⟩
def s117 : Str := ⟨⟨[67, 111, 115, 116, 115, 46, 115, 104, 111, 119, 110]⟩⟩
def s118 : Str := ⟨⟨[67, 111, 115, 116, 115, 46, 114, 101, 97, 100]⟩⟩
def s119 : Str := ⟨⟨[108, 97, 119, 95, 119, 101, 105, 103, 104, 119, 97, 108, 107, 95, 107, 49, 49, 95, 114, 111, 119, 115, 95, 97, 110, 100, 95, 116, 97, 98, 108, 101, 115]⟩⟩
def s120 : Str := ⟨⟨[84, 114, 117, 116, 104, 115]⟩⟩
def s121 : Str := ⟨⟨[95, 108, 97, 119, 95, 110, 101, 120, 116]⟩⟩
def s122 : Str := ⟨⟨[95, 108, 97, 119, 95, 115, 116, 97, 116, 101]⟩⟩
def s123 : Str := ⟨⟨[95, 108, 97, 119, 95, 108, 111, 119]⟩⟩
def s124 : Str := ⟨⟨[95, 108, 97, 119, 95, 112, 108, 117, 115]⟩⟩
def s125 : Str := ⟨⟨[95, 108, 97, 119, 95, 116, 105, 109, 101, 115]⟩⟩
def s126 : Str := ⟨⟨[95, 108, 97, 119, 95, 110, 111, 117, 103, 104, 116]⟩⟩
def s127 : Str := ⟨⟨[95, 108, 97, 119, 95, 115, 111, 114, 116]⟩⟩
def s128 : Str := ⟨⟨[95, 108, 97, 119, 95, 107, 105, 110, 100]⟩⟩
def s129 : Str := ⟨⟨[95, 108, 97, 119, 95, 119, 101, 105, 103, 104, 116]⟩⟩
def s130 : Str := ⟨⟨[95, 108, 97, 119, 95, 108, 105, 110, 101]⟩⟩
def s131 : Str := ⟨⟨[84, 114, 117, 116, 104, 115, 46, 116, 111, 108, 100]⟩⟩
def s132 : Str := ⟨⟨[84, 114, 117, 116, 104, 115, 46, 110, 111, 117, 103, 104, 116]⟩⟩
def s133 : Str := ⟨⟨[84, 114, 117, 116, 104, 115, 46, 111, 110, 101]⟩⟩
def s134 : Str := ⟨⟨[84, 114, 117, 116, 104, 115, 46, 112, 108, 117, 115]⟩⟩
def s135 : Str := ⟨⟨[84, 114, 117, 116, 104, 115, 46, 116, 105, 109, 101, 115]⟩⟩
def s136 : Str := ⟨⟨[84, 114, 117, 116, 104, 115, 46, 105, 115, 95, 119, 101, 105, 103, 104, 116]⟩⟩
def s137 : Str := ⟨⟨[84, 114, 117, 116, 104, 115, 46, 115, 104, 111, 119, 110]⟩⟩
def s138 : Str := ⟨⟨[84, 114, 117, 116, 104, 115, 46, 114, 101, 97, 100]⟩⟩
def s139 : Str := ⟨⟨[95, 108, 97, 119, 95, 115, 116, 97, 116, 101, 95, 104, 101, 114, 101]⟩⟩
def s140 : Str := ⟨⟨[95, 108, 97, 119, 95, 109, 97, 110, 121]⟩⟩
def s141 : Str := ⟨⟨[95, 108, 97, 119, 95, 102, 111, 117, 110, 100]⟩⟩
def s142 : Str := ⟨⟨[95, 108, 97, 119, 95, 115, 99, 114, 105, 112, 116]⟩⟩
def s143 : Str := ⟨⟨[95, 108, 97, 119, 95, 115, 101, 101, 100]⟩⟩
def s144 : Str := ⟨⟨[95, 108, 97, 119, 95, 99, 101, 108, 108]⟩⟩
def s145 : Str := ⟨⟨[95, 108, 97, 119, 95, 116, 111, 112]⟩⟩
def s146 : Str := ⟨⟨[95, 108, 97, 119, 95, 98, 111, 116, 116, 111, 109]⟩⟩
def s147 : Str := ⟨⟨[95, 108, 97, 119, 95, 111, 110, 101]⟩⟩
def s148 : Str := ⟨⟨[95, 108, 97, 119, 95, 98, 121]⟩⟩
def s149 : Str := ⟨⟨[95, 108, 97, 119, 95, 115, 111, 114, 116, 95, 104, 101, 114, 101]⟩⟩
def s150 : Str := ⟨⟨[95, 108, 97, 119, 95, 120]⟩⟩
def s151 : Str := ⟨⟨[95, 108, 97, 119, 95, 121]⟩⟩
def s152 : Str := ⟨⟨[95, 108, 97, 119, 95, 119, 97, 121]⟩⟩
def s153 : Str := ⟨⟨[95, 108, 97, 119, 95, 112, 114, 105, 109, 101]⟩⟩
def s154 : Str := ⟨⟨[95, 108, 97, 119, 95, 103, 114, 101, 97, 116]⟩⟩
def s155 : Str := ⟨⟨[95, 108, 97, 119, 95, 102, 97, 114]⟩⟩
def s156 : Str := ⟨⟨[95, 108, 97, 119, 95, 116, 97, 98, 108, 101]⟩⟩
def s157 : Str := ⟨⟨[95, 108, 97, 119, 95, 100, 111, 116]⟩⟩
def s158 : Str := ⟨⟨[95, 108, 97, 119, 95, 115, 97, 109, 101]⟩⟩
def s159 : Str := ⟨⟨[95, 108, 97, 119, 95, 97, 108, 108, 95, 115, 97, 109, 101]⟩⟩
def s160 : Str := ⟨⟨[95, 108, 97, 119, 95, 114, 111, 119, 95, 98, 121]⟩⟩
def s161 : Str := ⟨⟨[95, 108, 97, 119, 95, 116, 97, 98, 108, 101, 115, 95, 115, 97, 109, 101]⟩⟩
def s162 : Str := ⟨⟨[108, 97, 119]⟩⟩
def s163 : Str := ⟨⟨[95, 108, 97, 119, 95, 114, 111, 119]⟩⟩
def s164 : Str := ⟨⟨[95, 108, 97, 119, 95, 99, 111, 108, 117, 109, 110]⟩⟩
def s165 : Str := ⟨⟨[95, 108, 97, 119, 95, 116, 111, 116, 97, 108]⟩⟩
def s166 : Str := ⟨⟨[95, 108, 97, 119, 95, 100, 117, 101]⟩⟩
def s167 : Str := ⟨⟨[95, 108, 97, 119, 95, 108, 105, 110, 101, 95, 104, 101, 114, 101]⟩⟩
def s168 : Str := ⟨⟨[95, 108, 97, 119, 95, 109, 105, 110, 101]⟩⟩
def o11a (P : Params) : Obj := ⟨(.type SL.s2766695959194262286x5), none, (.seq #[] 0), #[]⟩
def o12a (P : Params) : Obj := ⟨.none, none, (.fields #[]), #[]⟩
def o13a (P : Params) : Obj := ⟨(.type SL.s5856160107412720595x4), none, (.fields #[(.str s0 182), (.str s0 183), (.str s1 184), (.int 1 0), (.int 0 0), (.int 0 0), (.int 0 0), (.int 0 0), (.ref 11), (.bool false), (.int 181 0), (.ref 12), .none, .none, .none, .none, (.int 185 0), (.int 1 0), (.str s1 186)]), #[]⟩
def o14a (P : Params) : Obj := ⟨(.type SL.s658472552662922059x5), none, .plain, #[(some (.ref 13)), (some (.ref 3)), (some (.ref 3)), none, (some (.str s2 164)), none, (some (.ref 0))]⟩
def o3_0 (P : Params) : Obj := ⟨(.type SL.s14018661285674007319x4), none, (.dict #[⟨(kh P s3), (.str s3 165), (.str s4 238)⟩, ⟨(kh P s5), (.str s5 166), .none⟩, ⟨(kh P s6), (.str s6 167), .none⟩, ⟨(kh P s7), (.str s7 168), (.builtin SL.s7097527257260152453x26)⟩, ⟨(kh P s8), (.str s8 169), .none⟩, ⟨(kh P s9), (.str s9 170), (.ref 6)⟩, ⟨(kh P s10), (.str s10 171), (.ref 4)⟩, ⟨(kh P s11), (.str s11 173), (.str s1 172)⟩, ⟨(kh P s12), (.str s12 174), .none⟩, ⟨(kh P s13), (.str s13 193), (.ref 21)⟩, ⟨(kh P s14), (.str s14 201), (.ref 26)⟩, ⟨(kh P s15), (.str s15 207), (.ref 31)⟩, ⟨(kh P s16), (.str s16 219), (.ref 38)⟩, ⟨(kh P s17), (.str s17 225), (.ref 43)⟩, ⟨(kh P s18), (.str s18 231), (.ref 48)⟩, ⟨(kh P s19), (.str s19 237), (.ref 53)⟩, ⟨(kh P s20), (.str s20 257), (.ref 63)⟩, ⟨(kh P s21), (.str s21 273), (.ref 76)⟩] 18), #[]⟩
def o12_0 (P : Params) : Obj := ⟨.none, none, (.fields #[(.int 1 0), (.int 0 0), (.ref 20), (.int 5 0), (.int 0 0), (.ref 25), (.int 7 0), (.int 0 0), (.ref 30), (.int 11 0), (.int 0 0), (.ref 37), (.int 16 0), (.int 0 0), (.ref 42), (.int 18 0), (.int 0 0), (.ref 47), (.int 20 0), (.int 0 0), (.ref 52), (.int 23 0), (.int 0 0), (.ref 59), (.int 25 0), (.int 0 0), (.ref 72)]), #[]⟩
def o15_0 (P : Params) : Obj := ⟨(.type SL.s2766695959194262286x5), none, (.seq #[] 0), #[]⟩
def o16_0 (P : Params) : Obj := ⟨.none, none, (.fields #[]), #[]⟩
def o17_0 (P : Params) : Obj := ⟨(.type SL.s2766695959194262286x5), none, (.seq #[(.str s22 190)] 0), #[]⟩
def o18_0 (P : Params) : Obj := ⟨(.type SL.s2766695959194262286x5), none, (.seq #[] 0), #[]⟩
def o19_0 (P : Params) : Obj := ⟨.none, none, (.func ⟨s13, s13, (L2.defArgs (topT 0)), (.stmts (L2.defBody (topT 0))), (L2.defScope (topT 0)), 0, [], .none, .none, .none, .none, none, .none, .none, 0⟩), #[]⟩
def o20_0 (P : Params) : Obj := ⟨(.type SL.s5856160107412720595x4), none, (.fields #[(.str s13 187), (.str s13 188), (.str s1 189), (.int 1 0), (.int 1 0), (.int 0 0), (.int 0 0), (.int 3 0), (.ref 15), (.bool true), (.int 181 0), (.ref 16), .none, (.ref 17), (.ref 18), (.ref 19), (.int 191 0), (.int 1 0), (.str s1 192)]), #[]⟩
def o21_0 (P : Params) : Obj := ⟨(.type SL.s7174869446012820540x8), none, (.func ⟨s13, s13, (L2.defArgs (topT 0)), (.stmts (L2.defBody (topT 0))), (L2.defScope (topT 0)), 3, [], .none, .none, .none, (.str s2 164), none, (.ref 20), .none, 0⟩), #[]⟩
def o22_0 (P : Params) : Obj := ⟨(.type SL.s2766695959194262286x5), none, (.seq #[] 0), #[]⟩
def o23_0 (P : Params) : Obj := ⟨.none, none, (.fields #[]), #[]⟩
def o24_0 (P : Params) : Obj := ⟨.none, none, (.func ⟨s14, s14, (L2.defArgs (topT 2)), (.stmts (L2.defBody (topT 2))), (L2.defScope (topT 2)), 0, [], .none, .none, .none, .none, none, .none, .none, 0⟩), #[]⟩
def o25_0 (P : Params) : Obj := ⟨(.type SL.s5856160107412720595x4), none, (.fields #[(.str s14 196), (.str s14 197), (.str s1 198), (.int 5 0), (.int 2 0), (.int 0 0), (.int 0 0), (.int 3 0), (.ref 22), (.bool true), (.int 181 0), (.ref 23), .none, .none, .none, (.ref 24), (.int 199 0), (.int 5 0), (.str s1 200)]), #[]⟩
def o26_0 (P : Params) : Obj := ⟨(.type SL.s7174869446012820540x8), none, (.func ⟨s14, s14, (L2.defArgs (topT 2)), (.stmts (L2.defBody (topT 2))), (L2.defScope (topT 2)), 3, [], .none, .none, .none, (.str s23 194), none, (.ref 25), .none, 0⟩), #[]⟩
def o27_0 (P : Params) : Obj := ⟨(.type SL.s2766695959194262286x5), none, (.seq #[] 0), #[]⟩
def o28_0 (P : Params) : Obj := ⟨.none, none, (.fields #[]), #[]⟩
def o29_0 (P : Params) : Obj := ⟨.none, none, (.func ⟨s15, s15, (L2.defArgs (topT 3)), (.stmts (L2.defBody (topT 3))), (L2.defScope (topT 3)), 0, [], .none, .none, .none, .none, none, .none, .none, 0⟩), #[]⟩
def o30_0 (P : Params) : Obj := ⟨(.type SL.s5856160107412720595x4), none, (.fields #[(.str s15 202), (.str s15 203), (.str s1 204), (.int 7 0), (.int 1 0), (.int 0 0), (.int 0 0), (.int 3 0), (.ref 27), (.bool true), (.int 181 0), (.ref 28), .none, .none, .none, (.ref 29), (.int 205 0), (.int 7 0), (.str s1 206)]), #[]⟩
def o31_0 (P : Params) : Obj := ⟨(.type SL.s7174869446012820540x8), none, (.func ⟨s15, s15, (L2.defArgs (topT 3)), (.stmts (L2.defBody (topT 3))), (L2.defScope (topT 3)), 3, [], .none, .none, .none, (.str s23 194), none, (.ref 30), .none, 0⟩), #[]⟩
def o32_0 (P : Params) : Obj := ⟨(.type SL.s2766695959194262286x5), none, (.seq #[] 0), #[]⟩
def o33_0 (P : Params) : Obj := ⟨.none, none, (.fields #[]), #[]⟩
def o34_0 (P : Params) : Obj := ⟨(.type SL.s2766695959194262286x5), none, (.seq #[(.str s24 211), (.str s25 212), (.str s26 213), (.str s27 214), (.str s28 215), (.str s29 216)] 0), #[]⟩
def o35_0 (P : Params) : Obj := ⟨(.type SL.s2766695959194262286x5), none, (.seq #[] 0), #[]⟩
def o36_0 (P : Params) : Obj := ⟨.none, none, (.func ⟨s16, s16, (L2.defArgs (topT 4)), (.stmts (L2.defBody (topT 4))), (L2.defScope (topT 4)), 0, [], .none, .none, .none, .none, none, .none, .none, 0⟩), #[]⟩
def o37_0 (P : Params) : Obj := ⟨(.type SL.s5856160107412720595x4), none, (.fields #[(.str s16 208), (.str s16 209), (.str s1 210), (.int 11 0), (.int 3 0), (.int 0 0), (.int 0 0), (.int 3 0), (.ref 32), (.bool true), (.int 181 0), (.ref 33), .none, (.ref 34), (.ref 35), (.ref 36), (.int 217 0), (.int 11 0), (.str s1 218)]), #[]⟩
def o38_0 (P : Params) : Obj := ⟨(.type SL.s7174869446012820540x8), none, (.func ⟨s16, s16, (L2.defArgs (topT 4)), (.stmts (L2.defBody (topT 4))), (L2.defScope (topT 4)), 3, [], .none, .none, .none, (.str s23 194), none, (.ref 37), .none, 0⟩), #[]⟩
def o39_0 (P : Params) : Obj := ⟨(.type SL.s2766695959194262286x5), none, (.seq #[] 0), #[]⟩
def o40_0 (P : Params) : Obj := ⟨.none, none, (.fields #[]), #[]⟩
def o41_0 (P : Params) : Obj := ⟨.none, none, (.func ⟨s17, s17, (L2.defArgs (topT 5)), (.stmts (L2.defBody (topT 5))), (L2.defScope (topT 5)), 0, [], .none, .none, .none, .none, none, .none, .none, 0⟩), #[]⟩
def o42_0 (P : Params) : Obj := ⟨(.type SL.s5856160107412720595x4), none, (.fields #[(.str s17 220), (.str s17 221), (.str s1 222), (.int 16 0), (.int 3 0), (.int 0 0), (.int 0 0), (.int 3 0), (.ref 39), (.bool true), (.int 181 0), (.ref 40), .none, .none, .none, (.ref 41), (.int 223 0), (.int 16 0), (.str s1 224)]), #[]⟩
def o43_0 (P : Params) : Obj := ⟨(.type SL.s7174869446012820540x8), none, (.func ⟨s17, s17, (L2.defArgs (topT 5)), (.stmts (L2.defBody (topT 5))), (L2.defScope (topT 5)), 3, [], .none, .none, .none, (.str s23 194), none, (.ref 42), .none, 0⟩), #[]⟩
def o44_0 (P : Params) : Obj := ⟨(.type SL.s2766695959194262286x5), none, (.seq #[] 0), #[]⟩
def o45_0 (P : Params) : Obj := ⟨.none, none, (.fields #[]), #[]⟩
def o46_0 (P : Params) : Obj := ⟨.none, none, (.func ⟨s18, s18, (L2.defArgs (topT 6)), (.stmts (L2.defBody (topT 6))), (L2.defScope (topT 6)), 0, [], .none, .none, .none, .none, none, .none, .none, 0⟩), #[]⟩
def o47_0 (P : Params) : Obj := ⟨(.type SL.s5856160107412720595x4), none, (.fields #[(.str s18 226), (.str s18 227), (.str s1 228), (.int 18 0), (.int 3 0), (.int 0 0), (.int 0 0), (.int 3 0), (.ref 44), (.bool true), (.int 181 0), (.ref 45), .none, .none, .none, (.ref 46), (.int 229 0), (.int 18 0), (.str s1 230)]), #[]⟩
def o48_0 (P : Params) : Obj := ⟨(.type SL.s7174869446012820540x8), none, (.func ⟨s18, s18, (L2.defArgs (topT 6)), (.stmts (L2.defBody (topT 6))), (L2.defScope (topT 6)), 3, [], .none, .none, .none, (.str s23 194), none, (.ref 47), .none, 0⟩), #[]⟩
def o49_0 (P : Params) : Obj := ⟨(.type SL.s2766695959194262286x5), none, (.seq #[] 0), #[]⟩
def o50_0 (P : Params) : Obj := ⟨.none, none, (.fields #[]), #[]⟩
def o51_0 (P : Params) : Obj := ⟨.none, none, (.func ⟨s19, s19, (L2.defArgs (topT 7)), (.stmts (L2.defBody (topT 7))), (L2.defScope (topT 7)), 0, [], .none, .none, .none, .none, none, .none, .none, 0⟩), #[]⟩
def o52_0 (P : Params) : Obj := ⟨(.type SL.s5856160107412720595x4), none, (.fields #[(.str s19 232), (.str s19 233), (.str s1 234), (.int 20 0), (.int 3 0), (.int 0 0), (.int 0 0), (.int 3 0), (.ref 49), (.bool true), (.int 181 0), (.ref 50), .none, .none, .none, (.ref 51), (.int 235 0), (.int 20 0), (.str s1 236)]), #[]⟩
def o53_0 (P : Params) : Obj := ⟨(.type SL.s7174869446012820540x8), none, (.func ⟨s19, s19, (L2.defArgs (topT 7)), (.stmts (L2.defBody (topT 7))), (L2.defScope (topT 7)), 3, [], .none, .none, .none, (.str s23 194), none, (.ref 52), .none, 0⟩), #[]⟩
def o54_0 (P : Params) : Obj := ⟨(.type SL.s2766695959194262286x5), none, (.seq #[(.type SL.s6070975301684473832x10)] 0), #[]⟩
def o55_0 (P : Params) : Obj := ⟨(.type SL.s11030030927630378310x26), none, (.fields #[(.builtin SL.s10062305145149207511x16), (.type SL.s17162191345867700912x4)]), #[]⟩
def o56_0 (P : Params) : Obj := ⟨(.type SL.s14018661285674007319x4), none, (.dict #[⟨(kh P s30), (.str s30 247), (.str s4 238)⟩, ⟨(kh P s31), (.str s31 249), (.str s20 248)⟩, ⟨(kh P s32), (.str s32 251), (.int 23 250)⟩, ⟨(kh P s33), (.str s33 252), (.ref 61)⟩] 4), #[]⟩
def o57_0 (P : Params) : Obj := ⟨(.type SL.s2766695959194262286x5), none, (.seq #[] 0), #[]⟩
def o58_0 (P : Params) : Obj := ⟨.none, none, (.fields #[]), #[]⟩
def o59_0 (P : Params) : Obj := ⟨(.type SL.s5856160107412720595x4), none, (.fields #[(.str s20 242), (.str s20 243), (.str s1 244), (.int 23 0), (.int 0 0), (.int 0 0), (.int 0 0), (.int 0 0), (.ref 57), (.bool false), (.int 181 0), (.ref 58), .none, .none, .none, .none, (.int 245 0), (.int 23 0), (.str s1 246)]), #[]⟩
def o60_0 (P : Params) : Obj := ⟨(.type SL.s658472552662922059x5), none, .plain, #[(some (.ref 59)), (some (.ref 3)), (some (.ref 56)), none, (some (.str s4 238)), none, (some (.ref 0))]⟩
def o61_0 (P : Params) : Obj := ⟨(.type SL.s2766695959194262286x5), none, (.seq #[] 0), #[]⟩
def o62_0 (P : Params) : Obj := ⟨(.type SL.s14018661285674007319x4), none, (.dict #[⟨(kh P s30), (.str s30 247), (.str s4 238)⟩, ⟨(kh P s32), (.str s32 251), (.int 23 250)⟩, ⟨(kh P s33), (.str s33 252), (.ref 61)⟩, ⟨(kh P s34), (.str s34 254), (.ref 64)⟩, ⟨(kh P s5), (.str s5 255), .none⟩] 3), #[]⟩
def o63_0 (P : Params) : Obj := ⟨(.type SL.s17162191345867700912x4), none, (.cls ⟨s20, [(.type SL.s6070975301684473832x10)], [(.ref 63), (.type SL.s6070975301684473832x10), (.type SL.s5946037652744460706x9), (.type SL.s4278001404047624695x13), (.type SL.s2742458400755230247x6)], 62, s20, true, [], [(.ref 76)], false, none, false⟩), #[(some (.ref 54)), none, (some (.str s20 240)), (some (.str s20 248)), (some (.builtin SL.s4209523147560561109x18)), (some (.bool true))]⟩
def o64_0 (P : Params) : Obj := ⟨(.type SL.s14755015743595814543x17), none, (.fields #[(.str s34 253), (.ref 63), (.builtin SL.s10220274742760427390x26), .none]), #[]⟩
def o65_0 (P : Params) : Obj := ⟨(.type SL.s4290257624100764138x5), none, (.fields #[(.ref 63), (.ref 63), (.ref 63)]), #[]⟩
def o66_0 (P : Params) : Obj := ⟨(.type SL.s11030030927630378310x26), none, (.fields #[(.builtin SL.s4860613602091757760x24), (.ref 63)]), #[]⟩
def o67_0 (P : Params) : Obj := ⟨(.type SL.s2766695959194262286x5), none, (.seq #[(.ref 63)] 0), #[]⟩
def o68_0 (P : Params) : Obj := ⟨(.type SL.s11030030927630378310x26), none, (.fields #[(.builtin SL.s10062305145149207511x16), (.type SL.s17162191345867700912x4)]), #[]⟩
def o69_0 (P : Params) : Obj := ⟨(.type SL.s14018661285674007319x4), none, (.dict #[⟨(kh P s30), (.str s30 265), (.str s4 238)⟩, ⟨(kh P s31), (.str s31 267), (.str s21 266)⟩, ⟨(kh P s32), (.str s32 269), (.int 25 268)⟩, ⟨(kh P s33), (.str s33 270), (.ref 74)⟩] 4), #[]⟩
def o70_0 (P : Params) : Obj := ⟨(.type SL.s2766695959194262286x5), none, (.seq #[] 0), #[]⟩
def o71_0 (P : Params) : Obj := ⟨.none, none, (.fields #[]), #[]⟩
def o72_0 (P : Params) : Obj := ⟨(.type SL.s5856160107412720595x4), none, (.fields #[(.str s21 260), (.str s21 261), (.str s1 262), (.int 25 0), (.int 0 0), (.int 0 0), (.int 0 0), (.int 0 0), (.ref 70), (.bool false), (.int 181 0), (.ref 71), .none, .none, .none, .none, (.int 263 0), (.int 25 0), (.str s1 264)]), #[]⟩
def o73_0 (P : Params) : Obj := ⟨(.type SL.s658472552662922059x5), none, .plain, #[(some (.ref 72)), (some (.ref 3)), (some (.ref 69)), none, (some (.str s4 238)), none, (some (.ref 0))]⟩
def o74_0 (P : Params) : Obj := ⟨(.type SL.s2766695959194262286x5), none, (.seq #[] 0), #[]⟩
def o75_0 (P : Params) : Obj := ⟨(.type SL.s14018661285674007319x4), none, (.dict #[⟨(kh P s30), (.str s30 265), (.str s4 238)⟩, ⟨(kh P s32), (.str s32 269), (.int 25 268)⟩, ⟨(kh P s33), (.str s33 270), (.ref 74)⟩, ⟨(kh P s5), (.str s5 271), .none⟩] 2), #[]⟩
def o76_0 (P : Params) : Obj := ⟨(.type SL.s17162191345867700912x4), none, (.cls ⟨s21, [(.ref 63)], [(.ref 76), (.ref 63), (.type SL.s6070975301684473832x10), (.type SL.s5946037652744460706x9), (.type SL.s4278001404047624695x13), (.type SL.s2742458400755230247x6)], 75, s21, true, [], [], false, none, false⟩), #[(some (.ref 67)), none, (some (.str s21 258)), (some (.str s21 266)), (some (.builtin SL.s4209523147560561109x18)), (some (.bool true))]⟩
def o77_0 (P : Params) : Obj := ⟨(.type SL.s4290257624100764138x5), none, (.fields #[(.ref 76), (.ref 76), (.ref 76)]), #[]⟩
def o78_0 (P : Params) : Obj := ⟨(.type SL.s11030030927630378310x26), none, (.fields #[(.builtin SL.s4860613602091757760x24), (.ref 76)]), #[]⟩
def o3_1 (P : Params) : Obj := ⟨(.type SL.s14018661285674007319x4), none, (.dict #[⟨(kh P s3), (.str s3 165), (.str s35 343)⟩, ⟨(kh P s5), (.str s5 166), .none⟩, ⟨(kh P s6), (.str s6 167), .none⟩, ⟨(kh P s7), (.str s7 168), (.builtin SL.s7097527257260152453x26)⟩, ⟨(kh P s8), (.str s8 169), .none⟩, ⟨(kh P s9), (.str s9 170), (.ref 6)⟩, ⟨(kh P s10), (.str s10 171), (.ref 4)⟩, ⟨(kh P s11), (.str s11 173), (.str s1 172)⟩, ⟨(kh P s12), (.str s12 174), .none⟩, ⟨(kh P s13), (.str s13 193), (.ref 21)⟩, ⟨(kh P s14), (.str s14 201), (.ref 26)⟩, ⟨(kh P s15), (.str s15 207), (.ref 31)⟩, ⟨(kh P s16), (.str s16 219), (.ref 38)⟩, ⟨(kh P s17), (.str s17 225), (.ref 43)⟩, ⟨(kh P s18), (.str s18 231), (.ref 48)⟩, ⟨(kh P s19), (.str s19 237), (.ref 53)⟩, ⟨(kh P s20), (.str s20 257), (.ref 63)⟩, ⟨(kh P s21), (.str s21 273), (.ref 76)⟩, ⟨(kh P s36), (.str s36 289), (.ref 88)⟩, ⟨(kh P s37), (.str s37 305), (.ref 100)⟩, ⟨(kh P s38), (.str s38 314), (.ref 109)⟩, ⟨(kh P s39), (.str s39 325), (.ref 116)⟩, ⟨(kh P s40), (.str s40 334), (.ref 123)⟩, ⟨(kh P s41), (.str s41 342), (.ref 130)⟩, ⟨(kh P s42), (.str s42 346), (.str s43 345)⟩, ⟨(kh P s44), (.str s44 348), (.int 30 347)⟩, ⟨(kh P s45), (.str s45 350), (.int 1000000 349)⟩, ⟨(kh P s46), (.str s46 356), (.ref 135)⟩, ⟨(kh P s47), (.str s47 363), (.ref 142)⟩, ⟨(kh P s48), (.str s48 370), (.ref 149)⟩] 30), #[]⟩
def o12_1 (P : Params) : Obj := ⟨.none, none, (.fields #[(.int 1 0), (.int 0 0), (.ref 20), (.int 5 0), (.int 0 0), (.ref 25), (.int 7 0), (.int 0 0), (.ref 30), (.int 11 0), (.int 0 0), (.ref 37), (.int 16 0), (.int 0 0), (.ref 42), (.int 18 0), (.int 0 0), (.ref 47), (.int 20 0), (.int 0 0), (.ref 52), (.int 23 0), (.int 0 0), (.ref 59), (.int 25 0), (.int 0 0), (.ref 72), (.int 27 0), (.int 0 0), (.ref 84), (.int 29 0), (.int 0 0), (.ref 96), (.int 32 0), (.int 0 0), (.ref 108), (.int 34 0), (.int 0 0), (.ref 115), (.int 42 0), (.int 0 0), (.ref 122), (.int 51 0), (.int 0 0), (.ref 129), (.int 64 0), (.int 0 0), (.ref 134), (.int 73 0), (.int 0 0), (.ref 141), (.int 77 0), (.int 0 0), (.ref 148)]), #[]⟩
def o63_1 (P : Params) : Obj := ⟨(.type SL.s17162191345867700912x4), none, (.cls ⟨s20, [(.type SL.s6070975301684473832x10)], [(.ref 63), (.type SL.s6070975301684473832x10), (.type SL.s5946037652744460706x9), (.type SL.s4278001404047624695x13), (.type SL.s2742458400755230247x6)], 62, s20, true, [], [(.ref 76), (.ref 88), (.ref 100)], false, none, false⟩), #[(some (.ref 54)), none, (some (.str s20 240)), (some (.str s20 248)), (some (.builtin SL.s4209523147560561109x18)), (some (.bool true))]⟩
def o79_1 (P : Params) : Obj := ⟨(.type SL.s2766695959194262286x5), none, (.seq #[(.ref 63)] 0), #[]⟩
def o80_1 (P : Params) : Obj := ⟨(.type SL.s11030030927630378310x26), none, (.fields #[(.builtin SL.s10062305145149207511x16), (.type SL.s17162191345867700912x4)]), #[]⟩
def o81_1 (P : Params) : Obj := ⟨(.type SL.s14018661285674007319x4), none, (.dict #[⟨(kh P s30), (.str s30 281), (.str s4 238)⟩, ⟨(kh P s31), (.str s31 283), (.str s36 282)⟩, ⟨(kh P s32), (.str s32 285), (.int 27 284)⟩, ⟨(kh P s33), (.str s33 286), (.ref 86)⟩] 4), #[]⟩
def o82_1 (P : Params) : Obj := ⟨(.type SL.s2766695959194262286x5), none, (.seq #[] 0), #[]⟩
def o83_1 (P : Params) : Obj := ⟨.none, none, (.fields #[]), #[]⟩
def o84_1 (P : Params) : Obj := ⟨(.type SL.s5856160107412720595x4), none, (.fields #[(.str s36 276), (.str s36 277), (.str s1 278), (.int 27 0), (.int 0 0), (.int 0 0), (.int 0 0), (.int 0 0), (.ref 82), (.bool false), (.int 181 0), (.ref 83), .none, .none, .none, .none, (.int 279 0), (.int 27 0), (.str s1 280)]), #[]⟩
def o85_1 (P : Params) : Obj := ⟨(.type SL.s658472552662922059x5), none, .plain, #[(some (.ref 84)), (some (.ref 3)), (some (.ref 81)), none, (some (.str s4 238)), none, (some (.ref 0))]⟩
def o86_1 (P : Params) : Obj := ⟨(.type SL.s2766695959194262286x5), none, (.seq #[] 0), #[]⟩
def o87_1 (P : Params) : Obj := ⟨(.type SL.s14018661285674007319x4), none, (.dict #[⟨(kh P s30), (.str s30 281), (.str s4 238)⟩, ⟨(kh P s32), (.str s32 285), (.int 27 284)⟩, ⟨(kh P s33), (.str s33 286), (.ref 86)⟩, ⟨(kh P s5), (.str s5 287), .none⟩] 2), #[]⟩
def o88_1 (P : Params) : Obj := ⟨(.type SL.s17162191345867700912x4), none, (.cls ⟨s36, [(.ref 63)], [(.ref 88), (.ref 63), (.type SL.s6070975301684473832x10), (.type SL.s5946037652744460706x9), (.type SL.s4278001404047624695x13), (.type SL.s2742458400755230247x6)], 87, s36, true, [], [], false, none, false⟩), #[(some (.ref 79)), none, (some (.str s36 274)), (some (.str s36 282)), (some (.builtin SL.s4209523147560561109x18)), (some (.bool true))]⟩
def o89_1 (P : Params) : Obj := ⟨(.type SL.s4290257624100764138x5), none, (.fields #[(.ref 88), (.ref 88), (.ref 88)]), #[]⟩
def o90_1 (P : Params) : Obj := ⟨(.type SL.s11030030927630378310x26), none, (.fields #[(.builtin SL.s4860613602091757760x24), (.ref 88)]), #[]⟩
def o91_1 (P : Params) : Obj := ⟨(.type SL.s2766695959194262286x5), none, (.seq #[(.ref 63)] 0), #[]⟩
def o92_1 (P : Params) : Obj := ⟨(.type SL.s11030030927630378310x26), none, (.fields #[(.builtin SL.s10062305145149207511x16), (.type SL.s17162191345867700912x4)]), #[]⟩
def o93_1 (P : Params) : Obj := ⟨(.type SL.s14018661285674007319x4), none, (.dict #[⟨(kh P s30), (.str s30 297), (.str s4 238)⟩, ⟨(kh P s31), (.str s31 299), (.str s37 298)⟩, ⟨(kh P s32), (.str s32 301), (.int 29 300)⟩, ⟨(kh P s33), (.str s33 302), (.ref 98)⟩] 4), #[]⟩
def o94_1 (P : Params) : Obj := ⟨(.type SL.s2766695959194262286x5), none, (.seq #[] 0), #[]⟩
def o95_1 (P : Params) : Obj := ⟨.none, none, (.fields #[]), #[]⟩
def o96_1 (P : Params) : Obj := ⟨(.type SL.s5856160107412720595x4), none, (.fields #[(.str s37 292), (.str s37 293), (.str s1 294), (.int 29 0), (.int 0 0), (.int 0 0), (.int 0 0), (.int 0 0), (.ref 94), (.bool false), (.int 181 0), (.ref 95), .none, .none, .none, .none, (.int 295 0), (.int 29 0), (.str s1 296)]), #[]⟩
def o97_1 (P : Params) : Obj := ⟨(.type SL.s658472552662922059x5), none, .plain, #[(some (.ref 96)), (some (.ref 3)), (some (.ref 93)), none, (some (.str s4 238)), none, (some (.ref 0))]⟩
def o98_1 (P : Params) : Obj := ⟨(.type SL.s2766695959194262286x5), none, (.seq #[] 0), #[]⟩
def o99_1 (P : Params) : Obj := ⟨(.type SL.s14018661285674007319x4), none, (.dict #[⟨(kh P s30), (.str s30 297), (.str s4 238)⟩, ⟨(kh P s32), (.str s32 301), (.int 29 300)⟩, ⟨(kh P s33), (.str s33 302), (.ref 98)⟩, ⟨(kh P s5), (.str s5 303), .none⟩] 2), #[]⟩
def o100_1 (P : Params) : Obj := ⟨(.type SL.s17162191345867700912x4), none, (.cls ⟨s37, [(.ref 63)], [(.ref 100), (.ref 63), (.type SL.s6070975301684473832x10), (.type SL.s5946037652744460706x9), (.type SL.s4278001404047624695x13), (.type SL.s2742458400755230247x6)], 99, s37, true, [], [], false, none, false⟩), #[(some (.ref 91)), none, (some (.str s37 290)), (some (.str s37 298)), (some (.builtin SL.s4209523147560561109x18)), (some (.bool true))]⟩
def o101_1 (P : Params) : Obj := ⟨(.type SL.s4290257624100764138x5), none, (.fields #[(.ref 100), (.ref 100), (.ref 100)]), #[]⟩
def o102_1 (P : Params) : Obj := ⟨(.type SL.s11030030927630378310x26), none, (.fields #[(.builtin SL.s4860613602091757760x24), (.ref 100)]), #[]⟩
def o103_1 (P : Params) : Obj := ⟨(.type SL.s2766695959194262286x5), none, (.seq #[] 0), #[]⟩
def o104_1 (P : Params) : Obj := ⟨.none, none, (.fields #[]), #[]⟩
def o105_1 (P : Params) : Obj := ⟨(.type SL.s2766695959194262286x5), none, (.seq #[(.str s49 311)] 0), #[]⟩
def o106_1 (P : Params) : Obj := ⟨(.type SL.s2766695959194262286x5), none, (.seq #[] 0), #[]⟩
def o107_1 (P : Params) : Obj := ⟨.none, none, (.func ⟨s38, s38, (L2.defArgs (topT 14)), (.stmts (L2.defBody (topT 14))), (L2.defScope (topT 14)), 0, [], .none, .none, .none, .none, none, .none, .none, 0⟩), #[]⟩
def o108_1 (P : Params) : Obj := ⟨(.type SL.s5856160107412720595x4), none, (.fields #[(.str s38 308), (.str s38 309), (.str s1 310), (.int 32 0), (.int 1 0), (.int 0 0), (.int 0 0), (.int 3 0), (.ref 103), (.bool true), (.int 181 0), (.ref 104), .none, (.ref 105), (.ref 106), (.ref 107), (.int 312 0), (.int 32 0), (.str s1 313)]), #[]⟩
def o109_1 (P : Params) : Obj := ⟨(.type SL.s7174869446012820540x8), none, (.func ⟨s38, s38, (L2.defArgs (topT 14)), (.stmts (L2.defBody (topT 14))), (L2.defScope (topT 14)), 3, [], .none, .none, .none, (.str s50 306), none, (.ref 108), .none, 0⟩), #[]⟩
def o110_1 (P : Params) : Obj := ⟨(.type SL.s2766695959194262286x5), none, (.seq #[] 0), #[]⟩
def o111_1 (P : Params) : Obj := ⟨.none, none, (.fields #[]), #[]⟩
def o112_1 (P : Params) : Obj := ⟨(.type SL.s2766695959194262286x5), none, (.seq #[(.str s51 318), (.str s52 319), (.str s53 320), (.str s54 321), (.str s55 322)] 0), #[]⟩
def o113_1 (P : Params) : Obj := ⟨(.type SL.s2766695959194262286x5), none, (.seq #[] 0), #[]⟩
def o114_1 (P : Params) : Obj := ⟨.none, none, (.func ⟨s39, s39, (L2.defArgs (topT 15)), (.stmts (L2.defBody (topT 15))), (L2.defScope (topT 15)), 0, [], .none, .none, .none, .none, none, .none, .none, 0⟩), #[]⟩
def o115_1 (P : Params) : Obj := ⟨(.type SL.s5856160107412720595x4), none, (.fields #[(.str s39 315), (.str s39 316), (.str s1 317), (.int 34 0), (.int 2 0), (.int 0 0), (.int 0 0), (.int 3 0), (.ref 110), (.bool true), (.int 181 0), (.ref 111), .none, (.ref 112), (.ref 113), (.ref 114), (.int 323 0), (.int 34 0), (.str s1 324)]), #[]⟩
def o116_1 (P : Params) : Obj := ⟨(.type SL.s7174869446012820540x8), none, (.func ⟨s39, s39, (L2.defArgs (topT 15)), (.stmts (L2.defBody (topT 15))), (L2.defScope (topT 15)), 3, [], .none, .none, .none, (.str s50 306), none, (.ref 115), .none, 0⟩), #[]⟩
def o117_1 (P : Params) : Obj := ⟨(.type SL.s2766695959194262286x5), none, (.seq #[] 0), #[]⟩
def o118_1 (P : Params) : Obj := ⟨.none, none, (.fields #[]), #[]⟩
def o119_1 (P : Params) : Obj := ⟨(.type SL.s2766695959194262286x5), none, (.seq #[(.str s56 329), (.str s57 330), (.str s58 331)] 0), #[]⟩
def o120_1 (P : Params) : Obj := ⟨(.type SL.s2766695959194262286x5), none, (.seq #[] 0), #[]⟩
def o121_1 (P : Params) : Obj := ⟨.none, none, (.func ⟨s40, s40, (L2.defArgs (topT 16)), (.stmts (L2.defBody (topT 16))), (L2.defScope (topT 16)), 0, [], .none, .none, .none, .none, none, .none, .none, 0⟩), #[]⟩
def o122_1 (P : Params) : Obj := ⟨(.type SL.s5856160107412720595x4), none, (.fields #[(.str s40 326), (.str s40 327), (.str s1 328), (.int 42 0), (.int 2 0), (.int 0 0), (.int 0 0), (.int 3 0), (.ref 117), (.bool true), (.int 181 0), (.ref 118), .none, (.ref 119), (.ref 120), (.ref 121), (.int 332 0), (.int 42 0), (.str s1 333)]), #[]⟩
def o123_1 (P : Params) : Obj := ⟨(.type SL.s7174869446012820540x8), none, (.func ⟨s40, s40, (L2.defArgs (topT 16)), (.stmts (L2.defBody (topT 16))), (L2.defScope (topT 16)), 3, [], .none, .none, .none, (.str s50 306), none, (.ref 122), .none, 0⟩), #[]⟩
def o124_1 (P : Params) : Obj := ⟨(.type SL.s2766695959194262286x5), none, (.seq #[] 0), #[]⟩
def o125_1 (P : Params) : Obj := ⟨.none, none, (.fields #[]), #[]⟩
def o126_1 (P : Params) : Obj := ⟨(.type SL.s2766695959194262286x5), none, (.seq #[(.str s59 338), (.str s60 339)] 0), #[]⟩
def o127_1 (P : Params) : Obj := ⟨(.type SL.s2766695959194262286x5), none, (.seq #[] 0), #[]⟩
def o128_1 (P : Params) : Obj := ⟨.none, none, (.func ⟨s41, s41, (L2.defArgs (topT 17)), (.stmts (L2.defBody (topT 17))), (L2.defScope (topT 17)), 0, [], .none, .none, .none, .none, none, .none, .none, 0⟩), #[]⟩
def o129_1 (P : Params) : Obj := ⟨(.type SL.s5856160107412720595x4), none, (.fields #[(.str s41 335), (.str s41 336), (.str s1 337), (.int 51 0), (.int 1 0), (.int 0 0), (.int 0 0), (.int 3 0), (.ref 124), (.bool true), (.int 181 0), (.ref 125), .none, (.ref 126), (.ref 127), (.ref 128), (.int 340 0), (.int 51 0), (.str s1 341)]), #[]⟩
def o130_1 (P : Params) : Obj := ⟨(.type SL.s7174869446012820540x8), none, (.func ⟨s41, s41, (L2.defArgs (topT 17)), (.stmts (L2.defBody (topT 17))), (L2.defScope (topT 17)), 3, [], .none, .none, .none, (.str s50 306), none, (.ref 129), .none, 0⟩), #[]⟩
def o131_1 (P : Params) : Obj := ⟨(.type SL.s2766695959194262286x5), none, (.seq #[] 0), #[]⟩
def o132_1 (P : Params) : Obj := ⟨.none, none, (.fields #[]), #[]⟩
def o133_1 (P : Params) : Obj := ⟨.none, none, (.func ⟨s46, s46, (L2.defArgs (topT 22)), (.stmts (L2.defBody (topT 22))), (L2.defScope (topT 22)), 0, [], .none, .none, .none, .none, none, .none, .none, 0⟩), #[]⟩
def o134_1 (P : Params) : Obj := ⟨(.type SL.s5856160107412720595x4), none, (.fields #[(.str s46 351), (.str s46 352), (.str s1 353), (.int 64 0), (.int 1 0), (.int 0 0), (.int 0 0), (.int 3 0), (.ref 131), (.bool true), (.int 181 0), (.ref 132), .none, .none, .none, (.ref 133), (.int 354 0), (.int 64 0), (.str s1 355)]), #[]⟩
def o135_1 (P : Params) : Obj := ⟨(.type SL.s7174869446012820540x8), none, (.func ⟨s46, s46, (L2.defArgs (topT 22)), (.stmts (L2.defBody (topT 22))), (L2.defScope (topT 22)), 3, [], .none, .none, .none, (.str s35 343), none, (.ref 134), .none, 0⟩), #[]⟩
def o136_1 (P : Params) : Obj := ⟨(.type SL.s2766695959194262286x5), none, (.seq #[] 0), #[]⟩
def o137_1 (P : Params) : Obj := ⟨.none, none, (.fields #[]), #[]⟩
def o138_1 (P : Params) : Obj := ⟨(.type SL.s2766695959194262286x5), none, (.seq #[(.str s61 360)] 0), #[]⟩
def o139_1 (P : Params) : Obj := ⟨(.type SL.s2766695959194262286x5), none, (.seq #[] 0), #[]⟩
def o140_1 (P : Params) : Obj := ⟨.none, none, (.func ⟨s47, s47, (L2.defArgs (topT 23)), (.stmts (L2.defBody (topT 23))), (L2.defScope (topT 23)), 0, [], .none, .none, .none, .none, none, .none, .none, 0⟩), #[]⟩
def o141_1 (P : Params) : Obj := ⟨(.type SL.s5856160107412720595x4), none, (.fields #[(.str s47 357), (.str s47 358), (.str s1 359), (.int 73 0), (.int 1 0), (.int 0 0), (.int 0 0), (.int 3 0), (.ref 136), (.bool true), (.int 181 0), (.ref 137), .none, (.ref 138), (.ref 139), (.ref 140), (.int 361 0), (.int 73 0), (.str s1 362)]), #[]⟩
def o142_1 (P : Params) : Obj := ⟨(.type SL.s7174869446012820540x8), none, (.func ⟨s47, s47, (L2.defArgs (topT 23)), (.stmts (L2.defBody (topT 23))), (L2.defScope (topT 23)), 3, [], .none, .none, .none, (.str s35 343), none, (.ref 141), .none, 0⟩), #[]⟩
def o143_1 (P : Params) : Obj := ⟨(.type SL.s2766695959194262286x5), none, (.seq #[] 0), #[]⟩
def o144_1 (P : Params) : Obj := ⟨.none, none, (.fields #[]), #[]⟩
def o145_1 (P : Params) : Obj := ⟨(.type SL.s2766695959194262286x5), none, (.seq #[(.str s61 367)] 0), #[]⟩
def o146_1 (P : Params) : Obj := ⟨(.type SL.s2766695959194262286x5), none, (.seq #[] 0), #[]⟩
def o147_1 (P : Params) : Obj := ⟨.none, none, (.func ⟨s48, s48, (L2.defArgs (topT 24)), (.stmts (L2.defBody (topT 24))), (L2.defScope (topT 24)), 0, [], .none, .none, .none, .none, none, .none, .none, 0⟩), #[]⟩
def o148_1 (P : Params) : Obj := ⟨(.type SL.s5856160107412720595x4), none, (.fields #[(.str s48 364), (.str s48 365), (.str s1 366), (.int 77 0), (.int 1 0), (.int 0 0), (.int 0 0), (.int 3 0), (.ref 143), (.bool true), (.int 181 0), (.ref 144), .none, (.ref 145), (.ref 146), (.ref 147), (.int 368 0), (.int 77 0), (.str s1 369)]), #[]⟩
def o149_1 (P : Params) : Obj := ⟨(.type SL.s7174869446012820540x8), none, (.func ⟨s48, s48, (L2.defArgs (topT 24)), (.stmts (L2.defBody (topT 24))), (L2.defScope (topT 24)), 3, [], .none, .none, .none, (.str s35 343), none, (.ref 148), .none, 0⟩), #[]⟩
def o3_2 (P : Params) : Obj := ⟨(.type SL.s14018661285674007319x4), none, (.dict #[⟨(kh P s3), (.str s3 165), (.str s35 343)⟩, ⟨(kh P s5), (.str s5 166), .none⟩, ⟨(kh P s6), (.str s6 167), .none⟩, ⟨(kh P s7), (.str s7 168), (.builtin SL.s7097527257260152453x26)⟩, ⟨(kh P s8), (.str s8 169), .none⟩, ⟨(kh P s9), (.str s9 170), (.ref 6)⟩, ⟨(kh P s10), (.str s10 171), (.ref 4)⟩, ⟨(kh P s11), (.str s11 173), (.str s1 172)⟩, ⟨(kh P s12), (.str s12 174), .none⟩, ⟨(kh P s13), (.str s13 193), (.ref 21)⟩, ⟨(kh P s14), (.str s14 201), (.ref 26)⟩, ⟨(kh P s15), (.str s15 207), (.ref 31)⟩, ⟨(kh P s16), (.str s16 219), (.ref 38)⟩, ⟨(kh P s17), (.str s17 225), (.ref 43)⟩, ⟨(kh P s18), (.str s18 231), (.ref 48)⟩, ⟨(kh P s19), (.str s19 237), (.ref 53)⟩, ⟨(kh P s20), (.str s20 257), (.ref 63)⟩, ⟨(kh P s21), (.str s21 273), (.ref 76)⟩, ⟨(kh P s36), (.str s36 289), (.ref 88)⟩, ⟨(kh P s37), (.str s37 305), (.ref 100)⟩, ⟨(kh P s38), (.str s38 314), (.ref 109)⟩, ⟨(kh P s39), (.str s39 325), (.ref 116)⟩, ⟨(kh P s40), (.str s40 334), (.ref 123)⟩, ⟨(kh P s41), (.str s41 342), (.ref 130)⟩, ⟨(kh P s42), (.str s42 346), (.str s43 345)⟩, ⟨(kh P s44), (.str s44 348), (.int 30 347)⟩, ⟨(kh P s45), (.str s45 350), (.int 1000000 349)⟩, ⟨(kh P s46), (.str s46 356), (.ref 135)⟩, ⟨(kh P s47), (.str s47 363), (.ref 142)⟩, ⟨(kh P s48), (.str s48 370), (.ref 149)⟩, ⟨(kh P s62), (.str s62 390), (.ref 159)⟩, ⟨(kh P s63), (.str s63 420), (.ref 187)⟩] 32), #[]⟩
def o12_2 (P : Params) : Obj := ⟨.none, none, (.fields #[(.int 1 0), (.int 0 0), (.ref 20), (.int 5 0), (.int 0 0), (.ref 25), (.int 7 0), (.int 0 0), (.ref 30), (.int 11 0), (.int 0 0), (.ref 37), (.int 16 0), (.int 0 0), (.ref 42), (.int 18 0), (.int 0 0), (.ref 47), (.int 20 0), (.int 0 0), (.ref 52), (.int 23 0), (.int 0 0), (.ref 59), (.int 25 0), (.int 0 0), (.ref 72), (.int 27 0), (.int 0 0), (.ref 84), (.int 29 0), (.int 0 0), (.ref 96), (.int 32 0), (.int 0 0), (.ref 108), (.int 34 0), (.int 0 0), (.ref 115), (.int 42 0), (.int 0 0), (.ref 122), (.int 51 0), (.int 0 0), (.ref 129), (.int 64 0), (.int 0 0), (.ref 134), (.int 73 0), (.int 0 0), (.ref 141), (.int 77 0), (.int 0 0), (.ref 148), (.int 80 0), (.int 0 0), (.ref 155), (.int 82 0), (.int 0 0), (.ref 169)]), #[]⟩
def o150_2 (P : Params) : Obj := ⟨(.type SL.s2766695959194262286x5), none, (.seq #[] 0), #[]⟩
def o151_2 (P : Params) : Obj := ⟨(.type SL.s11030030927630378310x26), none, (.fields #[(.builtin SL.s10062305145149207511x16), (.type SL.s17162191345867700912x4)]), #[]⟩
def o152_2 (P : Params) : Obj := ⟨(.type SL.s14018661285674007319x4), none, (.dict #[⟨(kh P s30), (.str s30 378), (.str s35 343)⟩, ⟨(kh P s31), (.str s31 380), (.str s62 379)⟩, ⟨(kh P s32), (.str s32 382), (.int 80 381)⟩, ⟨(kh P s33), (.str s33 383), (.ref 157)⟩] 4), #[]⟩
def o153_2 (P : Params) : Obj := ⟨(.type SL.s2766695959194262286x5), none, (.seq #[] 0), #[]⟩
def o154_2 (P : Params) : Obj := ⟨.none, none, (.fields #[]), #[]⟩
def o155_2 (P : Params) : Obj := ⟨(.type SL.s5856160107412720595x4), none, (.fields #[(.str s62 373), (.str s62 374), (.str s1 375), (.int 80 0), (.int 0 0), (.int 0 0), (.int 0 0), (.int 0 0), (.ref 153), (.bool false), (.int 181 0), (.ref 154), .none, .none, .none, .none, (.int 376 0), (.int 80 0), (.str s1 377)]), #[]⟩
def o156_2 (P : Params) : Obj := ⟨(.type SL.s658472552662922059x5), none, .plain, #[(some (.ref 155)), (some (.ref 3)), (some (.ref 152)), none, (some (.str s35 343)), none, (some (.ref 0))]⟩
def o157_2 (P : Params) : Obj := ⟨(.type SL.s2766695959194262286x5), none, (.seq #[] 0), #[]⟩
def o158_2 (P : Params) : Obj := ⟨(.type SL.s14018661285674007319x4), none, (.dict #[⟨(kh P s30), (.str s30 378), (.str s35 343)⟩, ⟨(kh P s32), (.str s32 382), (.int 80 381)⟩, ⟨(kh P s33), (.str s33 383), (.ref 157)⟩, ⟨(kh P s64), (.str s64 385), (.ref 160)⟩, ⟨(kh P s34), (.str s34 387), (.ref 161)⟩, ⟨(kh P s5), (.str s5 388), .none⟩] 4), #[]⟩
def o159_2 (P : Params) : Obj := ⟨(.type SL.s17162191345867700912x4), none, (.cls ⟨s62, [(.type SL.s2742458400755230247x6)], [(.ref 159), (.type SL.s2742458400755230247x6)], 158, s62, true, [], [(.ref 187)], false, none, false⟩), #[none, none, (some (.str s62 371)), (some (.str s62 379)), (some (.builtin SL.s11443829558043349243x14)), (some (.bool true))]⟩
def o160_2 (P : Params) : Obj := ⟨(.type SL.s14755015743595814543x17), none, (.fields #[(.str s64 384), (.ref 159), (.builtin SL.s6511155373996960695x17), (.builtin SL.s12411053484034534018x21)]), #[]⟩
def o161_2 (P : Params) : Obj := ⟨(.type SL.s14755015743595814543x17), none, (.fields #[(.str s34 386), (.ref 159), (.builtin SL.s10220274742760427390x26), .none]), #[]⟩
def o162_2 (P : Params) : Obj := ⟨(.type SL.s4290257624100764138x5), none, (.fields #[(.ref 159), (.ref 159), (.ref 159)]), #[]⟩
def o163_2 (P : Params) : Obj := ⟨(.type SL.s11030030927630378310x26), none, (.fields #[(.builtin SL.s4860613602091757760x24), (.ref 159)]), #[]⟩
def o164_2 (P : Params) : Obj := ⟨(.type SL.s2766695959194262286x5), none, (.seq #[(.ref 159)] 0), #[]⟩
def o165_2 (P : Params) : Obj := ⟨(.type SL.s11030030927630378310x26), none, (.fields #[(.builtin SL.s10062305145149207511x16), (.type SL.s17162191345867700912x4)]), #[]⟩
def o166_2 (P : Params) : Obj := ⟨(.type SL.s14018661285674007319x4), none, (.dict #[⟨(kh P s30), (.str s30 398), (.str s35 343)⟩, ⟨(kh P s31), (.str s31 400), (.str s63 399)⟩, ⟨(kh P s32), (.str s32 402), (.int 82 401)⟩, ⟨(kh P s65), (.str s65 409), (.ref 177)⟩, ⟨(kh P s66), (.str s66 416), (.ref 184)⟩, ⟨(kh P s33), (.str s33 417), (.ref 185)⟩] 6), #[]⟩
def o167_2 (P : Params) : Obj := ⟨(.type SL.s2766695959194262286x5), none, (.seq #[] 0), #[]⟩
def o168_2 (P : Params) : Obj := ⟨.none, none, (.fields #[(.int 84 0), (.int 4 0), (.ref 176), (.int 87 0), (.int 4 0), (.ref 183)]), #[]⟩
def o169_2 (P : Params) : Obj := ⟨(.type SL.s5856160107412720595x4), none, (.fields #[(.str s63 393), (.str s63 394), (.str s1 395), (.int 82 0), (.int 0 0), (.int 0 0), (.int 0 0), (.int 0 0), (.ref 167), (.bool false), (.int 181 0), (.ref 168), .none, .none, .none, .none, (.int 396 0), (.int 82 0), (.str s1 397)]), #[]⟩
def o170_2 (P : Params) : Obj := ⟨(.type SL.s658472552662922059x5), none, .plain, #[(some (.ref 169)), (some (.ref 3)), (some (.ref 166)), none, (some (.str s35 343)), none, (some (.ref 0))]⟩
def o171_2 (P : Params) : Obj := ⟨(.type SL.s2766695959194262286x5), none, (.seq #[] 0), #[]⟩
def o172_2 (P : Params) : Obj := ⟨.none, none, (.fields #[]), #[]⟩
def o173_2 (P : Params) : Obj := ⟨(.type SL.s2766695959194262286x5), none, (.seq #[(.str s67 406)] 0), #[]⟩
def o174_2 (P : Params) : Obj := ⟨(.type SL.s2766695959194262286x5), none, (.seq #[] 0), #[]⟩
def o175_2 (P : Params) : Obj := ⟨.none, none, (.func ⟨s65, s68, (L2.defArgs (L2.inClass (topT 26) 0)), (.stmts (L2.defBody (L2.inClass (topT 26) 0))), (L2.defScope (L2.inClass (topT 26) 0)), 0, [], .none, .none, .none, .none, none, .none, .none, 0⟩), #[]⟩
def o176_2 (P : Params) : Obj := ⟨(.type SL.s5856160107412720595x4), none, (.fields #[(.str s65 403), (.str s68 404), (.str s1 405), (.int 84 0), (.int 1 0), (.int 0 0), (.int 0 0), (.int 3 0), (.ref 171), (.bool true), (.int 181 0), (.ref 172), .none, (.ref 173), (.ref 174), (.ref 175), (.int 407 0), (.int 84 0), (.str s1 408)]), #[]⟩
def o177_2 (P : Params) : Obj := ⟨(.type SL.s7174869446012820540x8), none, (.func ⟨s65, s68, (L2.defArgs (L2.inClass (topT 26) 0)), (.stmts (L2.defBody (L2.inClass (topT 26) 0))), (L2.defScope (L2.inClass (topT 26) 0)), 3, [], .none, .none, .none, (.str s35 343), none, (.ref 176), .none, 0⟩), #[]⟩
def o178_2 (P : Params) : Obj := ⟨(.type SL.s2766695959194262286x5), none, (.seq #[] 0), #[]⟩
def o179_2 (P : Params) : Obj := ⟨.none, none, (.fields #[]), #[]⟩
def o180_2 (P : Params) : Obj := ⟨(.type SL.s2766695959194262286x5), none, (.seq #[(.str s67 413)] 0), #[]⟩
def o181_2 (P : Params) : Obj := ⟨(.type SL.s2766695959194262286x5), none, (.seq #[] 0), #[]⟩
def o182_2 (P : Params) : Obj := ⟨.none, none, (.func ⟨s66, s69, (L2.defArgs (L2.inClass (topT 26) 1)), (.stmts (L2.defBody (L2.inClass (topT 26) 1))), (L2.defScope (L2.inClass (topT 26) 1)), 0, [], .none, .none, .none, .none, none, .none, .none, 0⟩), #[]⟩
def o183_2 (P : Params) : Obj := ⟨(.type SL.s5856160107412720595x4), none, (.fields #[(.str s66 410), (.str s69 411), (.str s1 412), (.int 87 0), (.int 1 0), (.int 0 0), (.int 0 0), (.int 3 0), (.ref 178), (.bool true), (.int 181 0), (.ref 179), .none, (.ref 180), (.ref 181), (.ref 182), (.int 414 0), (.int 87 0), (.str s1 415)]), #[]⟩
def o184_2 (P : Params) : Obj := ⟨(.type SL.s7174869446012820540x8), none, (.func ⟨s66, s69, (L2.defArgs (L2.inClass (topT 26) 1)), (.stmts (L2.defBody (L2.inClass (topT 26) 1))), (L2.defScope (L2.inClass (topT 26) 1)), 3, [], .none, .none, .none, (.str s35 343), none, (.ref 183), .none, 0⟩), #[]⟩
def o185_2 (P : Params) : Obj := ⟨(.type SL.s2766695959194262286x5), none, (.seq #[] 0), #[]⟩
def o186_2 (P : Params) : Obj := ⟨(.type SL.s14018661285674007319x4), none, (.dict #[⟨(kh P s30), (.str s30 398), (.str s35 343)⟩, ⟨(kh P s32), (.str s32 402), (.int 82 401)⟩, ⟨(kh P s65), (.str s65 409), (.ref 177)⟩, ⟨(kh P s66), (.str s66 416), (.ref 184)⟩, ⟨(kh P s33), (.str s33 417), (.ref 185)⟩, ⟨(kh P s5), (.str s5 418), .none⟩] 2), #[]⟩
def o187_2 (P : Params) : Obj := ⟨(.type SL.s17162191345867700912x4), none, (.cls ⟨s63, [(.ref 159)], [(.ref 187), (.ref 159), (.type SL.s2742458400755230247x6)], 186, s63, true, [], [], false, none, false⟩), #[(some (.ref 164)), none, (some (.str s63 391)), (some (.str s63 399)), (some (.builtin SL.s11443829558043349243x14)), (some (.bool true))]⟩
def o188_2 (P : Params) : Obj := ⟨(.type SL.s4290257624100764138x5), none, (.fields #[(.ref 187), (.ref 187), (.ref 187)]), #[]⟩
def o189_2 (P : Params) : Obj := ⟨(.type SL.s11030030927630378310x26), none, (.fields #[(.builtin SL.s4860613602091757760x24), (.ref 187)]), #[]⟩
def o3_3 (P : Params) : Obj := ⟨(.type SL.s14018661285674007319x4), none, (.dict #[⟨(kh P s3), (.str s3 165), (.str s35 343)⟩, ⟨(kh P s5), (.str s5 166), .none⟩, ⟨(kh P s6), (.str s6 167), .none⟩, ⟨(kh P s7), (.str s7 168), (.builtin SL.s7097527257260152453x26)⟩, ⟨(kh P s8), (.str s8 169), .none⟩, ⟨(kh P s9), (.str s9 170), (.ref 6)⟩, ⟨(kh P s10), (.str s10 171), (.ref 4)⟩, ⟨(kh P s11), (.str s11 173), (.str s1 172)⟩, ⟨(kh P s12), (.str s12 174), .none⟩, ⟨(kh P s13), (.str s13 193), (.ref 21)⟩, ⟨(kh P s14), (.str s14 201), (.ref 26)⟩, ⟨(kh P s15), (.str s15 207), (.ref 31)⟩, ⟨(kh P s16), (.str s16 219), (.ref 38)⟩, ⟨(kh P s17), (.str s17 225), (.ref 43)⟩, ⟨(kh P s18), (.str s18 231), (.ref 48)⟩, ⟨(kh P s19), (.str s19 237), (.ref 53)⟩, ⟨(kh P s20), (.str s20 257), (.ref 63)⟩, ⟨(kh P s21), (.str s21 273), (.ref 76)⟩, ⟨(kh P s36), (.str s36 289), (.ref 88)⟩, ⟨(kh P s37), (.str s37 305), (.ref 100)⟩, ⟨(kh P s38), (.str s38 314), (.ref 109)⟩, ⟨(kh P s39), (.str s39 325), (.ref 116)⟩, ⟨(kh P s40), (.str s40 334), (.ref 123)⟩, ⟨(kh P s41), (.str s41 342), (.ref 130)⟩, ⟨(kh P s42), (.str s42 346), (.str s43 345)⟩, ⟨(kh P s44), (.str s44 348), (.int 30 347)⟩, ⟨(kh P s45), (.str s45 350), (.int 1000000 349)⟩, ⟨(kh P s46), (.str s46 356), (.ref 135)⟩, ⟨(kh P s47), (.str s47 363), (.ref 142)⟩, ⟨(kh P s48), (.str s48 370), (.ref 149)⟩, ⟨(kh P s62), (.str s62 390), (.ref 159)⟩, ⟨(kh P s63), (.str s63 420), (.ref 187)⟩, ⟨(kh P s70), (.str s70 466), (.ref 227)⟩] 33), #[]⟩
def o12_3 (P : Params) : Obj := ⟨.none, none, (.fields #[(.int 1 0), (.int 0 0), (.ref 20), (.int 5 0), (.int 0 0), (.ref 25), (.int 7 0), (.int 0 0), (.ref 30), (.int 11 0), (.int 0 0), (.ref 37), (.int 16 0), (.int 0 0), (.ref 42), (.int 18 0), (.int 0 0), (.ref 47), (.int 20 0), (.int 0 0), (.ref 52), (.int 23 0), (.int 0 0), (.ref 59), (.int 25 0), (.int 0 0), (.ref 72), (.int 27 0), (.int 0 0), (.ref 84), (.int 29 0), (.int 0 0), (.ref 96), (.int 32 0), (.int 0 0), (.ref 108), (.int 34 0), (.int 0 0), (.ref 115), (.int 42 0), (.int 0 0), (.ref 122), (.int 51 0), (.int 0 0), (.ref 129), (.int 64 0), (.int 0 0), (.ref 134), (.int 73 0), (.int 0 0), (.ref 141), (.int 77 0), (.int 0 0), (.ref 148), (.int 80 0), (.int 0 0), (.ref 155), (.int 82 0), (.int 0 0), (.ref 169), (.int 89 0), (.int 0 0), (.ref 195)]), #[]⟩
def o159_3 (P : Params) : Obj := ⟨(.type SL.s17162191345867700912x4), none, (.cls ⟨s62, [(.type SL.s2742458400755230247x6)], [(.ref 159), (.type SL.s2742458400755230247x6)], 158, s62, true, [], [(.ref 187), (.ref 227)], false, none, false⟩), #[none, none, (some (.str s62 371)), (some (.str s62 379)), (some (.builtin SL.s11443829558043349243x14)), (some (.bool true))]⟩
def o190_3 (P : Params) : Obj := ⟨(.type SL.s2766695959194262286x5), none, (.seq #[(.ref 159)] 0), #[]⟩
def o191_3 (P : Params) : Obj := ⟨(.type SL.s11030030927630378310x26), none, (.fields #[(.builtin SL.s10062305145149207511x16), (.type SL.s17162191345867700912x4)]), #[]⟩
def o192_3 (P : Params) : Obj := ⟨(.type SL.s14018661285674007319x4), none, (.dict #[⟨(kh P s30), (.str s30 428), (.str s35 343)⟩, ⟨(kh P s31), (.str s31 430), (.str s70 429)⟩, ⟨(kh P s32), (.str s32 432), (.int 89 431)⟩, ⟨(kh P s65), (.str s65 439), (.ref 203)⟩, ⟨(kh P s66), (.str s66 446), (.ref 210)⟩, ⟨(kh P s71), (.str s71 454), (.ref 217)⟩, ⟨(kh P s72), (.str s72 462), (.ref 224)⟩, ⟨(kh P s33), (.str s33 463), (.ref 225)⟩] 8), #[]⟩
def o193_3 (P : Params) : Obj := ⟨(.type SL.s2766695959194262286x5), none, (.seq #[] 0), #[]⟩
def o194_3 (P : Params) : Obj := ⟨.none, none, (.fields #[(.int 91 0), (.int 4 0), (.ref 202), (.int 94 0), (.int 4 0), (.ref 209), (.int 97 0), (.int 4 0), (.ref 216), (.int 100 0), (.int 4 0), (.ref 223)]), #[]⟩
def o195_3 (P : Params) : Obj := ⟨(.type SL.s5856160107412720595x4), none, (.fields #[(.str s70 423), (.str s70 424), (.str s1 425), (.int 89 0), (.int 0 0), (.int 0 0), (.int 0 0), (.int 0 0), (.ref 193), (.bool false), (.int 181 0), (.ref 194), .none, .none, .none, .none, (.int 426 0), (.int 89 0), (.str s1 427)]), #[]⟩
def o196_3 (P : Params) : Obj := ⟨(.type SL.s658472552662922059x5), none, .plain, #[(some (.ref 195)), (some (.ref 3)), (some (.ref 192)), none, (some (.str s35 343)), none, (some (.ref 0))]⟩
def o197_3 (P : Params) : Obj := ⟨(.type SL.s2766695959194262286x5), none, (.seq #[] 0), #[]⟩
def o198_3 (P : Params) : Obj := ⟨.none, none, (.fields #[]), #[]⟩
def o199_3 (P : Params) : Obj := ⟨(.type SL.s2766695959194262286x5), none, (.seq #[(.str s67 436)] 0), #[]⟩
def o200_3 (P : Params) : Obj := ⟨(.type SL.s2766695959194262286x5), none, (.seq #[] 0), #[]⟩
def o201_3 (P : Params) : Obj := ⟨.none, none, (.func ⟨s65, s73, (L2.defArgs (L2.inClass (topT 27) 0)), (.stmts (L2.defBody (L2.inClass (topT 27) 0))), (L2.defScope (L2.inClass (topT 27) 0)), 0, [], .none, .none, .none, .none, none, .none, .none, 0⟩), #[]⟩
def o202_3 (P : Params) : Obj := ⟨(.type SL.s5856160107412720595x4), none, (.fields #[(.str s65 433), (.str s73 434), (.str s1 435), (.int 91 0), (.int 1 0), (.int 0 0), (.int 0 0), (.int 3 0), (.ref 197), (.bool true), (.int 181 0), (.ref 198), .none, (.ref 199), (.ref 200), (.ref 201), (.int 437 0), (.int 91 0), (.str s1 438)]), #[]⟩
def o203_3 (P : Params) : Obj := ⟨(.type SL.s7174869446012820540x8), none, (.func ⟨s65, s73, (L2.defArgs (L2.inClass (topT 27) 0)), (.stmts (L2.defBody (L2.inClass (topT 27) 0))), (L2.defScope (L2.inClass (topT 27) 0)), 3, [], .none, .none, .none, (.str s35 343), none, (.ref 202), .none, 0⟩), #[]⟩
def o204_3 (P : Params) : Obj := ⟨(.type SL.s2766695959194262286x5), none, (.seq #[] 0), #[]⟩
def o205_3 (P : Params) : Obj := ⟨.none, none, (.fields #[]), #[]⟩
def o206_3 (P : Params) : Obj := ⟨(.type SL.s2766695959194262286x5), none, (.seq #[(.str s67 443)] 0), #[]⟩
def o207_3 (P : Params) : Obj := ⟨(.type SL.s2766695959194262286x5), none, (.seq #[] 0), #[]⟩
def o208_3 (P : Params) : Obj := ⟨.none, none, (.func ⟨s66, s74, (L2.defArgs (L2.inClass (topT 27) 1)), (.stmts (L2.defBody (L2.inClass (topT 27) 1))), (L2.defScope (L2.inClass (topT 27) 1)), 0, [], .none, .none, .none, .none, none, .none, .none, 0⟩), #[]⟩
def o209_3 (P : Params) : Obj := ⟨(.type SL.s5856160107412720595x4), none, (.fields #[(.str s66 440), (.str s74 441), (.str s1 442), (.int 94 0), (.int 1 0), (.int 0 0), (.int 0 0), (.int 3 0), (.ref 204), (.bool true), (.int 181 0), (.ref 205), .none, (.ref 206), (.ref 207), (.ref 208), (.int 444 0), (.int 94 0), (.str s1 445)]), #[]⟩
def o210_3 (P : Params) : Obj := ⟨(.type SL.s7174869446012820540x8), none, (.func ⟨s66, s74, (L2.defArgs (L2.inClass (topT 27) 1)), (.stmts (L2.defBody (L2.inClass (topT 27) 1))), (L2.defScope (L2.inClass (topT 27) 1)), 3, [], .none, .none, .none, (.str s35 343), none, (.ref 209), .none, 0⟩), #[]⟩
def o211_3 (P : Params) : Obj := ⟨(.type SL.s2766695959194262286x5), none, (.seq #[] 0), #[]⟩
def o212_3 (P : Params) : Obj := ⟨.none, none, (.fields #[]), #[]⟩
def o213_3 (P : Params) : Obj := ⟨(.type SL.s2766695959194262286x5), none, (.seq #[(.str s67 450), (.str s28 451)] 0), #[]⟩
def o214_3 (P : Params) : Obj := ⟨(.type SL.s2766695959194262286x5), none, (.seq #[] 0), #[]⟩
def o215_3 (P : Params) : Obj := ⟨.none, none, (.func ⟨s71, s75, (L2.defArgs (L2.inClass (topT 27) 2)), (.stmts (L2.defBody (L2.inClass (topT 27) 2))), (L2.defScope (L2.inClass (topT 27) 2)), 0, [], .none, .none, .none, .none, none, .none, .none, 0⟩), #[]⟩
def o216_3 (P : Params) : Obj := ⟨(.type SL.s5856160107412720595x4), none, (.fields #[(.str s71 447), (.str s75 448), (.str s1 449), (.int 97 0), (.int 2 0), (.int 0 0), (.int 0 0), (.int 3 0), (.ref 211), (.bool true), (.int 181 0), (.ref 212), .none, (.ref 213), (.ref 214), (.ref 215), (.int 452 0), (.int 97 0), (.str s1 453)]), #[]⟩
def o217_3 (P : Params) : Obj := ⟨(.type SL.s7174869446012820540x8), none, (.func ⟨s71, s75, (L2.defArgs (L2.inClass (topT 27) 2)), (.stmts (L2.defBody (L2.inClass (topT 27) 2))), (L2.defScope (L2.inClass (topT 27) 2)), 3, [], .none, .none, .none, (.str s35 343), none, (.ref 216), .none, 0⟩), #[]⟩
def o218_3 (P : Params) : Obj := ⟨(.type SL.s2766695959194262286x5), none, (.seq #[] 0), #[]⟩
def o219_3 (P : Params) : Obj := ⟨.none, none, (.fields #[]), #[]⟩
def o220_3 (P : Params) : Obj := ⟨(.type SL.s2766695959194262286x5), none, (.seq #[(.str s67 458), (.str s28 459)] 0), #[]⟩
def o221_3 (P : Params) : Obj := ⟨(.type SL.s2766695959194262286x5), none, (.seq #[] 0), #[]⟩
def o222_3 (P : Params) : Obj := ⟨.none, none, (.func ⟨s72, s76, (L2.defArgs (L2.inClass (topT 27) 3)), (.stmts (L2.defBody (L2.inClass (topT 27) 3))), (L2.defScope (L2.inClass (topT 27) 3)), 0, [], .none, .none, .none, .none, none, .none, .none, 0⟩), #[]⟩
def o223_3 (P : Params) : Obj := ⟨(.type SL.s5856160107412720595x4), none, (.fields #[(.str s72 455), (.str s76 456), (.str s1 457), (.int 100 0), (.int 2 0), (.int 0 0), (.int 0 0), (.int 3 0), (.ref 218), (.bool true), (.int 181 0), (.ref 219), .none, (.ref 220), (.ref 221), (.ref 222), (.int 460 0), (.int 100 0), (.str s1 461)]), #[]⟩
def o224_3 (P : Params) : Obj := ⟨(.type SL.s7174869446012820540x8), none, (.func ⟨s72, s76, (L2.defArgs (L2.inClass (topT 27) 3)), (.stmts (L2.defBody (L2.inClass (topT 27) 3))), (L2.defScope (L2.inClass (topT 27) 3)), 3, [], .none, .none, .none, (.str s35 343), none, (.ref 223), .none, 0⟩), #[]⟩
def o225_3 (P : Params) : Obj := ⟨(.type SL.s2766695959194262286x5), none, (.seq #[] 0), #[]⟩
def o226_3 (P : Params) : Obj := ⟨(.type SL.s14018661285674007319x4), none, (.dict #[⟨(kh P s30), (.str s30 428), (.str s35 343)⟩, ⟨(kh P s32), (.str s32 432), (.int 89 431)⟩, ⟨(kh P s65), (.str s65 439), (.ref 203)⟩, ⟨(kh P s66), (.str s66 446), (.ref 210)⟩, ⟨(kh P s71), (.str s71 454), (.ref 217)⟩, ⟨(kh P s72), (.str s72 462), (.ref 224)⟩, ⟨(kh P s33), (.str s33 463), (.ref 225)⟩, ⟨(kh P s5), (.str s5 464), .none⟩] 2), #[]⟩
def o227_3 (P : Params) : Obj := ⟨(.type SL.s17162191345867700912x4), none, (.cls ⟨s70, [(.ref 159)], [(.ref 227), (.ref 159), (.type SL.s2742458400755230247x6)], 226, s70, true, [], [], false, none, false⟩), #[(some (.ref 190)), none, (some (.str s70 421)), (some (.str s70 429)), (some (.builtin SL.s11443829558043349243x14)), (some (.bool true))]⟩
def o228_3 (P : Params) : Obj := ⟨(.type SL.s4290257624100764138x5), none, (.fields #[(.ref 227), (.ref 227), (.ref 227)]), #[]⟩
def o229_3 (P : Params) : Obj := ⟨(.type SL.s11030030927630378310x26), none, (.fields #[(.builtin SL.s4860613602091757760x24), (.ref 227)]), #[]⟩
def o3_4 (P : Params) : Obj := ⟨(.type SL.s14018661285674007319x4), none, (.dict #[⟨(kh P s3), (.str s3 165), (.str s35 343)⟩, ⟨(kh P s5), (.str s5 166), .none⟩, ⟨(kh P s6), (.str s6 167), .none⟩, ⟨(kh P s7), (.str s7 168), (.builtin SL.s7097527257260152453x26)⟩, ⟨(kh P s8), (.str s8 169), .none⟩, ⟨(kh P s9), (.str s9 170), (.ref 6)⟩, ⟨(kh P s10), (.str s10 171), (.ref 4)⟩, ⟨(kh P s11), (.str s11 173), (.str s1 172)⟩, ⟨(kh P s12), (.str s12 174), .none⟩, ⟨(kh P s13), (.str s13 193), (.ref 21)⟩, ⟨(kh P s14), (.str s14 201), (.ref 26)⟩, ⟨(kh P s15), (.str s15 207), (.ref 31)⟩, ⟨(kh P s16), (.str s16 219), (.ref 38)⟩, ⟨(kh P s17), (.str s17 225), (.ref 43)⟩, ⟨(kh P s18), (.str s18 231), (.ref 48)⟩, ⟨(kh P s19), (.str s19 237), (.ref 53)⟩, ⟨(kh P s20), (.str s20 257), (.ref 63)⟩, ⟨(kh P s21), (.str s21 273), (.ref 76)⟩, ⟨(kh P s36), (.str s36 289), (.ref 88)⟩, ⟨(kh P s37), (.str s37 305), (.ref 100)⟩, ⟨(kh P s38), (.str s38 314), (.ref 109)⟩, ⟨(kh P s39), (.str s39 325), (.ref 116)⟩, ⟨(kh P s40), (.str s40 334), (.ref 123)⟩, ⟨(kh P s41), (.str s41 342), (.ref 130)⟩, ⟨(kh P s42), (.str s42 346), (.str s43 345)⟩, ⟨(kh P s44), (.str s44 348), (.int 30 347)⟩, ⟨(kh P s45), (.str s45 350), (.int 1000000 349)⟩, ⟨(kh P s46), (.str s46 356), (.ref 135)⟩, ⟨(kh P s47), (.str s47 363), (.ref 142)⟩, ⟨(kh P s48), (.str s48 370), (.ref 149)⟩, ⟨(kh P s62), (.str s62 390), (.ref 159)⟩, ⟨(kh P s63), (.str s63 420), (.ref 187)⟩, ⟨(kh P s70), (.str s70 466), (.ref 227)⟩, ⟨(kh P s77), (.str s77 564), (.ref 309)⟩] 34), #[]⟩
def o12_4 (P : Params) : Obj := ⟨.none, none, (.fields #[(.int 1 0), (.int 0 0), (.ref 20), (.int 5 0), (.int 0 0), (.ref 25), (.int 7 0), (.int 0 0), (.ref 30), (.int 11 0), (.int 0 0), (.ref 37), (.int 16 0), (.int 0 0), (.ref 42), (.int 18 0), (.int 0 0), (.ref 47), (.int 20 0), (.int 0 0), (.ref 52), (.int 23 0), (.int 0 0), (.ref 59), (.int 25 0), (.int 0 0), (.ref 72), (.int 27 0), (.int 0 0), (.ref 84), (.int 29 0), (.int 0 0), (.ref 96), (.int 32 0), (.int 0 0), (.ref 108), (.int 34 0), (.int 0 0), (.ref 115), (.int 42 0), (.int 0 0), (.ref 122), (.int 51 0), (.int 0 0), (.ref 129), (.int 64 0), (.int 0 0), (.ref 134), (.int 73 0), (.int 0 0), (.ref 141), (.int 77 0), (.int 0 0), (.ref 148), (.int 80 0), (.int 0 0), (.ref 155), (.int 82 0), (.int 0 0), (.ref 169), (.int 89 0), (.int 0 0), (.ref 195), (.int 102 0), (.int 0 0), (.ref 235)]), #[]⟩
def o187_4 (P : Params) : Obj := ⟨(.type SL.s17162191345867700912x4), none, (.cls ⟨s63, [(.ref 159)], [(.ref 187), (.ref 159), (.type SL.s2742458400755230247x6)], 186, s63, true, [], [(.ref 309)], false, none, false⟩), #[(some (.ref 164)), none, (some (.str s63 391)), (some (.str s63 399)), (some (.builtin SL.s11443829558043349243x14)), (some (.bool true))]⟩
def o230_4 (P : Params) : Obj := ⟨(.type SL.s2766695959194262286x5), none, (.seq #[(.ref 187)] 0), #[]⟩
def o231_4 (P : Params) : Obj := ⟨(.type SL.s11030030927630378310x26), none, (.fields #[(.builtin SL.s10062305145149207511x16), (.type SL.s17162191345867700912x4)]), #[]⟩
def o232_4 (P : Params) : Obj := ⟨(.type SL.s14018661285674007319x4), none, (.dict #[⟨(kh P s30), (.str s30 474), (.str s35 343)⟩, ⟨(kh P s31), (.str s31 476), (.str s77 475)⟩, ⟨(kh P s32), (.str s32 478), (.int 102 477)⟩, ⟨(kh P s78), (.str s78 485), (.ref 243)⟩, ⟨(kh P s79), (.str s79 492), (.ref 250)⟩, ⟨(kh P s51), (.str s51 499), (.ref 257)⟩, ⟨(kh P s80), (.str s80 508), (.ref 264)⟩, ⟨(kh P s81), (.str s81 517), (.ref 271)⟩, ⟨(kh P s71), (.str s71 525), (.ref 278)⟩, ⟨(kh P s72), (.str s72 533), (.ref 285)⟩, ⟨(kh P s82), (.str s82 541), (.ref 292)⟩, ⟨(kh P s83), (.str s83 549), (.ref 299)⟩, ⟨(kh P s84), (.str s84 560), (.ref 306)⟩, ⟨(kh P s33), (.str s33 561), (.ref 307)⟩] 14), #[]⟩
def o233_4 (P : Params) : Obj := ⟨(.type SL.s2766695959194262286x5), none, (.seq #[] 0), #[]⟩
def o234_4 (P : Params) : Obj := ⟨.none, none, (.fields #[(.int 104 0), (.int 4 0), (.ref 242), (.int 107 0), (.int 4 0), (.ref 249), (.int 110 0), (.int 4 0), (.ref 256), (.int 113 0), (.int 4 0), (.ref 263), (.int 116 0), (.int 4 0), (.ref 270), (.int 119 0), (.int 4 0), (.ref 277), (.int 122 0), (.int 4 0), (.ref 284), (.int 125 0), (.int 4 0), (.ref 291), (.int 132 0), (.int 4 0), (.ref 298), (.int 135 0), (.int 4 0), (.ref 305)]), #[]⟩
def o235_4 (P : Params) : Obj := ⟨(.type SL.s5856160107412720595x4), none, (.fields #[(.str s77 469), (.str s77 470), (.str s1 471), (.int 102 0), (.int 0 0), (.int 0 0), (.int 0 0), (.int 0 0), (.ref 233), (.bool false), (.int 181 0), (.ref 234), .none, .none, .none, .none, (.int 472 0), (.int 102 0), (.str s1 473)]), #[]⟩
def o236_4 (P : Params) : Obj := ⟨(.type SL.s658472552662922059x5), none, .plain, #[(some (.ref 235)), (some (.ref 3)), (some (.ref 232)), none, (some (.str s35 343)), none, (some (.ref 0))]⟩
def o237_4 (P : Params) : Obj := ⟨(.type SL.s2766695959194262286x5), none, (.seq #[] 0), #[]⟩
def o238_4 (P : Params) : Obj := ⟨.none, none, (.fields #[]), #[]⟩
def o239_4 (P : Params) : Obj := ⟨(.type SL.s2766695959194262286x5), none, (.seq #[(.str s67 482)] 0), #[]⟩
def o240_4 (P : Params) : Obj := ⟨(.type SL.s2766695959194262286x5), none, (.seq #[] 0), #[]⟩
def o241_4 (P : Params) : Obj := ⟨.none, none, (.func ⟨s78, s85, (L2.defArgs (L2.inClass (topT 28) 0)), (.stmts (L2.defBody (L2.inClass (topT 28) 0))), (L2.defScope (L2.inClass (topT 28) 0)), 0, [], .none, .none, .none, .none, none, .none, .none, 0⟩), #[]⟩
def o242_4 (P : Params) : Obj := ⟨(.type SL.s5856160107412720595x4), none, (.fields #[(.str s78 479), (.str s85 480), (.str s1 481), (.int 104 0), (.int 1 0), (.int 0 0), (.int 0 0), (.int 3 0), (.ref 237), (.bool true), (.int 181 0), (.ref 238), .none, (.ref 239), (.ref 240), (.ref 241), (.int 483 0), (.int 104 0), (.str s1 484)]), #[]⟩
def o243_4 (P : Params) : Obj := ⟨(.type SL.s7174869446012820540x8), none, (.func ⟨s78, s85, (L2.defArgs (L2.inClass (topT 28) 0)), (.stmts (L2.defBody (L2.inClass (topT 28) 0))), (L2.defScope (L2.inClass (topT 28) 0)), 3, [], .none, .none, .none, (.str s35 343), none, (.ref 242), .none, 0⟩), #[]⟩
def o244_4 (P : Params) : Obj := ⟨(.type SL.s2766695959194262286x5), none, (.seq #[] 0), #[]⟩
def o245_4 (P : Params) : Obj := ⟨.none, none, (.fields #[]), #[]⟩
def o246_4 (P : Params) : Obj := ⟨(.type SL.s2766695959194262286x5), none, (.seq #[(.str s67 489)] 0), #[]⟩
def o247_4 (P : Params) : Obj := ⟨(.type SL.s2766695959194262286x5), none, (.seq #[] 0), #[]⟩
def o248_4 (P : Params) : Obj := ⟨.none, none, (.func ⟨s79, s86, (L2.defArgs (L2.inClass (topT 28) 1)), (.stmts (L2.defBody (L2.inClass (topT 28) 1))), (L2.defScope (L2.inClass (topT 28) 1)), 0, [], .none, .none, .none, .none, none, .none, .none, 0⟩), #[]⟩
def o249_4 (P : Params) : Obj := ⟨(.type SL.s5856160107412720595x4), none, (.fields #[(.str s79 486), (.str s86 487), (.str s1 488), (.int 107 0), (.int 1 0), (.int 0 0), (.int 0 0), (.int 3 0), (.ref 244), (.bool true), (.int 181 0), (.ref 245), .none, (.ref 246), (.ref 247), (.ref 248), (.int 490 0), (.int 107 0), (.str s1 491)]), #[]⟩
def o250_4 (P : Params) : Obj := ⟨(.type SL.s7174869446012820540x8), none, (.func ⟨s79, s86, (L2.defArgs (L2.inClass (topT 28) 1)), (.stmts (L2.defBody (L2.inClass (topT 28) 1))), (L2.defScope (L2.inClass (topT 28) 1)), 3, [], .none, .none, .none, (.str s35 343), none, (.ref 249), .none, 0⟩), #[]⟩
def o251_4 (P : Params) : Obj := ⟨(.type SL.s2766695959194262286x5), none, (.seq #[] 0), #[]⟩
def o252_4 (P : Params) : Obj := ⟨.none, none, (.fields #[]), #[]⟩
def o253_4 (P : Params) : Obj := ⟨(.type SL.s2766695959194262286x5), none, (.seq #[(.str s67 496)] 0), #[]⟩
def o254_4 (P : Params) : Obj := ⟨(.type SL.s2766695959194262286x5), none, (.seq #[] 0), #[]⟩
def o255_4 (P : Params) : Obj := ⟨.none, none, (.func ⟨s51, s87, (L2.defArgs (L2.inClass (topT 28) 2)), (.stmts (L2.defBody (L2.inClass (topT 28) 2))), (L2.defScope (L2.inClass (topT 28) 2)), 0, [], .none, .none, .none, .none, none, .none, .none, 0⟩), #[]⟩
def o256_4 (P : Params) : Obj := ⟨(.type SL.s5856160107412720595x4), none, (.fields #[(.str s51 493), (.str s87 494), (.str s1 495), (.int 110 0), (.int 1 0), (.int 0 0), (.int 0 0), (.int 3 0), (.ref 251), (.bool true), (.int 181 0), (.ref 252), .none, (.ref 253), (.ref 254), (.ref 255), (.int 497 0), (.int 110 0), (.str s1 498)]), #[]⟩
def o257_4 (P : Params) : Obj := ⟨(.type SL.s7174869446012820540x8), none, (.func ⟨s51, s87, (L2.defArgs (L2.inClass (topT 28) 2)), (.stmts (L2.defBody (L2.inClass (topT 28) 2))), (L2.defScope (L2.inClass (topT 28) 2)), 3, [], .none, .none, .none, (.str s35 343), none, (.ref 256), .none, 0⟩), #[]⟩
def o258_4 (P : Params) : Obj := ⟨(.type SL.s2766695959194262286x5), none, (.seq #[] 0), #[]⟩
def o259_4 (P : Params) : Obj := ⟨.none, none, (.fields #[]), #[]⟩
def o260_4 (P : Params) : Obj := ⟨(.type SL.s2766695959194262286x5), none, (.seq #[(.str s67 503), (.str s28 504), (.str s29 505)] 0), #[]⟩
def o261_4 (P : Params) : Obj := ⟨(.type SL.s2766695959194262286x5), none, (.seq #[] 0), #[]⟩
def o262_4 (P : Params) : Obj := ⟨.none, none, (.func ⟨s80, s88, (L2.defArgs (L2.inClass (topT 28) 3)), (.stmts (L2.defBody (L2.inClass (topT 28) 3))), (L2.defScope (L2.inClass (topT 28) 3)), 0, [], .none, .none, .none, .none, none, .none, .none, 0⟩), #[]⟩
def o263_4 (P : Params) : Obj := ⟨(.type SL.s5856160107412720595x4), none, (.fields #[(.str s80 500), (.str s88 501), (.str s1 502), (.int 113 0), (.int 3 0), (.int 0 0), (.int 0 0), (.int 3 0), (.ref 258), (.bool true), (.int 181 0), (.ref 259), .none, (.ref 260), (.ref 261), (.ref 262), (.int 506 0), (.int 113 0), (.str s1 507)]), #[]⟩
def o264_4 (P : Params) : Obj := ⟨(.type SL.s7174869446012820540x8), none, (.func ⟨s80, s88, (L2.defArgs (L2.inClass (topT 28) 3)), (.stmts (L2.defBody (L2.inClass (topT 28) 3))), (L2.defScope (L2.inClass (topT 28) 3)), 3, [], .none, .none, .none, (.str s35 343), none, (.ref 263), .none, 0⟩), #[]⟩
def o265_4 (P : Params) : Obj := ⟨(.type SL.s2766695959194262286x5), none, (.seq #[] 0), #[]⟩
def o266_4 (P : Params) : Obj := ⟨.none, none, (.fields #[]), #[]⟩
def o267_4 (P : Params) : Obj := ⟨(.type SL.s2766695959194262286x5), none, (.seq #[(.str s67 512), (.str s28 513), (.str s29 514)] 0), #[]⟩
def o268_4 (P : Params) : Obj := ⟨(.type SL.s2766695959194262286x5), none, (.seq #[] 0), #[]⟩
def o269_4 (P : Params) : Obj := ⟨.none, none, (.func ⟨s81, s89, (L2.defArgs (L2.inClass (topT 28) 4)), (.stmts (L2.defBody (L2.inClass (topT 28) 4))), (L2.defScope (L2.inClass (topT 28) 4)), 0, [], .none, .none, .none, .none, none, .none, .none, 0⟩), #[]⟩
def o270_4 (P : Params) : Obj := ⟨(.type SL.s5856160107412720595x4), none, (.fields #[(.str s81 509), (.str s89 510), (.str s1 511), (.int 116 0), (.int 3 0), (.int 0 0), (.int 0 0), (.int 3 0), (.ref 265), (.bool true), (.int 181 0), (.ref 266), .none, (.ref 267), (.ref 268), (.ref 269), (.int 515 0), (.int 116 0), (.str s1 516)]), #[]⟩
def o271_4 (P : Params) : Obj := ⟨(.type SL.s7174869446012820540x8), none, (.func ⟨s81, s89, (L2.defArgs (L2.inClass (topT 28) 4)), (.stmts (L2.defBody (L2.inClass (topT 28) 4))), (L2.defScope (L2.inClass (topT 28) 4)), 3, [], .none, .none, .none, (.str s35 343), none, (.ref 270), .none, 0⟩), #[]⟩
def o272_4 (P : Params) : Obj := ⟨(.type SL.s2766695959194262286x5), none, (.seq #[] 0), #[]⟩
def o273_4 (P : Params) : Obj := ⟨.none, none, (.fields #[]), #[]⟩
def o274_4 (P : Params) : Obj := ⟨(.type SL.s2766695959194262286x5), none, (.seq #[(.str s67 521), (.str s28 522)] 0), #[]⟩
def o275_4 (P : Params) : Obj := ⟨(.type SL.s2766695959194262286x5), none, (.seq #[] 0), #[]⟩
def o276_4 (P : Params) : Obj := ⟨.none, none, (.func ⟨s71, s90, (L2.defArgs (L2.inClass (topT 28) 5)), (.stmts (L2.defBody (L2.inClass (topT 28) 5))), (L2.defScope (L2.inClass (topT 28) 5)), 0, [], .none, .none, .none, .none, none, .none, .none, 0⟩), #[]⟩
def o277_4 (P : Params) : Obj := ⟨(.type SL.s5856160107412720595x4), none, (.fields #[(.str s71 518), (.str s90 519), (.str s1 520), (.int 119 0), (.int 2 0), (.int 0 0), (.int 0 0), (.int 3 0), (.ref 272), (.bool true), (.int 181 0), (.ref 273), .none, (.ref 274), (.ref 275), (.ref 276), (.int 523 0), (.int 119 0), (.str s1 524)]), #[]⟩
def o278_4 (P : Params) : Obj := ⟨(.type SL.s7174869446012820540x8), none, (.func ⟨s71, s90, (L2.defArgs (L2.inClass (topT 28) 5)), (.stmts (L2.defBody (L2.inClass (topT 28) 5))), (L2.defScope (L2.inClass (topT 28) 5)), 3, [], .none, .none, .none, (.str s35 343), none, (.ref 277), .none, 0⟩), #[]⟩
def o279_4 (P : Params) : Obj := ⟨(.type SL.s2766695959194262286x5), none, (.seq #[] 0), #[]⟩
def o280_4 (P : Params) : Obj := ⟨.none, none, (.fields #[]), #[]⟩
def o281_4 (P : Params) : Obj := ⟨(.type SL.s2766695959194262286x5), none, (.seq #[(.str s67 529), (.str s28 530)] 0), #[]⟩
def o282_4 (P : Params) : Obj := ⟨(.type SL.s2766695959194262286x5), none, (.seq #[] 0), #[]⟩
def o283_4 (P : Params) : Obj := ⟨.none, none, (.func ⟨s72, s91, (L2.defArgs (L2.inClass (topT 28) 6)), (.stmts (L2.defBody (L2.inClass (topT 28) 6))), (L2.defScope (L2.inClass (topT 28) 6)), 0, [], .none, .none, .none, .none, none, .none, .none, 0⟩), #[]⟩
def o284_4 (P : Params) : Obj := ⟨(.type SL.s5856160107412720595x4), none, (.fields #[(.str s72 526), (.str s91 527), (.str s1 528), (.int 122 0), (.int 2 0), (.int 0 0), (.int 0 0), (.int 3 0), (.ref 279), (.bool true), (.int 181 0), (.ref 280), .none, (.ref 281), (.ref 282), (.ref 283), (.int 531 0), (.int 122 0), (.str s1 532)]), #[]⟩
def o285_4 (P : Params) : Obj := ⟨(.type SL.s7174869446012820540x8), none, (.func ⟨s72, s91, (L2.defArgs (L2.inClass (topT 28) 6)), (.stmts (L2.defBody (L2.inClass (topT 28) 6))), (L2.defScope (L2.inClass (topT 28) 6)), 3, [], .none, .none, .none, (.str s35 343), none, (.ref 284), .none, 0⟩), #[]⟩
def o286_4 (P : Params) : Obj := ⟨(.type SL.s2766695959194262286x5), none, (.seq #[] 0), #[]⟩
def o287_4 (P : Params) : Obj := ⟨.none, none, (.fields #[]), #[]⟩
def o288_4 (P : Params) : Obj := ⟨(.type SL.s2766695959194262286x5), none, (.seq #[(.str s67 537), (.str s49 538)] 0), #[]⟩
def o289_4 (P : Params) : Obj := ⟨(.type SL.s2766695959194262286x5), none, (.seq #[] 0), #[]⟩
def o290_4 (P : Params) : Obj := ⟨.none, none, (.func ⟨s82, s92, (L2.defArgs (L2.inClass (topT 28) 7)), (.stmts (L2.defBody (L2.inClass (topT 28) 7))), (L2.defScope (L2.inClass (topT 28) 7)), 0, [], .none, .none, .none, .none, none, .none, .none, 0⟩), #[]⟩
def o291_4 (P : Params) : Obj := ⟨(.type SL.s5856160107412720595x4), none, (.fields #[(.str s82 534), (.str s92 535), (.str s1 536), (.int 125 0), (.int 2 0), (.int 0 0), (.int 0 0), (.int 3 0), (.ref 286), (.bool true), (.int 181 0), (.ref 287), .none, (.ref 288), (.ref 289), (.ref 290), (.int 539 0), (.int 125 0), (.str s1 540)]), #[]⟩
def o292_4 (P : Params) : Obj := ⟨(.type SL.s7174869446012820540x8), none, (.func ⟨s82, s92, (L2.defArgs (L2.inClass (topT 28) 7)), (.stmts (L2.defBody (L2.inClass (topT 28) 7))), (L2.defScope (L2.inClass (topT 28) 7)), 3, [], .none, .none, .none, (.str s35 343), none, (.ref 291), .none, 0⟩), #[]⟩
def o293_4 (P : Params) : Obj := ⟨(.type SL.s2766695959194262286x5), none, (.seq #[] 0), #[]⟩
def o294_4 (P : Params) : Obj := ⟨.none, none, (.fields #[]), #[]⟩
def o295_4 (P : Params) : Obj := ⟨(.type SL.s2766695959194262286x5), none, (.seq #[(.str s67 545), (.str s28 546)] 0), #[]⟩
def o296_4 (P : Params) : Obj := ⟨(.type SL.s2766695959194262286x5), none, (.seq #[] 0), #[]⟩
def o297_4 (P : Params) : Obj := ⟨.none, none, (.func ⟨s83, s93, (L2.defArgs (L2.inClass (topT 28) 8)), (.stmts (L2.defBody (L2.inClass (topT 28) 8))), (L2.defScope (L2.inClass (topT 28) 8)), 0, [], .none, .none, .none, .none, none, .none, .none, 0⟩), #[]⟩
def o298_4 (P : Params) : Obj := ⟨(.type SL.s5856160107412720595x4), none, (.fields #[(.str s83 542), (.str s93 543), (.str s1 544), (.int 132 0), (.int 2 0), (.int 0 0), (.int 0 0), (.int 3 0), (.ref 293), (.bool true), (.int 181 0), (.ref 294), .none, (.ref 295), (.ref 296), (.ref 297), (.int 547 0), (.int 132 0), (.str s1 548)]), #[]⟩
def o299_4 (P : Params) : Obj := ⟨(.type SL.s7174869446012820540x8), none, (.func ⟨s83, s93, (L2.defArgs (L2.inClass (topT 28) 8)), (.stmts (L2.defBody (L2.inClass (topT 28) 8))), (L2.defScope (L2.inClass (topT 28) 8)), 3, [], .none, .none, .none, (.str s35 343), none, (.ref 298), .none, 0⟩), #[]⟩
def o300_4 (P : Params) : Obj := ⟨(.type SL.s2766695959194262286x5), none, (.seq #[] 0), #[]⟩
def o301_4 (P : Params) : Obj := ⟨.none, none, (.fields #[]), #[]⟩
def o302_4 (P : Params) : Obj := ⟨(.type SL.s2766695959194262286x5), none, (.seq #[(.str s67 553), (.str s61 554), (.str s94 555), (.str s56 556), (.str s57 557)] 0), #[]⟩
def o303_4 (P : Params) : Obj := ⟨(.type SL.s2766695959194262286x5), none, (.seq #[] 0), #[]⟩
def o304_4 (P : Params) : Obj := ⟨.none, none, (.func ⟨s84, s95, (L2.defArgs (L2.inClass (topT 28) 9)), (.stmts (L2.defBody (L2.inClass (topT 28) 9))), (L2.defScope (L2.inClass (topT 28) 9)), 0, [], .none, .none, .none, .none, none, .none, .none, 0⟩), #[]⟩
def o305_4 (P : Params) : Obj := ⟨(.type SL.s5856160107412720595x4), none, (.fields #[(.str s84 550), (.str s95 551), (.str s1 552), (.int 135 0), (.int 2 0), (.int 0 0), (.int 0 0), (.int 3 0), (.ref 300), (.bool true), (.int 181 0), (.ref 301), .none, (.ref 302), (.ref 303), (.ref 304), (.int 558 0), (.int 135 0), (.str s1 559)]), #[]⟩
def o306_4 (P : Params) : Obj := ⟨(.type SL.s7174869446012820540x8), none, (.func ⟨s84, s95, (L2.defArgs (L2.inClass (topT 28) 9)), (.stmts (L2.defBody (L2.inClass (topT 28) 9))), (L2.defScope (L2.inClass (topT 28) 9)), 3, [], .none, .none, .none, (.str s35 343), none, (.ref 305), .none, 0⟩), #[]⟩
def o307_4 (P : Params) : Obj := ⟨(.type SL.s2766695959194262286x5), none, (.seq #[] 0), #[]⟩
def o308_4 (P : Params) : Obj := ⟨(.type SL.s14018661285674007319x4), none, (.dict #[⟨(kh P s30), (.str s30 474), (.str s35 343)⟩, ⟨(kh P s32), (.str s32 478), (.int 102 477)⟩, ⟨(kh P s78), (.str s78 485), (.ref 243)⟩, ⟨(kh P s79), (.str s79 492), (.ref 250)⟩, ⟨(kh P s51), (.str s51 499), (.ref 257)⟩, ⟨(kh P s80), (.str s80 508), (.ref 264)⟩, ⟨(kh P s81), (.str s81 517), (.ref 271)⟩, ⟨(kh P s71), (.str s71 525), (.ref 278)⟩, ⟨(kh P s72), (.str s72 533), (.ref 285)⟩, ⟨(kh P s82), (.str s82 541), (.ref 292)⟩, ⟨(kh P s83), (.str s83 549), (.ref 299)⟩, ⟨(kh P s84), (.str s84 560), (.ref 306)⟩, ⟨(kh P s33), (.str s33 561), (.ref 307)⟩, ⟨(kh P s5), (.str s5 562), .none⟩] 2), #[]⟩
def o309_4 (P : Params) : Obj := ⟨(.type SL.s17162191345867700912x4), none, (.cls ⟨s77, [(.ref 187)], [(.ref 309), (.ref 187), (.ref 159), (.type SL.s2742458400755230247x6)], 308, s77, true, [], [], false, none, false⟩), #[(some (.ref 230)), none, (some (.str s77 467)), (some (.str s77 475)), (some (.builtin SL.s11443829558043349243x14)), (some (.bool true))]⟩
def o310_4 (P : Params) : Obj := ⟨(.type SL.s4290257624100764138x5), none, (.fields #[(.ref 309), (.ref 309), (.ref 309)]), #[]⟩
def o311_4 (P : Params) : Obj := ⟨(.type SL.s11030030927630378310x26), none, (.fields #[(.builtin SL.s4860613602091757760x24), (.ref 309)]), #[]⟩
def o3_5 (P : Params) : Obj := ⟨(.type SL.s14018661285674007319x4), none, (.dict #[⟨(kh P s3), (.str s3 165), (.str s35 343)⟩, ⟨(kh P s5), (.str s5 166), .none⟩, ⟨(kh P s6), (.str s6 167), .none⟩, ⟨(kh P s7), (.str s7 168), (.builtin SL.s7097527257260152453x26)⟩, ⟨(kh P s8), (.str s8 169), .none⟩, ⟨(kh P s9), (.str s9 170), (.ref 6)⟩, ⟨(kh P s10), (.str s10 171), (.ref 4)⟩, ⟨(kh P s11), (.str s11 173), (.str s1 172)⟩, ⟨(kh P s12), (.str s12 174), .none⟩, ⟨(kh P s13), (.str s13 193), (.ref 21)⟩, ⟨(kh P s14), (.str s14 201), (.ref 26)⟩, ⟨(kh P s15), (.str s15 207), (.ref 31)⟩, ⟨(kh P s16), (.str s16 219), (.ref 38)⟩, ⟨(kh P s17), (.str s17 225), (.ref 43)⟩, ⟨(kh P s18), (.str s18 231), (.ref 48)⟩, ⟨(kh P s19), (.str s19 237), (.ref 53)⟩, ⟨(kh P s20), (.str s20 257), (.ref 63)⟩, ⟨(kh P s21), (.str s21 273), (.ref 76)⟩, ⟨(kh P s36), (.str s36 289), (.ref 88)⟩, ⟨(kh P s37), (.str s37 305), (.ref 100)⟩, ⟨(kh P s38), (.str s38 314), (.ref 109)⟩, ⟨(kh P s39), (.str s39 325), (.ref 116)⟩, ⟨(kh P s40), (.str s40 334), (.ref 123)⟩, ⟨(kh P s41), (.str s41 342), (.ref 130)⟩, ⟨(kh P s42), (.str s42 346), (.str s43 345)⟩, ⟨(kh P s44), (.str s44 348), (.int 30 347)⟩, ⟨(kh P s45), (.str s45 350), (.int 1000000 349)⟩, ⟨(kh P s46), (.str s46 356), (.ref 135)⟩, ⟨(kh P s47), (.str s47 363), (.ref 142)⟩, ⟨(kh P s48), (.str s48 370), (.ref 149)⟩, ⟨(kh P s62), (.str s62 390), (.ref 159)⟩, ⟨(kh P s63), (.str s63 420), (.ref 187)⟩, ⟨(kh P s70), (.str s70 466), (.ref 227)⟩, ⟨(kh P s77), (.str s77 564), (.ref 309)⟩, ⟨(kh P s96), (.str s96 669), (.ref 398)⟩] 35), #[]⟩
def o12_5 (P : Params) : Obj := ⟨.none, none, (.fields #[(.int 1 0), (.int 0 0), (.ref 20), (.int 5 0), (.int 0 0), (.ref 25), (.int 7 0), (.int 0 0), (.ref 30), (.int 11 0), (.int 0 0), (.ref 37), (.int 16 0), (.int 0 0), (.ref 42), (.int 18 0), (.int 0 0), (.ref 47), (.int 20 0), (.int 0 0), (.ref 52), (.int 23 0), (.int 0 0), (.ref 59), (.int 25 0), (.int 0 0), (.ref 72), (.int 27 0), (.int 0 0), (.ref 84), (.int 29 0), (.int 0 0), (.ref 96), (.int 32 0), (.int 0 0), (.ref 108), (.int 34 0), (.int 0 0), (.ref 115), (.int 42 0), (.int 0 0), (.ref 122), (.int 51 0), (.int 0 0), (.ref 129), (.int 64 0), (.int 0 0), (.ref 134), (.int 73 0), (.int 0 0), (.ref 141), (.int 77 0), (.int 0 0), (.ref 148), (.int 80 0), (.int 0 0), (.ref 155), (.int 82 0), (.int 0 0), (.ref 169), (.int 89 0), (.int 0 0), (.ref 195), (.int 102 0), (.int 0 0), (.ref 235), (.int 145 0), (.int 0 0), (.ref 317)]), #[]⟩
def o187_5 (P : Params) : Obj := ⟨(.type SL.s17162191345867700912x4), none, (.cls ⟨s63, [(.ref 159)], [(.ref 187), (.ref 159), (.type SL.s2742458400755230247x6)], 186, s63, true, [], [(.ref 309), (.ref 398)], false, none, false⟩), #[(some (.ref 164)), none, (some (.str s63 391)), (some (.str s63 399)), (some (.builtin SL.s11443829558043349243x14)), (some (.bool true))]⟩
def o312_5 (P : Params) : Obj := ⟨(.type SL.s2766695959194262286x5), none, (.seq #[(.ref 187)] 0), #[]⟩
def o313_5 (P : Params) : Obj := ⟨(.type SL.s11030030927630378310x26), none, (.fields #[(.builtin SL.s10062305145149207511x16), (.type SL.s17162191345867700912x4)]), #[]⟩
def o314_5 (P : Params) : Obj := ⟨(.type SL.s14018661285674007319x4), none, (.dict #[⟨(kh P s30), (.str s30 572), (.str s35 343)⟩, ⟨(kh P s31), (.str s31 574), (.str s96 573)⟩, ⟨(kh P s32), (.str s32 576), (.int 145 575)⟩, ⟨(kh P s97), (.str s97 584), (.ref 325)⟩, ⟨(kh P s78), (.str s78 591), (.ref 332)⟩, ⟨(kh P s79), (.str s79 598), (.ref 339)⟩, ⟨(kh P s51), (.str s51 605), (.ref 346)⟩, ⟨(kh P s80), (.str s80 614), (.ref 353)⟩, ⟨(kh P s81), (.str s81 623), (.ref 360)⟩, ⟨(kh P s71), (.str s71 631), (.ref 367)⟩, ⟨(kh P s72), (.str s72 639), (.ref 374)⟩, ⟨(kh P s82), (.str s82 647), (.ref 381)⟩, ⟨(kh P s83), (.str s83 655), (.ref 388)⟩, ⟨(kh P s84), (.str s84 664), (.ref 395)⟩, ⟨(kh P s33), (.str s33 666), (.ref 396)⟩] 15), #[]⟩
def o315_5 (P : Params) : Obj := ⟨(.type SL.s2766695959194262286x5), none, (.seq #[] 0), #[]⟩
def o316_5 (P : Params) : Obj := ⟨.none, none, (.fields #[(.int 147 0), (.int 4 0), (.ref 324), (.int 152 0), (.int 4 0), (.ref 331), (.int 155 0), (.int 4 0), (.ref 338), (.int 158 0), (.int 4 0), (.ref 345), (.int 161 0), (.int 4 0), (.ref 352), (.int 164 0), (.int 4 0), (.ref 359), (.int 167 0), (.int 4 0), (.ref 366), (.int 170 0), (.int 4 0), (.ref 373), (.int 173 0), (.int 4 0), (.ref 380), (.int 176 0), (.int 4 0), (.ref 387), (.int 179 0), (.int 4 0), (.ref 394)]), #[]⟩
def o317_5 (P : Params) : Obj := ⟨(.type SL.s5856160107412720595x4), none, (.fields #[(.str s96 567), (.str s96 568), (.str s1 569), (.int 145 0), (.int 0 0), (.int 0 0), (.int 0 0), (.int 0 0), (.ref 315), (.bool false), (.int 181 0), (.ref 316), .none, .none, .none, .none, (.int 570 0), (.int 145 0), (.str s1 571)]), #[]⟩
def o318_5 (P : Params) : Obj := ⟨(.type SL.s658472552662922059x5), none, .plain, #[(some (.ref 317)), (some (.ref 3)), (some (.ref 314)), none, (some (.str s35 343)), none, (some (.ref 0))]⟩
def o319_5 (P : Params) : Obj := ⟨(.type SL.s2766695959194262286x5), none, (.seq #[] 0), #[]⟩
def o320_5 (P : Params) : Obj := ⟨.none, none, (.fields #[]), #[]⟩
def o321_5 (P : Params) : Obj := ⟨(.type SL.s2766695959194262286x5), none, (.seq #[(.str s67 580), (.str s98 581)] 0), #[]⟩
def o322_5 (P : Params) : Obj := ⟨(.type SL.s2766695959194262286x5), none, (.seq #[] 0), #[]⟩
def o323_5 (P : Params) : Obj := ⟨.none, none, (.func ⟨s97, s99, (L2.defArgs (L2.inClass (topT 29) 0)), (.stmts (L2.defBody (L2.inClass (topT 29) 0))), (L2.defScope (L2.inClass (topT 29) 0)), 0, [], .none, .none, .none, .none, none, .none, .none, 0⟩), #[]⟩
def o324_5 (P : Params) : Obj := ⟨(.type SL.s5856160107412720595x4), none, (.fields #[(.str s97 577), (.str s99 578), (.str s1 579), (.int 147 0), (.int 2 0), (.int 0 0), (.int 0 0), (.int 3 0), (.ref 319), (.bool true), (.int 181 0), (.ref 320), .none, (.ref 321), (.ref 322), (.ref 323), (.int 582 0), (.int 147 0), (.str s1 583)]), #[]⟩
def o325_5 (P : Params) : Obj := ⟨(.type SL.s7174869446012820540x8), none, (.func ⟨s97, s99, (L2.defArgs (L2.inClass (topT 29) 0)), (.stmts (L2.defBody (L2.inClass (topT 29) 0))), (L2.defScope (L2.inClass (topT 29) 0)), 3, [], .none, .none, .none, (.str s35 343), none, (.ref 324), .none, 0⟩), #[]⟩
def o326_5 (P : Params) : Obj := ⟨(.type SL.s2766695959194262286x5), none, (.seq #[] 0), #[]⟩
def o327_5 (P : Params) : Obj := ⟨.none, none, (.fields #[]), #[]⟩
def o328_5 (P : Params) : Obj := ⟨(.type SL.s2766695959194262286x5), none, (.seq #[(.str s67 588)] 0), #[]⟩
def o329_5 (P : Params) : Obj := ⟨(.type SL.s2766695959194262286x5), none, (.seq #[] 0), #[]⟩
def o330_5 (P : Params) : Obj := ⟨.none, none, (.func ⟨s78, s100, (L2.defArgs (L2.inClass (topT 29) 1)), (.stmts (L2.defBody (L2.inClass (topT 29) 1))), (L2.defScope (L2.inClass (topT 29) 1)), 0, [], .none, .none, .none, .none, none, .none, .none, 0⟩), #[]⟩
def o331_5 (P : Params) : Obj := ⟨(.type SL.s5856160107412720595x4), none, (.fields #[(.str s78 585), (.str s100 586), (.str s1 587), (.int 152 0), (.int 1 0), (.int 0 0), (.int 0 0), (.int 3 0), (.ref 326), (.bool true), (.int 181 0), (.ref 327), .none, (.ref 328), (.ref 329), (.ref 330), (.int 589 0), (.int 152 0), (.str s1 590)]), #[]⟩
def o332_5 (P : Params) : Obj := ⟨(.type SL.s7174869446012820540x8), none, (.func ⟨s78, s100, (L2.defArgs (L2.inClass (topT 29) 1)), (.stmts (L2.defBody (L2.inClass (topT 29) 1))), (L2.defScope (L2.inClass (topT 29) 1)), 3, [], .none, .none, .none, (.str s35 343), none, (.ref 331), .none, 0⟩), #[]⟩
def o333_5 (P : Params) : Obj := ⟨(.type SL.s2766695959194262286x5), none, (.seq #[] 0), #[]⟩
def o334_5 (P : Params) : Obj := ⟨.none, none, (.fields #[]), #[]⟩
def o335_5 (P : Params) : Obj := ⟨(.type SL.s2766695959194262286x5), none, (.seq #[(.str s67 595)] 0), #[]⟩
def o336_5 (P : Params) : Obj := ⟨(.type SL.s2766695959194262286x5), none, (.seq #[] 0), #[]⟩
def o337_5 (P : Params) : Obj := ⟨.none, none, (.func ⟨s79, s101, (L2.defArgs (L2.inClass (topT 29) 2)), (.stmts (L2.defBody (L2.inClass (topT 29) 2))), (L2.defScope (L2.inClass (topT 29) 2)), 0, [], .none, .none, .none, .none, none, .none, .none, 0⟩), #[]⟩
def o338_5 (P : Params) : Obj := ⟨(.type SL.s5856160107412720595x4), none, (.fields #[(.str s79 592), (.str s101 593), (.str s1 594), (.int 155 0), (.int 1 0), (.int 0 0), (.int 0 0), (.int 3 0), (.ref 333), (.bool true), (.int 181 0), (.ref 334), .none, (.ref 335), (.ref 336), (.ref 337), (.int 596 0), (.int 155 0), (.str s1 597)]), #[]⟩
def o339_5 (P : Params) : Obj := ⟨(.type SL.s7174869446012820540x8), none, (.func ⟨s79, s101, (L2.defArgs (L2.inClass (topT 29) 2)), (.stmts (L2.defBody (L2.inClass (topT 29) 2))), (L2.defScope (L2.inClass (topT 29) 2)), 3, [], .none, .none, .none, (.str s35 343), none, (.ref 338), .none, 0⟩), #[]⟩
def o340_5 (P : Params) : Obj := ⟨(.type SL.s2766695959194262286x5), none, (.seq #[] 0), #[]⟩
def o341_5 (P : Params) : Obj := ⟨.none, none, (.fields #[]), #[]⟩
def o342_5 (P : Params) : Obj := ⟨(.type SL.s2766695959194262286x5), none, (.seq #[(.str s67 602)] 0), #[]⟩
def o343_5 (P : Params) : Obj := ⟨(.type SL.s2766695959194262286x5), none, (.seq #[] 0), #[]⟩
def o344_5 (P : Params) : Obj := ⟨.none, none, (.func ⟨s51, s102, (L2.defArgs (L2.inClass (topT 29) 3)), (.stmts (L2.defBody (L2.inClass (topT 29) 3))), (L2.defScope (L2.inClass (topT 29) 3)), 0, [], .none, .none, .none, .none, none, .none, .none, 0⟩), #[]⟩
def o345_5 (P : Params) : Obj := ⟨(.type SL.s5856160107412720595x4), none, (.fields #[(.str s51 599), (.str s102 600), (.str s1 601), (.int 158 0), (.int 1 0), (.int 0 0), (.int 0 0), (.int 3 0), (.ref 340), (.bool true), (.int 181 0), (.ref 341), .none, (.ref 342), (.ref 343), (.ref 344), (.int 603 0), (.int 158 0), (.str s1 604)]), #[]⟩
def o346_5 (P : Params) : Obj := ⟨(.type SL.s7174869446012820540x8), none, (.func ⟨s51, s102, (L2.defArgs (L2.inClass (topT 29) 3)), (.stmts (L2.defBody (L2.inClass (topT 29) 3))), (L2.defScope (L2.inClass (topT 29) 3)), 3, [], .none, .none, .none, (.str s35 343), none, (.ref 345), .none, 0⟩), #[]⟩
def o347_5 (P : Params) : Obj := ⟨(.type SL.s2766695959194262286x5), none, (.seq #[] 0), #[]⟩
def o348_5 (P : Params) : Obj := ⟨.none, none, (.fields #[]), #[]⟩
def o349_5 (P : Params) : Obj := ⟨(.type SL.s2766695959194262286x5), none, (.seq #[(.str s67 609), (.str s28 610), (.str s29 611)] 0), #[]⟩
def o350_5 (P : Params) : Obj := ⟨(.type SL.s2766695959194262286x5), none, (.seq #[] 0), #[]⟩
def o351_5 (P : Params) : Obj := ⟨.none, none, (.func ⟨s80, s103, (L2.defArgs (L2.inClass (topT 29) 4)), (.stmts (L2.defBody (L2.inClass (topT 29) 4))), (L2.defScope (L2.inClass (topT 29) 4)), 0, [], .none, .none, .none, .none, none, .none, .none, 0⟩), #[]⟩
def o352_5 (P : Params) : Obj := ⟨(.type SL.s5856160107412720595x4), none, (.fields #[(.str s80 606), (.str s103 607), (.str s1 608), (.int 161 0), (.int 3 0), (.int 0 0), (.int 0 0), (.int 3 0), (.ref 347), (.bool true), (.int 181 0), (.ref 348), .none, (.ref 349), (.ref 350), (.ref 351), (.int 612 0), (.int 161 0), (.str s1 613)]), #[]⟩
def o353_5 (P : Params) : Obj := ⟨(.type SL.s7174869446012820540x8), none, (.func ⟨s80, s103, (L2.defArgs (L2.inClass (topT 29) 4)), (.stmts (L2.defBody (L2.inClass (topT 29) 4))), (L2.defScope (L2.inClass (topT 29) 4)), 3, [], .none, .none, .none, (.str s35 343), none, (.ref 352), .none, 0⟩), #[]⟩
def o354_5 (P : Params) : Obj := ⟨(.type SL.s2766695959194262286x5), none, (.seq #[] 0), #[]⟩
def o355_5 (P : Params) : Obj := ⟨.none, none, (.fields #[]), #[]⟩
def o356_5 (P : Params) : Obj := ⟨(.type SL.s2766695959194262286x5), none, (.seq #[(.str s67 618), (.str s28 619), (.str s29 620)] 0), #[]⟩
def o357_5 (P : Params) : Obj := ⟨(.type SL.s2766695959194262286x5), none, (.seq #[] 0), #[]⟩
def o358_5 (P : Params) : Obj := ⟨.none, none, (.func ⟨s81, s104, (L2.defArgs (L2.inClass (topT 29) 5)), (.stmts (L2.defBody (L2.inClass (topT 29) 5))), (L2.defScope (L2.inClass (topT 29) 5)), 0, [], .none, .none, .none, .none, none, .none, .none, 0⟩), #[]⟩
def o359_5 (P : Params) : Obj := ⟨(.type SL.s5856160107412720595x4), none, (.fields #[(.str s81 615), (.str s104 616), (.str s1 617), (.int 164 0), (.int 3 0), (.int 0 0), (.int 0 0), (.int 3 0), (.ref 354), (.bool true), (.int 181 0), (.ref 355), .none, (.ref 356), (.ref 357), (.ref 358), (.int 621 0), (.int 164 0), (.str s1 622)]), #[]⟩
def o360_5 (P : Params) : Obj := ⟨(.type SL.s7174869446012820540x8), none, (.func ⟨s81, s104, (L2.defArgs (L2.inClass (topT 29) 5)), (.stmts (L2.defBody (L2.inClass (topT 29) 5))), (L2.defScope (L2.inClass (topT 29) 5)), 3, [], .none, .none, .none, (.str s35 343), none, (.ref 359), .none, 0⟩), #[]⟩
def o361_5 (P : Params) : Obj := ⟨(.type SL.s2766695959194262286x5), none, (.seq #[] 0), #[]⟩
def o362_5 (P : Params) : Obj := ⟨.none, none, (.fields #[]), #[]⟩
def o363_5 (P : Params) : Obj := ⟨(.type SL.s2766695959194262286x5), none, (.seq #[(.str s67 627), (.str s28 628)] 0), #[]⟩
def o364_5 (P : Params) : Obj := ⟨(.type SL.s2766695959194262286x5), none, (.seq #[] 0), #[]⟩
def o365_5 (P : Params) : Obj := ⟨.none, none, (.func ⟨s71, s105, (L2.defArgs (L2.inClass (topT 29) 6)), (.stmts (L2.defBody (L2.inClass (topT 29) 6))), (L2.defScope (L2.inClass (topT 29) 6)), 0, [], .none, .none, .none, .none, none, .none, .none, 0⟩), #[]⟩
def o366_5 (P : Params) : Obj := ⟨(.type SL.s5856160107412720595x4), none, (.fields #[(.str s71 624), (.str s105 625), (.str s1 626), (.int 167 0), (.int 2 0), (.int 0 0), (.int 0 0), (.int 3 0), (.ref 361), (.bool true), (.int 181 0), (.ref 362), .none, (.ref 363), (.ref 364), (.ref 365), (.int 629 0), (.int 167 0), (.str s1 630)]), #[]⟩
def o367_5 (P : Params) : Obj := ⟨(.type SL.s7174869446012820540x8), none, (.func ⟨s71, s105, (L2.defArgs (L2.inClass (topT 29) 6)), (.stmts (L2.defBody (L2.inClass (topT 29) 6))), (L2.defScope (L2.inClass (topT 29) 6)), 3, [], .none, .none, .none, (.str s35 343), none, (.ref 366), .none, 0⟩), #[]⟩
def o368_5 (P : Params) : Obj := ⟨(.type SL.s2766695959194262286x5), none, (.seq #[] 0), #[]⟩
def o369_5 (P : Params) : Obj := ⟨.none, none, (.fields #[]), #[]⟩
def o370_5 (P : Params) : Obj := ⟨(.type SL.s2766695959194262286x5), none, (.seq #[(.str s67 635), (.str s28 636)] 0), #[]⟩
def o371_5 (P : Params) : Obj := ⟨(.type SL.s2766695959194262286x5), none, (.seq #[] 0), #[]⟩
def o372_5 (P : Params) : Obj := ⟨.none, none, (.func ⟨s72, s106, (L2.defArgs (L2.inClass (topT 29) 7)), (.stmts (L2.defBody (L2.inClass (topT 29) 7))), (L2.defScope (L2.inClass (topT 29) 7)), 0, [], .none, .none, .none, .none, none, .none, .none, 0⟩), #[]⟩
def o373_5 (P : Params) : Obj := ⟨(.type SL.s5856160107412720595x4), none, (.fields #[(.str s72 632), (.str s106 633), (.str s1 634), (.int 170 0), (.int 2 0), (.int 0 0), (.int 0 0), (.int 3 0), (.ref 368), (.bool true), (.int 181 0), (.ref 369), .none, (.ref 370), (.ref 371), (.ref 372), (.int 637 0), (.int 170 0), (.str s1 638)]), #[]⟩
def o374_5 (P : Params) : Obj := ⟨(.type SL.s7174869446012820540x8), none, (.func ⟨s72, s106, (L2.defArgs (L2.inClass (topT 29) 7)), (.stmts (L2.defBody (L2.inClass (topT 29) 7))), (L2.defScope (L2.inClass (topT 29) 7)), 3, [], .none, .none, .none, (.str s35 343), none, (.ref 373), .none, 0⟩), #[]⟩
def o375_5 (P : Params) : Obj := ⟨(.type SL.s2766695959194262286x5), none, (.seq #[] 0), #[]⟩
def o376_5 (P : Params) : Obj := ⟨.none, none, (.fields #[]), #[]⟩
def o377_5 (P : Params) : Obj := ⟨(.type SL.s2766695959194262286x5), none, (.seq #[(.str s67 643), (.str s49 644)] 0), #[]⟩
def o378_5 (P : Params) : Obj := ⟨(.type SL.s2766695959194262286x5), none, (.seq #[] 0), #[]⟩
def o379_5 (P : Params) : Obj := ⟨.none, none, (.func ⟨s82, s107, (L2.defArgs (L2.inClass (topT 29) 8)), (.stmts (L2.defBody (L2.inClass (topT 29) 8))), (L2.defScope (L2.inClass (topT 29) 8)), 0, [], .none, .none, .none, .none, none, .none, .none, 0⟩), #[]⟩
def o380_5 (P : Params) : Obj := ⟨(.type SL.s5856160107412720595x4), none, (.fields #[(.str s82 640), (.str s107 641), (.str s1 642), (.int 173 0), (.int 2 0), (.int 0 0), (.int 0 0), (.int 3 0), (.ref 375), (.bool true), (.int 181 0), (.ref 376), .none, (.ref 377), (.ref 378), (.ref 379), (.int 645 0), (.int 173 0), (.str s1 646)]), #[]⟩
def o381_5 (P : Params) : Obj := ⟨(.type SL.s7174869446012820540x8), none, (.func ⟨s82, s107, (L2.defArgs (L2.inClass (topT 29) 8)), (.stmts (L2.defBody (L2.inClass (topT 29) 8))), (L2.defScope (L2.inClass (topT 29) 8)), 3, [], .none, .none, .none, (.str s35 343), none, (.ref 380), .none, 0⟩), #[]⟩
def o382_5 (P : Params) : Obj := ⟨(.type SL.s2766695959194262286x5), none, (.seq #[] 0), #[]⟩
def o383_5 (P : Params) : Obj := ⟨.none, none, (.fields #[]), #[]⟩
def o384_5 (P : Params) : Obj := ⟨(.type SL.s2766695959194262286x5), none, (.seq #[(.str s67 651), (.str s28 652)] 0), #[]⟩
def o385_5 (P : Params) : Obj := ⟨(.type SL.s2766695959194262286x5), none, (.seq #[] 0), #[]⟩
def o386_5 (P : Params) : Obj := ⟨.none, none, (.func ⟨s83, s108, (L2.defArgs (L2.inClass (topT 29) 9)), (.stmts (L2.defBody (L2.inClass (topT 29) 9))), (L2.defScope (L2.inClass (topT 29) 9)), 0, [], .none, .none, .none, .none, none, .none, .none, 0⟩), #[]⟩
def o387_5 (P : Params) : Obj := ⟨(.type SL.s5856160107412720595x4), none, (.fields #[(.str s83 648), (.str s108 649), (.str s1 650), (.int 176 0), (.int 2 0), (.int 0 0), (.int 0 0), (.int 3 0), (.ref 382), (.bool true), (.int 181 0), (.ref 383), .none, (.ref 384), (.ref 385), (.ref 386), (.int 653 0), (.int 176 0), (.str s1 654)]), #[]⟩
def o388_5 (P : Params) : Obj := ⟨(.type SL.s7174869446012820540x8), none, (.func ⟨s83, s108, (L2.defArgs (L2.inClass (topT 29) 9)), (.stmts (L2.defBody (L2.inClass (topT 29) 9))), (L2.defScope (L2.inClass (topT 29) 9)), 3, [], .none, .none, .none, (.str s35 343), none, (.ref 387), .none, 0⟩), #[]⟩
def o389_5 (P : Params) : Obj := ⟨(.type SL.s2766695959194262286x5), none, (.seq #[] 0), #[]⟩
def o390_5 (P : Params) : Obj := ⟨.none, none, (.fields #[]), #[]⟩
def o391_5 (P : Params) : Obj := ⟨(.type SL.s2766695959194262286x5), none, (.seq #[(.str s67 659), (.str s61 660), (.str s59 661)] 0), #[]⟩
def o392_5 (P : Params) : Obj := ⟨(.type SL.s2766695959194262286x5), none, (.seq #[] 0), #[]⟩
def o393_5 (P : Params) : Obj := ⟨.none, none, (.func ⟨s84, s109, (L2.defArgs (L2.inClass (topT 29) 10)), (.stmts (L2.defBody (L2.inClass (topT 29) 10))), (L2.defScope (L2.inClass (topT 29) 10)), 0, [], .none, .none, .none, .none, none, .none, .none, 0⟩), #[]⟩
def o394_5 (P : Params) : Obj := ⟨(.type SL.s5856160107412720595x4), none, (.fields #[(.str s84 656), (.str s109 657), (.str s1 658), (.int 179 0), (.int 2 0), (.int 0 0), (.int 0 0), (.int 3 0), (.ref 389), (.bool true), (.int 181 0), (.ref 390), .none, (.ref 391), (.ref 392), (.ref 393), (.int 662 0), (.int 179 0), (.str s1 663)]), #[]⟩
def o395_5 (P : Params) : Obj := ⟨(.type SL.s7174869446012820540x8), none, (.func ⟨s84, s109, (L2.defArgs (L2.inClass (topT 29) 10)), (.stmts (L2.defBody (L2.inClass (topT 29) 10))), (L2.defScope (L2.inClass (topT 29) 10)), 3, [], .none, .none, .none, (.str s35 343), none, (.ref 394), .none, 0⟩), #[]⟩
def o396_5 (P : Params) : Obj := ⟨(.type SL.s2766695959194262286x5), none, (.seq #[(.str s98 665)] 0), #[]⟩
def o397_5 (P : Params) : Obj := ⟨(.type SL.s14018661285674007319x4), none, (.dict #[⟨(kh P s30), (.str s30 572), (.str s35 343)⟩, ⟨(kh P s32), (.str s32 576), (.int 145 575)⟩, ⟨(kh P s97), (.str s97 584), (.ref 325)⟩, ⟨(kh P s78), (.str s78 591), (.ref 332)⟩, ⟨(kh P s79), (.str s79 598), (.ref 339)⟩, ⟨(kh P s51), (.str s51 605), (.ref 346)⟩, ⟨(kh P s80), (.str s80 614), (.ref 353)⟩, ⟨(kh P s81), (.str s81 623), (.ref 360)⟩, ⟨(kh P s71), (.str s71 631), (.ref 367)⟩, ⟨(kh P s72), (.str s72 639), (.ref 374)⟩, ⟨(kh P s82), (.str s82 647), (.ref 381)⟩, ⟨(kh P s83), (.str s83 655), (.ref 388)⟩, ⟨(kh P s84), (.str s84 664), (.ref 395)⟩, ⟨(kh P s33), (.str s33 666), (.ref 396)⟩, ⟨(kh P s5), (.str s5 667), .none⟩] 2), #[]⟩
def o398_5 (P : Params) : Obj := ⟨(.type SL.s17162191345867700912x4), none, (.cls ⟨s96, [(.ref 187)], [(.ref 398), (.ref 187), (.ref 159), (.type SL.s2742458400755230247x6)], 397, s96, true, [], [], false, none, false⟩), #[(some (.ref 312)), none, (some (.str s96 565)), (some (.str s96 573)), (some (.builtin SL.s11443829558043349243x14)), (some (.bool true))]⟩
def o399_5 (P : Params) : Obj := ⟨(.type SL.s4290257624100764138x5), none, (.fields #[(.ref 398), (.ref 398), (.ref 398)]), #[]⟩
def o400_5 (P : Params) : Obj := ⟨(.type SL.s11030030927630378310x26), none, (.fields #[(.builtin SL.s4860613602091757760x24), (.ref 398)]), #[]⟩
def o3_6 (P : Params) : Obj := ⟨(.type SL.s14018661285674007319x4), none, (.dict #[⟨(kh P s3), (.str s3 165), (.str s35 343)⟩, ⟨(kh P s5), (.str s5 166), .none⟩, ⟨(kh P s6), (.str s6 167), .none⟩, ⟨(kh P s7), (.str s7 168), (.builtin SL.s7097527257260152453x26)⟩, ⟨(kh P s8), (.str s8 169), .none⟩, ⟨(kh P s9), (.str s9 170), (.ref 6)⟩, ⟨(kh P s10), (.str s10 171), (.ref 4)⟩, ⟨(kh P s11), (.str s11 173), (.str s1 172)⟩, ⟨(kh P s12), (.str s12 174), .none⟩, ⟨(kh P s13), (.str s13 193), (.ref 21)⟩, ⟨(kh P s14), (.str s14 201), (.ref 26)⟩, ⟨(kh P s15), (.str s15 207), (.ref 31)⟩, ⟨(kh P s16), (.str s16 219), (.ref 38)⟩, ⟨(kh P s17), (.str s17 225), (.ref 43)⟩, ⟨(kh P s18), (.str s18 231), (.ref 48)⟩, ⟨(kh P s19), (.str s19 237), (.ref 53)⟩, ⟨(kh P s20), (.str s20 257), (.ref 63)⟩, ⟨(kh P s21), (.str s21 273), (.ref 76)⟩, ⟨(kh P s36), (.str s36 289), (.ref 88)⟩, ⟨(kh P s37), (.str s37 305), (.ref 100)⟩, ⟨(kh P s38), (.str s38 314), (.ref 109)⟩, ⟨(kh P s39), (.str s39 325), (.ref 116)⟩, ⟨(kh P s40), (.str s40 334), (.ref 123)⟩, ⟨(kh P s41), (.str s41 342), (.ref 130)⟩, ⟨(kh P s42), (.str s42 346), (.str s43 345)⟩, ⟨(kh P s44), (.str s44 348), (.int 30 347)⟩, ⟨(kh P s45), (.str s45 350), (.int 1000000 349)⟩, ⟨(kh P s46), (.str s46 356), (.ref 135)⟩, ⟨(kh P s47), (.str s47 363), (.ref 142)⟩, ⟨(kh P s48), (.str s48 370), (.ref 149)⟩, ⟨(kh P s62), (.str s62 390), (.ref 159)⟩, ⟨(kh P s63), (.str s63 420), (.ref 187)⟩, ⟨(kh P s70), (.str s70 466), (.ref 227)⟩, ⟨(kh P s77), (.str s77 564), (.ref 309)⟩, ⟨(kh P s96), (.str s96 669), (.ref 398)⟩, ⟨(kh P s110), (.str s110 748), (.ref 466)⟩] 36), #[]⟩
def o12_6 (P : Params) : Obj := ⟨.none, none, (.fields #[(.int 1 0), (.int 0 0), (.ref 20), (.int 5 0), (.int 0 0), (.ref 25), (.int 7 0), (.int 0 0), (.ref 30), (.int 11 0), (.int 0 0), (.ref 37), (.int 16 0), (.int 0 0), (.ref 42), (.int 18 0), (.int 0 0), (.ref 47), (.int 20 0), (.int 0 0), (.ref 52), (.int 23 0), (.int 0 0), (.ref 59), (.int 25 0), (.int 0 0), (.ref 72), (.int 27 0), (.int 0 0), (.ref 84), (.int 29 0), (.int 0 0), (.ref 96), (.int 32 0), (.int 0 0), (.ref 108), (.int 34 0), (.int 0 0), (.ref 115), (.int 42 0), (.int 0 0), (.ref 122), (.int 51 0), (.int 0 0), (.ref 129), (.int 64 0), (.int 0 0), (.ref 134), (.int 73 0), (.int 0 0), (.ref 141), (.int 77 0), (.int 0 0), (.ref 148), (.int 80 0), (.int 0 0), (.ref 155), (.int 82 0), (.int 0 0), (.ref 169), (.int 89 0), (.int 0 0), (.ref 195), (.int 102 0), (.int 0 0), (.ref 235), (.int 145 0), (.int 0 0), (.ref 317), (.int 184 0), (.int 0 0), (.ref 406)]), #[]⟩
def o227_6 (P : Params) : Obj := ⟨(.type SL.s17162191345867700912x4), none, (.cls ⟨s70, [(.ref 159)], [(.ref 227), (.ref 159), (.type SL.s2742458400755230247x6)], 226, s70, true, [], [(.ref 466)], false, none, false⟩), #[(some (.ref 190)), none, (some (.str s70 421)), (some (.str s70 429)), (some (.builtin SL.s11443829558043349243x14)), (some (.bool true))]⟩
def o401_6 (P : Params) : Obj := ⟨(.type SL.s2766695959194262286x5), none, (.seq #[(.ref 227)] 0), #[]⟩
def o402_6 (P : Params) : Obj := ⟨(.type SL.s11030030927630378310x26), none, (.fields #[(.builtin SL.s10062305145149207511x16), (.type SL.s17162191345867700912x4)]), #[]⟩
def o403_6 (P : Params) : Obj := ⟨(.type SL.s14018661285674007319x4), none, (.dict #[⟨(kh P s30), (.str s30 677), (.str s35 343)⟩, ⟨(kh P s31), (.str s31 679), (.str s110 678)⟩, ⟨(kh P s32), (.str s32 681), (.int 184 680)⟩, ⟨(kh P s78), (.str s78 688), (.ref 414)⟩, ⟨(kh P s79), (.str s79 695), (.ref 421)⟩, ⟨(kh P s51), (.str s51 702), (.ref 428)⟩, ⟨(kh P s80), (.str s80 711), (.ref 435)⟩, ⟨(kh P s81), (.str s81 720), (.ref 442)⟩, ⟨(kh P s82), (.str s82 728), (.ref 449)⟩, ⟨(kh P s83), (.str s83 736), (.ref 456)⟩, ⟨(kh P s84), (.str s84 744), (.ref 463)⟩, ⟨(kh P s33), (.str s33 745), (.ref 464)⟩] 12), #[]⟩
def o404_6 (P : Params) : Obj := ⟨(.type SL.s2766695959194262286x5), none, (.seq #[] 0), #[]⟩
def o405_6 (P : Params) : Obj := ⟨.none, none, (.fields #[(.int 186 0), (.int 4 0), (.ref 413), (.int 189 0), (.int 4 0), (.ref 420), (.int 192 0), (.int 4 0), (.ref 427), (.int 195 0), (.int 4 0), (.ref 434), (.int 202 0), (.int 4 0), (.ref 441), (.int 207 0), (.int 4 0), (.ref 448), (.int 210 0), (.int 4 0), (.ref 455), (.int 213 0), (.int 4 0), (.ref 462)]), #[]⟩
def o406_6 (P : Params) : Obj := ⟨(.type SL.s5856160107412720595x4), none, (.fields #[(.str s110 672), (.str s110 673), (.str s1 674), (.int 184 0), (.int 0 0), (.int 0 0), (.int 0 0), (.int 0 0), (.ref 404), (.bool false), (.int 181 0), (.ref 405), .none, .none, .none, .none, (.int 675 0), (.int 184 0), (.str s1 676)]), #[]⟩
def o407_6 (P : Params) : Obj := ⟨(.type SL.s658472552662922059x5), none, .plain, #[(some (.ref 406)), (some (.ref 3)), (some (.ref 403)), none, (some (.str s35 343)), none, (some (.ref 0))]⟩
def o408_6 (P : Params) : Obj := ⟨(.type SL.s2766695959194262286x5), none, (.seq #[] 0), #[]⟩
def o409_6 (P : Params) : Obj := ⟨.none, none, (.fields #[]), #[]⟩
def o410_6 (P : Params) : Obj := ⟨(.type SL.s2766695959194262286x5), none, (.seq #[(.str s67 685)] 0), #[]⟩
def o411_6 (P : Params) : Obj := ⟨(.type SL.s2766695959194262286x5), none, (.seq #[] 0), #[]⟩
def o412_6 (P : Params) : Obj := ⟨.none, none, (.func ⟨s78, s111, (L2.defArgs (L2.inClass (topT 30) 0)), (.stmts (L2.defBody (L2.inClass (topT 30) 0))), (L2.defScope (L2.inClass (topT 30) 0)), 0, [], .none, .none, .none, .none, none, .none, .none, 0⟩), #[]⟩
def o413_6 (P : Params) : Obj := ⟨(.type SL.s5856160107412720595x4), none, (.fields #[(.str s78 682), (.str s111 683), (.str s1 684), (.int 186 0), (.int 1 0), (.int 0 0), (.int 0 0), (.int 3 0), (.ref 408), (.bool true), (.int 181 0), (.ref 409), .none, (.ref 410), (.ref 411), (.ref 412), (.int 686 0), (.int 186 0), (.str s1 687)]), #[]⟩
def o414_6 (P : Params) : Obj := ⟨(.type SL.s7174869446012820540x8), none, (.func ⟨s78, s111, (L2.defArgs (L2.inClass (topT 30) 0)), (.stmts (L2.defBody (L2.inClass (topT 30) 0))), (L2.defScope (L2.inClass (topT 30) 0)), 3, [], .none, .none, .none, (.str s35 343), none, (.ref 413), .none, 0⟩), #[]⟩
def o415_6 (P : Params) : Obj := ⟨(.type SL.s2766695959194262286x5), none, (.seq #[] 0), #[]⟩
def o416_6 (P : Params) : Obj := ⟨.none, none, (.fields #[]), #[]⟩
def o417_6 (P : Params) : Obj := ⟨(.type SL.s2766695959194262286x5), none, (.seq #[(.str s67 692)] 0), #[]⟩
def o418_6 (P : Params) : Obj := ⟨(.type SL.s2766695959194262286x5), none, (.seq #[] 0), #[]⟩
def o419_6 (P : Params) : Obj := ⟨.none, none, (.func ⟨s79, s112, (L2.defArgs (L2.inClass (topT 30) 1)), (.stmts (L2.defBody (L2.inClass (topT 30) 1))), (L2.defScope (L2.inClass (topT 30) 1)), 0, [], .none, .none, .none, .none, none, .none, .none, 0⟩), #[]⟩
def o420_6 (P : Params) : Obj := ⟨(.type SL.s5856160107412720595x4), none, (.fields #[(.str s79 689), (.str s112 690), (.str s1 691), (.int 189 0), (.int 1 0), (.int 0 0), (.int 0 0), (.int 3 0), (.ref 415), (.bool true), (.int 181 0), (.ref 416), .none, (.ref 417), (.ref 418), (.ref 419), (.int 693 0), (.int 189 0), (.str s1 694)]), #[]⟩
def o421_6 (P : Params) : Obj := ⟨(.type SL.s7174869446012820540x8), none, (.func ⟨s79, s112, (L2.defArgs (L2.inClass (topT 30) 1)), (.stmts (L2.defBody (L2.inClass (topT 30) 1))), (L2.defScope (L2.inClass (topT 30) 1)), 3, [], .none, .none, .none, (.str s35 343), none, (.ref 420), .none, 0⟩), #[]⟩
def o422_6 (P : Params) : Obj := ⟨(.type SL.s2766695959194262286x5), none, (.seq #[] 0), #[]⟩
def o423_6 (P : Params) : Obj := ⟨.none, none, (.fields #[]), #[]⟩
def o424_6 (P : Params) : Obj := ⟨(.type SL.s2766695959194262286x5), none, (.seq #[(.str s67 699)] 0), #[]⟩
def o425_6 (P : Params) : Obj := ⟨(.type SL.s2766695959194262286x5), none, (.seq #[] 0), #[]⟩
def o426_6 (P : Params) : Obj := ⟨.none, none, (.func ⟨s51, s113, (L2.defArgs (L2.inClass (topT 30) 2)), (.stmts (L2.defBody (L2.inClass (topT 30) 2))), (L2.defScope (L2.inClass (topT 30) 2)), 0, [], .none, .none, .none, .none, none, .none, .none, 0⟩), #[]⟩
def o427_6 (P : Params) : Obj := ⟨(.type SL.s5856160107412720595x4), none, (.fields #[(.str s51 696), (.str s113 697), (.str s1 698), (.int 192 0), (.int 1 0), (.int 0 0), (.int 0 0), (.int 3 0), (.ref 422), (.bool true), (.int 181 0), (.ref 423), .none, (.ref 424), (.ref 425), (.ref 426), (.int 700 0), (.int 192 0), (.str s1 701)]), #[]⟩
def o428_6 (P : Params) : Obj := ⟨(.type SL.s7174869446012820540x8), none, (.func ⟨s51, s113, (L2.defArgs (L2.inClass (topT 30) 2)), (.stmts (L2.defBody (L2.inClass (topT 30) 2))), (L2.defScope (L2.inClass (topT 30) 2)), 3, [], .none, .none, .none, (.str s35 343), none, (.ref 427), .none, 0⟩), #[]⟩
def o429_6 (P : Params) : Obj := ⟨(.type SL.s2766695959194262286x5), none, (.seq #[] 0), #[]⟩
def o430_6 (P : Params) : Obj := ⟨.none, none, (.fields #[]), #[]⟩
def o431_6 (P : Params) : Obj := ⟨(.type SL.s2766695959194262286x5), none, (.seq #[(.str s67 706), (.str s28 707), (.str s29 708)] 0), #[]⟩
def o432_6 (P : Params) : Obj := ⟨(.type SL.s2766695959194262286x5), none, (.seq #[] 0), #[]⟩
def o433_6 (P : Params) : Obj := ⟨.none, none, (.func ⟨s80, s114, (L2.defArgs (L2.inClass (topT 30) 3)), (.stmts (L2.defBody (L2.inClass (topT 30) 3))), (L2.defScope (L2.inClass (topT 30) 3)), 0, [], .none, .none, .none, .none, none, .none, .none, 0⟩), #[]⟩
def o434_6 (P : Params) : Obj := ⟨(.type SL.s5856160107412720595x4), none, (.fields #[(.str s80 703), (.str s114 704), (.str s1 705), (.int 195 0), (.int 3 0), (.int 0 0), (.int 0 0), (.int 3 0), (.ref 429), (.bool true), (.int 181 0), (.ref 430), .none, (.ref 431), (.ref 432), (.ref 433), (.int 709 0), (.int 195 0), (.str s1 710)]), #[]⟩
def o435_6 (P : Params) : Obj := ⟨(.type SL.s7174869446012820540x8), none, (.func ⟨s80, s114, (L2.defArgs (L2.inClass (topT 30) 3)), (.stmts (L2.defBody (L2.inClass (topT 30) 3))), (L2.defScope (L2.inClass (topT 30) 3)), 3, [], .none, .none, .none, (.str s35 343), none, (.ref 434), .none, 0⟩), #[]⟩
def o436_6 (P : Params) : Obj := ⟨(.type SL.s2766695959194262286x5), none, (.seq #[] 0), #[]⟩
def o437_6 (P : Params) : Obj := ⟨.none, none, (.fields #[]), #[]⟩
def o438_6 (P : Params) : Obj := ⟨(.type SL.s2766695959194262286x5), none, (.seq #[(.str s67 715), (.str s28 716), (.str s29 717)] 0), #[]⟩
def o439_6 (P : Params) : Obj := ⟨(.type SL.s2766695959194262286x5), none, (.seq #[] 0), #[]⟩
def o440_6 (P : Params) : Obj := ⟨.none, none, (.func ⟨s81, s115, (L2.defArgs (L2.inClass (topT 30) 4)), (.stmts (L2.defBody (L2.inClass (topT 30) 4))), (L2.defScope (L2.inClass (topT 30) 4)), 0, [], .none, .none, .none, .none, none, .none, .none, 0⟩), #[]⟩
def o441_6 (P : Params) : Obj := ⟨(.type SL.s5856160107412720595x4), none, (.fields #[(.str s81 712), (.str s115 713), (.str s1 714), (.int 202 0), (.int 3 0), (.int 0 0), (.int 0 0), (.int 3 0), (.ref 436), (.bool true), (.int 181 0), (.ref 437), .none, (.ref 438), (.ref 439), (.ref 440), (.int 718 0), (.int 202 0), (.str s1 719)]), #[]⟩
def o442_6 (P : Params) : Obj := ⟨(.type SL.s7174869446012820540x8), none, (.func ⟨s81, s115, (L2.defArgs (L2.inClass (topT 30) 4)), (.stmts (L2.defBody (L2.inClass (topT 30) 4))), (L2.defScope (L2.inClass (topT 30) 4)), 3, [], .none, .none, .none, (.str s35 343), none, (.ref 441), .none, 0⟩), #[]⟩
def o443_6 (P : Params) : Obj := ⟨(.type SL.s2766695959194262286x5), none, (.seq #[] 0), #[]⟩
def o444_6 (P : Params) : Obj := ⟨.none, none, (.fields #[]), #[]⟩
def o445_6 (P : Params) : Obj := ⟨(.type SL.s2766695959194262286x5), none, (.seq #[(.str s67 724), (.str s49 725)] 0), #[]⟩
def o446_6 (P : Params) : Obj := ⟨(.type SL.s2766695959194262286x5), none, (.seq #[] 0), #[]⟩
def o447_6 (P : Params) : Obj := ⟨.none, none, (.func ⟨s82, s116, (L2.defArgs (L2.inClass (topT 30) 5)), (.stmts (L2.defBody (L2.inClass (topT 30) 5))), (L2.defScope (L2.inClass (topT 30) 5)), 0, [], .none, .none, .none, .none, none, .none, .none, 0⟩), #[]⟩
def o448_6 (P : Params) : Obj := ⟨(.type SL.s5856160107412720595x4), none, (.fields #[(.str s82 721), (.str s116 722), (.str s1 723), (.int 207 0), (.int 2 0), (.int 0 0), (.int 0 0), (.int 3 0), (.ref 443), (.bool true), (.int 181 0), (.ref 444), .none, (.ref 445), (.ref 446), (.ref 447), (.int 726 0), (.int 207 0), (.str s1 727)]), #[]⟩
def o449_6 (P : Params) : Obj := ⟨(.type SL.s7174869446012820540x8), none, (.func ⟨s82, s116, (L2.defArgs (L2.inClass (topT 30) 5)), (.stmts (L2.defBody (L2.inClass (topT 30) 5))), (L2.defScope (L2.inClass (topT 30) 5)), 3, [], .none, .none, .none, (.str s35 343), none, (.ref 448), .none, 0⟩), #[]⟩
def o450_6 (P : Params) : Obj := ⟨(.type SL.s2766695959194262286x5), none, (.seq #[] 0), #[]⟩
def o451_6 (P : Params) : Obj := ⟨.none, none, (.fields #[]), #[]⟩
def o452_6 (P : Params) : Obj := ⟨(.type SL.s2766695959194262286x5), none, (.seq #[(.str s67 732), (.str s28 733)] 0), #[]⟩
def o453_6 (P : Params) : Obj := ⟨(.type SL.s2766695959194262286x5), none, (.seq #[] 0), #[]⟩
def o454_6 (P : Params) : Obj := ⟨.none, none, (.func ⟨s83, s117, (L2.defArgs (L2.inClass (topT 30) 6)), (.stmts (L2.defBody (L2.inClass (topT 30) 6))), (L2.defScope (L2.inClass (topT 30) 6)), 0, [], .none, .none, .none, .none, none, .none, .none, 0⟩), #[]⟩
def o455_6 (P : Params) : Obj := ⟨(.type SL.s5856160107412720595x4), none, (.fields #[(.str s83 729), (.str s117 730), (.str s1 731), (.int 210 0), (.int 2 0), (.int 0 0), (.int 0 0), (.int 3 0), (.ref 450), (.bool true), (.int 181 0), (.ref 451), .none, (.ref 452), (.ref 453), (.ref 454), (.int 734 0), (.int 210 0), (.str s1 735)]), #[]⟩
def o456_6 (P : Params) : Obj := ⟨(.type SL.s7174869446012820540x8), none, (.func ⟨s83, s117, (L2.defArgs (L2.inClass (topT 30) 6)), (.stmts (L2.defBody (L2.inClass (topT 30) 6))), (L2.defScope (L2.inClass (topT 30) 6)), 3, [], .none, .none, .none, (.str s35 343), none, (.ref 455), .none, 0⟩), #[]⟩
def o457_6 (P : Params) : Obj := ⟨(.type SL.s2766695959194262286x5), none, (.seq #[] 0), #[]⟩
def o458_6 (P : Params) : Obj := ⟨.none, none, (.fields #[]), #[]⟩
def o459_6 (P : Params) : Obj := ⟨(.type SL.s2766695959194262286x5), none, (.seq #[(.str s67 740), (.str s61 741)] 0), #[]⟩
def o460_6 (P : Params) : Obj := ⟨(.type SL.s2766695959194262286x5), none, (.seq #[] 0), #[]⟩
def o461_6 (P : Params) : Obj := ⟨.none, none, (.func ⟨s84, s118, (L2.defArgs (L2.inClass (topT 30) 7)), (.stmts (L2.defBody (L2.inClass (topT 30) 7))), (L2.defScope (L2.inClass (topT 30) 7)), 0, [], .none, .none, .none, .none, none, .none, .none, 0⟩), #[]⟩
def o462_6 (P : Params) : Obj := ⟨(.type SL.s5856160107412720595x4), none, (.fields #[(.str s84 737), (.str s118 738), (.str s1 739), (.int 213 0), (.int 2 0), (.int 0 0), (.int 0 0), (.int 3 0), (.ref 457), (.bool true), (.int 181 0), (.ref 458), .none, (.ref 459), (.ref 460), (.ref 461), (.int 742 0), (.int 213 0), (.str s1 743)]), #[]⟩
def o463_6 (P : Params) : Obj := ⟨(.type SL.s7174869446012820540x8), none, (.func ⟨s84, s118, (L2.defArgs (L2.inClass (topT 30) 7)), (.stmts (L2.defBody (L2.inClass (topT 30) 7))), (L2.defScope (L2.inClass (topT 30) 7)), 3, [], .none, .none, .none, (.str s35 343), none, (.ref 462), .none, 0⟩), #[]⟩
def o464_6 (P : Params) : Obj := ⟨(.type SL.s2766695959194262286x5), none, (.seq #[] 0), #[]⟩
def o465_6 (P : Params) : Obj := ⟨(.type SL.s14018661285674007319x4), none, (.dict #[⟨(kh P s30), (.str s30 677), (.str s35 343)⟩, ⟨(kh P s32), (.str s32 681), (.int 184 680)⟩, ⟨(kh P s78), (.str s78 688), (.ref 414)⟩, ⟨(kh P s79), (.str s79 695), (.ref 421)⟩, ⟨(kh P s51), (.str s51 702), (.ref 428)⟩, ⟨(kh P s80), (.str s80 711), (.ref 435)⟩, ⟨(kh P s81), (.str s81 720), (.ref 442)⟩, ⟨(kh P s82), (.str s82 728), (.ref 449)⟩, ⟨(kh P s83), (.str s83 736), (.ref 456)⟩, ⟨(kh P s84), (.str s84 744), (.ref 463)⟩, ⟨(kh P s33), (.str s33 745), (.ref 464)⟩, ⟨(kh P s5), (.str s5 746), .none⟩] 2), #[]⟩
def o466_6 (P : Params) : Obj := ⟨(.type SL.s17162191345867700912x4), none, (.cls ⟨s110, [(.ref 227)], [(.ref 466), (.ref 227), (.ref 159), (.type SL.s2742458400755230247x6)], 465, s110, true, [], [], false, none, false⟩), #[(some (.ref 401)), none, (some (.str s110 670)), (some (.str s110 678)), (some (.builtin SL.s11443829558043349243x14)), (some (.bool true))]⟩
def o467_6 (P : Params) : Obj := ⟨(.type SL.s4290257624100764138x5), none, (.fields #[(.ref 466), (.ref 466), (.ref 466)]), #[]⟩
def o468_6 (P : Params) : Obj := ⟨(.type SL.s11030030927630378310x26), none, (.fields #[(.builtin SL.s4860613602091757760x24), (.ref 466)]), #[]⟩
def o3_7 (P : Params) : Obj := ⟨(.type SL.s14018661285674007319x4), none, (.dict #[⟨(kh P s3), (.str s3 165), (.str s119 828)⟩, ⟨(kh P s5), (.str s5 166), .none⟩, ⟨(kh P s6), (.str s6 167), .none⟩, ⟨(kh P s7), (.str s7 168), (.builtin SL.s7097527257260152453x26)⟩, ⟨(kh P s8), (.str s8 169), .none⟩, ⟨(kh P s9), (.str s9 170), (.ref 6)⟩, ⟨(kh P s10), (.str s10 171), (.ref 4)⟩, ⟨(kh P s11), (.str s11 173), (.str s1 172)⟩, ⟨(kh P s12), (.str s12 174), .none⟩, ⟨(kh P s13), (.str s13 193), (.ref 21)⟩, ⟨(kh P s14), (.str s14 201), (.ref 26)⟩, ⟨(kh P s15), (.str s15 207), (.ref 31)⟩, ⟨(kh P s16), (.str s16 219), (.ref 38)⟩, ⟨(kh P s17), (.str s17 225), (.ref 43)⟩, ⟨(kh P s18), (.str s18 231), (.ref 48)⟩, ⟨(kh P s19), (.str s19 237), (.ref 53)⟩, ⟨(kh P s20), (.str s20 257), (.ref 63)⟩, ⟨(kh P s21), (.str s21 273), (.ref 76)⟩, ⟨(kh P s36), (.str s36 289), (.ref 88)⟩, ⟨(kh P s37), (.str s37 305), (.ref 100)⟩, ⟨(kh P s38), (.str s38 314), (.ref 109)⟩, ⟨(kh P s39), (.str s39 325), (.ref 116)⟩, ⟨(kh P s40), (.str s40 334), (.ref 123)⟩, ⟨(kh P s41), (.str s41 342), (.ref 130)⟩, ⟨(kh P s42), (.str s42 346), (.str s43 345)⟩, ⟨(kh P s44), (.str s44 348), (.int 30 347)⟩, ⟨(kh P s45), (.str s45 350), (.int 1000000 349)⟩, ⟨(kh P s46), (.str s46 356), (.ref 135)⟩, ⟨(kh P s47), (.str s47 363), (.ref 142)⟩, ⟨(kh P s48), (.str s48 370), (.ref 149)⟩, ⟨(kh P s62), (.str s62 390), (.ref 159)⟩, ⟨(kh P s63), (.str s63 420), (.ref 187)⟩, ⟨(kh P s70), (.str s70 466), (.ref 227)⟩, ⟨(kh P s77), (.str s77 564), (.ref 309)⟩, ⟨(kh P s96), (.str s96 669), (.ref 398)⟩, ⟨(kh P s110), (.str s110 748), (.ref 466)⟩, ⟨(kh P s120), (.str s120 827), (.ref 534)⟩, ⟨(kh P s121), (.str s121 838), (.ref 543)⟩, ⟨(kh P s122), (.str s122 847), (.ref 550)⟩, ⟨(kh P s123), (.str s123 857), (.ref 557)⟩, ⟨(kh P s124), (.str s124 866), (.ref 564)⟩, ⟨(kh P s125), (.str s125 875), (.ref 571)⟩, ⟨(kh P s126), (.str s126 882), (.ref 578)⟩, ⟨(kh P s127), (.str s127 891), (.ref 585)⟩, ⟨(kh P s128), (.str s128 898), (.ref 592)⟩, ⟨(kh P s129), (.str s129 908), (.ref 599)⟩, ⟨(kh P s130), (.str s130 914), (.ref 604)⟩] 47), #[]⟩
def o12_7 (P : Params) : Obj := ⟨.none, none, (.fields #[(.int 1 0), (.int 0 0), (.ref 20), (.int 5 0), (.int 0 0), (.ref 25), (.int 7 0), (.int 0 0), (.ref 30), (.int 11 0), (.int 0 0), (.ref 37), (.int 16 0), (.int 0 0), (.ref 42), (.int 18 0), (.int 0 0), (.ref 47), (.int 20 0), (.int 0 0), (.ref 52), (.int 23 0), (.int 0 0), (.ref 59), (.int 25 0), (.int 0 0), (.ref 72), (.int 27 0), (.int 0 0), (.ref 84), (.int 29 0), (.int 0 0), (.ref 96), (.int 32 0), (.int 0 0), (.ref 108), (.int 34 0), (.int 0 0), (.ref 115), (.int 42 0), (.int 0 0), (.ref 122), (.int 51 0), (.int 0 0), (.ref 129), (.int 64 0), (.int 0 0), (.ref 134), (.int 73 0), (.int 0 0), (.ref 141), (.int 77 0), (.int 0 0), (.ref 148), (.int 80 0), (.int 0 0), (.ref 155), (.int 82 0), (.int 0 0), (.ref 169), (.int 89 0), (.int 0 0), (.ref 195), (.int 102 0), (.int 0 0), (.ref 235), (.int 145 0), (.int 0 0), (.ref 317), (.int 184 0), (.int 0 0), (.ref 406), (.int 218 0), (.int 0 0), (.ref 474), (.int 249 0), (.int 0 0), (.ref 542), (.int 258 0), (.int 0 0), (.ref 549), (.int 265 0), (.int 0 0), (.ref 556), (.int 272 0), (.int 0 0), (.ref 563), (.int 282 0), (.int 0 0), (.ref 570), (.int 292 0), (.int 0 0), (.ref 577), (.int 294 0), (.int 0 0), (.ref 584), (.int 297 0), (.int 0 0), (.ref 591), (.int 305 0), (.int 0 0), (.ref 598), (.int 318 0), (.int 0 0), (.ref 603)]), #[]⟩
def o227_7 (P : Params) : Obj := ⟨(.type SL.s17162191345867700912x4), none, (.cls ⟨s70, [(.ref 159)], [(.ref 227), (.ref 159), (.type SL.s2742458400755230247x6)], 226, s70, true, [], [(.ref 466), (.ref 534)], false, none, false⟩), #[(some (.ref 190)), none, (some (.str s70 421)), (some (.str s70 429)), (some (.builtin SL.s11443829558043349243x14)), (some (.bool true))]⟩
def o469_7 (P : Params) : Obj := ⟨(.type SL.s2766695959194262286x5), none, (.seq #[(.ref 227)] 0), #[]⟩
def o470_7 (P : Params) : Obj := ⟨(.type SL.s11030030927630378310x26), none, (.fields #[(.builtin SL.s10062305145149207511x16), (.type SL.s17162191345867700912x4)]), #[]⟩
def o471_7 (P : Params) : Obj := ⟨(.type SL.s14018661285674007319x4), none, (.dict #[⟨(kh P s30), (.str s30 756), (.str s35 343)⟩, ⟨(kh P s31), (.str s31 758), (.str s120 757)⟩, ⟨(kh P s32), (.str s32 760), (.int 218 759)⟩, ⟨(kh P s78), (.str s78 767), (.ref 482)⟩, ⟨(kh P s79), (.str s79 774), (.ref 489)⟩, ⟨(kh P s51), (.str s51 781), (.ref 496)⟩, ⟨(kh P s80), (.str s80 790), (.ref 503)⟩, ⟨(kh P s81), (.str s81 799), (.ref 510)⟩, ⟨(kh P s82), (.str s82 807), (.ref 517)⟩, ⟨(kh P s83), (.str s83 815), (.ref 524)⟩, ⟨(kh P s84), (.str s84 823), (.ref 531)⟩, ⟨(kh P s33), (.str s33 824), (.ref 532)⟩] 12), #[]⟩
def o472_7 (P : Params) : Obj := ⟨(.type SL.s2766695959194262286x5), none, (.seq #[] 0), #[]⟩
def o473_7 (P : Params) : Obj := ⟨.none, none, (.fields #[(.int 220 0), (.int 4 0), (.ref 481), (.int 223 0), (.int 4 0), (.ref 488), (.int 226 0), (.int 4 0), (.ref 495), (.int 229 0), (.int 4 0), (.ref 502), (.int 232 0), (.int 4 0), (.ref 509), (.int 235 0), (.int 4 0), (.ref 516), (.int 238 0), (.int 4 0), (.ref 523), (.int 241 0), (.int 4 0), (.ref 530)]), #[]⟩
def o474_7 (P : Params) : Obj := ⟨(.type SL.s5856160107412720595x4), none, (.fields #[(.str s120 751), (.str s120 752), (.str s1 753), (.int 218 0), (.int 0 0), (.int 0 0), (.int 0 0), (.int 0 0), (.ref 472), (.bool false), (.int 181 0), (.ref 473), .none, .none, .none, .none, (.int 754 0), (.int 218 0), (.str s1 755)]), #[]⟩
def o475_7 (P : Params) : Obj := ⟨(.type SL.s658472552662922059x5), none, .plain, #[(some (.ref 474)), (some (.ref 3)), (some (.ref 471)), none, (some (.str s35 343)), none, (some (.ref 0))]⟩
def o476_7 (P : Params) : Obj := ⟨(.type SL.s2766695959194262286x5), none, (.seq #[] 0), #[]⟩
def o477_7 (P : Params) : Obj := ⟨.none, none, (.fields #[]), #[]⟩
def o478_7 (P : Params) : Obj := ⟨(.type SL.s2766695959194262286x5), none, (.seq #[(.str s67 764)] 0), #[]⟩
def o479_7 (P : Params) : Obj := ⟨(.type SL.s2766695959194262286x5), none, (.seq #[] 0), #[]⟩
def o480_7 (P : Params) : Obj := ⟨.none, none, (.func ⟨s78, s131, (L2.defArgs (L2.inClass (topT 31) 0)), (.stmts (L2.defBody (L2.inClass (topT 31) 0))), (L2.defScope (L2.inClass (topT 31) 0)), 0, [], .none, .none, .none, .none, none, .none, .none, 0⟩), #[]⟩
def o481_7 (P : Params) : Obj := ⟨(.type SL.s5856160107412720595x4), none, (.fields #[(.str s78 761), (.str s131 762), (.str s1 763), (.int 220 0), (.int 1 0), (.int 0 0), (.int 0 0), (.int 3 0), (.ref 476), (.bool true), (.int 181 0), (.ref 477), .none, (.ref 478), (.ref 479), (.ref 480), (.int 765 0), (.int 220 0), (.str s1 766)]), #[]⟩
def o482_7 (P : Params) : Obj := ⟨(.type SL.s7174869446012820540x8), none, (.func ⟨s78, s131, (L2.defArgs (L2.inClass (topT 31) 0)), (.stmts (L2.defBody (L2.inClass (topT 31) 0))), (L2.defScope (L2.inClass (topT 31) 0)), 3, [], .none, .none, .none, (.str s35 343), none, (.ref 481), .none, 0⟩), #[]⟩
def o483_7 (P : Params) : Obj := ⟨(.type SL.s2766695959194262286x5), none, (.seq #[] 0), #[]⟩
def o484_7 (P : Params) : Obj := ⟨.none, none, (.fields #[]), #[]⟩
def o485_7 (P : Params) : Obj := ⟨(.type SL.s2766695959194262286x5), none, (.seq #[(.str s67 771)] 0), #[]⟩
def o486_7 (P : Params) : Obj := ⟨(.type SL.s2766695959194262286x5), none, (.seq #[] 0), #[]⟩
def o487_7 (P : Params) : Obj := ⟨.none, none, (.func ⟨s79, s132, (L2.defArgs (L2.inClass (topT 31) 1)), (.stmts (L2.defBody (L2.inClass (topT 31) 1))), (L2.defScope (L2.inClass (topT 31) 1)), 0, [], .none, .none, .none, .none, none, .none, .none, 0⟩), #[]⟩
def o488_7 (P : Params) : Obj := ⟨(.type SL.s5856160107412720595x4), none, (.fields #[(.str s79 768), (.str s132 769), (.str s1 770), (.int 223 0), (.int 1 0), (.int 0 0), (.int 0 0), (.int 3 0), (.ref 483), (.bool true), (.int 181 0), (.ref 484), .none, (.ref 485), (.ref 486), (.ref 487), (.int 772 0), (.int 223 0), (.str s1 773)]), #[]⟩
def o489_7 (P : Params) : Obj := ⟨(.type SL.s7174869446012820540x8), none, (.func ⟨s79, s132, (L2.defArgs (L2.inClass (topT 31) 1)), (.stmts (L2.defBody (L2.inClass (topT 31) 1))), (L2.defScope (L2.inClass (topT 31) 1)), 3, [], .none, .none, .none, (.str s35 343), none, (.ref 488), .none, 0⟩), #[]⟩
def o490_7 (P : Params) : Obj := ⟨(.type SL.s2766695959194262286x5), none, (.seq #[] 0), #[]⟩
def o491_7 (P : Params) : Obj := ⟨.none, none, (.fields #[]), #[]⟩
def o492_7 (P : Params) : Obj := ⟨(.type SL.s2766695959194262286x5), none, (.seq #[(.str s67 778)] 0), #[]⟩
def o493_7 (P : Params) : Obj := ⟨(.type SL.s2766695959194262286x5), none, (.seq #[] 0), #[]⟩
def o494_7 (P : Params) : Obj := ⟨.none, none, (.func ⟨s51, s133, (L2.defArgs (L2.inClass (topT 31) 2)), (.stmts (L2.defBody (L2.inClass (topT 31) 2))), (L2.defScope (L2.inClass (topT 31) 2)), 0, [], .none, .none, .none, .none, none, .none, .none, 0⟩), #[]⟩
def o495_7 (P : Params) : Obj := ⟨(.type SL.s5856160107412720595x4), none, (.fields #[(.str s51 775), (.str s133 776), (.str s1 777), (.int 226 0), (.int 1 0), (.int 0 0), (.int 0 0), (.int 3 0), (.ref 490), (.bool true), (.int 181 0), (.ref 491), .none, (.ref 492), (.ref 493), (.ref 494), (.int 779 0), (.int 226 0), (.str s1 780)]), #[]⟩
def o496_7 (P : Params) : Obj := ⟨(.type SL.s7174869446012820540x8), none, (.func ⟨s51, s133, (L2.defArgs (L2.inClass (topT 31) 2)), (.stmts (L2.defBody (L2.inClass (topT 31) 2))), (L2.defScope (L2.inClass (topT 31) 2)), 3, [], .none, .none, .none, (.str s35 343), none, (.ref 495), .none, 0⟩), #[]⟩
def o497_7 (P : Params) : Obj := ⟨(.type SL.s2766695959194262286x5), none, (.seq #[] 0), #[]⟩
def o498_7 (P : Params) : Obj := ⟨.none, none, (.fields #[]), #[]⟩
def o499_7 (P : Params) : Obj := ⟨(.type SL.s2766695959194262286x5), none, (.seq #[(.str s67 785), (.str s28 786), (.str s29 787)] 0), #[]⟩
def o500_7 (P : Params) : Obj := ⟨(.type SL.s2766695959194262286x5), none, (.seq #[] 0), #[]⟩
def o501_7 (P : Params) : Obj := ⟨.none, none, (.func ⟨s80, s134, (L2.defArgs (L2.inClass (topT 31) 3)), (.stmts (L2.defBody (L2.inClass (topT 31) 3))), (L2.defScope (L2.inClass (topT 31) 3)), 0, [], .none, .none, .none, .none, none, .none, .none, 0⟩), #[]⟩
def o502_7 (P : Params) : Obj := ⟨(.type SL.s5856160107412720595x4), none, (.fields #[(.str s80 782), (.str s134 783), (.str s1 784), (.int 229 0), (.int 3 0), (.int 0 0), (.int 0 0), (.int 3 0), (.ref 497), (.bool true), (.int 181 0), (.ref 498), .none, (.ref 499), (.ref 500), (.ref 501), (.int 788 0), (.int 229 0), (.str s1 789)]), #[]⟩
def o503_7 (P : Params) : Obj := ⟨(.type SL.s7174869446012820540x8), none, (.func ⟨s80, s134, (L2.defArgs (L2.inClass (topT 31) 3)), (.stmts (L2.defBody (L2.inClass (topT 31) 3))), (L2.defScope (L2.inClass (topT 31) 3)), 3, [], .none, .none, .none, (.str s35 343), none, (.ref 502), .none, 0⟩), #[]⟩
def o504_7 (P : Params) : Obj := ⟨(.type SL.s2766695959194262286x5), none, (.seq #[] 0), #[]⟩
def o505_7 (P : Params) : Obj := ⟨.none, none, (.fields #[]), #[]⟩
def o506_7 (P : Params) : Obj := ⟨(.type SL.s2766695959194262286x5), none, (.seq #[(.str s67 794), (.str s28 795), (.str s29 796)] 0), #[]⟩
def o507_7 (P : Params) : Obj := ⟨(.type SL.s2766695959194262286x5), none, (.seq #[] 0), #[]⟩
def o508_7 (P : Params) : Obj := ⟨.none, none, (.func ⟨s81, s135, (L2.defArgs (L2.inClass (topT 31) 4)), (.stmts (L2.defBody (L2.inClass (topT 31) 4))), (L2.defScope (L2.inClass (topT 31) 4)), 0, [], .none, .none, .none, .none, none, .none, .none, 0⟩), #[]⟩
def o509_7 (P : Params) : Obj := ⟨(.type SL.s5856160107412720595x4), none, (.fields #[(.str s81 791), (.str s135 792), (.str s1 793), (.int 232 0), (.int 3 0), (.int 0 0), (.int 0 0), (.int 3 0), (.ref 504), (.bool true), (.int 181 0), (.ref 505), .none, (.ref 506), (.ref 507), (.ref 508), (.int 797 0), (.int 232 0), (.str s1 798)]), #[]⟩
def o510_7 (P : Params) : Obj := ⟨(.type SL.s7174869446012820540x8), none, (.func ⟨s81, s135, (L2.defArgs (L2.inClass (topT 31) 4)), (.stmts (L2.defBody (L2.inClass (topT 31) 4))), (L2.defScope (L2.inClass (topT 31) 4)), 3, [], .none, .none, .none, (.str s35 343), none, (.ref 509), .none, 0⟩), #[]⟩
def o511_7 (P : Params) : Obj := ⟨(.type SL.s2766695959194262286x5), none, (.seq #[] 0), #[]⟩
def o512_7 (P : Params) : Obj := ⟨.none, none, (.fields #[]), #[]⟩
def o513_7 (P : Params) : Obj := ⟨(.type SL.s2766695959194262286x5), none, (.seq #[(.str s67 803), (.str s49 804)] 0), #[]⟩
def o514_7 (P : Params) : Obj := ⟨(.type SL.s2766695959194262286x5), none, (.seq #[] 0), #[]⟩
def o515_7 (P : Params) : Obj := ⟨.none, none, (.func ⟨s82, s136, (L2.defArgs (L2.inClass (topT 31) 5)), (.stmts (L2.defBody (L2.inClass (topT 31) 5))), (L2.defScope (L2.inClass (topT 31) 5)), 0, [], .none, .none, .none, .none, none, .none, .none, 0⟩), #[]⟩
def o516_7 (P : Params) : Obj := ⟨(.type SL.s5856160107412720595x4), none, (.fields #[(.str s82 800), (.str s136 801), (.str s1 802), (.int 235 0), (.int 2 0), (.int 0 0), (.int 0 0), (.int 3 0), (.ref 511), (.bool true), (.int 181 0), (.ref 512), .none, (.ref 513), (.ref 514), (.ref 515), (.int 805 0), (.int 235 0), (.str s1 806)]), #[]⟩
def o517_7 (P : Params) : Obj := ⟨(.type SL.s7174869446012820540x8), none, (.func ⟨s82, s136, (L2.defArgs (L2.inClass (topT 31) 5)), (.stmts (L2.defBody (L2.inClass (topT 31) 5))), (L2.defScope (L2.inClass (topT 31) 5)), 3, [], .none, .none, .none, (.str s35 343), none, (.ref 516), .none, 0⟩), #[]⟩
def o518_7 (P : Params) : Obj := ⟨(.type SL.s2766695959194262286x5), none, (.seq #[] 0), #[]⟩
def o519_7 (P : Params) : Obj := ⟨.none, none, (.fields #[]), #[]⟩
def o520_7 (P : Params) : Obj := ⟨(.type SL.s2766695959194262286x5), none, (.seq #[(.str s67 811), (.str s28 812)] 0), #[]⟩
def o521_7 (P : Params) : Obj := ⟨(.type SL.s2766695959194262286x5), none, (.seq #[] 0), #[]⟩
def o522_7 (P : Params) : Obj := ⟨.none, none, (.func ⟨s83, s137, (L2.defArgs (L2.inClass (topT 31) 6)), (.stmts (L2.defBody (L2.inClass (topT 31) 6))), (L2.defScope (L2.inClass (topT 31) 6)), 0, [], .none, .none, .none, .none, none, .none, .none, 0⟩), #[]⟩
def o523_7 (P : Params) : Obj := ⟨(.type SL.s5856160107412720595x4), none, (.fields #[(.str s83 808), (.str s137 809), (.str s1 810), (.int 238 0), (.int 2 0), (.int 0 0), (.int 0 0), (.int 3 0), (.ref 518), (.bool true), (.int 181 0), (.ref 519), .none, (.ref 520), (.ref 521), (.ref 522), (.int 813 0), (.int 238 0), (.str s1 814)]), #[]⟩
def o524_7 (P : Params) : Obj := ⟨(.type SL.s7174869446012820540x8), none, (.func ⟨s83, s137, (L2.defArgs (L2.inClass (topT 31) 6)), (.stmts (L2.defBody (L2.inClass (topT 31) 6))), (L2.defScope (L2.inClass (topT 31) 6)), 3, [], .none, .none, .none, (.str s35 343), none, (.ref 523), .none, 0⟩), #[]⟩
def o525_7 (P : Params) : Obj := ⟨(.type SL.s2766695959194262286x5), none, (.seq #[] 0), #[]⟩
def o526_7 (P : Params) : Obj := ⟨.none, none, (.fields #[]), #[]⟩
def o527_7 (P : Params) : Obj := ⟨(.type SL.s2766695959194262286x5), none, (.seq #[(.str s67 819), (.str s61 820)] 0), #[]⟩
def o528_7 (P : Params) : Obj := ⟨(.type SL.s2766695959194262286x5), none, (.seq #[] 0), #[]⟩
def o529_7 (P : Params) : Obj := ⟨.none, none, (.func ⟨s84, s138, (L2.defArgs (L2.inClass (topT 31) 7)), (.stmts (L2.defBody (L2.inClass (topT 31) 7))), (L2.defScope (L2.inClass (topT 31) 7)), 0, [], .none, .none, .none, .none, none, .none, .none, 0⟩), #[]⟩
def o530_7 (P : Params) : Obj := ⟨(.type SL.s5856160107412720595x4), none, (.fields #[(.str s84 816), (.str s138 817), (.str s1 818), (.int 241 0), (.int 2 0), (.int 0 0), (.int 0 0), (.int 3 0), (.ref 525), (.bool true), (.int 181 0), (.ref 526), .none, (.ref 527), (.ref 528), (.ref 529), (.int 821 0), (.int 241 0), (.str s1 822)]), #[]⟩
def o531_7 (P : Params) : Obj := ⟨(.type SL.s7174869446012820540x8), none, (.func ⟨s84, s138, (L2.defArgs (L2.inClass (topT 31) 7)), (.stmts (L2.defBody (L2.inClass (topT 31) 7))), (L2.defScope (L2.inClass (topT 31) 7)), 3, [], .none, .none, .none, (.str s35 343), none, (.ref 530), .none, 0⟩), #[]⟩
def o532_7 (P : Params) : Obj := ⟨(.type SL.s2766695959194262286x5), none, (.seq #[] 0), #[]⟩
def o533_7 (P : Params) : Obj := ⟨(.type SL.s14018661285674007319x4), none, (.dict #[⟨(kh P s30), (.str s30 756), (.str s35 343)⟩, ⟨(kh P s32), (.str s32 760), (.int 218 759)⟩, ⟨(kh P s78), (.str s78 767), (.ref 482)⟩, ⟨(kh P s79), (.str s79 774), (.ref 489)⟩, ⟨(kh P s51), (.str s51 781), (.ref 496)⟩, ⟨(kh P s80), (.str s80 790), (.ref 503)⟩, ⟨(kh P s81), (.str s81 799), (.ref 510)⟩, ⟨(kh P s82), (.str s82 807), (.ref 517)⟩, ⟨(kh P s83), (.str s83 815), (.ref 524)⟩, ⟨(kh P s84), (.str s84 823), (.ref 531)⟩, ⟨(kh P s33), (.str s33 824), (.ref 532)⟩, ⟨(kh P s5), (.str s5 825), .none⟩] 2), #[]⟩
def o534_7 (P : Params) : Obj := ⟨(.type SL.s17162191345867700912x4), none, (.cls ⟨s120, [(.ref 227)], [(.ref 534), (.ref 227), (.ref 159), (.type SL.s2742458400755230247x6)], 533, s120, true, [], [], false, none, false⟩), #[(some (.ref 469)), none, (some (.str s120 749)), (some (.str s120 757)), (some (.builtin SL.s11443829558043349243x14)), (some (.bool true))]⟩
def o535_7 (P : Params) : Obj := ⟨(.type SL.s4290257624100764138x5), none, (.fields #[(.ref 534), (.ref 534), (.ref 534)]), #[]⟩
def o536_7 (P : Params) : Obj := ⟨(.type SL.s11030030927630378310x26), none, (.fields #[(.builtin SL.s4860613602091757760x24), (.ref 534)]), #[]⟩
def o537_7 (P : Params) : Obj := ⟨(.type SL.s2766695959194262286x5), none, (.seq #[] 0), #[]⟩
def o538_7 (P : Params) : Obj := ⟨.none, none, (.fields #[]), #[]⟩
def o539_7 (P : Params) : Obj := ⟨(.type SL.s2766695959194262286x5), none, (.seq #[(.str s139 833), (.str s140 834), (.str s141 835)] 0), #[]⟩
def o540_7 (P : Params) : Obj := ⟨(.type SL.s2766695959194262286x5), none, (.seq #[] 0), #[]⟩
def o541_7 (P : Params) : Obj := ⟨.none, none, (.func ⟨s121, s121, (L2.defArgs (topT 33)), (.stmts (L2.defBody (topT 33))), (L2.defScope (topT 33)), 0, [], .none, .none, .none, .none, none, .none, .none, 0⟩), #[]⟩
def o542_7 (P : Params) : Obj := ⟨(.type SL.s5856160107412720595x4), none, (.fields #[(.str s121 830), (.str s121 831), (.str s1 832), (.int 249 0), (.int 2 0), (.int 0 0), (.int 0 0), (.int 3 0), (.ref 537), (.bool true), (.int 181 0), (.ref 538), .none, (.ref 539), (.ref 540), (.ref 541), (.int 836 0), (.int 249 0), (.str s1 837)]), #[]⟩
def o543_7 (P : Params) : Obj := ⟨(.type SL.s7174869446012820540x8), none, (.func ⟨s121, s121, (L2.defArgs (topT 33)), (.stmts (L2.defBody (topT 33))), (L2.defScope (topT 33)), 3, [], .none, .none, .none, (.str s119 828), none, (.ref 542), .none, 0⟩), #[]⟩
def o544_7 (P : Params) : Obj := ⟨(.type SL.s2766695959194262286x5), none, (.seq #[] 0), #[]⟩
def o545_7 (P : Params) : Obj := ⟨.none, none, (.fields #[]), #[]⟩
def o546_7 (P : Params) : Obj := ⟨(.type SL.s2766695959194262286x5), none, (.seq #[(.str s142 842), (.str s143 843), (.str s144 844)] 0), #[]⟩
def o547_7 (P : Params) : Obj := ⟨(.type SL.s2766695959194262286x5), none, (.seq #[] 0), #[]⟩
def o548_7 (P : Params) : Obj := ⟨.none, none, (.func ⟨s122, s122, (L2.defArgs (topT 34)), (.stmts (L2.defBody (topT 34))), (L2.defScope (topT 34)), 0, [], .none, .none, .none, .none, none, .none, .none, 0⟩), #[]⟩
def o549_7 (P : Params) : Obj := ⟨(.type SL.s5856160107412720595x4), none, (.fields #[(.str s122 839), (.str s122 840), (.str s1 841), (.int 258 0), (.int 1 0), (.int 0 0), (.int 0 0), (.int 3 0), (.ref 544), (.bool true), (.int 181 0), (.ref 545), .none, (.ref 546), (.ref 547), (.ref 548), (.int 845 0), (.int 258 0), (.str s1 846)]), #[]⟩
def o550_7 (P : Params) : Obj := ⟨(.type SL.s7174869446012820540x8), none, (.func ⟨s122, s122, (L2.defArgs (topT 34)), (.stmts (L2.defBody (topT 34))), (L2.defScope (topT 34)), 3, [], .none, .none, .none, (.str s119 828), none, (.ref 549), .none, 0⟩), #[]⟩
def o551_7 (P : Params) : Obj := ⟨(.type SL.s2766695959194262286x5), none, (.seq #[] 0), #[]⟩
def o552_7 (P : Params) : Obj := ⟨.none, none, (.fields #[]), #[]⟩
def o553_7 (P : Params) : Obj := ⟨(.type SL.s2766695959194262286x5), none, (.seq #[(.str s145 851), (.str s146 852), (.str s147 853), (.str s148 854)] 0), #[]⟩
def o554_7 (P : Params) : Obj := ⟨(.type SL.s2766695959194262286x5), none, (.seq #[] 0), #[]⟩
def o555_7 (P : Params) : Obj := ⟨.none, none, (.func ⟨s123, s123, (L2.defArgs (topT 35)), (.stmts (L2.defBody (topT 35))), (L2.defScope (topT 35)), 0, [], .none, .none, .none, .none, none, .none, .none, 0⟩), #[]⟩
def o556_7 (P : Params) : Obj := ⟨(.type SL.s5856160107412720595x4), none, (.fields #[(.str s123 848), (.str s123 849), (.str s1 850), (.int 265 0), (.int 2 0), (.int 0 0), (.int 0 0), (.int 3 0), (.ref 551), (.bool true), (.int 181 0), (.ref 552), .none, (.ref 553), (.ref 554), (.ref 555), (.int 855 0), (.int 265 0), (.str s1 856)]), #[]⟩
def o557_7 (P : Params) : Obj := ⟨(.type SL.s7174869446012820540x8), none, (.func ⟨s123, s123, (L2.defArgs (topT 35)), (.stmts (L2.defBody (topT 35))), (L2.defScope (topT 35)), 3, [], .none, .none, .none, (.str s119 828), none, (.ref 556), .none, 0⟩), #[]⟩
def o558_7 (P : Params) : Obj := ⟨(.type SL.s2766695959194262286x5), none, (.seq #[] 0), #[]⟩
def o559_7 (P : Params) : Obj := ⟨.none, none, (.fields #[]), #[]⟩
def o560_7 (P : Params) : Obj := ⟨(.type SL.s2766695959194262286x5), none, (.seq #[(.str s149 861), (.str s150 862), (.str s151 863)] 0), #[]⟩
def o561_7 (P : Params) : Obj := ⟨(.type SL.s2766695959194262286x5), none, (.seq #[] 0), #[]⟩
def o562_7 (P : Params) : Obj := ⟨.none, none, (.func ⟨s124, s124, (L2.defArgs (topT 36)), (.stmts (L2.defBody (topT 36))), (L2.defScope (topT 36)), 0, [], .none, .none, .none, .none, none, .none, .none, 0⟩), #[]⟩
def o563_7 (P : Params) : Obj := ⟨(.type SL.s5856160107412720595x4), none, (.fields #[(.str s124 858), (.str s124 859), (.str s1 860), (.int 272 0), (.int 3 0), (.int 0 0), (.int 0 0), (.int 3 0), (.ref 558), (.bool true), (.int 181 0), (.ref 559), .none, (.ref 560), (.ref 561), (.ref 562), (.int 864 0), (.int 272 0), (.str s1 865)]), #[]⟩
def o564_7 (P : Params) : Obj := ⟨(.type SL.s7174869446012820540x8), none, (.func ⟨s124, s124, (L2.defArgs (topT 36)), (.stmts (L2.defBody (topT 36))), (L2.defScope (topT 36)), 3, [], .none, .none, .none, (.str s119 828), none, (.ref 563), .none, 0⟩), #[]⟩
def o565_7 (P : Params) : Obj := ⟨(.type SL.s2766695959194262286x5), none, (.seq #[] 0), #[]⟩
def o566_7 (P : Params) : Obj := ⟨.none, none, (.fields #[]), #[]⟩
def o567_7 (P : Params) : Obj := ⟨(.type SL.s2766695959194262286x5), none, (.seq #[(.str s149 870), (.str s150 871), (.str s151 872)] 0), #[]⟩
def o568_7 (P : Params) : Obj := ⟨(.type SL.s2766695959194262286x5), none, (.seq #[] 0), #[]⟩
def o569_7 (P : Params) : Obj := ⟨.none, none, (.func ⟨s125, s125, (L2.defArgs (topT 37)), (.stmts (L2.defBody (topT 37))), (L2.defScope (topT 37)), 0, [], .none, .none, .none, .none, none, .none, .none, 0⟩), #[]⟩
def o570_7 (P : Params) : Obj := ⟨(.type SL.s5856160107412720595x4), none, (.fields #[(.str s125 867), (.str s125 868), (.str s1 869), (.int 282 0), (.int 3 0), (.int 0 0), (.int 0 0), (.int 3 0), (.ref 565), (.bool true), (.int 181 0), (.ref 566), .none, (.ref 567), (.ref 568), (.ref 569), (.int 873 0), (.int 282 0), (.str s1 874)]), #[]⟩
def o571_7 (P : Params) : Obj := ⟨(.type SL.s7174869446012820540x8), none, (.func ⟨s125, s125, (L2.defArgs (topT 37)), (.stmts (L2.defBody (topT 37))), (L2.defScope (topT 37)), 3, [], .none, .none, .none, (.str s119 828), none, (.ref 570), .none, 0⟩), #[]⟩
def o572_7 (P : Params) : Obj := ⟨(.type SL.s2766695959194262286x5), none, (.seq #[] 0), #[]⟩
def o573_7 (P : Params) : Obj := ⟨.none, none, (.fields #[]), #[]⟩
def o574_7 (P : Params) : Obj := ⟨(.type SL.s2766695959194262286x5), none, (.seq #[(.str s149 879)] 0), #[]⟩
def o575_7 (P : Params) : Obj := ⟨(.type SL.s2766695959194262286x5), none, (.seq #[] 0), #[]⟩
def o576_7 (P : Params) : Obj := ⟨.none, none, (.func ⟨s126, s126, (L2.defArgs (topT 38)), (.stmts (L2.defBody (topT 38))), (L2.defScope (topT 38)), 0, [], .none, .none, .none, .none, none, .none, .none, 0⟩), #[]⟩
def o577_7 (P : Params) : Obj := ⟨(.type SL.s5856160107412720595x4), none, (.fields #[(.str s126 876), (.str s126 877), (.str s1 878), (.int 292 0), (.int 1 0), (.int 0 0), (.int 0 0), (.int 3 0), (.ref 572), (.bool true), (.int 181 0), (.ref 573), .none, (.ref 574), (.ref 575), (.ref 576), (.int 880 0), (.int 292 0), (.str s1 881)]), #[]⟩
def o578_7 (P : Params) : Obj := ⟨(.type SL.s7174869446012820540x8), none, (.func ⟨s126, s126, (L2.defArgs (topT 38)), (.stmts (L2.defBody (topT 38))), (L2.defScope (topT 38)), 3, [], .none, .none, .none, (.str s119 828), none, (.ref 577), .none, 0⟩), #[]⟩
def o579_7 (P : Params) : Obj := ⟨(.type SL.s2766695959194262286x5), none, (.seq #[] 0), #[]⟩
def o580_7 (P : Params) : Obj := ⟨.none, none, (.fields #[]), #[]⟩
def o581_7 (P : Params) : Obj := ⟨(.type SL.s2766695959194262286x5), none, (.seq #[(.str s139 886), (.str s152 887), (.str s153 888)] 0), #[]⟩
def o582_7 (P : Params) : Obj := ⟨(.type SL.s2766695959194262286x5), none, (.seq #[] 0), #[]⟩
def o583_7 (P : Params) : Obj := ⟨.none, none, (.func ⟨s127, s127, (L2.defArgs (topT 39)), (.stmts (L2.defBody (topT 39))), (L2.defScope (topT 39)), 0, [], .none, .none, .none, .none, none, .none, .none, 0⟩), #[]⟩
def o584_7 (P : Params) : Obj := ⟨(.type SL.s5856160107412720595x4), none, (.fields #[(.str s127 883), (.str s127 884), (.str s1 885), (.int 294 0), (.int 2 0), (.int 0 0), (.int 0 0), (.int 3 0), (.ref 579), (.bool true), (.int 181 0), (.ref 580), .none, (.ref 581), (.ref 582), (.ref 583), (.int 889 0), (.int 294 0), (.str s1 890)]), #[]⟩
def o585_7 (P : Params) : Obj := ⟨(.type SL.s7174869446012820540x8), none, (.func ⟨s127, s127, (L2.defArgs (topT 39)), (.stmts (L2.defBody (topT 39))), (L2.defScope (topT 39)), 3, [], .none, .none, .none, (.str s119 828), none, (.ref 584), .none, 0⟩), #[]⟩
def o586_7 (P : Params) : Obj := ⟨(.type SL.s2766695959194262286x5), none, (.seq #[] 0), #[]⟩
def o587_7 (P : Params) : Obj := ⟨.none, none, (.fields #[]), #[]⟩
def o588_7 (P : Params) : Obj := ⟨(.type SL.s2766695959194262286x5), none, (.seq #[(.str s149 895)] 0), #[]⟩
def o589_7 (P : Params) : Obj := ⟨(.type SL.s2766695959194262286x5), none, (.seq #[] 0), #[]⟩
def o590_7 (P : Params) : Obj := ⟨.none, none, (.func ⟨s128, s128, (L2.defArgs (topT 40)), (.stmts (L2.defBody (topT 40))), (L2.defScope (topT 40)), 0, [], .none, .none, .none, .none, none, .none, .none, 0⟩), #[]⟩
def o591_7 (P : Params) : Obj := ⟨(.type SL.s5856160107412720595x4), none, (.fields #[(.str s128 892), (.str s128 893), (.str s1 894), (.int 297 0), (.int 1 0), (.int 0 0), (.int 0 0), (.int 3 0), (.ref 586), (.bool true), (.int 181 0), (.ref 587), .none, (.ref 588), (.ref 589), (.ref 590), (.int 896 0), (.int 297 0), (.str s1 897)]), #[]⟩
def o592_7 (P : Params) : Obj := ⟨(.type SL.s7174869446012820540x8), none, (.func ⟨s128, s128, (L2.defArgs (topT 40)), (.stmts (L2.defBody (topT 40))), (L2.defScope (topT 40)), 3, [], .none, .none, .none, (.str s119 828), none, (.ref 591), .none, 0⟩), #[]⟩
def o593_7 (P : Params) : Obj := ⟨(.type SL.s2766695959194262286x5), none, (.seq #[] 0), #[]⟩
def o594_7 (P : Params) : Obj := ⟨.none, none, (.fields #[]), #[]⟩
def o595_7 (P : Params) : Obj := ⟨(.type SL.s2766695959194262286x5), none, (.seq #[(.str s139 902), (.str s149 903), (.str s154 904), (.str s155 905)] 0), #[]⟩
def o596_7 (P : Params) : Obj := ⟨(.type SL.s2766695959194262286x5), none, (.seq #[] 0), #[]⟩
def o597_7 (P : Params) : Obj := ⟨.none, none, (.func ⟨s129, s129, (L2.defArgs (topT 41)), (.stmts (L2.defBody (topT 41))), (L2.defScope (topT 41)), 0, [], .none, .none, .none, .none, none, .none, .none, 0⟩), #[]⟩
def o598_7 (P : Params) : Obj := ⟨(.type SL.s5856160107412720595x4), none, (.fields #[(.str s129 899), (.str s129 900), (.str s1 901), (.int 305 0), (.int 3 0), (.int 0 0), (.int 0 0), (.int 3 0), (.ref 593), (.bool true), (.int 181 0), (.ref 594), .none, (.ref 595), (.ref 596), (.ref 597), (.int 906 0), (.int 305 0), (.str s1 907)]), #[]⟩
def o599_7 (P : Params) : Obj := ⟨(.type SL.s7174869446012820540x8), none, (.func ⟨s129, s129, (L2.defArgs (topT 41)), (.stmts (L2.defBody (topT 41))), (L2.defScope (topT 41)), 3, [], .none, .none, .none, (.str s119 828), none, (.ref 598), .none, 0⟩), #[]⟩
def o600_7 (P : Params) : Obj := ⟨(.type SL.s2766695959194262286x5), none, (.seq #[] 0), #[]⟩
def o601_7 (P : Params) : Obj := ⟨.none, none, (.fields #[]), #[]⟩
def o602_7 (P : Params) : Obj := ⟨.none, none, (.func ⟨s130, s130, (L2.defArgs (topT 42)), (.stmts (L2.defBody (topT 42))), (L2.defScope (topT 42)), 0, [], .none, .none, .none, .none, none, .none, .none, 0⟩), #[]⟩
def o603_7 (P : Params) : Obj := ⟨(.type SL.s5856160107412720595x4), none, (.fields #[(.str s130 909), (.str s130 910), (.str s1 911), (.int 318 0), (.int 4 0), (.int 0 0), (.int 0 0), (.int 3 0), (.ref 600), (.bool true), (.int 181 0), (.ref 601), .none, .none, .none, (.ref 602), (.int 912 0), (.int 318 0), (.str s1 913)]), #[]⟩
def o604_7 (P : Params) : Obj := ⟨(.type SL.s7174869446012820540x8), none, (.func ⟨s130, s130, (L2.defArgs (topT 42)), (.stmts (L2.defBody (topT 42))), (L2.defScope (topT 42)), 3, [], .none, .none, .none, (.str s119 828), none, (.ref 603), .none, 0⟩), #[]⟩
def o3_8 (P : Params) : Obj := ⟨(.type SL.s14018661285674007319x4), none, (.dict #[⟨(kh P s3), (.str s3 165), (.str s119 828)⟩, ⟨(kh P s5), (.str s5 166), .none⟩, ⟨(kh P s6), (.str s6 167), .none⟩, ⟨(kh P s7), (.str s7 168), (.builtin SL.s7097527257260152453x26)⟩, ⟨(kh P s8), (.str s8 169), .none⟩, ⟨(kh P s9), (.str s9 170), (.ref 6)⟩, ⟨(kh P s10), (.str s10 171), (.ref 4)⟩, ⟨(kh P s11), (.str s11 173), (.str s1 172)⟩, ⟨(kh P s12), (.str s12 174), .none⟩, ⟨(kh P s13), (.str s13 193), (.ref 21)⟩, ⟨(kh P s14), (.str s14 201), (.ref 26)⟩, ⟨(kh P s15), (.str s15 207), (.ref 31)⟩, ⟨(kh P s16), (.str s16 219), (.ref 38)⟩, ⟨(kh P s17), (.str s17 225), (.ref 43)⟩, ⟨(kh P s18), (.str s18 231), (.ref 48)⟩, ⟨(kh P s19), (.str s19 237), (.ref 53)⟩, ⟨(kh P s20), (.str s20 257), (.ref 63)⟩, ⟨(kh P s21), (.str s21 273), (.ref 76)⟩, ⟨(kh P s36), (.str s36 289), (.ref 88)⟩, ⟨(kh P s37), (.str s37 305), (.ref 100)⟩, ⟨(kh P s38), (.str s38 314), (.ref 109)⟩, ⟨(kh P s39), (.str s39 325), (.ref 116)⟩, ⟨(kh P s40), (.str s40 334), (.ref 123)⟩, ⟨(kh P s41), (.str s41 342), (.ref 130)⟩, ⟨(kh P s42), (.str s42 346), (.str s43 345)⟩, ⟨(kh P s44), (.str s44 348), (.int 30 347)⟩, ⟨(kh P s45), (.str s45 350), (.int 1000000 349)⟩, ⟨(kh P s46), (.str s46 356), (.ref 135)⟩, ⟨(kh P s47), (.str s47 363), (.ref 142)⟩, ⟨(kh P s48), (.str s48 370), (.ref 149)⟩, ⟨(kh P s62), (.str s62 390), (.ref 159)⟩, ⟨(kh P s63), (.str s63 420), (.ref 187)⟩, ⟨(kh P s70), (.str s70 466), (.ref 227)⟩, ⟨(kh P s77), (.str s77 564), (.ref 309)⟩, ⟨(kh P s96), (.str s96 669), (.ref 398)⟩, ⟨(kh P s110), (.str s110 748), (.ref 466)⟩, ⟨(kh P s120), (.str s120 827), (.ref 534)⟩, ⟨(kh P s121), (.str s121 838), (.ref 543)⟩, ⟨(kh P s122), (.str s122 847), (.ref 550)⟩, ⟨(kh P s123), (.str s123 857), (.ref 557)⟩, ⟨(kh P s124), (.str s124 866), (.ref 564)⟩, ⟨(kh P s125), (.str s125 875), (.ref 571)⟩, ⟨(kh P s126), (.str s126 882), (.ref 578)⟩, ⟨(kh P s127), (.str s127 891), (.ref 585)⟩, ⟨(kh P s128), (.str s128 898), (.ref 592)⟩, ⟨(kh P s129), (.str s129 908), (.ref 599)⟩, ⟨(kh P s130), (.str s130 914), (.ref 604)⟩, ⟨(kh P s156), (.str s156 920), (.ref 609)⟩, ⟨(kh P s157), (.str s157 932), (.ref 616)⟩, ⟨(kh P s158), (.str s158 941), (.ref 623)⟩, ⟨(kh P s159), (.str s159 952), (.ref 630)⟩, ⟨(kh P s160), (.str s160 958), (.ref 635)⟩, ⟨(kh P s161), (.str s161 969), (.ref 642)⟩, ⟨(kh P s162), (.str s162 975), (.ref 647)⟩] 54), #[]⟩
def o12_8 (P : Params) : Obj := ⟨.none, none, (.fields #[(.int 1 0), (.int 0 0), (.ref 20), (.int 5 0), (.int 0 0), (.ref 25), (.int 7 0), (.int 0 0), (.ref 30), (.int 11 0), (.int 0 0), (.ref 37), (.int 16 0), (.int 0 0), (.ref 42), (.int 18 0), (.int 0 0), (.ref 47), (.int 20 0), (.int 0 0), (.ref 52), (.int 23 0), (.int 0 0), (.ref 59), (.int 25 0), (.int 0 0), (.ref 72), (.int 27 0), (.int 0 0), (.ref 84), (.int 29 0), (.int 0 0), (.ref 96), (.int 32 0), (.int 0 0), (.ref 108), (.int 34 0), (.int 0 0), (.ref 115), (.int 42 0), (.int 0 0), (.ref 122), (.int 51 0), (.int 0 0), (.ref 129), (.int 64 0), (.int 0 0), (.ref 134), (.int 73 0), (.int 0 0), (.ref 141), (.int 77 0), (.int 0 0), (.ref 148), (.int 80 0), (.int 0 0), (.ref 155), (.int 82 0), (.int 0 0), (.ref 169), (.int 89 0), (.int 0 0), (.ref 195), (.int 102 0), (.int 0 0), (.ref 235), (.int 145 0), (.int 0 0), (.ref 317), (.int 184 0), (.int 0 0), (.ref 406), (.int 218 0), (.int 0 0), (.ref 474), (.int 249 0), (.int 0 0), (.ref 542), (.int 258 0), (.int 0 0), (.ref 549), (.int 265 0), (.int 0 0), (.ref 556), (.int 272 0), (.int 0 0), (.ref 563), (.int 282 0), (.int 0 0), (.ref 570), (.int 292 0), (.int 0 0), (.ref 577), (.int 294 0), (.int 0 0), (.ref 584), (.int 297 0), (.int 0 0), (.ref 591), (.int 305 0), (.int 0 0), (.ref 598), (.int 318 0), (.int 0 0), (.ref 603), (.int 320 0), (.int 0 0), (.ref 608), (.int 322 0), (.int 0 0), (.ref 615), (.int 327 0), (.int 0 0), (.ref 622), (.int 337 0), (.int 0 0), (.ref 629), (.int 344 0), (.int 0 0), (.ref 634), (.int 349 0), (.int 0 0), (.ref 641), (.int 356 0), (.int 0 0), (.ref 646)]), #[]⟩
def o605_8 (P : Params) : Obj := ⟨(.type SL.s2766695959194262286x5), none, (.seq #[] 0), #[]⟩
def o606_8 (P : Params) : Obj := ⟨.none, none, (.fields #[]), #[]⟩
def o607_8 (P : Params) : Obj := ⟨.none, none, (.func ⟨s156, s156, (L2.defArgs (topT 43)), (.stmts (L2.defBody (topT 43))), (L2.defScope (topT 43)), 0, [], .none, .none, .none, .none, none, .none, .none, 0⟩), #[]⟩
def o608_8 (P : Params) : Obj := ⟨(.type SL.s5856160107412720595x4), none, (.fields #[(.str s156 915), (.str s156 916), (.str s1 917), (.int 320 0), (.int 5 0), (.int 0 0), (.int 0 0), (.int 3 0), (.ref 605), (.bool true), (.int 181 0), (.ref 606), .none, .none, .none, (.ref 607), (.int 918 0), (.int 320 0), (.str s1 919)]), #[]⟩
def o609_8 (P : Params) : Obj := ⟨(.type SL.s7174869446012820540x8), none, (.func ⟨s156, s156, (L2.defArgs (topT 43)), (.stmts (L2.defBody (topT 43))), (L2.defScope (topT 43)), 3, [], .none, .none, .none, (.str s119 828), none, (.ref 608), .none, 0⟩), #[]⟩
def o610_8 (P : Params) : Obj := ⟨(.type SL.s2766695959194262286x5), none, (.seq #[] 0), #[]⟩
def o611_8 (P : Params) : Obj := ⟨.none, none, (.fields #[]), #[]⟩
def o612_8 (P : Params) : Obj := ⟨(.type SL.s2766695959194262286x5), none, (.seq #[(.str s149 924), (.str s163 925), (.str s164 926), (.str s165 927), (.str s150 928), (.str s151 929)] 0), #[]⟩
def o613_8 (P : Params) : Obj := ⟨(.type SL.s2766695959194262286x5), none, (.seq #[] 0), #[]⟩
def o614_8 (P : Params) : Obj := ⟨.none, none, (.func ⟨s157, s157, (L2.defArgs (topT 44)), (.stmts (L2.defBody (topT 44))), (L2.defScope (topT 44)), 0, [], .none, .none, .none, .none, none, .none, .none, 0⟩), #[]⟩
def o615_8 (P : Params) : Obj := ⟨(.type SL.s5856160107412720595x4), none, (.fields #[(.str s157 921), (.str s157 922), (.str s1 923), (.int 322 0), (.int 3 0), (.int 0 0), (.int 0 0), (.int 3 0), (.ref 610), (.bool true), (.int 181 0), (.ref 611), .none, (.ref 612), (.ref 613), (.ref 614), (.int 930 0), (.int 322 0), (.str s1 931)]), #[]⟩
def o616_8 (P : Params) : Obj := ⟨(.type SL.s7174869446012820540x8), none, (.func ⟨s157, s157, (L2.defArgs (topT 44)), (.stmts (L2.defBody (topT 44))), (L2.defScope (topT 44)), 3, [], .none, .none, .none, (.str s119 828), none, (.ref 615), .none, 0⟩), #[]⟩
def o617_8 (P : Params) : Obj := ⟨(.type SL.s2766695959194262286x5), none, (.seq #[] 0), #[]⟩
def o618_8 (P : Params) : Obj := ⟨.none, none, (.fields #[]), #[]⟩
def o619_8 (P : Params) : Obj := ⟨(.type SL.s2766695959194262286x5), none, (.seq #[(.str s149 936), (.str s141 937), (.str s166 938)] 0), #[]⟩
def o620_8 (P : Params) : Obj := ⟨(.type SL.s2766695959194262286x5), none, (.seq #[] 0), #[]⟩
def o621_8 (P : Params) : Obj := ⟨.none, none, (.func ⟨s158, s158, (L2.defArgs (topT 45)), (.stmts (L2.defBody (topT 45))), (L2.defScope (topT 45)), 0, [], .none, .none, .none, .none, none, .none, .none, 0⟩), #[]⟩
def o622_8 (P : Params) : Obj := ⟨(.type SL.s5856160107412720595x4), none, (.fields #[(.str s158 933), (.str s158 934), (.str s1 935), (.int 327 0), (.int 3 0), (.int 0 0), (.int 0 0), (.int 3 0), (.ref 617), (.bool true), (.int 181 0), (.ref 618), .none, (.ref 619), (.ref 620), (.ref 621), (.int 939 0), (.int 327 0), (.str s1 940)]), #[]⟩
def o623_8 (P : Params) : Obj := ⟨(.type SL.s7174869446012820540x8), none, (.func ⟨s158, s158, (L2.defArgs (topT 45)), (.stmts (L2.defBody (topT 45))), (L2.defScope (topT 45)), 3, [], .none, .none, .none, (.str s119 828), none, (.ref 622), .none, 0⟩), #[]⟩
def o624_8 (P : Params) : Obj := ⟨(.type SL.s2766695959194262286x5), none, (.seq #[] 0), #[]⟩
def o625_8 (P : Params) : Obj := ⟨.none, none, (.fields #[]), #[]⟩
def o626_8 (P : Params) : Obj := ⟨(.type SL.s2766695959194262286x5), none, (.seq #[(.str s149 945), (.str s141 946), (.str s166 947), (.str s150 948), (.str s151 949)] 0), #[]⟩
def o627_8 (P : Params) : Obj := ⟨(.type SL.s2766695959194262286x5), none, (.seq #[] 0), #[]⟩
def o628_8 (P : Params) : Obj := ⟨.none, none, (.func ⟨s159, s159, (L2.defArgs (topT 46)), (.stmts (L2.defBody (topT 46))), (L2.defScope (topT 46)), 0, [], .none, .none, .none, .none, none, .none, .none, 0⟩), #[]⟩
def o629_8 (P : Params) : Obj := ⟨(.type SL.s5856160107412720595x4), none, (.fields #[(.str s159 942), (.str s159 943), (.str s1 944), (.int 337 0), (.int 3 0), (.int 0 0), (.int 0 0), (.int 3 0), (.ref 624), (.bool true), (.int 181 0), (.ref 625), .none, (.ref 626), (.ref 627), (.ref 628), (.int 950 0), (.int 337 0), (.str s1 951)]), #[]⟩
def o630_8 (P : Params) : Obj := ⟨(.type SL.s7174869446012820540x8), none, (.func ⟨s159, s159, (L2.defArgs (topT 46)), (.stmts (L2.defBody (topT 46))), (L2.defScope (topT 46)), 3, [], .none, .none, .none, (.str s119 828), none, (.ref 629), .none, 0⟩), #[]⟩
def o631_8 (P : Params) : Obj := ⟨(.type SL.s2766695959194262286x5), none, (.seq #[] 0), #[]⟩
def o632_8 (P : Params) : Obj := ⟨.none, none, (.fields #[]), #[]⟩
def o633_8 (P : Params) : Obj := ⟨.none, none, (.func ⟨s160, s160, (L2.defArgs (topT 47)), (.stmts (L2.defBody (topT 47))), (L2.defScope (topT 47)), 0, [], .none, .none, .none, .none, none, .none, .none, 0⟩), #[]⟩
def o634_8 (P : Params) : Obj := ⟨(.type SL.s5856160107412720595x4), none, (.fields #[(.str s160 953), (.str s160 954), (.str s1 955), (.int 344 0), (.int 4 0), (.int 0 0), (.int 0 0), (.int 3 0), (.ref 631), (.bool true), (.int 181 0), (.ref 632), .none, .none, .none, (.ref 633), (.int 956 0), (.int 344 0), (.str s1 957)]), #[]⟩
def o635_8 (P : Params) : Obj := ⟨(.type SL.s7174869446012820540x8), none, (.func ⟨s160, s160, (L2.defArgs (topT 47)), (.stmts (L2.defBody (topT 47))), (L2.defScope (topT 47)), 3, [], .none, .none, .none, (.str s119 828), none, (.ref 634), .none, 0⟩), #[]⟩
def o636_8 (P : Params) : Obj := ⟨(.type SL.s2766695959194262286x5), none, (.seq #[] 0), #[]⟩
def o637_8 (P : Params) : Obj := ⟨.none, none, (.fields #[]), #[]⟩
def o638_8 (P : Params) : Obj := ⟨(.type SL.s2766695959194262286x5), none, (.seq #[(.str s149 962), (.str s141 963), (.str s166 964), (.str s167 965), (.str s168 966)] 0), #[]⟩
def o639_8 (P : Params) : Obj := ⟨(.type SL.s2766695959194262286x5), none, (.seq #[] 0), #[]⟩
def o640_8 (P : Params) : Obj := ⟨.none, none, (.func ⟨s161, s161, (L2.defArgs (topT 48)), (.stmts (L2.defBody (topT 48))), (L2.defScope (topT 48)), 0, [], .none, .none, .none, .none, none, .none, .none, 0⟩), #[]⟩
def o641_8 (P : Params) : Obj := ⟨(.type SL.s5856160107412720595x4), none, (.fields #[(.str s161 959), (.str s161 960), (.str s1 961), (.int 349 0), (.int 3 0), (.int 0 0), (.int 0 0), (.int 3 0), (.ref 636), (.bool true), (.int 181 0), (.ref 637), .none, (.ref 638), (.ref 639), (.ref 640), (.int 967 0), (.int 349 0), (.str s1 968)]), #[]⟩
def o642_8 (P : Params) : Obj := ⟨(.type SL.s7174869446012820540x8), none, (.func ⟨s161, s161, (L2.defArgs (topT 48)), (.stmts (L2.defBody (topT 48))), (L2.defScope (topT 48)), 3, [], .none, .none, .none, (.str s119 828), none, (.ref 641), .none, 0⟩), #[]⟩
def o643_8 (P : Params) : Obj := ⟨(.type SL.s2766695959194262286x5), none, (.seq #[] 0), #[]⟩
def o644_8 (P : Params) : Obj := ⟨.none, none, (.fields #[]), #[]⟩
def o645_8 (P : Params) : Obj := ⟨.none, none, (.func ⟨s162, s162, (L2.defArgs (topT 49)), (.stmts (L2.defBody (topT 49))), (L2.defScope (topT 49)), 0, [], .none, .none, .none, .none, none, .none, .none, 0⟩), #[]⟩
def o646_8 (P : Params) : Obj := ⟨(.type SL.s5856160107412720595x4), none, (.fields #[(.str s162 970), (.str s162 971), (.str s1 972), (.int 356 0), (.int 1 0), (.int 0 0), (.int 0 0), (.int 3 0), (.ref 643), (.bool true), (.int 181 0), (.ref 644), .none, .none, .none, (.ref 645), (.int 973 0), (.int 356 0), (.str s1 974)]), #[]⟩
def o647_8 (P : Params) : Obj := ⟨(.type SL.s7174869446012820540x8), none, (.func ⟨s162, s162, (L2.defArgs (topT 49)), (.stmts (L2.defBody (topT 49))), (L2.defScope (topT 49)), 3, [], .none, .none, .none, (.str s119 828), none, (.ref 646), .none, 0⟩), #[]⟩
def envT : Env := { scope := Fast.tw9077655869000506260.main.scope, locals := mainNs, globals := mainNs, cells := [], code := (.ref 13), frame := some 14 }
def cT : Code := .body (behindTheImports Fast.tw9077655869000506260) envT
def qP : Pos := ⟨0, 0, 0, 0⟩
def Ha (P : Params) : Heap := ⟨⟨[boot_o_0 P, boot_o_1 P, boot_o_2 P, boot_o_3 P, boot_o_4 P, boot_o_5 P, boot_o_6 P, boot_o_7 P, boot_o_8 P, boot_o_9 P, boot_o_10 P, o11a P, o12a P, o13a P, o14a P]⟩, (PySem.Life.mk [] [] [] 0 [] [] false #[] [] 0 false false false 0 [2000, 10, 10] false 0 true [] [] 0 false)⟩
def Sa (w : World) (os : OsState) : Shared := ⟨Ha w.params, ⟨[]⟩, (PySem.Drawn.mk 0 0 0 0), 187, os⟩
def Tb (P : Params) : BT := (.node (boot_o_0 P) (.node (boot_o_1 P) (.node (boot_o_3 P) (.node (boot_o_7 P) .nil .nil) (.node (o11a P) .nil .nil)) (.node (boot_o_5 P) (.node (boot_o_9 P) .nil .nil) (.node (o13a P) .nil .nil))) (.node (boot_o_2 P) (.node (boot_o_4 P) (.node (boot_o_8 P) .nil .nil) (.node (o12a P) .nil .nil)) (.node (boot_o_6 P) (.node (boot_o_10 P) .nil .nil) (.node (o14a P) .nil .nil))))
def Sb (w : World) (os : OsState) : SharedT := ⟨Tb w.params, 15, (PySem.Life.mk [] [] [] 0 [] [] false #[] [] 0 false false false 0 [2000, 10, 10] false 0 true [] [] 0 false), ⟨[]⟩, (PySem.Drawn.mk 0 0 0 0), 187, os⟩
def T0 (P : Params) : BT := (.node (boot_o_0 P) (.node (boot_o_1 P) (.node (o3_0 P) (.node (boot_o_7 P) (.node (o15_0 P) (.node (o31_0 P) (.node (o63_0 P) .nil .nil) .nil) (.node (o47_0 P) .nil .nil)) (.node (o23_0 P) (.node (o39_0 P) (.node (o71_0 P) .nil .nil) .nil) (.node (o55_0 P) .nil .nil))) (.node (o11a P) (.node (o19_0 P) (.node (o35_0 P) (.node (o67_0 P) .nil .nil) .nil) (.node (o51_0 P) .nil .nil)) (.node (o27_0 P) (.node (o43_0 P) (.node (o75_0 P) .nil .nil) .nil) (.node (o59_0 P) .nil .nil)))) (.node (boot_o_5 P) (.node (boot_o_9 P) (.node (o17_0 P) (.node (o33_0 P) (.node (o65_0 P) .nil .nil) .nil) (.node (o49_0 P) .nil .nil)) (.node (o25_0 P) (.node (o41_0 P) (.node (o73_0 P) .nil .nil) .nil) (.node (o57_0 P) .nil .nil))) (.node (o13a P) (.node (o21_0 P) (.node (o37_0 P) (.node (o69_0 P) .nil .nil) .nil) (.node (o53_0 P) .nil .nil)) (.node (o29_0 P) (.node (o45_0 P) (.node (o77_0 P) .nil .nil) .nil) (.node (o61_0 P) .nil .nil))))) (.node (boot_o_2 P) (.node (boot_o_4 P) (.node (boot_o_8 P) (.node (o16_0 P) (.node (o32_0 P) (.node (o64_0 P) .nil .nil) .nil) (.node (o48_0 P) .nil .nil)) (.node (o24_0 P) (.node (o40_0 P) (.node (o72_0 P) .nil .nil) .nil) (.node (o56_0 P) .nil .nil))) (.node (o12_0 P) (.node (o20_0 P) (.node (o36_0 P) (.node (o68_0 P) .nil .nil) .nil) (.node (o52_0 P) .nil .nil)) (.node (o28_0 P) (.node (o44_0 P) (.node (o76_0 P) .nil .nil) .nil) (.node (o60_0 P) .nil .nil)))) (.node (boot_o_6 P) (.node (boot_o_10 P) (.node (o18_0 P) (.node (o34_0 P) (.node (o66_0 P) .nil .nil) .nil) (.node (o50_0 P) .nil .nil)) (.node (o26_0 P) (.node (o42_0 P) (.node (o74_0 P) .nil .nil) .nil) (.node (o58_0 P) .nil .nil))) (.node (o14a P) (.node (o22_0 P) (.node (o38_0 P) (.node (o70_0 P) .nil .nil) .nil) (.node (o54_0 P) .nil .nil)) (.node (o30_0 P) (.node (o46_0 P) (.node (o78_0 P) .nil .nil) .nil) (.node (o62_0 P) .nil .nil))))))
def S0 (w : World) (os : OsState) : SharedT := ⟨T0 w.params, 79, (PySem.Life.mk [] [] [] 0 [] [] false #[] [] 0 false false false 0 [2000, 10, 10] false 0 true [] [] 0 false), ⟨[]⟩, (PySem.Drawn.mk 0 0 0 0), 274, os⟩
def T1 (P : Params) : BT := (.node (boot_o_0 P) (.node (boot_o_1 P) (.node (o3_1 P) (.node (boot_o_7 P) (.node (o15_0 P) (.node (o31_0 P) (.node (o63_1 P) (.node (o127_1 P) .nil .nil) .nil) (.node (o95_1 P) .nil .nil)) (.node (o47_0 P) (.node (o79_1 P) (.node (o143_1 P) .nil .nil) .nil) (.node (o111_1 P) .nil .nil))) (.node (o23_0 P) (.node (o39_0 P) (.node (o71_0 P) (.node (o135_1 P) .nil .nil) .nil) (.node (o103_1 P) .nil .nil)) (.node (o55_0 P) (.node (o87_1 P) .nil .nil) (.node (o119_1 P) .nil .nil)))) (.node (o11a P) (.node (o19_0 P) (.node (o35_0 P) (.node (o67_0 P) (.node (o131_1 P) .nil .nil) .nil) (.node (o99_1 P) .nil .nil)) (.node (o51_0 P) (.node (o83_1 P) (.node (o147_1 P) .nil .nil) .nil) (.node (o115_1 P) .nil .nil))) (.node (o27_0 P) (.node (o43_0 P) (.node (o75_0 P) (.node (o139_1 P) .nil .nil) .nil) (.node (o107_1 P) .nil .nil)) (.node (o59_0 P) (.node (o91_1 P) .nil .nil) (.node (o123_1 P) .nil .nil))))) (.node (boot_o_5 P) (.node (boot_o_9 P) (.node (o17_0 P) (.node (o33_0 P) (.node (o65_0 P) (.node (o129_1 P) .nil .nil) .nil) (.node (o97_1 P) .nil .nil)) (.node (o49_0 P) (.node (o81_1 P) (.node (o145_1 P) .nil .nil) .nil) (.node (o113_1 P) .nil .nil))) (.node (o25_0 P) (.node (o41_0 P) (.node (o73_0 P) (.node (o137_1 P) .nil .nil) .nil) (.node (o105_1 P) .nil .nil)) (.node (o57_0 P) (.node (o89_1 P) .nil .nil) (.node (o121_1 P) .nil .nil)))) (.node (o13a P) (.node (o21_0 P) (.node (o37_0 P) (.node (o69_0 P) (.node (o133_1 P) .nil .nil) .nil) (.node (o101_1 P) .nil .nil)) (.node (o53_0 P) (.node (o85_1 P) (.node (o149_1 P) .nil .nil) .nil) (.node (o117_1 P) .nil .nil))) (.node (o29_0 P) (.node (o45_0 P) (.node (o77_0 P) (.node (o141_1 P) .nil .nil) .nil) (.node (o109_1 P) .nil .nil)) (.node (o61_0 P) (.node (o93_1 P) .nil .nil) (.node (o125_1 P) .nil .nil)))))) (.node (boot_o_2 P) (.node (boot_o_4 P) (.node (boot_o_8 P) (.node (o16_0 P) (.node (o32_0 P) (.node (o64_0 P) (.node (o128_1 P) .nil .nil) .nil) (.node (o96_1 P) .nil .nil)) (.node (o48_0 P) (.node (o80_1 P) (.node (o144_1 P) .nil .nil) .nil) (.node (o112_1 P) .nil .nil))) (.node (o24_0 P) (.node (o40_0 P) (.node (o72_0 P) (.node (o136_1 P) .nil .nil) .nil) (.node (o104_1 P) .nil .nil)) (.node (o56_0 P) (.node (o88_1 P) .nil .nil) (.node (o120_1 P) .nil .nil)))) (.node (o12_1 P) (.node (o20_0 P) (.node (o36_0 P) (.node (o68_0 P) (.node (o132_1 P) .nil .nil) .nil) (.node (o100_1 P) .nil .nil)) (.node (o52_0 P) (.node (o84_1 P) (.node (o148_1 P) .nil .nil) .nil) (.node (o116_1 P) .nil .nil))) (.node (o28_0 P) (.node (o44_0 P) (.node (o76_0 P) (.node (o140_1 P) .nil .nil) .nil) (.node (o108_1 P) .nil .nil)) (.node (o60_0 P) (.node (o92_1 P) .nil .nil) (.node (o124_1 P) .nil .nil))))) (.node (boot_o_6 P) (.node (boot_o_10 P) (.node (o18_0 P) (.node (o34_0 P) (.node (o66_0 P) (.node (o130_1 P) .nil .nil) .nil) (.node (o98_1 P) .nil .nil)) (.node (o50_0 P) (.node (o82_1 P) (.node (o146_1 P) .nil .nil) .nil) (.node (o114_1 P) .nil .nil))) (.node (o26_0 P) (.node (o42_0 P) (.node (o74_0 P) (.node (o138_1 P) .nil .nil) .nil) (.node (o106_1 P) .nil .nil)) (.node (o58_0 P) (.node (o90_1 P) .nil .nil) (.node (o122_1 P) .nil .nil)))) (.node (o14a P) (.node (o22_0 P) (.node (o38_0 P) (.node (o70_0 P) (.node (o134_1 P) .nil .nil) .nil) (.node (o102_1 P) .nil .nil)) (.node (o54_0 P) (.node (o86_1 P) .nil .nil) (.node (o118_1 P) .nil .nil))) (.node (o30_0 P) (.node (o46_0 P) (.node (o78_0 P) (.node (o142_1 P) .nil .nil) .nil) (.node (o110_1 P) .nil .nil)) (.node (o62_0 P) (.node (o94_1 P) .nil .nil) (.node (o126_1 P) .nil .nil)))))))
def S1 (w : World) (os : OsState) : SharedT := ⟨T1 w.params, 150, (PySem.Life.mk [] [] [] 0 [] [] false #[] [] 0 false false false 0 [2000, 10, 10] false 0 true [] [] 0 false), ⟨[]⟩, (PySem.Drawn.mk 0 0 0 0), 371, os⟩
def T2 (P : Params) : BT := (.node (boot_o_0 P) (.node (boot_o_1 P) (.node (o3_2 P) (.node (boot_o_7 P) (.node (o15_0 P) (.node (o31_0 P) (.node (o63_1 P) (.node (o127_1 P) .nil .nil) .nil) (.node (o95_1 P) (.node (o159_2 P) .nil .nil) .nil)) (.node (o47_0 P) (.node (o79_1 P) (.node (o143_1 P) .nil .nil) .nil) (.node (o111_1 P) (.node (o175_2 P) .nil .nil) .nil))) (.node (o23_0 P) (.node (o39_0 P) (.node (o71_0 P) (.node (o135_1 P) .nil .nil) .nil) (.node (o103_1 P) (.node (o167_2 P) .nil .nil) .nil)) (.node (o55_0 P) (.node (o87_1 P) (.node (o151_2 P) .nil .nil) .nil) (.node (o119_1 P) (.node (o183_2 P) .nil .nil) .nil)))) (.node (o11a P) (.node (o19_0 P) (.node (o35_0 P) (.node (o67_0 P) (.node (o131_1 P) .nil .nil) .nil) (.node (o99_1 P) (.node (o163_2 P) .nil .nil) .nil)) (.node (o51_0 P) (.node (o83_1 P) (.node (o147_1 P) .nil .nil) .nil) (.node (o115_1 P) (.node (o179_2 P) .nil .nil) .nil))) (.node (o27_0 P) (.node (o43_0 P) (.node (o75_0 P) (.node (o139_1 P) .nil .nil) .nil) (.node (o107_1 P) (.node (o171_2 P) .nil .nil) .nil)) (.node (o59_0 P) (.node (o91_1 P) (.node (o155_2 P) .nil .nil) .nil) (.node (o123_1 P) (.node (o187_2 P) .nil .nil) .nil))))) (.node (boot_o_5 P) (.node (boot_o_9 P) (.node (o17_0 P) (.node (o33_0 P) (.node (o65_0 P) (.node (o129_1 P) .nil .nil) .nil) (.node (o97_1 P) (.node (o161_2 P) .nil .nil) .nil)) (.node (o49_0 P) (.node (o81_1 P) (.node (o145_1 P) .nil .nil) .nil) (.node (o113_1 P) (.node (o177_2 P) .nil .nil) .nil))) (.node (o25_0 P) (.node (o41_0 P) (.node (o73_0 P) (.node (o137_1 P) .nil .nil) .nil) (.node (o105_1 P) (.node (o169_2 P) .nil .nil) .nil)) (.node (o57_0 P) (.node (o89_1 P) (.node (o153_2 P) .nil .nil) .nil) (.node (o121_1 P) (.node (o185_2 P) .nil .nil) .nil)))) (.node (o13a P) (.node (o21_0 P) (.node (o37_0 P) (.node (o69_0 P) (.node (o133_1 P) .nil .nil) .nil) (.node (o101_1 P) (.node (o165_2 P) .nil .nil) .nil)) (.node (o53_0 P) (.node (o85_1 P) (.node (o149_1 P) .nil .nil) .nil) (.node (o117_1 P) (.node (o181_2 P) .nil .nil) .nil))) (.node (o29_0 P) (.node (o45_0 P) (.node (o77_0 P) (.node (o141_1 P) .nil .nil) .nil) (.node (o109_1 P) (.node (o173_2 P) .nil .nil) .nil)) (.node (o61_0 P) (.node (o93_1 P) (.node (o157_2 P) .nil .nil) .nil) (.node (o125_1 P) (.node (o189_2 P) .nil .nil) .nil)))))) (.node (boot_o_2 P) (.node (boot_o_4 P) (.node (boot_o_8 P) (.node (o16_0 P) (.node (o32_0 P) (.node (o64_0 P) (.node (o128_1 P) .nil .nil) .nil) (.node (o96_1 P) (.node (o160_2 P) .nil .nil) .nil)) (.node (o48_0 P) (.node (o80_1 P) (.node (o144_1 P) .nil .nil) .nil) (.node (o112_1 P) (.node (o176_2 P) .nil .nil) .nil))) (.node (o24_0 P) (.node (o40_0 P) (.node (o72_0 P) (.node (o136_1 P) .nil .nil) .nil) (.node (o104_1 P) (.node (o168_2 P) .nil .nil) .nil)) (.node (o56_0 P) (.node (o88_1 P) (.node (o152_2 P) .nil .nil) .nil) (.node (o120_1 P) (.node (o184_2 P) .nil .nil) .nil)))) (.node (o12_2 P) (.node (o20_0 P) (.node (o36_0 P) (.node (o68_0 P) (.node (o132_1 P) .nil .nil) .nil) (.node (o100_1 P) (.node (o164_2 P) .nil .nil) .nil)) (.node (o52_0 P) (.node (o84_1 P) (.node (o148_1 P) .nil .nil) .nil) (.node (o116_1 P) (.node (o180_2 P) .nil .nil) .nil))) (.node (o28_0 P) (.node (o44_0 P) (.node (o76_0 P) (.node (o140_1 P) .nil .nil) .nil) (.node (o108_1 P) (.node (o172_2 P) .nil .nil) .nil)) (.node (o60_0 P) (.node (o92_1 P) (.node (o156_2 P) .nil .nil) .nil) (.node (o124_1 P) (.node (o188_2 P) .nil .nil) .nil))))) (.node (boot_o_6 P) (.node (boot_o_10 P) (.node (o18_0 P) (.node (o34_0 P) (.node (o66_0 P) (.node (o130_1 P) .nil .nil) .nil) (.node (o98_1 P) (.node (o162_2 P) .nil .nil) .nil)) (.node (o50_0 P) (.node (o82_1 P) (.node (o146_1 P) .nil .nil) .nil) (.node (o114_1 P) (.node (o178_2 P) .nil .nil) .nil))) (.node (o26_0 P) (.node (o42_0 P) (.node (o74_0 P) (.node (o138_1 P) .nil .nil) .nil) (.node (o106_1 P) (.node (o170_2 P) .nil .nil) .nil)) (.node (o58_0 P) (.node (o90_1 P) (.node (o154_2 P) .nil .nil) .nil) (.node (o122_1 P) (.node (o186_2 P) .nil .nil) .nil)))) (.node (o14a P) (.node (o22_0 P) (.node (o38_0 P) (.node (o70_0 P) (.node (o134_1 P) .nil .nil) .nil) (.node (o102_1 P) (.node (o166_2 P) .nil .nil) .nil)) (.node (o54_0 P) (.node (o86_1 P) (.node (o150_2 P) .nil .nil) .nil) (.node (o118_1 P) (.node (o182_2 P) .nil .nil) .nil))) (.node (o30_0 P) (.node (o46_0 P) (.node (o78_0 P) (.node (o142_1 P) .nil .nil) .nil) (.node (o110_1 P) (.node (o174_2 P) .nil .nil) .nil)) (.node (o62_0 P) (.node (o94_1 P) (.node (o158_2 P) .nil .nil) .nil) (.node (o126_1 P) .nil .nil)))))))
def S2 (w : World) (os : OsState) : SharedT := ⟨T2 w.params, 190, (PySem.Life.mk [] [] [] 0 [] [] false #[] [] 0 false false false 0 [2000, 10, 10] false 0 true [] [] 0 false), ⟨[]⟩, (PySem.Drawn.mk 0 0 0 0), 421, os⟩
def T3 (P : Params) : BT := (.node (boot_o_0 P) (.node (boot_o_1 P) (.node (o3_3 P) (.node (boot_o_7 P) (.node (o15_0 P) (.node (o31_0 P) (.node (o63_1 P) (.node (o127_1 P) .nil .nil) (.node (o191_3 P) .nil .nil)) (.node (o95_1 P) (.node (o159_3 P) .nil .nil) (.node (o223_3 P) .nil .nil))) (.node (o47_0 P) (.node (o79_1 P) (.node (o143_1 P) .nil .nil) (.node (o207_3 P) .nil .nil)) (.node (o111_1 P) (.node (o175_2 P) .nil .nil) .nil))) (.node (o23_0 P) (.node (o39_0 P) (.node (o71_0 P) (.node (o135_1 P) .nil .nil) (.node (o199_3 P) .nil .nil)) (.node (o103_1 P) (.node (o167_2 P) .nil .nil) .nil)) (.node (o55_0 P) (.node (o87_1 P) (.node (o151_2 P) .nil .nil) (.node (o215_3 P) .nil .nil)) (.node (o119_1 P) (.node (o183_2 P) .nil .nil) .nil)))) (.node (o11a P) (.node (o19_0 P) (.node (o35_0 P) (.node (o67_0 P) (.node (o131_1 P) .nil .nil) (.node (o195_3 P) .nil .nil)) (.node (o99_1 P) (.node (o163_2 P) .nil .nil) (.node (o227_3 P) .nil .nil))) (.node (o51_0 P) (.node (o83_1 P) (.node (o147_1 P) .nil .nil) (.node (o211_3 P) .nil .nil)) (.node (o115_1 P) (.node (o179_2 P) .nil .nil) .nil))) (.node (o27_0 P) (.node (o43_0 P) (.node (o75_0 P) (.node (o139_1 P) .nil .nil) (.node (o203_3 P) .nil .nil)) (.node (o107_1 P) (.node (o171_2 P) .nil .nil) .nil)) (.node (o59_0 P) (.node (o91_1 P) (.node (o155_2 P) .nil .nil) (.node (o219_3 P) .nil .nil)) (.node (o123_1 P) (.node (o187_2 P) .nil .nil) .nil))))) (.node (boot_o_5 P) (.node (boot_o_9 P) (.node (o17_0 P) (.node (o33_0 P) (.node (o65_0 P) (.node (o129_1 P) .nil .nil) (.node (o193_3 P) .nil .nil)) (.node (o97_1 P) (.node (o161_2 P) .nil .nil) (.node (o225_3 P) .nil .nil))) (.node (o49_0 P) (.node (o81_1 P) (.node (o145_1 P) .nil .nil) (.node (o209_3 P) .nil .nil)) (.node (o113_1 P) (.node (o177_2 P) .nil .nil) .nil))) (.node (o25_0 P) (.node (o41_0 P) (.node (o73_0 P) (.node (o137_1 P) .nil .nil) (.node (o201_3 P) .nil .nil)) (.node (o105_1 P) (.node (o169_2 P) .nil .nil) .nil)) (.node (o57_0 P) (.node (o89_1 P) (.node (o153_2 P) .nil .nil) (.node (o217_3 P) .nil .nil)) (.node (o121_1 P) (.node (o185_2 P) .nil .nil) .nil)))) (.node (o13a P) (.node (o21_0 P) (.node (o37_0 P) (.node (o69_0 P) (.node (o133_1 P) .nil .nil) (.node (o197_3 P) .nil .nil)) (.node (o101_1 P) (.node (o165_2 P) .nil .nil) (.node (o229_3 P) .nil .nil))) (.node (o53_0 P) (.node (o85_1 P) (.node (o149_1 P) .nil .nil) (.node (o213_3 P) .nil .nil)) (.node (o117_1 P) (.node (o181_2 P) .nil .nil) .nil))) (.node (o29_0 P) (.node (o45_0 P) (.node (o77_0 P) (.node (o141_1 P) .nil .nil) (.node (o205_3 P) .nil .nil)) (.node (o109_1 P) (.node (o173_2 P) .nil .nil) .nil)) (.node (o61_0 P) (.node (o93_1 P) (.node (o157_2 P) .nil .nil) (.node (o221_3 P) .nil .nil)) (.node (o125_1 P) (.node (o189_2 P) .nil .nil) .nil)))))) (.node (boot_o_2 P) (.node (boot_o_4 P) (.node (boot_o_8 P) (.node (o16_0 P) (.node (o32_0 P) (.node (o64_0 P) (.node (o128_1 P) .nil .nil) (.node (o192_3 P) .nil .nil)) (.node (o96_1 P) (.node (o160_2 P) .nil .nil) (.node (o224_3 P) .nil .nil))) (.node (o48_0 P) (.node (o80_1 P) (.node (o144_1 P) .nil .nil) (.node (o208_3 P) .nil .nil)) (.node (o112_1 P) (.node (o176_2 P) .nil .nil) .nil))) (.node (o24_0 P) (.node (o40_0 P) (.node (o72_0 P) (.node (o136_1 P) .nil .nil) (.node (o200_3 P) .nil .nil)) (.node (o104_1 P) (.node (o168_2 P) .nil .nil) .nil)) (.node (o56_0 P) (.node (o88_1 P) (.node (o152_2 P) .nil .nil) (.node (o216_3 P) .nil .nil)) (.node (o120_1 P) (.node (o184_2 P) .nil .nil) .nil)))) (.node (o12_3 P) (.node (o20_0 P) (.node (o36_0 P) (.node (o68_0 P) (.node (o132_1 P) .nil .nil) (.node (o196_3 P) .nil .nil)) (.node (o100_1 P) (.node (o164_2 P) .nil .nil) (.node (o228_3 P) .nil .nil))) (.node (o52_0 P) (.node (o84_1 P) (.node (o148_1 P) .nil .nil) (.node (o212_3 P) .nil .nil)) (.node (o116_1 P) (.node (o180_2 P) .nil .nil) .nil))) (.node (o28_0 P) (.node (o44_0 P) (.node (o76_0 P) (.node (o140_1 P) .nil .nil) (.node (o204_3 P) .nil .nil)) (.node (o108_1 P) (.node (o172_2 P) .nil .nil) .nil)) (.node (o60_0 P) (.node (o92_1 P) (.node (o156_2 P) .nil .nil) (.node (o220_3 P) .nil .nil)) (.node (o124_1 P) (.node (o188_2 P) .nil .nil) .nil))))) (.node (boot_o_6 P) (.node (boot_o_10 P) (.node (o18_0 P) (.node (o34_0 P) (.node (o66_0 P) (.node (o130_1 P) .nil .nil) (.node (o194_3 P) .nil .nil)) (.node (o98_1 P) (.node (o162_2 P) .nil .nil) (.node (o226_3 P) .nil .nil))) (.node (o50_0 P) (.node (o82_1 P) (.node (o146_1 P) .nil .nil) (.node (o210_3 P) .nil .nil)) (.node (o114_1 P) (.node (o178_2 P) .nil .nil) .nil))) (.node (o26_0 P) (.node (o42_0 P) (.node (o74_0 P) (.node (o138_1 P) .nil .nil) (.node (o202_3 P) .nil .nil)) (.node (o106_1 P) (.node (o170_2 P) .nil .nil) .nil)) (.node (o58_0 P) (.node (o90_1 P) (.node (o154_2 P) .nil .nil) (.node (o218_3 P) .nil .nil)) (.node (o122_1 P) (.node (o186_2 P) .nil .nil) .nil)))) (.node (o14a P) (.node (o22_0 P) (.node (o38_0 P) (.node (o70_0 P) (.node (o134_1 P) .nil .nil) (.node (o198_3 P) .nil .nil)) (.node (o102_1 P) (.node (o166_2 P) .nil .nil) .nil)) (.node (o54_0 P) (.node (o86_1 P) (.node (o150_2 P) .nil .nil) (.node (o214_3 P) .nil .nil)) (.node (o118_1 P) (.node (o182_2 P) .nil .nil) .nil))) (.node (o30_0 P) (.node (o46_0 P) (.node (o78_0 P) (.node (o142_1 P) .nil .nil) (.node (o206_3 P) .nil .nil)) (.node (o110_1 P) (.node (o174_2 P) .nil .nil) .nil)) (.node (o62_0 P) (.node (o94_1 P) (.node (o158_2 P) .nil .nil) (.node (o222_3 P) .nil .nil)) (.node (o126_1 P) (.node (o190_3 P) .nil .nil) .nil)))))))
def S3 (w : World) (os : OsState) : SharedT := ⟨T3 w.params, 230, (PySem.Life.mk [] [] [] 0 [] [] false #[] [] 0 false false false 0 [2000, 10, 10] false 0 true [] [] 0 false), ⟨[]⟩, (PySem.Drawn.mk 0 0 0 0), 467, os⟩
def T4 (P : Params) : BT := (.node (boot_o_0 P) (.node (boot_o_1 P) (.node (o3_4 P) (.node (boot_o_7 P) (.node (o15_0 P) (.node (o31_0 P) (.node (o63_1 P) (.node (o127_1 P) (.node (o255_4 P) .nil .nil) .nil) (.node (o191_3 P) .nil .nil)) (.node (o95_1 P) (.node (o159_3 P) (.node (o287_4 P) .nil .nil) .nil) (.node (o223_3 P) .nil .nil))) (.node (o47_0 P) (.node (o79_1 P) (.node (o143_1 P) (.node (o271_4 P) .nil .nil) .nil) (.node (o207_3 P) .nil .nil)) (.node (o111_1 P) (.node (o175_2 P) (.node (o303_4 P) .nil .nil) .nil) (.node (o239_4 P) .nil .nil)))) (.node (o23_0 P) (.node (o39_0 P) (.node (o71_0 P) (.node (o135_1 P) (.node (o263_4 P) .nil .nil) .nil) (.node (o199_3 P) .nil .nil)) (.node (o103_1 P) (.node (o167_2 P) (.node (o295_4 P) .nil .nil) .nil) (.node (o231_4 P) .nil .nil))) (.node (o55_0 P) (.node (o87_1 P) (.node (o151_2 P) (.node (o279_4 P) .nil .nil) .nil) (.node (o215_3 P) .nil .nil)) (.node (o119_1 P) (.node (o183_2 P) (.node (o311_4 P) .nil .nil) .nil) (.node (o247_4 P) .nil .nil))))) (.node (o11a P) (.node (o19_0 P) (.node (o35_0 P) (.node (o67_0 P) (.node (o131_1 P) (.node (o259_4 P) .nil .nil) .nil) (.node (o195_3 P) .nil .nil)) (.node (o99_1 P) (.node (o163_2 P) (.node (o291_4 P) .nil .nil) .nil) (.node (o227_3 P) .nil .nil))) (.node (o51_0 P) (.node (o83_1 P) (.node (o147_1 P) (.node (o275_4 P) .nil .nil) .nil) (.node (o211_3 P) .nil .nil)) (.node (o115_1 P) (.node (o179_2 P) (.node (o307_4 P) .nil .nil) .nil) (.node (o243_4 P) .nil .nil)))) (.node (o27_0 P) (.node (o43_0 P) (.node (o75_0 P) (.node (o139_1 P) (.node (o267_4 P) .nil .nil) .nil) (.node (o203_3 P) .nil .nil)) (.node (o107_1 P) (.node (o171_2 P) (.node (o299_4 P) .nil .nil) .nil) (.node (o235_4 P) .nil .nil))) (.node (o59_0 P) (.node (o91_1 P) (.node (o155_2 P) (.node (o283_4 P) .nil .nil) .nil) (.node (o219_3 P) .nil .nil)) (.node (o123_1 P) (.node (o187_4 P) .nil .nil) (.node (o251_4 P) .nil .nil)))))) (.node (boot_o_5 P) (.node (boot_o_9 P) (.node (o17_0 P) (.node (o33_0 P) (.node (o65_0 P) (.node (o129_1 P) (.node (o257_4 P) .nil .nil) .nil) (.node (o193_3 P) .nil .nil)) (.node (o97_1 P) (.node (o161_2 P) (.node (o289_4 P) .nil .nil) .nil) (.node (o225_3 P) .nil .nil))) (.node (o49_0 P) (.node (o81_1 P) (.node (o145_1 P) (.node (o273_4 P) .nil .nil) .nil) (.node (o209_3 P) .nil .nil)) (.node (o113_1 P) (.node (o177_2 P) (.node (o305_4 P) .nil .nil) .nil) (.node (o241_4 P) .nil .nil)))) (.node (o25_0 P) (.node (o41_0 P) (.node (o73_0 P) (.node (o137_1 P) (.node (o265_4 P) .nil .nil) .nil) (.node (o201_3 P) .nil .nil)) (.node (o105_1 P) (.node (o169_2 P) (.node (o297_4 P) .nil .nil) .nil) (.node (o233_4 P) .nil .nil))) (.node (o57_0 P) (.node (o89_1 P) (.node (o153_2 P) (.node (o281_4 P) .nil .nil) .nil) (.node (o217_3 P) .nil .nil)) (.node (o121_1 P) (.node (o185_2 P) .nil .nil) (.node (o249_4 P) .nil .nil))))) (.node (o13a P) (.node (o21_0 P) (.node (o37_0 P) (.node (o69_0 P) (.node (o133_1 P) (.node (o261_4 P) .nil .nil) .nil) (.node (o197_3 P) .nil .nil)) (.node (o101_1 P) (.node (o165_2 P) (.node (o293_4 P) .nil .nil) .nil) (.node (o229_3 P) .nil .nil))) (.node (o53_0 P) (.node (o85_1 P) (.node (o149_1 P) (.node (o277_4 P) .nil .nil) .nil) (.node (o213_3 P) .nil .nil)) (.node (o117_1 P) (.node (o181_2 P) (.node (o309_4 P) .nil .nil) .nil) (.node (o245_4 P) .nil .nil)))) (.node (o29_0 P) (.node (o45_0 P) (.node (o77_0 P) (.node (o141_1 P) (.node (o269_4 P) .nil .nil) .nil) (.node (o205_3 P) .nil .nil)) (.node (o109_1 P) (.node (o173_2 P) (.node (o301_4 P) .nil .nil) .nil) (.node (o237_4 P) .nil .nil))) (.node (o61_0 P) (.node (o93_1 P) (.node (o157_2 P) (.node (o285_4 P) .nil .nil) .nil) (.node (o221_3 P) .nil .nil)) (.node (o125_1 P) (.node (o189_2 P) .nil .nil) (.node (o253_4 P) .nil .nil))))))) (.node (boot_o_2 P) (.node (boot_o_4 P) (.node (boot_o_8 P) (.node (o16_0 P) (.node (o32_0 P) (.node (o64_0 P) (.node (o128_1 P) (.node (o256_4 P) .nil .nil) .nil) (.node (o192_3 P) .nil .nil)) (.node (o96_1 P) (.node (o160_2 P) (.node (o288_4 P) .nil .nil) .nil) (.node (o224_3 P) .nil .nil))) (.node (o48_0 P) (.node (o80_1 P) (.node (o144_1 P) (.node (o272_4 P) .nil .nil) .nil) (.node (o208_3 P) .nil .nil)) (.node (o112_1 P) (.node (o176_2 P) (.node (o304_4 P) .nil .nil) .nil) (.node (o240_4 P) .nil .nil)))) (.node (o24_0 P) (.node (o40_0 P) (.node (o72_0 P) (.node (o136_1 P) (.node (o264_4 P) .nil .nil) .nil) (.node (o200_3 P) .nil .nil)) (.node (o104_1 P) (.node (o168_2 P) (.node (o296_4 P) .nil .nil) .nil) (.node (o232_4 P) .nil .nil))) (.node (o56_0 P) (.node (o88_1 P) (.node (o152_2 P) (.node (o280_4 P) .nil .nil) .nil) (.node (o216_3 P) .nil .nil)) (.node (o120_1 P) (.node (o184_2 P) .nil .nil) (.node (o248_4 P) .nil .nil))))) (.node (o12_4 P) (.node (o20_0 P) (.node (o36_0 P) (.node (o68_0 P) (.node (o132_1 P) (.node (o260_4 P) .nil .nil) .nil) (.node (o196_3 P) .nil .nil)) (.node (o100_1 P) (.node (o164_2 P) (.node (o292_4 P) .nil .nil) .nil) (.node (o228_3 P) .nil .nil))) (.node (o52_0 P) (.node (o84_1 P) (.node (o148_1 P) (.node (o276_4 P) .nil .nil) .nil) (.node (o212_3 P) .nil .nil)) (.node (o116_1 P) (.node (o180_2 P) (.node (o308_4 P) .nil .nil) .nil) (.node (o244_4 P) .nil .nil)))) (.node (o28_0 P) (.node (o44_0 P) (.node (o76_0 P) (.node (o140_1 P) (.node (o268_4 P) .nil .nil) .nil) (.node (o204_3 P) .nil .nil)) (.node (o108_1 P) (.node (o172_2 P) (.node (o300_4 P) .nil .nil) .nil) (.node (o236_4 P) .nil .nil))) (.node (o60_0 P) (.node (o92_1 P) (.node (o156_2 P) (.node (o284_4 P) .nil .nil) .nil) (.node (o220_3 P) .nil .nil)) (.node (o124_1 P) (.node (o188_2 P) .nil .nil) (.node (o252_4 P) .nil .nil)))))) (.node (boot_o_6 P) (.node (boot_o_10 P) (.node (o18_0 P) (.node (o34_0 P) (.node (o66_0 P) (.node (o130_1 P) (.node (o258_4 P) .nil .nil) .nil) (.node (o194_3 P) .nil .nil)) (.node (o98_1 P) (.node (o162_2 P) (.node (o290_4 P) .nil .nil) .nil) (.node (o226_3 P) .nil .nil))) (.node (o50_0 P) (.node (o82_1 P) (.node (o146_1 P) (.node (o274_4 P) .nil .nil) .nil) (.node (o210_3 P) .nil .nil)) (.node (o114_1 P) (.node (o178_2 P) (.node (o306_4 P) .nil .nil) .nil) (.node (o242_4 P) .nil .nil)))) (.node (o26_0 P) (.node (o42_0 P) (.node (o74_0 P) (.node (o138_1 P) (.node (o266_4 P) .nil .nil) .nil) (.node (o202_3 P) .nil .nil)) (.node (o106_1 P) (.node (o170_2 P) (.node (o298_4 P) .nil .nil) .nil) (.node (o234_4 P) .nil .nil))) (.node (o58_0 P) (.node (o90_1 P) (.node (o154_2 P) (.node (o282_4 P) .nil .nil) .nil) (.node (o218_3 P) .nil .nil)) (.node (o122_1 P) (.node (o186_2 P) .nil .nil) (.node (o250_4 P) .nil .nil))))) (.node (o14a P) (.node (o22_0 P) (.node (o38_0 P) (.node (o70_0 P) (.node (o134_1 P) (.node (o262_4 P) .nil .nil) .nil) (.node (o198_3 P) .nil .nil)) (.node (o102_1 P) (.node (o166_2 P) (.node (o294_4 P) .nil .nil) .nil) (.node (o230_4 P) .nil .nil))) (.node (o54_0 P) (.node (o86_1 P) (.node (o150_2 P) (.node (o278_4 P) .nil .nil) .nil) (.node (o214_3 P) .nil .nil)) (.node (o118_1 P) (.node (o182_2 P) (.node (o310_4 P) .nil .nil) .nil) (.node (o246_4 P) .nil .nil)))) (.node (o30_0 P) (.node (o46_0 P) (.node (o78_0 P) (.node (o142_1 P) (.node (o270_4 P) .nil .nil) .nil) (.node (o206_3 P) .nil .nil)) (.node (o110_1 P) (.node (o174_2 P) (.node (o302_4 P) .nil .nil) .nil) (.node (o238_4 P) .nil .nil))) (.node (o62_0 P) (.node (o94_1 P) (.node (o158_2 P) (.node (o286_4 P) .nil .nil) .nil) (.node (o222_3 P) .nil .nil)) (.node (o126_1 P) (.node (o190_3 P) .nil .nil) (.node (o254_4 P) .nil .nil))))))))
def S4 (w : World) (os : OsState) : SharedT := ⟨T4 w.params, 312, (PySem.Life.mk [] [] [] 0 [] [] false #[] [] 0 false false false 0 [2000, 10, 10] false 0 true [] [] 0 false), ⟨[]⟩, (PySem.Drawn.mk 0 0 0 0), 565, os⟩
def T5 (P : Params) : BT := (.node (boot_o_0 P) (.node (boot_o_1 P) (.node (o3_5 P) (.node (boot_o_7 P) (.node (o15_0 P) (.node (o31_0 P) (.node (o63_1 P) (.node (o127_1 P) (.node (o255_4 P) .nil .nil) (.node (o383_5 P) .nil .nil)) (.node (o191_3 P) (.node (o319_5 P) .nil .nil) .nil)) (.node (o95_1 P) (.node (o159_3 P) (.node (o287_4 P) .nil .nil) .nil) (.node (o223_3 P) (.node (o351_5 P) .nil .nil) .nil))) (.node (o47_0 P) (.node (o79_1 P) (.node (o143_1 P) (.node (o271_4 P) .nil .nil) (.node (o399_5 P) .nil .nil)) (.node (o207_3 P) (.node (o335_5 P) .nil .nil) .nil)) (.node (o111_1 P) (.node (o175_2 P) (.node (o303_4 P) .nil .nil) .nil) (.node (o239_4 P) (.node (o367_5 P) .nil .nil) .nil)))) (.node (o23_0 P) (.node (o39_0 P) (.node (o71_0 P) (.node (o135_1 P) (.node (o263_4 P) .nil .nil) (.node (o391_5 P) .nil .nil)) (.node (o199_3 P) (.node (o327_5 P) .nil .nil) .nil)) (.node (o103_1 P) (.node (o167_2 P) (.node (o295_4 P) .nil .nil) .nil) (.node (o231_4 P) (.node (o359_5 P) .nil .nil) .nil))) (.node (o55_0 P) (.node (o87_1 P) (.node (o151_2 P) (.node (o279_4 P) .nil .nil) .nil) (.node (o215_3 P) (.node (o343_5 P) .nil .nil) .nil)) (.node (o119_1 P) (.node (o183_2 P) (.node (o311_4 P) .nil .nil) .nil) (.node (o247_4 P) (.node (o375_5 P) .nil .nil) .nil))))) (.node (o11a P) (.node (o19_0 P) (.node (o35_0 P) (.node (o67_0 P) (.node (o131_1 P) (.node (o259_4 P) .nil .nil) (.node (o387_5 P) .nil .nil)) (.node (o195_3 P) (.node (o323_5 P) .nil .nil) .nil)) (.node (o99_1 P) (.node (o163_2 P) (.node (o291_4 P) .nil .nil) .nil) (.node (o227_3 P) (.node (o355_5 P) .nil .nil) .nil))) (.node (o51_0 P) (.node (o83_1 P) (.node (o147_1 P) (.node (o275_4 P) .nil .nil) .nil) (.node (o211_3 P) (.node (o339_5 P) .nil .nil) .nil)) (.node (o115_1 P) (.node (o179_2 P) (.node (o307_4 P) .nil .nil) .nil) (.node (o243_4 P) (.node (o371_5 P) .nil .nil) .nil)))) (.node (o27_0 P) (.node (o43_0 P) (.node (o75_0 P) (.node (o139_1 P) (.node (o267_4 P) .nil .nil) (.node (o395_5 P) .nil .nil)) (.node (o203_3 P) (.node (o331_5 P) .nil .nil) .nil)) (.node (o107_1 P) (.node (o171_2 P) (.node (o299_4 P) .nil .nil) .nil) (.node (o235_4 P) (.node (o363_5 P) .nil .nil) .nil))) (.node (o59_0 P) (.node (o91_1 P) (.node (o155_2 P) (.node (o283_4 P) .nil .nil) .nil) (.node (o219_3 P) (.node (o347_5 P) .nil .nil) .nil)) (.node (o123_1 P) (.node (o187_5 P) (.node (o315_5 P) .nil .nil) .nil) (.node (o251_4 P) (.node (o379_5 P) .nil .nil) .nil)))))) (.node (boot_o_5 P) (.node (boot_o_9 P) (.node (o17_0 P) (.node (o33_0 P) (.node (o65_0 P) (.node (o129_1 P) (.node (o257_4 P) .nil .nil) (.node (o385_5 P) .nil .nil)) (.node (o193_3 P) (.node (o321_5 P) .nil .nil) .nil)) (.node (o97_1 P) (.node (o161_2 P) (.node (o289_4 P) .nil .nil) .nil) (.node (o225_3 P) (.node (o353_5 P) .nil .nil) .nil))) (.node (o49_0 P) (.node (o81_1 P) (.node (o145_1 P) (.node (o273_4 P) .nil .nil) .nil) (.node (o209_3 P) (.node (o337_5 P) .nil .nil) .nil)) (.node (o113_1 P) (.node (o177_2 P) (.node (o305_4 P) .nil .nil) .nil) (.node (o241_4 P) (.node (o369_5 P) .nil .nil) .nil)))) (.node (o25_0 P) (.node (o41_0 P) (.node (o73_0 P) (.node (o137_1 P) (.node (o265_4 P) .nil .nil) (.node (o393_5 P) .nil .nil)) (.node (o201_3 P) (.node (o329_5 P) .nil .nil) .nil)) (.node (o105_1 P) (.node (o169_2 P) (.node (o297_4 P) .nil .nil) .nil) (.node (o233_4 P) (.node (o361_5 P) .nil .nil) .nil))) (.node (o57_0 P) (.node (o89_1 P) (.node (o153_2 P) (.node (o281_4 P) .nil .nil) .nil) (.node (o217_3 P) (.node (o345_5 P) .nil .nil) .nil)) (.node (o121_1 P) (.node (o185_2 P) (.node (o313_5 P) .nil .nil) .nil) (.node (o249_4 P) (.node (o377_5 P) .nil .nil) .nil))))) (.node (o13a P) (.node (o21_0 P) (.node (o37_0 P) (.node (o69_0 P) (.node (o133_1 P) (.node (o261_4 P) .nil .nil) (.node (o389_5 P) .nil .nil)) (.node (o197_3 P) (.node (o325_5 P) .nil .nil) .nil)) (.node (o101_1 P) (.node (o165_2 P) (.node (o293_4 P) .nil .nil) .nil) (.node (o229_3 P) (.node (o357_5 P) .nil .nil) .nil))) (.node (o53_0 P) (.node (o85_1 P) (.node (o149_1 P) (.node (o277_4 P) .nil .nil) .nil) (.node (o213_3 P) (.node (o341_5 P) .nil .nil) .nil)) (.node (o117_1 P) (.node (o181_2 P) (.node (o309_4 P) .nil .nil) .nil) (.node (o245_4 P) (.node (o373_5 P) .nil .nil) .nil)))) (.node (o29_0 P) (.node (o45_0 P) (.node (o77_0 P) (.node (o141_1 P) (.node (o269_4 P) .nil .nil) (.node (o397_5 P) .nil .nil)) (.node (o205_3 P) (.node (o333_5 P) .nil .nil) .nil)) (.node (o109_1 P) (.node (o173_2 P) (.node (o301_4 P) .nil .nil) .nil) (.node (o237_4 P) (.node (o365_5 P) .nil .nil) .nil))) (.node (o61_0 P) (.node (o93_1 P) (.node (o157_2 P) (.node (o285_4 P) .nil .nil) .nil) (.node (o221_3 P) (.node (o349_5 P) .nil .nil) .nil)) (.node (o125_1 P) (.node (o189_2 P) (.node (o317_5 P) .nil .nil) .nil) (.node (o253_4 P) (.node (o381_5 P) .nil .nil) .nil))))))) (.node (boot_o_2 P) (.node (boot_o_4 P) (.node (boot_o_8 P) (.node (o16_0 P) (.node (o32_0 P) (.node (o64_0 P) (.node (o128_1 P) (.node (o256_4 P) .nil .nil) (.node (o384_5 P) .nil .nil)) (.node (o192_3 P) (.node (o320_5 P) .nil .nil) .nil)) (.node (o96_1 P) (.node (o160_2 P) (.node (o288_4 P) .nil .nil) .nil) (.node (o224_3 P) (.node (o352_5 P) .nil .nil) .nil))) (.node (o48_0 P) (.node (o80_1 P) (.node (o144_1 P) (.node (o272_4 P) .nil .nil) (.node (o400_5 P) .nil .nil)) (.node (o208_3 P) (.node (o336_5 P) .nil .nil) .nil)) (.node (o112_1 P) (.node (o176_2 P) (.node (o304_4 P) .nil .nil) .nil) (.node (o240_4 P) (.node (o368_5 P) .nil .nil) .nil)))) (.node (o24_0 P) (.node (o40_0 P) (.node (o72_0 P) (.node (o136_1 P) (.node (o264_4 P) .nil .nil) (.node (o392_5 P) .nil .nil)) (.node (o200_3 P) (.node (o328_5 P) .nil .nil) .nil)) (.node (o104_1 P) (.node (o168_2 P) (.node (o296_4 P) .nil .nil) .nil) (.node (o232_4 P) (.node (o360_5 P) .nil .nil) .nil))) (.node (o56_0 P) (.node (o88_1 P) (.node (o152_2 P) (.node (o280_4 P) .nil .nil) .nil) (.node (o216_3 P) (.node (o344_5 P) .nil .nil) .nil)) (.node (o120_1 P) (.node (o184_2 P) (.node (o312_5 P) .nil .nil) .nil) (.node (o248_4 P) (.node (o376_5 P) .nil .nil) .nil))))) (.node (o12_5 P) (.node (o20_0 P) (.node (o36_0 P) (.node (o68_0 P) (.node (o132_1 P) (.node (o260_4 P) .nil .nil) (.node (o388_5 P) .nil .nil)) (.node (o196_3 P) (.node (o324_5 P) .nil .nil) .nil)) (.node (o100_1 P) (.node (o164_2 P) (.node (o292_4 P) .nil .nil) .nil) (.node (o228_3 P) (.node (o356_5 P) .nil .nil) .nil))) (.node (o52_0 P) (.node (o84_1 P) (.node (o148_1 P) (.node (o276_4 P) .nil .nil) .nil) (.node (o212_3 P) (.node (o340_5 P) .nil .nil) .nil)) (.node (o116_1 P) (.node (o180_2 P) (.node (o308_4 P) .nil .nil) .nil) (.node (o244_4 P) (.node (o372_5 P) .nil .nil) .nil)))) (.node (o28_0 P) (.node (o44_0 P) (.node (o76_0 P) (.node (o140_1 P) (.node (o268_4 P) .nil .nil) (.node (o396_5 P) .nil .nil)) (.node (o204_3 P) (.node (o332_5 P) .nil .nil) .nil)) (.node (o108_1 P) (.node (o172_2 P) (.node (o300_4 P) .nil .nil) .nil) (.node (o236_4 P) (.node (o364_5 P) .nil .nil) .nil))) (.node (o60_0 P) (.node (o92_1 P) (.node (o156_2 P) (.node (o284_4 P) .nil .nil) .nil) (.node (o220_3 P) (.node (o348_5 P) .nil .nil) .nil)) (.node (o124_1 P) (.node (o188_2 P) (.node (o316_5 P) .nil .nil) .nil) (.node (o252_4 P) (.node (o380_5 P) .nil .nil) .nil)))))) (.node (boot_o_6 P) (.node (boot_o_10 P) (.node (o18_0 P) (.node (o34_0 P) (.node (o66_0 P) (.node (o130_1 P) (.node (o258_4 P) .nil .nil) (.node (o386_5 P) .nil .nil)) (.node (o194_3 P) (.node (o322_5 P) .nil .nil) .nil)) (.node (o98_1 P) (.node (o162_2 P) (.node (o290_4 P) .nil .nil) .nil) (.node (o226_3 P) (.node (o354_5 P) .nil .nil) .nil))) (.node (o50_0 P) (.node (o82_1 P) (.node (o146_1 P) (.node (o274_4 P) .nil .nil) .nil) (.node (o210_3 P) (.node (o338_5 P) .nil .nil) .nil)) (.node (o114_1 P) (.node (o178_2 P) (.node (o306_4 P) .nil .nil) .nil) (.node (o242_4 P) (.node (o370_5 P) .nil .nil) .nil)))) (.node (o26_0 P) (.node (o42_0 P) (.node (o74_0 P) (.node (o138_1 P) (.node (o266_4 P) .nil .nil) (.node (o394_5 P) .nil .nil)) (.node (o202_3 P) (.node (o330_5 P) .nil .nil) .nil)) (.node (o106_1 P) (.node (o170_2 P) (.node (o298_4 P) .nil .nil) .nil) (.node (o234_4 P) (.node (o362_5 P) .nil .nil) .nil))) (.node (o58_0 P) (.node (o90_1 P) (.node (o154_2 P) (.node (o282_4 P) .nil .nil) .nil) (.node (o218_3 P) (.node (o346_5 P) .nil .nil) .nil)) (.node (o122_1 P) (.node (o186_2 P) (.node (o314_5 P) .nil .nil) .nil) (.node (o250_4 P) (.node (o378_5 P) .nil .nil) .nil))))) (.node (o14a P) (.node (o22_0 P) (.node (o38_0 P) (.node (o70_0 P) (.node (o134_1 P) (.node (o262_4 P) .nil .nil) (.node (o390_5 P) .nil .nil)) (.node (o198_3 P) (.node (o326_5 P) .nil .nil) .nil)) (.node (o102_1 P) (.node (o166_2 P) (.node (o294_4 P) .nil .nil) .nil) (.node (o230_4 P) (.node (o358_5 P) .nil .nil) .nil))) (.node (o54_0 P) (.node (o86_1 P) (.node (o150_2 P) (.node (o278_4 P) .nil .nil) .nil) (.node (o214_3 P) (.node (o342_5 P) .nil .nil) .nil)) (.node (o118_1 P) (.node (o182_2 P) (.node (o310_4 P) .nil .nil) .nil) (.node (o246_4 P) (.node (o374_5 P) .nil .nil) .nil)))) (.node (o30_0 P) (.node (o46_0 P) (.node (o78_0 P) (.node (o142_1 P) (.node (o270_4 P) .nil .nil) (.node (o398_5 P) .nil .nil)) (.node (o206_3 P) (.node (o334_5 P) .nil .nil) .nil)) (.node (o110_1 P) (.node (o174_2 P) (.node (o302_4 P) .nil .nil) .nil) (.node (o238_4 P) (.node (o366_5 P) .nil .nil) .nil))) (.node (o62_0 P) (.node (o94_1 P) (.node (o158_2 P) (.node (o286_4 P) .nil .nil) .nil) (.node (o222_3 P) (.node (o350_5 P) .nil .nil) .nil)) (.node (o126_1 P) (.node (o190_3 P) (.node (o318_5 P) .nil .nil) .nil) (.node (o254_4 P) (.node (o382_5 P) .nil .nil) .nil))))))))
def S5 (w : World) (os : OsState) : SharedT := ⟨T5 w.params, 401, (PySem.Life.mk [] [] [] 0 [] [] false #[] [] 0 false false false 0 [2000, 10, 10] false 0 true [] [] 0 false), ⟨[]⟩, (PySem.Drawn.mk 0 0 0 0), 670, os⟩
def T6 (P : Params) : BT := (.node (boot_o_0 P) (.node (boot_o_1 P) (.node (o3_6 P) (.node (boot_o_7 P) (.node (o15_0 P) (.node (o31_0 P) (.node (o63_1 P) (.node (o127_1 P) (.node (o255_4 P) .nil .nil) (.node (o383_5 P) .nil .nil)) (.node (o191_3 P) (.node (o319_5 P) .nil .nil) (.node (o447_6 P) .nil .nil))) (.node (o95_1 P) (.node (o159_3 P) (.node (o287_4 P) .nil .nil) (.node (o415_6 P) .nil .nil)) (.node (o223_3 P) (.node (o351_5 P) .nil .nil) .nil))) (.node (o47_0 P) (.node (o79_1 P) (.node (o143_1 P) (.node (o271_4 P) .nil .nil) (.node (o399_5 P) .nil .nil)) (.node (o207_3 P) (.node (o335_5 P) .nil .nil) (.node (o463_6 P) .nil .nil))) (.node (o111_1 P) (.node (o175_2 P) (.node (o303_4 P) .nil .nil) (.node (o431_6 P) .nil .nil)) (.node (o239_4 P) (.node (o367_5 P) .nil .nil) .nil)))) (.node (o23_0 P) (.node (o39_0 P) (.node (o71_0 P) (.node (o135_1 P) (.node (o263_4 P) .nil .nil) (.node (o391_5 P) .nil .nil)) (.node (o199_3 P) (.node (o327_5 P) .nil .nil) (.node (o455_6 P) .nil .nil))) (.node (o103_1 P) (.node (o167_2 P) (.node (o295_4 P) .nil .nil) (.node (o423_6 P) .nil .nil)) (.node (o231_4 P) (.node (o359_5 P) .nil .nil) .nil))) (.node (o55_0 P) (.node (o87_1 P) (.node (o151_2 P) (.node (o279_4 P) .nil .nil) (.node (o407_6 P) .nil .nil)) (.node (o215_3 P) (.node (o343_5 P) .nil .nil) .nil)) (.node (o119_1 P) (.node (o183_2 P) (.node (o311_4 P) .nil .nil) (.node (o439_6 P) .nil .nil)) (.node (o247_4 P) (.node (o375_5 P) .nil .nil) .nil))))) (.node (o11a P) (.node (o19_0 P) (.node (o35_0 P) (.node (o67_0 P) (.node (o131_1 P) (.node (o259_4 P) .nil .nil) (.node (o387_5 P) .nil .nil)) (.node (o195_3 P) (.node (o323_5 P) .nil .nil) (.node (o451_6 P) .nil .nil))) (.node (o99_1 P) (.node (o163_2 P) (.node (o291_4 P) .nil .nil) (.node (o419_6 P) .nil .nil)) (.node (o227_6 P) (.node (o355_5 P) .nil .nil) .nil))) (.node (o51_0 P) (.node (o83_1 P) (.node (o147_1 P) (.node (o275_4 P) .nil .nil) (.node (o403_6 P) .nil .nil)) (.node (o211_3 P) (.node (o339_5 P) .nil .nil) (.node (o467_6 P) .nil .nil))) (.node (o115_1 P) (.node (o179_2 P) (.node (o307_4 P) .nil .nil) (.node (o435_6 P) .nil .nil)) (.node (o243_4 P) (.node (o371_5 P) .nil .nil) .nil)))) (.node (o27_0 P) (.node (o43_0 P) (.node (o75_0 P) (.node (o139_1 P) (.node (o267_4 P) .nil .nil) (.node (o395_5 P) .nil .nil)) (.node (o203_3 P) (.node (o331_5 P) .nil .nil) (.node (o459_6 P) .nil .nil))) (.node (o107_1 P) (.node (o171_2 P) (.node (o299_4 P) .nil .nil) (.node (o427_6 P) .nil .nil)) (.node (o235_4 P) (.node (o363_5 P) .nil .nil) .nil))) (.node (o59_0 P) (.node (o91_1 P) (.node (o155_2 P) (.node (o283_4 P) .nil .nil) (.node (o411_6 P) .nil .nil)) (.node (o219_3 P) (.node (o347_5 P) .nil .nil) .nil)) (.node (o123_1 P) (.node (o187_5 P) (.node (o315_5 P) .nil .nil) (.node (o443_6 P) .nil .nil)) (.node (o251_4 P) (.node (o379_5 P) .nil .nil) .nil)))))) (.node (boot_o_5 P) (.node (boot_o_9 P) (.node (o17_0 P) (.node (o33_0 P) (.node (o65_0 P) (.node (o129_1 P) (.node (o257_4 P) .nil .nil) (.node (o385_5 P) .nil .nil)) (.node (o193_3 P) (.node (o321_5 P) .nil .nil) (.node (o449_6 P) .nil .nil))) (.node (o97_1 P) (.node (o161_2 P) (.node (o289_4 P) .nil .nil) (.node (o417_6 P) .nil .nil)) (.node (o225_3 P) (.node (o353_5 P) .nil .nil) .nil))) (.node (o49_0 P) (.node (o81_1 P) (.node (o145_1 P) (.node (o273_4 P) .nil .nil) (.node (o401_6 P) .nil .nil)) (.node (o209_3 P) (.node (o337_5 P) .nil .nil) (.node (o465_6 P) .nil .nil))) (.node (o113_1 P) (.node (o177_2 P) (.node (o305_4 P) .nil .nil) (.node (o433_6 P) .nil .nil)) (.node (o241_4 P) (.node (o369_5 P) .nil .nil) .nil)))) (.node (o25_0 P) (.node (o41_0 P) (.node (o73_0 P) (.node (o137_1 P) (.node (o265_4 P) .nil .nil) (.node (o393_5 P) .nil .nil)) (.node (o201_3 P) (.node (o329_5 P) .nil .nil) (.node (o457_6 P) .nil .nil))) (.node (o105_1 P) (.node (o169_2 P) (.node (o297_4 P) .nil .nil) (.node (o425_6 P) .nil .nil)) (.node (o233_4 P) (.node (o361_5 P) .nil .nil) .nil))) (.node (o57_0 P) (.node (o89_1 P) (.node (o153_2 P) (.node (o281_4 P) .nil .nil) (.node (o409_6 P) .nil .nil)) (.node (o217_3 P) (.node (o345_5 P) .nil .nil) .nil)) (.node (o121_1 P) (.node (o185_2 P) (.node (o313_5 P) .nil .nil) (.node (o441_6 P) .nil .nil)) (.node (o249_4 P) (.node (o377_5 P) .nil .nil) .nil))))) (.node (o13a P) (.node (o21_0 P) (.node (o37_0 P) (.node (o69_0 P) (.node (o133_1 P) (.node (o261_4 P) .nil .nil) (.node (o389_5 P) .nil .nil)) (.node (o197_3 P) (.node (o325_5 P) .nil .nil) (.node (o453_6 P) .nil .nil))) (.node (o101_1 P) (.node (o165_2 P) (.node (o293_4 P) .nil .nil) (.node (o421_6 P) .nil .nil)) (.node (o229_3 P) (.node (o357_5 P) .nil .nil) .nil))) (.node (o53_0 P) (.node (o85_1 P) (.node (o149_1 P) (.node (o277_4 P) .nil .nil) (.node (o405_6 P) .nil .nil)) (.node (o213_3 P) (.node (o341_5 P) .nil .nil) .nil)) (.node (o117_1 P) (.node (o181_2 P) (.node (o309_4 P) .nil .nil) (.node (o437_6 P) .nil .nil)) (.node (o245_4 P) (.node (o373_5 P) .nil .nil) .nil)))) (.node (o29_0 P) (.node (o45_0 P) (.node (o77_0 P) (.node (o141_1 P) (.node (o269_4 P) .nil .nil) (.node (o397_5 P) .nil .nil)) (.node (o205_3 P) (.node (o333_5 P) .nil .nil) (.node (o461_6 P) .nil .nil))) (.node (o109_1 P) (.node (o173_2 P) (.node (o301_4 P) .nil .nil) (.node (o429_6 P) .nil .nil)) (.node (o237_4 P) (.node (o365_5 P) .nil .nil) .nil))) (.node (o61_0 P) (.node (o93_1 P) (.node (o157_2 P) (.node (o285_4 P) .nil .nil) (.node (o413_6 P) .nil .nil)) (.node (o221_3 P) (.node (o349_5 P) .nil .nil) .nil)) (.node (o125_1 P) (.node (o189_2 P) (.node (o317_5 P) .nil .nil) (.node (o445_6 P) .nil .nil)) (.node (o253_4 P) (.node (o381_5 P) .nil .nil) .nil))))))) (.node (boot_o_2 P) (.node (boot_o_4 P) (.node (boot_o_8 P) (.node (o16_0 P) (.node (o32_0 P) (.node (o64_0 P) (.node (o128_1 P) (.node (o256_4 P) .nil .nil) (.node (o384_5 P) .nil .nil)) (.node (o192_3 P) (.node (o320_5 P) .nil .nil) (.node (o448_6 P) .nil .nil))) (.node (o96_1 P) (.node (o160_2 P) (.node (o288_4 P) .nil .nil) (.node (o416_6 P) .nil .nil)) (.node (o224_3 P) (.node (o352_5 P) .nil .nil) .nil))) (.node (o48_0 P) (.node (o80_1 P) (.node (o144_1 P) (.node (o272_4 P) .nil .nil) (.node (o400_5 P) .nil .nil)) (.node (o208_3 P) (.node (o336_5 P) .nil .nil) (.node (o464_6 P) .nil .nil))) (.node (o112_1 P) (.node (o176_2 P) (.node (o304_4 P) .nil .nil) (.node (o432_6 P) .nil .nil)) (.node (o240_4 P) (.node (o368_5 P) .nil .nil) .nil)))) (.node (o24_0 P) (.node (o40_0 P) (.node (o72_0 P) (.node (o136_1 P) (.node (o264_4 P) .nil .nil) (.node (o392_5 P) .nil .nil)) (.node (o200_3 P) (.node (o328_5 P) .nil .nil) (.node (o456_6 P) .nil .nil))) (.node (o104_1 P) (.node (o168_2 P) (.node (o296_4 P) .nil .nil) (.node (o424_6 P) .nil .nil)) (.node (o232_4 P) (.node (o360_5 P) .nil .nil) .nil))) (.node (o56_0 P) (.node (o88_1 P) (.node (o152_2 P) (.node (o280_4 P) .nil .nil) (.node (o408_6 P) .nil .nil)) (.node (o216_3 P) (.node (o344_5 P) .nil .nil) .nil)) (.node (o120_1 P) (.node (o184_2 P) (.node (o312_5 P) .nil .nil) (.node (o440_6 P) .nil .nil)) (.node (o248_4 P) (.node (o376_5 P) .nil .nil) .nil))))) (.node (o12_6 P) (.node (o20_0 P) (.node (o36_0 P) (.node (o68_0 P) (.node (o132_1 P) (.node (o260_4 P) .nil .nil) (.node (o388_5 P) .nil .nil)) (.node (o196_3 P) (.node (o324_5 P) .nil .nil) (.node (o452_6 P) .nil .nil))) (.node (o100_1 P) (.node (o164_2 P) (.node (o292_4 P) .nil .nil) (.node (o420_6 P) .nil .nil)) (.node (o228_3 P) (.node (o356_5 P) .nil .nil) .nil))) (.node (o52_0 P) (.node (o84_1 P) (.node (o148_1 P) (.node (o276_4 P) .nil .nil) (.node (o404_6 P) .nil .nil)) (.node (o212_3 P) (.node (o340_5 P) .nil .nil) (.node (o468_6 P) .nil .nil))) (.node (o116_1 P) (.node (o180_2 P) (.node (o308_4 P) .nil .nil) (.node (o436_6 P) .nil .nil)) (.node (o244_4 P) (.node (o372_5 P) .nil .nil) .nil)))) (.node (o28_0 P) (.node (o44_0 P) (.node (o76_0 P) (.node (o140_1 P) (.node (o268_4 P) .nil .nil) (.node (o396_5 P) .nil .nil)) (.node (o204_3 P) (.node (o332_5 P) .nil .nil) (.node (o460_6 P) .nil .nil))) (.node (o108_1 P) (.node (o172_2 P) (.node (o300_4 P) .nil .nil) (.node (o428_6 P) .nil .nil)) (.node (o236_4 P) (.node (o364_5 P) .nil .nil) .nil))) (.node (o60_0 P) (.node (o92_1 P) (.node (o156_2 P) (.node (o284_4 P) .nil .nil) (.node (o412_6 P) .nil .nil)) (.node (o220_3 P) (.node (o348_5 P) .nil .nil) .nil)) (.node (o124_1 P) (.node (o188_2 P) (.node (o316_5 P) .nil .nil) (.node (o444_6 P) .nil .nil)) (.node (o252_4 P) (.node (o380_5 P) .nil .nil) .nil)))))) (.node (boot_o_6 P) (.node (boot_o_10 P) (.node (o18_0 P) (.node (o34_0 P) (.node (o66_0 P) (.node (o130_1 P) (.node (o258_4 P) .nil .nil) (.node (o386_5 P) .nil .nil)) (.node (o194_3 P) (.node (o322_5 P) .nil .nil) (.node (o450_6 P) .nil .nil))) (.node (o98_1 P) (.node (o162_2 P) (.node (o290_4 P) .nil .nil) (.node (o418_6 P) .nil .nil)) (.node (o226_3 P) (.node (o354_5 P) .nil .nil) .nil))) (.node (o50_0 P) (.node (o82_1 P) (.node (o146_1 P) (.node (o274_4 P) .nil .nil) (.node (o402_6 P) .nil .nil)) (.node (o210_3 P) (.node (o338_5 P) .nil .nil) (.node (o466_6 P) .nil .nil))) (.node (o114_1 P) (.node (o178_2 P) (.node (o306_4 P) .nil .nil) (.node (o434_6 P) .nil .nil)) (.node (o242_4 P) (.node (o370_5 P) .nil .nil) .nil)))) (.node (o26_0 P) (.node (o42_0 P) (.node (o74_0 P) (.node (o138_1 P) (.node (o266_4 P) .nil .nil) (.node (o394_5 P) .nil .nil)) (.node (o202_3 P) (.node (o330_5 P) .nil .nil) (.node (o458_6 P) .nil .nil))) (.node (o106_1 P) (.node (o170_2 P) (.node (o298_4 P) .nil .nil) (.node (o426_6 P) .nil .nil)) (.node (o234_4 P) (.node (o362_5 P) .nil .nil) .nil))) (.node (o58_0 P) (.node (o90_1 P) (.node (o154_2 P) (.node (o282_4 P) .nil .nil) (.node (o410_6 P) .nil .nil)) (.node (o218_3 P) (.node (o346_5 P) .nil .nil) .nil)) (.node (o122_1 P) (.node (o186_2 P) (.node (o314_5 P) .nil .nil) (.node (o442_6 P) .nil .nil)) (.node (o250_4 P) (.node (o378_5 P) .nil .nil) .nil))))) (.node (o14a P) (.node (o22_0 P) (.node (o38_0 P) (.node (o70_0 P) (.node (o134_1 P) (.node (o262_4 P) .nil .nil) (.node (o390_5 P) .nil .nil)) (.node (o198_3 P) (.node (o326_5 P) .nil .nil) (.node (o454_6 P) .nil .nil))) (.node (o102_1 P) (.node (o166_2 P) (.node (o294_4 P) .nil .nil) (.node (o422_6 P) .nil .nil)) (.node (o230_4 P) (.node (o358_5 P) .nil .nil) .nil))) (.node (o54_0 P) (.node (o86_1 P) (.node (o150_2 P) (.node (o278_4 P) .nil .nil) (.node (o406_6 P) .nil .nil)) (.node (o214_3 P) (.node (o342_5 P) .nil .nil) .nil)) (.node (o118_1 P) (.node (o182_2 P) (.node (o310_4 P) .nil .nil) (.node (o438_6 P) .nil .nil)) (.node (o246_4 P) (.node (o374_5 P) .nil .nil) .nil)))) (.node (o30_0 P) (.node (o46_0 P) (.node (o78_0 P) (.node (o142_1 P) (.node (o270_4 P) .nil .nil) (.node (o398_5 P) .nil .nil)) (.node (o206_3 P) (.node (o334_5 P) .nil .nil) (.node (o462_6 P) .nil .nil))) (.node (o110_1 P) (.node (o174_2 P) (.node (o302_4 P) .nil .nil) (.node (o430_6 P) .nil .nil)) (.node (o238_4 P) (.node (o366_5 P) .nil .nil) .nil))) (.node (o62_0 P) (.node (o94_1 P) (.node (o158_2 P) (.node (o286_4 P) .nil .nil) (.node (o414_6 P) .nil .nil)) (.node (o222_3 P) (.node (o350_5 P) .nil .nil) .nil)) (.node (o126_1 P) (.node (o190_3 P) (.node (o318_5 P) .nil .nil) (.node (o446_6 P) .nil .nil)) (.node (o254_4 P) (.node (o382_5 P) .nil .nil) .nil))))))))
def S6 (w : World) (os : OsState) : SharedT := ⟨T6 w.params, 469, (PySem.Life.mk [] [] [] 0 [] [] false #[] [] 0 false false false 0 [2000, 10, 10] false 0 true [] [] 0 false), ⟨[]⟩, (PySem.Drawn.mk 0 0 0 0), 749, os⟩
def T7 (P : Params) : BT := (.node (boot_o_0 P) (.node (boot_o_1 P) (.node (o3_7 P) (.node (boot_o_7 P) (.node (o15_0 P) (.node (o31_0 P) (.node (o63_1 P) (.node (o127_1 P) (.node (o255_4 P) (.node (o511_7 P) .nil .nil) .nil) (.node (o383_5 P) .nil .nil)) (.node (o191_3 P) (.node (o319_5 P) (.node (o575_7 P) .nil .nil) .nil) (.node (o447_6 P) .nil .nil))) (.node (o95_1 P) (.node (o159_3 P) (.node (o287_4 P) (.node (o543_7 P) .nil .nil) .nil) (.node (o415_6 P) .nil .nil)) (.node (o223_3 P) (.node (o351_5 P) .nil .nil) (.node (o479_7 P) .nil .nil)))) (.node (o47_0 P) (.node (o79_1 P) (.node (o143_1 P) (.node (o271_4 P) (.node (o527_7 P) .nil .nil) .nil) (.node (o399_5 P) .nil .nil)) (.node (o207_3 P) (.node (o335_5 P) (.node (o591_7 P) .nil .nil) .nil) (.node (o463_6 P) .nil .nil))) (.node (o111_1 P) (.node (o175_2 P) (.node (o303_4 P) (.node (o559_7 P) .nil .nil) .nil) (.node (o431_6 P) .nil .nil)) (.node (o239_4 P) (.node (o367_5 P) .nil .nil) (.node (o495_7 P) .nil .nil))))) (.node (o23_0 P) (.node (o39_0 P) (.node (o71_0 P) (.node (o135_1 P) (.node (o263_4 P) (.node (o519_7 P) .nil .nil) .nil) (.node (o391_5 P) .nil .nil)) (.node (o199_3 P) (.node (o327_5 P) (.node (o583_7 P) .nil .nil) .nil) (.node (o455_6 P) .nil .nil))) (.node (o103_1 P) (.node (o167_2 P) (.node (o295_4 P) (.node (o551_7 P) .nil .nil) .nil) (.node (o423_6 P) .nil .nil)) (.node (o231_4 P) (.node (o359_5 P) .nil .nil) (.node (o487_7 P) .nil .nil)))) (.node (o55_0 P) (.node (o87_1 P) (.node (o151_2 P) (.node (o279_4 P) (.node (o535_7 P) .nil .nil) .nil) (.node (o407_6 P) .nil .nil)) (.node (o215_3 P) (.node (o343_5 P) (.node (o599_7 P) .nil .nil) .nil) (.node (o471_7 P) .nil .nil))) (.node (o119_1 P) (.node (o183_2 P) (.node (o311_4 P) (.node (o567_7 P) .nil .nil) .nil) (.node (o439_6 P) .nil .nil)) (.node (o247_4 P) (.node (o375_5 P) .nil .nil) (.node (o503_7 P) .nil .nil)))))) (.node (o11a P) (.node (o19_0 P) (.node (o35_0 P) (.node (o67_0 P) (.node (o131_1 P) (.node (o259_4 P) (.node (o515_7 P) .nil .nil) .nil) (.node (o387_5 P) .nil .nil)) (.node (o195_3 P) (.node (o323_5 P) (.node (o579_7 P) .nil .nil) .nil) (.node (o451_6 P) .nil .nil))) (.node (o99_1 P) (.node (o163_2 P) (.node (o291_4 P) (.node (o547_7 P) .nil .nil) .nil) (.node (o419_6 P) .nil .nil)) (.node (o227_7 P) (.node (o355_5 P) .nil .nil) (.node (o483_7 P) .nil .nil)))) (.node (o51_0 P) (.node (o83_1 P) (.node (o147_1 P) (.node (o275_4 P) (.node (o531_7 P) .nil .nil) .nil) (.node (o403_6 P) .nil .nil)) (.node (o211_3 P) (.node (o339_5 P) (.node (o595_7 P) .nil .nil) .nil) (.node (o467_6 P) .nil .nil))) (.node (o115_1 P) (.node (o179_2 P) (.node (o307_4 P) (.node (o563_7 P) .nil .nil) .nil) (.node (o435_6 P) .nil .nil)) (.node (o243_4 P) (.node (o371_5 P) .nil .nil) (.node (o499_7 P) .nil .nil))))) (.node (o27_0 P) (.node (o43_0 P) (.node (o75_0 P) (.node (o139_1 P) (.node (o267_4 P) (.node (o523_7 P) .nil .nil) .nil) (.node (o395_5 P) .nil .nil)) (.node (o203_3 P) (.node (o331_5 P) (.node (o587_7 P) .nil .nil) .nil) (.node (o459_6 P) .nil .nil))) (.node (o107_1 P) (.node (o171_2 P) (.node (o299_4 P) (.node (o555_7 P) .nil .nil) .nil) (.node (o427_6 P) .nil .nil)) (.node (o235_4 P) (.node (o363_5 P) .nil .nil) (.node (o491_7 P) .nil .nil)))) (.node (o59_0 P) (.node (o91_1 P) (.node (o155_2 P) (.node (o283_4 P) (.node (o539_7 P) .nil .nil) .nil) (.node (o411_6 P) .nil .nil)) (.node (o219_3 P) (.node (o347_5 P) (.node (o603_7 P) .nil .nil) .nil) (.node (o475_7 P) .nil .nil))) (.node (o123_1 P) (.node (o187_5 P) (.node (o315_5 P) (.node (o571_7 P) .nil .nil) .nil) (.node (o443_6 P) .nil .nil)) (.node (o251_4 P) (.node (o379_5 P) .nil .nil) (.node (o507_7 P) .nil .nil))))))) (.node (boot_o_5 P) (.node (boot_o_9 P) (.node (o17_0 P) (.node (o33_0 P) (.node (o65_0 P) (.node (o129_1 P) (.node (o257_4 P) (.node (o513_7 P) .nil .nil) .nil) (.node (o385_5 P) .nil .nil)) (.node (o193_3 P) (.node (o321_5 P) (.node (o577_7 P) .nil .nil) .nil) (.node (o449_6 P) .nil .nil))) (.node (o97_1 P) (.node (o161_2 P) (.node (o289_4 P) (.node (o545_7 P) .nil .nil) .nil) (.node (o417_6 P) .nil .nil)) (.node (o225_3 P) (.node (o353_5 P) .nil .nil) (.node (o481_7 P) .nil .nil)))) (.node (o49_0 P) (.node (o81_1 P) (.node (o145_1 P) (.node (o273_4 P) (.node (o529_7 P) .nil .nil) .nil) (.node (o401_6 P) .nil .nil)) (.node (o209_3 P) (.node (o337_5 P) (.node (o593_7 P) .nil .nil) .nil) (.node (o465_6 P) .nil .nil))) (.node (o113_1 P) (.node (o177_2 P) (.node (o305_4 P) (.node (o561_7 P) .nil .nil) .nil) (.node (o433_6 P) .nil .nil)) (.node (o241_4 P) (.node (o369_5 P) .nil .nil) (.node (o497_7 P) .nil .nil))))) (.node (o25_0 P) (.node (o41_0 P) (.node (o73_0 P) (.node (o137_1 P) (.node (o265_4 P) (.node (o521_7 P) .nil .nil) .nil) (.node (o393_5 P) .nil .nil)) (.node (o201_3 P) (.node (o329_5 P) (.node (o585_7 P) .nil .nil) .nil) (.node (o457_6 P) .nil .nil))) (.node (o105_1 P) (.node (o169_2 P) (.node (o297_4 P) (.node (o553_7 P) .nil .nil) .nil) (.node (o425_6 P) .nil .nil)) (.node (o233_4 P) (.node (o361_5 P) .nil .nil) (.node (o489_7 P) .nil .nil)))) (.node (o57_0 P) (.node (o89_1 P) (.node (o153_2 P) (.node (o281_4 P) (.node (o537_7 P) .nil .nil) .nil) (.node (o409_6 P) .nil .nil)) (.node (o217_3 P) (.node (o345_5 P) (.node (o601_7 P) .nil .nil) .nil) (.node (o473_7 P) .nil .nil))) (.node (o121_1 P) (.node (o185_2 P) (.node (o313_5 P) (.node (o569_7 P) .nil .nil) .nil) (.node (o441_6 P) .nil .nil)) (.node (o249_4 P) (.node (o377_5 P) .nil .nil) (.node (o505_7 P) .nil .nil)))))) (.node (o13a P) (.node (o21_0 P) (.node (o37_0 P) (.node (o69_0 P) (.node (o133_1 P) (.node (o261_4 P) (.node (o517_7 P) .nil .nil) .nil) (.node (o389_5 P) .nil .nil)) (.node (o197_3 P) (.node (o325_5 P) (.node (o581_7 P) .nil .nil) .nil) (.node (o453_6 P) .nil .nil))) (.node (o101_1 P) (.node (o165_2 P) (.node (o293_4 P) (.node (o549_7 P) .nil .nil) .nil) (.node (o421_6 P) .nil .nil)) (.node (o229_3 P) (.node (o357_5 P) .nil .nil) (.node (o485_7 P) .nil .nil)))) (.node (o53_0 P) (.node (o85_1 P) (.node (o149_1 P) (.node (o277_4 P) (.node (o533_7 P) .nil .nil) .nil) (.node (o405_6 P) .nil .nil)) (.node (o213_3 P) (.node (o341_5 P) (.node (o597_7 P) .nil .nil) .nil) (.node (o469_7 P) .nil .nil))) (.node (o117_1 P) (.node (o181_2 P) (.node (o309_4 P) (.node (o565_7 P) .nil .nil) .nil) (.node (o437_6 P) .nil .nil)) (.node (o245_4 P) (.node (o373_5 P) .nil .nil) (.node (o501_7 P) .nil .nil))))) (.node (o29_0 P) (.node (o45_0 P) (.node (o77_0 P) (.node (o141_1 P) (.node (o269_4 P) (.node (o525_7 P) .nil .nil) .nil) (.node (o397_5 P) .nil .nil)) (.node (o205_3 P) (.node (o333_5 P) (.node (o589_7 P) .nil .nil) .nil) (.node (o461_6 P) .nil .nil))) (.node (o109_1 P) (.node (o173_2 P) (.node (o301_4 P) (.node (o557_7 P) .nil .nil) .nil) (.node (o429_6 P) .nil .nil)) (.node (o237_4 P) (.node (o365_5 P) .nil .nil) (.node (o493_7 P) .nil .nil)))) (.node (o61_0 P) (.node (o93_1 P) (.node (o157_2 P) (.node (o285_4 P) (.node (o541_7 P) .nil .nil) .nil) (.node (o413_6 P) .nil .nil)) (.node (o221_3 P) (.node (o349_5 P) .nil .nil) (.node (o477_7 P) .nil .nil))) (.node (o125_1 P) (.node (o189_2 P) (.node (o317_5 P) (.node (o573_7 P) .nil .nil) .nil) (.node (o445_6 P) .nil .nil)) (.node (o253_4 P) (.node (o381_5 P) .nil .nil) (.node (o509_7 P) .nil .nil)))))))) (.node (boot_o_2 P) (.node (boot_o_4 P) (.node (boot_o_8 P) (.node (o16_0 P) (.node (o32_0 P) (.node (o64_0 P) (.node (o128_1 P) (.node (o256_4 P) (.node (o512_7 P) .nil .nil) .nil) (.node (o384_5 P) .nil .nil)) (.node (o192_3 P) (.node (o320_5 P) (.node (o576_7 P) .nil .nil) .nil) (.node (o448_6 P) .nil .nil))) (.node (o96_1 P) (.node (o160_2 P) (.node (o288_4 P) (.node (o544_7 P) .nil .nil) .nil) (.node (o416_6 P) .nil .nil)) (.node (o224_3 P) (.node (o352_5 P) .nil .nil) (.node (o480_7 P) .nil .nil)))) (.node (o48_0 P) (.node (o80_1 P) (.node (o144_1 P) (.node (o272_4 P) (.node (o528_7 P) .nil .nil) .nil) (.node (o400_5 P) .nil .nil)) (.node (o208_3 P) (.node (o336_5 P) (.node (o592_7 P) .nil .nil) .nil) (.node (o464_6 P) .nil .nil))) (.node (o112_1 P) (.node (o176_2 P) (.node (o304_4 P) (.node (o560_7 P) .nil .nil) .nil) (.node (o432_6 P) .nil .nil)) (.node (o240_4 P) (.node (o368_5 P) .nil .nil) (.node (o496_7 P) .nil .nil))))) (.node (o24_0 P) (.node (o40_0 P) (.node (o72_0 P) (.node (o136_1 P) (.node (o264_4 P) (.node (o520_7 P) .nil .nil) .nil) (.node (o392_5 P) .nil .nil)) (.node (o200_3 P) (.node (o328_5 P) (.node (o584_7 P) .nil .nil) .nil) (.node (o456_6 P) .nil .nil))) (.node (o104_1 P) (.node (o168_2 P) (.node (o296_4 P) (.node (o552_7 P) .nil .nil) .nil) (.node (o424_6 P) .nil .nil)) (.node (o232_4 P) (.node (o360_5 P) .nil .nil) (.node (o488_7 P) .nil .nil)))) (.node (o56_0 P) (.node (o88_1 P) (.node (o152_2 P) (.node (o280_4 P) (.node (o536_7 P) .nil .nil) .nil) (.node (o408_6 P) .nil .nil)) (.node (o216_3 P) (.node (o344_5 P) (.node (o600_7 P) .nil .nil) .nil) (.node (o472_7 P) .nil .nil))) (.node (o120_1 P) (.node (o184_2 P) (.node (o312_5 P) (.node (o568_7 P) .nil .nil) .nil) (.node (o440_6 P) .nil .nil)) (.node (o248_4 P) (.node (o376_5 P) .nil .nil) (.node (o504_7 P) .nil .nil)))))) (.node (o12_7 P) (.node (o20_0 P) (.node (o36_0 P) (.node (o68_0 P) (.node (o132_1 P) (.node (o260_4 P) (.node (o516_7 P) .nil .nil) .nil) (.node (o388_5 P) .nil .nil)) (.node (o196_3 P) (.node (o324_5 P) (.node (o580_7 P) .nil .nil) .nil) (.node (o452_6 P) .nil .nil))) (.node (o100_1 P) (.node (o164_2 P) (.node (o292_4 P) (.node (o548_7 P) .nil .nil) .nil) (.node (o420_6 P) .nil .nil)) (.node (o228_3 P) (.node (o356_5 P) .nil .nil) (.node (o484_7 P) .nil .nil)))) (.node (o52_0 P) (.node (o84_1 P) (.node (o148_1 P) (.node (o276_4 P) (.node (o532_7 P) .nil .nil) .nil) (.node (o404_6 P) .nil .nil)) (.node (o212_3 P) (.node (o340_5 P) (.node (o596_7 P) .nil .nil) .nil) (.node (o468_6 P) .nil .nil))) (.node (o116_1 P) (.node (o180_2 P) (.node (o308_4 P) (.node (o564_7 P) .nil .nil) .nil) (.node (o436_6 P) .nil .nil)) (.node (o244_4 P) (.node (o372_5 P) .nil .nil) (.node (o500_7 P) .nil .nil))))) (.node (o28_0 P) (.node (o44_0 P) (.node (o76_0 P) (.node (o140_1 P) (.node (o268_4 P) (.node (o524_7 P) .nil .nil) .nil) (.node (o396_5 P) .nil .nil)) (.node (o204_3 P) (.node (o332_5 P) (.node (o588_7 P) .nil .nil) .nil) (.node (o460_6 P) .nil .nil))) (.node (o108_1 P) (.node (o172_2 P) (.node (o300_4 P) (.node (o556_7 P) .nil .nil) .nil) (.node (o428_6 P) .nil .nil)) (.node (o236_4 P) (.node (o364_5 P) .nil .nil) (.node (o492_7 P) .nil .nil)))) (.node (o60_0 P) (.node (o92_1 P) (.node (o156_2 P) (.node (o284_4 P) (.node (o540_7 P) .nil .nil) .nil) (.node (o412_6 P) .nil .nil)) (.node (o220_3 P) (.node (o348_5 P) (.node (o604_7 P) .nil .nil) .nil) (.node (o476_7 P) .nil .nil))) (.node (o124_1 P) (.node (o188_2 P) (.node (o316_5 P) (.node (o572_7 P) .nil .nil) .nil) (.node (o444_6 P) .nil .nil)) (.node (o252_4 P) (.node (o380_5 P) .nil .nil) (.node (o508_7 P) .nil .nil))))))) (.node (boot_o_6 P) (.node (boot_o_10 P) (.node (o18_0 P) (.node (o34_0 P) (.node (o66_0 P) (.node (o130_1 P) (.node (o258_4 P) (.node (o514_7 P) .nil .nil) .nil) (.node (o386_5 P) .nil .nil)) (.node (o194_3 P) (.node (o322_5 P) (.node (o578_7 P) .nil .nil) .nil) (.node (o450_6 P) .nil .nil))) (.node (o98_1 P) (.node (o162_2 P) (.node (o290_4 P) (.node (o546_7 P) .nil .nil) .nil) (.node (o418_6 P) .nil .nil)) (.node (o226_3 P) (.node (o354_5 P) .nil .nil) (.node (o482_7 P) .nil .nil)))) (.node (o50_0 P) (.node (o82_1 P) (.node (o146_1 P) (.node (o274_4 P) (.node (o530_7 P) .nil .nil) .nil) (.node (o402_6 P) .nil .nil)) (.node (o210_3 P) (.node (o338_5 P) (.node (o594_7 P) .nil .nil) .nil) (.node (o466_6 P) .nil .nil))) (.node (o114_1 P) (.node (o178_2 P) (.node (o306_4 P) (.node (o562_7 P) .nil .nil) .nil) (.node (o434_6 P) .nil .nil)) (.node (o242_4 P) (.node (o370_5 P) .nil .nil) (.node (o498_7 P) .nil .nil))))) (.node (o26_0 P) (.node (o42_0 P) (.node (o74_0 P) (.node (o138_1 P) (.node (o266_4 P) (.node (o522_7 P) .nil .nil) .nil) (.node (o394_5 P) .nil .nil)) (.node (o202_3 P) (.node (o330_5 P) (.node (o586_7 P) .nil .nil) .nil) (.node (o458_6 P) .nil .nil))) (.node (o106_1 P) (.node (o170_2 P) (.node (o298_4 P) (.node (o554_7 P) .nil .nil) .nil) (.node (o426_6 P) .nil .nil)) (.node (o234_4 P) (.node (o362_5 P) .nil .nil) (.node (o490_7 P) .nil .nil)))) (.node (o58_0 P) (.node (o90_1 P) (.node (o154_2 P) (.node (o282_4 P) (.node (o538_7 P) .nil .nil) .nil) (.node (o410_6 P) .nil .nil)) (.node (o218_3 P) (.node (o346_5 P) (.node (o602_7 P) .nil .nil) .nil) (.node (o474_7 P) .nil .nil))) (.node (o122_1 P) (.node (o186_2 P) (.node (o314_5 P) (.node (o570_7 P) .nil .nil) .nil) (.node (o442_6 P) .nil .nil)) (.node (o250_4 P) (.node (o378_5 P) .nil .nil) (.node (o506_7 P) .nil .nil)))))) (.node (o14a P) (.node (o22_0 P) (.node (o38_0 P) (.node (o70_0 P) (.node (o134_1 P) (.node (o262_4 P) (.node (o518_7 P) .nil .nil) .nil) (.node (o390_5 P) .nil .nil)) (.node (o198_3 P) (.node (o326_5 P) (.node (o582_7 P) .nil .nil) .nil) (.node (o454_6 P) .nil .nil))) (.node (o102_1 P) (.node (o166_2 P) (.node (o294_4 P) (.node (o550_7 P) .nil .nil) .nil) (.node (o422_6 P) .nil .nil)) (.node (o230_4 P) (.node (o358_5 P) .nil .nil) (.node (o486_7 P) .nil .nil)))) (.node (o54_0 P) (.node (o86_1 P) (.node (o150_2 P) (.node (o278_4 P) (.node (o534_7 P) .nil .nil) .nil) (.node (o406_6 P) .nil .nil)) (.node (o214_3 P) (.node (o342_5 P) (.node (o598_7 P) .nil .nil) .nil) (.node (o470_7 P) .nil .nil))) (.node (o118_1 P) (.node (o182_2 P) (.node (o310_4 P) (.node (o566_7 P) .nil .nil) .nil) (.node (o438_6 P) .nil .nil)) (.node (o246_4 P) (.node (o374_5 P) .nil .nil) (.node (o502_7 P) .nil .nil))))) (.node (o30_0 P) (.node (o46_0 P) (.node (o78_0 P) (.node (o142_1 P) (.node (o270_4 P) (.node (o526_7 P) .nil .nil) .nil) (.node (o398_5 P) .nil .nil)) (.node (o206_3 P) (.node (o334_5 P) (.node (o590_7 P) .nil .nil) .nil) (.node (o462_6 P) .nil .nil))) (.node (o110_1 P) (.node (o174_2 P) (.node (o302_4 P) (.node (o558_7 P) .nil .nil) .nil) (.node (o430_6 P) .nil .nil)) (.node (o238_4 P) (.node (o366_5 P) .nil .nil) (.node (o494_7 P) .nil .nil)))) (.node (o62_0 P) (.node (o94_1 P) (.node (o158_2 P) (.node (o286_4 P) (.node (o542_7 P) .nil .nil) .nil) (.node (o414_6 P) .nil .nil)) (.node (o222_3 P) (.node (o350_5 P) .nil .nil) (.node (o478_7 P) .nil .nil))) (.node (o126_1 P) (.node (o190_3 P) (.node (o318_5 P) (.node (o574_7 P) .nil .nil) .nil) (.node (o446_6 P) .nil .nil)) (.node (o254_4 P) (.node (o382_5 P) .nil .nil) (.node (o510_7 P) .nil .nil)))))))))
def S7 (w : World) (os : OsState) : SharedT := ⟨T7 w.params, 605, (PySem.Life.mk [] [] [] 0 [] [] false #[] [] 0 false false false 0 [2000, 10, 10] false 0 true [] [] 0 false), ⟨[]⟩, (PySem.Drawn.mk 0 0 0 0), 915, os⟩
def T8 (P : Params) : BT := (.node (boot_o_0 P) (.node (boot_o_1 P) (.node (o3_8 P) (.node (boot_o_7 P) (.node (o15_0 P) (.node (o31_0 P) (.node (o63_1 P) (.node (o127_1 P) (.node (o255_4 P) (.node (o511_7 P) .nil .nil) .nil) (.node (o383_5 P) (.node (o639_8 P) .nil .nil) .nil)) (.node (o191_3 P) (.node (o319_5 P) (.node (o575_7 P) .nil .nil) .nil) (.node (o447_6 P) .nil .nil))) (.node (o95_1 P) (.node (o159_3 P) (.node (o287_4 P) (.node (o543_7 P) .nil .nil) .nil) (.node (o415_6 P) .nil .nil)) (.node (o223_3 P) (.node (o351_5 P) (.node (o607_8 P) .nil .nil) .nil) (.node (o479_7 P) .nil .nil)))) (.node (o47_0 P) (.node (o79_1 P) (.node (o143_1 P) (.node (o271_4 P) (.node (o527_7 P) .nil .nil) .nil) (.node (o399_5 P) .nil .nil)) (.node (o207_3 P) (.node (o335_5 P) (.node (o591_7 P) .nil .nil) .nil) (.node (o463_6 P) .nil .nil))) (.node (o111_1 P) (.node (o175_2 P) (.node (o303_4 P) (.node (o559_7 P) .nil .nil) .nil) (.node (o431_6 P) .nil .nil)) (.node (o239_4 P) (.node (o367_5 P) (.node (o623_8 P) .nil .nil) .nil) (.node (o495_7 P) .nil .nil))))) (.node (o23_0 P) (.node (o39_0 P) (.node (o71_0 P) (.node (o135_1 P) (.node (o263_4 P) (.node (o519_7 P) .nil .nil) .nil) (.node (o391_5 P) (.node (o647_8 P) .nil .nil) .nil)) (.node (o199_3 P) (.node (o327_5 P) (.node (o583_7 P) .nil .nil) .nil) (.node (o455_6 P) .nil .nil))) (.node (o103_1 P) (.node (o167_2 P) (.node (o295_4 P) (.node (o551_7 P) .nil .nil) .nil) (.node (o423_6 P) .nil .nil)) (.node (o231_4 P) (.node (o359_5 P) (.node (o615_8 P) .nil .nil) .nil) (.node (o487_7 P) .nil .nil)))) (.node (o55_0 P) (.node (o87_1 P) (.node (o151_2 P) (.node (o279_4 P) (.node (o535_7 P) .nil .nil) .nil) (.node (o407_6 P) .nil .nil)) (.node (o215_3 P) (.node (o343_5 P) (.node (o599_7 P) .nil .nil) .nil) (.node (o471_7 P) .nil .nil))) (.node (o119_1 P) (.node (o183_2 P) (.node (o311_4 P) (.node (o567_7 P) .nil .nil) .nil) (.node (o439_6 P) .nil .nil)) (.node (o247_4 P) (.node (o375_5 P) (.node (o631_8 P) .nil .nil) .nil) (.node (o503_7 P) .nil .nil)))))) (.node (o11a P) (.node (o19_0 P) (.node (o35_0 P) (.node (o67_0 P) (.node (o131_1 P) (.node (o259_4 P) (.node (o515_7 P) .nil .nil) .nil) (.node (o387_5 P) (.node (o643_8 P) .nil .nil) .nil)) (.node (o195_3 P) (.node (o323_5 P) (.node (o579_7 P) .nil .nil) .nil) (.node (o451_6 P) .nil .nil))) (.node (o99_1 P) (.node (o163_2 P) (.node (o291_4 P) (.node (o547_7 P) .nil .nil) .nil) (.node (o419_6 P) .nil .nil)) (.node (o227_7 P) (.node (o355_5 P) (.node (o611_8 P) .nil .nil) .nil) (.node (o483_7 P) .nil .nil)))) (.node (o51_0 P) (.node (o83_1 P) (.node (o147_1 P) (.node (o275_4 P) (.node (o531_7 P) .nil .nil) .nil) (.node (o403_6 P) .nil .nil)) (.node (o211_3 P) (.node (o339_5 P) (.node (o595_7 P) .nil .nil) .nil) (.node (o467_6 P) .nil .nil))) (.node (o115_1 P) (.node (o179_2 P) (.node (o307_4 P) (.node (o563_7 P) .nil .nil) .nil) (.node (o435_6 P) .nil .nil)) (.node (o243_4 P) (.node (o371_5 P) (.node (o627_8 P) .nil .nil) .nil) (.node (o499_7 P) .nil .nil))))) (.node (o27_0 P) (.node (o43_0 P) (.node (o75_0 P) (.node (o139_1 P) (.node (o267_4 P) (.node (o523_7 P) .nil .nil) .nil) (.node (o395_5 P) .nil .nil)) (.node (o203_3 P) (.node (o331_5 P) (.node (o587_7 P) .nil .nil) .nil) (.node (o459_6 P) .nil .nil))) (.node (o107_1 P) (.node (o171_2 P) (.node (o299_4 P) (.node (o555_7 P) .nil .nil) .nil) (.node (o427_6 P) .nil .nil)) (.node (o235_4 P) (.node (o363_5 P) (.node (o619_8 P) .nil .nil) .nil) (.node (o491_7 P) .nil .nil)))) (.node (o59_0 P) (.node (o91_1 P) (.node (o155_2 P) (.node (o283_4 P) (.node (o539_7 P) .nil .nil) .nil) (.node (o411_6 P) .nil .nil)) (.node (o219_3 P) (.node (o347_5 P) (.node (o603_7 P) .nil .nil) .nil) (.node (o475_7 P) .nil .nil))) (.node (o123_1 P) (.node (o187_5 P) (.node (o315_5 P) (.node (o571_7 P) .nil .nil) .nil) (.node (o443_6 P) .nil .nil)) (.node (o251_4 P) (.node (o379_5 P) (.node (o635_8 P) .nil .nil) .nil) (.node (o507_7 P) .nil .nil))))))) (.node (boot_o_5 P) (.node (boot_o_9 P) (.node (o17_0 P) (.node (o33_0 P) (.node (o65_0 P) (.node (o129_1 P) (.node (o257_4 P) (.node (o513_7 P) .nil .nil) .nil) (.node (o385_5 P) (.node (o641_8 P) .nil .nil) .nil)) (.node (o193_3 P) (.node (o321_5 P) (.node (o577_7 P) .nil .nil) .nil) (.node (o449_6 P) .nil .nil))) (.node (o97_1 P) (.node (o161_2 P) (.node (o289_4 P) (.node (o545_7 P) .nil .nil) .nil) (.node (o417_6 P) .nil .nil)) (.node (o225_3 P) (.node (o353_5 P) (.node (o609_8 P) .nil .nil) .nil) (.node (o481_7 P) .nil .nil)))) (.node (o49_0 P) (.node (o81_1 P) (.node (o145_1 P) (.node (o273_4 P) (.node (o529_7 P) .nil .nil) .nil) (.node (o401_6 P) .nil .nil)) (.node (o209_3 P) (.node (o337_5 P) (.node (o593_7 P) .nil .nil) .nil) (.node (o465_6 P) .nil .nil))) (.node (o113_1 P) (.node (o177_2 P) (.node (o305_4 P) (.node (o561_7 P) .nil .nil) .nil) (.node (o433_6 P) .nil .nil)) (.node (o241_4 P) (.node (o369_5 P) (.node (o625_8 P) .nil .nil) .nil) (.node (o497_7 P) .nil .nil))))) (.node (o25_0 P) (.node (o41_0 P) (.node (o73_0 P) (.node (o137_1 P) (.node (o265_4 P) (.node (o521_7 P) .nil .nil) .nil) (.node (o393_5 P) .nil .nil)) (.node (o201_3 P) (.node (o329_5 P) (.node (o585_7 P) .nil .nil) .nil) (.node (o457_6 P) .nil .nil))) (.node (o105_1 P) (.node (o169_2 P) (.node (o297_4 P) (.node (o553_7 P) .nil .nil) .nil) (.node (o425_6 P) .nil .nil)) (.node (o233_4 P) (.node (o361_5 P) (.node (o617_8 P) .nil .nil) .nil) (.node (o489_7 P) .nil .nil)))) (.node (o57_0 P) (.node (o89_1 P) (.node (o153_2 P) (.node (o281_4 P) (.node (o537_7 P) .nil .nil) .nil) (.node (o409_6 P) .nil .nil)) (.node (o217_3 P) (.node (o345_5 P) (.node (o601_7 P) .nil .nil) .nil) (.node (o473_7 P) .nil .nil))) (.node (o121_1 P) (.node (o185_2 P) (.node (o313_5 P) (.node (o569_7 P) .nil .nil) .nil) (.node (o441_6 P) .nil .nil)) (.node (o249_4 P) (.node (o377_5 P) (.node (o633_8 P) .nil .nil) .nil) (.node (o505_7 P) .nil .nil)))))) (.node (o13a P) (.node (o21_0 P) (.node (o37_0 P) (.node (o69_0 P) (.node (o133_1 P) (.node (o261_4 P) (.node (o517_7 P) .nil .nil) .nil) (.node (o389_5 P) (.node (o645_8 P) .nil .nil) .nil)) (.node (o197_3 P) (.node (o325_5 P) (.node (o581_7 P) .nil .nil) .nil) (.node (o453_6 P) .nil .nil))) (.node (o101_1 P) (.node (o165_2 P) (.node (o293_4 P) (.node (o549_7 P) .nil .nil) .nil) (.node (o421_6 P) .nil .nil)) (.node (o229_3 P) (.node (o357_5 P) (.node (o613_8 P) .nil .nil) .nil) (.node (o485_7 P) .nil .nil)))) (.node (o53_0 P) (.node (o85_1 P) (.node (o149_1 P) (.node (o277_4 P) (.node (o533_7 P) .nil .nil) .nil) (.node (o405_6 P) .nil .nil)) (.node (o213_3 P) (.node (o341_5 P) (.node (o597_7 P) .nil .nil) .nil) (.node (o469_7 P) .nil .nil))) (.node (o117_1 P) (.node (o181_2 P) (.node (o309_4 P) (.node (o565_7 P) .nil .nil) .nil) (.node (o437_6 P) .nil .nil)) (.node (o245_4 P) (.node (o373_5 P) (.node (o629_8 P) .nil .nil) .nil) (.node (o501_7 P) .nil .nil))))) (.node (o29_0 P) (.node (o45_0 P) (.node (o77_0 P) (.node (o141_1 P) (.node (o269_4 P) (.node (o525_7 P) .nil .nil) .nil) (.node (o397_5 P) .nil .nil)) (.node (o205_3 P) (.node (o333_5 P) (.node (o589_7 P) .nil .nil) .nil) (.node (o461_6 P) .nil .nil))) (.node (o109_1 P) (.node (o173_2 P) (.node (o301_4 P) (.node (o557_7 P) .nil .nil) .nil) (.node (o429_6 P) .nil .nil)) (.node (o237_4 P) (.node (o365_5 P) (.node (o621_8 P) .nil .nil) .nil) (.node (o493_7 P) .nil .nil)))) (.node (o61_0 P) (.node (o93_1 P) (.node (o157_2 P) (.node (o285_4 P) (.node (o541_7 P) .nil .nil) .nil) (.node (o413_6 P) .nil .nil)) (.node (o221_3 P) (.node (o349_5 P) (.node (o605_8 P) .nil .nil) .nil) (.node (o477_7 P) .nil .nil))) (.node (o125_1 P) (.node (o189_2 P) (.node (o317_5 P) (.node (o573_7 P) .nil .nil) .nil) (.node (o445_6 P) .nil .nil)) (.node (o253_4 P) (.node (o381_5 P) (.node (o637_8 P) .nil .nil) .nil) (.node (o509_7 P) .nil .nil)))))))) (.node (boot_o_2 P) (.node (boot_o_4 P) (.node (boot_o_8 P) (.node (o16_0 P) (.node (o32_0 P) (.node (o64_0 P) (.node (o128_1 P) (.node (o256_4 P) (.node (o512_7 P) .nil .nil) .nil) (.node (o384_5 P) (.node (o640_8 P) .nil .nil) .nil)) (.node (o192_3 P) (.node (o320_5 P) (.node (o576_7 P) .nil .nil) .nil) (.node (o448_6 P) .nil .nil))) (.node (o96_1 P) (.node (o160_2 P) (.node (o288_4 P) (.node (o544_7 P) .nil .nil) .nil) (.node (o416_6 P) .nil .nil)) (.node (o224_3 P) (.node (o352_5 P) (.node (o608_8 P) .nil .nil) .nil) (.node (o480_7 P) .nil .nil)))) (.node (o48_0 P) (.node (o80_1 P) (.node (o144_1 P) (.node (o272_4 P) (.node (o528_7 P) .nil .nil) .nil) (.node (o400_5 P) .nil .nil)) (.node (o208_3 P) (.node (o336_5 P) (.node (o592_7 P) .nil .nil) .nil) (.node (o464_6 P) .nil .nil))) (.node (o112_1 P) (.node (o176_2 P) (.node (o304_4 P) (.node (o560_7 P) .nil .nil) .nil) (.node (o432_6 P) .nil .nil)) (.node (o240_4 P) (.node (o368_5 P) (.node (o624_8 P) .nil .nil) .nil) (.node (o496_7 P) .nil .nil))))) (.node (o24_0 P) (.node (o40_0 P) (.node (o72_0 P) (.node (o136_1 P) (.node (o264_4 P) (.node (o520_7 P) .nil .nil) .nil) (.node (o392_5 P) .nil .nil)) (.node (o200_3 P) (.node (o328_5 P) (.node (o584_7 P) .nil .nil) .nil) (.node (o456_6 P) .nil .nil))) (.node (o104_1 P) (.node (o168_2 P) (.node (o296_4 P) (.node (o552_7 P) .nil .nil) .nil) (.node (o424_6 P) .nil .nil)) (.node (o232_4 P) (.node (o360_5 P) (.node (o616_8 P) .nil .nil) .nil) (.node (o488_7 P) .nil .nil)))) (.node (o56_0 P) (.node (o88_1 P) (.node (o152_2 P) (.node (o280_4 P) (.node (o536_7 P) .nil .nil) .nil) (.node (o408_6 P) .nil .nil)) (.node (o216_3 P) (.node (o344_5 P) (.node (o600_7 P) .nil .nil) .nil) (.node (o472_7 P) .nil .nil))) (.node (o120_1 P) (.node (o184_2 P) (.node (o312_5 P) (.node (o568_7 P) .nil .nil) .nil) (.node (o440_6 P) .nil .nil)) (.node (o248_4 P) (.node (o376_5 P) (.node (o632_8 P) .nil .nil) .nil) (.node (o504_7 P) .nil .nil)))))) (.node (o12_8 P) (.node (o20_0 P) (.node (o36_0 P) (.node (o68_0 P) (.node (o132_1 P) (.node (o260_4 P) (.node (o516_7 P) .nil .nil) .nil) (.node (o388_5 P) (.node (o644_8 P) .nil .nil) .nil)) (.node (o196_3 P) (.node (o324_5 P) (.node (o580_7 P) .nil .nil) .nil) (.node (o452_6 P) .nil .nil))) (.node (o100_1 P) (.node (o164_2 P) (.node (o292_4 P) (.node (o548_7 P) .nil .nil) .nil) (.node (o420_6 P) .nil .nil)) (.node (o228_3 P) (.node (o356_5 P) (.node (o612_8 P) .nil .nil) .nil) (.node (o484_7 P) .nil .nil)))) (.node (o52_0 P) (.node (o84_1 P) (.node (o148_1 P) (.node (o276_4 P) (.node (o532_7 P) .nil .nil) .nil) (.node (o404_6 P) .nil .nil)) (.node (o212_3 P) (.node (o340_5 P) (.node (o596_7 P) .nil .nil) .nil) (.node (o468_6 P) .nil .nil))) (.node (o116_1 P) (.node (o180_2 P) (.node (o308_4 P) (.node (o564_7 P) .nil .nil) .nil) (.node (o436_6 P) .nil .nil)) (.node (o244_4 P) (.node (o372_5 P) (.node (o628_8 P) .nil .nil) .nil) (.node (o500_7 P) .nil .nil))))) (.node (o28_0 P) (.node (o44_0 P) (.node (o76_0 P) (.node (o140_1 P) (.node (o268_4 P) (.node (o524_7 P) .nil .nil) .nil) (.node (o396_5 P) .nil .nil)) (.node (o204_3 P) (.node (o332_5 P) (.node (o588_7 P) .nil .nil) .nil) (.node (o460_6 P) .nil .nil))) (.node (o108_1 P) (.node (o172_2 P) (.node (o300_4 P) (.node (o556_7 P) .nil .nil) .nil) (.node (o428_6 P) .nil .nil)) (.node (o236_4 P) (.node (o364_5 P) (.node (o620_8 P) .nil .nil) .nil) (.node (o492_7 P) .nil .nil)))) (.node (o60_0 P) (.node (o92_1 P) (.node (o156_2 P) (.node (o284_4 P) (.node (o540_7 P) .nil .nil) .nil) (.node (o412_6 P) .nil .nil)) (.node (o220_3 P) (.node (o348_5 P) (.node (o604_7 P) .nil .nil) .nil) (.node (o476_7 P) .nil .nil))) (.node (o124_1 P) (.node (o188_2 P) (.node (o316_5 P) (.node (o572_7 P) .nil .nil) .nil) (.node (o444_6 P) .nil .nil)) (.node (o252_4 P) (.node (o380_5 P) (.node (o636_8 P) .nil .nil) .nil) (.node (o508_7 P) .nil .nil))))))) (.node (boot_o_6 P) (.node (boot_o_10 P) (.node (o18_0 P) (.node (o34_0 P) (.node (o66_0 P) (.node (o130_1 P) (.node (o258_4 P) (.node (o514_7 P) .nil .nil) .nil) (.node (o386_5 P) (.node (o642_8 P) .nil .nil) .nil)) (.node (o194_3 P) (.node (o322_5 P) (.node (o578_7 P) .nil .nil) .nil) (.node (o450_6 P) .nil .nil))) (.node (o98_1 P) (.node (o162_2 P) (.node (o290_4 P) (.node (o546_7 P) .nil .nil) .nil) (.node (o418_6 P) .nil .nil)) (.node (o226_3 P) (.node (o354_5 P) (.node (o610_8 P) .nil .nil) .nil) (.node (o482_7 P) .nil .nil)))) (.node (o50_0 P) (.node (o82_1 P) (.node (o146_1 P) (.node (o274_4 P) (.node (o530_7 P) .nil .nil) .nil) (.node (o402_6 P) .nil .nil)) (.node (o210_3 P) (.node (o338_5 P) (.node (o594_7 P) .nil .nil) .nil) (.node (o466_6 P) .nil .nil))) (.node (o114_1 P) (.node (o178_2 P) (.node (o306_4 P) (.node (o562_7 P) .nil .nil) .nil) (.node (o434_6 P) .nil .nil)) (.node (o242_4 P) (.node (o370_5 P) (.node (o626_8 P) .nil .nil) .nil) (.node (o498_7 P) .nil .nil))))) (.node (o26_0 P) (.node (o42_0 P) (.node (o74_0 P) (.node (o138_1 P) (.node (o266_4 P) (.node (o522_7 P) .nil .nil) .nil) (.node (o394_5 P) .nil .nil)) (.node (o202_3 P) (.node (o330_5 P) (.node (o586_7 P) .nil .nil) .nil) (.node (o458_6 P) .nil .nil))) (.node (o106_1 P) (.node (o170_2 P) (.node (o298_4 P) (.node (o554_7 P) .nil .nil) .nil) (.node (o426_6 P) .nil .nil)) (.node (o234_4 P) (.node (o362_5 P) (.node (o618_8 P) .nil .nil) .nil) (.node (o490_7 P) .nil .nil)))) (.node (o58_0 P) (.node (o90_1 P) (.node (o154_2 P) (.node (o282_4 P) (.node (o538_7 P) .nil .nil) .nil) (.node (o410_6 P) .nil .nil)) (.node (o218_3 P) (.node (o346_5 P) (.node (o602_7 P) .nil .nil) .nil) (.node (o474_7 P) .nil .nil))) (.node (o122_1 P) (.node (o186_2 P) (.node (o314_5 P) (.node (o570_7 P) .nil .nil) .nil) (.node (o442_6 P) .nil .nil)) (.node (o250_4 P) (.node (o378_5 P) (.node (o634_8 P) .nil .nil) .nil) (.node (o506_7 P) .nil .nil)))))) (.node (o14a P) (.node (o22_0 P) (.node (o38_0 P) (.node (o70_0 P) (.node (o134_1 P) (.node (o262_4 P) (.node (o518_7 P) .nil .nil) .nil) (.node (o390_5 P) (.node (o646_8 P) .nil .nil) .nil)) (.node (o198_3 P) (.node (o326_5 P) (.node (o582_7 P) .nil .nil) .nil) (.node (o454_6 P) .nil .nil))) (.node (o102_1 P) (.node (o166_2 P) (.node (o294_4 P) (.node (o550_7 P) .nil .nil) .nil) (.node (o422_6 P) .nil .nil)) (.node (o230_4 P) (.node (o358_5 P) (.node (o614_8 P) .nil .nil) .nil) (.node (o486_7 P) .nil .nil)))) (.node (o54_0 P) (.node (o86_1 P) (.node (o150_2 P) (.node (o278_4 P) (.node (o534_7 P) .nil .nil) .nil) (.node (o406_6 P) .nil .nil)) (.node (o214_3 P) (.node (o342_5 P) (.node (o598_7 P) .nil .nil) .nil) (.node (o470_7 P) .nil .nil))) (.node (o118_1 P) (.node (o182_2 P) (.node (o310_4 P) (.node (o566_7 P) .nil .nil) .nil) (.node (o438_6 P) .nil .nil)) (.node (o246_4 P) (.node (o374_5 P) (.node (o630_8 P) .nil .nil) .nil) (.node (o502_7 P) .nil .nil))))) (.node (o30_0 P) (.node (o46_0 P) (.node (o78_0 P) (.node (o142_1 P) (.node (o270_4 P) (.node (o526_7 P) .nil .nil) .nil) (.node (o398_5 P) .nil .nil)) (.node (o206_3 P) (.node (o334_5 P) (.node (o590_7 P) .nil .nil) .nil) (.node (o462_6 P) .nil .nil))) (.node (o110_1 P) (.node (o174_2 P) (.node (o302_4 P) (.node (o558_7 P) .nil .nil) .nil) (.node (o430_6 P) .nil .nil)) (.node (o238_4 P) (.node (o366_5 P) (.node (o622_8 P) .nil .nil) .nil) (.node (o494_7 P) .nil .nil)))) (.node (o62_0 P) (.node (o94_1 P) (.node (o158_2 P) (.node (o286_4 P) (.node (o542_7 P) .nil .nil) .nil) (.node (o414_6 P) .nil .nil)) (.node (o222_3 P) (.node (o350_5 P) (.node (o606_8 P) .nil .nil) .nil) (.node (o478_7 P) .nil .nil))) (.node (o126_1 P) (.node (o190_3 P) (.node (o318_5 P) (.node (o574_7 P) .nil .nil) .nil) (.node (o446_6 P) .nil .nil)) (.node (o254_4 P) (.node (o382_5 P) (.node (o638_8 P) .nil .nil) .nil) (.node (o510_7 P) .nil .nil)))))))))
def S8 (w : World) (os : OsState) : SharedT := ⟨T8 w.params, 648, (PySem.Life.mk [] [] [] 0 [] [] false #[] [] 0 false false false 0 [2000, 10, 10] false 0 true [] [] 0 false), ⟨[]⟩, (PySem.Drawn.mk 0 0 0 0), 976, os⟩
def Hf (P : Params) : Heap := ⟨⟨[boot_o_0 P, boot_o_1 P, boot_o_2 P, o3_8 P, boot_o_4 P, boot_o_5 P, boot_o_6 P, boot_o_7 P, boot_o_8 P, boot_o_9 P, boot_o_10 P, o11a P, o12_8 P, o13a P, o14a P, o15_0 P, o16_0 P, o17_0 P, o18_0 P, o19_0 P, o20_0 P, o21_0 P, o22_0 P, o23_0 P, o24_0 P, o25_0 P, o26_0 P, o27_0 P, o28_0 P, o29_0 P, o30_0 P, o31_0 P, o32_0 P, o33_0 P, o34_0 P, o35_0 P, o36_0 P, o37_0 P, o38_0 P, o39_0 P, o40_0 P, o41_0 P, o42_0 P, o43_0 P, o44_0 P, o45_0 P, o46_0 P, o47_0 P, o48_0 P, o49_0 P, o50_0 P, o51_0 P, o52_0 P, o53_0 P, o54_0 P, o55_0 P, o56_0 P, o57_0 P, o58_0 P, o59_0 P, o60_0 P, o61_0 P, o62_0 P, o63_1 P, o64_0 P, o65_0 P, o66_0 P, o67_0 P, o68_0 P, o69_0 P, o70_0 P, o71_0 P, o72_0 P, o73_0 P, o74_0 P, o75_0 P, o76_0 P, o77_0 P, o78_0 P, o79_1 P, o80_1 P, o81_1 P, o82_1 P, o83_1 P, o84_1 P, o85_1 P, o86_1 P, o87_1 P, o88_1 P, o89_1 P, o90_1 P, o91_1 P, o92_1 P, o93_1 P, o94_1 P, o95_1 P, o96_1 P, o97_1 P, o98_1 P, o99_1 P, o100_1 P, o101_1 P, o102_1 P, o103_1 P, o104_1 P, o105_1 P, o106_1 P, o107_1 P, o108_1 P, o109_1 P, o110_1 P, o111_1 P, o112_1 P, o113_1 P, o114_1 P, o115_1 P, o116_1 P, o117_1 P, o118_1 P, o119_1 P, o120_1 P, o121_1 P, o122_1 P, o123_1 P, o124_1 P, o125_1 P, o126_1 P, o127_1 P, o128_1 P, o129_1 P, o130_1 P, o131_1 P, o132_1 P, o133_1 P, o134_1 P, o135_1 P, o136_1 P, o137_1 P, o138_1 P, o139_1 P, o140_1 P, o141_1 P, o142_1 P, o143_1 P, o144_1 P, o145_1 P, o146_1 P, o147_1 P, o148_1 P, o149_1 P, o150_2 P, o151_2 P, o152_2 P, o153_2 P, o154_2 P, o155_2 P, o156_2 P, o157_2 P, o158_2 P, o159_3 P, o160_2 P, o161_2 P, o162_2 P, o163_2 P, o164_2 P, o165_2 P, o166_2 P, o167_2 P, o168_2 P, o169_2 P, o170_2 P, o171_2 P, o172_2 P, o173_2 P, o174_2 P, o175_2 P, o176_2 P, o177_2 P, o178_2 P, o179_2 P, o180_2 P, o181_2 P, o182_2 P, o183_2 P, o184_2 P, o185_2 P, o186_2 P, o187_5 P, o188_2 P, o189_2 P, o190_3 P, o191_3 P, o192_3 P, o193_3 P, o194_3 P, o195_3 P, o196_3 P, o197_3 P, o198_3 P, o199_3 P, o200_3 P, o201_3 P, o202_3 P, o203_3 P, o204_3 P, o205_3 P, o206_3 P, o207_3 P, o208_3 P, o209_3 P, o210_3 P, o211_3 P, o212_3 P, o213_3 P, o214_3 P, o215_3 P, o216_3 P, o217_3 P, o218_3 P, o219_3 P, o220_3 P, o221_3 P, o222_3 P, o223_3 P, o224_3 P, o225_3 P, o226_3 P, o227_7 P, o228_3 P, o229_3 P, o230_4 P, o231_4 P, o232_4 P, o233_4 P, o234_4 P, o235_4 P, o236_4 P, o237_4 P, o238_4 P, o239_4 P, o240_4 P, o241_4 P, o242_4 P, o243_4 P, o244_4 P, o245_4 P, o246_4 P, o247_4 P, o248_4 P, o249_4 P, o250_4 P, o251_4 P, o252_4 P, o253_4 P, o254_4 P, o255_4 P, o256_4 P, o257_4 P, o258_4 P, o259_4 P, o260_4 P, o261_4 P, o262_4 P, o263_4 P, o264_4 P, o265_4 P, o266_4 P, o267_4 P, o268_4 P, o269_4 P, o270_4 P, o271_4 P, o272_4 P, o273_4 P, o274_4 P, o275_4 P, o276_4 P, o277_4 P, o278_4 P, o279_4 P, o280_4 P, o281_4 P, o282_4 P, o283_4 P, o284_4 P, o285_4 P, o286_4 P, o287_4 P, o288_4 P, o289_4 P, o290_4 P, o291_4 P, o292_4 P, o293_4 P, o294_4 P, o295_4 P, o296_4 P, o297_4 P, o298_4 P, o299_4 P, o300_4 P, o301_4 P, o302_4 P, o303_4 P, o304_4 P, o305_4 P, o306_4 P, o307_4 P, o308_4 P, o309_4 P, o310_4 P, o311_4 P, o312_5 P, o313_5 P, o314_5 P, o315_5 P, o316_5 P, o317_5 P, o318_5 P, o319_5 P, o320_5 P, o321_5 P, o322_5 P, o323_5 P, o324_5 P, o325_5 P, o326_5 P, o327_5 P, o328_5 P, o329_5 P, o330_5 P, o331_5 P, o332_5 P, o333_5 P, o334_5 P, o335_5 P, o336_5 P, o337_5 P, o338_5 P, o339_5 P, o340_5 P, o341_5 P, o342_5 P, o343_5 P, o344_5 P, o345_5 P, o346_5 P, o347_5 P, o348_5 P, o349_5 P, o350_5 P, o351_5 P, o352_5 P, o353_5 P, o354_5 P, o355_5 P, o356_5 P, o357_5 P, o358_5 P, o359_5 P, o360_5 P, o361_5 P, o362_5 P, o363_5 P, o364_5 P, o365_5 P, o366_5 P, o367_5 P, o368_5 P, o369_5 P, o370_5 P, o371_5 P, o372_5 P, o373_5 P, o374_5 P, o375_5 P, o376_5 P, o377_5 P, o378_5 P, o379_5 P, o380_5 P, o381_5 P, o382_5 P, o383_5 P, o384_5 P, o385_5 P, o386_5 P, o387_5 P, o388_5 P, o389_5 P, o390_5 P, o391_5 P, o392_5 P, o393_5 P, o394_5 P, o395_5 P, o396_5 P, o397_5 P, o398_5 P, o399_5 P, o400_5 P, o401_6 P, o402_6 P, o403_6 P, o404_6 P, o405_6 P, o406_6 P, o407_6 P, o408_6 P, o409_6 P, o410_6 P, o411_6 P, o412_6 P, o413_6 P, o414_6 P, o415_6 P, o416_6 P, o417_6 P, o418_6 P, o419_6 P, o420_6 P, o421_6 P, o422_6 P, o423_6 P, o424_6 P, o425_6 P, o426_6 P, o427_6 P, o428_6 P, o429_6 P, o430_6 P, o431_6 P, o432_6 P, o433_6 P, o434_6 P, o435_6 P, o436_6 P, o437_6 P, o438_6 P, o439_6 P, o440_6 P, o441_6 P, o442_6 P, o443_6 P, o444_6 P, o445_6 P, o446_6 P, o447_6 P, o448_6 P, o449_6 P, o450_6 P, o451_6 P, o452_6 P, o453_6 P, o454_6 P, o455_6 P, o456_6 P, o457_6 P, o458_6 P, o459_6 P, o460_6 P, o461_6 P, o462_6 P, o463_6 P, o464_6 P, o465_6 P, o466_6 P, o467_6 P, o468_6 P, o469_7 P, o470_7 P, o471_7 P, o472_7 P, o473_7 P, o474_7 P, o475_7 P, o476_7 P, o477_7 P, o478_7 P, o479_7 P, o480_7 P, o481_7 P, o482_7 P, o483_7 P, o484_7 P, o485_7 P, o486_7 P, o487_7 P, o488_7 P, o489_7 P, o490_7 P, o491_7 P, o492_7 P, o493_7 P, o494_7 P, o495_7 P, o496_7 P, o497_7 P, o498_7 P, o499_7 P, o500_7 P, o501_7 P, o502_7 P, o503_7 P, o504_7 P, o505_7 P, o506_7 P, o507_7 P, o508_7 P, o509_7 P, o510_7 P, o511_7 P, o512_7 P, o513_7 P, o514_7 P, o515_7 P, o516_7 P, o517_7 P, o518_7 P, o519_7 P, o520_7 P, o521_7 P, o522_7 P, o523_7 P, o524_7 P, o525_7 P, o526_7 P, o527_7 P, o528_7 P, o529_7 P, o530_7 P, o531_7 P, o532_7 P, o533_7 P, o534_7 P, o535_7 P, o536_7 P, o537_7 P, o538_7 P, o539_7 P, o540_7 P, o541_7 P, o542_7 P, o543_7 P, o544_7 P, o545_7 P, o546_7 P, o547_7 P, o548_7 P, o549_7 P, o550_7 P, o551_7 P, o552_7 P, o553_7 P, o554_7 P, o555_7 P, o556_7 P, o557_7 P, o558_7 P, o559_7 P, o560_7 P, o561_7 P, o562_7 P, o563_7 P, o564_7 P, o565_7 P, o566_7 P, o567_7 P, o568_7 P, o569_7 P, o570_7 P, o571_7 P, o572_7 P, o573_7 P, o574_7 P, o575_7 P, o576_7 P, o577_7 P, o578_7 P, o579_7 P, o580_7 P, o581_7 P, o582_7 P, o583_7 P, o584_7 P, o585_7 P, o586_7 P, o587_7 P, o588_7 P, o589_7 P, o590_7 P, o591_7 P, o592_7 P, o593_7 P, o594_7 P, o595_7 P, o596_7 P, o597_7 P, o598_7 P, o599_7 P, o600_7 P, o601_7 P, o602_7 P, o603_7 P, o604_7 P, o605_8 P, o606_8 P, o607_8 P, o608_8 P, o609_8 P, o610_8 P, o611_8 P, o612_8 P, o613_8 P, o614_8 P, o615_8 P, o616_8 P, o617_8 P, o618_8 P, o619_8 P, o620_8 P, o621_8 P, o622_8 P, o623_8 P, o624_8 P, o625_8 P, o626_8 P, o627_8 P, o628_8 P, o629_8 P, o630_8 P, o631_8 P, o632_8 P, o633_8 P, o634_8 P, o635_8 P, o636_8 P, o637_8 P, o638_8 P, o639_8 P, o640_8 P, o641_8 P, o642_8 P, o643_8 P, o644_8 P, o645_8 P, o646_8 P, o647_8 P]⟩, (PySem.Life.mk [] [] [] 0 [] [] false #[] [] 0 false false false 0 [2000, 10, 10] false 0 true [] [] 0 false)⟩
def Sf (w : World) (os : OsState) : Shared := ⟨Hf w.params, ⟨[]⟩, (PySem.Drawn.mk 0 0 0 0), 976, os⟩
theorem pre_ (w : World) (os : OsState) : topGo treeTable Fast.tw9077655869000506260 w 11 ((some (.ref 6))) 12 ⟨boot_heap w.params, ⟨[]⟩, boot_drawn, boot_toks, os⟩ (topStub Fast.tw9077655869000506260) = some (Sa w os, ⟨denote treeTable cT, cT, ⟨0, 0, 0, 0⟩, [topFrame qP]⟩) := by (try rw [Fast.te15667345088766844465]); (try rw [Fast.te14082659384304107361]); (try rw [Fast.te14374325043358763698]); (try rw [Fast.te10110043849684766642]); (try rw [Fast.te14364793385576792824]); (try rw [Fast.te11892475500146522536]); (try rw [Fast.te4187177175401517315]); (try rw [Fast.te5923862056798008813]); (try rw [Fast.te8920871248978507458]); kernel_rfl
theorem block_ (w : World) (os : OsState) : segRun treeTable Fast.tw9077655869000506260 w 11 ((some (.ref 6))) 1 1 (Sa w os) (blockOf (behindTheImports Fast.tw9077655869000506260) envT cT ⟨0, 0, 0, 0⟩ [topFrame qP]) = some (.next, (Sb w os).abs, cT, ⟨0, 0, 0, 0⟩) := by (try rw [Fast.te15667345088766844465]); (try rw [Fast.te14082659384304107361]); (try rw [Fast.te14374325043358763698]); (try rw [Fast.te10110043849684766642]); (try rw [Fast.te14364793385576792824]); (try rw [Fast.te11892475500146522536]); (try rw [Fast.te4187177175401517315]); (try rw [Fast.te5923862056798008813]); (try rw [Fast.te8920871248978507458]); kernel_rfl
def sts0 : List Stmt := [topT 0, topT 1, topT 2, topT 3, topT 4, topT 5, topT 6, topT 7, topT 8, topT 9, topT 10]
theorem pc0 (w : World) (os : OsState) : segRunT treeTable Fast.tw9077655869000506260 w 11 ((some (.ref 6))) 1 611 (Sb w os) (piecesOf sts0 envT cT ⟨0, 0, 0, 0⟩ [topFrame qP]) = some (.next, S0 w os, cT, ⟨25, 0, 26, 8⟩) := by (try rw [Fast.te15667345088766844465]); (try rw [Fast.te14082659384304107361]); (try rw [Fast.te14374325043358763698]); (try rw [Fast.te10110043849684766642]); (try rw [Fast.te14364793385576792824]); (try rw [Fast.te11892475500146522536]); (try rw [Fast.te4187177175401517315]); (try rw [Fast.te5923862056798008813]); (try rw [Fast.te8920871248978507458]); kernel_rfl
def sts1 : List Stmt := [topT 11, topT 12, topT 13, topT 14, topT 15, topT 16, topT 17, topT 18, topT 19, topT 20, topT 21, topT 22, topT 23, topT 24]
theorem pc1 (w : World) (os : OsState) : segRunT treeTable Fast.tw9077655869000506260 w 11 ((some (.ref 6))) 1 679 (S0 w os) (piecesOf sts1 envT cT ⟨25, 0, 26, 8⟩ [topFrame qP]) = some (.next, S1 w os, cT, ⟨77, 0, 79, 43⟩) := by (try rw [Fast.te15667345088766844465]); (try rw [Fast.te14082659384304107361]); (try rw [Fast.te14374325043358763698]); (try rw [Fast.te10110043849684766642]); (try rw [Fast.te14364793385576792824]); (try rw [Fast.te11892475500146522536]); (try rw [Fast.te4187177175401517315]); (try rw [Fast.te5923862056798008813]); (try rw [Fast.te8920871248978507458]); kernel_rfl
def sts2 : List Stmt := [topT 25, topT 26]
theorem pc2 (w : World) (os : OsState) : segRunT treeTable Fast.tw9077655869000506260 w 11 ((some (.ref 6))) 1 465 (S1 w os) (piecesOf sts2 envT cT ⟨77, 0, 79, 43⟩ [topFrame qP]) = some (.next, S2 w os, cT, ⟨82, 0, 88, 16⟩) := by (try rw [Fast.te15667345088766844465]); (try rw [Fast.te14082659384304107361]); (try rw [Fast.te14374325043358763698]); (try rw [Fast.te10110043849684766642]); (try rw [Fast.te14364793385576792824]); (try rw [Fast.te11892475500146522536]); (try rw [Fast.te4187177175401517315]); (try rw [Fast.te5923862056798008813]); (try rw [Fast.te8920871248978507458]); kernel_rfl
def sts3 : List Stmt := [topT 27]
theorem pc3 (w : World) (os : OsState) : segRunT treeTable Fast.tw9077655869000506260 w 11 ((some (.ref 6))) 1 339 (S2 w os) (piecesOf sts3 envT cT ⟨82, 0, 88, 16⟩ [topFrame qP]) = some (.next, S3 w os, cT, ⟨89, 0, 101, 16⟩) := by (try rw [Fast.te15667345088766844465]); (try rw [Fast.te14082659384304107361]); (try rw [Fast.te14374325043358763698]); (try rw [Fast.te10110043849684766642]); (try rw [Fast.te14364793385576792824]); (try rw [Fast.te11892475500146522536]); (try rw [Fast.te4187177175401517315]); (try rw [Fast.te5923862056798008813]); (try rw [Fast.te8920871248978507458]); kernel_rfl
def sts4 : List Stmt := [topT 28]
theorem pc4 (w : World) (os : OsState) : segRunT treeTable Fast.tw9077655869000506260 w 11 ((some (.ref 6))) 1 549 (S3 w os) (piecesOf sts4 envT cT ⟨89, 0, 101, 16⟩ [topFrame qP]) = some (.next, S4 w os, cT, ⟨102, 0, 144, 28⟩) := by (try rw [Fast.te15667345088766844465]); (try rw [Fast.te14082659384304107361]); (try rw [Fast.te14374325043358763698]); (try rw [Fast.te10110043849684766642]); (try rw [Fast.te14364793385576792824]); (try rw [Fast.te11892475500146522536]); (try rw [Fast.te4187177175401517315]); (try rw [Fast.te5923862056798008813]); (try rw [Fast.te8920871248978507458]); kernel_rfl
def sts5 : List Stmt := [topT 29]
theorem pc5 (w : World) (os : OsState) : segRunT treeTable Fast.tw9077655869000506260 w 11 ((some (.ref 6))) 1 580 (S4 w os) (piecesOf sts5 envT cT ⟨102, 0, 144, 28⟩ [topFrame qP]) = some (.next, S5 w os, cT, ⟨145, 0, 183, 21⟩) := by (try rw [Fast.te15667345088766844465]); (try rw [Fast.te14082659384304107361]); (try rw [Fast.te14374325043358763698]); (try rw [Fast.te10110043849684766642]); (try rw [Fast.te14364793385576792824]); (try rw [Fast.te11892475500146522536]); (try rw [Fast.te4187177175401517315]); (try rw [Fast.te5923862056798008813]); (try rw [Fast.te8920871248978507458]); kernel_rfl
def sts6 : List Stmt := [topT 30]
theorem pc6 (w : World) (os : OsState) : segRunT treeTable Fast.tw9077655869000506260 w 11 ((some (.ref 6))) 1 482 (S5 w os) (piecesOf sts6 envT cT ⟨145, 0, 183, 21⟩ [topFrame qP]) = some (.next, S6 w os, cT, ⟨184, 0, 217, 31⟩) := by (try rw [Fast.te15667345088766844465]); (try rw [Fast.te14082659384304107361]); (try rw [Fast.te14374325043358763698]); (try rw [Fast.te10110043849684766642]); (try rw [Fast.te14364793385576792824]); (try rw [Fast.te11892475500146522536]); (try rw [Fast.te4187177175401517315]); (try rw [Fast.te5923862056798008813]); (try rw [Fast.te8920871248978507458]); kernel_rfl
def sts7 : List Stmt := [topT 31, topT 32, topT 33, topT 34, topT 35, topT 36, topT 37, topT 38, topT 39, topT 40, topT 41, topT 42]
theorem pc7 (w : World) (os : OsState) : segRunT treeTable Fast.tw9077655869000506260 w 11 ((some (.ref 6))) 1 794 (S6 w os) (piecesOf sts7 envT cT ⟨184, 0, 217, 31⟩ [topFrame qP]) = some (.next, S7 w os, cT, ⟨318, 0, 319, 107⟩) := by (try rw [Fast.te15667345088766844465]); (try rw [Fast.te14082659384304107361]); (try rw [Fast.te14374325043358763698]); (try rw [Fast.te10110043849684766642]); (try rw [Fast.te14364793385576792824]); (try rw [Fast.te11892475500146522536]); (try rw [Fast.te4187177175401517315]); (try rw [Fast.te5923862056798008813]); (try rw [Fast.te8920871248978507458]); kernel_rfl
def sts8 : List Stmt := [topT 43, topT 44, topT 45, topT 46, topT 47, topT 48, topT 49]
theorem pc8 (w : World) (os : OsState) : segRunT treeTable Fast.tw9077655869000506260 w 11 ((some (.ref 6))) 1 210 (S7 w os) (piecesOf sts8 envT cT ⟨318, 0, 319, 107⟩ [topFrame qP]) = some (.next, S8 w os, cT, ⟨356, 0, 385, 133⟩) := by (try rw [Fast.te15667345088766844465]); (try rw [Fast.te14082659384304107361]); (try rw [Fast.te14374325043358763698]); (try rw [Fast.te10110043849684766642]); (try rw [Fast.te14364793385576792824]); (try rw [Fast.te11892475500146522536]); (try rw [Fast.te4187177175401517315]); (try rw [Fast.te5923862056798008813]); (try rw [Fast.te8920871248978507458]); kernel_rfl
theorem fin_ (w : World) (os : OsState) : topRun treeTable Fast.tw9077655869000506260 w 11 ((some (.ref 6))) 2 (S8 w os).abs ⟨doneF .next, cT, ⟨356, 0, 385, 133⟩, [topFrame qP]⟩ = some (Sf w os) := by (try rw [Fast.te15667345088766844465]); (try rw [Fast.te14082659384304107361]); (try rw [Fast.te14374325043358763698]); (try rw [Fast.te10110043849684766642]); (try rw [Fast.te14364793385576792824]); (try rw [Fast.te11892475500146522536]); (try rw [Fast.te4187177175401517315]); (try rw [Fast.te5923862056798008813]); (try rw [Fast.te8920871248978507458]); kernel_rfl
theorem body_eq : behindTheImports Fast.tw9077655869000506260 = (sts0 ++ (sts1 ++ (sts2 ++ (sts3 ++ (sts4 ++ (sts5 ++ (sts6 ++ (sts7 ++ (sts8 ++ []))))))))) := by kernel_rfl
theorem run_ (w : World) (os : OsState) : topRun treeTable Fast.tw9077655869000506260 w 11 ((some (.ref 6))) (12 + (1 + (611 + (679 + (465 + (339 + (549 + (580 + (482 + (794 + (210 + 2))))))))))) ⟨boot_heap w.params, ⟨[]⟩, boot_drawn, boot_toks, os⟩ (topStub Fast.tw9077655869000506260) = some (Sf w os) := by
  have h := (piece_app (segRun_of (pc0 w os)) (piece_app (segRun_of (pc1 w os)) (piece_app (segRun_of (pc2 w os)) (piece_app (segRun_of (pc3 w os)) (piece_app (segRun_of (pc4 w os)) (piece_app (segRun_of (pc5 w os)) (piece_app (segRun_of (pc6 w os)) (piece_app (segRun_of (pc7 w os)) (piece_app (segRun_of (pc8 w os)) (piece_nil (fin_ w os)))))))))))
  rw [← body_eq] at h
  exact go_top (pre_ w os) (piece_block (block_ w os) h)
def K (P : Params) : Frag := (nat_lit 2, boot_o_2 P) :: (nat_lit 3, o3_8 P) :: (nat_lit 15, o15_0 P) :: (nat_lit 17, o17_0 P) :: (nat_lit 18, o18_0 P) :: (nat_lit 20, o20_0 P) :: (nat_lit 21, o21_0 P) :: (nat_lit 22, o22_0 P) :: (nat_lit 25, o25_0 P) :: (nat_lit 26, o26_0 P) :: (nat_lit 27, o27_0 P) :: (nat_lit 30, o30_0 P) :: (nat_lit 31, o31_0 P) :: (nat_lit 32, o32_0 P) :: (nat_lit 34, o34_0 P) :: (nat_lit 35, o35_0 P) :: (nat_lit 37, o37_0 P) :: (nat_lit 38, o38_0 P) :: (nat_lit 39, o39_0 P) :: (nat_lit 42, o42_0 P) :: (nat_lit 43, o43_0 P) :: (nat_lit 44, o44_0 P) :: (nat_lit 47, o47_0 P) :: (nat_lit 48, o48_0 P) :: (nat_lit 49, o49_0 P) :: (nat_lit 52, o52_0 P) :: (nat_lit 53, o53_0 P) :: (nat_lit 54, o54_0 P) :: (nat_lit 61, o61_0 P) :: (nat_lit 62, o62_0 P) :: (nat_lit 63, o63_1 P) :: (nat_lit 64, o64_0 P) :: (nat_lit 67, o67_0 P) :: (nat_lit 74, o74_0 P) :: (nat_lit 75, o75_0 P) :: (nat_lit 76, o76_0 P) :: (nat_lit 79, o79_1 P) :: (nat_lit 86, o86_1 P) :: (nat_lit 87, o87_1 P) :: (nat_lit 88, o88_1 P) :: (nat_lit 91, o91_1 P) :: (nat_lit 98, o98_1 P) :: (nat_lit 99, o99_1 P) :: (nat_lit 100, o100_1 P) :: (nat_lit 103, o103_1 P) :: (nat_lit 105, o105_1 P) :: (nat_lit 106, o106_1 P) :: (nat_lit 108, o108_1 P) :: (nat_lit 109, o109_1 P) :: (nat_lit 110, o110_1 P) :: (nat_lit 112, o112_1 P) :: (nat_lit 113, o113_1 P) :: (nat_lit 115, o115_1 P) :: (nat_lit 116, o116_1 P) :: (nat_lit 117, o117_1 P) :: (nat_lit 119, o119_1 P) :: (nat_lit 120, o120_1 P) :: (nat_lit 122, o122_1 P) :: (nat_lit 123, o123_1 P) :: (nat_lit 124, o124_1 P) :: (nat_lit 126, o126_1 P) :: (nat_lit 127, o127_1 P) :: (nat_lit 129, o129_1 P) :: (nat_lit 130, o130_1 P) :: (nat_lit 131, o131_1 P) :: (nat_lit 134, o134_1 P) :: (nat_lit 135, o135_1 P) :: (nat_lit 136, o136_1 P) :: (nat_lit 138, o138_1 P) :: (nat_lit 139, o139_1 P) :: (nat_lit 141, o141_1 P) :: (nat_lit 142, o142_1 P) :: (nat_lit 143, o143_1 P) :: (nat_lit 145, o145_1 P) :: (nat_lit 146, o146_1 P) :: (nat_lit 148, o148_1 P) :: (nat_lit 149, o149_1 P) :: (nat_lit 157, o157_2 P) :: (nat_lit 158, o158_2 P) :: (nat_lit 159, o159_3 P) :: (nat_lit 160, o160_2 P) :: (nat_lit 161, o161_2 P) :: (nat_lit 164, o164_2 P) :: (nat_lit 171, o171_2 P) :: (nat_lit 173, o173_2 P) :: (nat_lit 174, o174_2 P) :: (nat_lit 176, o176_2 P) :: (nat_lit 177, o177_2 P) :: (nat_lit 178, o178_2 P) :: (nat_lit 180, o180_2 P) :: (nat_lit 181, o181_2 P) :: (nat_lit 183, o183_2 P) :: (nat_lit 184, o184_2 P) :: (nat_lit 185, o185_2 P) :: (nat_lit 186, o186_2 P) :: (nat_lit 187, o187_5 P) :: (nat_lit 190, o190_3 P) :: (nat_lit 197, o197_3 P) :: (nat_lit 199, o199_3 P) :: (nat_lit 200, o200_3 P) :: (nat_lit 202, o202_3 P) :: (nat_lit 203, o203_3 P) :: (nat_lit 204, o204_3 P) :: (nat_lit 206, o206_3 P) :: (nat_lit 207, o207_3 P) :: (nat_lit 209, o209_3 P) :: (nat_lit 210, o210_3 P) :: (nat_lit 211, o211_3 P) :: (nat_lit 213, o213_3 P) :: (nat_lit 214, o214_3 P) :: (nat_lit 216, o216_3 P) :: (nat_lit 217, o217_3 P) :: (nat_lit 218, o218_3 P) :: (nat_lit 220, o220_3 P) :: (nat_lit 221, o221_3 P) :: (nat_lit 223, o223_3 P) :: (nat_lit 224, o224_3 P) :: (nat_lit 225, o225_3 P) :: (nat_lit 226, o226_3 P) :: (nat_lit 227, o227_7 P) :: (nat_lit 230, o230_4 P) :: (nat_lit 237, o237_4 P) :: (nat_lit 239, o239_4 P) :: (nat_lit 240, o240_4 P) :: (nat_lit 242, o242_4 P) :: (nat_lit 243, o243_4 P) :: (nat_lit 244, o244_4 P) :: (nat_lit 246, o246_4 P) :: (nat_lit 247, o247_4 P) :: (nat_lit 249, o249_4 P) :: (nat_lit 250, o250_4 P) :: (nat_lit 251, o251_4 P) :: (nat_lit 253, o253_4 P) :: (nat_lit 254, o254_4 P) :: (nat_lit 256, o256_4 P) :: (nat_lit 257, o257_4 P) :: (nat_lit 258, o258_4 P) :: (nat_lit 260, o260_4 P) :: (nat_lit 261, o261_4 P) :: (nat_lit 263, o263_4 P) :: (nat_lit 264, o264_4 P) :: (nat_lit 265, o265_4 P) :: (nat_lit 267, o267_4 P) :: (nat_lit 268, o268_4 P) :: (nat_lit 270, o270_4 P) :: (nat_lit 271, o271_4 P) :: (nat_lit 272, o272_4 P) :: (nat_lit 274, o274_4 P) :: (nat_lit 275, o275_4 P) :: (nat_lit 277, o277_4 P) :: (nat_lit 278, o278_4 P) :: (nat_lit 279, o279_4 P) :: (nat_lit 281, o281_4 P) :: (nat_lit 282, o282_4 P) :: (nat_lit 284, o284_4 P) :: (nat_lit 285, o285_4 P) :: (nat_lit 286, o286_4 P) :: (nat_lit 288, o288_4 P) :: (nat_lit 289, o289_4 P) :: (nat_lit 291, o291_4 P) :: (nat_lit 292, o292_4 P) :: (nat_lit 293, o293_4 P) :: (nat_lit 295, o295_4 P) :: (nat_lit 296, o296_4 P) :: (nat_lit 298, o298_4 P) :: (nat_lit 299, o299_4 P) :: (nat_lit 300, o300_4 P) :: (nat_lit 302, o302_4 P) :: (nat_lit 303, o303_4 P) :: (nat_lit 305, o305_4 P) :: (nat_lit 306, o306_4 P) :: (nat_lit 307, o307_4 P) :: (nat_lit 308, o308_4 P) :: (nat_lit 309, o309_4 P) :: (nat_lit 312, o312_5 P) :: (nat_lit 319, o319_5 P) :: (nat_lit 321, o321_5 P) :: (nat_lit 322, o322_5 P) :: (nat_lit 324, o324_5 P) :: (nat_lit 325, o325_5 P) :: (nat_lit 326, o326_5 P) :: (nat_lit 328, o328_5 P) :: (nat_lit 329, o329_5 P) :: (nat_lit 331, o331_5 P) :: (nat_lit 332, o332_5 P) :: (nat_lit 333, o333_5 P) :: (nat_lit 335, o335_5 P) :: (nat_lit 336, o336_5 P) :: (nat_lit 338, o338_5 P) :: (nat_lit 339, o339_5 P) :: (nat_lit 340, o340_5 P) :: (nat_lit 342, o342_5 P) :: (nat_lit 343, o343_5 P) :: (nat_lit 345, o345_5 P) :: (nat_lit 346, o346_5 P) :: (nat_lit 347, o347_5 P) :: (nat_lit 349, o349_5 P) :: (nat_lit 350, o350_5 P) :: (nat_lit 352, o352_5 P) :: (nat_lit 353, o353_5 P) :: (nat_lit 354, o354_5 P) :: (nat_lit 356, o356_5 P) :: (nat_lit 357, o357_5 P) :: (nat_lit 359, o359_5 P) :: (nat_lit 360, o360_5 P) :: (nat_lit 361, o361_5 P) :: (nat_lit 363, o363_5 P) :: (nat_lit 364, o364_5 P) :: (nat_lit 366, o366_5 P) :: (nat_lit 367, o367_5 P) :: (nat_lit 368, o368_5 P) :: (nat_lit 370, o370_5 P) :: (nat_lit 371, o371_5 P) :: (nat_lit 373, o373_5 P) :: (nat_lit 374, o374_5 P) :: (nat_lit 375, o375_5 P) :: (nat_lit 377, o377_5 P) :: (nat_lit 378, o378_5 P) :: (nat_lit 380, o380_5 P) :: (nat_lit 381, o381_5 P) :: (nat_lit 382, o382_5 P) :: (nat_lit 384, o384_5 P) :: (nat_lit 385, o385_5 P) :: (nat_lit 387, o387_5 P) :: (nat_lit 388, o388_5 P) :: (nat_lit 389, o389_5 P) :: (nat_lit 391, o391_5 P) :: (nat_lit 392, o392_5 P) :: (nat_lit 394, o394_5 P) :: (nat_lit 395, o395_5 P) :: (nat_lit 396, o396_5 P) :: (nat_lit 397, o397_5 P) :: (nat_lit 398, o398_5 P) :: (nat_lit 401, o401_6 P) :: (nat_lit 408, o408_6 P) :: (nat_lit 410, o410_6 P) :: (nat_lit 411, o411_6 P) :: (nat_lit 413, o413_6 P) :: (nat_lit 414, o414_6 P) :: (nat_lit 415, o415_6 P) :: (nat_lit 417, o417_6 P) :: (nat_lit 418, o418_6 P) :: (nat_lit 420, o420_6 P) :: (nat_lit 421, o421_6 P) :: (nat_lit 422, o422_6 P) :: (nat_lit 424, o424_6 P) :: (nat_lit 425, o425_6 P) :: (nat_lit 427, o427_6 P) :: (nat_lit 428, o428_6 P) :: (nat_lit 429, o429_6 P) :: (nat_lit 431, o431_6 P) :: (nat_lit 432, o432_6 P) :: (nat_lit 434, o434_6 P) :: (nat_lit 435, o435_6 P) :: (nat_lit 436, o436_6 P) :: (nat_lit 438, o438_6 P) :: (nat_lit 439, o439_6 P) :: (nat_lit 441, o441_6 P) :: (nat_lit 442, o442_6 P) :: (nat_lit 443, o443_6 P) :: (nat_lit 445, o445_6 P) :: (nat_lit 446, o446_6 P) :: (nat_lit 448, o448_6 P) :: (nat_lit 449, o449_6 P) :: (nat_lit 450, o450_6 P) :: (nat_lit 452, o452_6 P) :: (nat_lit 453, o453_6 P) :: (nat_lit 455, o455_6 P) :: (nat_lit 456, o456_6 P) :: (nat_lit 457, o457_6 P) :: (nat_lit 459, o459_6 P) :: (nat_lit 460, o460_6 P) :: (nat_lit 462, o462_6 P) :: (nat_lit 463, o463_6 P) :: (nat_lit 464, o464_6 P) :: (nat_lit 465, o465_6 P) :: (nat_lit 466, o466_6 P) :: (nat_lit 469, o469_7 P) :: (nat_lit 476, o476_7 P) :: (nat_lit 478, o478_7 P) :: (nat_lit 479, o479_7 P) :: (nat_lit 481, o481_7 P) :: (nat_lit 482, o482_7 P) :: (nat_lit 483, o483_7 P) :: (nat_lit 485, o485_7 P) :: (nat_lit 486, o486_7 P) :: (nat_lit 488, o488_7 P) :: (nat_lit 489, o489_7 P) :: (nat_lit 490, o490_7 P) :: (nat_lit 492, o492_7 P) :: (nat_lit 493, o493_7 P) :: (nat_lit 495, o495_7 P) :: (nat_lit 496, o496_7 P) :: (nat_lit 497, o497_7 P) :: (nat_lit 499, o499_7 P) :: (nat_lit 500, o500_7 P) :: (nat_lit 502, o502_7 P) :: (nat_lit 503, o503_7 P) :: (nat_lit 504, o504_7 P) :: (nat_lit 506, o506_7 P) :: (nat_lit 507, o507_7 P) :: (nat_lit 509, o509_7 P) :: (nat_lit 510, o510_7 P) :: (nat_lit 511, o511_7 P) :: (nat_lit 513, o513_7 P) :: (nat_lit 514, o514_7 P) :: (nat_lit 516, o516_7 P) :: (nat_lit 517, o517_7 P) :: (nat_lit 518, o518_7 P) :: (nat_lit 520, o520_7 P) :: (nat_lit 521, o521_7 P) :: (nat_lit 523, o523_7 P) :: (nat_lit 524, o524_7 P) :: (nat_lit 525, o525_7 P) :: (nat_lit 527, o527_7 P) :: (nat_lit 528, o528_7 P) :: (nat_lit 530, o530_7 P) :: (nat_lit 531, o531_7 P) :: (nat_lit 532, o532_7 P) :: (nat_lit 533, o533_7 P) :: (nat_lit 534, o534_7 P) :: (nat_lit 537, o537_7 P) :: (nat_lit 539, o539_7 P) :: (nat_lit 540, o540_7 P) :: (nat_lit 542, o542_7 P) :: (nat_lit 543, o543_7 P) :: (nat_lit 544, o544_7 P) :: (nat_lit 546, o546_7 P) :: (nat_lit 547, o547_7 P) :: (nat_lit 549, o549_7 P) :: (nat_lit 550, o550_7 P) :: (nat_lit 551, o551_7 P) :: (nat_lit 553, o553_7 P) :: (nat_lit 554, o554_7 P) :: (nat_lit 556, o556_7 P) :: (nat_lit 557, o557_7 P) :: (nat_lit 558, o558_7 P) :: (nat_lit 560, o560_7 P) :: (nat_lit 561, o561_7 P) :: (nat_lit 563, o563_7 P) :: (nat_lit 564, o564_7 P) :: (nat_lit 565, o565_7 P) :: (nat_lit 567, o567_7 P) :: (nat_lit 568, o568_7 P) :: (nat_lit 570, o570_7 P) :: (nat_lit 571, o571_7 P) :: (nat_lit 572, o572_7 P) :: (nat_lit 574, o574_7 P) :: (nat_lit 575, o575_7 P) :: (nat_lit 577, o577_7 P) :: (nat_lit 578, o578_7 P) :: (nat_lit 579, o579_7 P) :: (nat_lit 581, o581_7 P) :: (nat_lit 582, o582_7 P) :: (nat_lit 584, o584_7 P) :: (nat_lit 585, o585_7 P) :: (nat_lit 586, o586_7 P) :: (nat_lit 588, o588_7 P) :: (nat_lit 589, o589_7 P) :: (nat_lit 591, o591_7 P) :: (nat_lit 592, o592_7 P) :: (nat_lit 593, o593_7 P) :: (nat_lit 595, o595_7 P) :: (nat_lit 596, o596_7 P) :: (nat_lit 598, o598_7 P) :: (nat_lit 599, o599_7 P) :: (nat_lit 600, o600_7 P) :: (nat_lit 603, o603_7 P) :: (nat_lit 604, o604_7 P) :: (nat_lit 605, o605_8 P) :: (nat_lit 608, o608_8 P) :: (nat_lit 609, o609_8 P) :: (nat_lit 610, o610_8 P) :: (nat_lit 612, o612_8 P) :: (nat_lit 613, o613_8 P) :: (nat_lit 615, o615_8 P) :: (nat_lit 616, o616_8 P) :: (nat_lit 617, o617_8 P) :: (nat_lit 619, o619_8 P) :: (nat_lit 620, o620_8 P) :: (nat_lit 622, o622_8 P) :: (nat_lit 623, o623_8 P) :: (nat_lit 624, o624_8 P) :: (nat_lit 626, o626_8 P) :: (nat_lit 627, o627_8 P) :: (nat_lit 629, o629_8 P) :: (nat_lit 630, o630_8 P) :: (nat_lit 631, o631_8 P) :: (nat_lit 634, o634_8 P) :: (nat_lit 635, o635_8 P) :: (nat_lit 636, o636_8 P) :: (nat_lit 638, o638_8 P) :: (nat_lit 639, o639_8 P) :: (nat_lit 641, o641_8 P) :: (nat_lit 642, o642_8 P) :: (nat_lit 643, o643_8 P) :: (nat_lit 646, o646_8 P) :: (nat_lit 647, o647_8 P) :: []
def KA : List Addr := [2, 3, 15, 17, 18, 20, 21, 22, 25, 26, 27, 30, 31, 32, 34, 35, 37, 38, 39, 42, 43, 44, 47, 48, 49, 52, 53, 54, 61, 62, 63, 64, 67, 74, 75, 76, 79, 86, 87, 88, 91, 98, 99, 100, 103, 105, 106, 108, 109, 110, 112, 113, 115, 116, 117, 119, 120, 122, 123, 124, 126, 127, 129, 130, 131, 134, 135, 136, 138, 139, 141, 142, 143, 145, 146, 148, 149, 157, 158, 159, 160, 161, 164, 171, 173, 174, 176, 177, 178, 180, 181, 183, 184, 185, 186, 187, 190, 197, 199, 200, 202, 203, 204, 206, 207, 209, 210, 211, 213, 214, 216, 217, 218, 220, 221, 223, 224, 225, 226, 227, 230, 237, 239, 240, 242, 243, 244, 246, 247, 249, 250, 251, 253, 254, 256, 257, 258, 260, 261, 263, 264, 265, 267, 268, 270, 271, 272, 274, 275, 277, 278, 279, 281, 282, 284, 285, 286, 288, 289, 291, 292, 293, 295, 296, 298, 299, 300, 302, 303, 305, 306, 307, 308, 309, 312, 319, 321, 322, 324, 325, 326, 328, 329, 331, 332, 333, 335, 336, 338, 339, 340, 342, 343, 345, 346, 347, 349, 350, 352, 353, 354, 356, 357, 359, 360, 361, 363, 364, 366, 367, 368, 370, 371, 373, 374, 375, 377, 378, 380, 381, 382, 384, 385, 387, 388, 389, 391, 392, 394, 395, 396, 397, 398, 401, 408, 410, 411, 413, 414, 415, 417, 418, 420, 421, 422, 424, 425, 427, 428, 429, 431, 432, 434, 435, 436, 438, 439, 441, 442, 443, 445, 446, 448, 449, 450, 452, 453, 455, 456, 457, 459, 460, 462, 463, 464, 465, 466, 469, 476, 478, 479, 481, 482, 483, 485, 486, 488, 489, 490, 492, 493, 495, 496, 497, 499, 500, 502, 503, 504, 506, 507, 509, 510, 511, 513, 514, 516, 517, 518, 520, 521, 523, 524, 525, 527, 528, 530, 531, 532, 533, 534, 537, 539, 540, 542, 543, 544, 546, 547, 549, 550, 551, 553, 554, 556, 557, 558, 560, 561, 563, 564, 565, 567, 568, 570, 571, 572, 574, 575, 577, 578, 579, 581, 582, 584, 585, 586, 588, 589, 591, 592, 593, 595, 596, 598, 599, 600, 603, 604, 605, 608, 609, 610, 612, 613, 615, 616, 617, 619, 620, 622, 623, 624, 626, 627, 629, 630, 631, 634, 635, 636, 638, 639, 641, 642, 643, 646, 647]
theorem KA_eq (P : Params) : KA = (K P).map (·.1) := by kernel_rfl
def topO (i : Nat) : Stmt := PySem.Challenge.pw_weighwalk_k11_rows_and_tables.main.body.getD i (.Pass ⟨0, 0, 0, 0⟩)
theorem top_eq : topT = topO := by unfold topT topO; rw [Fast.te9077655869000506260]
def qT : Program := { Fast.tw9077655869000506260 with main := { Fast.tw9077655869000506260.main with body := [topT 0, topT 2, topT 3, topT 4, topT 5, topT 6, topT 7, topT 9, topT 10, topT 11, topT 12, topT 14, topT 15, topT 16, topT 17, topT 19, topT 20, topT 21, topT 22, topT 23, topT 24, topT 25, topT 26, topT 27, topT 28, topT 29, topT 30, topT 31, topT 33, topT 34, topT 35, topT 36, topT 37, topT 38, topT 39, topT 40, topT 41, topT 42, topT 43, topT 44, topT 45, topT 46, topT 47, topT 48, topT 49] } }
def qO : Program := { PySem.Challenge.pw_weighwalk_k11_rows_and_tables with main := { PySem.Challenge.pw_weighwalk_k11_rows_and_tables.main with body := [topO 0, topO 2, topO 3, topO 4, topO 5, topO 6, topO 7, topO 9, topO 10, topO 11, topO 12, topO 14, topO 15, topO 16, topO 17, topO 19, topO 20, topO 21, topO 22, topO 23, topO 24, topO 25, topO 26, topO 27, topO 28, topO 29, topO 30, topO 31, topO 33, topO 34, topO 35, topO 36, topO 37, topO 38, topO 39, topO 40, topO 41, topO 42, topO 43, topO 44, topO 45, topO 46, topO 47, topO 48, topO 49] } }
theorem q_eq : qO = qT := by unfold qO qT; rw [top_eq, Fast.te9077655869000506260]
def recs := RowW.records (OpenRow.toRowW (OpenLaw.row PySem.Challenge.rw_weighwalk_k11_rows_and_tables))
abbrev Xt (q : Program) (s : Shared) : Bool := xlAt q [] s && recOk recs s
abbrev hook : Hook := kHook K KA KA_eq
theorem size_ (w : World) : ((boot_heap w.params).isNs mainGlobals && (⟨[]⟩ : Array GenState).size == 0, (boot_heap w.params).objs.size, (boot_heap w.params).nsMap mainGlobals "__annotations__") = (true, 11, (some (.ref 6))) := by (try rw [Fast.te15667345088766844465]); (try rw [Fast.te14082659384304107361]); (try rw [Fast.te14374325043358763698]); (try rw [Fast.te10110043849684766642]); (try rw [Fast.te14364793385576792824]); (try rw [Fast.te11892475500146522536]); (try rw [Fast.te4187177175401517315]); (try rw [Fast.te5923862056798008813]); (try rw [Fast.te8920871248978507458]); kernel_rfl
theorem open_ : ∀ w : World, (fencedOpening treeTable Fast.tw9077655869000506260 w 9526).map (fun s => (s.heap, s.gens, s.drawn, s.toks)) = some (boot_heap w.params, ⟨[]⟩, boot_drawn, boot_toks) := boot_open (by kernel_rfl) (by decide) (fun s => by (try rw [Fast.te15667345088766844465]); (try rw [Fast.te14082659384304107361]); (try rw [Fast.te14374325043358763698]); (try rw [Fast.te10110043849684766642]); (try rw [Fast.te14364793385576792824]); (try rw [Fast.te11892475500146522536]); (try rw [Fast.te4187177175401517315]); (try rw [Fast.te5923862056798008813]); (try rw [Fast.te8920871248978507458]); kernel_rfl)
theorem look1 (w : World) (os : OsState) : (staticsOk (importedModules Fast.tw9077655869000506260.main.body) (boot_heap w.params) (Hf w.params) && namesBound Fast.tw9077655869000506260 (Hf w.params) && gensDone (Sf w os) && laidKept (boot_heap w.params) (Hf w.params)) = true := by (try rw [Fast.te15667345088766844465]); (try rw [Fast.te14082659384304107361]); (try rw [Fast.te14374325043358763698]); (try rw [Fast.te10110043849684766642]); (try rw [Fast.te14364793385576792824]); (try rw [Fast.te11892475500146522536]); (try rw [Fast.te4187177175401517315]); (try rw [Fast.te5923862056798008813]); (try rw [Fast.te8920871248978507458]); kernel_rfl
theorem look2 (w : World) (os : OsState) : openSeen qT [] (importedModules Fast.tw9077655869000506260.main.body) (Xt qT) true (Sf w os) = openGood qT [] := by (try rw [Fast.te15667345088766844465]); (try rw [Fast.te14082659384304107361]); (try rw [Fast.te14374325043358763698]); (try rw [Fast.te10110043849684766642]); (try rw [Fast.te14364793385576792824]); (try rw [Fast.te11892475500146522536]); (try rw [Fast.te4187177175401517315]); (try rw [Fast.te5923862056798008813]); (try rw [Fast.te8920871248978507458]); kernel_rfl
theorem look3 (w : World) (os : OsState) : hook.obs (Sf w os) = hook.val w := by kernel_rfl
theorem leftT : LeftO Fast.tw9077655869000506260 qT [] (Xt qT) hook.obs hook.val 9526 := LeftO.of_pieces (H₁ := Hf) open_ size_ run_ (by decide) (fun w => funext fun os => looks_pair (look1 w os) (looks_pair (look2 w os) (look3 w os)))
theorem left : LeftO PySem.Challenge.pw_weighwalk_k11_rows_and_tables qO [] (Xt qO) hook.obs hook.val 9526 := by have h := leftT; rw [← q_eq, ← Fast.te9077655869000506260] at h; exact h
def dO : DefRec := ⟨PySem.Str.ofString "law", L2.defArgs (topO 49), L2.defBody (topO 49), L2.defScope (topO 49), ⟨356, 0, 385, 133⟩⟩
theorem holds_ (said : (OpenLaw.row PySem.Challenge.rw_weighwalk_k11_rows_and_tables).wellSaid = true) (hw : (OpenLaw.row PySem.Challenge.rw_weighwalk_k11_rows_and_tables).toRowW.promised) (hc : WalkO qO [] (XL qO []) (Hook.says hook) (OpenLaw.row PySem.Challenge.rw_weighwalk_k11_rows_and_tables).toRowW dO [] (fun f vs => PySem.call f vs)) : (OpenLaw.row PySem.Challenge.rw_weighwalk_k11_rows_and_tables).Holds :=
  holds_open (r := (OpenLaw.row PySem.Challenge.rw_weighwalk_k11_rows_and_tables)) (q := qO) (loose := []) (Xt := Xt qO) (XP := XL qO []) (Yf := hook.obs) (Ya := hook.val) (YP := hook.says) (d := dO) (kwd := []) (N := 9526) left hook.of hook.keeps (fun s e => xl_of s (Bool.and_eq_true_iff.mp e).1) XL.keeps (by kernel_rfl) (by kernel_rfl) (by kernel_rfl) (fun s e => recFacts_of (Bool.and_eq_true_iff.mp e).2) (by kernel_rfl) said (by decide +kernel) ⟨rfl, rfl, rfl, rfl, rfl, by decide +kernel⟩ hw hc
theorem lk__wall (P : Params) : (K P).lookup 21 = some ⟨(.type SL.s7174869446012820540x8), none, .func (fnOf (PySem.Str.ofString "_wall") (PySem.Str.ofString "_wall") (L2.defArgs (topO 0)) (L2.defBody (topO 0)) (L2.defScope (topO 0)) .none .none .none (.str s2 164) none (.ref 20) .none), #[]⟩ := by rw [← top_eq]; kernel_rfl
theorem lk_column_at (P : Params) : (K P).lookup 26 = some ⟨(.type SL.s7174869446012820540x8), none, .func (fnOf (PySem.Str.ofString "column_at") (PySem.Str.ofString "column_at") (L2.defArgs (topO 2)) (L2.defBody (topO 2)) (L2.defScope (topO 2)) .none .none .none (.str s23 194) none (.ref 25) .none), #[]⟩ := by rw [← top_eq]; kernel_rfl
theorem lk_columns_of (P : Params) : (K P).lookup 31 = some ⟨(.type SL.s7174869446012820540x8), none, .func (fnOf (PySem.Str.ofString "columns_of") (PySem.Str.ofString "columns_of") (L2.defArgs (topO 3)) (L2.defBody (topO 3)) (L2.defScope (topO 3)) .none .none .none (.str s23 194) none (.ref 30) .none), #[]⟩ := by rw [← top_eq]; kernel_rfl
theorem lk_dot (P : Params) : (K P).lookup 38 = some ⟨(.type SL.s7174869446012820540x8), none, .func (fnOf (PySem.Str.ofString "dot") (PySem.Str.ofString "dot") (L2.defArgs (topO 4)) (L2.defBody (topO 4)) (L2.defScope (topO 4)) .none .none .none (.str s23 194) none (.ref 37) .none), #[]⟩ := by rw [← top_eq]; kernel_rfl
theorem lk_row_by (P : Params) : (K P).lookup 43 = some ⟨(.type SL.s7174869446012820540x8), none, .func (fnOf (PySem.Str.ofString "row_by") (PySem.Str.ofString "row_by") (L2.defArgs (topO 5)) (L2.defBody (topO 5)) (L2.defScope (topO 5)) .none .none .none (.str s23 194) none (.ref 42) .none), #[]⟩ := by rw [← top_eq]; kernel_rfl
theorem lk_by_column (P : Params) : (K P).lookup 48 = some ⟨(.type SL.s7174869446012820540x8), none, .func (fnOf (PySem.Str.ofString "by_column") (PySem.Str.ofString "by_column") (L2.defArgs (topO 6)) (L2.defBody (topO 6)) (L2.defScope (topO 6)) .none .none .none (.str s23 194) none (.ref 47) .none), #[]⟩ := by rw [← top_eq]; kernel_rfl
theorem lk_by_table (P : Params) : (K P).lookup 53 = some ⟨(.type SL.s7174869446012820540x8), none, .func (fnOf (PySem.Str.ofString "by_table") (PySem.Str.ofString "by_table") (L2.defArgs (topO 7)) (L2.defBody (topO 7)) (L2.defScope (topO 7)) .none .none .none (.str s23 194) none (.ref 52) .none), #[]⟩ := by rw [← top_eq]; kernel_rfl
theorem lk_is_whole (P : Params) : (K P).lookup 109 = some ⟨(.type SL.s7174869446012820540x8), none, .func (fnOf (PySem.Str.ofString "is_whole") (PySem.Str.ofString "is_whole") (L2.defArgs (topO 14)) (L2.defBody (topO 14)) (L2.defScope (topO 14)) .none .none .none (.str s50 306) none (.ref 108) .none), #[]⟩ := by rw [← top_eq]; kernel_rfl
theorem lk_divisor (P : Params) : (K P).lookup 116 = some ⟨(.type SL.s7174869446012820540x8), none, .func (fnOf (PySem.Str.ofString "divisor") (PySem.Str.ofString "divisor") (L2.defArgs (topO 15)) (L2.defBody (topO 15)) (L2.defScope (topO 15)) .none .none .none (.str s50 306) none (.ref 115) .none), #[]⟩ := by rw [← top_eq]; kernel_rfl
theorem lk_fraction (P : Params) : (K P).lookup 123 = some ⟨(.type SL.s7174869446012820540x8), none, .func (fnOf (PySem.Str.ofString "fraction") (PySem.Str.ofString "fraction") (L2.defArgs (topO 16)) (L2.defBody (topO 16)) (L2.defScope (topO 16)) .none .none .none (.str s50 306) none (.ref 122) .none), #[]⟩ := by rw [← top_eq]; kernel_rfl
theorem lk_is_prime (P : Params) : (K P).lookup 130 = some ⟨(.type SL.s7174869446012820540x8), none, .func (fnOf (PySem.Str.ofString "is_prime") (PySem.Str.ofString "is_prime") (L2.defArgs (topO 17)) (L2.defBody (topO 17)) (L2.defScope (topO 17)) .none .none .none (.str s50 306) none (.ref 129) .none), #[]⟩ := by rw [← top_eq]; kernel_rfl
theorem lk_is_written (P : Params) : (K P).lookup 135 = some ⟨(.type SL.s7174869446012820540x8), none, .func (fnOf (PySem.Str.ofString "is_written") (PySem.Str.ofString "is_written") (L2.defArgs (topO 22)) (L2.defBody (topO 22)) (L2.defScope (topO 22)) .none .none .none (.str s35 343) none (.ref 134) .none), #[]⟩ := by rw [← top_eq]; kernel_rfl
theorem lk_read_whole (P : Params) : (K P).lookup 142 = some ⟨(.type SL.s7174869446012820540x8), none, .func (fnOf (PySem.Str.ofString "read_whole") (PySem.Str.ofString "read_whole") (L2.defArgs (topO 23)) (L2.defBody (topO 23)) (L2.defScope (topO 23)) .none .none .none (.str s35 343) none (.ref 141) .none), #[]⟩ := by rw [← top_eq]; kernel_rfl
theorem lk_need_text (P : Params) : (K P).lookup 149 = some ⟨(.type SL.s7174869446012820540x8), none, .func (fnOf (PySem.Str.ofString "need_text") (PySem.Str.ofString "need_text") (L2.defArgs (topO 24)) (L2.defBody (topO 24)) (L2.defScope (topO 24)) .none .none .none (.str s35 343) none (.ref 148) .none), #[]⟩ := by rw [← top_eq]; kernel_rfl
theorem lk_Field_is_field (P : Params) : (K P).lookup 177 = some ⟨(.type SL.s7174869446012820540x8), none, .func (fnOf (PySem.Str.ofString "is_field") (PySem.Str.ofString "Field.is_field") (L2.defArgs (L2.inClass (topO 26) 0)) (L2.defBody (L2.inClass (topO 26) 0)) (L2.defScope (L2.inClass (topO 26) 0)) .none .none .none (.str s35 343) none (.ref 176) .none), #[]⟩ := by rw [← top_eq]; kernel_rfl
theorem lk_Field_picks (P : Params) : (K P).lookup 184 = some ⟨(.type SL.s7174869446012820540x8), none, .func (fnOf (PySem.Str.ofString "picks") (PySem.Str.ofString "Field.picks") (L2.defArgs (L2.inClass (topO 26) 1)) (L2.defBody (L2.inClass (topO 26) 1)) (L2.defScope (L2.inClass (topO 26) 1)) .none .none .none (.str s35 343) none (.ref 183) .none), #[]⟩ := by rw [← top_eq]; kernel_rfl
theorem lk_Picking_is_field (P : Params) : (K P).lookup 203 = some ⟨(.type SL.s7174869446012820540x8), none, .func (fnOf (PySem.Str.ofString "is_field") (PySem.Str.ofString "Picking.is_field") (L2.defArgs (L2.inClass (topO 27) 0)) (L2.defBody (L2.inClass (topO 27) 0)) (L2.defScope (L2.inClass (topO 27) 0)) .none .none .none (.str s35 343) none (.ref 202) .none), #[]⟩ := by rw [← top_eq]; kernel_rfl
theorem lk_Picking_picks (P : Params) : (K P).lookup 210 = some ⟨(.type SL.s7174869446012820540x8), none, .func (fnOf (PySem.Str.ofString "picks") (PySem.Str.ofString "Picking.picks") (L2.defArgs (L2.inClass (topO 27) 1)) (L2.defBody (L2.inClass (topO 27) 1)) (L2.defScope (L2.inClass (topO 27) 1)) .none .none .none (.str s35 343) none (.ref 209) .none), #[]⟩ := by rw [← top_eq]; kernel_rfl
theorem lk_Picking_minus (P : Params) : (K P).lookup 217 = some ⟨(.type SL.s7174869446012820540x8), none, .func (fnOf (PySem.Str.ofString "minus") (PySem.Str.ofString "Picking.minus") (L2.defArgs (L2.inClass (topO 27) 2)) (L2.defBody (L2.inClass (topO 27) 2)) (L2.defScope (L2.inClass (topO 27) 2)) .none .none .none (.str s35 343) none (.ref 216) .none), #[]⟩ := by rw [← top_eq]; kernel_rfl
theorem lk_Picking_inverse (P : Params) : (K P).lookup 224 = some ⟨(.type SL.s7174869446012820540x8), none, .func (fnOf (PySem.Str.ofString "inverse") (PySem.Str.ofString "Picking.inverse") (L2.defArgs (L2.inClass (topO 27) 3)) (L2.defBody (L2.inClass (topO 27) 3)) (L2.defScope (L2.inClass (topO 27) 3)) .none .none .none (.str s35 343) none (.ref 223) .none), #[]⟩ := by rw [← top_eq]; kernel_rfl
theorem lk_Fractions_told (P : Params) : (K P).lookup 243 = some ⟨(.type SL.s7174869446012820540x8), none, .func (fnOf (PySem.Str.ofString "told") (PySem.Str.ofString "Fractions.told") (L2.defArgs (L2.inClass (topO 28) 0)) (L2.defBody (L2.inClass (topO 28) 0)) (L2.defScope (L2.inClass (topO 28) 0)) .none .none .none (.str s35 343) none (.ref 242) .none), #[]⟩ := by rw [← top_eq]; kernel_rfl
theorem lk_Fractions_nought (P : Params) : (K P).lookup 250 = some ⟨(.type SL.s7174869446012820540x8), none, .func (fnOf (PySem.Str.ofString "nought") (PySem.Str.ofString "Fractions.nought") (L2.defArgs (L2.inClass (topO 28) 1)) (L2.defBody (L2.inClass (topO 28) 1)) (L2.defScope (L2.inClass (topO 28) 1)) .none .none .none (.str s35 343) none (.ref 249) .none), #[]⟩ := by rw [← top_eq]; kernel_rfl
theorem lk_Fractions_one (P : Params) : (K P).lookup 257 = some ⟨(.type SL.s7174869446012820540x8), none, .func (fnOf (PySem.Str.ofString "one") (PySem.Str.ofString "Fractions.one") (L2.defArgs (L2.inClass (topO 28) 2)) (L2.defBody (L2.inClass (topO 28) 2)) (L2.defScope (L2.inClass (topO 28) 2)) .none .none .none (.str s35 343) none (.ref 256) .none), #[]⟩ := by rw [← top_eq]; kernel_rfl
theorem lk_Fractions_plus (P : Params) : (K P).lookup 264 = some ⟨(.type SL.s7174869446012820540x8), none, .func (fnOf (PySem.Str.ofString "plus") (PySem.Str.ofString "Fractions.plus") (L2.defArgs (L2.inClass (topO 28) 3)) (L2.defBody (L2.inClass (topO 28) 3)) (L2.defScope (L2.inClass (topO 28) 3)) .none .none .none (.str s35 343) none (.ref 263) .none), #[]⟩ := by rw [← top_eq]; kernel_rfl
theorem lk_Fractions_times (P : Params) : (K P).lookup 271 = some ⟨(.type SL.s7174869446012820540x8), none, .func (fnOf (PySem.Str.ofString "times") (PySem.Str.ofString "Fractions.times") (L2.defArgs (L2.inClass (topO 28) 4)) (L2.defBody (L2.inClass (topO 28) 4)) (L2.defScope (L2.inClass (topO 28) 4)) .none .none .none (.str s35 343) none (.ref 270) .none), #[]⟩ := by rw [← top_eq]; kernel_rfl
theorem lk_Fractions_minus (P : Params) : (K P).lookup 278 = some ⟨(.type SL.s7174869446012820540x8), none, .func (fnOf (PySem.Str.ofString "minus") (PySem.Str.ofString "Fractions.minus") (L2.defArgs (L2.inClass (topO 28) 5)) (L2.defBody (L2.inClass (topO 28) 5)) (L2.defScope (L2.inClass (topO 28) 5)) .none .none .none (.str s35 343) none (.ref 277) .none), #[]⟩ := by rw [← top_eq]; kernel_rfl
theorem lk_Fractions_inverse (P : Params) : (K P).lookup 285 = some ⟨(.type SL.s7174869446012820540x8), none, .func (fnOf (PySem.Str.ofString "inverse") (PySem.Str.ofString "Fractions.inverse") (L2.defArgs (L2.inClass (topO 28) 6)) (L2.defBody (L2.inClass (topO 28) 6)) (L2.defScope (L2.inClass (topO 28) 6)) .none .none .none (.str s35 343) none (.ref 284) .none), #[]⟩ := by rw [← top_eq]; kernel_rfl
theorem lk_Fractions_is_weight (P : Params) : (K P).lookup 292 = some ⟨(.type SL.s7174869446012820540x8), none, .func (fnOf (PySem.Str.ofString "is_weight") (PySem.Str.ofString "Fractions.is_weight") (L2.defArgs (L2.inClass (topO 28) 7)) (L2.defBody (L2.inClass (topO 28) 7)) (L2.defScope (L2.inClass (topO 28) 7)) .none .none .none (.str s35 343) none (.ref 291) .none), #[]⟩ := by rw [← top_eq]; kernel_rfl
theorem lk_Fractions_shown (P : Params) : (K P).lookup 299 = some ⟨(.type SL.s7174869446012820540x8), none, .func (fnOf (PySem.Str.ofString "shown") (PySem.Str.ofString "Fractions.shown") (L2.defArgs (L2.inClass (topO 28) 8)) (L2.defBody (L2.inClass (topO 28) 8)) (L2.defScope (L2.inClass (topO 28) 8)) .none .none .none (.str s35 343) none (.ref 298) .none), #[]⟩ := by rw [← top_eq]; kernel_rfl
theorem lk_Fractions_read (P : Params) : (K P).lookup 306 = some ⟨(.type SL.s7174869446012820540x8), none, .func (fnOf (PySem.Str.ofString "read") (PySem.Str.ofString "Fractions.read") (L2.defArgs (L2.inClass (topO 28) 9)) (L2.defBody (L2.inClass (topO 28) 9)) (L2.defScope (L2.inClass (topO 28) 9)) .none .none .none (.str s35 343) none (.ref 305) .none), #[]⟩ := by rw [← top_eq]; kernel_rfl
theorem lk_Residues___init__ (P : Params) : (K P).lookup 325 = some ⟨(.type SL.s7174869446012820540x8), none, .func (fnOf (PySem.Str.ofString "__init__") (PySem.Str.ofString "Residues.__init__") (L2.defArgs (L2.inClass (topO 29) 0)) (L2.defBody (L2.inClass (topO 29) 0)) (L2.defScope (L2.inClass (topO 29) 0)) .none .none .none (.str s35 343) none (.ref 324) .none), #[]⟩ := by rw [← top_eq]; kernel_rfl
theorem lk_Residues_told (P : Params) : (K P).lookup 332 = some ⟨(.type SL.s7174869446012820540x8), none, .func (fnOf (PySem.Str.ofString "told") (PySem.Str.ofString "Residues.told") (L2.defArgs (L2.inClass (topO 29) 1)) (L2.defBody (L2.inClass (topO 29) 1)) (L2.defScope (L2.inClass (topO 29) 1)) .none .none .none (.str s35 343) none (.ref 331) .none), #[]⟩ := by rw [← top_eq]; kernel_rfl
theorem lk_Residues_nought (P : Params) : (K P).lookup 339 = some ⟨(.type SL.s7174869446012820540x8), none, .func (fnOf (PySem.Str.ofString "nought") (PySem.Str.ofString "Residues.nought") (L2.defArgs (L2.inClass (topO 29) 2)) (L2.defBody (L2.inClass (topO 29) 2)) (L2.defScope (L2.inClass (topO 29) 2)) .none .none .none (.str s35 343) none (.ref 338) .none), #[]⟩ := by rw [← top_eq]; kernel_rfl
theorem lk_Residues_one (P : Params) : (K P).lookup 346 = some ⟨(.type SL.s7174869446012820540x8), none, .func (fnOf (PySem.Str.ofString "one") (PySem.Str.ofString "Residues.one") (L2.defArgs (L2.inClass (topO 29) 3)) (L2.defBody (L2.inClass (topO 29) 3)) (L2.defScope (L2.inClass (topO 29) 3)) .none .none .none (.str s35 343) none (.ref 345) .none), #[]⟩ := by rw [← top_eq]; kernel_rfl
theorem lk_Residues_plus (P : Params) : (K P).lookup 353 = some ⟨(.type SL.s7174869446012820540x8), none, .func (fnOf (PySem.Str.ofString "plus") (PySem.Str.ofString "Residues.plus") (L2.defArgs (L2.inClass (topO 29) 4)) (L2.defBody (L2.inClass (topO 29) 4)) (L2.defScope (L2.inClass (topO 29) 4)) .none .none .none (.str s35 343) none (.ref 352) .none), #[]⟩ := by rw [← top_eq]; kernel_rfl
theorem lk_Residues_times (P : Params) : (K P).lookup 360 = some ⟨(.type SL.s7174869446012820540x8), none, .func (fnOf (PySem.Str.ofString "times") (PySem.Str.ofString "Residues.times") (L2.defArgs (L2.inClass (topO 29) 5)) (L2.defBody (L2.inClass (topO 29) 5)) (L2.defScope (L2.inClass (topO 29) 5)) .none .none .none (.str s35 343) none (.ref 359) .none), #[]⟩ := by rw [← top_eq]; kernel_rfl
theorem lk_Residues_minus (P : Params) : (K P).lookup 367 = some ⟨(.type SL.s7174869446012820540x8), none, .func (fnOf (PySem.Str.ofString "minus") (PySem.Str.ofString "Residues.minus") (L2.defArgs (L2.inClass (topO 29) 6)) (L2.defBody (L2.inClass (topO 29) 6)) (L2.defScope (L2.inClass (topO 29) 6)) .none .none .none (.str s35 343) none (.ref 366) .none), #[]⟩ := by rw [← top_eq]; kernel_rfl
theorem lk_Residues_inverse (P : Params) : (K P).lookup 374 = some ⟨(.type SL.s7174869446012820540x8), none, .func (fnOf (PySem.Str.ofString "inverse") (PySem.Str.ofString "Residues.inverse") (L2.defArgs (L2.inClass (topO 29) 7)) (L2.defBody (L2.inClass (topO 29) 7)) (L2.defScope (L2.inClass (topO 29) 7)) .none .none .none (.str s35 343) none (.ref 373) .none), #[]⟩ := by rw [← top_eq]; kernel_rfl
theorem lk_Residues_is_weight (P : Params) : (K P).lookup 381 = some ⟨(.type SL.s7174869446012820540x8), none, .func (fnOf (PySem.Str.ofString "is_weight") (PySem.Str.ofString "Residues.is_weight") (L2.defArgs (L2.inClass (topO 29) 8)) (L2.defBody (L2.inClass (topO 29) 8)) (L2.defScope (L2.inClass (topO 29) 8)) .none .none .none (.str s35 343) none (.ref 380) .none), #[]⟩ := by rw [← top_eq]; kernel_rfl
theorem lk_Residues_shown (P : Params) : (K P).lookup 388 = some ⟨(.type SL.s7174869446012820540x8), none, .func (fnOf (PySem.Str.ofString "shown") (PySem.Str.ofString "Residues.shown") (L2.defArgs (L2.inClass (topO 29) 9)) (L2.defBody (L2.inClass (topO 29) 9)) (L2.defScope (L2.inClass (topO 29) 9)) .none .none .none (.str s35 343) none (.ref 387) .none), #[]⟩ := by rw [← top_eq]; kernel_rfl
theorem lk_Residues_read (P : Params) : (K P).lookup 395 = some ⟨(.type SL.s7174869446012820540x8), none, .func (fnOf (PySem.Str.ofString "read") (PySem.Str.ofString "Residues.read") (L2.defArgs (L2.inClass (topO 29) 10)) (L2.defBody (L2.inClass (topO 29) 10)) (L2.defScope (L2.inClass (topO 29) 10)) .none .none .none (.str s35 343) none (.ref 394) .none), #[]⟩ := by rw [← top_eq]; kernel_rfl
theorem lk_Costs_told (P : Params) : (K P).lookup 414 = some ⟨(.type SL.s7174869446012820540x8), none, .func (fnOf (PySem.Str.ofString "told") (PySem.Str.ofString "Costs.told") (L2.defArgs (L2.inClass (topO 30) 0)) (L2.defBody (L2.inClass (topO 30) 0)) (L2.defScope (L2.inClass (topO 30) 0)) .none .none .none (.str s35 343) none (.ref 413) .none), #[]⟩ := by rw [← top_eq]; kernel_rfl
theorem lk_Costs_nought (P : Params) : (K P).lookup 421 = some ⟨(.type SL.s7174869446012820540x8), none, .func (fnOf (PySem.Str.ofString "nought") (PySem.Str.ofString "Costs.nought") (L2.defArgs (L2.inClass (topO 30) 1)) (L2.defBody (L2.inClass (topO 30) 1)) (L2.defScope (L2.inClass (topO 30) 1)) .none .none .none (.str s35 343) none (.ref 420) .none), #[]⟩ := by rw [← top_eq]; kernel_rfl
theorem lk_Costs_one (P : Params) : (K P).lookup 428 = some ⟨(.type SL.s7174869446012820540x8), none, .func (fnOf (PySem.Str.ofString "one") (PySem.Str.ofString "Costs.one") (L2.defArgs (L2.inClass (topO 30) 2)) (L2.defBody (L2.inClass (topO 30) 2)) (L2.defScope (L2.inClass (topO 30) 2)) .none .none .none (.str s35 343) none (.ref 427) .none), #[]⟩ := by rw [← top_eq]; kernel_rfl
theorem lk_Costs_plus (P : Params) : (K P).lookup 435 = some ⟨(.type SL.s7174869446012820540x8), none, .func (fnOf (PySem.Str.ofString "plus") (PySem.Str.ofString "Costs.plus") (L2.defArgs (L2.inClass (topO 30) 3)) (L2.defBody (L2.inClass (topO 30) 3)) (L2.defScope (L2.inClass (topO 30) 3)) .none .none .none (.str s35 343) none (.ref 434) .none), #[]⟩ := by rw [← top_eq]; kernel_rfl
theorem lk_Costs_times (P : Params) : (K P).lookup 442 = some ⟨(.type SL.s7174869446012820540x8), none, .func (fnOf (PySem.Str.ofString "times") (PySem.Str.ofString "Costs.times") (L2.defArgs (L2.inClass (topO 30) 4)) (L2.defBody (L2.inClass (topO 30) 4)) (L2.defScope (L2.inClass (topO 30) 4)) .none .none .none (.str s35 343) none (.ref 441) .none), #[]⟩ := by rw [← top_eq]; kernel_rfl
theorem lk_Costs_is_weight (P : Params) : (K P).lookup 449 = some ⟨(.type SL.s7174869446012820540x8), none, .func (fnOf (PySem.Str.ofString "is_weight") (PySem.Str.ofString "Costs.is_weight") (L2.defArgs (L2.inClass (topO 30) 5)) (L2.defBody (L2.inClass (topO 30) 5)) (L2.defScope (L2.inClass (topO 30) 5)) .none .none .none (.str s35 343) none (.ref 448) .none), #[]⟩ := by rw [← top_eq]; kernel_rfl
theorem lk_Costs_shown (P : Params) : (K P).lookup 456 = some ⟨(.type SL.s7174869446012820540x8), none, .func (fnOf (PySem.Str.ofString "shown") (PySem.Str.ofString "Costs.shown") (L2.defArgs (L2.inClass (topO 30) 6)) (L2.defBody (L2.inClass (topO 30) 6)) (L2.defScope (L2.inClass (topO 30) 6)) .none .none .none (.str s35 343) none (.ref 455) .none), #[]⟩ := by rw [← top_eq]; kernel_rfl
theorem lk_Costs_read (P : Params) : (K P).lookup 463 = some ⟨(.type SL.s7174869446012820540x8), none, .func (fnOf (PySem.Str.ofString "read") (PySem.Str.ofString "Costs.read") (L2.defArgs (L2.inClass (topO 30) 7)) (L2.defBody (L2.inClass (topO 30) 7)) (L2.defScope (L2.inClass (topO 30) 7)) .none .none .none (.str s35 343) none (.ref 462) .none), #[]⟩ := by rw [← top_eq]; kernel_rfl
theorem lk_Truths_told (P : Params) : (K P).lookup 482 = some ⟨(.type SL.s7174869446012820540x8), none, .func (fnOf (PySem.Str.ofString "told") (PySem.Str.ofString "Truths.told") (L2.defArgs (L2.inClass (topO 31) 0)) (L2.defBody (L2.inClass (topO 31) 0)) (L2.defScope (L2.inClass (topO 31) 0)) .none .none .none (.str s35 343) none (.ref 481) .none), #[]⟩ := by rw [← top_eq]; kernel_rfl
theorem lk_Truths_nought (P : Params) : (K P).lookup 489 = some ⟨(.type SL.s7174869446012820540x8), none, .func (fnOf (PySem.Str.ofString "nought") (PySem.Str.ofString "Truths.nought") (L2.defArgs (L2.inClass (topO 31) 1)) (L2.defBody (L2.inClass (topO 31) 1)) (L2.defScope (L2.inClass (topO 31) 1)) .none .none .none (.str s35 343) none (.ref 488) .none), #[]⟩ := by rw [← top_eq]; kernel_rfl
theorem lk_Truths_one (P : Params) : (K P).lookup 496 = some ⟨(.type SL.s7174869446012820540x8), none, .func (fnOf (PySem.Str.ofString "one") (PySem.Str.ofString "Truths.one") (L2.defArgs (L2.inClass (topO 31) 2)) (L2.defBody (L2.inClass (topO 31) 2)) (L2.defScope (L2.inClass (topO 31) 2)) .none .none .none (.str s35 343) none (.ref 495) .none), #[]⟩ := by rw [← top_eq]; kernel_rfl
theorem lk_Truths_plus (P : Params) : (K P).lookup 503 = some ⟨(.type SL.s7174869446012820540x8), none, .func (fnOf (PySem.Str.ofString "plus") (PySem.Str.ofString "Truths.plus") (L2.defArgs (L2.inClass (topO 31) 3)) (L2.defBody (L2.inClass (topO 31) 3)) (L2.defScope (L2.inClass (topO 31) 3)) .none .none .none (.str s35 343) none (.ref 502) .none), #[]⟩ := by rw [← top_eq]; kernel_rfl
theorem lk_Truths_times (P : Params) : (K P).lookup 510 = some ⟨(.type SL.s7174869446012820540x8), none, .func (fnOf (PySem.Str.ofString "times") (PySem.Str.ofString "Truths.times") (L2.defArgs (L2.inClass (topO 31) 4)) (L2.defBody (L2.inClass (topO 31) 4)) (L2.defScope (L2.inClass (topO 31) 4)) .none .none .none (.str s35 343) none (.ref 509) .none), #[]⟩ := by rw [← top_eq]; kernel_rfl
theorem lk_Truths_is_weight (P : Params) : (K P).lookup 517 = some ⟨(.type SL.s7174869446012820540x8), none, .func (fnOf (PySem.Str.ofString "is_weight") (PySem.Str.ofString "Truths.is_weight") (L2.defArgs (L2.inClass (topO 31) 5)) (L2.defBody (L2.inClass (topO 31) 5)) (L2.defScope (L2.inClass (topO 31) 5)) .none .none .none (.str s35 343) none (.ref 516) .none), #[]⟩ := by rw [← top_eq]; kernel_rfl
theorem lk_Truths_shown (P : Params) : (K P).lookup 524 = some ⟨(.type SL.s7174869446012820540x8), none, .func (fnOf (PySem.Str.ofString "shown") (PySem.Str.ofString "Truths.shown") (L2.defArgs (L2.inClass (topO 31) 6)) (L2.defBody (L2.inClass (topO 31) 6)) (L2.defScope (L2.inClass (topO 31) 6)) .none .none .none (.str s35 343) none (.ref 523) .none), #[]⟩ := by rw [← top_eq]; kernel_rfl
theorem lk_Truths_read (P : Params) : (K P).lookup 531 = some ⟨(.type SL.s7174869446012820540x8), none, .func (fnOf (PySem.Str.ofString "read") (PySem.Str.ofString "Truths.read") (L2.defArgs (L2.inClass (topO 31) 7)) (L2.defBody (L2.inClass (topO 31) 7)) (L2.defScope (L2.inClass (topO 31) 7)) .none .none .none (.str s35 343) none (.ref 530) .none), #[]⟩ := by rw [← top_eq]; kernel_rfl
theorem lk__law_next (P : Params) : (K P).lookup 543 = some ⟨(.type SL.s7174869446012820540x8), none, .func (fnOf (PySem.Str.ofString "_law_next") (PySem.Str.ofString "_law_next") (L2.defArgs (topO 33)) (L2.defBody (topO 33)) (L2.defScope (topO 33)) .none .none .none (.str s119 828) none (.ref 542) .none), #[]⟩ := by rw [← top_eq]; kernel_rfl
theorem lk__law_state (P : Params) : (K P).lookup 550 = some ⟨(.type SL.s7174869446012820540x8), none, .func (fnOf (PySem.Str.ofString "_law_state") (PySem.Str.ofString "_law_state") (L2.defArgs (topO 34)) (L2.defBody (topO 34)) (L2.defScope (topO 34)) .none .none .none (.str s119 828) none (.ref 549) .none), #[]⟩ := by rw [← top_eq]; kernel_rfl
theorem lk__law_low (P : Params) : (K P).lookup 557 = some ⟨(.type SL.s7174869446012820540x8), none, .func (fnOf (PySem.Str.ofString "_law_low") (PySem.Str.ofString "_law_low") (L2.defArgs (topO 35)) (L2.defBody (topO 35)) (L2.defScope (topO 35)) .none .none .none (.str s119 828) none (.ref 556) .none), #[]⟩ := by rw [← top_eq]; kernel_rfl
theorem lk__law_plus (P : Params) : (K P).lookup 564 = some ⟨(.type SL.s7174869446012820540x8), none, .func (fnOf (PySem.Str.ofString "_law_plus") (PySem.Str.ofString "_law_plus") (L2.defArgs (topO 36)) (L2.defBody (topO 36)) (L2.defScope (topO 36)) .none .none .none (.str s119 828) none (.ref 563) .none), #[]⟩ := by rw [← top_eq]; kernel_rfl
theorem lk__law_times (P : Params) : (K P).lookup 571 = some ⟨(.type SL.s7174869446012820540x8), none, .func (fnOf (PySem.Str.ofString "_law_times") (PySem.Str.ofString "_law_times") (L2.defArgs (topO 37)) (L2.defBody (topO 37)) (L2.defScope (topO 37)) .none .none .none (.str s119 828) none (.ref 570) .none), #[]⟩ := by rw [← top_eq]; kernel_rfl
theorem lk__law_nought (P : Params) : (K P).lookup 578 = some ⟨(.type SL.s7174869446012820540x8), none, .func (fnOf (PySem.Str.ofString "_law_nought") (PySem.Str.ofString "_law_nought") (L2.defArgs (topO 38)) (L2.defBody (topO 38)) (L2.defScope (topO 38)) .none .none .none (.str s119 828) none (.ref 577) .none), #[]⟩ := by rw [← top_eq]; kernel_rfl
theorem lk__law_sort (P : Params) : (K P).lookup 585 = some ⟨(.type SL.s7174869446012820540x8), none, .func (fnOf (PySem.Str.ofString "_law_sort") (PySem.Str.ofString "_law_sort") (L2.defArgs (topO 39)) (L2.defBody (topO 39)) (L2.defScope (topO 39)) .none .none .none (.str s119 828) none (.ref 584) .none), #[]⟩ := by rw [← top_eq]; kernel_rfl
theorem lk__law_kind (P : Params) : (K P).lookup 592 = some ⟨(.type SL.s7174869446012820540x8), none, .func (fnOf (PySem.Str.ofString "_law_kind") (PySem.Str.ofString "_law_kind") (L2.defArgs (topO 40)) (L2.defBody (topO 40)) (L2.defScope (topO 40)) .none .none .none (.str s119 828) none (.ref 591) .none), #[]⟩ := by rw [← top_eq]; kernel_rfl
theorem lk__law_weight (P : Params) : (K P).lookup 599 = some ⟨(.type SL.s7174869446012820540x8), none, .func (fnOf (PySem.Str.ofString "_law_weight") (PySem.Str.ofString "_law_weight") (L2.defArgs (topO 41)) (L2.defBody (topO 41)) (L2.defScope (topO 41)) .none .none .none (.str s119 828) none (.ref 598) .none), #[]⟩ := by rw [← top_eq]; kernel_rfl
theorem lk__law_line (P : Params) : (K P).lookup 604 = some ⟨(.type SL.s7174869446012820540x8), none, .func (fnOf (PySem.Str.ofString "_law_line") (PySem.Str.ofString "_law_line") (L2.defArgs (topO 42)) (L2.defBody (topO 42)) (L2.defScope (topO 42)) .none .none .none (.str s119 828) none (.ref 603) .none), #[]⟩ := by rw [← top_eq]; kernel_rfl
theorem lk__law_table (P : Params) : (K P).lookup 609 = some ⟨(.type SL.s7174869446012820540x8), none, .func (fnOf (PySem.Str.ofString "_law_table") (PySem.Str.ofString "_law_table") (L2.defArgs (topO 43)) (L2.defBody (topO 43)) (L2.defScope (topO 43)) .none .none .none (.str s119 828) none (.ref 608) .none), #[]⟩ := by rw [← top_eq]; kernel_rfl
theorem lk__law_dot (P : Params) : (K P).lookup 616 = some ⟨(.type SL.s7174869446012820540x8), none, .func (fnOf (PySem.Str.ofString "_law_dot") (PySem.Str.ofString "_law_dot") (L2.defArgs (topO 44)) (L2.defBody (topO 44)) (L2.defScope (topO 44)) .none .none .none (.str s119 828) none (.ref 615) .none), #[]⟩ := by rw [← top_eq]; kernel_rfl
theorem lk__law_same (P : Params) : (K P).lookup 623 = some ⟨(.type SL.s7174869446012820540x8), none, .func (fnOf (PySem.Str.ofString "_law_same") (PySem.Str.ofString "_law_same") (L2.defArgs (topO 45)) (L2.defBody (topO 45)) (L2.defScope (topO 45)) .none .none .none (.str s119 828) none (.ref 622) .none), #[]⟩ := by rw [← top_eq]; kernel_rfl
theorem lk__law_all_same (P : Params) : (K P).lookup 630 = some ⟨(.type SL.s7174869446012820540x8), none, .func (fnOf (PySem.Str.ofString "_law_all_same") (PySem.Str.ofString "_law_all_same") (L2.defArgs (topO 46)) (L2.defBody (topO 46)) (L2.defScope (topO 46)) .none .none .none (.str s119 828) none (.ref 629) .none), #[]⟩ := by rw [← top_eq]; kernel_rfl
theorem lk__law_row_by (P : Params) : (K P).lookup 635 = some ⟨(.type SL.s7174869446012820540x8), none, .func (fnOf (PySem.Str.ofString "_law_row_by") (PySem.Str.ofString "_law_row_by") (L2.defArgs (topO 47)) (L2.defBody (topO 47)) (L2.defScope (topO 47)) .none .none .none (.str s119 828) none (.ref 634) .none), #[]⟩ := by rw [← top_eq]; kernel_rfl
theorem lk__law_tables_same (P : Params) : (K P).lookup 642 = some ⟨(.type SL.s7174869446012820540x8), none, .func (fnOf (PySem.Str.ofString "_law_tables_same") (PySem.Str.ofString "_law_tables_same") (L2.defArgs (topO 48)) (L2.defBody (topO 48)) (L2.defScope (topO 48)) .none .none .none (.str s119 828) none (.ref 641) .none), #[]⟩ := by rw [← top_eq]; kernel_rfl
theorem lk_law (P : Params) : (K P).lookup 647 = some ⟨(.type SL.s7174869446012820540x8), none, .func (fnOf (PySem.Str.ofString "law") (PySem.Str.ofString "law") (L2.defArgs (topO 49)) (L2.defBody (topO 49)) (L2.defScope (topO 49)) .none .none .none (.str s119 828) none (.ref 646) .none), #[]⟩ := by rw [← top_eq]; kernel_rfl
end
end H11

set_option maxHeartbeats 4000000
namespace K11
open PySem L2 Mine PyProof.Rows PySem.SeqAt
abbrev Pr : Program := PySem.Challenge.pw_weighwalk_k11_rows_and_tables
theorem tree0 : Pr.given.tree = none := rfl
def top (i : Nat) : Stmt := PySem.Challenge.pw_weighwalk_k11_rows_and_tables.main.body.getD i (.Pass ⟨0, 0, 0, 0⟩)
abbrev s_is_whole : Stmt := top 14
abbrev s_divisor : Stmt := top 15
abbrev s_fraction : Stmt := top 16
abbrev s_is_prime : Stmt := top 17
abbrev s_Fractions_nought : Stmt := inClass (top 28) 1
abbrev s_Fractions_plus : Stmt := inClass (top 28) 3
abbrev s_Fractions_times : Stmt := inClass (top 28) 4
abbrev s_Residues___init__ : Stmt := inClass (top 29) 0
abbrev s_Residues_nought : Stmt := inClass (top 29) 2
abbrev s_Residues_plus : Stmt := inClass (top 29) 4
abbrev s_Residues_times : Stmt := inClass (top 29) 5
abbrev s_Costs_nought : Stmt := inClass (top 30) 1
abbrev s_Costs_plus : Stmt := inClass (top 30) 3
abbrev s_Costs_times : Stmt := inClass (top 30) 4
abbrev s_Truths_nought : Stmt := inClass (top 31) 1
abbrev s_Truths_plus : Stmt := inClass (top 31) 3
abbrev s_Truths_times : Stmt := inClass (top 31) 4
abbrev s_column_at : Stmt := top 2
abbrev s_columns_of : Stmt := top 3
abbrev s_dot : Stmt := top 4
abbrev s_row_by : Stmt := top 5
abbrev s_by_column : Stmt := top 6
abbrev s_by_table : Stmt := top 7
abbrev s_law_next : Stmt := top 33
abbrev s_law_state : Stmt := top 34
abbrev s_law_low : Stmt := top 35
abbrev s_law_plus : Stmt := top 36
abbrev s_law_times : Stmt := top 37
abbrev s_law_nought : Stmt := top 38
abbrev s_law_sort : Stmt := top 39
abbrev s_law_kind : Stmt := top 40
abbrev s_law_weight : Stmt := top 41
abbrev s_law_line : Stmt := top 42
abbrev s_law_table : Stmt := top 43
abbrev s_law_dot : Stmt := top 44
abbrev s_law_same : Stmt := top 45
abbrev s_law_all_same : Stmt := top 46
abbrev s_law_tables_same : Stmt := top 48
abbrev s_law_row_by : Stmt := top 47
abbrev s_law : Stmt := top 49
theorem sc_is_whole : FnScope ["thing"] ["thing"] (defScope s_is_whole) := ⟨rfl, rfl, rfl, by decide +kernel, rfl, by decide +kernel, by decide +kernel⟩
theorem sc_divisor : FnScope ["one", "other", "greatest", "rest", "left"] ["one", "other"] (defScope s_divisor) := ⟨rfl, rfl, rfl, by decide +kernel, rfl, by decide +kernel, by decide +kernel⟩
theorem sc_fraction : FnScope ["top", "bottom", "shared"] ["top", "bottom"] (defScope s_fraction) := ⟨rfl, rfl, rfl, by decide +kernel, rfl, by decide +kernel, by decide +kernel⟩
theorem sc_is_prime : FnScope ["number", "factor"] ["number"] (defScope s_is_prime) := ⟨rfl, rfl, rfl, by decide +kernel, rfl, by decide +kernel, by decide +kernel⟩
theorem sc_Fractions_nought : FnScope ["self"] ["self"] (defScope s_Fractions_nought) := ⟨rfl, rfl, rfl, by decide +kernel, rfl, by decide +kernel, by decide +kernel⟩
theorem sc_Fractions_plus : FnScope ["self", "x", "y"] ["self", "x", "y"] (defScope s_Fractions_plus) := ⟨rfl, rfl, rfl, by decide +kernel, rfl, by decide +kernel, by decide +kernel⟩
theorem sc_Fractions_times : FnScope ["self", "x", "y"] ["self", "x", "y"] (defScope s_Fractions_times) := ⟨rfl, rfl, rfl, by decide +kernel, rfl, by decide +kernel, by decide +kernel⟩
theorem sc_Residues___init__ : FnScope ["self", "prime"] ["self", "prime"] (defScope s_Residues___init__) := ⟨rfl, rfl, rfl, by decide +kernel, rfl, by decide +kernel, by decide +kernel⟩
theorem sc_Residues_nought : FnScope ["self"] ["self"] (defScope s_Residues_nought) := ⟨rfl, rfl, rfl, by decide +kernel, rfl, by decide +kernel, by decide +kernel⟩
theorem sc_Residues_plus : FnScope ["self", "x", "y"] ["self", "x", "y"] (defScope s_Residues_plus) := ⟨rfl, rfl, rfl, by decide +kernel, rfl, by decide +kernel, by decide +kernel⟩
theorem sc_Residues_times : FnScope ["self", "x", "y"] ["self", "x", "y"] (defScope s_Residues_times) := ⟨rfl, rfl, rfl, by decide +kernel, rfl, by decide +kernel, by decide +kernel⟩
theorem sc_Costs_nought : FnScope ["self"] ["self"] (defScope s_Costs_nought) := ⟨rfl, rfl, rfl, by decide +kernel, rfl, by decide +kernel, by decide +kernel⟩
theorem sc_Costs_plus : FnScope ["self", "x", "y"] ["self", "x", "y"] (defScope s_Costs_plus) := ⟨rfl, rfl, rfl, by decide +kernel, rfl, by decide +kernel, by decide +kernel⟩
theorem sc_Costs_times : FnScope ["self", "x", "y"] ["self", "x", "y"] (defScope s_Costs_times) := ⟨rfl, rfl, rfl, by decide +kernel, rfl, by decide +kernel, by decide +kernel⟩
theorem sc_Truths_nought : FnScope ["self"] ["self"] (defScope s_Truths_nought) := ⟨rfl, rfl, rfl, by decide +kernel, rfl, by decide +kernel, by decide +kernel⟩
theorem sc_Truths_plus : FnScope ["self", "x", "y"] ["self", "x", "y"] (defScope s_Truths_plus) := ⟨rfl, rfl, rfl, by decide +kernel, rfl, by decide +kernel, by decide +kernel⟩
theorem sc_Truths_times : FnScope ["self", "x", "y"] ["self", "x", "y"] (defScope s_Truths_times) := ⟨rfl, rfl, rfl, by decide +kernel, rfl, by decide +kernel, by decide +kernel⟩
theorem sc_column_at : FnScope ["table", "place"] ["table", "place"] (defScope s_column_at) := ⟨rfl, rfl, rfl, by decide +kernel, rfl, by decide +kernel, by decide +kernel⟩
theorem sc_columns_of : FnScope ["table"] ["table"] (defScope s_columns_of) := ⟨rfl, rfl, rfl, by decide +kernel, rfl, by decide +kernel, by decide +kernel⟩
theorem sc_dot : FnScope ["kind", "row", "column", "total", "x", "y"] ["kind", "row", "column"] (defScope s_dot) := ⟨rfl, rfl, rfl, by decide +kernel, rfl, by decide +kernel, by decide +kernel⟩
theorem sc_row_by : FnScope ["kind", "row", "table"] ["kind", "row", "table"] (defScope s_row_by) := ⟨rfl, rfl, rfl, by decide +kernel, rfl, by decide +kernel, by decide +kernel⟩
theorem sc_by_column : FnScope ["kind", "table", "column"] ["kind", "table", "column"] (defScope s_by_column) := ⟨rfl, rfl, rfl, by decide +kernel, rfl, by decide +kernel, by decide +kernel⟩
theorem sc_by_table : FnScope ["kind", "one", "other"] ["kind", "one", "other"] (defScope s_by_table) := ⟨rfl, rfl, rfl, by decide +kernel, rfl, by decide +kernel, by decide +kernel⟩
theorem sc_law_next : FnScope ["_law_state_here", "_law_many", "_law_found"] ["_law_state_here", "_law_many"] (defScope s_law_next) := ⟨rfl, rfl, rfl, by decide +kernel, rfl, by decide +kernel, by decide +kernel⟩
theorem sc_law_state : FnScope ["_law_script", "_law_seed", "_law_cell"] ["_law_script"] (defScope s_law_state) := ⟨rfl, rfl, rfl, by decide +kernel, rfl, by decide +kernel, by decide +kernel⟩
theorem sc_law_low : FnScope ["_law_top", "_law_bottom", "_law_one", "_law_by"] ["_law_top", "_law_bottom"] (defScope s_law_low) := ⟨rfl, rfl, rfl, by decide +kernel, rfl, by decide +kernel, by decide +kernel⟩
theorem sc_law_plus : FnScope ["_law_sort_here", "_law_x", "_law_y"] ["_law_sort_here", "_law_x", "_law_y"] (defScope s_law_plus) := ⟨rfl, rfl, rfl, by decide +kernel, rfl, by decide +kernel, by decide +kernel⟩
theorem sc_law_times : FnScope ["_law_sort_here", "_law_x", "_law_y"] ["_law_sort_here", "_law_x", "_law_y"] (defScope s_law_times) := ⟨rfl, rfl, rfl, by decide +kernel, rfl, by decide +kernel, by decide +kernel⟩
theorem sc_law_nought : FnScope ["_law_sort_here"] ["_law_sort_here"] (defScope s_law_nought) := ⟨rfl, rfl, rfl, by decide +kernel, rfl, by decide +kernel, by decide +kernel⟩
theorem sc_law_sort : FnScope ["_law_state_here", "_law_way", "_law_prime"] ["_law_state_here", "_law_way"] (defScope s_law_sort) := ⟨rfl, rfl, rfl, by decide +kernel, rfl, by decide +kernel, by decide +kernel⟩
theorem sc_law_kind : FnScope ["_law_sort_here"] ["_law_sort_here"] (defScope s_law_kind) := ⟨rfl, rfl, rfl, by decide +kernel, rfl, by decide +kernel, by decide +kernel⟩
theorem sc_law_weight : FnScope ["_law_state_here", "_law_sort_here", "_law_great", "_law_far"] ["_law_state_here", "_law_sort_here", "_law_great"] (defScope s_law_weight) := ⟨rfl, rfl, rfl, by decide +kernel, rfl, by decide +kernel, by decide +kernel⟩
theorem sc_law_line : FnScope ["_law_state_here", "_law_sort_here", "_law_many", "_law_great"] ["_law_state_here", "_law_sort_here", "_law_many", "_law_great"] (defScope s_law_line) := ⟨rfl, rfl, rfl, by decide +kernel, rfl, by decide +kernel, by decide +kernel⟩
theorem sc_law_table : FnScope ["_law_state_here", "_law_sort_here", "_law_high", "_law_wide", "_law_great"] ["_law_state_here", "_law_sort_here", "_law_high", "_law_wide", "_law_great"] (defScope s_law_table) := ⟨rfl, rfl, rfl, by decide +kernel, rfl, by decide +kernel, by decide +kernel⟩
theorem sc_law_dot : FnScope ["_law_sort_here", "_law_row", "_law_column", "_law_total", "_law_x", "_law_y"] ["_law_sort_here", "_law_row", "_law_column"] (defScope s_law_dot) := ⟨rfl, rfl, rfl, by decide +kernel, rfl, by decide +kernel, by decide +kernel⟩
theorem sc_law_same : FnScope ["_law_sort_here", "_law_found", "_law_due"] ["_law_sort_here", "_law_found", "_law_due"] (defScope s_law_same) := ⟨rfl, rfl, rfl, by decide +kernel, rfl, by decide +kernel, by decide +kernel⟩
theorem sc_law_all_same : FnScope ["_law_sort_here", "_law_found", "_law_due", "_law_x", "_law_y"] ["_law_sort_here", "_law_found", "_law_due"] (defScope s_law_all_same) := ⟨rfl, rfl, rfl, by decide +kernel, rfl, by decide +kernel, by decide +kernel⟩
theorem sc_law_tables_same : FnScope ["_law_sort_here", "_law_found", "_law_due", "_law_line_here", "_law_mine"] ["_law_sort_here", "_law_found", "_law_due"] (defScope s_law_tables_same) := ⟨rfl, rfl, rfl, by decide +kernel, rfl, by decide +kernel, by decide +kernel⟩
theorem sc_law_row_by : FnScope ["_law_sort_here", "_law_row", "_law_table_here", "_law_wide", "_law_found", "_law_k"] ["_law_sort_here", "_law_row", "_law_table_here", "_law_wide"] (defScope s_law_row_by) := ⟨rfl, rfl, rfl, by decide +kernel, rfl, by decide +kernel, by decide +kernel⟩
theorem sc_law : FnScope ["_law_script", "_law_state_here", "_law_sort_here", "_law_kind_here", "_law_broad", "_law_high", "_law_wide", "_law_last", "_law_great", "_law_row", "_law_one", "_law_other", "_law_column", "_law_told_both", "_law_along", "_law_due", "_law_total"] ["_law_script"] (defScope s_law) := ⟨rfl, rfl, rfl, by decide +kernel, rfl, by decide +kernel, by decide +kernel⟩
def sp_whole : Sp := fun vs H Q _ => ∃ i, vs = [.int i] ∧ Q (.bl true) H
def sp_divisor : Sp := fun vs H Q _ => ∃ a b, vs = [.int a, .int b] ∧ Q (.int (dv a b)) H
def sp_fraction : Sp := fun vs H Q _ => ∃ a b, vs = [.int a, .int b] ∧ 0 < b ∧ ∀ v H', Same H H' → IsF H' v (tp a b) (bt a b) → Q v H'
def sp_prime : Sp := fun vs H Q _ => ∃ n, vs = [.int n] ∧ (2 ≤ n ∧ n ≤ 1000000 ∧ isP n = true) ∧ Q (.bl true) H
def sp_init (C : Addr) : Sp := fun vs H Q _ => ∃ x dx n, vs = [.ref x, .int n] ∧ (2 ≤ n ∧ n ≤ 1000000 ∧ isP n = true) ∧ H x = some (.ins C dx []) ∧ Q .non (upd H x (.ins C dx (pfs n)))
structure Adr where
  is_whole : Addr
  d_is_whole : FuncData
  divisor : Addr
  d_divisor : FuncData
  fraction : Addr
  d_fraction : FuncData
  is_prime : Addr
  d_is_prime : FuncData
  Fractions_nought : Addr
  d_Fractions_nought : FuncData
  Fractions_plus : Addr
  d_Fractions_plus : FuncData
  Fractions_times : Addr
  d_Fractions_times : FuncData
  Residues___init__ : Addr
  d_Residues___init__ : FuncData
  Residues_nought : Addr
  d_Residues_nought : FuncData
  Residues_plus : Addr
  d_Residues_plus : FuncData
  Residues_times : Addr
  d_Residues_times : FuncData
  Costs_nought : Addr
  d_Costs_nought : FuncData
  Costs_plus : Addr
  d_Costs_plus : FuncData
  Costs_times : Addr
  d_Costs_times : FuncData
  Truths_nought : Addr
  d_Truths_nought : FuncData
  Truths_plus : Addr
  d_Truths_plus : FuncData
  Truths_times : Addr
  d_Truths_times : FuncData
  column_at : Addr
  d_column_at : FuncData
  columns_of : Addr
  d_columns_of : FuncData
  dot : Addr
  d_dot : FuncData
  row_by : Addr
  d_row_by : FuncData
  by_column : Addr
  d_by_column : FuncData
  by_table : Addr
  d_by_table : FuncData
  law_next : Addr
  d_law_next : FuncData
  law_state : Addr
  d_law_state : FuncData
  law_low : Addr
  d_law_low : FuncData
  law_plus : Addr
  d_law_plus : FuncData
  law_times : Addr
  d_law_times : FuncData
  law_nought : Addr
  d_law_nought : FuncData
  law_sort : Addr
  d_law_sort : FuncData
  law_kind : Addr
  d_law_kind : FuncData
  law_weight : Addr
  d_law_weight : FuncData
  law_line : Addr
  d_law_line : FuncData
  law_table : Addr
  d_law_table : FuncData
  law_dot : Addr
  d_law_dot : FuncData
  law_same : Addr
  d_law_same : FuncData
  law_all_same : Addr
  d_law_all_same : FuncData
  law_tables_same : Addr
  d_law_tables_same : FuncData
  law_row_by : Addr
  d_law_row_by : FuncData
  law : Addr
  d_law : FuncData
  Fractions : Addr
  Residues : Addr
  Costs : Addr
  Truths : Addr
structure Txt (K : PySem.W.Frag) (mg : Str → Option Value) (t : Adr) : Prop where
  F_is_whole : Fun K "is_whole" "is_whole" s_is_whole t.is_whole t.d_is_whole
  b_is_whole : Binds K t.d_is_whole ["thing"] []
  m_is_whole : mg "is_whole" = some (.ref t.is_whole)
  F_divisor : Fun K "divisor" "divisor" s_divisor t.divisor t.d_divisor
  b_divisor : Binds K t.d_divisor ["one", "other"] []
  m_divisor : mg "divisor" = some (.ref t.divisor)
  F_fraction : Fun K "fraction" "fraction" s_fraction t.fraction t.d_fraction
  b_fraction : Binds K t.d_fraction ["top", "bottom"] []
  m_fraction : mg "fraction" = some (.ref t.fraction)
  F_is_prime : Fun K "is_prime" "is_prime" s_is_prime t.is_prime t.d_is_prime
  b_is_prime : Binds K t.d_is_prime ["number"] []
  m_is_prime : mg "is_prime" = some (.ref t.is_prime)
  F_Fractions_nought : Fun K "nought" "Fractions.nought" s_Fractions_nought t.Fractions_nought t.d_Fractions_nought
  b_Fractions_nought : Binds K t.d_Fractions_nought ["self"] []
  t_Fractions_nought : Meth K t.Fractions "nought" t.Fractions_nought
  F_Fractions_plus : Fun K "plus" "Fractions.plus" s_Fractions_plus t.Fractions_plus t.d_Fractions_plus
  b_Fractions_plus : Binds K t.d_Fractions_plus ["self", "x", "y"] []
  t_Fractions_plus : Meth K t.Fractions "plus" t.Fractions_plus
  F_Fractions_times : Fun K "times" "Fractions.times" s_Fractions_times t.Fractions_times t.d_Fractions_times
  b_Fractions_times : Binds K t.d_Fractions_times ["self", "x", "y"] []
  t_Fractions_times : Meth K t.Fractions "times" t.Fractions_times
  F_Residues___init__ : Fun K "__init__" "Residues.__init__" s_Residues___init__ t.Residues___init__ t.d_Residues___init__
  b_Residues___init__ : Binds K t.d_Residues___init__ ["self", "prime"] []
  t_Residues___init__ : Meth K t.Residues "__init__" t.Residues___init__
  F_Residues_nought : Fun K "nought" "Residues.nought" s_Residues_nought t.Residues_nought t.d_Residues_nought
  b_Residues_nought : Binds K t.d_Residues_nought ["self"] []
  t_Residues_nought : Meth K t.Residues "nought" t.Residues_nought
  F_Residues_plus : Fun K "plus" "Residues.plus" s_Residues_plus t.Residues_plus t.d_Residues_plus
  b_Residues_plus : Binds K t.d_Residues_plus ["self", "x", "y"] []
  t_Residues_plus : Meth K t.Residues "plus" t.Residues_plus
  F_Residues_times : Fun K "times" "Residues.times" s_Residues_times t.Residues_times t.d_Residues_times
  b_Residues_times : Binds K t.d_Residues_times ["self", "x", "y"] []
  t_Residues_times : Meth K t.Residues "times" t.Residues_times
  F_Costs_nought : Fun K "nought" "Costs.nought" s_Costs_nought t.Costs_nought t.d_Costs_nought
  b_Costs_nought : Binds K t.d_Costs_nought ["self"] []
  t_Costs_nought : Meth K t.Costs "nought" t.Costs_nought
  F_Costs_plus : Fun K "plus" "Costs.plus" s_Costs_plus t.Costs_plus t.d_Costs_plus
  b_Costs_plus : Binds K t.d_Costs_plus ["self", "x", "y"] []
  t_Costs_plus : Meth K t.Costs "plus" t.Costs_plus
  F_Costs_times : Fun K "times" "Costs.times" s_Costs_times t.Costs_times t.d_Costs_times
  b_Costs_times : Binds K t.d_Costs_times ["self", "x", "y"] []
  t_Costs_times : Meth K t.Costs "times" t.Costs_times
  F_Truths_nought : Fun K "nought" "Truths.nought" s_Truths_nought t.Truths_nought t.d_Truths_nought
  b_Truths_nought : Binds K t.d_Truths_nought ["self"] []
  t_Truths_nought : Meth K t.Truths "nought" t.Truths_nought
  F_Truths_plus : Fun K "plus" "Truths.plus" s_Truths_plus t.Truths_plus t.d_Truths_plus
  b_Truths_plus : Binds K t.d_Truths_plus ["self", "x", "y"] []
  t_Truths_plus : Meth K t.Truths "plus" t.Truths_plus
  F_Truths_times : Fun K "times" "Truths.times" s_Truths_times t.Truths_times t.d_Truths_times
  b_Truths_times : Binds K t.d_Truths_times ["self", "x", "y"] []
  t_Truths_times : Meth K t.Truths "times" t.Truths_times
  F_column_at : Fun K "column_at" "column_at" s_column_at t.column_at t.d_column_at
  b_column_at : Binds K t.d_column_at ["table", "place"] []
  m_column_at : mg "column_at" = some (.ref t.column_at)
  F_columns_of : Fun K "columns_of" "columns_of" s_columns_of t.columns_of t.d_columns_of
  b_columns_of : Binds K t.d_columns_of ["table"] []
  m_columns_of : mg "columns_of" = some (.ref t.columns_of)
  F_dot : Fun K "dot" "dot" s_dot t.dot t.d_dot
  b_dot : Binds K t.d_dot ["kind", "row", "column"] []
  m_dot : mg "dot" = some (.ref t.dot)
  F_row_by : Fun K "row_by" "row_by" s_row_by t.row_by t.d_row_by
  b_row_by : Binds K t.d_row_by ["kind", "row", "table"] []
  m_row_by : mg "row_by" = some (.ref t.row_by)
  F_by_column : Fun K "by_column" "by_column" s_by_column t.by_column t.d_by_column
  b_by_column : Binds K t.d_by_column ["kind", "table", "column"] []
  m_by_column : mg "by_column" = some (.ref t.by_column)
  F_by_table : Fun K "by_table" "by_table" s_by_table t.by_table t.d_by_table
  b_by_table : Binds K t.d_by_table ["kind", "one", "other"] []
  m_by_table : mg "by_table" = some (.ref t.by_table)
  F_law_next : Fun K "_law_next" "_law_next" s_law_next t.law_next t.d_law_next
  b_law_next : Binds K t.d_law_next ["_law_state_here", "_law_many"] []
  m_law_next : mg "_law_next" = some (.ref t.law_next)
  F_law_state : Fun K "_law_state" "_law_state" s_law_state t.law_state t.d_law_state
  b_law_state : Binds K t.d_law_state ["_law_script"] []
  m_law_state : mg "_law_state" = some (.ref t.law_state)
  F_law_low : Fun K "_law_low" "_law_low" s_law_low t.law_low t.d_law_low
  b_law_low : Binds K t.d_law_low ["_law_top", "_law_bottom"] []
  m_law_low : mg "_law_low" = some (.ref t.law_low)
  F_law_plus : Fun K "_law_plus" "_law_plus" s_law_plus t.law_plus t.d_law_plus
  b_law_plus : Binds K t.d_law_plus ["_law_sort_here", "_law_x", "_law_y"] []
  m_law_plus : mg "_law_plus" = some (.ref t.law_plus)
  F_law_times : Fun K "_law_times" "_law_times" s_law_times t.law_times t.d_law_times
  b_law_times : Binds K t.d_law_times ["_law_sort_here", "_law_x", "_law_y"] []
  m_law_times : mg "_law_times" = some (.ref t.law_times)
  F_law_nought : Fun K "_law_nought" "_law_nought" s_law_nought t.law_nought t.d_law_nought
  b_law_nought : Binds K t.d_law_nought ["_law_sort_here"] []
  m_law_nought : mg "_law_nought" = some (.ref t.law_nought)
  F_law_sort : Fun K "_law_sort" "_law_sort" s_law_sort t.law_sort t.d_law_sort
  b_law_sort : Binds K t.d_law_sort ["_law_state_here", "_law_way"] []
  m_law_sort : mg "_law_sort" = some (.ref t.law_sort)
  F_law_kind : Fun K "_law_kind" "_law_kind" s_law_kind t.law_kind t.d_law_kind
  b_law_kind : Binds K t.d_law_kind ["_law_sort_here"] []
  m_law_kind : mg "_law_kind" = some (.ref t.law_kind)
  F_law_weight : Fun K "_law_weight" "_law_weight" s_law_weight t.law_weight t.d_law_weight
  b_law_weight : Binds K t.d_law_weight ["_law_state_here", "_law_sort_here", "_law_great"] []
  m_law_weight : mg "_law_weight" = some (.ref t.law_weight)
  F_law_line : Fun K "_law_line" "_law_line" s_law_line t.law_line t.d_law_line
  b_law_line : Binds K t.d_law_line ["_law_state_here", "_law_sort_here", "_law_many", "_law_great"] []
  m_law_line : mg "_law_line" = some (.ref t.law_line)
  F_law_table : Fun K "_law_table" "_law_table" s_law_table t.law_table t.d_law_table
  b_law_table : Binds K t.d_law_table ["_law_state_here", "_law_sort_here", "_law_high", "_law_wide", "_law_great"] []
  m_law_table : mg "_law_table" = some (.ref t.law_table)
  F_law_dot : Fun K "_law_dot" "_law_dot" s_law_dot t.law_dot t.d_law_dot
  b_law_dot : Binds K t.d_law_dot ["_law_sort_here", "_law_row", "_law_column"] []
  m_law_dot : mg "_law_dot" = some (.ref t.law_dot)
  F_law_same : Fun K "_law_same" "_law_same" s_law_same t.law_same t.d_law_same
  b_law_same : Binds K t.d_law_same ["_law_sort_here", "_law_found", "_law_due"] []
  m_law_same : mg "_law_same" = some (.ref t.law_same)
  F_law_all_same : Fun K "_law_all_same" "_law_all_same" s_law_all_same t.law_all_same t.d_law_all_same
  b_law_all_same : Binds K t.d_law_all_same ["_law_sort_here", "_law_found", "_law_due"] []
  m_law_all_same : mg "_law_all_same" = some (.ref t.law_all_same)
  F_law_tables_same : Fun K "_law_tables_same" "_law_tables_same" s_law_tables_same t.law_tables_same t.d_law_tables_same
  b_law_tables_same : Binds K t.d_law_tables_same ["_law_sort_here", "_law_found", "_law_due"] []
  m_law_tables_same : mg "_law_tables_same" = some (.ref t.law_tables_same)
  F_law_row_by : Fun K "_law_row_by" "_law_row_by" s_law_row_by t.law_row_by t.d_law_row_by
  b_law_row_by : Binds K t.d_law_row_by ["_law_sort_here", "_law_row", "_law_table_here", "_law_wide"] []
  m_law_row_by : mg "_law_row_by" = some (.ref t.law_row_by)
  F_law : Fun K "law" "law" s_law t.law t.d_law
  b_law : Binds K t.d_law ["_law_script"] []
  m_law : mg "law" = some (.ref t.law)
  C_Fractions : Cls K t.Fractions
  m_Fractions : mg "Fractions" = some (.ref t.Fractions)
  M_Fractions : MkO K t.Fractions
  C_Residues : Cls K t.Residues
  m_Residues : mg "Residues" = some (.ref t.Residues)
  M_Residues : Mk K t.Residues t.Residues___init__
  C_Costs : Cls K t.Costs
  m_Costs : mg "Costs" = some (.ref t.Costs)
  M_Costs : MkO K t.Costs
  C_Truths : Cls K t.Truths
  m_Truths : mg "Truths" = some (.ref t.Truths)
  M_Truths : MkO K t.Truths
  z_isinstance : mg "isinstance" = none
  z_int : mg "int" = none
  z_bool : mg "bool" = none
  z_abs : mg "abs" = none
  c_GREATEST_PRIME : ∃ tk, mg "GREATEST_PRIME" = some (Value.int 1000000 tk)
  z_min : mg "min" = none
  z_tuple : mg "tuple" = none
  z_len : mg "len" = none
  z_range : mg "range" = none
  z_zip : mg "zip" = none
  k_ii : PySem.W.kitOne K (.type "int") (.type "int") = some true
  k_ib : PySem.W.kitOne K (.type "int") (.type "bool") = some false
  k_tt : PySem.W.kitOne K (.type "tuple") (.type "tuple") = some true
  k_bb : PySem.W.kitOne K (.type "bool") (.type "bool") = some true
  nP : NoAttr K t.Residues "prime"
seal L2.PSs L2.PS L2.PE L2.PT L2.PW L2.PA L2.PG L2.PGs L2.PI
section
variable {w : World} {K : PySem.W.Frag} {mg : Str → Option Value} {base : Heap} {t : Adr}
theorem ok_is_whole (T : Txt K mg t) : FnOk Pr w K mg base CX0 1 t.is_whole t.d_is_whole ["thing"] sp_whole := by
  refine T.F_is_whole.ok sc_is_whole (fun vs H Q E h => ?_) (fun cdv A outer s H vs Q E hr h => ?_)
  · obtain ⟨i, rfl, _⟩ := h
    rfl
  · obtain ⟨i, rfl, k⟩ := h
    refine ⟨_, (pss_one (ps_ret (pe_and (pe_callB call_isi (by rfl) T.z_isinstance boot_isinstance (pa_cons (pv 0) (pa_cons (pe_bltn (v := .ty "int") rfl T.z_int boot_int rfl) pa_nil))) (pe_one (pe_not (pe_callB call_isi (by rfl) T.z_isinstance boot_isinstance (pa_cons (pv 0) (pa_cons (pe_bltn (v := .ty "bool") rfl T.z_bool boot_bool rfl) pa_nil)))))))), ?_⟩
    (repeat (first | apply Exists.intro | refine And.intro rfl ?_ | refine And.intro (by with_reducible assumption) ?_ | refine And.intro (SqT.of (by assumption)) ?_ | refine And.intro (SqL.of (by assumption)) ?_ | refine And.intro (TyOf.int _) ?_ | refine And.intro (TyOf.tup (by assumption)) ?_ | refine And.intro T.k_ii ?_ | refine And.intro T.k_ib ?_ | refine And.intro T.k_tt ?_ | refine And.intro T.k_bb ?_ | refine And.intro T.nP ?_))
    (try refine iteT ?_)
    (repeat (first | apply Exists.intro | refine And.intro rfl ?_ | refine And.intro (by with_reducible assumption) ?_ | refine And.intro (SqT.of (by assumption)) ?_ | refine And.intro (SqL.of (by assumption)) ?_ | refine And.intro (TyOf.int _) ?_ | refine And.intro (TyOf.tup (by assumption)) ?_ | refine And.intro T.k_ii ?_ | refine And.intro T.k_ib ?_ | refine And.intro T.k_tt ?_ | refine And.intro T.k_bb ?_ | refine And.intro T.nP ?_))
    exact k
theorem ok_divisor (T : Txt K mg t) : FnOk Pr w K mg base CX0 1 t.divisor t.d_divisor ["one", "other"] sp_divisor := by
  refine T.F_divisor.ok sc_divisor (fun vs H Q E h => ?_) (fun cdv A outer s H vs Q E hr h => ?_)
  · obtain ⟨a, b, rfl, _⟩ := h
    rfl
  · obtain ⟨a, b, rfl, k⟩ := h
    refine ⟨_, (pss_cons (ps_set (i := 2) sc_divisor.nd rfl (Or.inl rfl) (pe_callB call_abs (by rfl) T.z_abs boot_abs (pa_cons (pv 0) pa_nil))) (pss_cons (ps_set (i := 3) sc_divisor.nd rfl (Or.inl rfl) (pe_callB call_abs (by rfl) T.z_abs boot_abs (pa_cons (pv 1) pa_nil))) (pss_cons (ps_while PassesOwn.never (pt_cmpR op_gt (pv 3) pe_int (nomark _)) (pss_cons (ps_set (i := 4) sc_divisor.nd rfl (Or.inl rfl) (pe_op op_modN (pv 2) (pv 3))) (pss_cons (ps_set (i := 2) sc_divisor.nd rfl (Or.inl rfl) (pv 3)) (pss_one (ps_set (i := 3) sc_divisor.nd rfl (Or.inl rfl) (pv 4)))))) (pss_one (ps_ret (pv 2)))))), ?_⟩
    refine ⟨_, rfl, _, rfl, _, rfl, _, rfl, ?_⟩
    refine ⟨fun m σ H' => ∃ g r l, σ = [some (.int a), some (.int b), some (.int g), some (.int r), l] ∧ m = r.toNat ∧ (0 ≤ g ∧ 0 ≤ r ∧ dv g r = dv a b) ∧ H' = H, ⟨_, _, _, _, rfl, rfl, start1 a b, rfl⟩, ?_⟩
    rintro m σ H' ⟨g, r, l, rfl, rfl, ⟨g0, r0, e⟩, rfl⟩
    (repeat (first | apply Exists.intro | refine And.intro rfl ?_ | refine And.intro (by with_reducible assumption) ?_ | refine And.intro (SqT.of (by assumption)) ?_ | refine And.intro (SqL.of (by assumption)) ?_ | refine And.intro (TyOf.int _) ?_ | refine And.intro (TyOf.tup (by assumption)) ?_ | refine And.intro T.k_ii ?_ | refine And.intro T.k_ib ?_ | refine And.intro T.k_tt ?_ | refine And.intro T.k_bb ?_ | refine And.intro T.nP ?_))
    refine iteP (fun hr0 => ?_) (fun hr0 => ?_)
    · refine ⟨fun σ' H'' => ∃ g' r' l', σ' = [some (.int a), some (.int b), some (.int g'), some (.int r'), l'] ∧ r'.toNat < r.toNat ∧ (0 ≤ g' ∧ 0 ≤ r' ∧ dv g' r' = dv a b) ∧ H'' = H', fun σ' H'' ⟨g', r', l', e1, e2, e3, e4⟩ => ⟨_, e2, g', r', l', e1, rfl, e3, e4⟩, ?_⟩
      refine ⟨_, rfl, _, rfl, _, _, rfl, rfl, (show r ≠ 0 by omega), _, rfl, _, rfl, ?_⟩
      exact ⟨_, _, _, rfl, d_less hr0, d_turn e hr0, rfl⟩
    · refine ⟨_, rfl, ?_⟩
      (try dsimp only)
      rw [d_out e g0 r0 hr0]
      exact k
theorem fr_is {a b : Int} (pb : 0 < b) : a.fdiv (dv a b) = tp a b ∧ b.fdiv (dv a b) = bt a b := by
  unfold tp bt
  rw [sg_pos (by omega)]
  exact ⟨rfl, rfl⟩
theorem ok_fraction (T : Txt K mg t) : FnOk Pr w K mg base CX0 36 t.fraction t.d_fraction ["top", "bottom"] sp_fraction := by
  refine T.F_fraction.ok sc_fraction (fun vs H Q E h => ?_) (fun cdv A outer s H vs Q E hr h => ?_)
  · obtain ⟨a, b, rfl, _⟩ := h
    rfl
  · obtain ⟨a, b, rfl, pb, k⟩ := h
    have hd : dv a b ≠ 0 := Int.ne_of_gt (dv_pos (by omega))
    refine ⟨_, (pss_cons (ps_if (PW.pt (pw_or (pt_not (pt_val (pe_call (ok_is_whole T) (hr.mono (by decide)) rfl T.m_is_whole T.F_is_whole.kp T.b_is_whole .nil pass0 (pa_cons (pv 0) pa_nil)))) (pw_or1 (pt_not (pt_val (pe_call (ok_is_whole T) (hr.mono (by decide)) rfl T.m_is_whole T.F_is_whole.kp T.b_is_whole .nil pass0 (pa_cons (pv 1) pa_nil))))))) (pss_one ps_never) pss_nil) (pss_cons (ps_if (pt_cmpR op_eq (pv 1) pe_int (nomark _)) (pss_one ps_never) pss_nil) (pss_cons (ps_set (i := 2) sc_fraction.nd rfl (Or.inl rfl) (pe_call (ok_divisor T) (hr.mono (by decide)) rfl T.m_divisor T.F_divisor.kp T.b_divisor .nil pass0 (pa_cons (pv 0) (pa_cons (pv 1) pa_nil)))) (pss_cons (ps_if (pt_cmpR op_lt (pv 1) pe_int (nomark _)) (pss_one (ps_set (i := 2) sc_fraction.nd rfl (Or.inl rfl) (pe_un un_neg (pv 2)))) pss_nil) (pss_one (ps_ret (pe_tup (pa_cons (pe_op (op_fdivP hr (by decide) tree0) (pv 0) (pv 2)) (pa_cons (pe_op (op_fdivP hr (by decide) tree0) (pv 1) (pv 2)) pa_nil))))))))), ?_⟩
    (repeat (first | apply Exists.intro | refine And.intro rfl ?_ | refine And.intro (by with_reducible assumption) ?_ | refine And.intro (SqT.of (by assumption)) ?_ | refine And.intro (SqL.of (by assumption)) ?_ | refine And.intro (TyOf.int _) ?_ | refine And.intro (TyOf.tup (by assumption)) ?_ | refine And.intro T.k_ii ?_ | refine And.intro T.k_ib ?_ | refine And.intro T.k_tt ?_ | refine And.intro T.k_bb ?_ | refine And.intro T.nP ?_))
    (try refine iteF ?_)
    (repeat (first | apply Exists.intro | refine And.intro rfl ?_ | refine And.intro (by with_reducible assumption) ?_ | refine And.intro (SqT.of (by assumption)) ?_ | refine And.intro (SqL.of (by assumption)) ?_ | refine And.intro (TyOf.int _) ?_ | refine And.intro (TyOf.tup (by assumption)) ?_ | refine And.intro T.k_ii ?_ | refine And.intro T.k_ib ?_ | refine And.intro T.k_tt ?_ | refine And.intro T.k_bb ?_ | refine And.intro T.nP ?_))
    (try refine iteF ?_)
    (repeat (first | apply Exists.intro | refine And.intro rfl ?_ | refine And.intro (by with_reducible assumption) ?_ | refine And.intro (SqT.of (by assumption)) ?_ | refine And.intro (SqL.of (by assumption)) ?_ | refine And.intro (TyOf.int _) ?_ | refine And.intro (TyOf.tup (by assumption)) ?_ | refine And.intro T.k_ii ?_ | refine And.intro T.k_ib ?_ | refine And.intro T.k_tt ?_ | refine And.intro T.k_bb ?_ | refine And.intro T.nP ?_))
    refine iteI (fun h0 => absurd h0 (by omega)) (fun _ => ?_)
    (repeat (first | apply Exists.intro | refine And.intro rfl ?_ | refine And.intro (by with_reducible assumption) ?_ | refine And.intro (SqT.of (by assumption)) ?_ | refine And.intro (SqL.of (by assumption)) ?_ | refine And.intro (TyOf.int _) ?_ | refine And.intro (TyOf.tup (by assumption)) ?_ | refine And.intro T.k_ii ?_ | refine And.intro T.k_ib ?_ | refine And.intro T.k_tt ?_ | refine And.intro T.k_bb ?_ | refine And.intro T.nP ?_))
    refine iteP (fun h0 => absurd h0 (by omega)) (fun _ => ?_)
    (repeat (first | apply Exists.intro | refine And.intro rfl ?_ | refine And.intro (by with_reducible assumption) ?_ | refine And.intro (SqT.of (by assumption)) ?_ | refine And.intro (SqL.of (by assumption)) ?_ | refine And.intro (TyOf.int _) ?_ | refine And.intro (TyOf.tup (by assumption)) ?_ | refine And.intro T.k_ii ?_ | refine And.intro T.k_ib ?_ | refine And.intro T.k_tt ?_ | refine And.intro T.k_bb ?_ | refine And.intro T.nP ?_))
    refine ⟨(by show 2 ≤ sizeLine; decide), fun p hp => ?_⟩
    refine k _ _ (same_upd hp) ?_
    (try dsimp only)
    rw [(fr_is pb).1, (fr_is pb).2]
    exact IsF.new
theorem ok_is_prime (T : Txt K mg t) : FnOk Pr w K mg base CX0 1 t.is_prime t.d_is_prime ["number"] sp_prime := by
  refine T.F_is_prime.ok sc_is_prime (fun vs H Q E h => ?_) (fun cdv A outer s H vs Q E hr h => ?_)
  · obtain ⟨n, rfl, _⟩ := h
    rfl
  · obtain ⟨n, rfl, ⟨n2, n6, hp⟩, k⟩ := h
    have PP := isP_true hp
    refine ⟨_, (pss_cons (ps_if (pt_cmpR op_lt (pv 0) pe_int (nomark _)) (pss_one (ps_ret pe_bl)) pss_nil) (pss_cons (ps_set (i := 1) sc_is_prime.nd rfl (Or.inl rfl) pe_int) (pss_cons (ps_while PassesOwn.never (pt_cmpR op_le (pe_op op_mul (pv 1) (pv 1)) (pv 0) (nomark _)) (pss_cons (ps_if (pt_cmpR op_eq (pe_op op_modN (pv 0) (pv 1)) pe_int (nomark _)) (pss_one (ps_ret pe_bl)) pss_nil) (pss_one (ps_set (i := 1) sc_is_prime.nd rfl (Or.inl rfl) (pe_op op_add (pv 1) pe_int))))) (pss_one (ps_ret pe_bl))))), ?_⟩
    refine ⟨_, rfl, _, _, rfl, rfl, _, rfl, ?_⟩
    refine iteP (fun h0 => absurd h0 (by omega)) (fun _ => ?_)
    refine ⟨fun m σ H' => ∃ f : Int, σ = [some (.int n), some (.int f)] ∧ m = (n + 2 - f).toNat ∧ (2 ≤ f ∧ f ≤ n + 1) ∧ H' = H, ⟨_, _, rfl, rfl, ⟨by omega, by omega⟩, rfl⟩, ?_⟩
    rintro m σ H' ⟨f, rfl, rfl, ⟨f2, fn⟩, rfl⟩
    have cm : CMul f f := .inl ⟨by omega, by omega⟩
    refine ⟨_, rfl, _, rfl, _, _, rfl, rfl, cm, _, rfl, _, _, rfl, rfl, _, rfl, ?_⟩
    refine iteP (fun h0 => ?_) (fun h0 => ?_)
    · refine ⟨fun σ' H'' => ∃ f' : Int, σ' = [some (.int n), some (.int f')] ∧ (n + 2 - f').toNat < (n + 2 - f).toNat ∧ (2 ≤ f' ∧ f' ≤ n + 1) ∧ H'' = H', fun σ' H'' ⟨f', e1, e2, e3, e4⟩ => ⟨_, e2, f', e1, rfl, e3, e4⟩, ?_⟩
      refine ⟨_, rfl, _, rfl, _, _, rfl, rfl, (show f ≠ 0 by omega), rfl, _, rfl, ?_⟩
      have hs := sq_le f2 h0
      refine iteI (fun h1 => absurd h1 (PP.2 f f2 h0)) (fun _ => ?_)
      refine ⟨_, rfl, _, _, rfl, rfl, ?_⟩
      exact ⟨_, rfl, by omega, ⟨by omega, by omega⟩, rfl⟩
    · exact k
theorem ok_Residues___init__ (T : Txt K mg t) : FnOk Pr w K mg base CX0 2 t.Residues___init__ t.d_Residues___init__ ["self", "prime"] (sp_init t.Residues) := by
  refine T.F_Residues___init__.ok sc_Residues___init__ (fun vs H Q E h => ?_) (fun cdv A outer s H vs Q E hr h => ?_)
  · obtain ⟨x, dx, n, rfl, _⟩ := h
    rfl
  · obtain ⟨x, dx, n, rfl, hn, hx, k⟩ := h
    refine ⟨_, (pss_cons (ps_if (PW.pt (pw_or (pt_not (pt_val (pe_call (ok_is_whole T) (hr.mono (by decide)) rfl T.m_is_whole T.F_is_whole.kp T.b_is_whole .nil pass0 (pa_cons (pv 1) pa_nil)))) (pw_or (pt_cmpR op_gt (pv 1) (pe_glob (v := .int 1000000) rfl T.c_GREATEST_PRIME.choose_spec ⟨_, rfl⟩) (nomark _)) (pw_or1 (pt_not (pt_val (pe_call (ok_is_prime T) (hr.mono (by decide)) rfl T.m_is_prime T.F_is_prime.kp T.b_is_prime .nil pass0 (pa_cons (pv 1) pa_nil)))))))) (pss_one ps_never) pss_nil) (pss_one (ps_fld (pv 0) (pv 1) rfl))), ?_⟩
    refine ⟨_, rfl, _, rfl, _, rfl, ?_⟩
    (try refine iteF ?_)
    refine ⟨_, rfl, _, _, rfl, rfl, _, rfl, ?_⟩
    refine iteP (fun h0 => absurd h0 (by have := hn.2.1; omega)) (fun _ => ?_)
    refine ⟨_, rfl, _, rfl, hn, _, rfl, ?_⟩
    (try refine iteF ?_)
    refine ⟨_, rfl, _, rfl, x, _, dx, _, rfl, hx, T.C_Residues, T.nP, (by show 0 < 1000; decide), ?_⟩
    exact k
theorem ok_Fractions_nought (T : Txt K mg t) : FnOk Pr w K mg base CX0 1 t.Fractions_nought t.d_Fractions_nought ["self"] (spNul t.Fractions [] frSR isFr Fr.zero) := by
  refine T.F_Fractions_nought.ok sc_Fractions_nought (fun vs H Q E h => ?_) (fun cdv A outer s H vs Q E hr h => ?_)
  · obtain ⟨x, rfl, _⟩ := h
    rfl
  · obtain ⟨x, rfl, _, k⟩ := h
    refine ⟨_, (pss_one (ps_ret (pe_tup (pa_cons pe_int (pa_cons pe_int pa_nil))))), ?_⟩
    exact ⟨(by show 2 ≤ sizeLine; decide), fun p hp => k _ _ (same_upd hp) IsF.new⟩
theorem ok_Fractions_plus (T : Txt K mg t) : FnOk Pr w K mg base CX0 38 t.Fractions_plus t.d_Fractions_plus ["self", "x", "y"] (spBin t.Fractions [] frSR isFr Fr.add) := by
  refine T.F_Fractions_plus.ok sc_Fractions_plus (fun vs H Q E h => ?_) (fun cdv A outer s H vs Q E hr h => ?_)
  · obtain ⟨k, x, y, a, b, m, n, rfl, _⟩ := h
    rfl
  · obtain ⟨k0, x, y, a, b, m, n, rfl, ⟨_, ⟨px, rfl, hx⟩, ⟨py, rfl, hy⟩, sa, sb, hmn⟩, k⟩ := h
    have sa : a.sz m := sa
    have sb : b.sz n := sb
    have m1 : CMulG a.t b.b := mulG (n := n) sa.1 sb.2 (by omega)
    have m2 : CMulG b.t a.b := mulG (n := m) sb.1 sa.2 (by omega)
    have m3 : CMulG a.b b.b := mulG (n := n) sa.2 sb.2 (by omega)
    refine ⟨_, (pss_one (ps_ret (pe_call (ok_fraction T) (hr.mono (by decide)) rfl T.m_fraction T.F_fraction.kp T.b_fraction .nil pass0 (pa_cons (pe_op op_add (pe_op op_mulG (pe_ix ix_tup (pv 1) pe_int (fun _ _ => rfl)) (pe_ix ix_tup (pv 2) pe_int (fun _ _ => rfl))) (pe_op op_mulG (pe_ix ix_tup (pv 2) pe_int (fun _ _ => rfl)) (pe_ix ix_tup (pv 1) pe_int (fun _ _ => rfl)))) (pa_cons (pe_op op_mulG (pe_ix ix_tup (pv 1) pe_int (fun _ _ => rfl)) (pe_ix ix_tup (pv 2) pe_int (fun _ _ => rfl))) pa_nil))))), ?_⟩
    (repeat (first | apply Exists.intro | refine And.intro rfl ?_ | refine And.intro (by with_reducible assumption) ?_ | refine And.intro (SqT.of (by assumption)) ?_ | refine And.intro (SqL.of (by assumption)) ?_ | refine And.intro (TyOf.int _) ?_ | refine And.intro (TyOf.tup (by assumption)) ?_ | refine And.intro T.k_ii ?_ | refine And.intro T.k_ib ?_ | refine And.intro T.k_tt ?_ | refine And.intro T.k_bb ?_ | refine And.intro T.nP ?_))
    exact ⟨Int.mul_pos a.p b.p, k⟩
theorem ok_Fractions_times (T : Txt K mg t) : FnOk Pr w K mg base CX0 38 t.Fractions_times t.d_Fractions_times ["self", "x", "y"] (spBin t.Fractions [] frSR isFr Fr.mul) := by
  refine T.F_Fractions_times.ok sc_Fractions_times (fun vs H Q E h => ?_) (fun cdv A outer s H vs Q E hr h => ?_)
  · obtain ⟨k, x, y, a, b, m, n, rfl, _⟩ := h
    rfl
  · obtain ⟨k0, x, y, a, b, m, n, rfl, ⟨_, ⟨px, rfl, hx⟩, ⟨py, rfl, hy⟩, sa, sb, hmn⟩, k⟩ := h
    have sa : a.sz m := sa
    have sb : b.sz n := sb
    have m1 : CMulG a.t b.t := mulG (n := n) sa.1 sb.1 (by omega)
    have m3 : CMulG a.b b.b := mulG (n := n) sa.2 sb.2 (by omega)
    refine ⟨_, (pss_one (ps_ret (pe_call (ok_fraction T) (hr.mono (by decide)) rfl T.m_fraction T.F_fraction.kp T.b_fraction .nil pass0 (pa_cons (pe_op op_mulG (pe_ix ix_tup (pv 1) pe_int (fun _ _ => rfl)) (pe_ix ix_tup (pv 2) pe_int (fun _ _ => rfl))) (pa_cons (pe_op op_mulG (pe_ix ix_tup (pv 1) pe_int (fun _ _ => rfl)) (pe_ix ix_tup (pv 2) pe_int (fun _ _ => rfl))) pa_nil))))), ?_⟩
    (repeat (first | apply Exists.intro | refine And.intro rfl ?_ | refine And.intro (by with_reducible assumption) ?_ | refine And.intro (SqT.of (by assumption)) ?_ | refine And.intro (SqL.of (by assumption)) ?_ | refine And.intro (TyOf.int _) ?_ | refine And.intro (TyOf.tup (by assumption)) ?_ | refine And.intro T.k_ii ?_ | refine And.intro T.k_ib ?_ | refine And.intro T.k_tt ?_ | refine And.intro T.k_bb ?_ | refine And.intro T.nP ?_))
    exact ⟨Int.mul_pos a.p b.p, k⟩
theorem ok_Residues_nought (T : Txt K mg t) (p : Int) (hp : 2 ≤ p) : FnOk Pr w K mg base CX0 1 t.Residues_nought t.d_Residues_nought ["self"] (spNul t.Residues (pfs p) (resSR p hp) (isRe p) (resSR p hp).zero) := by
  refine T.F_Residues_nought.ok sc_Residues_nought (fun vs H Q E h => ?_) (fun cdv A outer s H vs Q E hr h => ?_)
  · obtain ⟨x, rfl, _⟩ := h
    rfl
  · obtain ⟨x, rfl, _, k⟩ := h
    refine ⟨_, (pss_one (ps_ret pe_int)), ?_⟩
    exact k _ _ (Same.refl _) rfl
theorem ok_Residues_plus (T : Txt K mg t) (p : Int) (hp : 2 ≤ p) : FnOk Pr w K mg base CX0 1 t.Residues_plus t.d_Residues_plus ["self", "x", "y"] (spBin t.Residues (pfs p) (resSR p hp) (isRe p) (resSR p hp).add) := by
  refine T.F_Residues_plus.ok sc_Residues_plus (fun vs H Q E h => ?_) (fun cdv A outer s H vs Q E hr h => ?_)
  · obtain ⟨k, x, y, a, b, m, n, rfl, _⟩ := h
    rfl
  · obtain ⟨k0, x, y, a, b, m, n, rfl, ⟨⟨q, dx, rfl, hq⟩, rfl, rfl, sa, sb, hmn⟩, k⟩ := h
    refine ⟨_, (pss_one (ps_ret (pe_op op_modN (pe_op op_add (pv 1) (pv 2)) (pe_fld (pv 0) rfl)))), ?_⟩
    refine ⟨_, rfl, _, rfl, _, _, rfl, rfl, _, rfl, q, _, dx, _, _, rfl, hq, T.C_Residues, T.nP, pfs_prime p, _, _, rfl, rfl, (show p ≠ 0 by omega), ?_⟩
    exact k _ _ (Same.refl _) rfl
theorem ok_Residues_times (T : Txt K mg t) (p : Int) (hp : 2 ≤ p) (hq : p ≤ 1000000) : FnOk Pr w K mg base CX0 1 t.Residues_times t.d_Residues_times ["self", "x", "y"] (spBin t.Residues (pfs p) (resSR p hp) (isRe p) (resSR p hp).mul) := by
  refine T.F_Residues_times.ok sc_Residues_times (fun vs H Q E h => ?_) (fun cdv A outer s H vs Q E hr h => ?_)
  · obtain ⟨k, x, y, a, b, m, n, rfl, _⟩ := h
    rfl
  · obtain ⟨k0, x, y, a, b, m, n, rfl, ⟨⟨q, dx, rfl, hk⟩, rfl, rfl, sa, sb, hmn⟩, k⟩ := h
    have cm : CMul a.x b.x := .inl ⟨by have := a.h0; omega, by have := a.h1; omega⟩
    refine ⟨_, (pss_one (ps_ret (pe_op op_modN (pe_op op_mul (pv 1) (pv 2)) (pe_fld (pv 0) rfl)))), ?_⟩
    refine ⟨_, rfl, _, rfl, _, _, rfl, rfl, cm, _, rfl, q, _, dx, _, _, rfl, hk, T.C_Residues, T.nP, pfs_prime p, _, _, rfl, rfl, (show p ≠ 0 by omega), ?_⟩
    exact k _ _ (Same.refl _) rfl
theorem ok_Costs_nought (T : Txt K mg t) : FnOk Pr w K mg base CX0 1 t.Costs_nought t.d_Costs_nought ["self"] (spNul t.Costs [] costSR isCo costSR.zero) := by
  refine T.F_Costs_nought.ok sc_Costs_nought (fun vs H Q E h => ?_) (fun cdv A outer s H vs Q E hr h => ?_)
  · obtain ⟨x, rfl, _⟩ := h
    rfl
  · obtain ⟨x, rfl, _, k⟩ := h
    refine ⟨_, (pss_one (ps_ret pe_non)), ?_⟩
    exact k _ _ (Same.refl _) rfl
theorem ok_Costs_plus (T : Txt K mg t) : FnOk Pr w K mg base CX0 1 t.Costs_plus t.d_Costs_plus ["self", "x", "y"] (spBin t.Costs [] costSR isCo costSR.add) := by
  refine T.F_Costs_plus.ok sc_Costs_plus (fun vs H Q E h => ?_) (fun cdv A outer s H vs Q E hr h => ?_)
  · obtain ⟨k, x, y, a, b, m, n, rfl, _⟩ := h
    rfl
  · obtain ⟨k0, x, y, a, b, m, n, rfl, ⟨_, rfl, rfl, sa, sb, hmn⟩, k⟩ := h
    refine ⟨_, (pss_cons (ps_if (pt_cmpR op_isN (pv 1) pe_non (nomark _)) (pss_one (ps_ret (pv 2))) pss_nil) (pss_cons (ps_if (pt_cmpR op_isN (pv 2) pe_non (nomark _)) (pss_one (ps_ret (pv 1))) pss_nil) (pss_one (ps_ret (pe_callB (call_min2 rfl) (by rfl) T.z_min boot_min (pa_cons (pv 1) (pa_cons (pv 2) pa_nil))))))), ?_⟩
    have k' := k (cV (cAdd a b)) H (Same.refl _) rfl
    cases a with
    | none =>
      refine ⟨_, rfl, rfl, _, rfl, ?_⟩
      refine iteT ?_
      exact ⟨_, rfl, k'⟩
    | some i =>
      refine ⟨_, rfl, rfl, _, rfl, ?_⟩
      refine iteF ?_
      cases b with
      | none =>
        refine ⟨_, rfl, rfl, _, rfl, ?_⟩
        refine iteT ?_
        exact ⟨_, rfl, k'⟩
      | some j =>
        refine ⟨_, rfl, rfl, _, rfl, ?_⟩
        refine iteF ?_
        exact ⟨_, rfl, _, rfl, _, _, rfl, k'⟩
theorem ok_Costs_times (T : Txt K mg t) : FnOk Pr w K mg base CX0 1 t.Costs_times t.d_Costs_times ["self", "x", "y"] (spBin t.Costs [] costSR isCo costSR.mul) := by
  refine T.F_Costs_times.ok sc_Costs_times (fun vs H Q E h => ?_) (fun cdv A outer s H vs Q E hr h => ?_)
  · obtain ⟨k, x, y, a, b, m, n, rfl, _⟩ := h
    rfl
  · obtain ⟨k0, x, y, a, b, m, n, rfl, ⟨_, rfl, rfl, sa, sb, hmn⟩, k⟩ := h
    refine ⟨_, (pss_cons (ps_if (PW.pt (pw_or (pt_cmpR op_isN (pv 1) pe_non (nomark _)) (pw_or1 (pt_cmpR op_isN (pv 2) pe_non (nomark _))))) (pss_one (ps_ret pe_non)) pss_nil) (pss_one (ps_ret (pe_op op_add (pv 1) (pv 2))))), ?_⟩
    have k' := k (cV (cMul a b)) H (Same.refl _) rfl
    cases a with
    | none =>
      refine ⟨_, rfl, rfl, _, rfl, ?_⟩
      refine iteT ?_
      (try refine iteT ?_)
      exact k'
    | some i =>
      refine ⟨_, rfl, rfl, _, rfl, ?_⟩
      refine iteF ?_
      cases b with
      | none =>
        refine ⟨_, rfl, rfl, _, rfl, ?_⟩
        (try refine iteT ?_)
        exact k'
      | some j =>
        refine ⟨_, rfl, rfl, _, rfl, ?_⟩
        (try refine iteF ?_)
        exact ⟨_, rfl, _, rfl, _, _, rfl, rfl, k'⟩
theorem ok_Truths_nought (T : Txt K mg t) : FnOk Pr w K mg base CX0 1 t.Truths_nought t.d_Truths_nought ["self"] (spNul t.Truths [] truthSR isTr truthSR.zero) := by
  refine T.F_Truths_nought.ok sc_Truths_nought (fun vs H Q E h => ?_) (fun cdv A outer s H vs Q E hr h => ?_)
  · obtain ⟨x, rfl, _⟩ := h
    rfl
  · obtain ⟨x, rfl, _, k⟩ := h
    refine ⟨_, (pss_one (ps_ret pe_bl)), ?_⟩
    exact k _ _ (Same.refl _) rfl
theorem ok_Truths_plus (T : Txt K mg t) : FnOk Pr w K mg base CX0 1 t.Truths_plus t.d_Truths_plus ["self", "x", "y"] (spBin t.Truths [] truthSR isTr truthSR.add) := by
  refine T.F_Truths_plus.ok sc_Truths_plus (fun vs H Q E h => ?_) (fun cdv A outer s H vs Q E hr h => ?_)
  · obtain ⟨k, x, y, a, b, m, n, rfl, _⟩ := h
    rfl
  · obtain ⟨k0, x, y, a, b, m, n, rfl, ⟨_, rfl, rfl, sa, sb, hmn⟩, k⟩ := h
    refine ⟨_, (pss_one (ps_ret (pe_or (pv 1) (pe_one (pv 2))))), ?_⟩
    have k' := k (.bl (a || b)) H (Same.refl _) rfl
    cases a with
    | true => exact ⟨_, rfl, _, rfl, iteT k'⟩
    | false => exact ⟨_, rfl, _, rfl, iteF ⟨_, rfl, k'⟩⟩
theorem ok_Truths_times (T : Txt K mg t) : FnOk Pr w K mg base CX0 1 t.Truths_times t.d_Truths_times ["self", "x", "y"] (spBin t.Truths [] truthSR isTr truthSR.mul) := by
  refine T.F_Truths_times.ok sc_Truths_times (fun vs H Q E h => ?_) (fun cdv A outer s H vs Q E hr h => ?_)
  · obtain ⟨k, x, y, a, b, m, n, rfl, _⟩ := h
    rfl
  · obtain ⟨k0, x, y, a, b, m, n, rfl, ⟨_, rfl, rfl, sa, sb, hmn⟩, k⟩ := h
    refine ⟨_, (pss_one (ps_ret (pe_and (pv 1) (pe_one (pv 2))))), ?_⟩
    have k' := k (.bl (a && b)) H (Same.refl _) rfl
    cases a with
    | true => exact ⟨_, rfl, _, rfl, iteT ⟨_, rfl, k'⟩⟩
    | false => exact ⟨_, rfl, _, rfl, iteF k'⟩
/-! the kinds -/
def R_fr (T : Txt K mg t) : KindR Pr w K mg base where
  S := frSR
  C := t.Fractions
  fs := []
  cl := T.C_Fractions
  is := isFr
  same e h := IsF.same e h
  isd h := IsF.is h
  f_plus := _
  d_plus := _
  t_plus := T.t_Fractions_plus
  b_plus := T.b_Fractions_plus
  l_plus := rfl
  G_plus := (ok_Fractions_plus T).mono (by decide)
  f_times := _
  d_times := _
  t_times := T.t_Fractions_times
  b_times := T.b_Fractions_times
  l_times := rfl
  G_times := (ok_Fractions_times T).mono (by decide)
  f_nought := _
  d_nought := _
  t_nought := T.t_Fractions_nought
  b_nought := T.b_Fractions_nought
  l_nought := rfl
  G_nought := (ok_Fractions_nought T).mono (by decide)
def R_re (T : Txt K mg t) (p : Int) (hp : 2 ≤ p) (hq : p ≤ 1000000) : KindR Pr w K mg base where
  S := resSR p hp
  C := t.Residues
  fs := pfs p
  cl := T.C_Residues
  is := isRe p
  same _ h := h
  isd {H v x} h := by cases (show v = .int x.x from h); exact .int _
  f_plus := _
  d_plus := _
  t_plus := T.t_Residues_plus
  b_plus := T.b_Residues_plus
  l_plus := pfs_no p (by decide +kernel)
  G_plus := (ok_Residues_plus T p hp).mono (by decide)
  f_times := _
  d_times := _
  t_times := T.t_Residues_times
  b_times := T.b_Residues_times
  l_times := pfs_no p (by decide +kernel)
  G_times := (ok_Residues_times T p hp hq).mono (by decide)
  f_nought := _
  d_nought := _
  t_nought := T.t_Residues_nought
  b_nought := T.b_Residues_nought
  l_nought := pfs_no p (by decide +kernel)
  G_nought := (ok_Residues_nought T p hp).mono (by decide)
def R_co (T : Txt K mg t) : KindR Pr w K mg base where
  S := costSR
  C := t.Costs
  fs := []
  cl := T.C_Costs
  is := isCo
  same _ h := h
  isd {H v x} h := by
    cases (show v = cV x from h)
    cases x with
    | none => exact .non
    | some i => exact .int i
  f_plus := _
  d_plus := _
  t_plus := T.t_Costs_plus
  b_plus := T.b_Costs_plus
  l_plus := rfl
  G_plus := (ok_Costs_plus T).mono (by decide)
  f_times := _
  d_times := _
  t_times := T.t_Costs_times
  b_times := T.b_Costs_times
  l_times := rfl
  G_times := (ok_Costs_times T).mono (by decide)
  f_nought := _
  d_nought := _
  t_nought := T.t_Costs_nought
  b_nought := T.b_Costs_nought
  l_nought := rfl
  G_nought := (ok_Costs_nought T).mono (by decide)
def R_tr (T : Txt K mg t) : KindR Pr w K mg base where
  S := truthSR
  C := t.Truths
  fs := []
  cl := T.C_Truths
  is := isTr
  same _ h := h
  isd {H v x} h := by cases (show v = .bl x from h); exact .bl x
  f_plus := _
  d_plus := _
  t_plus := T.t_Truths_plus
  b_plus := T.b_Truths_plus
  l_plus := rfl
  G_plus := (ok_Truths_plus T).mono (by decide)
  f_times := _
  d_times := _
  t_times := T.t_Truths_times
  b_times := T.b_Truths_times
  l_times := rfl
  G_times := (ok_Truths_times T).mono (by decide)
  f_nought := _
  d_nought := _
  t_nought := T.t_Truths_nought
  b_nought := T.b_Truths_nought
  l_nought := rfl
  G_nought := (ok_Truths_nought T).mono (by decide)
/-- which of the four, with its name and number -/
inductive So (T : Txt K mg t) : KindR Pr w K mg base → Str → Int → Prop
  | fr : So T (R_fr T) "fractions" 0
  | re (p : Int) (hp : 2 ≤ p) (hq : p ≤ 1000000) (hi : isP p = true) : So T (R_re T p hp hq) "residues" p
  | co : So T (R_co T) "costs" 0
  | tr : So T (R_tr T) "truths" 0
def SortAt (H : Hp) (v : V) (nm : Str) (p : Int) : Prop := ∃ q, v = .ref q ∧ H q = some (.tup [.str nm, .int p])
theorem SortAt.same {H H' : Hp} {v : V} {nm : Str} {p : Int} (s : SameT H H') (h : SortAt H v nm p) : SortAt H' v nm p := by
  obtain ⟨q, rfl, e⟩ := h
  exact ⟨q, rfl, s _ _ e⟩
/-! tables -/
def sp_column_at (w : World) (K : PySem.W.Frag) (mg : Str → Option Value) (base : Heap) : Sp := fun vs H Q _ => ∃ (R : KindR Pr w K mg base), ∃ tb, ∃ (z : Int), ∃ (i : Nat), ∃ h n x m, vs = [tb, .int z] ∧ (R.Tab h n x m tb H ∧ i < n ∧ h ≤ 1000 ∧ z = i) ∧
  ∀ v H', Same H H' → R.Row h (fun j => x j i) m v H' → Q v H'
theorem ok_column_at (T : Txt K mg t) : FnOk Pr w K mg base CX0 1 t.column_at t.d_column_at ["table", "place"] (sp_column_at w K mg base) := by
  refine T.F_column_at.ok sc_column_at (fun vs H Q E h => ?_) (fun cdv A outer s H vs Q E hr h => ?_)
  · obtain ⟨R, tb, z, i, h, n, x, m, rfl, _⟩ := h
    rfl
  · obtain ⟨R, tb, z, i, h, n, x, m, rfl, ⟨⟨p, rows, rfl, hp, ent⟩, hi, hh, rfl⟩, k⟩ := h
    refine ⟨_, (pss_one (ps_ret (pe_callTy call_tuple_of (by rfl) T.z_tuple boot_tuple (pa_cons (pe_comp (xs := ["row"]) rfl (show CompOk ["table", "place"] (defScope s_column_at) _ from ⟨rfl, by decide +kernel, by decide +kernel, by decide +kernel, by decide +kernel, by decide +kernel⟩) (pi_tup (pv 0)) (fun _ _ _ _ _ => (pg_name (i := 2) (by show List.Nodup (["table", "place", "row"] : List Str); decide +kernel) rfl (Or.inl rfl))) (fun _ _ _ _ _ => (pe_ix (show IxR _ (rIxT K) from ix_tup) (pv 2) (pv 1) (fun _ _ => rfl)))) pa_nil)))), ?_⟩
    refine ⟨_, rfl, p, rfl, ⟨_, SqT.of hp⟩, comp_go (n := h) (fun j ys H2 => Ents (R.Wt (fun j => x j i) m) ys j H ∧ H2 = H) hh ⟨Ents.nil, rfl⟩ (fun j ys H2 q => q.1.1) ?_ ?_ ?_⟩
    · rintro j ys H2 hj ⟨e, rfl⟩
      obtain ⟨u, eu, pu⟩ := ent.2 j hj
      refine ⟨⟨_, _, SqT.of hp, eu⟩, fun y H' hy => ?_⟩
      obtain ⟨rfl, hy⟩ := hy
      have := hy _ (SqT.of hp)
      rw [eu] at this
      cases this
      obtain ⟨q, cs, rfl, hq, ec⟩ := pu
      obtain ⟨z, ez, pz⟩ := ec.2 i hi
      refine ⟨⟨[some (.ref q)], rfl, rfl⟩, _, rfl, _, rfl, _, _, _, _, rfl, rfl, SqT.of hq, atI_nat ez, ?_⟩
      exact ⟨e.snoc pz, rfl⟩
    · rintro ys H2 ⟨e, rfl⟩
      exact ⟨_, SqT.of hp, by rw [ent.1]; exact Nat.le_refl _⟩
    · rintro ys H2 l ⟨e, rfl⟩ nl
      have s1 := same_upd (o := .lst ys) nl
      refine ⟨l, ys, rfl, .inl ⟨SqL.of upd_same, fun l2 n2 => ?_⟩⟩
      have s2 := same_upd (o := .tup ys) n2
      exact k _ _ (s1.trans s2) ⟨l2, ys, rfl, upd_same, e.mono fun _ _ _ q => KindR.Wt.same (s1.trans s2).t q⟩
def sp_columns_of (w : World) (K : PySem.W.Frag) (mg : Str → Option Value) (base : Heap) : Sp := fun vs H Q _ => ∃ (R : KindR Pr w K mg base), ∃ tb h n x m, vs = [tb] ∧ (R.Tab h n x m tb H ∧ h ≤ 1000 ∧ n ≤ 1000) ∧
  ∀ v H', Same H H' → R.Tab (if h = 0 then 0 else n) h (fun j i => x i j) m v H' → Q v H'
theorem ok_columns_of (T : Txt K mg t) : FnOk Pr w K mg base CX0 2 t.columns_of t.d_columns_of ["table"] (sp_columns_of w K mg base) := by
  refine T.F_columns_of.ok sc_columns_of (fun vs H Q E h => ?_) (fun cdv A outer s H vs Q E hr h => ?_)
  · obtain ⟨R, tb, h, n, x, m, rfl, _⟩ := h
    rfl
  · obtain ⟨R, tb, h, n, x, m, rfl, ⟨ht, hh, hn⟩, k⟩ := h
    refine ⟨_, (pss_cons (ps_if (pt_cmpR op_eq (pe_callB call_len (by rfl) T.z_len PySem.boot_len (pa_cons (pv 0) pa_nil)) pe_int (nomark _)) (pss_one (ps_ret (pe_tup pa_nil))) pss_nil) (pss_one (ps_ret (pe_callTy call_tuple_of (by rfl) T.z_tuple boot_tuple (pa_cons (pe_comp (xs := ["place"]) rfl (show CompOk ["table"] (defScope s_columns_of) _ from ⟨rfl, by decide +kernel, by decide +kernel, by decide +kernel, by decide +kernel, by decide +kernel⟩) (pi_range1 rfl T.z_range (pa_cons (pe_callB call_len (by rfl) T.z_len PySem.boot_len (pa_cons (pe_ix ix_tup (pv 0) pe_int (fun _ _ => rfl)) pa_nil)) pa_nil)) (fun _ _ _ _ _ => (pg_name (i := 1) (by show List.Nodup (["table", "place"] : List Str); decide +kernel) rfl (Or.inl rfl))) (fun _ _ _ _ _ => (pe_call (ok_column_at (w := w) (base := base) T) (hr.mono (by decide)) rfl T.m_column_at T.F_column_at.kp T.b_column_at .nil pass0 (pa_cons (pv 0) (pa_cons (pv 1) pa_nil))))) pa_nil))))), ?_⟩
    refine ⟨_, rfl, _, _, rfl, ht.len, rfl, _, rfl, ?_⟩
    refine iteI (fun e0 => ?_) (fun e0 => ?_)
    · have e : h = 0 := by omega
      subst e
      refine ⟨(by show 0 ≤ sizeLine; decide), fun p np => k _ _ (same_upd np) ⟨p, [], rfl, upd_same, Ents.nil⟩⟩
    · obtain ⟨p, rows, rfl, hp, ent⟩ := ht
      obtain ⟨u, eu, pu⟩ := ent.2 0 (by omega)
      have e0 : h ≠ 0 := by omega
      rw [if_neg e0] at k
      refine ⟨_, rfl, _, _, _, _, rfl, rfl, SqT.of hp, atI_nat (j := 0) eu, _, _, rfl, pu.len, _, rfl, (by omega), (by omega), comp_go (n := n) (fun j ys H2 => Same H H2 ∧ Ents (fun j u H => R.Row h (fun i => x i j) m u H) ys j H2) hn ⟨Same.refl _, Ents.nil⟩ (fun j ys H2 q => q.2.1) ?_ ?_ ?_⟩
      · rintro j ys H2 hj ⟨q, e⟩
        refine ⟨(show j < (n : Int).toNat by omega), fun y H' hy => ?_⟩
        obtain ⟨rfl, rfl⟩ := hy
        refine ⟨⟨[some (.int (0 + (j : Int)))], rfl, rfl⟩, _, rfl, _, rfl, R, _, _, j, h, n, x, m, rfl, ⟨KindR.Tab.same q.t ⟨p, rows, rfl, hp, ent⟩, hj, hh, by omega⟩, fun v H3 s3 r3 => ?_⟩
        exact ⟨q.trans s3, (e.mono fun _ _ _ z => KindR.Row.same s3.t z).snoc r3⟩
      · rintro ys H2 ⟨q, e⟩
        show (n : Int).toNat ≤ n
        omega
      · rintro ys H2 l ⟨q, e⟩ nl
        have s1 := same_upd (o := .lst ys) nl
        refine ⟨l, ys, rfl, .inl ⟨SqL.of upd_same, fun l2 n2 => ?_⟩⟩
        have s2 := same_upd (o := .tup ys) n2
        exact k _ _ (q.trans (s1.trans s2)) ⟨l2, ys, rfl, upd_same, e.mono fun _ _ _ z => KindR.Row.same (s1.trans s2).t z⟩
/-! row by column -/
def dotW (S : SR) (x y : Nat → S.W) (n : Nat) : S.W := sm S (fun i => S.mul (x i) (y i)) n
theorem dot_sz {S : SR} {x y : Nat → S.W} {m m' n : Nat} (hx : ∀ i, i < n → S.sz m (x i)) (hy : ∀ i, i < n → S.sz m' (y i)) : S.sz (n * (m + m' + 1)) (dotW S x y n) := sm_sz fun i hi => S.sz_mul _ _ _ _ (hx i hi) (hy i hi)
theorem fits {i n c : Nat} (hi : i < n) (h : n * (c + 1) ≤ 30000000) : i * (c + 1) + c ≤ 60000000 ∧ c ≤ 60000000 := by
  have h1 : (i + 1) * (c + 1) ≤ n * (c + 1) := Nat.mul_le_mul_right _ hi
  have h2 : (i + 1) * (c + 1) = i * (c + 1) + (c + 1) := Nat.succ_mul _ _
  omega
theorem wt_sz {R : KindR Pr w K mg base} {x : Nat → R.S.W} {m n : Nat} {ys : List V} {H : Hp} (e : Ents (R.Wt x m) ys n H) : ∀ i, i < n → R.S.sz m (x i) := fun i hi => by
  obtain ⟨_, _, q⟩ := e.2 i hi
  exact q.2
def sp_dot (w : World) (K : PySem.W.Frag) (mg : Str → Option Value) (base : Heap) : Sp := fun vs H Q _ => ∃ (R : KindR Pr w K mg base), ∃ kv row col n x y m m', vs = [kv, row, col] ∧ (KAt R.C R.fs H kv ∧ R.Seq n x m row H ∧ R.Seq n y m' col H ∧ n * (m + m' + 1) ≤ 30000000) ∧
  ∀ v H', Same H H' → R.is H' v (dotW R.S x y n) → R.S.sz (n * (m + m' + 1)) (dotW R.S x y n) → Q v H'
theorem ok_dot (T : Txt K mg t) : FnOk Pr w K mg base CX0 41 t.dot t.d_dot ["kind", "row", "column"] (sp_dot w K mg base) := by
  refine T.F_dot.ok sc_dot (fun vs H Q E h => ?_) (fun cdv A outer s H vs Q E hr h => ?_)
  · obtain ⟨R, kv, row, col, n, x, y, m, m', rfl, _⟩ := h
    rfl
  · obtain ⟨R, kv, row, col, n, x, y, m, m', rfl, ⟨⟨kp, dx, rfl, hk⟩, ⟨S1, xs, o1, v1, w1, e1⟩, ⟨S2, ys, o2, v2, w2, e2⟩, hz⟩, k⟩ := h
    refine ⟨_, (pss_cons (ps_set (i := 3) sc_dot.nd rfl (Or.inl rfl) (pe_meth0 (pv 0) R.cl R.t_nought R.G_nought (hr.mono (by decide)) R.b_nought .nil pass0)) (pss_cons (ps_for PassesOwn.never rfl (pi_zip rfl T.z_zip (pa_cons (pv 1) (pa_cons (pv 2) pa_nil))) (pg_tup rfl (pgs_cons (pg_name (i := 4) sc_dot.nd rfl (Or.inl rfl)) (pgs_cons (pg_name (i := 5) sc_dot.nd rfl (Or.inl rfl)) pgs_nil))) (pss_one (ps_set (i := 3) sc_dot.nd rfl (Or.inl rfl) (pe_meth (pv 0) R.cl R.t_plus R.G_plus (hr.mono (by decide)) R.b_plus .nil pass0 (pa_cons (pv 3) (pa_cons (pe_meth (pv 0) R.cl R.t_times R.G_times (hr.mono (by decide)) R.b_times .nil pass0 (pa_cons (pv 4) (pa_cons (pv 5) pa_nil))) pa_nil)))))) (pss_one (ps_ret (pv 3))))), ?_⟩
    refine ⟨_, rfl, _, _, _, rfl, hk, R.l_nought, _, rfl, ⟨_, _, rfl, hk⟩, fun z H1 s1 f1 => ?_⟩
    refine ⟨_, rfl, _, rfl, S1, S2, _, _, xs, ys, rfl, o1, o2, (w1 _ s1).1, (w2 _ s1).1, for_zip (K := K) (xs := xs) (ys := ys) (fun i σ H2 => ∃ tot v4 v5, σ = [some (.ref kp), some row, some col, some tot, v4, v5] ∧ Same H H2 ∧ R.is H2 tot (dotW R.S x y i)) (by rw [e1.1, e2.1]) ⟨_, _, _, rfl, s1, f1⟩ (fun i σ H2 _ ⟨_, _, _, _, q, _⟩ => ⟨(w1 _ q).1, (w2 _ q).1⟩) ?_ ?_⟩
    · rintro i u v p σ H2 hu hv np ⟨tot, v4, v5, rfl, q, f⟩
      obtain ⟨hi, pu⟩ := e1.at hu
      obtain ⟨_, pv⟩ := e2.at hv
      have sp := same_upd (o := .tup [u, v]) np
      have q2 := q.trans sp
      have b := fits hi hz
      refine ⟨p, _, rfl, SqT.of upd_same, rfl, _, _, rfl, _, _, rfl, rfl, ?_⟩
      refine ⟨_, rfl, _, _, _, rfl, q2 _ _ hk, R.l_plus, _, rfl, _, rfl, _, _, _, rfl, q2 _ _ hk, R.l_times, _, rfl, _, rfl, _, _, _, _, _, m, m', rfl, ⟨⟨_, _, rfl, q2 _ _ hk⟩, R.same q2.t pu.1, R.same q2.t pv.1, pu.2, pv.2, b.2⟩, fun pr H3 s3 f3 => ?_⟩
      have q3 := q2.trans s3
      refine ⟨_, _, _, _, _, i * (m + m' + 1), m + m', rfl, ⟨⟨_, _, rfl, q3 _ _ hk⟩, R.same (sp.trans s3).t f, f3, dot_sz (fun j hj => wt_sz e1 j (Nat.lt_trans hj hi)) (fun j hj => wt_sz e2 j (Nat.lt_trans hj hi)), R.S.sz_mul _ _ _ _ pu.2 pv.2, b.1⟩, fun tt H4 s4 f4 => ?_⟩
      exact ⟨_, _, _, rfl, q3.trans s4, f4⟩
    · rintro σ H2 ⟨tot, v4, v5, rfl, q, f⟩
      rw [e1.1] at f
      exact ⟨_, rfl, k _ _ q f (dot_sz (wt_sz e1) (wt_sz e2))⟩
def sp_row_by (w : World) (K : PySem.W.Frag) (mg : Str → Option Value) (base : Heap) : Sp := fun vs H Q _ => ∃ (R : KindR Pr w K mg base), ∃ kv row tb h n x A m m', vs = [kv, row, tb] ∧ (KAt R.C R.fs H kv ∧ R.Seq h x m row H ∧ R.Tab h n A m' tb H ∧ h ≤ 1000 ∧ n ≤ 1000 ∧ h * (m + m' + 1) ≤ 30000000) ∧
  ∀ v H', Same H H' → R.Row (if h = 0 then 0 else n) (fun j => dotW R.S x (fun i => A i j) h) (h * (m + m' + 1)) v H' → Q v H'
theorem ok_row_by (T : Txt K mg t) : FnOk Pr w K mg base CX0 42 t.row_by t.d_row_by ["kind", "row", "table"] (sp_row_by w K mg base) := by
  refine T.F_row_by.ok sc_row_by (fun vs H Q E h => ?_) (fun cdv A outer s H vs Q E hr h => ?_)
  · obtain ⟨R, kv, row, tb, h, n, x, A, m, m', rfl, _⟩ := h
    rfl
  · obtain ⟨R, kv, row, tb, h, n, x, B, m, m', rfl, ⟨hk, hx, ht, hh, hn, hz⟩, k⟩ := h
    refine ⟨_, (pss_one (ps_ret (pe_callTy call_tuple_of (by rfl) T.z_tuple boot_tuple (pa_cons (pe_comp (xs := ["column"]) rfl (show CompOk ["kind", "row", "table"] (defScope s_row_by) _ from ⟨rfl, by decide +kernel, by decide +kernel, by decide +kernel, by decide +kernel, by decide +kernel⟩) (pi_tup (pe_call (ok_columns_of T) (hr.mono (by decide)) rfl T.m_columns_of T.F_columns_of.kp T.b_columns_of .nil pass0 (pa_cons (pv 2) pa_nil))) (fun _ _ _ _ _ => (pg_name (i := 3) (by show List.Nodup (["kind", "row", "table", "column"] : List Str); decide +kernel) rfl (Or.inl rfl))) (fun _ _ _ _ _ => (pe_call (ok_dot (w := w) (base := base) T) (hr.mono (by decide)) rfl T.m_dot T.F_dot.kp T.b_dot .nil pass0 (pa_cons (pv 0) (pa_cons (pv 1) (pa_cons (pv 3) pa_nil)))))) pa_nil)))), ?_⟩
    refine ⟨_, rfl, R, _, h, n, B, m', rfl, ⟨ht, hh, hn⟩, ?_⟩
    rintro cv H1 s1 ⟨p, cols, rfl, hp, ent⟩
    refine ⟨p, rfl, ⟨_, SqT.of hp⟩, comp_go (n := if h = 0 then 0 else n) (fun j ys H2 => Same H1 H2 ∧ Ents (R.Wt (fun j => dotW R.S x (fun i => B i j) h) (h * (m + m' + 1))) ys j H2) (by split <;> omega) ⟨Same.refl _, Ents.nil⟩ (fun j ys H2 q => q.2.1) ?_ ?_ ?_⟩
    · rintro j ys H2 hj ⟨q, e⟩
      obtain ⟨u, eu, pu⟩ := ent.2 j hj
      refine ⟨⟨_, _, SqT.of (q _ _ hp), eu⟩, fun y H' hy => ?_⟩
      obtain ⟨rfl, hy⟩ := hy
      have := hy _ (SqT.of (q _ _ hp))
      rw [eu] at this
      cases this
      refine ⟨⟨[some _], rfl, rfl⟩, _, rfl, _, rfl, _, rfl, R, _, _, _, h, x, (fun i => B i j), m, m', rfl, ⟨hk.same (s1.trans q), KindR.Seq.same (s1.trans q) hx, (KindR.Row.same q.t pu).seq, hz⟩, fun v H3 s3 f3 z3 => ?_⟩
      exact ⟨q.trans s3, (e.mono fun _ _ _ z => KindR.Wt.same s3.t z).snoc ⟨f3, z3⟩⟩
    · rintro ys H2 ⟨q, e⟩
      exact ⟨_, SqT.of (q _ _ hp), by rw [ent.1]; exact Nat.le_refl _⟩
    · rintro ys H2 l ⟨q, e⟩ nl
      have s1' := same_upd (o := .lst ys) nl
      refine ⟨l, ys, rfl, .inl ⟨SqL.of upd_same, fun l2 n2 => ?_⟩⟩
      have s2 := same_upd (o := .tup ys) n2
      exact k _ _ ((s1.trans q).trans (s1'.trans s2)) ⟨l2, ys, rfl, upd_same, e.mono fun _ _ _ z => KindR.Wt.same (s1'.trans s2).t z⟩
def sp_by_column (w : World) (K : PySem.W.Frag) (mg : Str → Option Value) (base : Heap) : Sp := fun vs H Q _ => ∃ (R : KindR Pr w K mg base), ∃ kv tb col h n A y m m', vs = [kv, tb, col] ∧ (KAt R.C R.fs H kv ∧ R.Tab h n A m tb H ∧ R.Seq n y m' col H ∧ h ≤ 1000 ∧ n * (m + m' + 1) ≤ 30000000) ∧
  ∀ v H', Same H H' → R.Row h (fun i => dotW R.S (A i) y n) (n * (m + m' + 1)) v H' → Q v H'
theorem ok_by_column (T : Txt K mg t) : FnOk Pr w K mg base CX0 42 t.by_column t.d_by_column ["kind", "table", "column"] (sp_by_column w K mg base) := by
  refine T.F_by_column.ok sc_by_column (fun vs H Q E h => ?_) (fun cdv A outer s H vs Q E hr h => ?_)
  · obtain ⟨R, kv, tb, col, h, n, A, y, m, m', rfl, _⟩ := h
    rfl
  · obtain ⟨R, kv, tb, col, h, n, B, y, m, m', rfl, ⟨hk, ⟨p, rows, rfl, hp, ent⟩, hy, hh, hz⟩, k⟩ := h
    refine ⟨_, (pss_one (ps_ret (pe_callTy call_tuple_of (by rfl) T.z_tuple boot_tuple (pa_cons (pe_comp (xs := ["row"]) rfl (show CompOk ["kind", "table", "column"] (defScope s_by_column) _ from ⟨rfl, by decide +kernel, by decide +kernel, by decide +kernel, by decide +kernel, by decide +kernel⟩) (pi_tup (pv 1)) (fun _ _ _ _ _ => (pg_name (i := 3) (by show List.Nodup (["kind", "table", "column", "row"] : List Str); decide +kernel) rfl (Or.inl rfl))) (fun _ _ _ _ _ => (pe_call (ok_dot (w := w) (base := base) T) (hr.mono (by decide)) rfl T.m_dot T.F_dot.kp T.b_dot .nil pass0 (pa_cons (pv 0) (pa_cons (pv 3) (pa_cons (pv 2) pa_nil)))))) pa_nil)))), ?_⟩
    refine ⟨_, rfl, p, rfl, ⟨_, SqT.of hp⟩, comp_go (n := h) (fun j ys H2 => Same H H2 ∧ Ents (R.Wt (fun i => dotW R.S (B i) y n) (n * (m + m' + 1))) ys j H2) hh ⟨Same.refl _, Ents.nil⟩ (fun j ys H2 q => q.2.1) ?_ ?_ ?_⟩
    · rintro j ys H2 hj ⟨q, e⟩
      obtain ⟨u, eu, pu⟩ := ent.2 j hj
      refine ⟨⟨_, _, SqT.of (q _ _ hp), eu⟩, fun y' H' hy' => ?_⟩
      obtain ⟨rfl, hy'⟩ := hy'
      have := hy' _ (SqT.of (q _ _ hp))
      rw [eu] at this
      cases this
      refine ⟨⟨[some _], rfl, rfl⟩, _, rfl, _, rfl, _, rfl, R, _, _, _, n, B j, y, m, m', rfl, ⟨hk.same q, (KindR.Row.same q.t pu).seq, KindR.Seq.same q hy, hz⟩, fun v H3 s3 f3 z3 => ?_⟩
      exact ⟨q.trans s3, (e.mono fun _ _ _ z => KindR.Wt.same s3.t z).snoc ⟨f3, z3⟩⟩
    · rintro ys H2 ⟨q, e⟩
      exact ⟨_, SqT.of (q _ _ hp), by rw [ent.1]; exact Nat.le_refl _⟩
    · rintro ys H2 l ⟨q, e⟩ nl
      have s1' := same_upd (o := .lst ys) nl
      refine ⟨l, ys, rfl, .inl ⟨SqL.of upd_same, fun l2 n2 => ?_⟩⟩
      have s2 := same_upd (o := .tup ys) n2
      exact k _ _ (q.trans (s1'.trans s2)) ⟨l2, ys, rfl, upd_same, e.mono fun _ _ _ z => KindR.Wt.same (s1'.trans s2).t z⟩
def sp_by_table (w : World) (K : PySem.W.Frag) (mg : Str → Option Value) (base : Heap) : Sp := fun vs H Q _ => ∃ (R : KindR Pr w K mg base), ∃ kv one other h w n A B m m', vs = [kv, one, other] ∧ (KAt R.C R.fs H kv ∧ R.Tab h w A m one H ∧ R.Tab w n B m' other H ∧ h ≤ 1000 ∧ w ≤ 1000 ∧ n ≤ 1000 ∧ w * (m + m' + 1) ≤ 30000000) ∧
  ∀ v H', Same H H' → R.Tab h (if w = 0 then 0 else n) (fun i k => dotW R.S (A i) (fun j => B j k) w) (w * (m + m' + 1)) v H' → Q v H'
theorem ok_by_table (T : Txt K mg t) : FnOk Pr w K mg base CX0 43 t.by_table t.d_by_table ["kind", "one", "other"] (sp_by_table w K mg base) := by
  refine T.F_by_table.ok sc_by_table (fun vs H Q E h => ?_) (fun cdv A outer s H vs Q E hr h => ?_)
  · obtain ⟨R, kv, one, other, h, wd, n, A, B, m, m', rfl, _⟩ := h
    rfl
  · obtain ⟨R, kv, one, other, h, wd, n, B, C, m, m', rfl, ⟨hk, ⟨p, rows, rfl, hp, ent⟩, ho, hh, hw, hn, hz⟩, k⟩ := h
    refine ⟨_, (pss_one (ps_ret (pe_callTy call_tuple_of (by rfl) T.z_tuple boot_tuple (pa_cons (pe_comp (xs := ["row"]) rfl (show CompOk ["kind", "one", "other"] (defScope s_by_table) _ from ⟨rfl, by decide +kernel, by decide +kernel, by decide +kernel, by decide +kernel, by decide +kernel⟩) (pi_tup (pv 1)) (fun _ _ _ _ _ => (pg_name (i := 3) (by show List.Nodup (["kind", "one", "other", "row"] : List Str); decide +kernel) rfl (Or.inl rfl))) (fun _ _ _ _ _ => (pe_call (ok_row_by (w := w) (base := base) T) (hr.mono (by decide)) rfl T.m_row_by T.F_row_by.kp T.b_row_by .nil pass0 (pa_cons (pv 0) (pa_cons (pv 3) (pa_cons (pv 2) pa_nil)))))) pa_nil)))), ?_⟩
    refine ⟨_, rfl, p, rfl, ⟨_, SqT.of hp⟩, comp_go (n := h) (fun j ys H2 => Same H H2 ∧ Ents (fun i u H => R.Row (if wd = 0 then 0 else n) (fun k => dotW R.S (B i) (fun j => C j k) wd) (wd * (m + m' + 1)) u H) ys j H2) hh ⟨Same.refl _, Ents.nil⟩ (fun j ys H2 q => q.2.1) ?_ ?_ ?_⟩
    · rintro j ys H2 hj ⟨q, e⟩
      obtain ⟨u, eu, pu⟩ := ent.2 j hj
      refine ⟨⟨_, _, SqT.of (q _ _ hp), eu⟩, fun y' H' hy' => ?_⟩
      obtain ⟨rfl, hy'⟩ := hy'
      have := hy' _ (SqT.of (q _ _ hp))
      rw [eu] at this
      cases this
      refine ⟨⟨[some _], rfl, rfl⟩, _, rfl, _, rfl, _, rfl, R, _, _, _, wd, n, B j, C, m, m', rfl, ⟨hk.same q, (KindR.Row.same q.t pu).seq, KindR.Tab.same q.t ho, hw, hn, hz⟩, fun v H3 s3 r3 => ?_⟩
      exact ⟨q.trans s3, (e.mono fun _ _ _ z => KindR.Row.same s3.t z).snoc r3⟩
    · rintro ys H2 ⟨q, e⟩
      exact ⟨_, SqT.of (q _ _ hp), by rw [ent.1]; exact Nat.le_refl _⟩
    · rintro ys H2 l ⟨q, e⟩ nl
      have s1' := same_upd (o := .lst ys) nl
      refine ⟨l, ys, rfl, .inl ⟨SqL.of upd_same, fun l2 n2 => ?_⟩⟩
      have s2 := same_upd (o := .tup ys) n2
      exact k _ _ (q.trans (s1'.trans s2)) ⟨l2, ys, rfl, upd_same, e.mono fun _ _ _ z => KindR.Row.same (s1'.trans s2).t z⟩
/-! draws -/
def Dr (H : Hp) (a : Addr) : Prop := ∃ x : Int, H a = some (.lst [.int x]) ∨ ∃ d : Int, H a = some (.lst [.int d, .int x])
/-- all but the list at a is as it was -/
def SameX (a : Addr) (H H' : Hp) : Prop := ∀ b o, b ≠ a → H b = some o → H' b = some o
theorem SameX.refl (a : Addr) (H : Hp) : SameX a H H := fun _ _ _ h => h
theorem SameX.trans {a : Addr} {H H1 H2 : Hp} (x : SameX a H H1) (y : SameX a H1 H2) : SameX a H H2 := fun b o n h => y b o n (x b o n h)
theorem SameX.upd {a : Addr} {H : Hp} {o : HO} : SameX a H (upd H a o) := fun b u n h => by rw [upd_ne n]; exact h
theorem SameX.of {a : Addr} {H H' : Hp} (x : Same H H') : SameX a H H' := fun b o _ h => x b o h
def sp_next : Sp := fun vs H Q _ => ∃ (a : Addr) (m : Int), vs = [.ref a, .int m] ∧ (Dr H a ∧ 0 < m ∧ m ≤ 1000000000000000) ∧ ∀ (r : Int) H', SameX a H H' → Dr H' a → 0 ≤ r → r < m → Q (.int r) H'
def sp_state (K : PySem.W.Frag) : Sp := fun vs H Q _ => ∃ (a : Addr) (ns : List Int), vs = [.ref a] ∧ SqL K H a (ns.map V.int) ∧ ns.length ≤ 63 ∧ ∀ b H', H b = none → Same H H' → Dr H' b → Q (.ref b) H'
theorem small_div {m : Int} (h : 0 < m) (h' : m ≤ 1000000000000000) (x : Int) : CDivB x m := by
  refine ⟨by omega, ?_⟩
  have : m.natAbs ≤ 2 ^ 50 := by
    have e : (2 : Nat) ^ 50 = 1125899906842624 := by decide
    omega
  by_cases e : m.natAbs = 0
  · rw [e]; decide
  · rw [Nat.log2_lt e]
    exact Nat.lt_of_le_of_lt this (Nat.pow_lt_pow_right (by decide) (by decide))
theorem ok_law_next (T : Txt K mg t) : FnOk Pr w K mg base CX0 1 t.law_next t.d_law_next ["_law_state_here", "_law_many"] sp_next := by
  refine T.F_law_next.ok sc_law_next (fun vs H Q E h => ?_) (fun cdv A outer s H vs Q E hr h => ?_)
  · obtain ⟨a, m, rfl, _⟩ := h
    rfl
  · obtain ⟨a, m, rfl, ⟨⟨x, hD⟩, m0, m1⟩, k⟩ := h
    refine ⟨_, (pss_cons (ps_if (pt_cmpR op_eq (pe_callB call_len (by rfl) T.z_len PySem.boot_len (pa_cons (pv 0) pa_nil)) pe_int (nomark _)) (pss_cons (ps_set (i := 2) sc_law_next.nd rfl (Or.inl rfl) (pe_op op_modN (pe_ix ix_list (pv 0) pe_int (fun _ _ => rfl)) (pv 1))) (pss_cons (ps_asg (pe_op op_fdivB (pe_ix ix_list (pv 0) pe_int (fun _ _ => rfl)) (pv 1)) (pg_sub (pv 0) pe_int set_list)) (pss_cons (ps_if (pt_cmpR op_eq (pe_ix ix_list (pv 0) pe_int (fun _ _ => rfl)) pe_int (nomark _)) (pss_one (ps_expr (pe_bm PySem.F.plainAttrs_list PySem.F.slot_list_pop PySem.F.type_list_pop mt_popAt (pv 0) (pa_cons pe_int pa_nil)))) pss_nil) (pss_one (ps_ret (pv 2)))))) pss_nil) (pss_cons (ps_asg (pe_op op_modN (pe_op op_add (pe_op op_mul (pe_ix ix_list (pv 0) pe_int (fun _ _ => rfl)) pe_int) pe_int) pe_int) (pg_sub (pv 0) pe_int set_list)) (pss_one (ps_ret (pe_op op_modN (pe_op op_fdivB (pe_ix ix_list (pv 0) pe_int (fun _ _ => rfl)) pe_int) (pv 1)))))), ?_⟩
    rcases hD with hD | ⟨d, hD⟩
    · have lc : LenV K (.ref a) H 1 := .inl ⟨_, SqL.of hD, rfl⟩
      refine ⟨_, rfl, _, _, rfl, lc, rfl, _, rfl, ?_⟩
      refine iteI (fun h => absurd h (by decide)) (fun _ => ?_)
      refine ⟨_, rfl, _, _, _, _, rfl, rfl, SqL.of hD, rfl, _, _, rfl, rfl, .inr ⟨by decide, by decide⟩, _, _, rfl, rfl, _, _, rfl, rfl, (show (2305843009213693951 : Int) ≠ 0 by decide), ?_⟩
      refine ⟨_, rfl, _, _, _, _, rfl, rfl, hD, rfl, ?_⟩
      refine ⟨_, rfl, _, _, _, _, rfl, rfl, SqL.of upd_same, rfl, _, _, rfl, rfl, ⟨by decide, by decide⟩, _, rfl, _, _, rfl, rfl, (show m ≠ 0 by omega), ?_⟩
      exact k _ _ SameX.upd ⟨_, .inl upd_same⟩ (Int.fmod_nonneg_of_pos _ m0) (Int.fmod_lt_of_pos _ m0)
    · have lc : LenV K (.ref a) H 2 := .inl ⟨_, SqL.of hD, rfl⟩
      refine ⟨_, rfl, _, _, rfl, lc, rfl, _, rfl, ?_⟩
      refine iteI (fun _ => ?_) (fun h => absurd rfl h)
      refine ⟨_, rfl, _, _, _, _, rfl, rfl, SqL.of hD, rfl, _, rfl, _, _, rfl, rfl, (show m ≠ 0 by omega), ?_⟩
      refine ⟨_, rfl, _, _, _, _, rfl, rfl, SqL.of hD, rfl, _, rfl, _, _, rfl, rfl, small_div m0 m1 _, ?_⟩
      refine ⟨_, rfl, _, _, _, _, rfl, rfl, hD, rfl, ?_⟩
      refine ⟨_, rfl, _, _, _, _, rfl, rfl, SqL.of upd_same, rfl, rfl, _, rfl, ?_⟩
      refine iteI (fun _ => ?_) (fun _ => ?_)
      · refine ⟨_, rfl, .inl ⟨rfl, _, SqL.of upd_same⟩, _, _, _, _, _, rfl, rfl, upd_same, (by decide), (by decide), rfl, rfl, ?_⟩
        refine ⟨_, rfl, ?_⟩
        exact k _ _ (SameX.upd.trans SameX.upd) ⟨x, .inl upd_same⟩ (Int.fmod_nonneg_of_pos _ m0) (Int.fmod_lt_of_pos _ m0)
      · refine ⟨_, rfl, ?_⟩
        exact k _ _ SameX.upd ⟨x, .inr ⟨_, upd_same⟩⟩ (Int.fmod_nonneg_of_pos _ m0) (Int.fmod_lt_of_pos _ m0)
theorem ok_law_state (T : Txt K mg t) : FnOk Pr w K mg base CX0 1 t.law_state t.d_law_state ["_law_script"] (sp_state K) := by
  refine T.F_law_state.ok sc_law_state (fun vs H Q E h => ?_) (fun cdv A outer s H vs Q E hr h => ?_)
  · obtain ⟨a, ns, rfl, _⟩ := h
    rfl
  · obtain ⟨a, ns, rfl, hS, hlen, k⟩ := h
    refine ⟨_, (pss_cons (ps_set (i := 1) sc_law_state.nd rfl (Or.inl rfl) pe_int) (pss_cons (ps_for PassesOwn.never rfl (pi_list (pe_slice sl_list (pv 0) po_none (po_some pe_int))) (pg_name (i := 2) sc_law_state.nd rfl (Or.inl rfl)) (pss_one (ps_set (i := 1) sc_law_state.nd rfl (Or.inl rfl) (pe_op op_modN (pe_op op_add (pe_op op_add (pe_op op_mul (pv 1) pe_int) (pe_op op_modN (pv 2) (pe_op op_pow pe_int pe_int))) pe_int) pe_int)))) (pss_cons (ps_if (PW.pt (pw_and (pt_cmpR op_gt (pe_callB call_len (by rfl) T.z_len PySem.boot_len (pa_cons (pv 0) pa_nil)) pe_int (nomark _)) (pw_and (pt_cmpR op_gt (pe_ix ix_list (pv 0) pe_int (fun _ _ => rfl)) pe_int (nomark _)) (pw_and1 (pt_cmpR op_eq (pe_op op_modN (pe_ix ix_list (pv 0) pe_int (fun _ _ => rfl)) pe_int) pe_int (nomark _)))))) (pss_one (ps_ret (pe_lst (pa_cons (pe_op op_fdivB (pe_ix ix_list (pv 0) pe_int (fun _ _ => rfl)) pe_int) (pa_cons (pv 1) pa_nil))))) pss_nil) (pss_one (ps_ret (pe_lst (pa_cons (pv 1) pa_nil))))))), ?_⟩
    refine ⟨_, rfl, _, rfl, _, _, rfl, hS, fun c1 hc1 => ?_⟩
    have ec : cutV (ns.map V.int) none (some 200) = (ns.take 200).map V.int := by
      rw [show (200 : Int) = ((200 : Nat) : Int) from rfl, cut_take, List.map_take]
    have s1 := same_upd (o := .lst (cutV (ns.map V.int) none (some 200))) hc1
    have k1 := upd_same (H := H) (a := c1) (o := .lst (cutV (ns.map V.int) none (some 200)))
    have hS1 := s1.seq hS
    clear hc1
    revert s1 k1 hS1
    generalize upd H c1 (.lst (cutV (ns.map V.int) none (some 200))) = H1
    intro s1 k1 hS1
    rw [ec] at k1
    refine ⟨c1, rfl, ⟨_, SqL.of k1⟩, for_list (K := K) (a := c1) (xs := (ns.take 200).map V.int) (fun i σ H' => ∃ (x : Int) (v : Option V), σ = [some (.ref a), some (.int x), v] ∧ H' = H1) ⟨_, _, rfl, rfl⟩ (fun i σ H' _ ⟨_, _, _, e⟩ => e ▸ SqL.of k1) ?_ ?_⟩
    · rintro i y σ H' hi ⟨x, v, rfl, rfl⟩
      obtain ⟨z, rfl⟩ : ∃ z, y = V.int z := by
        rw [List.getElem?_map] at hi
        cases e : (ns.take 200)[i]? with
        | none => rw [e] at hi; cases hi
        | some z => rw [e] at hi; exact ⟨z, (Option.some.inj hi).symm⟩
      refine ⟨_, rfl, _, _, rfl, rfl, .inr ⟨by decide, by decide⟩, _, rfl, _, _, rfl, rfl, ⟨by decide, by decide, by decide⟩, _, _, rfl, rfl, (show ((10 : Int) ^ (30 : Int).toNat) ≠ 0 by decide), _, _, rfl, rfl, _, _, rfl, rfl, _, _, rfl, rfl, (show (2305843009213693951 : Int) ≠ 0 by decide), ?_⟩
      exact ⟨_, _, rfl, rfl⟩
    · rintro σ H' ⟨x, v, rfl, rfl⟩
      have lc : LenV K (.ref a) H' (ns.map V.int).length := .inl ⟨_, hS1, rfl⟩
      rw [List.length_map] at lc
      have last : tSeq tNext (tRet (tLst (tCons (tVar 1) tNil))) { nx := fun _ H'' => Q .non H'', rt := Q } [some (.ref a), some (.int x), v] H' := by
        refine ⟨_, rfl, (by show 1 ≤ sizeLine; decide), fun b hb => ?_⟩
        exact k b _ (s1.free hb) (s1.trans (same_upd hb)) ⟨x, .inl upd_same⟩
      refine ⟨_, rfl, _, _, rfl, lc, _, _, rfl, rfl, _, rfl, ?_⟩
      refine iteP (fun h0 => ?_) (fun _ => ?_)
      · obtain ⟨n0, g0⟩ : ∃ n, ns[0]? = some n := ⟨ns[0]'(by omega), by simp⟩
        have a0 : atI (ns.map V.int) 0 = some (V.int n0) := atI_nat (j := 0) (by rw [List.getElem?_map, g0]; rfl)
        refine ⟨_, rfl, _, _, _, _, rfl, rfl, hS1, a0, _, _, rfl, rfl, _, rfl, ?_⟩
        refine iteP (fun _ => ?_) (fun _ => ?_)
        · refine ⟨_, rfl, _, _, _, _, rfl, rfl, hS1, a0, _, _, rfl, rfl, (show (2 : Int) ≠ 0 by decide), rfl, _, rfl, ?_⟩
          refine iteI (fun _ => ?_) (fun _ => ?_)
          · refine ⟨_, rfl, _, _, _, _, rfl, rfl, hS1, a0, _, _, rfl, rfl, ⟨by decide, by decide⟩, _, rfl, (by show 2 ≤ sizeLine; decide), fun b hb => ?_⟩
            exact k b _ (s1.free hb) (s1.trans (same_upd hb)) ⟨x, .inr ⟨_, upd_same⟩⟩
          · exact last
        · exact last
      · exact last
theorem Dr.same {H H' : Hp} {a : Addr} (e : Same H H') (h : Dr H a) : Dr H' a := by
  obtain ⟨x, h | ⟨d, h⟩⟩ := h
  · exact ⟨x, .inl (e _ _ h)⟩
  · exact ⟨x, .inr ⟨d, e _ _ h⟩⟩
theorem Dr.lst {H : Hp} {a : Addr} (h : Dr H a) : ∃ xs, H a = some (.lst xs) := by
  obtain ⟨x, h | ⟨d, h⟩⟩ := h
  · exact ⟨_, h⟩
  · exact ⟨_, h⟩
theorem SameX.tt {a : Addr} {H H' : Hp} (s : SameX a H H') (d : Dr H a) : SameT H H' := fun p vs h => s p _ (by
  rintro rfl
  obtain ⟨xs, e⟩ := d.lst
  rw [h] at e; cases e) h
theorem KAt.samx {C : Addr} {fs : List (Str × V)} {a : Addr} {H H' : Hp} {k : V} (s : SameX a H H') (d : Dr H a) (h : KAt C fs H k) : KAt C fs H' k := by
  obtain ⟨p, dx, rfl, h⟩ := h
  exact ⟨p, dx, rfl, s p _ (by
    rintro rfl
    obtain ⟨xs, e⟩ := d.lst
    rw [h] at e; cases e) h⟩
theorem SameX.tup {a p : Addr} {H : Hp} {o : HO} (n : H p = none) (d : Dr H a) : SameX a H (L2.upd H p o) ∧ Dr (L2.upd H p o) a := ⟨.of (same_upd n), d.same (same_upd n)⟩
/-! the law's own reckoning -/
def sp_low : Sp := fun vs H Q _ => ∃ a b, vs = [.int a, .int b] ∧ 0 < b ∧ ∀ v H', Same H H' → IsF H' v (tp a b) (bt a b) → Q v H'
theorem ok_law_low (T : Txt K mg t) : FnOk Pr w K mg base CX0 36 t.law_low t.d_law_low ["_law_top", "_law_bottom"] sp_low := by
  refine T.F_law_low.ok sc_law_low (fun vs H Q E h => ?_) (fun cdv A outer s H vs Q E hr h => ?_)
  · obtain ⟨a, b, rfl, _⟩ := h
    rfl
  · obtain ⟨a, b, rfl, pb, k⟩ := h
    have hd : dv b a ≠ 0 := by rw [dv_comm]; exact Int.ne_of_gt (dv_pos (by omega))
    refine ⟨_, (pss_cons (ps_set (i := 2) sc_law_low.nd rfl (Or.inl rfl) (pv 0)) (pss_cons (ps_set (i := 3) sc_law_low.nd rfl (Or.inl rfl) (pv 1)) (pss_cons (ps_while PassesOwn.never (pt_cmpR op_ne (pv 2) pe_int (nomark _)) (pss_one (ps_par (i := 2) (j := 3) rfl sc_law_low.nd rfl rfl (by decide) rfl rfl (pa_cons (pe_op op_modN (pv 3) (pv 2)) (pa_cons (pv 2) pa_nil)) rfl))) (pss_cons (ps_set (i := 3) sc_law_low.nd rfl (Or.inl rfl) (pe_callB call_abs (by rfl) T.z_abs boot_abs (pa_cons (pv 3) pa_nil))) (pss_one (ps_ret (pe_tup (pa_cons (pe_op (op_fdivP hr (by decide) tree0) (pv 0) (pv 3)) (pa_cons (pe_op (op_fdivP hr (by decide) tree0) (pv 1) (pv 3)) pa_nil))))))))), ?_⟩
    refine ⟨_, rfl, _, rfl, ?_⟩
    refine ⟨fun m σ H' => ∃ x y, σ = [some (.int a), some (.int b), some (.int x), some (.int y)] ∧ m = x.natAbs ∧ dv y x = dv b a ∧ H' = H, ⟨_, _, _, rfl, rfl, rfl, rfl⟩, ?_⟩
    rintro m σ H' ⟨x, y, rfl, rfl, e, rfl⟩
    refine ⟨_, rfl, rfl, _, rfl, ?_⟩
    refine iteNI (fun h0 => ?_) (fun h0 => ?_)
    · refine ⟨fun σ' H'' => ∃ x' y', σ' = [some (.int a), some (.int b), some (.int x'), some (.int y')] ∧ x'.natAbs < x.natAbs ∧ dv y' x' = dv b a ∧ H'' = H', fun σ' H'' ⟨x', y', e1, e2, e3, e4⟩ => ⟨_, e2, x', y', e1, rfl, e3, e4⟩, ?_⟩
      refine ⟨_, rfl, _, rfl, _, _, rfl, rfl, h0, _, rfl, _, _, rfl, ?_⟩
      exact ⟨_, _, rfl, fmod_abs_lt _ _ h0, l_turn e, rfl⟩
    · refine ⟨_, rfl, _, rfl, ?_⟩
      (try dsimp only)
      rw [out2 e h0]
      refine ⟨_, rfl, _, rfl, _, _, rfl, rfl, hd, _, rfl, _, rfl, _, _, rfl, rfl, hd, (by show 2 ≤ sizeLine; decide), fun p hp => ?_⟩
      refine k _ _ (same_upd hp) ?_
      (try dsimp only)
      rw [dv_comm b a, (fr_is pb).1, (fr_is pb).2]
      exact IsF.new
def sp_lbin (T : Txt K mg t) (f : ∀ S : SR, S.W → S.W → S.W) : Sp := fun vs H Q _ => ∃ (R : KindR Pr w K mg base), ∃ nm p so x y a b m n, So T R nm p ∧ vs = [so, x, y] ∧
  (SortAt H so nm p ∧ R.is H x a ∧ R.is H y b ∧ R.S.sz m a ∧ R.S.sz n b ∧ m + n ≤ 60000000) ∧ ∀ v H', Same H H' → R.is H' v (f R.S a b) → Q v H'
theorem ok_law_plus (T : Txt K mg t) : FnOk Pr w K mg base CX0 37 t.law_plus t.d_law_plus ["_law_sort_here", "_law_x", "_law_y"] (sp_lbin (w := w) (base := base) T fun S => S.add) := by
  refine T.F_law_plus.ok sc_law_plus (fun vs H Q E h => ?_) (fun cdv A outer s H vs Q E hr h => ?_)
  · obtain ⟨R, nm, p, so, x, y, a, b, m, n, _, rfl, _⟩ := h
    rfl
  · obtain ⟨R, nm, p, so, x, y, a, b, m, n, hS, rfl, ⟨⟨q, rfl, hq⟩, hx, hy, sa, sb, hmn⟩, k⟩ := h
    refine ⟨_, (pss_cons (ps_if (pt_cmpR op_eq (pe_ix ix_tup (pv 0) pe_int (fun _ _ => rfl)) pe_str (nomark _)) (pss_one (ps_ret (pe_call (ok_law_low T) (hr.mono (by decide)) rfl T.m_law_low T.F_law_low.kp T.b_law_low .nil pass0 (pa_cons (pe_op op_add (pe_op op_mulG (pe_ix ix_tup (pv 1) pe_int (fun _ _ => rfl)) (pe_ix ix_tup (pv 2) pe_int (fun _ _ => rfl))) (pe_op op_mulG (pe_ix ix_tup (pv 2) pe_int (fun _ _ => rfl)) (pe_ix ix_tup (pv 1) pe_int (fun _ _ => rfl)))) (pa_cons (pe_op op_mulG (pe_ix ix_tup (pv 1) pe_int (fun _ _ => rfl)) (pe_ix ix_tup (pv 2) pe_int (fun _ _ => rfl))) pa_nil))))) pss_nil) (pss_cons (ps_if (pt_cmpR op_eq (pe_ix ix_tup (pv 0) pe_int (fun _ _ => rfl)) pe_str (nomark _)) (pss_one (ps_ret (pe_op op_modN (pe_op op_add (pv 1) (pv 2)) (pe_ix ix_tup (pv 0) pe_int (fun _ _ => rfl))))) pss_nil) (pss_cons (ps_if (pt_cmpR op_eq (pe_ix ix_tup (pv 0) pe_int (fun _ _ => rfl)) pe_str (nomark _)) (pss_one (ps_ret (pe_or (pv 1) (pe_one (pv 2))))) pss_nil) (pss_cons (ps_if (PW.pt (pw_or (pt_cmpR op_isN (pv 1) pe_non (nomark _)) (pw_or1 (PW.pt (pw_and (pt_cmpR op_notN (pv 2) pe_non (nomark _)) (pw_and1 (pt_cmpR op_lt (pv 2) (pv 1) (nomark _)))))))) (pss_one (ps_ret (pv 2))) pss_nil) (pss_one (ps_ret (pv 1))))))), ?_⟩
    cases hS with
    | fr =>
      obtain ⟨px, rfl, hx⟩ := hx
      obtain ⟨py, rfl, hy⟩ := hy
      have sa : a.sz m := sa
      have sb : b.sz n := sb
      refine ⟨_, rfl, _, _, _, _, rfl, rfl, SqT.of hq, rfl, rfl, _, rfl, ?_⟩
      rw [show decide (V.str ("fractions" : Str) = V.str ("fractions" : Str)) = true by decide +kernel]
      refine iteT ?_
      refine ⟨_, rfl, _, _, _, _, rfl, rfl, SqT.of hx, rfl, _, rfl, _, _, _, _, rfl, rfl, SqT.of hy, rfl, _, _, rfl, rfl, mulG (n := n) sa.1 sb.2 (by omega), _, rfl, _, _, _, _, rfl, rfl, SqT.of hy, rfl, _, rfl, _, _, _, _, rfl, rfl, SqT.of hx, rfl, _, _, rfl, rfl, mulG (n := m) sb.1 sa.2 (by omega), _, _, rfl, rfl, ?_⟩
      refine ⟨_, rfl, _, _, _, _, rfl, rfl, SqT.of hx, rfl, _, rfl, _, _, _, _, rfl, rfl, SqT.of hy, rfl, _, _, rfl, rfl, mulG (n := n) sa.2 sb.2 (by omega), _, _, rfl, Int.mul_pos a.p b.p, fun v H' s' f' => k v H' s' f'⟩
    | re p hp hq' hi =>
      cases (show x = .int a.x from hx)
      cases (show y = .int b.x from hy)
      refine ⟨_, rfl, _, _, _, _, rfl, rfl, SqT.of hq, rfl, rfl, _, rfl, ?_⟩
      rw [show decide (V.str ("residues" : Str) = V.str ("fractions" : Str)) = false by decide +kernel]
      refine iteF ?_
      refine ⟨_, rfl, _, _, _, _, rfl, rfl, SqT.of hq, rfl, rfl, _, rfl, ?_⟩
      rw [show decide (V.str ("residues" : Str) = V.str ("residues" : Str)) = true by decide +kernel]
      refine iteT ?_
      refine ⟨_, rfl, _, rfl, _, _, rfl, rfl, _, rfl, _, _, _, _, rfl, rfl, SqT.of hq, rfl, _, _, rfl, rfl, (show p ≠ 0 by omega), ?_⟩
      exact k _ _ (Same.refl _) rfl
    | tr =>
      cases (show x = .bl a from hx)
      cases (show y = .bl b from hy)
      refine ⟨_, rfl, _, _, _, _, rfl, rfl, SqT.of hq, rfl, rfl, _, rfl, ?_⟩
      rw [show decide (V.str ("truths" : Str) = V.str ("fractions" : Str)) = false by decide +kernel]
      refine iteF ?_
      refine ⟨_, rfl, _, _, _, _, rfl, rfl, SqT.of hq, rfl, rfl, _, rfl, ?_⟩
      rw [show decide (V.str ("truths" : Str) = V.str ("residues" : Str)) = false by decide +kernel]
      refine iteF ?_
      refine ⟨_, rfl, _, _, _, _, rfl, rfl, SqT.of hq, rfl, rfl, _, rfl, ?_⟩
      rw [show decide (V.str ("truths" : Str) = V.str ("truths" : Str)) = true by decide +kernel]
      refine iteT ?_
      have k' := k (.bl (a || b)) H (Same.refl _) rfl
      cases a with
      | true => exact ⟨_, rfl, _, rfl, iteT k'⟩
      | false => exact ⟨_, rfl, _, rfl, iteF ⟨_, rfl, k'⟩⟩
    | co =>
      cases (show x = cV a from hx)
      cases (show y = cV b from hy)
      refine ⟨_, rfl, _, _, _, _, rfl, rfl, SqT.of hq, rfl, rfl, _, rfl, ?_⟩
      rw [show decide (V.str ("costs" : Str) = V.str ("fractions" : Str)) = false by decide +kernel]
      refine iteF ?_
      refine ⟨_, rfl, _, _, _, _, rfl, rfl, SqT.of hq, rfl, rfl, _, rfl, ?_⟩
      rw [show decide (V.str ("costs" : Str) = V.str ("residues" : Str)) = false by decide +kernel]
      refine iteF ?_
      refine ⟨_, rfl, _, _, _, _, rfl, rfl, SqT.of hq, rfl, rfl, _, rfl, ?_⟩
      rw [show decide (V.str ("costs" : Str) = V.str ("truths" : Str)) = false by decide +kernel]
      refine iteF ?_
      have k' := k (cV (cAdd a b)) H (Same.refl _) rfl
      cases a with
      | none =>
        refine ⟨_, rfl, rfl, _, rfl, ?_⟩
        refine iteT ?_
        exact ⟨_, rfl, k'⟩
      | some i =>
        refine ⟨_, rfl, rfl, _, rfl, ?_⟩
        refine iteF ?_
        cases b with
        | none =>
          refine ⟨_, rfl, rfl, _, rfl, ?_⟩
          (try refine iteF ?_)
          (try refine iteF ?_)
          exact ⟨_, rfl, k'⟩
        | some j =>
          refine ⟨_, rfl, rfl, _, rfl, ?_⟩
          (try refine iteT ?_)
          refine ⟨_, rfl, _, rfl, _, _, rfl, rfl, _, rfl, ?_⟩
          have k' : Q (.int (if j < i then j else i)) H := k'
          refine iteP (fun h0 => ?_) (fun h0 => ?_)
          · rw [if_pos h0] at k'
            exact ⟨_, rfl, k'⟩
          · rw [if_neg h0] at k'
            exact ⟨_, rfl, k'⟩
theorem ok_law_times (T : Txt K mg t) : FnOk Pr w K mg base CX0 37 t.law_times t.d_law_times ["_law_sort_here", "_law_x", "_law_y"] (sp_lbin (w := w) (base := base) T fun S => S.mul) := by
  refine T.F_law_times.ok sc_law_times (fun vs H Q E h => ?_) (fun cdv A outer s H vs Q E hr h => ?_)
  · obtain ⟨R, nm, p, so, x, y, a, b, m, n, _, rfl, _⟩ := h
    rfl
  · obtain ⟨R, nm, p, so, x, y, a, b, m, n, hS, rfl, ⟨⟨q, rfl, hq⟩, hx, hy, sa, sb, hmn⟩, k⟩ := h
    refine ⟨_, (pss_cons (ps_if (pt_cmpR op_eq (pe_ix ix_tup (pv 0) pe_int (fun _ _ => rfl)) pe_str (nomark _)) (pss_one (ps_ret (pe_call (ok_law_low T) (hr.mono (by decide)) rfl T.m_law_low T.F_law_low.kp T.b_law_low .nil pass0 (pa_cons (pe_op op_mulG (pe_ix ix_tup (pv 1) pe_int (fun _ _ => rfl)) (pe_ix ix_tup (pv 2) pe_int (fun _ _ => rfl))) (pa_cons (pe_op op_mulG (pe_ix ix_tup (pv 1) pe_int (fun _ _ => rfl)) (pe_ix ix_tup (pv 2) pe_int (fun _ _ => rfl))) pa_nil))))) pss_nil) (pss_cons (ps_if (pt_cmpR op_eq (pe_ix ix_tup (pv 0) pe_int (fun _ _ => rfl)) pe_str (nomark _)) (pss_one (ps_ret (pe_op op_modN (pe_op op_mul (pv 1) (pv 2)) (pe_ix ix_tup (pv 0) pe_int (fun _ _ => rfl))))) pss_nil) (pss_cons (ps_if (pt_cmpR op_eq (pe_ix ix_tup (pv 0) pe_int (fun _ _ => rfl)) pe_str (nomark _)) (pss_one (ps_ret (pe_and (pv 1) (pe_one (pv 2))))) pss_nil) (pss_cons (ps_if (PW.pt (pw_or (pt_cmpR op_isN (pv 1) pe_non (nomark _)) (pw_or1 (pt_cmpR op_isN (pv 2) pe_non (nomark _))))) (pss_one (ps_ret pe_non)) pss_nil) (pss_one (ps_ret (pe_op op_add (pv 1) (pv 2)))))))), ?_⟩
    cases hS with
    | fr =>
      obtain ⟨px, rfl, hx⟩ := hx
      obtain ⟨py, rfl, hy⟩ := hy
      have sa : a.sz m := sa
      have sb : b.sz n := sb
      refine ⟨_, rfl, _, _, _, _, rfl, rfl, SqT.of hq, rfl, rfl, _, rfl, ?_⟩
      rw [show decide (V.str ("fractions" : Str) = V.str ("fractions" : Str)) = true by decide +kernel]
      refine iteT ?_
      refine ⟨_, rfl, _, _, _, _, rfl, rfl, SqT.of hx, rfl, _, rfl, _, _, _, _, rfl, rfl, SqT.of hy, rfl, _, _, rfl, rfl, mulG (n := n) sa.1 sb.1 (by omega), ?_⟩
      refine ⟨_, rfl, _, _, _, _, rfl, rfl, SqT.of hx, rfl, _, rfl, _, _, _, _, rfl, rfl, SqT.of hy, rfl, _, _, rfl, rfl, mulG (n := n) sa.2 sb.2 (by omega), _, _, rfl, Int.mul_pos a.p b.p, fun v H' s' f' => k v H' s' f'⟩
    | re p hp hq' hi =>
      cases (show x = .int a.x from hx)
      cases (show y = .int b.x from hy)
      have cm : CMul a.x b.x := .inl ⟨by have := a.h0; omega, by have := a.h1; omega⟩
      refine ⟨_, rfl, _, _, _, _, rfl, rfl, SqT.of hq, rfl, rfl, _, rfl, ?_⟩
      rw [show decide (V.str ("residues" : Str) = V.str ("fractions" : Str)) = false by decide +kernel]
      refine iteF ?_
      refine ⟨_, rfl, _, _, _, _, rfl, rfl, SqT.of hq, rfl, rfl, _, rfl, ?_⟩
      rw [show decide (V.str ("residues" : Str) = V.str ("residues" : Str)) = true by decide +kernel]
      refine iteT ?_
      refine ⟨_, rfl, _, rfl, _, _, rfl, rfl, cm, _, rfl, _, _, _, _, rfl, rfl, SqT.of hq, rfl, _, _, rfl, rfl, (show p ≠ 0 by omega), ?_⟩
      exact k _ _ (Same.refl _) rfl
    | tr =>
      cases (show x = .bl a from hx)
      cases (show y = .bl b from hy)
      refine ⟨_, rfl, _, _, _, _, rfl, rfl, SqT.of hq, rfl, rfl, _, rfl, ?_⟩
      rw [show decide (V.str ("truths" : Str) = V.str ("fractions" : Str)) = false by decide +kernel]
      refine iteF ?_
      refine ⟨_, rfl, _, _, _, _, rfl, rfl, SqT.of hq, rfl, rfl, _, rfl, ?_⟩
      rw [show decide (V.str ("truths" : Str) = V.str ("residues" : Str)) = false by decide +kernel]
      refine iteF ?_
      refine ⟨_, rfl, _, _, _, _, rfl, rfl, SqT.of hq, rfl, rfl, _, rfl, ?_⟩
      rw [show decide (V.str ("truths" : Str) = V.str ("truths" : Str)) = true by decide +kernel]
      refine iteT ?_
      have k' := k (.bl (a && b)) H (Same.refl _) rfl
      cases a with
      | true => exact ⟨_, rfl, _, rfl, iteT ⟨_, rfl, k'⟩⟩
      | false => exact ⟨_, rfl, _, rfl, iteF k'⟩
    | co =>
      cases (show x = cV a from hx)
      cases (show y = cV b from hy)
      refine ⟨_, rfl, _, _, _, _, rfl, rfl, SqT.of hq, rfl, rfl, _, rfl, ?_⟩
      rw [show decide (V.str ("costs" : Str) = V.str ("fractions" : Str)) = false by decide +kernel]
      refine iteF ?_
      refine ⟨_, rfl, _, _, _, _, rfl, rfl, SqT.of hq, rfl, rfl, _, rfl, ?_⟩
      rw [show decide (V.str ("costs" : Str) = V.str ("residues" : Str)) = false by decide +kernel]
      refine iteF ?_
      refine ⟨_, rfl, _, _, _, _, rfl, rfl, SqT.of hq, rfl, rfl, _, rfl, ?_⟩
      rw [show decide (V.str ("costs" : Str) = V.str ("truths" : Str)) = false by decide +kernel]
      refine iteF ?_
      have k' := k (cV (cMul a b)) H (Same.refl _) rfl
      cases a with
      | none =>
        refine ⟨_, rfl, rfl, _, rfl, ?_⟩
        (try refine iteT ?_)
        (try refine iteT ?_)
        exact k'
      | some i =>
        refine ⟨_, rfl, rfl, _, rfl, ?_⟩
        refine iteF ?_
        cases b with
        | none =>
          refine ⟨_, rfl, rfl, _, rfl, ?_⟩
          (try refine iteT ?_)
          exact k'
        | some j =>
          refine ⟨_, rfl, rfl, _, rfl, ?_⟩
          (try refine iteF ?_)
          exact ⟨_, rfl, _, rfl, _, _, rfl, rfl, k'⟩
def nts (p1 : Addr) : List (Key × V) := [(Sum.inr "fractions", .ref p1), (Sum.inr "residues", .int 0), (Sum.inr "costs", .non), (Sum.inr "truths", .bl false)]
theorem nts_fr (p1 : Addr) : valV (mergeK [] (nts p1)) (Sum.inr "fractions") = some (.ref p1) := by kernel_rfl
theorem nts_re (p1 : Addr) : valV (mergeK [] (nts p1)) (Sum.inr "residues") = some (.int 0) := by kernel_rfl
theorem nts_co (p1 : Addr) : valV (mergeK [] (nts p1)) (Sum.inr "costs") = some .non := by kernel_rfl
theorem nts_tr (p1 : Addr) : valV (mergeK [] (nts p1)) (Sum.inr "truths") = some (.bl false) := by kernel_rfl
def sp_lnought (T : Txt K mg t) : Sp := fun vs H Q _ => ∃ (R : KindR Pr w K mg base), ∃ nm p so, So T R nm p ∧ vs = [so] ∧ SortAt H so nm p ∧ ∀ v H', Same H H' → R.is H' v R.S.zero → Q v H'
theorem ok_law_nought (T : Txt K mg t) : FnOk Pr w K mg base CX0 1 t.law_nought t.d_law_nought ["_law_sort_here"] (sp_lnought (w := w) (base := base) T) := by
  refine T.F_law_nought.ok sc_law_nought (fun vs H Q E h => ?_) (fun cdv A outer s H vs Q E hr h => ?_)
  · obtain ⟨R, nm, p, so, _, rfl, _⟩ := h
    rfl
  · obtain ⟨R, nm, p, so, hS, rfl, ⟨q, rfl, hq⟩, k⟩ := h
    refine ⟨_, (pss_one (ps_ret (pe_dget (hu_of hr) (pe_disp (pps_cons pe_str (pe_tup (pa_cons pe_int (pa_cons pe_int pa_nil))) (pps_cons pe_str pe_int (pps_cons pe_str pe_non (pps_cons pe_str pe_bl pps_nil)))) rfl rfl (fun h => by cases h) (by decide)) (pe_ix ix_tup (pv 0) pe_int (fun _ _ => rfl)) (fun _ _ => rfl)))), ?_⟩
    intro d nd
    refine ⟨(by show 2 ≤ sizeLine; decide), fun p1 n1 => ?_⟩
    have s1 := same_upd (o := .dK []) nd
    have s2 := same_upd (o := .tup [.int 0, .int 1]) n1
    have nd1 : p1 ≠ d := fun e => by rw [e, upd_same] at n1; cases n1
    have s3 : Same H (upd (upd (upd H d (.dK [])) p1 (.tup [.int 0, .int 1])) d (.dK (mergeK [] (nts p1)))) := fun b o e => by
      rw [upd_ne (ne_of_none e nd)]
      exact (s1.trans s2) _ _ e
    refine ⟨s2 _ _ upd_same, nts p1, rfl, (by show 4 ≤ 15; decide), ?_⟩
    refine ⟨_, rfl, _, _, _, _, rfl, rfl, SqT.of (s3 _ _ hq), rfl, ?_⟩
    have g := DGet.k (H := upd (upd (upd H d (.dK [])) p1 (.tup [.int 0, .int 1])) d (.dK (mergeK [] (nts p1)))) (k := Sum.inr nm) upd_same
    cases hS with
    | fr =>
      rw [nts_fr] at g
      exact ⟨_, _, rfl, g, k _ _ s3 ⟨p1, rfl, by rw [upd_ne nd1, upd_same]; rfl⟩⟩
    | re p hp hq' hi =>
      rw [nts_re] at g
      exact ⟨_, _, rfl, g, k _ _ s3 rfl⟩
    | co =>
      rw [nts_co] at g
      exact ⟨_, _, rfl, g, k _ _ s3 rfl⟩
    | tr =>
      rw [nts_tr] at g
      exact ⟨_, _, rfl, g, k _ _ s3 rfl⟩
theorem nine9 {r : Int} (h0 : 0 ≤ r) (h1 : r < 9) : ∃ p : Int, atI ([2, 3, 5, 7, 11, 13, 101, 65537, 999983].map V.int) r = some (V.int p) ∧ 2 ≤ p ∧ p ≤ 1000000 ∧ isP p = true := by
  rcases (by omega : r = 0 ∨ r = 1 ∨ r = 2 ∨ r = 3 ∨ r = 4 ∨ r = 5 ∨ r = 6 ∨ r = 7 ∨ r = 8) with rfl | rfl | rfl | rfl | rfl | rfl | rfl | rfl | rfl
  · exact ⟨2, rfl, by decide, by decide, p2⟩
  · exact ⟨3, rfl, by decide, by decide, p3⟩
  · exact ⟨5, rfl, by decide, by decide, p5⟩
  · exact ⟨7, rfl, by decide, by decide, p7⟩
  · exact ⟨11, rfl, by decide, by decide, p11⟩
  · exact ⟨13, rfl, by decide, by decide, p13⟩
  · exact ⟨101, rfl, by decide, by decide, p101⟩
  · exact ⟨65537, rfl, by decide, by decide, p65537⟩
  · exact ⟨999983, rfl, by decide, by decide, p999983⟩
def sp_sort (T : Txt K mg t) : Sp := fun vs H Q _ => ∃ (a : Addr) (wy : Int), vs = [.ref a, .int wy] ∧ (Dr H a ∧ 0 ≤ wy ∧ wy < 4) ∧ ∀ (R : KindR Pr w K mg base) nm p v H', So T R nm p → SortAt H' v nm p → SameX a H H' → Dr H' a → Q v H'
theorem ok_law_sort (T : Txt K mg t) : FnOk Pr w K mg base CX0 2 t.law_sort t.d_law_sort ["_law_state_here", "_law_way"] (sp_sort (w := w) (base := base) T) := by
  refine T.F_law_sort.ok sc_law_sort (fun vs H Q E h => ?_) (fun cdv A outer s H vs Q E hr h => ?_)
  · obtain ⟨a, wy, rfl, _⟩ := h
    rfl
  · obtain ⟨a, wy, rfl, ⟨hD, w0, w4⟩, k⟩ := h
    refine ⟨_, (pss_cons (ps_set (i := 2) sc_law_sort.nd rfl (Or.inl rfl) (pe_ix ix_list (pe_lst (pa_cons pe_int (pa_cons pe_int (pa_cons pe_int (pa_cons pe_int (pa_cons pe_int (pa_cons pe_int (pa_cons pe_int (pa_cons pe_int (pa_cons pe_int pa_nil)))))))))) (pe_call (ok_law_next T) (hr.mono (by decide)) rfl T.m_law_next T.F_law_next.kp T.b_law_next .nil pass0 (pa_cons (pv 0) (pa_cons pe_int pa_nil))) (fun _ _ => rfl))) (pss_one (ps_ret (pe_ix ix_list (pe_lst (pa_cons (pe_tup (pa_cons pe_str (pa_cons pe_int pa_nil))) (pa_cons (pe_tup (pa_cons pe_str (pa_cons (pv 2) pa_nil))) (pa_cons (pe_tup (pa_cons pe_str (pa_cons pe_int pa_nil))) (pa_cons (pe_tup (pa_cons pe_str (pa_cons pe_int pa_nil))) pa_nil))))) (pv 1) (fun _ _ => rfl))))), ?_⟩
    refine ⟨(by show 9 ≤ sizeLine; decide), fun l0 h0 => ?_⟩
    have e0 := same_upd (o := .lst ([2, 3, 5, 7, 11, 13, 101, 65537, 999983].map V.int)) h0
    have la : l0 ≠ a := fun e => by obtain ⟨xs, z⟩ := hD.lst; rw [← e, h0] at z; cases z
    refine ⟨_, rfl, a, 9, rfl, ⟨hD.same e0, by decide, by decide⟩, fun r H1 s1 d1 r0 r1 => ?_⟩
    obtain ⟨p, ap, hp⟩ := nine9 r0 r1
    refine ⟨_, _, _, _, rfl, rfl, SqL.of (s1 _ _ la upd_same), ap, ?_⟩
    have q1 : SameX a H H1 := (SameX.of e0).trans s1
    refine ⟨(by show 2 ≤ sizeLine; decide), fun p1 n1 => ⟨_, rfl, (by show 2 ≤ sizeLine; decide), fun p2 n2 => ⟨(by show 2 ≤ sizeLine; decide), fun p3 n3 => ⟨(by show 2 ≤ sizeLine; decide), fun p4 n4 => ⟨(by show 4 ≤ sizeLine; decide), fun l nl => ?_⟩⟩⟩⟩⟩
    have t1 := same_upd (o := .tup [.str "fractions", .int 0]) n1
    have t2 := same_upd (o := .tup [.str "residues", .int p]) n2
    have t3 := same_upd (o := .tup [.str "costs", .int 0]) n3
    have t4 := same_upd (o := .tup [.str "truths", .int 0]) n4
    have t5 := same_upd (o := .lst [V.ref p1, .ref p2, .ref p3, .ref p4]) nl
    have tt := (((t1.trans t2).trans t3).trans t4).trans t5
    have q2 := q1.trans (.of tt)
    have d2 := d1.same tt
    rcases (by omega : wy = 0 ∨ wy = 1 ∨ wy = 2 ∨ wy = 3) with rfl | rfl | rfl | rfl
    · exact ⟨_, rfl, _, _, _, _, rfl, rfl, SqL.of upd_same, rfl, k _ _ _ _ _ .fr ⟨p1, rfl, (((t2.trans t3).trans t4).trans t5) _ _ upd_same⟩ q2 d2⟩
    · exact ⟨_, rfl, _, _, _, _, rfl, rfl, SqL.of upd_same, rfl, k _ _ _ _ _ (.re p hp.1 hp.2.1 hp.2.2) ⟨p2, rfl, ((t3.trans t4).trans t5) _ _ upd_same⟩ q2 d2⟩
    · exact ⟨_, rfl, _, _, _, _, rfl, rfl, SqL.of upd_same, rfl, k _ _ _ _ _ .co ⟨p3, rfl, (t4.trans t5) _ _ upd_same⟩ q2 d2⟩
    · exact ⟨_, rfl, _, _, _, _, rfl, rfl, SqL.of upd_same, rfl, k _ _ _ _ _ .tr ⟨p4, rfl, t5 _ _ upd_same⟩ q2 d2⟩
def sp_kind (T : Txt K mg t) : Sp := fun vs H Q _ => ∃ (R : KindR Pr w K mg base), ∃ nm p so, So T R nm p ∧ vs = [so] ∧ SortAt H so nm p ∧ ∀ v H', Same H H' → KAt R.C R.fs H' v → Q v H'
theorem ok_law_kind (T : Txt K mg t) : FnOk Pr w K mg base CX0 4 t.law_kind t.d_law_kind ["_law_sort_here"] (sp_kind (w := w) (base := base) T) := by
  refine T.F_law_kind.ok sc_law_kind (fun vs H Q E h => ?_) (fun cdv A outer s H vs Q E hr h => ?_)
  · obtain ⟨R, nm, p, so, _, rfl, _⟩ := h
    rfl
  · obtain ⟨R, nm, p, so, hS, rfl, ⟨q, rfl, hq⟩, k⟩ := h
    refine ⟨_, (pss_cons (ps_if (pt_cmpR op_eq (pe_ix ix_tup (pv 0) pe_int (fun _ _ => rfl)) pe_str (nomark _)) (pss_one (ps_ret (pe_makeO T.M_Fractions rfl T.m_Fractions))) pss_nil) (pss_cons (ps_if (pt_cmpR op_eq (pe_ix ix_tup (pv 0) pe_int (fun _ _ => rfl)) pe_str (nomark _)) (pss_one (ps_ret (pe_make T.M_Residues (ok_Residues___init__ T) (hr.mono (by decide)) rfl T.m_Residues T.b_Residues___init__ .nil pass0 (pa_cons (pe_ix ix_tup (pv 0) pe_int (fun _ _ => rfl)) pa_nil)))) pss_nil) (pss_cons (ps_if (pt_cmpR op_eq (pe_ix ix_tup (pv 0) pe_int (fun _ _ => rfl)) pe_str (nomark _)) (pss_one (ps_ret (pe_makeO T.M_Costs rfl T.m_Costs))) pss_nil) (pss_one (ps_ret (pe_makeO T.M_Truths rfl T.m_Truths)))))), ?_⟩
    cases hS with
    | fr =>
      refine ⟨_, rfl, _, _, _, _, rfl, rfl, SqT.of hq, rfl, rfl, _, rfl, ?_⟩
      rw [show decide (V.str ("fractions" : Str) = V.str ("fractions" : Str)) = true by decide +kernel]
      refine iteT ?_
      intro x dx nx ndx nex
      exact k _ _ (same_made nx ndx) ⟨_, _, rfl, upd_same⟩
    | re p hp hq' hi =>
      refine ⟨_, rfl, _, _, _, _, rfl, rfl, SqT.of hq, rfl, rfl, _, rfl, ?_⟩
      rw [show decide (V.str ("residues" : Str) = V.str ("fractions" : Str)) = false by decide +kernel]
      refine iteF ?_
      refine ⟨_, rfl, _, _, _, _, rfl, rfl, SqT.of hq, rfl, rfl, _, rfl, ?_⟩
      rw [show decide (V.str ("residues" : Str) = V.str ("residues" : Str)) = true by decide +kernel]
      refine iteT ?_
      refine ⟨_, rfl, _, _, _, _, rfl, rfl, SqT.of hq, rfl, fun x dx nx ndx nex => ⟨x, dx, _, rfl, ⟨hp, hq', hi⟩, upd_same, rfl, ?_⟩⟩
      rw [upd_upd]
      exact k _ _ (same_made nx ndx) ⟨_, _, rfl, upd_same⟩
    | co =>
      refine ⟨_, rfl, _, _, _, _, rfl, rfl, SqT.of hq, rfl, rfl, _, rfl, ?_⟩
      rw [show decide (V.str ("costs" : Str) = V.str ("fractions" : Str)) = false by decide +kernel]
      refine iteF ?_
      refine ⟨_, rfl, _, _, _, _, rfl, rfl, SqT.of hq, rfl, rfl, _, rfl, ?_⟩
      rw [show decide (V.str ("costs" : Str) = V.str ("residues" : Str)) = false by decide +kernel]
      refine iteF ?_
      refine ⟨_, rfl, _, _, _, _, rfl, rfl, SqT.of hq, rfl, rfl, _, rfl, ?_⟩
      rw [show decide (V.str ("costs" : Str) = V.str ("costs" : Str)) = true by decide +kernel]
      refine iteT ?_
      intro x dx nx ndx nex
      exact k _ _ (same_made nx ndx) ⟨_, _, rfl, upd_same⟩
    | tr =>
      refine ⟨_, rfl, _, _, _, _, rfl, rfl, SqT.of hq, rfl, rfl, _, rfl, ?_⟩
      rw [show decide (V.str ("truths" : Str) = V.str ("fractions" : Str)) = false by decide +kernel]
      refine iteF ?_
      refine ⟨_, rfl, _, _, _, _, rfl, rfl, SqT.of hq, rfl, rfl, _, rfl, ?_⟩
      rw [show decide (V.str ("truths" : Str) = V.str ("residues" : Str)) = false by decide +kernel]
      refine iteF ?_
      refine ⟨_, rfl, _, _, _, _, rfl, rfl, SqT.of hq, rfl, rfl, _, rfl, ?_⟩
      rw [show decide (V.str ("truths" : Str) = V.str ("costs" : Str)) = false by decide +kernel]
      refine iteF ?_
      intro x dx nx ndx nex
      exact k _ _ (same_made nx ndx) ⟨_, _, rfl, upd_same⟩
theorem wt_m1 {i : Int} (h : i = 0 ∨ i = 1) : 0 < 4 + i * 10 ^ (12 : Int).toNat := by
  rw [show (10 : Int) ^ (12 : Int).toNat = 1000000000000 by decide]
  omega
theorem wt_m2 {i : Int} (h : i = 0 ∨ i = 1) : 4 + i * 10 ^ (12 : Int).toNat ≤ 1000000000000000 := by
  rw [show (10 : Int) ^ (12 : Int).toNat = 1000000000000 by decide]
  omega
theorem wt_m3 {i r : Int} (h : i = 0 ∨ i = 1) (b : r < 4 + i * 10 ^ (12 : Int).toNat) : r < 1000000000004 := by
  rw [show (10 : Int) ^ (12 : Int).toNat = 1000000000000 by decide] at b
  omega
theorem wt_z1 {f r : Int} (h : f.natAbs ≤ 10 ^ 26) (h0 : 0 ≤ r) (h1 : r < 9) : (f + r - 4).natAbs ≤ 2 ^ 90 := by
  have e1 : (10 : Nat) ^ 26 = 100000000000000000000000000 := by decide
  have e2 : (2 : Nat) ^ 90 = 1237940039285380274899124224 := by decide
  rw [e1] at h
  rw [e2]
  omega
theorem wt_z2 {r : Int} (h0 : 0 ≤ r) (h1 : r < 1000000000004) : (1 + r).natAbs ≤ 2 ^ 90 := by
  have e2 : (2 : Nat) ^ 90 = 1237940039285380274899124224 := by decide
  rw [e2]
  omega
theorem wt_far {r u : Int} (h0 : 0 ≤ r) (h1 : r < 10 ^ (13 : Int).toNat) (u0 : 0 ≤ u) (u1 : u < 2) : (r * 10 ^ (13 : Int).toNat * (1 - 2 * u)).natAbs ≤ 10 ^ 26 := by
  have e : (10 : Int) ^ (13 : Int).toNat = 10000000000000 := by decide
  have e1 : (10 : Nat) ^ 26 = 100000000000000000000000000 := by decide
  rw [e] at h1 ⊢
  rw [e1]
  rcases (by omega : u = 0 ∨ u = 1) with rfl | rfl <;> omega
def sp_lweight (T : Txt K mg t) : Sp := fun vs H Q _ => ∃ (R : KindR Pr w K mg base), ∃ nm p, ∃ (a : Addr), ∃ so g, So T R nm p ∧ vs = [.ref a, so, .bl g] ∧ (Dr H a ∧ SortAt H so nm p) ∧ ∀ v H' x, SameX a H H' → Dr H' a → R.is H' v x → R.S.sz 90 x → Q v H'
theorem ok_law_weight (T : Txt K mg t) : FnOk Pr w K mg base CX0 37 t.law_weight t.d_law_weight ["_law_state_here", "_law_sort_here", "_law_great"] (sp_lweight (w := w) (base := base) T) := by
  refine T.F_law_weight.ok sc_law_weight (fun vs H Q E h => ?_) (fun cdv A outer s H vs Q E hr h => ?_)
  · obtain ⟨R, nm, p, a, so, g, _, rfl, _⟩ := h
    rfl
  · obtain ⟨R, nm, p, a, so, g, hS, rfl, ⟨hD, ⟨q, rfl, hq⟩⟩, k⟩ := h
    refine ⟨_, (pss_cons (ps_if (pt_cmpR op_eq (pe_call (ok_law_next T) (hr.mono (by decide)) rfl T.m_law_next T.F_law_next.kp T.b_law_next .nil pass0 (pa_cons (pv 0) (pa_cons pe_int pa_nil))) pe_int (nomark _)) (pss_one (ps_ret (pe_call (ok_law_nought T) (hr.mono (by decide)) rfl T.m_law_nought T.F_law_nought.kp T.b_law_nought .nil pass0 (pa_cons (pv 1) pa_nil)))) pss_nil) (pss_cons (ps_set (i := 3) sc_law_weight.nd rfl (Or.inl rfl) pe_int) (pss_cons (ps_if (PW.pt (pw_and (pt_val (pv 2)) (pw_and1 (pt_cmpR op_eq (pe_call (ok_law_next T) (hr.mono (by decide)) rfl T.m_law_next T.F_law_next.kp T.b_law_next .nil pass0 (pa_cons (pv 0) (pa_cons pe_int pa_nil))) pe_int (nomark _))))) (pss_one (ps_set (i := 3) sc_law_weight.nd rfl (Or.inl rfl) (pe_op op_mul (pe_op op_mul (pe_call (ok_law_next T) (hr.mono (by decide)) rfl T.m_law_next T.F_law_next.kp T.b_law_next .nil pass0 (pa_cons (pv 0) (pa_cons (pe_op op_pow pe_int pe_int) pa_nil))) (pe_op op_pow pe_int pe_int)) (pe_op op_sub pe_int (pe_op op_mul pe_int (pe_call (ok_law_next T) (hr.mono (by decide)) rfl T.m_law_next T.F_law_next.kp T.b_law_next .nil pass0 (pa_cons (pv 0) (pa_cons pe_int pa_nil)))))))) pss_nil) (pss_cons (ps_if (pt_cmpR op_eq (pe_ix ix_tup (pv 1) pe_int (fun _ _ => rfl)) pe_str (nomark _)) (pss_one (ps_ret (pe_call (ok_law_low T) (hr.mono (by decide)) rfl T.m_law_low T.F_law_low.kp T.b_law_low .nil pass0 (pa_cons (pe_op op_sub (pe_op op_add (pv 3) (pe_call (ok_law_next T) (hr.mono (by decide)) rfl T.m_law_next T.F_law_next.kp T.b_law_next .nil pass0 (pa_cons (pv 0) (pa_cons pe_int pa_nil)))) pe_int) (pa_cons (pe_op op_add pe_int (pe_call (ok_law_next T) (hr.mono (by decide)) rfl T.m_law_next T.F_law_next.kp T.b_law_next .nil pass0 (pa_cons (pv 0) (pa_cons (pe_op op_add pe_int (pe_op op_mul (pe_callTy call_int1 (by rfl) T.z_int boot_int (pa_cons (pe_cmpR op_gt (pv 3) pe_int (nomark _)) pa_nil)) (pe_op op_pow pe_int pe_int))) pa_nil)))) pa_nil))))) pss_nil) (pss_cons (ps_if (pt_cmpR op_eq (pe_ix ix_tup (pv 1) pe_int (fun _ _ => rfl)) pe_str (nomark _)) (pss_one (ps_ret (pe_call (ok_law_next T) (hr.mono (by decide)) rfl T.m_law_next T.F_law_next.kp T.b_law_next .nil pass0 (pa_cons (pv 0) (pa_cons (pe_ix ix_tup (pv 1) pe_int (fun _ _ => rfl)) pa_nil))))) pss_nil) (pss_cons (ps_if (pt_cmpR op_eq (pe_ix ix_tup (pv 1) pe_int (fun _ _ => rfl)) pe_str (nomark _)) (pss_one (ps_ret (pe_op op_sub (pe_op op_add (pv 3) (pe_call (ok_law_next T) (hr.mono (by decide)) rfl T.m_law_next T.F_law_next.kp T.b_law_next .nil pass0 (pa_cons (pv 0) (pa_cons pe_int pa_nil)))) pe_int))) pss_nil) (pss_one (ps_ret (pe_cmpR op_eq (pe_call (ok_law_next T) (hr.mono (by decide)) rfl T.m_law_next T.F_law_next.kp T.b_law_next .nil pass0 (pa_cons (pv 0) (pa_cons pe_int pa_nil))) pe_int (nomark _)))))))))), ?_⟩
    refine ⟨_, rfl, a, 4, rfl, ⟨hD, by decide, by decide⟩, fun r0 H0 s0 d0 a0 b0 => ⟨rfl, _, rfl, ?_⟩⟩
    have hq0 := s0.tt hD _ _ hq
    refine iteI (fun _ => ?_) (fun _ => ?_)
    · refine ⟨_, rfl, R, nm, p, _, hS, rfl, ⟨q, rfl, hq0⟩, fun v H' s' f' => ?_⟩
      exact k v H' _ (s0.trans (.of s')) (d0.same s') f' (R.S.sz_mono 0 _ _ (by decide) R.S.sz_zero)
    · cases g with
      | false =>
        refine ⟨_, rfl, _, rfl, ?_⟩
        refine iteF ?_
        have q1 := s0
        have d1 := d0
        have hq1 := hq0
        cases hS with
        | fr =>
          refine ⟨_, rfl, _, _, _, _, rfl, rfl, SqT.of hq1, rfl, rfl, _, rfl, ?_⟩
          rw [show decide (V.str ("fractions" : Str) = V.str ("fractions" : Str)) = true by decide +kernel]
          refine iteT ?_
          refine ⟨_, rfl, _, rfl, a, 9, rfl, ⟨d1, by decide, by decide⟩, fun r2 H2 s2 d2 a2 b2 => ?_⟩
          have q2 := q1.trans s2
          refine ⟨_, _, rfl, rfl, _, _, rfl, rfl, _, rfl, _, rfl, _, _, rfl, rfl, .inr ⟨_, rfl, ?_⟩⟩
          have i01 : (if decide (0 < 0) = true then 1 else 0 : Int) = 0 ∨ (if decide (0 < 0) = true then 1 else 0 : Int) = 1 := by split <;> omega
          refine ⟨_, _, rfl, rfl, ⟨by decide, by decide, by decide⟩, _, _, rfl, rfl, .inl ⟨by omega, by omega⟩, _, _, rfl, rfl, a, _, rfl, ⟨d2, wt_m1 i01, wt_m2 i01⟩, fun r3 H3 s3 d3 a3 b3 => ?_⟩
          have q3 := q2.trans s3
          have wb := wt_m3 i01 b3
          refine ⟨_, _, rfl, rfl, _, _, rfl, (show (0 : Int) < 1 + r3 by omega), fun v H4 s4 f4 => ?_⟩
          exact k v H4 (Fr.of _ _ (show (0 : Int) < 1 + r3 by omega)) (q3.trans (.of s4)) (d3.same s4) f4 (of_sz (wt_z1 (by decide) a2 b2) (wt_z2 a3 wb))
        | re p hp hq' hi =>
          refine ⟨_, rfl, _, _, _, _, rfl, rfl, SqT.of hq1, rfl, rfl, _, rfl, ?_⟩
          rw [show decide (V.str ("residues" : Str) = V.str ("fractions" : Str)) = false by decide +kernel]
          refine iteF ?_
          refine ⟨_, rfl, _, _, _, _, rfl, rfl, SqT.of hq1, rfl, rfl, _, rfl, ?_⟩
          rw [show decide (V.str ("residues" : Str) = V.str ("residues" : Str)) = true by decide +kernel]
          refine iteT ?_
          refine ⟨_, rfl, _, rfl, _, _, _, _, rfl, rfl, SqT.of hq1, rfl, a, _, rfl, ⟨d1, by omega, by omega⟩, fun r2 H2 s2 d2 a2 b2 => ?_⟩
          exact k _ _ ⟨r2, a2, b2⟩ (q1.trans s2) d2 rfl trivial
        | co =>
          refine ⟨_, rfl, _, _, _, _, rfl, rfl, SqT.of hq1, rfl, rfl, _, rfl, ?_⟩
          rw [show decide (V.str ("costs" : Str) = V.str ("fractions" : Str)) = false by decide +kernel]
          refine iteF ?_
          refine ⟨_, rfl, _, _, _, _, rfl, rfl, SqT.of hq1, rfl, rfl, _, rfl, ?_⟩
          rw [show decide (V.str ("costs" : Str) = V.str ("residues" : Str)) = false by decide +kernel]
          refine iteF ?_
          refine ⟨_, rfl, _, _, _, _, rfl, rfl, SqT.of hq1, rfl, rfl, _, rfl, ?_⟩
          rw [show decide (V.str ("costs" : Str) = V.str ("costs" : Str)) = true by decide +kernel]
          refine iteT ?_
          refine ⟨_, rfl, _, rfl, a, 9, rfl, ⟨d1, by decide, by decide⟩, fun r2 H2 s2 d2 a2 b2 => ⟨_, _, rfl, rfl, _, _, rfl, rfl, ?_⟩⟩
          exact k _ _ (some (0 + r2 - 2)) (q1.trans s2) d2 rfl trivial
        | tr =>
          refine ⟨_, rfl, _, _, _, _, rfl, rfl, SqT.of hq1, rfl, rfl, _, rfl, ?_⟩
          rw [show decide (V.str ("truths" : Str) = V.str ("fractions" : Str)) = false by decide +kernel]
          refine iteF ?_
          refine ⟨_, rfl, _, _, _, _, rfl, rfl, SqT.of hq1, rfl, rfl, _, rfl, ?_⟩
          rw [show decide (V.str ("truths" : Str) = V.str ("residues" : Str)) = false by decide +kernel]
          refine iteF ?_
          refine ⟨_, rfl, _, _, _, _, rfl, rfl, SqT.of hq1, rfl, rfl, _, rfl, ?_⟩
          rw [show decide (V.str ("truths" : Str) = V.str ("costs" : Str)) = false by decide +kernel]
          refine iteF ?_
          refine ⟨_, rfl, a, 2, rfl, ⟨d1, by decide, by decide⟩, fun r2 H2 s2 d2 a2 b2 => ⟨rfl, ?_⟩⟩
          exact k _ _ (decide (V.int r2 = V.int 0)) (q1.trans s2) d2 rfl trivial
      | true =>
        refine ⟨_, rfl, _, rfl, ?_⟩
        refine iteT ?_
        refine ⟨_, rfl, a, 3, rfl, ⟨d0, by decide, by decide⟩, fun r9 H9 s9 d9 a9 b9 => ⟨rfl, _, rfl, ?_⟩⟩
        have hq9 := s9.tt d0 _ _ hq0
        refine iteI (fun _ => ?_) (fun _ => ?_)
        · refine ⟨_, rfl, _, _, rfl, rfl, ⟨by decide, by decide, by decide⟩, a, _, rfl, ⟨d9, by decide, by decide⟩, fun r8 H8 s8 d8 a8 b8 => ?_⟩
          have p13 : r8 < 10000000000000 := b8
          refine ⟨_, _, rfl, rfl, ⟨by decide, by decide, by decide⟩, _, _, rfl, rfl, .inl ⟨by omega, by omega⟩, ?_⟩
          refine ⟨_, rfl, a, 2, rfl, ⟨d8, by decide, by decide⟩, fun r7 H7 s7 d7 a7 b7 => ?_⟩
          have q1 := ((s0.trans s9).trans s8).trans s7
          have d1 := d7
          have hq1 := s7.tt d8 _ _ (s8.tt d9 _ _ hq9)
          have fb := wt_far a8 b8 a7 b7
          refine ⟨_, _, rfl, rfl, .inl ⟨by omega, by omega⟩, _, _, rfl, rfl, _, _, rfl, rfl, .inr ⟨by omega, by omega⟩, ?_⟩
          (try dsimp only)
          revert fb
          generalize r8 * 10 ^ (13 : Int).toNat * (1 - 2 * r7) = far
          intro fb
          cases hS with
          | fr =>
            refine ⟨_, rfl, _, _, _, _, rfl, rfl, SqT.of hq1, rfl, rfl, _, rfl, ?_⟩
            rw [show decide (V.str ("fractions" : Str) = V.str ("fractions" : Str)) = true by decide +kernel]
            refine iteT ?_
            refine ⟨_, rfl, _, rfl, a, 9, rfl, ⟨d1, by decide, by decide⟩, fun r2 H2 s2 d2 a2 b2 => ?_⟩
            have q2 := q1.trans s2
            refine ⟨_, _, rfl, rfl, _, _, rfl, rfl, _, rfl, _, rfl, _, _, rfl, rfl, .inr ⟨_, rfl, ?_⟩⟩
            have i01 : (if decide (0 < far) = true then 1 else 0 : Int) = 0 ∨ (if decide (0 < far) = true then 1 else 0 : Int) = 1 := by split <;> omega
            refine ⟨_, _, rfl, rfl, ⟨by decide, by decide, by decide⟩, _, _, rfl, rfl, .inl ⟨by omega, by omega⟩, _, _, rfl, rfl, a, _, rfl, ⟨d2, wt_m1 i01, wt_m2 i01⟩, fun r3 H3 s3 d3 a3 b3 => ?_⟩
            have q3 := q2.trans s3
            have wb := wt_m3 i01 b3
            refine ⟨_, _, rfl, rfl, _, _, rfl, (show (0 : Int) < 1 + r3 by omega), fun v H4 s4 f4 => ?_⟩
            exact k v H4 (Fr.of _ _ (show (0 : Int) < 1 + r3 by omega)) (q3.trans (.of s4)) (d3.same s4) f4 (of_sz (wt_z1 fb a2 b2) (wt_z2 a3 wb))
          | re p hp hq' hi =>
            refine ⟨_, rfl, _, _, _, _, rfl, rfl, SqT.of hq1, rfl, rfl, _, rfl, ?_⟩
            rw [show decide (V.str ("residues" : Str) = V.str ("fractions" : Str)) = false by decide +kernel]
            refine iteF ?_
            refine ⟨_, rfl, _, _, _, _, rfl, rfl, SqT.of hq1, rfl, rfl, _, rfl, ?_⟩
            rw [show decide (V.str ("residues" : Str) = V.str ("residues" : Str)) = true by decide +kernel]
            refine iteT ?_
            refine ⟨_, rfl, _, rfl, _, _, _, _, rfl, rfl, SqT.of hq1, rfl, a, _, rfl, ⟨d1, by omega, by omega⟩, fun r2 H2 s2 d2 a2 b2 => ?_⟩
            exact k _ _ ⟨r2, a2, b2⟩ (q1.trans s2) d2 rfl trivial
          | co =>
            refine ⟨_, rfl, _, _, _, _, rfl, rfl, SqT.of hq1, rfl, rfl, _, rfl, ?_⟩
            rw [show decide (V.str ("costs" : Str) = V.str ("fractions" : Str)) = false by decide +kernel]
            refine iteF ?_
            refine ⟨_, rfl, _, _, _, _, rfl, rfl, SqT.of hq1, rfl, rfl, _, rfl, ?_⟩
            rw [show decide (V.str ("costs" : Str) = V.str ("residues" : Str)) = false by decide +kernel]
            refine iteF ?_
            refine ⟨_, rfl, _, _, _, _, rfl, rfl, SqT.of hq1, rfl, rfl, _, rfl, ?_⟩
            rw [show decide (V.str ("costs" : Str) = V.str ("costs" : Str)) = true by decide +kernel]
            refine iteT ?_
            refine ⟨_, rfl, _, rfl, a, 9, rfl, ⟨d1, by decide, by decide⟩, fun r2 H2 s2 d2 a2 b2 => ⟨_, _, rfl, rfl, _, _, rfl, rfl, ?_⟩⟩
            exact k _ _ (some (far + r2 - 2)) (q1.trans s2) d2 rfl trivial
          | tr =>
            refine ⟨_, rfl, _, _, _, _, rfl, rfl, SqT.of hq1, rfl, rfl, _, rfl, ?_⟩
            rw [show decide (V.str ("truths" : Str) = V.str ("fractions" : Str)) = false by decide +kernel]
            refine iteF ?_
            refine ⟨_, rfl, _, _, _, _, rfl, rfl, SqT.of hq1, rfl, rfl, _, rfl, ?_⟩
            rw [show decide (V.str ("truths" : Str) = V.str ("residues" : Str)) = false by decide +kernel]
            refine iteF ?_
            refine ⟨_, rfl, _, _, _, _, rfl, rfl, SqT.of hq1, rfl, rfl, _, rfl, ?_⟩
            rw [show decide (V.str ("truths" : Str) = V.str ("costs" : Str)) = false by decide +kernel]
            refine iteF ?_
            refine ⟨_, rfl, a, 2, rfl, ⟨d1, by decide, by decide⟩, fun r2 H2 s2 d2 a2 b2 => ⟨rfl, ?_⟩⟩
            exact k _ _ (decide (V.int r2 = V.int 0)) (q1.trans s2) d2 rfl trivial
        · have q1 := s0.trans s9
          have d1 := d9
          have hq1 := hq9
          cases hS with
          | fr =>
            refine ⟨_, rfl, _, _, _, _, rfl, rfl, SqT.of hq1, rfl, rfl, _, rfl, ?_⟩
            rw [show decide (V.str ("fractions" : Str) = V.str ("fractions" : Str)) = true by decide +kernel]
            refine iteT ?_
            refine ⟨_, rfl, _, rfl, a, 9, rfl, ⟨d1, by decide, by decide⟩, fun r2 H2 s2 d2 a2 b2 => ?_⟩
            have q2 := q1.trans s2
            refine ⟨_, _, rfl, rfl, _, _, rfl, rfl, _, rfl, _, rfl, _, _, rfl, rfl, .inr ⟨_, rfl, ?_⟩⟩
            have i01 : (if decide (0 < 0) = true then 1 else 0 : Int) = 0 ∨ (if decide (0 < 0) = true then 1 else 0 : Int) = 1 := by split <;> omega
            refine ⟨_, _, rfl, rfl, ⟨by decide, by decide, by decide⟩, _, _, rfl, rfl, .inl ⟨by omega, by omega⟩, _, _, rfl, rfl, a, _, rfl, ⟨d2, wt_m1 i01, wt_m2 i01⟩, fun r3 H3 s3 d3 a3 b3 => ?_⟩
            have q3 := q2.trans s3
            have wb := wt_m3 i01 b3
            refine ⟨_, _, rfl, rfl, _, _, rfl, (show (0 : Int) < 1 + r3 by omega), fun v H4 s4 f4 => ?_⟩
            exact k v H4 (Fr.of _ _ (show (0 : Int) < 1 + r3 by omega)) (q3.trans (.of s4)) (d3.same s4) f4 (of_sz (wt_z1 (by decide) a2 b2) (wt_z2 a3 wb))
          | re p hp hq' hi =>
            refine ⟨_, rfl, _, _, _, _, rfl, rfl, SqT.of hq1, rfl, rfl, _, rfl, ?_⟩
            rw [show decide (V.str ("residues" : Str) = V.str ("fractions" : Str)) = false by decide +kernel]
            refine iteF ?_
            refine ⟨_, rfl, _, _, _, _, rfl, rfl, SqT.of hq1, rfl, rfl, _, rfl, ?_⟩
            rw [show decide (V.str ("residues" : Str) = V.str ("residues" : Str)) = true by decide +kernel]
            refine iteT ?_
            refine ⟨_, rfl, _, rfl, _, _, _, _, rfl, rfl, SqT.of hq1, rfl, a, _, rfl, ⟨d1, by omega, by omega⟩, fun r2 H2 s2 d2 a2 b2 => ?_⟩
            exact k _ _ ⟨r2, a2, b2⟩ (q1.trans s2) d2 rfl trivial
          | co =>
            refine ⟨_, rfl, _, _, _, _, rfl, rfl, SqT.of hq1, rfl, rfl, _, rfl, ?_⟩
            rw [show decide (V.str ("costs" : Str) = V.str ("fractions" : Str)) = false by decide +kernel]
            refine iteF ?_
            refine ⟨_, rfl, _, _, _, _, rfl, rfl, SqT.of hq1, rfl, rfl, _, rfl, ?_⟩
            rw [show decide (V.str ("costs" : Str) = V.str ("residues" : Str)) = false by decide +kernel]
            refine iteF ?_
            refine ⟨_, rfl, _, _, _, _, rfl, rfl, SqT.of hq1, rfl, rfl, _, rfl, ?_⟩
            rw [show decide (V.str ("costs" : Str) = V.str ("costs" : Str)) = true by decide +kernel]
            refine iteT ?_
            refine ⟨_, rfl, _, rfl, a, 9, rfl, ⟨d1, by decide, by decide⟩, fun r2 H2 s2 d2 a2 b2 => ⟨_, _, rfl, rfl, _, _, rfl, rfl, ?_⟩⟩
            exact k _ _ (some (0 + r2 - 2)) (q1.trans s2) d2 rfl trivial
          | tr =>
            refine ⟨_, rfl, _, _, _, _, rfl, rfl, SqT.of hq1, rfl, rfl, _, rfl, ?_⟩
            rw [show decide (V.str ("truths" : Str) = V.str ("fractions" : Str)) = false by decide +kernel]
            refine iteF ?_
            refine ⟨_, rfl, _, _, _, _, rfl, rfl, SqT.of hq1, rfl, rfl, _, rfl, ?_⟩
            rw [show decide (V.str ("truths" : Str) = V.str ("residues" : Str)) = false by decide +kernel]
            refine iteF ?_
            refine ⟨_, rfl, _, _, _, _, rfl, rfl, SqT.of hq1, rfl, rfl, _, rfl, ?_⟩
            rw [show decide (V.str ("truths" : Str) = V.str ("costs" : Str)) = false by decide +kernel]
            refine iteF ?_
            refine ⟨_, rfl, a, 2, rfl, ⟨d1, by decide, by decide⟩, fun r2 H2 s2 d2 a2 b2 => ⟨rfl, ?_⟩⟩
            exact k _ _ (decide (V.int r2 = V.int 0)) (q1.trans s2) d2 rfl trivial
--MARK2
/-! rows and tables drawn -/
def put (S : SR) (x : Nat → S.W) (i : Nat) (b : S.W) : Nat → S.W := fun j => if j = i then b else x j
def putT (S : SR) (x : Nat → Nat → S.W) (i : Nat) (b : Nat → S.W) : Nat → Nat → S.W := fun j => if j = i then b else x j
theorem put_at {S : SR} (x : Nat → S.W) (i : Nat) (b : S.W) : put S x i b i = b := if_pos rfl
theorem put_ne {S : SR} (x : Nat → S.W) {i j : Nat} (b : S.W) (h : j < i) : put S x i b j = x j := if_neg (Nat.ne_of_lt h)
theorem putT_at {S : SR} (x : Nat → Nat → S.W) (i : Nat) (b : Nat → S.W) : putT S x i b i = b := if_pos rfl
theorem putT_ne {S : SR} (x : Nat → Nat → S.W) {i j : Nat} (b : Nat → S.W) (h : j < i) : putT S x i b j = x j := if_neg (Nat.ne_of_lt h)
def sp_line (T : Txt K mg t) : Sp := fun vs H Q _ => ∃ (R : KindR Pr w K mg base), ∃ nm p, ∃ (a : Addr), ∃ so, ∃ (n : Nat), ∃ (z : Int), ∃ g, So T R nm p ∧ vs = [.ref a, so, .int z, .bl g] ∧ (Dr H a ∧ SortAt H so nm p ∧ n ≤ 1000 ∧ z = n) ∧ ∀ v H' x, SameX a H H' → Dr H' a → R.Row n x 90 v H' → Q v H'
theorem ok_law_line (T : Txt K mg t) : FnOk Pr w K mg base CX0 38 t.law_line t.d_law_line ["_law_state_here", "_law_sort_here", "_law_many", "_law_great"] (sp_line (w := w) (base := base) T) := by
  refine T.F_law_line.ok sc_law_line (fun vs H Q E h => ?_) (fun cdv A outer s H vs Q E hr h => ?_)
  · obtain ⟨R, nm, p, a, so, n, z, g, _, rfl, _⟩ := h
    rfl
  · obtain ⟨R, nm, p, a, so, n, z, g, hS, rfl, ⟨hD, hso, hn, rfl⟩, k⟩ := h
    refine ⟨_, (pss_one (ps_ret (pe_callTy call_tuple_of (by rfl) T.z_tuple boot_tuple (pa_cons (pe_comp (xs := ["_law_k"]) rfl (show CompOk ["_law_state_here", "_law_sort_here", "_law_many", "_law_great"] (defScope s_law_line) _ from ⟨rfl, by decide +kernel, by decide +kernel, by decide +kernel, by decide +kernel, by decide +kernel⟩) (pi_range1 rfl T.z_range (pa_cons (pv 2) pa_nil)) (fun _ _ _ _ _ => (pg_name (i := 4) (by show List.Nodup (["_law_state_here", "_law_sort_here", "_law_many", "_law_great", "_law_k"] : List Str); decide +kernel) rfl (Or.inl rfl))) (fun _ _ _ _ _ => (pe_call (ok_law_weight (w := w) (base := base) T) (hr.mono (by decide)) rfl T.m_law_weight T.F_law_weight.kp T.b_law_weight .nil pass0 (pa_cons (pv 0) (pa_cons (pv 1) (pa_cons (pv 3) pa_nil)))))) pa_nil)))), ?_⟩
    refine ⟨_, rfl, _, rfl, (by omega), (by omega), comp_go (n := n) (fun j ys H2 => ∃ x, SameX a H H2 ∧ Dr H2 a ∧ Ents (R.Wt x 90) ys j H2) hn ⟨fun _ => R.S.zero, SameX.refl _ _, hD, Ents.nil⟩ (fun j ys H2 ⟨_, _, _, q⟩ => q.1) ?_ ?_ ?_⟩
    · rintro j ys H2 hj ⟨x, q, d2, e⟩
      refine ⟨(show j < (n : Int).toNat by omega), fun y H' hy => ?_⟩
      obtain ⟨rfl, rfl⟩ := hy
      refine ⟨⟨[some _], rfl, rfl⟩, _, rfl, _, rfl, _, rfl, R, nm, p, a, so, g, hS, rfl, ⟨d2, hso.same (q.tt hD)⟩, fun v H3 b s3 d3 f3 z3 => ?_⟩
      refine ⟨put R.S x j b, q.trans s3, d3, (e.mono fun i u hi w' => ?_).snoc ⟨by rw [put_at]; exact f3, by rw [put_at]; exact z3⟩⟩
      have w1 := KindR.Wt.same (s3.tt d2) w'
      exact ⟨by rw [put_ne _ _ hi]; exact w1.1, by rw [put_ne _ _ hi]; exact w1.2⟩
    · rintro ys H2 ⟨x, q, d2, e⟩
      show (n : Int).toNat ≤ n
      omega
    · rintro ys H2 l ⟨x, q, d2, e⟩ nl
      have s1 := same_upd (o := .lst ys) nl
      refine ⟨l, ys, rfl, .inl ⟨SqL.of upd_same, fun l2 n2 => ?_⟩⟩
      have s2 := same_upd (o := .tup ys) n2
      have s12 := s1.trans s2
      exact k _ _ x (q.trans (.of s12)) (d2.same s12) ⟨l2, ys, rfl, upd_same, e.mono fun _ _ _ w' => KindR.Wt.same s12.t w'⟩
def sp_ltable (T : Txt K mg t) : Sp := fun vs H Q _ => ∃ (R : KindR Pr w K mg base), ∃ nm p, ∃ (a : Addr), ∃ so, ∃ (h n : Nat), ∃ (zh zn : Int), ∃ g, So T R nm p ∧ vs = [.ref a, so, .int zh, .int zn, .bl g] ∧ (Dr H a ∧ SortAt H so nm p ∧ h ≤ 1000 ∧ n ≤ 1000 ∧ zh = h ∧ zn = n) ∧ ∀ v H' x, SameX a H H' → Dr H' a → R.Tab h n x 90 v H' → Q v H'
theorem ok_law_table (T : Txt K mg t) : FnOk Pr w K mg base CX0 39 t.law_table t.d_law_table ["_law_state_here", "_law_sort_here", "_law_high", "_law_wide", "_law_great"] (sp_ltable (w := w) (base := base) T) := by
  refine T.F_law_table.ok sc_law_table (fun vs H Q E h => ?_) (fun cdv A outer s H vs Q E hr h => ?_)
  · obtain ⟨R, nm, p, a, so, h, n, zh, zn, g, _, rfl, _⟩ := h
    rfl
  · obtain ⟨R, nm, p, a, so, h, n, zh, zn, g, hS, rfl, ⟨hD, hso, hh, hn, rfl, rfl⟩, k⟩ := h
    refine ⟨_, (pss_one (ps_ret (pe_callTy call_tuple_of (by rfl) T.z_tuple boot_tuple (pa_cons (pe_comp (xs := ["_law_k"]) rfl (show CompOk ["_law_state_here", "_law_sort_here", "_law_high", "_law_wide", "_law_great"] (defScope s_law_table) _ from ⟨rfl, by decide +kernel, by decide +kernel, by decide +kernel, by decide +kernel, by decide +kernel⟩) (pi_range1 rfl T.z_range (pa_cons (pv 2) pa_nil)) (fun _ _ _ _ _ => (pg_name (i := 5) (by show List.Nodup (["_law_state_here", "_law_sort_here", "_law_high", "_law_wide", "_law_great", "_law_k"] : List Str); decide +kernel) rfl (Or.inl rfl))) (fun _ _ _ _ _ => (pe_call (ok_law_line (w := w) (base := base) T) (hr.mono (by decide)) rfl T.m_law_line T.F_law_line.kp T.b_law_line .nil pass0 (pa_cons (pv 0) (pa_cons (pv 1) (pa_cons (pv 3) (pa_cons (pv 4) pa_nil))))))) pa_nil)))), ?_⟩
    refine ⟨_, rfl, _, rfl, (by omega), (by omega), comp_go (n := h) (fun j ys H2 => ∃ x, SameX a H H2 ∧ Dr H2 a ∧ Ents (fun j u H => R.Row n (x j) 90 u H) ys j H2) hh ⟨fun _ _ => R.S.zero, SameX.refl _ _, hD, Ents.nil⟩ (fun j ys H2 ⟨_, _, _, q⟩ => q.1) ?_ ?_ ?_⟩
    · rintro j ys H2 hj ⟨x, q, d2, e⟩
      refine ⟨(show j < (h : Int).toNat by omega), fun y H' hy => ?_⟩
      obtain ⟨rfl, rfl⟩ := hy
      refine ⟨⟨[some _], rfl, rfl⟩, _, rfl, _, rfl, _, rfl, _, rfl, R, nm, p, a, so, n, _, g, hS, rfl, ⟨d2, hso.same (q.tt hD), hn, rfl⟩, fun v H3 b s3 d3 r3 => ?_⟩
      refine ⟨putT R.S x j b, q.trans s3, d3, (e.mono fun i u hi w' => ?_).snoc (by rw [putT_at]; exact r3)⟩
      have w1 := KindR.Row.same (s3.tt d2) w'
      rw [putT_ne _ _ hi]
      exact w1
    · rintro ys H2 ⟨x, q, d2, e⟩
      show (h : Int).toNat ≤ h
      omega
    · rintro ys H2 l ⟨x, q, d2, e⟩ nl
      have s1 := same_upd (o := .lst ys) nl
      refine ⟨l, ys, rfl, .inl ⟨SqL.of upd_same, fun l2 n2 => ?_⟩⟩
      have s2 := same_upd (o := .tup ys) n2
      have s12 := s1.trans s2
      exact k _ _ x (q.trans (.of s12)) (d2.same s12) ⟨l2, ys, rfl, upd_same, e.mono fun _ _ _ w' => KindR.Row.same s12.t w'⟩
def sp_ldot (T : Txt K mg t) : Sp := fun vs H Q _ => ∃ (R : KindR Pr w K mg base), ∃ nm p so row col n x y m m', So T R nm p ∧ vs = [so, row, col] ∧ (SortAt H so nm p ∧ R.Seq n x m row H ∧ R.Seq n y m' col H ∧ n * (m + m' + 1) ≤ 30000000) ∧
  ∀ v H', Same H H' → R.is H' v (dotW R.S x y n) → R.S.sz (n * (m + m' + 1)) (dotW R.S x y n) → Q v H'
theorem ok_law_dot (T : Txt K mg t) : FnOk Pr w K mg base CX0 41 t.law_dot t.d_law_dot ["_law_sort_here", "_law_row", "_law_column"] (sp_ldot (w := w) (base := base) T) := by
  refine T.F_law_dot.ok sc_law_dot (fun vs H Q E h => ?_) (fun cdv A outer s H vs Q E hr h => ?_)
  · obtain ⟨R, nm, p, so, row, col, n, x, y, m, m', _, rfl, _⟩ := h
    rfl
  · obtain ⟨R, nm, pp, so, row, col, n, x, y, m, m', hS, rfl, ⟨hso, ⟨S1, xs, o1, v1, w1, e1⟩, ⟨S2, ys, o2, v2, w2, e2⟩, hz⟩, k⟩ := h
    refine ⟨_, (pss_cons (ps_set (i := 3) sc_law_dot.nd rfl (Or.inl rfl) (pe_call (ok_law_nought T) (hr.mono (by decide)) rfl T.m_law_nought T.F_law_nought.kp T.b_law_nought .nil pass0 (pa_cons (pv 0) pa_nil))) (pss_cons (ps_for PassesOwn.never rfl (pi_zip rfl T.z_zip (pa_cons (pv 1) (pa_cons (pv 2) pa_nil))) (pg_tup rfl (pgs_cons (pg_name (i := 4) sc_law_dot.nd rfl (Or.inl rfl)) (pgs_cons (pg_name (i := 5) sc_law_dot.nd rfl (Or.inl rfl)) pgs_nil))) (pss_one (ps_set (i := 3) sc_law_dot.nd rfl (Or.inl rfl) (pe_call (ok_law_plus T) (hr.mono (by decide)) rfl T.m_law_plus T.F_law_plus.kp T.b_law_plus .nil pass0 (pa_cons (pv 0) (pa_cons (pv 3) (pa_cons (pe_call (ok_law_times T) (hr.mono (by decide)) rfl T.m_law_times T.F_law_times.kp T.b_law_times .nil pass0 (pa_cons (pv 0) (pa_cons (pv 4) (pa_cons (pv 5) pa_nil)))) pa_nil))))))) (pss_one (ps_ret (pv 3))))), ?_⟩
    refine ⟨_, rfl, R, nm, pp, _, hS, rfl, hso, fun z H1 s1 f1 => ?_⟩
    refine ⟨_, rfl, _, rfl, S1, S2, _, _, xs, ys, rfl, o1, o2, (w1 _ s1).1, (w2 _ s1).1, for_zip (K := K) (xs := xs) (ys := ys) (fun i σ H2 => ∃ tot v4 v5, σ = [some so, some row, some col, some tot, v4, v5] ∧ Same H H2 ∧ R.is H2 tot (dotW R.S x y i)) (by rw [e1.1, e2.1]) ⟨_, _, _, rfl, s1, f1⟩ (fun i σ H2 _ ⟨_, _, _, _, q, _⟩ => ⟨(w1 _ q).1, (w2 _ q).1⟩) ?_ ?_⟩
    · rintro i u v p σ H2 hu hv np ⟨tot, v4, v5, rfl, q, f⟩
      obtain ⟨hi, pu⟩ := e1.at hu
      obtain ⟨_, pv⟩ := e2.at hv
      have sp := same_upd (o := .tup [u, v]) np
      have q2 := q.trans sp
      have b := fits hi hz
      refine ⟨p, _, rfl, SqT.of upd_same, rfl, _, _, rfl, _, _, rfl, rfl, ?_⟩
      refine ⟨_, rfl, _, rfl, _, rfl, _, rfl, _, rfl, R, nm, pp, _, _, _, _, _, m, m', hS, rfl, ⟨hso.same q2.t, R.same q2.t pu.1, R.same q2.t pv.1, pu.2, pv.2, b.2⟩, fun pr H3 s3 f3 => ?_⟩
      have q3 := q2.trans s3
      refine ⟨R, nm, pp, _, _, _, _, _, i * (m + m' + 1), m + m', hS, rfl, ⟨hso.same q3.t, R.same (sp.trans s3).t f, f3, dot_sz (fun j hj => wt_sz e1 j (Nat.lt_trans hj hi)) (fun j hj => wt_sz e2 j (Nat.lt_trans hj hi)), R.S.sz_mul _ _ _ _ pu.2 pv.2, b.1⟩, fun tt H4 s4 f4 => ?_⟩
      exact ⟨_, _, _, rfl, q3.trans s4, f4⟩
    · rintro σ H2 ⟨tot, v4, v5, rfl, q, f⟩
      rw [e1.1] at f
      exact ⟨_, rfl, k _ _ q f (dot_sz (wt_sz e1) (wt_sz e2))⟩
/-! held against one another -/
def sp_same (T : Txt K mg t) : Sp := fun vs H Q _ => ∃ (R : KindR Pr w K mg base), ∃ nm p so u v a, So T R nm p ∧ vs = [so, u, v] ∧ (SortAt H so nm p ∧ R.is H u a ∧ R.is H v a) ∧ Q (.bl true) H
theorem ok_law_same (T : Txt K mg t) : FnOk Pr w K mg base CX0 1 t.law_same t.d_law_same ["_law_sort_here", "_law_found", "_law_due"] (sp_same (w := w) (base := base) T) := by
  refine T.F_law_same.ok sc_law_same (fun vs H Q E h => ?_) (fun cdv A outer s H vs Q E hr h => ?_)
  · obtain ⟨R, nm, p, so, u, v, a, _, rfl, _⟩ := h
    rfl
  · obtain ⟨R, nm, p, so, u, v, a, hS, rfl, ⟨⟨q, rfl, hq⟩, hu, hv⟩, k⟩ := h
    refine ⟨_, (pss_cons (ps_if (pt_cmpR op_eq (pe_ix ix_tup (pv 0) pe_int (fun _ _ => rfl)) pe_str (nomark _)) (pss_one (ps_ret (pe_and (pe_callB call_isi (by rfl) T.z_isinstance boot_isinstance (pa_cons (pv 1) (pa_cons (pe_bltn (v := .ty "bool") rfl T.z_bool boot_bool rfl) pa_nil))) (pe_one (pe_cmpR (op_eqD hr.units) (pv 1) (pv 2) (nomark _)))))) pss_nil) (pss_cons (ps_if (PW.pt (pw_or (pt_cmpR op_isN (pv 2) pe_non (nomark _)) (pw_or1 (pt_cmpR op_isN (pv 1) pe_non (nomark _))))) (pss_one (ps_ret (pe_and (pe_cmpR op_isN (pv 2) pe_non (nomark _)) (pe_one (pe_cmpR op_isN (pv 1) pe_non (nomark _)))))) pss_nil) (pss_cons (ps_if (pt_cmpR op_eq (pe_ix ix_tup (pv 0) pe_int (fun _ _ => rfl)) pe_str (nomark _)) (pss_cons (ps_if (PW.pt (pw_or (pt_not (pt_val (pe_callB call_isi (by rfl) T.z_isinstance boot_isinstance (pa_cons (pv 1) (pa_cons (pe_bltn (v := .ty "tuple") rfl T.z_tuple boot_tuple rfl) pa_nil))))) (pw_or (pt_cmpR op_ne (pe_callB call_len (by rfl) T.z_len PySem.boot_len (pa_cons (pv 1) pa_nil)) pe_int (nomark _)) (pw_or (pt_val (pe_callB call_isi (by rfl) T.z_isinstance boot_isinstance (pa_cons (pe_ix ix_tup (pv 1) pe_int (fun _ _ => rfl)) (pa_cons (pe_bltn (v := .ty "bool") rfl T.z_bool boot_bool rfl) pa_nil)))) (pw_or1 (pt_val (pe_callB call_isi (by rfl) T.z_isinstance boot_isinstance (pa_cons (pe_ix ix_tup (pv 1) pe_int (fun _ _ => rfl)) (pa_cons (pe_bltn (v := .ty "bool") rfl T.z_bool boot_bool rfl) pa_nil))))))))) (pss_one (ps_ret pe_bl)) pss_nil) (pss_one (ps_ret (pe_and (pe_callB call_isi (by rfl) T.z_isinstance boot_isinstance (pa_cons (pe_ix ix_tup (pv 1) pe_int (fun _ _ => rfl)) (pa_cons (pe_bltn (v := .ty "int") rfl T.z_int boot_int rfl) pa_nil))) (pe_and (pe_callB call_isi (by rfl) T.z_isinstance boot_isinstance (pa_cons (pe_ix ix_tup (pv 1) pe_int (fun _ _ => rfl)) (pa_cons (pe_bltn (v := .ty "int") rfl T.z_int boot_int rfl) pa_nil))) (pe_one (pe_cmpR (op_eqD hr.units) (pv 1) (pv 2) (nomark _)))))))) pss_nil) (pss_one (ps_ret (pe_and (pe_callB call_isi (by rfl) T.z_isinstance boot_isinstance (pa_cons (pv 1) (pa_cons (pe_bltn (v := .ty "int") rfl T.z_int boot_int rfl) pa_nil))) (pe_and (pe_not (pe_callB call_isi (by rfl) T.z_isinstance boot_isinstance (pa_cons (pv 1) (pa_cons (pe_bltn (v := .ty "bool") rfl T.z_bool boot_bool rfl) pa_nil)))) (pe_one (pe_cmpR (op_eqD hr.units) (pv 1) (pv 2) (nomark _)))))))))), ?_⟩
    cases hS with
    | tr =>
      refine ⟨_, rfl, _, _, _, _, rfl, rfl, SqT.of hq, rfl, rfl, _, rfl, ?_⟩
      rw [show decide (V.str ("truths" : Str) = V.str ("truths" : Str)) = true by decide +kernel]
      refine iteT ?_
      have hu' := hu
      cases (show u = .bl a from hu)
      refine ⟨_, rfl, _, _, _, _, rfl, TyOf.bl _, T.k_bb, _, rfl, ?_⟩
      refine iteT ?_
      exact ⟨_, rfl, _, rfl, (R_tr (w := w) (base := base) T).eqD hu' hv rfl k⟩
    | fr =>
      have hu' := hu
      have hv' := hv
      obtain ⟨pu, rfl, hu⟩ := hu
      obtain ⟨pv, rfl, hv⟩ := hv
      have hl : LenV K (.ref pu) H 2 := .inr ⟨_, SqT.of hu, rfl⟩
      refine ⟨_, rfl, _, _, _, _, rfl, rfl, SqT.of hq, rfl, rfl, _, rfl, ?_⟩
      rw [show decide (V.str ("fractions" : Str) = V.str ("truths" : Str)) = false by decide +kernel]
      refine iteF ?_
      refine ⟨_, rfl, rfl, _, rfl, ?_⟩
      refine iteF ?_
      refine ⟨_, rfl, rfl, _, rfl, ?_⟩
      (try refine iteF ?_)
      (try refine iteF ?_)
      refine ⟨_, rfl, _, _, _, _, rfl, rfl, SqT.of hq, rfl, rfl, _, rfl, ?_⟩
      rw [show decide (V.str ("fractions" : Str) = V.str ("fractions" : Str)) = true by decide +kernel]
      refine iteT ?_
      refine ⟨_, rfl, _, _, _, _, rfl, TyOf.tup hu, T.k_tt, _, rfl, ?_⟩
      (try refine iteF ?_)
      refine ⟨_, rfl, _, _, rfl, hl, rfl, _, rfl, ?_⟩
      (try dsimp only)
      refine iteNI (fun ne => absurd rfl ne) (fun _ => ?_)
      refine ⟨_, rfl, _, _, _, _, rfl, rfl, SqT.of hu, rfl, _, _, _, _, rfl, TyOf.int _, T.k_ib, _, rfl, ?_⟩
      refine iteF ?_
      refine ⟨_, rfl, _, _, _, _, rfl, rfl, SqT.of hu, rfl, _, _, _, _, rfl, TyOf.int _, T.k_ib, _, rfl, ?_⟩
      (try refine iteF ?_)
      (try refine iteF ?_)
      refine ⟨_, rfl, _, _, _, _, rfl, rfl, SqT.of hu, rfl, _, _, _, _, rfl, TyOf.int _, T.k_ii, _, rfl, ?_⟩
      refine iteT ?_
      refine ⟨_, rfl, _, _, _, _, rfl, rfl, SqT.of hu, rfl, _, _, _, _, rfl, TyOf.int _, T.k_ii, _, rfl, ?_⟩
      refine iteT ?_
      exact ⟨_, rfl, _, rfl, (R_fr (w := w) (base := base) T).eqD hu' hv' rfl k⟩
    | re p hp hq' hi =>
      have hu' := hu
      have hv' := hv
      cases (show u = .int a.x from hu)
      cases (show v = .int a.x from hv)
      refine ⟨_, rfl, _, _, _, _, rfl, rfl, SqT.of hq, rfl, rfl, _, rfl, ?_⟩
      rw [show decide (V.str ("residues" : Str) = V.str ("truths" : Str)) = false by decide +kernel]
      refine iteF ?_
      refine ⟨_, rfl, rfl, _, rfl, ?_⟩
      refine iteF ?_
      refine ⟨_, rfl, rfl, _, rfl, ?_⟩
      (try refine iteF ?_)
      (try refine iteF ?_)
      refine ⟨_, rfl, _, _, _, _, rfl, rfl, SqT.of hq, rfl, rfl, _, rfl, ?_⟩
      rw [show decide (V.str ("residues" : Str) = V.str ("fractions" : Str)) = false by decide +kernel]
      refine iteF ?_
      refine ⟨_, rfl, _, _, _, _, rfl, TyOf.int _, T.k_ii, _, rfl, ?_⟩
      refine iteT ?_
      refine ⟨_, rfl, _, _, _, _, rfl, TyOf.int _, T.k_ib, _, rfl, ?_⟩
      refine ⟨_, rfl, ?_⟩
      refine iteT ?_
      exact ⟨_, rfl, _, rfl, (R_re (w := w) (base := base) T p hp hq').eqD hu' hv' rfl k⟩
    | co =>
      have hu' := hu
      have hv' := hv
      cases (show u = cV a from hu)
      cases (show v = cV a from hv)
      refine ⟨_, rfl, _, _, _, _, rfl, rfl, SqT.of hq, rfl, rfl, _, rfl, ?_⟩
      rw [show decide (V.str ("costs" : Str) = V.str ("truths" : Str)) = false by decide +kernel]
      refine iteF ?_
      cases a with
      | none =>
        refine ⟨_, rfl, rfl, _, rfl, ?_⟩
        refine iteT ?_
        (try refine iteT ?_)
        refine ⟨_, rfl, rfl, _, rfl, ?_⟩
        refine iteT ?_
        exact ⟨_, rfl, rfl, k⟩
      | some i =>
        refine ⟨_, rfl, rfl, _, rfl, ?_⟩
        refine iteF ?_
        refine ⟨_, rfl, rfl, _, rfl, ?_⟩
        (try refine iteF ?_)
        (try refine iteF ?_)
        refine ⟨_, rfl, _, _, _, _, rfl, rfl, SqT.of hq, rfl, rfl, _, rfl, ?_⟩
        rw [show decide (V.str ("costs" : Str) = V.str ("fractions" : Str)) = false by decide +kernel]
        refine iteF ?_
        refine ⟨_, rfl, _, _, _, _, rfl, TyOf.int _, T.k_ii, _, rfl, ?_⟩
        refine iteT ?_
        refine ⟨_, rfl, _, _, _, _, rfl, TyOf.int _, T.k_ib, _, rfl, ?_⟩
        refine ⟨_, rfl, ?_⟩
        refine iteT ?_
        exact ⟨_, rfl, _, rfl, (R_co (w := w) (base := base) T).eqD hu' hv' rfl k⟩
def sp_allsame (T : Txt K mg t) : Sp := fun vs H Q _ => ∃ (R : KindR Pr w K mg base), ∃ nm p so u v n x m m', So T R nm p ∧ vs = [so, u, v] ∧ (SortAt H so nm p ∧ R.Row n x m u H ∧ R.Seq n x m' v H) ∧ ∀ H', Same H H' → Q (.bl true) H'
theorem ok_law_all_same (T : Txt K mg t) : FnOk Pr w K mg base CX0 2 t.law_all_same t.d_law_all_same ["_law_sort_here", "_law_found", "_law_due"] (sp_allsame (w := w) (base := base) T) := by
  refine T.F_law_all_same.ok sc_law_all_same (fun vs H Q E h => ?_) (fun cdv A outer s H vs Q E hr h => ?_)
  · obtain ⟨R, nm, p, so, u, v, n, x, m, m', _, rfl, _⟩ := h
    rfl
  · obtain ⟨R, nm, pp, so, u, v, n, x, m, m', hS, rfl, ⟨hso, hu, hv⟩, k⟩ := h
    have lu := hu.len (K := K)
    have lv := hv.len
    obtain ⟨pu, us, rfl, hpu, e1⟩ := hu
    obtain ⟨S2, ys, o2, v2, w2, e2⟩ := hv
    refine ⟨_, (pss_cons (ps_if (PW.pt (pw_or (pt_not (pt_val (pe_callB call_isi (by rfl) T.z_isinstance boot_isinstance (pa_cons (pv 1) (pa_cons (pe_bltn (v := .ty "tuple") rfl T.z_tuple boot_tuple rfl) pa_nil))))) (pw_or1 (pt_cmpR op_ne (pe_callB call_len (by rfl) T.z_len PySem.boot_len (pa_cons (pv 1) pa_nil)) (pe_callB call_len (by rfl) T.z_len PySem.boot_len (pa_cons (pv 2) pa_nil)) (nomark _))))) (pss_one (ps_ret pe_bl)) pss_nil) (pss_cons (ps_for PassesOwn.never rfl (pi_zip rfl T.z_zip (pa_cons (pv 1) (pa_cons (pv 2) pa_nil))) (pg_tup rfl (pgs_cons (pg_name (i := 3) sc_law_all_same.nd rfl (Or.inl rfl)) (pgs_cons (pg_name (i := 4) sc_law_all_same.nd rfl (Or.inl rfl)) pgs_nil))) (pss_one (ps_if (pt_not (pt_val (pe_call (ok_law_same T) (hr.mono (by decide)) rfl T.m_law_same T.F_law_same.kp T.b_law_same .nil pass0 (pa_cons (pv 0) (pa_cons (pv 3) (pa_cons (pv 4) pa_nil)))))) (pss_one (ps_ret pe_bl)) pss_nil))) (pss_one (ps_ret pe_bl)))), ?_⟩
    refine ⟨_, rfl, _, _, _, _, rfl, TyOf.tup hpu, T.k_tt, _, rfl, ?_⟩
    (try refine iteF ?_)
    refine ⟨_, rfl, _, _, rfl, lu, _, rfl, _, _, rfl, lv, rfl, _, rfl, ?_⟩
    (try dsimp only)
    refine iteNI (fun ne => absurd rfl ne) (fun _ => ?_)
    refine ⟨_, rfl, _, rfl, .tup pu, S2, _, _, us, ys, rfl, rfl, o2, SqT.of hpu, v2, for_zip (K := K) (S1 := .tup pu) (xs := us) (ys := ys) (fun i σ H2 => ∃ v4 v5, σ = [some so, some (.ref pu), some v, v4, v5] ∧ Same H H2) (by rw [e1.1, e2.1]) ⟨_, _, rfl, Same.refl _⟩ (fun i σ H2 _ ⟨_, _, _, q⟩ => ⟨SqT.of (q _ _ hpu), (w2 _ q).1⟩) ?_ ?_⟩
    · rintro i a b p σ H2 hu hv np ⟨v4, v5, rfl, q⟩
      obtain ⟨hi, pa⟩ := e1.at hu
      obtain ⟨_, pb⟩ := e2.at hv
      have sp := same_upd (o := .tup [a, b]) np
      have q2 := q.trans sp
      refine ⟨p, _, rfl, SqT.of upd_same, rfl, _, _, rfl, _, _, rfl, rfl, ?_⟩
      refine ⟨_, rfl, _, rfl, _, rfl, R, nm, pp, _, _, _, _, hS, rfl, ⟨hso.same q2.t, R.same q2.t pa.1, R.same q2.t pb.1⟩, _, rfl, ?_⟩
      (try refine iteF ?_)
      exact ⟨_, _, rfl, q2⟩
    · rintro σ H2 ⟨v4, v5, rfl, q⟩
      exact k _ q
def sp_tsame (T : Txt K mg t) : Sp := fun vs H Q _ => ∃ (R : KindR Pr w K mg base), ∃ nm p so u v h n x m m', So T R nm p ∧ vs = [so, u, v] ∧ (SortAt H so nm p ∧ R.Tab h n x m u H ∧ R.Tab h n x m' v H) ∧ ∀ H', Same H H' → Q (.bl true) H'
theorem ok_law_tables_same (T : Txt K mg t) : FnOk Pr w K mg base CX0 3 t.law_tables_same t.d_law_tables_same ["_law_sort_here", "_law_found", "_law_due"] (sp_tsame (w := w) (base := base) T) := by
  refine T.F_law_tables_same.ok sc_law_tables_same (fun vs H Q E h => ?_) (fun cdv A outer s H vs Q E hr h => ?_)
  · obtain ⟨R, nm, p, so, u, v, h, n, x, m, m', _, rfl, _⟩ := h
    rfl
  · obtain ⟨R, nm, pp, so, u, v, h, n, x, m, m', hS, rfl, ⟨hso, hu, hv⟩, k⟩ := h
    have lu := hu.len (K := K)
    have lv := hv.len (K := K)
    obtain ⟨pu, us, rfl, hpu, e1⟩ := hu
    obtain ⟨pw, ys, rfl, hpv, e2⟩ := hv
    refine ⟨_, (pss_cons (ps_if (PW.pt (pw_or (pt_not (pt_val (pe_callB call_isi (by rfl) T.z_isinstance boot_isinstance (pa_cons (pv 1) (pa_cons (pe_bltn (v := .ty "tuple") rfl T.z_tuple boot_tuple rfl) pa_nil))))) (pw_or1 (pt_cmpR op_ne (pe_callB call_len (by rfl) T.z_len PySem.boot_len (pa_cons (pv 1) pa_nil)) (pe_callB call_len (by rfl) T.z_len PySem.boot_len (pa_cons (pv 2) pa_nil)) (nomark _))))) (pss_one (ps_ret pe_bl)) pss_nil) (pss_cons (ps_for PassesOwn.never rfl (pi_zip rfl T.z_zip (pa_cons (pv 1) (pa_cons (pv 2) pa_nil))) (pg_tup rfl (pgs_cons (pg_name (i := 3) sc_law_tables_same.nd rfl (Or.inl rfl)) (pgs_cons (pg_name (i := 4) sc_law_tables_same.nd rfl (Or.inl rfl)) pgs_nil))) (pss_one (ps_if (pt_not (pt_val (pe_call (ok_law_all_same T) (hr.mono (by decide)) rfl T.m_law_all_same T.F_law_all_same.kp T.b_law_all_same .nil pass0 (pa_cons (pv 0) (pa_cons (pv 3) (pa_cons (pv 4) pa_nil)))))) (pss_one (ps_ret pe_bl)) pss_nil))) (pss_one (ps_ret pe_bl)))), ?_⟩
    refine ⟨_, rfl, _, _, _, _, rfl, TyOf.tup hpu, T.k_tt, _, rfl, ?_⟩
    (try refine iteF ?_)
    refine ⟨_, rfl, _, _, rfl, lu, _, rfl, _, _, rfl, lv, rfl, _, rfl, ?_⟩
    (try dsimp only)
    refine iteNI (fun ne => absurd rfl ne) (fun _ => ?_)
    refine ⟨_, rfl, _, rfl, .tup pu, .tup pw, _, _, us, ys, rfl, rfl, rfl, SqT.of hpu, SqT.of hpv, for_zip (K := K) (S1 := .tup pu) (S2 := .tup pw) (xs := us) (ys := ys) (fun i σ H2 => ∃ v4 v5, σ = [some so, some (.ref pu), some (.ref pw), v4, v5] ∧ Same H H2) (by rw [e1.1, e2.1]) ⟨_, _, rfl, Same.refl _⟩ (fun i σ H2 _ ⟨_, _, _, q⟩ => ⟨SqT.of (q _ _ hpu), SqT.of (q _ _ hpv)⟩) ?_ ?_⟩
    · rintro i a b p σ H2 hu hv np ⟨v4, v5, rfl, q⟩
      obtain ⟨hi, pa⟩ := e1.at hu
      obtain ⟨_, pb⟩ := e2.at hv
      have sp := same_upd (o := .tup [a, b]) np
      have q2 := q.trans sp
      refine ⟨p, _, rfl, SqT.of upd_same, rfl, _, _, rfl, _, _, rfl, rfl, ?_⟩
      refine ⟨_, rfl, _, rfl, _, rfl, R, nm, pp, _, _, _, n, x i, m, m', hS, rfl, ⟨hso.same q2.t, KindR.Row.same q2.t pa, (KindR.Row.same q2.t pb).seq⟩, fun H3 q3 => ⟨_, rfl, ?_⟩⟩
      (try refine iteF ?_)
      exact ⟨_, _, rfl, q2.trans q3⟩
    · rintro σ H2 ⟨v4, v5, rfl, q⟩
      exact k _ q
def sp_lrow_by (T : Txt K mg t) : Sp := fun vs H Q _ => ∃ (R : KindR Pr w K mg base), ∃ nm p so row tb, ∃ (h n : Nat), ∃ (z : Int), ∃ x A m m', So T R nm p ∧ vs = [so, row, tb, .int z] ∧ (SortAt H so nm p ∧ R.Seq h x m row H ∧ R.Tab h n A m' tb H ∧ h ≤ 1000 ∧ n ≤ 1000 ∧ z = n ∧ h * (m + m' + 1) ≤ 30000000) ∧
  ∀ v H', Same H H' → R.Row n (fun j => dotW R.S x (fun i => A i j) h) (h * (m + m' + 1)) v H' → Q v H'
theorem ok_law_row_by (T : Txt K mg t) : FnOk Pr w K mg base CX0 42 t.law_row_by t.d_law_row_by ["_law_sort_here", "_law_row", "_law_table_here", "_law_wide"] (sp_lrow_by (w := w) (base := base) T) := by
  refine T.F_law_row_by.ok sc_law_row_by (fun vs H Q E h => ?_) (fun cdv A outer s H vs Q E hr h => ?_)
  · obtain ⟨R, nm, p, so, row, tb, h, n, z, x, A, m, m', _, rfl, _⟩ := h
    rfl
  · obtain ⟨R, nm, pp, so, row, tb, h, n, z, x, B, m, m', hS, rfl, ⟨hso, hx, ⟨p, rows, rfl, hp, ent⟩, hh, hn, rfl, hz⟩, k⟩ := h
    have z1000 : 1000 < sizeLine := by decide
    refine ⟨_, (pss_cons (ps_set (i := 4) sc_law_row_by.nd rfl (Or.inl rfl) (pe_lst pa_nil)) (pss_cons (ps_for PassesOwn.never rfl (pi_range1 rfl T.z_range (pa_cons (pv 3) pa_nil)) (pg_name (i := 5) sc_law_row_by.nd rfl (Or.inr rfl)) (pss_one (ps_expr (pe_bm PySem.F.plainAttrs_list PySem.F.slot_list_append PySem.F.type_list_append mt_append (pv 4) (pa_cons (pe_call (ok_law_dot T) (hr.mono (by decide)) rfl T.m_law_dot T.F_law_dot.kp T.b_law_dot .nil pass0 (pa_cons (pv 0) (pa_cons (pv 1) (pa_cons (pe_comp (xs := ["_law_line_here"]) rfl (show CompOk ["_law_sort_here", "_law_row", "_law_table_here", "_law_wide", "_law_found", "_law_k"] (defScope s_law_row_by) _ from ⟨rfl, by decide +kernel, by decide +kernel, by decide +kernel, by decide +kernel, by decide +kernel⟩) (pi_tup (pv 2)) (fun _ _ _ _ _ => (pg_name (i := 6) (by show List.Nodup (["_law_sort_here", "_law_row", "_law_table_here", "_law_wide", "_law_found", "_law_k", "_law_line_here"] : List Str); decide +kernel) rfl (Or.inl rfl))) (fun _ _ _ _ _ => (pe_ix (show IxR _ (rIxT K) from ix_tup) (pv 6) (pv 5) (fun _ _ => rfl)))) pa_nil)))) pa_nil))))) (pss_one (ps_ret (pe_callTy call_tuple_of (by rfl) T.z_tuple boot_tuple (pa_cons (pv 4) pa_nil)))))), ?_⟩
    refine ⟨(by show 0 ≤ sizeLine; decide), fun fl nf => ?_⟩
    have s0 := same_upd (o := .lst []) nf
    refine ⟨_, rfl, _, rfl, (by omega), (by omega), for_range (lo := 0) (n := (n : Int).toNat) (fun i σ H2 => ∃ v5 ys, σ = [some so, some row, some (.ref p), some (.int (n : Int)), some (.ref fl), v5] ∧ Same H H2 ∧ H2 fl = some (.lst ys) ∧ Ents (R.Wt (fun j => dotW R.S x (fun i => B i j) h) (h * (m + m' + 1))) ys i H2) ⟨_, _, rfl, s0, upd_same, Ents.nil⟩ ?_ ?_⟩
    · rintro i σ H2 hi ⟨v5, ys, rfl, q, hf, e⟩
      have hi : i < n := by omega
      refine ⟨_, rfl, .inl ⟨rfl, _, SqL.of hf⟩, _, rfl, _, rfl, _, rfl, p, rfl, ⟨_, SqT.of (q _ _ hp)⟩, comp_go (n := h) (fun j zs H3 => Ents (R.Wt (fun j => B j i) m') zs j H2 ∧ H3 = H2) hh ⟨Ents.nil, rfl⟩ (fun j zs H3 c => c.1.1) ?_ ?_ ?_⟩
      · rintro j zs H3 hj ⟨c, rfl⟩
        obtain ⟨u, eu, pu⟩ := ent.2 j hj
        refine ⟨⟨_, _, SqT.of (q _ _ hp), eu⟩, fun y H' hy => ?_⟩
        obtain ⟨rfl, hy⟩ := hy
        have := hy _ (SqT.of (q _ _ hp))
        rw [eu] at this
        cases this
        obtain ⟨r, cs, rfl, hr', ec⟩ := KindR.Row.same q.t pu
        obtain ⟨z, ez, pz⟩ := ec.2 i hi
        refine ⟨⟨[some (.ref r)], rfl, rfl⟩, _, rfl, _, rfl, _, _, _, _, rfl, rfl, SqT.of hr', (show atI cs (0 + (i : Int)) = some z by rw [Int.zero_add]; exact atI_nat ez), ?_⟩
        exact ⟨c.snoc pz, rfl⟩
      · rintro zs H3 ⟨c, rfl⟩
        exact ⟨_, SqT.of (q _ _ hp), by rw [ent.1]; exact Nat.le_refl _⟩
      · rintro zs H3 l ⟨c, rfl⟩ nl
        have s1 := same_upd (o := .lst zs) nl
        have q1 := q.trans s1
        refine ⟨R, nm, pp, _, _, _, h, x, (fun j => B j i), m, m', hS, rfl, ⟨hso.same q1.t, KindR.Seq.same q1 hx, SeqOf.list upd_same (c.mono fun _ _ _ w' => KindR.Wt.same s1.t w'), hz⟩, fun v H4 s4 f4 z4 => ?_⟩
        have hf4 := (s1.trans s4) _ _ hf
        refine ⟨_, _, _, rfl, rfl, hf4, (by rw [e.1]; omega), ?_⟩
        have st : SameT H4 (upd H4 fl (.lst (ys ++ [v]))) := fun b vs hb => by
          rw [upd_ne (by rintro rfl; rw [hf4] at hb; cases hb)]; exact hb
        refine ⟨_, _, rfl, fun b o hb => ?_, upd_same, ((e.mono fun _ _ _ w' => KindR.Wt.same (s1.trans s4).t w').snoc ⟨f4, z4⟩).mono fun _ _ _ w' => KindR.Wt.same st w'⟩
        rw [upd_ne (ne_of_none hb nf)]
        exact (q1.trans s4) _ _ hb
    · rintro σ H2 ⟨v5, ys, rfl, q, hf, e⟩
      have en : (n : Int).toNat = n := by omega
      rw [en] at e
      refine ⟨_, rfl, fl, ys, rfl, .inl ⟨SqL.of hf, fun l2 n2 => ?_⟩⟩
      have s2 := same_upd (o := .tup ys) n2
      exact k _ _ (q.trans s2) ⟨l2, ys, rfl, upd_same, e.mono fun _ _ _ w' => KindR.Wt.same s2.t w'⟩
--LAW
theorem Row0 {R : KindR Pr w K mg base} {x : Nat → R.S.W} {m : Nat} {v : V} {H : Hp} (h : R.Row 0 x m v H) : Is K H v (.tuple []) := by
  obtain ⟨p, vs, rfl, hp, e⟩ := h
  have := List.eq_nil_of_length_eq_zero e.1
  subst this
  exact .tup (SqT.of hp) .nil
theorem eq00 {H : Hp} {u v : V} {Q : VK} (hu : Is K H u (.tuple [])) (hv : Is K H v (.tuple [])) (q : Q (.bl true) H) : rEqD K u v H Q :=
  ⟨_, _, hu, hv, rfl, rfl, by simp [noMix, noMixAll], by
    have e : PySem.Spec.same (.tuple []) (.tuple []) = true := by simp [PySem.Spec.same, PySem.Spec.sameAll]
    rw [e]; exact q⟩
theorem mul9 {n c C : Nat} (hn : n ≤ 9) (hc : c ≤ C) : n * c ≤ 9 * C := Nat.mul_le_mul hn hc
theorem dot_assoc {S : SR} (r : Nat → S.W) (A : Nat → Nat → S.W) (b : Nat → S.W) (h w : Nat) : dotW S (fun j => dotW S r (fun i => A i j) h) b w = dotW S r (fun i => dotW S (A i) b w) h := sm_assoc r A b h w
def sp_law (K : PySem.W.Frag) : Sp := fun vs H Q _ => ∃ (a : Addr) (ns : List Int), vs = [.ref a] ∧ SqL K H a (ns.map V.int) ∧ ns.length ≤ 63 ∧ ∀ H', Q (.bl true) H'
theorem ok_law (T : Txt K mg t) : FnOk Pr w K mg base CX0 50 t.law t.d_law ["_law_script"] (sp_law K) := by
  refine T.F_law.ok sc_law (fun vs H Q E h => ?_) (fun cdv A outer s H vs Q E hr h => ?_)
  · obtain ⟨a, ns, rfl, _⟩ := h
    rfl
  · obtain ⟨a0, ns, rfl, hS0, hlen, k⟩ := h
    refine ⟨_, (pss_cons (ps_set (i := 1) sc_law.nd rfl (Or.inl rfl) (pe_call (ok_law_state T) (hr.mono (by decide)) rfl T.m_law_state T.F_law_state.kp T.b_law_state .nil pass0 (pa_cons (pv 0) pa_nil))) (pss_cons (ps_set (i := 2) sc_law.nd rfl (Or.inr rfl) (pe_call (ok_law_sort T) (hr.mono (by decide)) rfl T.m_law_sort T.F_law_sort.kp T.b_law_sort .nil pass0 (pa_cons (pv 1) (pa_cons (pe_call (ok_law_next T) (hr.mono (by decide)) rfl T.m_law_next T.F_law_next.kp T.b_law_next .nil pass0 (pa_cons (pv 1) (pa_cons pe_int pa_nil))) pa_nil)))) (pss_cons (ps_set (i := 3) sc_law.nd rfl (Or.inl rfl) (pe_call (ok_law_kind T) (hr.mono (by decide)) rfl T.m_law_kind T.F_law_kind.kp T.b_law_kind .nil pass0 (pa_cons (pv 2) pa_nil))) (pss_cons (ps_set (i := 4) sc_law.nd rfl (Or.inl rfl) (pe_op op_mul pe_int (pe_callTy call_int1 (by rfl) T.z_int boot_int (pa_cons (pe_cmpR op_eq (pe_call (ok_law_next T) (hr.mono (by decide)) rfl T.m_law_next T.F_law_next.kp T.b_law_next .nil pass0 (pa_cons (pv 1) (pa_cons pe_int pa_nil))) pe_int (nomark _)) pa_nil)))) (pss_cons (ps_set (i := 5) sc_law.nd rfl (Or.inl rfl) (pe_op op_add (pv 4) (pe_call (ok_law_next T) (hr.mono (by decide)) rfl T.m_law_next T.F_law_next.kp T.b_law_next .nil pass0 (pa_cons (pv 1) (pa_cons pe_int pa_nil))))) (pss_cons (ps_set (i := 6) sc_law.nd rfl (Or.inl rfl) (pe_op op_add (pe_op op_add pe_int (pv 4)) (pe_call (ok_law_next T) (hr.mono (by decide)) rfl T.m_law_next T.F_law_next.kp T.b_law_next .nil pass0 (pa_cons (pv 1) (pa_cons pe_int pa_nil))))) (pss_cons (ps_set (i := 7) sc_law.nd rfl (Or.inr rfl) (pe_op op_add (pe_op op_add pe_int (pv 4)) (pe_call (ok_law_next T) (hr.mono (by decide)) rfl T.m_law_next T.F_law_next.kp T.b_law_next .nil pass0 (pa_cons (pv 1) (pa_cons pe_int pa_nil))))) (pss_cons (ps_set (i := 8) sc_law.nd rfl (Or.inl rfl) (pe_cmpR op_eq (pe_call (ok_law_next T) (hr.mono (by decide)) rfl T.m_law_next T.F_law_next.kp T.b_law_next .nil pass0 (pa_cons (pv 1) (pa_cons pe_int pa_nil))) pe_int (nomark _))) (pss_cons (ps_set (i := 9) sc_law.nd rfl (Or.inl rfl) (pe_call (ok_law_line T) (hr.mono (by decide)) rfl T.m_law_line T.F_law_line.kp T.b_law_line .nil pass0 (pa_cons (pv 1) (pa_cons (pv 2) (pa_cons (pv 5) (pa_cons (pv 8) pa_nil)))))) (pss_cons (ps_set (i := 10) sc_law.nd rfl (Or.inl rfl) (pe_call (ok_law_table T) (hr.mono (by decide)) rfl T.m_law_table T.F_law_table.kp T.b_law_table .nil pass0 (pa_cons (pv 1) (pa_cons (pv 2) (pa_cons (pv 5) (pa_cons (pv 6) (pa_cons (pv 8) pa_nil))))))) (pss_cons (ps_set (i := 11) sc_law.nd rfl (Or.inr rfl) (pe_call (ok_law_table T) (hr.mono (by decide)) rfl T.m_law_table T.F_law_table.kp T.b_law_table .nil pass0 (pa_cons (pv 1) (pa_cons (pv 2) (pa_cons (pv 6) (pa_cons (pv 7) (pa_cons (pv 8) pa_nil))))))) (pss_cons (ps_set (i := 12) sc_law.nd rfl (Or.inr rfl) (pe_call (ok_law_line T) (hr.mono (by decide)) rfl T.m_law_line T.F_law_line.kp T.b_law_line .nil pass0 (pa_cons (pv 1) (pa_cons (pv 2) (pa_cons (pv 7) (pa_cons (pv 8) pa_nil)))))) (pss_cons (ps_set (i := 13) sc_law.nd rfl (Or.inl rfl) (pe_call (ok_by_table T) (hr.mono (by decide)) rfl T.m_by_table T.F_by_table.kp T.b_by_table .nil pass0 (pa_cons (pv 3) (pa_cons (pv 10) (pa_cons (pv 11) pa_nil))))) (pss_cons (ps_if (pt_not (pt_val (pe_call (ok_law_tables_same T) (hr.mono (by decide)) rfl T.m_law_tables_same T.F_law_tables_same.kp T.b_law_tables_same .nil pass0 (pa_cons (pv 2) (pa_cons (pv 13) (pa_cons (pe_callTy call_tuple_of (by rfl) T.z_tuple boot_tuple (pa_cons (pe_comp (xs := ["_law_line_here"]) rfl (show CompOk ["_law_script", "_law_state_here", "_law_sort_here", "_law_kind_here", "_law_broad", "_law_high", "_law_wide", "_law_last", "_law_great", "_law_row", "_law_one", "_law_other", "_law_column", "_law_told_both", "_law_along", "_law_due", "_law_total"] (defScope s_law) _ from ⟨rfl, by decide +kernel, by decide +kernel, by decide +kernel, by decide +kernel, by decide +kernel⟩) (pi_tup (pv 10)) (fun _ _ _ _ _ => (pg_name (i := 17) (by show List.Nodup (["_law_script", "_law_state_here", "_law_sort_here", "_law_kind_here", "_law_broad", "_law_high", "_law_wide", "_law_last", "_law_great", "_law_row", "_law_one", "_law_other", "_law_column", "_law_told_both", "_law_along", "_law_due", "_law_total", "_law_line_here"] : List Str); decide +kernel) rfl (Or.inl rfl))) (fun _ _ _ _ _ => (pe_call (ok_law_row_by (w := w) (base := base) T) (hr.mono (by decide)) rfl T.m_law_row_by T.F_law_row_by.kp T.b_law_row_by .nil pass0 (pa_cons (pv 2) (pa_cons (pv 17) (pa_cons (pv 11) (pa_cons (pv 7) pa_nil))))))) pa_nil)) pa_nil)))))) (pss_one (ps_ret pe_bl)) pss_nil) (pss_cons (ps_if (pt_not (pt_val (pe_call (ok_law_all_same T) (hr.mono (by decide)) rfl T.m_law_all_same T.F_law_all_same.kp T.b_law_all_same .nil pass0 (pa_cons (pv 2) (pa_cons (pe_call (ok_by_column T) (hr.mono (by decide)) rfl T.m_by_column T.F_by_column.kp T.b_by_column .nil pass0 (pa_cons (pv 3) (pa_cons (pv 11) (pa_cons (pv 12) pa_nil)))) (pa_cons (pe_comp (xs := ["_law_line_here"]) rfl (show CompOk ["_law_script", "_law_state_here", "_law_sort_here", "_law_kind_here", "_law_broad", "_law_high", "_law_wide", "_law_last", "_law_great", "_law_row", "_law_one", "_law_other", "_law_column", "_law_told_both", "_law_along", "_law_due", "_law_total"] (defScope s_law) _ from ⟨rfl, by decide +kernel, by decide +kernel, by decide +kernel, by decide +kernel, by decide +kernel⟩) (pi_tup (pv 11)) (fun _ _ _ _ _ => (pg_name (i := 17) (by show List.Nodup (["_law_script", "_law_state_here", "_law_sort_here", "_law_kind_here", "_law_broad", "_law_high", "_law_wide", "_law_last", "_law_great", "_law_row", "_law_one", "_law_other", "_law_column", "_law_told_both", "_law_along", "_law_due", "_law_total", "_law_line_here"] : List Str); decide +kernel) rfl (Or.inl rfl))) (fun _ _ _ _ _ => (pe_call (ok_law_dot (w := w) (base := base) T) (hr.mono (by decide)) rfl T.m_law_dot T.F_law_dot.kp T.b_law_dot .nil pass0 (pa_cons (pv 2) (pa_cons (pv 17) (pa_cons (pv 12) pa_nil)))))) pa_nil)))))) (pss_one (ps_ret pe_bl)) pss_nil) (pss_cons (ps_if (pt_cmpR op_eq (pv 5) pe_int (nomark _)) (pss_one (ps_ret (pe_and (pe_cmpR (op_eqD hr.units) (pe_call (ok_row_by T) (hr.mono (by decide)) rfl T.m_row_by T.F_row_by.kp T.b_row_by .nil pass0 (pa_cons (pv 3) (pa_cons (pv 9) (pa_cons (pv 10) pa_nil)))) (pe_tup pa_nil) (nomark _)) (pe_one (pe_cmpR (op_eqD hr.units) (pe_call (ok_by_column T) (hr.mono (by decide)) rfl T.m_by_column T.F_by_column.kp T.b_by_column .nil pass0 (pa_cons (pv 3) (pa_cons (pv 10) (pa_cons (pe_tup pa_nil) pa_nil)))) (pe_tup pa_nil) (nomark _)))))) pss_nil) (pss_cons (ps_set (i := 14) sc_law.nd rfl (Or.inl rfl) (pe_call (ok_row_by T) (hr.mono (by decide)) rfl T.m_row_by T.F_row_by.kp T.b_row_by .nil pass0 (pa_cons (pv 3) (pa_cons (pv 9) (pa_cons (pv 10) pa_nil))))) (pss_cons (ps_if (pt_not (pt_val (pe_call (ok_law_all_same T) (hr.mono (by decide)) rfl T.m_law_all_same T.F_law_all_same.kp T.b_law_all_same .nil pass0 (pa_cons (pv 2) (pa_cons (pv 14) (pa_cons (pe_call (ok_law_row_by T) (hr.mono (by decide)) rfl T.m_law_row_by T.F_law_row_by.kp T.b_law_row_by .nil pass0 (pa_cons (pv 2) (pa_cons (pv 9) (pa_cons (pv 10) (pa_cons (pv 6) pa_nil))))) pa_nil)))))) (pss_one (ps_ret pe_bl)) pss_nil) (pss_cons (ps_set (i := 15) sc_law.nd rfl (Or.inl rfl) (pe_call (ok_law_row_by T) (hr.mono (by decide)) rfl T.m_law_row_by T.F_law_row_by.kp T.b_law_row_by .nil pass0 (pa_cons (pv 2) (pa_cons (pv 14) (pa_cons (pv 11) (pa_cons (pv 7) pa_nil)))))) (pss_cons (ps_if (pt_not (pt_val (pe_call (ok_law_all_same T) (hr.mono (by decide)) rfl T.m_law_all_same T.F_law_all_same.kp T.b_law_all_same .nil pass0 (pa_cons (pv 2) (pa_cons (pe_call (ok_row_by T) (hr.mono (by decide)) rfl T.m_row_by T.F_row_by.kp T.b_row_by .nil pass0 (pa_cons (pv 3) (pa_cons (pv 9) (pa_cons (pv 13) pa_nil)))) (pa_cons (pv 15) pa_nil)))))) (pss_one (ps_ret pe_bl)) pss_nil) (pss_cons (ps_set (i := 16) sc_law.nd rfl (Or.inl rfl) (pe_call (ok_law_dot T) (hr.mono (by decide)) rfl T.m_law_dot T.F_law_dot.kp T.b_law_dot .nil pass0 (pa_cons (pv 2) (pa_cons (pv 15) (pa_cons (pv 12) pa_nil))))) (pss_cons (ps_if (pt_not (pt_val (pe_call (ok_law_same T) (hr.mono (by decide)) rfl T.m_law_same T.F_law_same.kp T.b_law_same .nil pass0 (pa_cons (pv 2) (pa_cons (pe_call (ok_dot T) (hr.mono (by decide)) rfl T.m_dot T.F_dot.kp T.b_dot .nil pass0 (pa_cons (pv 3) (pa_cons (pe_call (ok_row_by T) (hr.mono (by decide)) rfl T.m_row_by T.F_row_by.kp T.b_row_by .nil pass0 (pa_cons (pv 3) (pa_cons (pv 9) (pa_cons (pv 13) pa_nil)))) (pa_cons (pv 12) pa_nil)))) (pa_cons (pv 16) pa_nil)))))) (pss_one (ps_ret pe_bl)) pss_nil) (pss_one (ps_ret (pe_call (ok_law_same T) (hr.mono (by decide)) rfl T.m_law_same T.F_law_same.kp T.b_law_same .nil pass0 (pa_cons (pv 2) (pa_cons (pe_call (ok_dot T) (hr.mono (by decide)) rfl T.m_dot T.F_dot.kp T.b_dot .nil pass0 (pa_cons (pv 3) (pa_cons (pv 14) (pa_cons (pe_call (ok_by_column T) (hr.mono (by decide)) rfl T.m_by_column T.F_by_column.kp T.b_by_column .nil pass0 (pa_cons (pv 3) (pa_cons (pv 11) (pa_cons (pv 12) pa_nil)))) pa_nil)))) (pa_cons (pv 16) pa_nil)))))))))))))))))))))))))))), ?_⟩
    refine ⟨_, rfl, a0, ns, rfl, hS0, hlen, fun a H1 na s1 d1 => ?_⟩
    refine ⟨_, rfl, _, rfl, a, 4, rfl, ⟨d1, by decide, by decide⟩, fun r2 H2 s2 d2 u2 w2 => ⟨a, r2, rfl, ⟨d2, u2, w2⟩, fun R nm p so H3 hS hso s3 d3 => ?_⟩⟩
    refine ⟨_, rfl, R, nm, p, _, hS, rfl, hso, fun kv H4 s4 hk => ?_⟩
    have d4 := d3.same s4
    have hso4 := hso.same s4.t
    clear hso d1 d2 d3 s1 s2 s3 s4 u2 w2 na hlen hS0
    show gName 3 kv [some (.ref a0), some (.ref a), some (so), none, none, none, none, none, none, none, none, none, none, none, none, none, none] H4 _
    refine ⟨_, rfl, a, 8, rfl, ⟨d4, by decide, by decide⟩, fun r5 H5 s5 d5 u5 w5 => ⟨rfl, .inr ⟨_, rfl, _, _, rfl, rfl, .inl ⟨by decide, by decide⟩, ?_⟩⟩⟩
    (try dsimp only)
    obtain ⟨b, eb, hb⟩ : ∃ b : Nat, (5 * (if decide (V.int r5 = V.int 7) = true then 1 else 0) : Int) = b ∧ b ≤ 5 := by
      by_cases z : decide (V.int r5 = V.int 7) = true
      · exact ⟨5, by rw [if_pos z]; rfl, by decide⟩
      · exact ⟨0, by rw [if_neg z]; rfl, by decide⟩
    rw [eb]
    refine ⟨_, rfl, _, rfl, a, 5, rfl, ⟨d5, by decide, by decide⟩, fun r6 H6 s6 d6 u6 w6 => ⟨_, _, rfl, rfl, ?_⟩⟩
    refine ⟨_, rfl, _, _, rfl, rfl, _, rfl, a, 4, rfl, ⟨d6, by decide, by decide⟩, fun r7 H7 s7 d7 u7 w7 => ⟨_, _, rfl, rfl, ?_⟩⟩
    refine ⟨_, rfl, _, _, rfl, rfl, _, rfl, a, 4, rfl, ⟨d7, by decide, by decide⟩, fun r8 H8 s8 d8 u8 w8 => ⟨_, _, rfl, rfl, ?_⟩⟩
    refine ⟨_, rfl, a, 2, rfl, ⟨d8, by decide, by decide⟩, fun r9 H9 s9 d9 u9 w9 => ⟨rfl, ?_⟩⟩
    have q9 := (((s5.trans s6).trans s7).trans s8).trans s9
    have hso9 := hso4.same (q9.tt d4)
    have hk9 := KAt.samx q9 d4 hk
    obtain ⟨hh, eh, bh⟩ : ∃ n : Nat, ((b : Int) + r6) = n ∧ n ≤ 9 := ⟨(b + r6).toNat, by omega, by omega⟩
    obtain ⟨wd, ew, bw, w1⟩ : ∃ n : Nat, (1 + (b : Int) + r7) = n ∧ n ≤ 9 ∧ n ≠ 0 := ⟨(1 + b + r7).toNat, by omega, by omega, by omega⟩
    obtain ⟨lt, el, bl, l1⟩ : ∃ n : Nat, (1 + (b : Int) + r8) = n ∧ n ≤ 9 ∧ n ≠ 0 := ⟨(1 + b + r8).toNat, by omega, by omega, by omega⟩
    (try dsimp only)
    rw [eh, ew, el]
    generalize decide (V.int r9 = V.int 0) = gr
    show gName 8 (.bl gr) [some (.ref a0), some (.ref a), some (so), some (kv), some (.int b), some (.int hh), some (.int wd), some (.int lt), none, none, none, none, none, none, none, none, none] H9 _
    clear q9 s5 s6 s7 s8 s9 hso4 hk d4 d5 d6 d7 d8 eb eh ew el hb u5 w5 u6 w6 u7 w7 u8 w8 u9 w9
    -- drawn
    refine ⟨_, rfl, _, rfl, _, rfl, _, rfl, R, nm, p, a, so, hh, _, _, hS, rfl, ⟨d9, hso9, by omega, rfl⟩, fun rv H10 x s10 d10 hrow => ?_⟩
    show gName 9 rv [some (.ref a0), some (.ref a), some (so), some (kv), some (.int b), some (.int hh), some (.int wd), some (.int lt), some (.bl gr), none, none, none, none, none, none, none, none] H10 _
    have hso10 := hso9.same (s10.tt d9)
    have hk10 := KAt.samx s10 d9 hk9
    refine ⟨_, rfl, _, rfl, _, rfl, _, rfl, _, rfl, R, nm, p, a, so, hh, wd, _, _, _, hS, rfl, ⟨d10, hso10, by omega, by omega, rfl, rfl⟩, fun ov H11 A s11 d11 hone => ?_⟩
    show gName 10 ov [some (.ref a0), some (.ref a), some (so), some (kv), some (.int b), some (.int hh), some (.int wd), some (.int lt), some (.bl gr), some (rv), none, none, none, none, none, none, none] H11 _
    have hso11 := hso10.same (s11.tt d10)
    have hk11 := KAt.samx s11 d10 hk10
    have hrow11 := KindR.Row.same (s11.tt d10) hrow
    refine ⟨_, rfl, _, rfl, _, rfl, _, rfl, _, rfl, R, nm, p, a, so, wd, lt, _, _, _, hS, rfl, ⟨d11, hso11, by omega, by omega, rfl, rfl⟩, fun tv H12 B s12 d12 hoth => ?_⟩
    show gName 11 tv [some (.ref a0), some (.ref a), some (so), some (kv), some (.int b), some (.int hh), some (.int wd), some (.int lt), some (.bl gr), some (rv), some (ov), none, none, none, none, none, none] H12 _
    have hso12 := hso11.same (s12.tt d11)
    have hk12 := KAt.samx s12 d11 hk11
    have hrow12 := KindR.Row.same (s12.tt d11) hrow11
    have hone12 := KindR.Tab.same (s12.tt d11) hone
    refine ⟨_, rfl, _, rfl, _, rfl, _, rfl, R, nm, p, a, so, lt, _, _, hS, rfl, ⟨d12, hso12, by omega, rfl⟩, fun cv H13 y s13 d13 hcol => ?_⟩
    show gName 12 cv [some (.ref a0), some (.ref a), some (so), some (kv), some (.int b), some (.int hh), some (.int wd), some (.int lt), some (.bl gr), some (rv), some (ov), some (tv), none, none, none, none, none] H13 _
    have hso := hso12.same (s13.tt d12)
    have hk := KAt.samx s13 d12 hk12
    have hrow := KindR.Row.same (s13.tt d12) hrow12
    have hone := KindR.Tab.same (s13.tt d12) hone12
    have hoth := KindR.Tab.same (s13.tt d12) hoth
    clear hso9 hso10 hso11 hso12 hk9 hk10 hk11 hk12 hrow11 hrow12 hone12 s10 s11 s12 s13 d9 d10 d11 d12 d13
    have z1 : wd * (90 + 90 + 1) ≤ 1629 := by omega
    have z2 : lt * (90 + 90 + 1) ≤ 1629 := by omega
    have z3 : hh * (90 + 90 + 1) ≤ 1629 := by omega
    -- one by other
    refine ⟨_, rfl, _, rfl, _, rfl, R, kv, _, _, hh, wd, lt, A, B, 90, 90, rfl, ⟨hk, hone, hoth, by omega, by omega, by omega, by omega⟩, fun bv H14 s14 hboth => ?_⟩
    rw [if_neg w1] at hboth
    show gName 13 bv [some (.ref a0), some (.ref a), some (so), some (kv), some (.int b), some (.int hh), some (.int wd), some (.int lt), some (.bl gr), some (rv), some (ov), some (tv), some (cv), none, none, none, none] H14 _
    have hso14 := hso.same s14.t
    have hone14 := KindR.Tab.same s14.t hone
    have hoth14 := KindR.Tab.same s14.t hoth
    have hrow14 := KindR.Row.same s14.t hrow
    have hcol14 := KindR.Row.same s14.t hcol
    have hk14 := hk.same s14
    clear hso hone hoth hrow hcol hk s14
    obtain ⟨po, rows, rfl, hpo, ento⟩ := id hone14
    refine ⟨_, rfl, _, rfl, _, rfl, po, rfl, ⟨_, SqT.of hpo⟩, comp_go (n := hh) (fun j ys H2 => Same H14 H2 ∧ Ents (fun i u H => R.Row lt (fun k => dotW R.S (A i) (fun j => B j k) wd) (wd * (90 + 90 + 1)) u H) ys j H2) (by omega) ⟨Same.refl _, Ents.nil⟩ (fun j ys H2 q => q.2.1) ?_ ?_ ?_⟩
    · rintro j ys H2 hj ⟨q, e⟩
      obtain ⟨u, eu, pu⟩ := ento.2 j hj
      refine ⟨⟨_, _, SqT.of (q _ _ hpo), eu⟩, fun y' H' hy' => ?_⟩
      obtain ⟨rfl, hy'⟩ := hy'
      have := hy' _ (SqT.of (q _ _ hpo))
      rw [eu] at this
      cases this
      refine ⟨⟨[some _], rfl, rfl⟩, _, rfl, _, rfl, _, rfl, _, rfl, R, nm, p, _, _, _, wd, lt, _, A j, B, 90, 90, hS, rfl, ⟨hso14.same q.t, (KindR.Row.same q.t pu).seq, KindR.Tab.same q.t hoth14, by omega, by omega, rfl, by omega⟩, fun v H3 s3 r3 => ?_⟩
      exact ⟨q.trans s3, (e.mono fun _ _ _ z => KindR.Row.same s3.t z).snoc r3⟩
    · rintro ys H2 ⟨q, e⟩
      exact ⟨_, SqT.of (q _ _ hpo), by rw [ento.1]; exact Nat.le_refl _⟩
    rintro ys H15 l ⟨q15, e15⟩ nl
    have sl1 := same_upd (o := .lst ys) nl
    refine ⟨l, ys, rfl, .inl ⟨SqL.of upd_same, fun l2 n2 => ?_⟩⟩
    have sl2 := same_upd (o := .tup ys) n2
    have s16 := q15.trans (sl1.trans sl2)
    refine ⟨R, nm, p, _, _, _, hh, lt, _, wd * (90 + 90 + 1), wd * (90 + 90 + 1), hS, rfl, ⟨hso14.same s16.t, KindR.Tab.same s16.t hboth, ⟨l2, ys, rfl, upd_same, e15.mono fun _ _ _ z => KindR.Row.same (sl1.trans sl2).t z⟩⟩, fun H17 s17 => ⟨_, rfl, ?_⟩⟩
    (try refine iteF ?_)
    have s17' := s16.trans s17
    have hso := hso14.same s17'.t
    have hone := KindR.Tab.same s17'.t hone14
    have hoth := KindR.Tab.same s17'.t hoth14
    have hrow := KindR.Row.same s17'.t hrow14
    have hcol := KindR.Row.same s17'.t hcol14
    have hbo := KindR.Tab.same s17'.t hboth
    have hk := hk14.same s17'
    clear hso14 hone14 hoth14 hrow14 hcol14 hk14 hboth s17' s17 s16 sl1 sl2 n2 nl e15 q15 ento hpo
    -- other by column
    obtain ⟨pt, trs, rfl, hpt, entt⟩ := id hoth
    refine ⟨_, rfl, _, rfl, _, rfl, _, rfl, R, kv, _, _, wd, lt, B, y, 90, 90, rfl, ⟨hk, hoth, hcol.seq, by omega, by omega⟩, fun zv H18 s18 hz => ?_⟩
    refine ⟨_, rfl, pt, rfl, ⟨_, SqT.of (s18 _ _ hpt)⟩, comp_go (n := wd) (fun j ys H2 => Same H18 H2 ∧ Ents (R.Wt (fun i => dotW R.S (B i) y lt) (lt * (90 + 90 + 1))) ys j H2) (by omega) ⟨Same.refl _, Ents.nil⟩ (fun j ys H2 q => q.2.1) ?_ ?_ ?_⟩
    · rintro j ys H2 hj ⟨q, e⟩
      obtain ⟨u, eu, pu⟩ := entt.2 j hj
      have q' := s18.trans q
      refine ⟨⟨_, _, SqT.of (q' _ _ hpt), eu⟩, fun y' H' hy' => ?_⟩
      obtain ⟨rfl, hy'⟩ := hy'
      have := hy' _ (SqT.of (q' _ _ hpt))
      rw [eu] at this
      cases this
      refine ⟨⟨[some _], rfl, rfl⟩, _, rfl, _, rfl, _, rfl, R, nm, p, _, _, _, lt, B j, y, 90, 90, hS, rfl, ⟨hso.same q'.t, (KindR.Row.same q'.t pu).seq, (KindR.Row.same q'.t hcol).seq, by omega⟩, fun v H3 s3 f3 z3 => ?_⟩
      exact ⟨q.trans s3, (e.mono fun _ _ _ z => KindR.Wt.same s3.t z).snoc ⟨f3, z3⟩⟩
    · rintro ys H2 ⟨q, e⟩
      exact ⟨_, SqT.of (q _ _ (s18 _ _ hpt)), by rw [entt.1]; exact Nat.le_refl _⟩
    rintro ys2 H19 l3 ⟨q19, e19⟩ nl3
    have sl3 := same_upd (o := .lst ys2) nl3
    have s20 := s18.trans (q19.trans sl3)
    refine ⟨R, nm, p, _, _, _, wd, _, lt * (90 + 90 + 1), lt * (90 + 90 + 1), hS, rfl, ⟨hso.same s20.t, KindR.Row.same (q19.trans sl3).t hz, SeqOf.list upd_same (e19.mono fun _ _ _ z => KindR.Wt.same sl3.t z)⟩, fun H21 s21 => ⟨_, rfl, ?_⟩⟩
    (try refine iteF ?_)
    have s21' := s20.trans s21
    have hso1 := hso.same s21'.t
    have hone1 := KindR.Tab.same s21'.t hone
    have hoth1 := KindR.Tab.same s21'.t hoth
    have hrow1 := KindR.Row.same s21'.t hrow
    have hcol1 := KindR.Row.same s21'.t hcol
    have hbo1 := KindR.Tab.same s21'.t hbo
    have hk1 := hk.same s21'
    clear hso hone hoth hrow hcol hbo hk s21' s21 s20 sl3 nl3 e19 q19 entt hpt hz s18
    refine ⟨_, rfl, rfl, _, rfl, ?_⟩
    refine iteI (fun h0 => ?_) (fun h0 => ?_)
    · have h0 : hh = 0 := by omega
      subst h0
      refine ⟨_, rfl, _, rfl, _, rfl, R, kv, _, _, 0, wd, x, A, 90, 90, rfl, ⟨hk1, hrow1.seq, hone1, by omega, by omega, by omega⟩, fun v1 H22 s22 r22 => ?_⟩
      rw [if_pos rfl] at r22
      refine ⟨(by show 0 ≤ sizeLine; decide), fun p1 n1 => ?_⟩
      have t1 := same_upd (o := .tup []) n1
      refine eq00 (Row0 (KindR.Row.same t1.t r22)) (.tup (SqT.of upd_same) .nil) ⟨_, rfl, ?_⟩
      refine iteT ?_
      have s23 := s22.trans t1
      refine ⟨_, rfl, _, rfl, (by show 0 ≤ sizeLine; decide), fun p2 n2 => ?_⟩
      have t2 := same_upd (o := .tup []) n2
      have s24 := s23.trans t2
      have hone0 : R.Tab 0 0 A 90 (.ref po) H21 := hone1.mono (SameT.refl _) fun j u hj _ => absurd hj (Nat.not_lt_zero j)
      refine ⟨R, kv, _, _, 0, 0, A, y, 90, 90, rfl, ⟨hk1.same s24, KindR.Tab.same s24.t hone0, TupOf.seq ⟨p2, [], rfl, upd_same, Ents.nil⟩, by omega, by omega⟩, fun v2 H25 s25 r25 => ?_⟩
      refine ⟨(by show 0 ≤ sizeLine; decide), fun p3 n3 => ?_⟩
      have t3 := same_upd (o := .tup []) n3
      exact eq00 (Row0 (KindR.Row.same t3.t r25)) (.tup (SqT.of upd_same) .nil) (k _)
    · have h1 : hh ≠ 0 := by omega
      -- along
      refine ⟨_, rfl, _, rfl, _, rfl, R, kv, _, _, hh, wd, x, A, 90, 90, rfl, ⟨hk1, hrow1.seq, hone1, by omega, by omega, by omega⟩, fun av H22 s22 r22 => ?_⟩
      rw [if_neg h1] at r22
      show gName 14 av [some (.ref a0), some (.ref a), some (so), some (kv), some (.int b), some (.int hh), some (.int wd), some (.int lt), some (.bl gr), some (rv), some (.ref po), some (.ref pt), some (cv), some (bv), none, none, none] H22 _
      refine ⟨_, rfl, _, rfl, _, rfl, _, rfl, _, rfl, _, rfl, R, nm, p, _, _, _, hh, wd, _, x, A, 90, 90, hS, rfl, ⟨hso1.same s22.t, (KindR.Row.same s22.t hrow1).seq, KindR.Tab.same s22.t hone1, by omega, by omega, rfl, by omega⟩, fun bv2 H23 s23 r23 => ?_⟩
      refine ⟨R, nm, p, _, _, _, wd, _, hh * (90 + 90 + 1), hh * (90 + 90 + 1), hS, rfl, ⟨hso1.same (s22.trans s23).t, KindR.Row.same s23.t r22, r23.seq⟩, fun H24 s24 => ⟨_, rfl, ?_⟩⟩
      (try refine iteF ?_)
      have s24' := s22.trans (s23.trans s24)
      have r24 := KindR.Row.same (s23.trans s24).t r22
      -- due
      have y1 : wd * (hh * (90 + 90 + 1) + 90 + 1) ≤ 9 * 1720 := mul9 bw (by omega)
      have y2 : hh * (90 + wd * (90 + 90 + 1) + 1) ≤ 9 * 1720 := mul9 bh (by omega)
      refine ⟨_, rfl, _, rfl, _, rfl, _, rfl, R, nm, p, _, _, _, wd, lt, _, _, B, hh * (90 + 90 + 1), 90, hS, rfl, ⟨hso1.same s24'.t, r24.seq, KindR.Tab.same s24'.t hoth1, by omega, by omega, rfl, by omega⟩, fun dv H25 s25 r25 => ?_⟩
      show gName 15 dv [some (.ref a0), some (.ref a), some (so), some (kv), some (.int b), some (.int hh), some (.int wd), some (.int lt), some (.bl gr), some (rv), some (.ref po), some (.ref pt), some (cv), some (bv), some (av), none, none] H25 _
      have s25' := s24'.trans s25
      have efun : (fun k => dotW R.S (fun j => dotW R.S x (fun i => A i j) hh) (fun j => B j k) wd) = fun k => dotW R.S x (fun i => dotW R.S (A i) (fun j => B j k) wd) hh := funext fun k => dot_assoc x A (fun j => B j k) hh wd
      -- row by both
      refine ⟨_, rfl, _, rfl, _, rfl, _, rfl, R, kv, _, _, hh, lt, x, _, 90, wd * (90 + 90 + 1), rfl, ⟨hk1.same s25', (KindR.Row.same s25'.t hrow1).seq, KindR.Tab.same s25'.t hbo1, by omega, by omega, by omega⟩, fun ev H26 s26 r26 => ?_⟩
      rw [if_neg h1] at r26
      have r26' := r26
      rw [← efun] at r26'
      refine ⟨_, rfl, R, nm, p, _, _, _, lt, _, _, _, hS, rfl, ⟨hso1.same (s25'.trans s26).t, r26', (KindR.Row.same s26.t r25).seq⟩, fun H27 s27 => ⟨_, rfl, ?_⟩⟩
      (try refine iteF ?_)
      have s27' := s25'.trans (s26.trans s27)
      have r27 := KindR.Row.same (s26.trans s27).t r25
      -- total
      have y3 : lt * (wd * (hh * (90 + 90 + 1) + 90 + 1) + 90 + 1) ≤ 9 * 15571 := mul9 bl (by omega)
      have y4 : lt * (hh * (90 + wd * (90 + 90 + 1) + 1) + 90 + 1) ≤ 9 * 15571 := mul9 bl (by omega)
      have y5 : wd * (hh * (90 + 90 + 1) + lt * (90 + 90 + 1) + 1) ≤ 9 * 3259 := mul9 bw (by omega)
      refine ⟨_, rfl, _, rfl, _, rfl, R, nm, p, _, _, _, lt, _, y, wd * (hh * (90 + 90 + 1) + 90 + 1), 90, hS, rfl, ⟨hso1.same s27'.t, r27.seq, (KindR.Row.same s27'.t hcol1).seq, by omega⟩, fun ttv H28 s28 f28 _ => ?_⟩
      show gName 16 ttv [some (.ref a0), some (.ref a), some (so), some (kv), some (.int b), some (.int hh), some (.int wd), some (.int lt), some (.bl gr), some (rv), some (.ref po), some (.ref pt), some (cv), some (bv), some (av), some (dv), none] H28 _
      have s28' := s27'.trans s28
      refine ⟨_, rfl, _, rfl, _, rfl, _, rfl, _, rfl, R, kv, _, _, hh, lt, x, _, 90, wd * (90 + 90 + 1), rfl, ⟨hk1.same s28', (KindR.Row.same s28'.t hrow1).seq, KindR.Tab.same s28'.t hbo1, by omega, by omega, by omega⟩, fun gv H29 s29 r29 => ?_⟩
      rw [if_neg h1, ← efun] at r29
      have s29' := s28'.trans s29
      refine ⟨_, rfl, R, kv, _, _, lt, _, y, _, 90, rfl, ⟨hk1.same s29', r29.seq, (KindR.Row.same s29'.t hcol1).seq, by omega⟩, fun hv H30 s30 f30 _ => ?_⟩
      have s30' := s29'.trans s30
      refine ⟨_, rfl, R, nm, p, _, _, _, _, hS, rfl, ⟨hso1.same s30'.t, f30, R.same (s29.trans s30).t f28⟩, _, rfl, ?_⟩
      (try refine iteF ?_)
      -- the other road
      refine ⟨_, rfl, _, rfl, _, rfl, _, rfl, _, rfl, _, rfl, R, kv, _, _, wd, lt, B, y, 90, 90, rfl, ⟨hk1.same s30', KindR.Tab.same s30'.t hoth1, (KindR.Row.same s30'.t hcol1).seq, by omega, by omega⟩, fun iv H31 s31 r31 => ?_⟩
      have s31' := s30'.trans s31
      refine ⟨R, kv, _, _, wd, _, _, hh * (90 + 90 + 1), lt * (90 + 90 + 1), rfl, ⟨hk1.same s31', (KindR.Row.same (s25.trans ((s26.trans s27).trans (s28.trans (s29.trans (s30.trans s31))))).t r24).seq, r31.seq, by omega⟩, fun jv H32 s32 f32 _ => ?_⟩
      rw [← dot_assoc (fun j => dotW R.S x (fun i => A i j) hh) B y wd lt] at f32
      refine ⟨_, rfl, R, nm, p, _, _, _, _, hS, rfl, ⟨hso1.same (s31'.trans s32).t, f32, R.same ((s29.trans s30).trans (s31.trans s32)).t f28⟩, ?_⟩
      exact k _
theorem law_binds (T : Txt K mg t) : ∀ (s : Shared) (u : Value), BindsTo s t.d_law ⟨[u], []⟩ [("_law_script", u)] := by
  obtain ⟨oc, od, kV, doc, pm, an, cdv, ct, osl, e, _, _⟩ := T.F_law.ex
  rw [e]
  exact fun s u => .of_eq rfl
end
theorem txt_mk {K : PySem.W.Frag} {h : Heap} {mg : Str → Option Value} (X : K.In h) (G : h.Ns mainGlobals mg) {a_Fractions a_Residues a_Costs a_Truths a_is_whole a_divisor a_fraction a_is_prime a_Fractions_nought a_Fractions_plus a_Fractions_times a_Residues___init__ a_Residues_nought a_Residues_plus a_Residues_times a_Costs_nought a_Costs_plus a_Costs_times a_Truths_nought a_Truths_plus a_Truths_times a_column_at a_columns_of a_dot a_row_by a_by_column a_by_table a_law_next a_law_state a_law_low a_law_plus a_law_times a_law_nought a_law_sort a_law_kind a_law_weight a_law_line a_law_table a_law_dot a_law_same a_law_all_same a_law_tables_same a_law_row_by a_law : Addr} {oc_is_whole kV_is_whole dc_is_whole pm_is_whole cd_is_whole ct_is_whole oc_divisor kV_divisor dc_divisor pm_divisor cd_divisor ct_divisor oc_fraction kV_fraction dc_fraction pm_fraction cd_fraction ct_fraction oc_is_prime kV_is_prime dc_is_prime pm_is_prime cd_is_prime ct_is_prime oc_Fractions_nought kV_Fractions_nought dc_Fractions_nought pm_Fractions_nought cd_Fractions_nought ct_Fractions_nought oc_Fractions_plus kV_Fractions_plus dc_Fractions_plus pm_Fractions_plus cd_Fractions_plus ct_Fractions_plus oc_Fractions_times kV_Fractions_times dc_Fractions_times pm_Fractions_times cd_Fractions_times ct_Fractions_times oc_Residues___init__ kV_Residues___init__ dc_Residues___init__ pm_Residues___init__ cd_Residues___init__ ct_Residues___init__ oc_Residues_nought kV_Residues_nought dc_Residues_nought pm_Residues_nought cd_Residues_nought ct_Residues_nought oc_Residues_plus kV_Residues_plus dc_Residues_plus pm_Residues_plus cd_Residues_plus ct_Residues_plus oc_Residues_times kV_Residues_times dc_Residues_times pm_Residues_times cd_Residues_times ct_Residues_times oc_Costs_nought kV_Costs_nought dc_Costs_nought pm_Costs_nought cd_Costs_nought ct_Costs_nought oc_Costs_plus kV_Costs_plus dc_Costs_plus pm_Costs_plus cd_Costs_plus ct_Costs_plus oc_Costs_times kV_Costs_times dc_Costs_times pm_Costs_times cd_Costs_times ct_Costs_times oc_Truths_nought kV_Truths_nought dc_Truths_nought pm_Truths_nought cd_Truths_nought ct_Truths_nought oc_Truths_plus kV_Truths_plus dc_Truths_plus pm_Truths_plus cd_Truths_plus ct_Truths_plus oc_Truths_times kV_Truths_times dc_Truths_times pm_Truths_times cd_Truths_times ct_Truths_times oc_column_at kV_column_at dc_column_at pm_column_at cd_column_at ct_column_at oc_columns_of kV_columns_of dc_columns_of pm_columns_of cd_columns_of ct_columns_of oc_dot kV_dot dc_dot pm_dot cd_dot ct_dot oc_row_by kV_row_by dc_row_by pm_row_by cd_row_by ct_row_by oc_by_column kV_by_column dc_by_column pm_by_column cd_by_column ct_by_column oc_by_table kV_by_table dc_by_table pm_by_table cd_by_table ct_by_table oc_law_next kV_law_next dc_law_next pm_law_next cd_law_next ct_law_next oc_law_state kV_law_state dc_law_state pm_law_state cd_law_state ct_law_state oc_law_low kV_law_low dc_law_low pm_law_low cd_law_low ct_law_low oc_law_plus kV_law_plus dc_law_plus pm_law_plus cd_law_plus ct_law_plus oc_law_times kV_law_times dc_law_times pm_law_times cd_law_times ct_law_times oc_law_nought kV_law_nought dc_law_nought pm_law_nought cd_law_nought ct_law_nought oc_law_sort kV_law_sort dc_law_sort pm_law_sort cd_law_sort ct_law_sort oc_law_kind kV_law_kind dc_law_kind pm_law_kind cd_law_kind ct_law_kind oc_law_weight kV_law_weight dc_law_weight pm_law_weight cd_law_weight ct_law_weight oc_law_line kV_law_line dc_law_line pm_law_line cd_law_line ct_law_line oc_law_table kV_law_table dc_law_table pm_law_table cd_law_table ct_law_table oc_law_dot kV_law_dot dc_law_dot pm_law_dot cd_law_dot ct_law_dot oc_law_same kV_law_same dc_law_same pm_law_same cd_law_same ct_law_same oc_law_all_same kV_law_all_same dc_law_all_same pm_law_all_same cd_law_all_same ct_law_all_same oc_law_tables_same kV_law_tables_same dc_law_tables_same pm_law_tables_same cd_law_tables_same ct_law_tables_same oc_law_row_by kV_law_row_by dc_law_row_by pm_law_row_by cd_law_row_by ct_law_row_by oc_law kV_law dc_law pm_law cd_law ct_law : Value} {od_is_whole an_is_whole od_divisor an_divisor od_fraction an_fraction od_is_prime an_is_prime od_Fractions_nought an_Fractions_nought od_Fractions_plus an_Fractions_plus od_Fractions_times an_Fractions_times od_Residues___init__ an_Residues___init__ od_Residues_nought an_Residues_nought od_Residues_plus an_Residues_plus od_Residues_times an_Residues_times od_Costs_nought an_Costs_nought od_Costs_plus an_Costs_plus od_Costs_times an_Costs_times od_Truths_nought an_Truths_nought od_Truths_plus an_Truths_plus od_Truths_times an_Truths_times od_column_at an_column_at od_columns_of an_columns_of od_dot an_dot od_row_by an_row_by od_by_column an_by_column od_by_table an_by_table od_law_next an_law_next od_law_state an_law_state od_law_low an_law_low od_law_plus an_law_plus od_law_times an_law_times od_law_nought an_law_nought od_law_sort an_law_sort od_law_kind an_law_kind od_law_weight an_law_weight od_law_line an_law_line od_law_table an_law_table od_law_dot an_law_dot od_law_same an_law_same od_law_all_same an_law_all_same od_law_tables_same an_law_tables_same od_law_row_by an_law_row_by od_law an_law : Option Addr} {sl_is_whole sl_divisor sl_fraction sl_is_prime sl_Fractions_nought sl_Fractions_plus sl_Fractions_times sl_Residues___init__ sl_Residues_nought sl_Residues_plus sl_Residues_times sl_Costs_nought sl_Costs_plus sl_Costs_times sl_Truths_nought sl_Truths_plus sl_Truths_times sl_column_at sl_columns_of sl_dot sl_row_by sl_by_column sl_by_table sl_law_next sl_law_state sl_law_low sl_law_plus sl_law_times sl_law_nought sl_law_sort sl_law_kind sl_law_weight sl_law_line sl_law_table sl_law_dot sl_law_same sl_law_all_same sl_law_tables_same sl_law_row_by sl_law : Array (Option Value)}
    (n_Fractions : PySem.W.nsIn K mainGlobals "Fractions" = some (some (.ref a_Fractions)))
    (pg_Fractions : PySem.W.plainGet K a_Fractions Str.empty = true)
    (hd_Fractions : PySem.W.hasDictIn K a_Fractions = true)
    (po_Fractions : PySem.W.plainOver K a_Fractions = true)
    (sa_Fractions : PySem.W.findIn K (.ref a_Fractions) "__setattr__" = some (some (.builtin "object.__setattr__")))
    (mk_Fractions : PySem.W.makesIn K a_Fractions = true)
    (kp_Fractions : PySem.W.keepIn K (.ref a_Fractions) = true)
    (in_Fractions : PySem.W.findIn K (.ref a_Fractions) "__init__" = some (some (.builtin "object.__init__")))
    (n_Residues : PySem.W.nsIn K mainGlobals "Residues" = some (some (.ref a_Residues)))
    (pg_Residues : PySem.W.plainGet K a_Residues Str.empty = true)
    (hd_Residues : PySem.W.hasDictIn K a_Residues = true)
    (po_Residues : PySem.W.plainOver K a_Residues = true)
    (sa_Residues : PySem.W.findIn K (.ref a_Residues) "__setattr__" = some (some (.builtin "object.__setattr__")))
    (mk_Residues : PySem.W.makesIn K a_Residues = true)
    (kp_Residues : PySem.W.keepIn K (.ref a_Residues) = true)
    (n_Costs : PySem.W.nsIn K mainGlobals "Costs" = some (some (.ref a_Costs)))
    (pg_Costs : PySem.W.plainGet K a_Costs Str.empty = true)
    (hd_Costs : PySem.W.hasDictIn K a_Costs = true)
    (po_Costs : PySem.W.plainOver K a_Costs = true)
    (sa_Costs : PySem.W.findIn K (.ref a_Costs) "__setattr__" = some (some (.builtin "object.__setattr__")))
    (mk_Costs : PySem.W.makesIn K a_Costs = true)
    (kp_Costs : PySem.W.keepIn K (.ref a_Costs) = true)
    (in_Costs : PySem.W.findIn K (.ref a_Costs) "__init__" = some (some (.builtin "object.__init__")))
    (n_Truths : PySem.W.nsIn K mainGlobals "Truths" = some (some (.ref a_Truths)))
    (pg_Truths : PySem.W.plainGet K a_Truths Str.empty = true)
    (hd_Truths : PySem.W.hasDictIn K a_Truths = true)
    (po_Truths : PySem.W.plainOver K a_Truths = true)
    (sa_Truths : PySem.W.findIn K (.ref a_Truths) "__setattr__" = some (some (.builtin "object.__setattr__")))
    (mk_Truths : PySem.W.makesIn K a_Truths = true)
    (kp_Truths : PySem.W.keepIn K (.ref a_Truths) = true)
    (in_Truths : PySem.W.findIn K (.ref a_Truths) "__init__" = some (some (.builtin "object.__init__")))
    (n_is_whole : PySem.W.nsIn K mainGlobals "is_whole" = some (some (.ref a_is_whole)))
    (l_is_whole : K.lookup a_is_whole = some ⟨oc_is_whole, od_is_whole, .func (PySem.W.fnOf "is_whole" "is_whole" (defArgs s_is_whole) (defBody s_is_whole) (defScope s_is_whole) .none kV_is_whole dc_is_whole pm_is_whole an_is_whole cd_is_whole ct_is_whole), sl_is_whole⟩)
    (c_is_whole : PySem.W.codeIn K cd_is_whole "is_whole" = true)
    (k_is_whole : PySem.W.keepIn K (.ref a_is_whole) = true)
    (n_divisor : PySem.W.nsIn K mainGlobals "divisor" = some (some (.ref a_divisor)))
    (l_divisor : K.lookup a_divisor = some ⟨oc_divisor, od_divisor, .func (PySem.W.fnOf "divisor" "divisor" (defArgs s_divisor) (defBody s_divisor) (defScope s_divisor) .none kV_divisor dc_divisor pm_divisor an_divisor cd_divisor ct_divisor), sl_divisor⟩)
    (c_divisor : PySem.W.codeIn K cd_divisor "divisor" = true)
    (k_divisor : PySem.W.keepIn K (.ref a_divisor) = true)
    (n_fraction : PySem.W.nsIn K mainGlobals "fraction" = some (some (.ref a_fraction)))
    (l_fraction : K.lookup a_fraction = some ⟨oc_fraction, od_fraction, .func (PySem.W.fnOf "fraction" "fraction" (defArgs s_fraction) (defBody s_fraction) (defScope s_fraction) .none kV_fraction dc_fraction pm_fraction an_fraction cd_fraction ct_fraction), sl_fraction⟩)
    (c_fraction : PySem.W.codeIn K cd_fraction "fraction" = true)
    (k_fraction : PySem.W.keepIn K (.ref a_fraction) = true)
    (n_is_prime : PySem.W.nsIn K mainGlobals "is_prime" = some (some (.ref a_is_prime)))
    (l_is_prime : K.lookup a_is_prime = some ⟨oc_is_prime, od_is_prime, .func (PySem.W.fnOf "is_prime" "is_prime" (defArgs s_is_prime) (defBody s_is_prime) (defScope s_is_prime) .none kV_is_prime dc_is_prime pm_is_prime an_is_prime cd_is_prime ct_is_prime), sl_is_prime⟩)
    (c_is_prime : PySem.W.codeIn K cd_is_prime "is_prime" = true)
    (k_is_prime : PySem.W.keepIn K (.ref a_is_prime) = true)
    (n_Fractions_nought : PySem.W.findIn K (.ref a_Fractions) "nought" = some (some (.ref a_Fractions_nought)))
    (i_Fractions_nought : PySem.W.isFn K (.ref a_Fractions_nought) = true)
    (l_Fractions_nought : K.lookup a_Fractions_nought = some ⟨oc_Fractions_nought, od_Fractions_nought, .func (PySem.W.fnOf "nought" "Fractions.nought" (defArgs s_Fractions_nought) (defBody s_Fractions_nought) (defScope s_Fractions_nought) .none kV_Fractions_nought dc_Fractions_nought pm_Fractions_nought an_Fractions_nought cd_Fractions_nought ct_Fractions_nought), sl_Fractions_nought⟩)
    (c_Fractions_nought : PySem.W.codeIn K cd_Fractions_nought "Fractions.nought" = true)
    (k_Fractions_nought : PySem.W.keepIn K (.ref a_Fractions_nought) = true)
    (n_Fractions_plus : PySem.W.findIn K (.ref a_Fractions) "plus" = some (some (.ref a_Fractions_plus)))
    (i_Fractions_plus : PySem.W.isFn K (.ref a_Fractions_plus) = true)
    (l_Fractions_plus : K.lookup a_Fractions_plus = some ⟨oc_Fractions_plus, od_Fractions_plus, .func (PySem.W.fnOf "plus" "Fractions.plus" (defArgs s_Fractions_plus) (defBody s_Fractions_plus) (defScope s_Fractions_plus) .none kV_Fractions_plus dc_Fractions_plus pm_Fractions_plus an_Fractions_plus cd_Fractions_plus ct_Fractions_plus), sl_Fractions_plus⟩)
    (c_Fractions_plus : PySem.W.codeIn K cd_Fractions_plus "Fractions.plus" = true)
    (k_Fractions_plus : PySem.W.keepIn K (.ref a_Fractions_plus) = true)
    (n_Fractions_times : PySem.W.findIn K (.ref a_Fractions) "times" = some (some (.ref a_Fractions_times)))
    (i_Fractions_times : PySem.W.isFn K (.ref a_Fractions_times) = true)
    (l_Fractions_times : K.lookup a_Fractions_times = some ⟨oc_Fractions_times, od_Fractions_times, .func (PySem.W.fnOf "times" "Fractions.times" (defArgs s_Fractions_times) (defBody s_Fractions_times) (defScope s_Fractions_times) .none kV_Fractions_times dc_Fractions_times pm_Fractions_times an_Fractions_times cd_Fractions_times ct_Fractions_times), sl_Fractions_times⟩)
    (c_Fractions_times : PySem.W.codeIn K cd_Fractions_times "Fractions.times" = true)
    (k_Fractions_times : PySem.W.keepIn K (.ref a_Fractions_times) = true)
    (n_Residues___init__ : PySem.W.findIn K (.ref a_Residues) "__init__" = some (some (.ref a_Residues___init__)))
    (i_Residues___init__ : PySem.W.isFn K (.ref a_Residues___init__) = true)
    (l_Residues___init__ : K.lookup a_Residues___init__ = some ⟨oc_Residues___init__, od_Residues___init__, .func (PySem.W.fnOf "__init__" "Residues.__init__" (defArgs s_Residues___init__) (defBody s_Residues___init__) (defScope s_Residues___init__) .none kV_Residues___init__ dc_Residues___init__ pm_Residues___init__ an_Residues___init__ cd_Residues___init__ ct_Residues___init__), sl_Residues___init__⟩)
    (c_Residues___init__ : PySem.W.codeIn K cd_Residues___init__ "Residues.__init__" = true)
    (k_Residues___init__ : PySem.W.keepIn K (.ref a_Residues___init__) = true)
    (n_Residues_nought : PySem.W.findIn K (.ref a_Residues) "nought" = some (some (.ref a_Residues_nought)))
    (i_Residues_nought : PySem.W.isFn K (.ref a_Residues_nought) = true)
    (l_Residues_nought : K.lookup a_Residues_nought = some ⟨oc_Residues_nought, od_Residues_nought, .func (PySem.W.fnOf "nought" "Residues.nought" (defArgs s_Residues_nought) (defBody s_Residues_nought) (defScope s_Residues_nought) .none kV_Residues_nought dc_Residues_nought pm_Residues_nought an_Residues_nought cd_Residues_nought ct_Residues_nought), sl_Residues_nought⟩)
    (c_Residues_nought : PySem.W.codeIn K cd_Residues_nought "Residues.nought" = true)
    (k_Residues_nought : PySem.W.keepIn K (.ref a_Residues_nought) = true)
    (n_Residues_plus : PySem.W.findIn K (.ref a_Residues) "plus" = some (some (.ref a_Residues_plus)))
    (i_Residues_plus : PySem.W.isFn K (.ref a_Residues_plus) = true)
    (l_Residues_plus : K.lookup a_Residues_plus = some ⟨oc_Residues_plus, od_Residues_plus, .func (PySem.W.fnOf "plus" "Residues.plus" (defArgs s_Residues_plus) (defBody s_Residues_plus) (defScope s_Residues_plus) .none kV_Residues_plus dc_Residues_plus pm_Residues_plus an_Residues_plus cd_Residues_plus ct_Residues_plus), sl_Residues_plus⟩)
    (c_Residues_plus : PySem.W.codeIn K cd_Residues_plus "Residues.plus" = true)
    (k_Residues_plus : PySem.W.keepIn K (.ref a_Residues_plus) = true)
    (n_Residues_times : PySem.W.findIn K (.ref a_Residues) "times" = some (some (.ref a_Residues_times)))
    (i_Residues_times : PySem.W.isFn K (.ref a_Residues_times) = true)
    (l_Residues_times : K.lookup a_Residues_times = some ⟨oc_Residues_times, od_Residues_times, .func (PySem.W.fnOf "times" "Residues.times" (defArgs s_Residues_times) (defBody s_Residues_times) (defScope s_Residues_times) .none kV_Residues_times dc_Residues_times pm_Residues_times an_Residues_times cd_Residues_times ct_Residues_times), sl_Residues_times⟩)
    (c_Residues_times : PySem.W.codeIn K cd_Residues_times "Residues.times" = true)
    (k_Residues_times : PySem.W.keepIn K (.ref a_Residues_times) = true)
    (n_Costs_nought : PySem.W.findIn K (.ref a_Costs) "nought" = some (some (.ref a_Costs_nought)))
    (i_Costs_nought : PySem.W.isFn K (.ref a_Costs_nought) = true)
    (l_Costs_nought : K.lookup a_Costs_nought = some ⟨oc_Costs_nought, od_Costs_nought, .func (PySem.W.fnOf "nought" "Costs.nought" (defArgs s_Costs_nought) (defBody s_Costs_nought) (defScope s_Costs_nought) .none kV_Costs_nought dc_Costs_nought pm_Costs_nought an_Costs_nought cd_Costs_nought ct_Costs_nought), sl_Costs_nought⟩)
    (c_Costs_nought : PySem.W.codeIn K cd_Costs_nought "Costs.nought" = true)
    (k_Costs_nought : PySem.W.keepIn K (.ref a_Costs_nought) = true)
    (n_Costs_plus : PySem.W.findIn K (.ref a_Costs) "plus" = some (some (.ref a_Costs_plus)))
    (i_Costs_plus : PySem.W.isFn K (.ref a_Costs_plus) = true)
    (l_Costs_plus : K.lookup a_Costs_plus = some ⟨oc_Costs_plus, od_Costs_plus, .func (PySem.W.fnOf "plus" "Costs.plus" (defArgs s_Costs_plus) (defBody s_Costs_plus) (defScope s_Costs_plus) .none kV_Costs_plus dc_Costs_plus pm_Costs_plus an_Costs_plus cd_Costs_plus ct_Costs_plus), sl_Costs_plus⟩)
    (c_Costs_plus : PySem.W.codeIn K cd_Costs_plus "Costs.plus" = true)
    (k_Costs_plus : PySem.W.keepIn K (.ref a_Costs_plus) = true)
    (n_Costs_times : PySem.W.findIn K (.ref a_Costs) "times" = some (some (.ref a_Costs_times)))
    (i_Costs_times : PySem.W.isFn K (.ref a_Costs_times) = true)
    (l_Costs_times : K.lookup a_Costs_times = some ⟨oc_Costs_times, od_Costs_times, .func (PySem.W.fnOf "times" "Costs.times" (defArgs s_Costs_times) (defBody s_Costs_times) (defScope s_Costs_times) .none kV_Costs_times dc_Costs_times pm_Costs_times an_Costs_times cd_Costs_times ct_Costs_times), sl_Costs_times⟩)
    (c_Costs_times : PySem.W.codeIn K cd_Costs_times "Costs.times" = true)
    (k_Costs_times : PySem.W.keepIn K (.ref a_Costs_times) = true)
    (n_Truths_nought : PySem.W.findIn K (.ref a_Truths) "nought" = some (some (.ref a_Truths_nought)))
    (i_Truths_nought : PySem.W.isFn K (.ref a_Truths_nought) = true)
    (l_Truths_nought : K.lookup a_Truths_nought = some ⟨oc_Truths_nought, od_Truths_nought, .func (PySem.W.fnOf "nought" "Truths.nought" (defArgs s_Truths_nought) (defBody s_Truths_nought) (defScope s_Truths_nought) .none kV_Truths_nought dc_Truths_nought pm_Truths_nought an_Truths_nought cd_Truths_nought ct_Truths_nought), sl_Truths_nought⟩)
    (c_Truths_nought : PySem.W.codeIn K cd_Truths_nought "Truths.nought" = true)
    (k_Truths_nought : PySem.W.keepIn K (.ref a_Truths_nought) = true)
    (n_Truths_plus : PySem.W.findIn K (.ref a_Truths) "plus" = some (some (.ref a_Truths_plus)))
    (i_Truths_plus : PySem.W.isFn K (.ref a_Truths_plus) = true)
    (l_Truths_plus : K.lookup a_Truths_plus = some ⟨oc_Truths_plus, od_Truths_plus, .func (PySem.W.fnOf "plus" "Truths.plus" (defArgs s_Truths_plus) (defBody s_Truths_plus) (defScope s_Truths_plus) .none kV_Truths_plus dc_Truths_plus pm_Truths_plus an_Truths_plus cd_Truths_plus ct_Truths_plus), sl_Truths_plus⟩)
    (c_Truths_plus : PySem.W.codeIn K cd_Truths_plus "Truths.plus" = true)
    (k_Truths_plus : PySem.W.keepIn K (.ref a_Truths_plus) = true)
    (n_Truths_times : PySem.W.findIn K (.ref a_Truths) "times" = some (some (.ref a_Truths_times)))
    (i_Truths_times : PySem.W.isFn K (.ref a_Truths_times) = true)
    (l_Truths_times : K.lookup a_Truths_times = some ⟨oc_Truths_times, od_Truths_times, .func (PySem.W.fnOf "times" "Truths.times" (defArgs s_Truths_times) (defBody s_Truths_times) (defScope s_Truths_times) .none kV_Truths_times dc_Truths_times pm_Truths_times an_Truths_times cd_Truths_times ct_Truths_times), sl_Truths_times⟩)
    (c_Truths_times : PySem.W.codeIn K cd_Truths_times "Truths.times" = true)
    (k_Truths_times : PySem.W.keepIn K (.ref a_Truths_times) = true)
    (n_column_at : PySem.W.nsIn K mainGlobals "column_at" = some (some (.ref a_column_at)))
    (l_column_at : K.lookup a_column_at = some ⟨oc_column_at, od_column_at, .func (PySem.W.fnOf "column_at" "column_at" (defArgs s_column_at) (defBody s_column_at) (defScope s_column_at) .none kV_column_at dc_column_at pm_column_at an_column_at cd_column_at ct_column_at), sl_column_at⟩)
    (c_column_at : PySem.W.codeIn K cd_column_at "column_at" = true)
    (k_column_at : PySem.W.keepIn K (.ref a_column_at) = true)
    (n_columns_of : PySem.W.nsIn K mainGlobals "columns_of" = some (some (.ref a_columns_of)))
    (l_columns_of : K.lookup a_columns_of = some ⟨oc_columns_of, od_columns_of, .func (PySem.W.fnOf "columns_of" "columns_of" (defArgs s_columns_of) (defBody s_columns_of) (defScope s_columns_of) .none kV_columns_of dc_columns_of pm_columns_of an_columns_of cd_columns_of ct_columns_of), sl_columns_of⟩)
    (c_columns_of : PySem.W.codeIn K cd_columns_of "columns_of" = true)
    (k_columns_of : PySem.W.keepIn K (.ref a_columns_of) = true)
    (n_dot : PySem.W.nsIn K mainGlobals "dot" = some (some (.ref a_dot)))
    (l_dot : K.lookup a_dot = some ⟨oc_dot, od_dot, .func (PySem.W.fnOf "dot" "dot" (defArgs s_dot) (defBody s_dot) (defScope s_dot) .none kV_dot dc_dot pm_dot an_dot cd_dot ct_dot), sl_dot⟩)
    (c_dot : PySem.W.codeIn K cd_dot "dot" = true)
    (k_dot : PySem.W.keepIn K (.ref a_dot) = true)
    (n_row_by : PySem.W.nsIn K mainGlobals "row_by" = some (some (.ref a_row_by)))
    (l_row_by : K.lookup a_row_by = some ⟨oc_row_by, od_row_by, .func (PySem.W.fnOf "row_by" "row_by" (defArgs s_row_by) (defBody s_row_by) (defScope s_row_by) .none kV_row_by dc_row_by pm_row_by an_row_by cd_row_by ct_row_by), sl_row_by⟩)
    (c_row_by : PySem.W.codeIn K cd_row_by "row_by" = true)
    (k_row_by : PySem.W.keepIn K (.ref a_row_by) = true)
    (n_by_column : PySem.W.nsIn K mainGlobals "by_column" = some (some (.ref a_by_column)))
    (l_by_column : K.lookup a_by_column = some ⟨oc_by_column, od_by_column, .func (PySem.W.fnOf "by_column" "by_column" (defArgs s_by_column) (defBody s_by_column) (defScope s_by_column) .none kV_by_column dc_by_column pm_by_column an_by_column cd_by_column ct_by_column), sl_by_column⟩)
    (c_by_column : PySem.W.codeIn K cd_by_column "by_column" = true)
    (k_by_column : PySem.W.keepIn K (.ref a_by_column) = true)
    (n_by_table : PySem.W.nsIn K mainGlobals "by_table" = some (some (.ref a_by_table)))
    (l_by_table : K.lookup a_by_table = some ⟨oc_by_table, od_by_table, .func (PySem.W.fnOf "by_table" "by_table" (defArgs s_by_table) (defBody s_by_table) (defScope s_by_table) .none kV_by_table dc_by_table pm_by_table an_by_table cd_by_table ct_by_table), sl_by_table⟩)
    (c_by_table : PySem.W.codeIn K cd_by_table "by_table" = true)
    (k_by_table : PySem.W.keepIn K (.ref a_by_table) = true)
    (n_law_next : PySem.W.nsIn K mainGlobals "_law_next" = some (some (.ref a_law_next)))
    (l_law_next : K.lookup a_law_next = some ⟨oc_law_next, od_law_next, .func (PySem.W.fnOf "_law_next" "_law_next" (defArgs s_law_next) (defBody s_law_next) (defScope s_law_next) .none kV_law_next dc_law_next pm_law_next an_law_next cd_law_next ct_law_next), sl_law_next⟩)
    (c_law_next : PySem.W.codeIn K cd_law_next "_law_next" = true)
    (k_law_next : PySem.W.keepIn K (.ref a_law_next) = true)
    (n_law_state : PySem.W.nsIn K mainGlobals "_law_state" = some (some (.ref a_law_state)))
    (l_law_state : K.lookup a_law_state = some ⟨oc_law_state, od_law_state, .func (PySem.W.fnOf "_law_state" "_law_state" (defArgs s_law_state) (defBody s_law_state) (defScope s_law_state) .none kV_law_state dc_law_state pm_law_state an_law_state cd_law_state ct_law_state), sl_law_state⟩)
    (c_law_state : PySem.W.codeIn K cd_law_state "_law_state" = true)
    (k_law_state : PySem.W.keepIn K (.ref a_law_state) = true)
    (n_law_low : PySem.W.nsIn K mainGlobals "_law_low" = some (some (.ref a_law_low)))
    (l_law_low : K.lookup a_law_low = some ⟨oc_law_low, od_law_low, .func (PySem.W.fnOf "_law_low" "_law_low" (defArgs s_law_low) (defBody s_law_low) (defScope s_law_low) .none kV_law_low dc_law_low pm_law_low an_law_low cd_law_low ct_law_low), sl_law_low⟩)
    (c_law_low : PySem.W.codeIn K cd_law_low "_law_low" = true)
    (k_law_low : PySem.W.keepIn K (.ref a_law_low) = true)
    (n_law_plus : PySem.W.nsIn K mainGlobals "_law_plus" = some (some (.ref a_law_plus)))
    (l_law_plus : K.lookup a_law_plus = some ⟨oc_law_plus, od_law_plus, .func (PySem.W.fnOf "_law_plus" "_law_plus" (defArgs s_law_plus) (defBody s_law_plus) (defScope s_law_plus) .none kV_law_plus dc_law_plus pm_law_plus an_law_plus cd_law_plus ct_law_plus), sl_law_plus⟩)
    (c_law_plus : PySem.W.codeIn K cd_law_plus "_law_plus" = true)
    (k_law_plus : PySem.W.keepIn K (.ref a_law_plus) = true)
    (n_law_times : PySem.W.nsIn K mainGlobals "_law_times" = some (some (.ref a_law_times)))
    (l_law_times : K.lookup a_law_times = some ⟨oc_law_times, od_law_times, .func (PySem.W.fnOf "_law_times" "_law_times" (defArgs s_law_times) (defBody s_law_times) (defScope s_law_times) .none kV_law_times dc_law_times pm_law_times an_law_times cd_law_times ct_law_times), sl_law_times⟩)
    (c_law_times : PySem.W.codeIn K cd_law_times "_law_times" = true)
    (k_law_times : PySem.W.keepIn K (.ref a_law_times) = true)
    (n_law_nought : PySem.W.nsIn K mainGlobals "_law_nought" = some (some (.ref a_law_nought)))
    (l_law_nought : K.lookup a_law_nought = some ⟨oc_law_nought, od_law_nought, .func (PySem.W.fnOf "_law_nought" "_law_nought" (defArgs s_law_nought) (defBody s_law_nought) (defScope s_law_nought) .none kV_law_nought dc_law_nought pm_law_nought an_law_nought cd_law_nought ct_law_nought), sl_law_nought⟩)
    (c_law_nought : PySem.W.codeIn K cd_law_nought "_law_nought" = true)
    (k_law_nought : PySem.W.keepIn K (.ref a_law_nought) = true)
    (n_law_sort : PySem.W.nsIn K mainGlobals "_law_sort" = some (some (.ref a_law_sort)))
    (l_law_sort : K.lookup a_law_sort = some ⟨oc_law_sort, od_law_sort, .func (PySem.W.fnOf "_law_sort" "_law_sort" (defArgs s_law_sort) (defBody s_law_sort) (defScope s_law_sort) .none kV_law_sort dc_law_sort pm_law_sort an_law_sort cd_law_sort ct_law_sort), sl_law_sort⟩)
    (c_law_sort : PySem.W.codeIn K cd_law_sort "_law_sort" = true)
    (k_law_sort : PySem.W.keepIn K (.ref a_law_sort) = true)
    (n_law_kind : PySem.W.nsIn K mainGlobals "_law_kind" = some (some (.ref a_law_kind)))
    (l_law_kind : K.lookup a_law_kind = some ⟨oc_law_kind, od_law_kind, .func (PySem.W.fnOf "_law_kind" "_law_kind" (defArgs s_law_kind) (defBody s_law_kind) (defScope s_law_kind) .none kV_law_kind dc_law_kind pm_law_kind an_law_kind cd_law_kind ct_law_kind), sl_law_kind⟩)
    (c_law_kind : PySem.W.codeIn K cd_law_kind "_law_kind" = true)
    (k_law_kind : PySem.W.keepIn K (.ref a_law_kind) = true)
    (n_law_weight : PySem.W.nsIn K mainGlobals "_law_weight" = some (some (.ref a_law_weight)))
    (l_law_weight : K.lookup a_law_weight = some ⟨oc_law_weight, od_law_weight, .func (PySem.W.fnOf "_law_weight" "_law_weight" (defArgs s_law_weight) (defBody s_law_weight) (defScope s_law_weight) .none kV_law_weight dc_law_weight pm_law_weight an_law_weight cd_law_weight ct_law_weight), sl_law_weight⟩)
    (c_law_weight : PySem.W.codeIn K cd_law_weight "_law_weight" = true)
    (k_law_weight : PySem.W.keepIn K (.ref a_law_weight) = true)
    (n_law_line : PySem.W.nsIn K mainGlobals "_law_line" = some (some (.ref a_law_line)))
    (l_law_line : K.lookup a_law_line = some ⟨oc_law_line, od_law_line, .func (PySem.W.fnOf "_law_line" "_law_line" (defArgs s_law_line) (defBody s_law_line) (defScope s_law_line) .none kV_law_line dc_law_line pm_law_line an_law_line cd_law_line ct_law_line), sl_law_line⟩)
    (c_law_line : PySem.W.codeIn K cd_law_line "_law_line" = true)
    (k_law_line : PySem.W.keepIn K (.ref a_law_line) = true)
    (n_law_table : PySem.W.nsIn K mainGlobals "_law_table" = some (some (.ref a_law_table)))
    (l_law_table : K.lookup a_law_table = some ⟨oc_law_table, od_law_table, .func (PySem.W.fnOf "_law_table" "_law_table" (defArgs s_law_table) (defBody s_law_table) (defScope s_law_table) .none kV_law_table dc_law_table pm_law_table an_law_table cd_law_table ct_law_table), sl_law_table⟩)
    (c_law_table : PySem.W.codeIn K cd_law_table "_law_table" = true)
    (k_law_table : PySem.W.keepIn K (.ref a_law_table) = true)
    (n_law_dot : PySem.W.nsIn K mainGlobals "_law_dot" = some (some (.ref a_law_dot)))
    (l_law_dot : K.lookup a_law_dot = some ⟨oc_law_dot, od_law_dot, .func (PySem.W.fnOf "_law_dot" "_law_dot" (defArgs s_law_dot) (defBody s_law_dot) (defScope s_law_dot) .none kV_law_dot dc_law_dot pm_law_dot an_law_dot cd_law_dot ct_law_dot), sl_law_dot⟩)
    (c_law_dot : PySem.W.codeIn K cd_law_dot "_law_dot" = true)
    (k_law_dot : PySem.W.keepIn K (.ref a_law_dot) = true)
    (n_law_same : PySem.W.nsIn K mainGlobals "_law_same" = some (some (.ref a_law_same)))
    (l_law_same : K.lookup a_law_same = some ⟨oc_law_same, od_law_same, .func (PySem.W.fnOf "_law_same" "_law_same" (defArgs s_law_same) (defBody s_law_same) (defScope s_law_same) .none kV_law_same dc_law_same pm_law_same an_law_same cd_law_same ct_law_same), sl_law_same⟩)
    (c_law_same : PySem.W.codeIn K cd_law_same "_law_same" = true)
    (k_law_same : PySem.W.keepIn K (.ref a_law_same) = true)
    (n_law_all_same : PySem.W.nsIn K mainGlobals "_law_all_same" = some (some (.ref a_law_all_same)))
    (l_law_all_same : K.lookup a_law_all_same = some ⟨oc_law_all_same, od_law_all_same, .func (PySem.W.fnOf "_law_all_same" "_law_all_same" (defArgs s_law_all_same) (defBody s_law_all_same) (defScope s_law_all_same) .none kV_law_all_same dc_law_all_same pm_law_all_same an_law_all_same cd_law_all_same ct_law_all_same), sl_law_all_same⟩)
    (c_law_all_same : PySem.W.codeIn K cd_law_all_same "_law_all_same" = true)
    (k_law_all_same : PySem.W.keepIn K (.ref a_law_all_same) = true)
    (n_law_tables_same : PySem.W.nsIn K mainGlobals "_law_tables_same" = some (some (.ref a_law_tables_same)))
    (l_law_tables_same : K.lookup a_law_tables_same = some ⟨oc_law_tables_same, od_law_tables_same, .func (PySem.W.fnOf "_law_tables_same" "_law_tables_same" (defArgs s_law_tables_same) (defBody s_law_tables_same) (defScope s_law_tables_same) .none kV_law_tables_same dc_law_tables_same pm_law_tables_same an_law_tables_same cd_law_tables_same ct_law_tables_same), sl_law_tables_same⟩)
    (c_law_tables_same : PySem.W.codeIn K cd_law_tables_same "_law_tables_same" = true)
    (k_law_tables_same : PySem.W.keepIn K (.ref a_law_tables_same) = true)
    (n_law_row_by : PySem.W.nsIn K mainGlobals "_law_row_by" = some (some (.ref a_law_row_by)))
    (l_law_row_by : K.lookup a_law_row_by = some ⟨oc_law_row_by, od_law_row_by, .func (PySem.W.fnOf "_law_row_by" "_law_row_by" (defArgs s_law_row_by) (defBody s_law_row_by) (defScope s_law_row_by) .none kV_law_row_by dc_law_row_by pm_law_row_by an_law_row_by cd_law_row_by ct_law_row_by), sl_law_row_by⟩)
    (c_law_row_by : PySem.W.codeIn K cd_law_row_by "_law_row_by" = true)
    (k_law_row_by : PySem.W.keepIn K (.ref a_law_row_by) = true)
    (n_law : PySem.W.nsIn K mainGlobals "law" = some (some (.ref a_law)))
    (l_law : K.lookup a_law = some ⟨oc_law, od_law, .func (PySem.W.fnOf "law" "law" (defArgs s_law) (defBody s_law) (defScope s_law) .none kV_law dc_law pm_law an_law cd_law ct_law), sl_law⟩)
    (c_law : PySem.W.codeIn K cd_law "law" = true)
    (k_law : PySem.W.keepIn K (.ref a_law) = true)
    (z_isinstance : PySem.W.nsIn K mainGlobals "isinstance" = some none)
    (z_int : PySem.W.nsIn K mainGlobals "int" = some none)
    (z_bool : PySem.W.nsIn K mainGlobals "bool" = some none)
    (z_abs : PySem.W.nsIn K mainGlobals "abs" = some none)
    {tk_c_GREATEST_PRIME : Tok} (c_GREATEST_PRIME : PySem.W.nsIn K mainGlobals "GREATEST_PRIME" = some (some (.int 1000000 tk_c_GREATEST_PRIME)))
    (z_min : PySem.W.nsIn K mainGlobals "min" = some none)
    (z_tuple : PySem.W.nsIn K mainGlobals "tuple" = some none)
    (z_len : PySem.W.nsIn K mainGlobals "len" = some none)
    (z_range : PySem.W.nsIn K mainGlobals "range" = some none)
    (z_zip : PySem.W.nsIn K mainGlobals "zip" = some none)
    (k_ii : PySem.W.kitOne K (.type "int") (.type "int") = some true)
    (k_ib : PySem.W.kitOne K (.type "int") (.type "bool") = some false)
    (k_tt : PySem.W.kitOne K (.type "tuple") (.type "tuple") = some true)
    (k_bb : PySem.W.kitOne K (.type "bool") (.type "bool") = some true)
    (nP : PySem.W.findIn K (.ref a_Residues) "prime" = some none)
    : ∃ t : Adr, Txt K mg t :=
  ⟨{ is_whole := a_is_whole, d_is_whole := PySem.W.fnOf "is_whole" "is_whole" (defArgs s_is_whole) (defBody s_is_whole) (defScope s_is_whole) .none kV_is_whole dc_is_whole pm_is_whole an_is_whole cd_is_whole ct_is_whole, divisor := a_divisor, d_divisor := PySem.W.fnOf "divisor" "divisor" (defArgs s_divisor) (defBody s_divisor) (defScope s_divisor) .none kV_divisor dc_divisor pm_divisor an_divisor cd_divisor ct_divisor, fraction := a_fraction, d_fraction := PySem.W.fnOf "fraction" "fraction" (defArgs s_fraction) (defBody s_fraction) (defScope s_fraction) .none kV_fraction dc_fraction pm_fraction an_fraction cd_fraction ct_fraction, is_prime := a_is_prime, d_is_prime := PySem.W.fnOf "is_prime" "is_prime" (defArgs s_is_prime) (defBody s_is_prime) (defScope s_is_prime) .none kV_is_prime dc_is_prime pm_is_prime an_is_prime cd_is_prime ct_is_prime, Fractions_nought := a_Fractions_nought, d_Fractions_nought := PySem.W.fnOf "nought" "Fractions.nought" (defArgs s_Fractions_nought) (defBody s_Fractions_nought) (defScope s_Fractions_nought) .none kV_Fractions_nought dc_Fractions_nought pm_Fractions_nought an_Fractions_nought cd_Fractions_nought ct_Fractions_nought, Fractions_plus := a_Fractions_plus, d_Fractions_plus := PySem.W.fnOf "plus" "Fractions.plus" (defArgs s_Fractions_plus) (defBody s_Fractions_plus) (defScope s_Fractions_plus) .none kV_Fractions_plus dc_Fractions_plus pm_Fractions_plus an_Fractions_plus cd_Fractions_plus ct_Fractions_plus, Fractions_times := a_Fractions_times, d_Fractions_times := PySem.W.fnOf "times" "Fractions.times" (defArgs s_Fractions_times) (defBody s_Fractions_times) (defScope s_Fractions_times) .none kV_Fractions_times dc_Fractions_times pm_Fractions_times an_Fractions_times cd_Fractions_times ct_Fractions_times, Residues___init__ := a_Residues___init__, d_Residues___init__ := PySem.W.fnOf "__init__" "Residues.__init__" (defArgs s_Residues___init__) (defBody s_Residues___init__) (defScope s_Residues___init__) .none kV_Residues___init__ dc_Residues___init__ pm_Residues___init__ an_Residues___init__ cd_Residues___init__ ct_Residues___init__, Residues_nought := a_Residues_nought, d_Residues_nought := PySem.W.fnOf "nought" "Residues.nought" (defArgs s_Residues_nought) (defBody s_Residues_nought) (defScope s_Residues_nought) .none kV_Residues_nought dc_Residues_nought pm_Residues_nought an_Residues_nought cd_Residues_nought ct_Residues_nought, Residues_plus := a_Residues_plus, d_Residues_plus := PySem.W.fnOf "plus" "Residues.plus" (defArgs s_Residues_plus) (defBody s_Residues_plus) (defScope s_Residues_plus) .none kV_Residues_plus dc_Residues_plus pm_Residues_plus an_Residues_plus cd_Residues_plus ct_Residues_plus, Residues_times := a_Residues_times, d_Residues_times := PySem.W.fnOf "times" "Residues.times" (defArgs s_Residues_times) (defBody s_Residues_times) (defScope s_Residues_times) .none kV_Residues_times dc_Residues_times pm_Residues_times an_Residues_times cd_Residues_times ct_Residues_times, Costs_nought := a_Costs_nought, d_Costs_nought := PySem.W.fnOf "nought" "Costs.nought" (defArgs s_Costs_nought) (defBody s_Costs_nought) (defScope s_Costs_nought) .none kV_Costs_nought dc_Costs_nought pm_Costs_nought an_Costs_nought cd_Costs_nought ct_Costs_nought, Costs_plus := a_Costs_plus, d_Costs_plus := PySem.W.fnOf "plus" "Costs.plus" (defArgs s_Costs_plus) (defBody s_Costs_plus) (defScope s_Costs_plus) .none kV_Costs_plus dc_Costs_plus pm_Costs_plus an_Costs_plus cd_Costs_plus ct_Costs_plus, Costs_times := a_Costs_times, d_Costs_times := PySem.W.fnOf "times" "Costs.times" (defArgs s_Costs_times) (defBody s_Costs_times) (defScope s_Costs_times) .none kV_Costs_times dc_Costs_times pm_Costs_times an_Costs_times cd_Costs_times ct_Costs_times, Truths_nought := a_Truths_nought, d_Truths_nought := PySem.W.fnOf "nought" "Truths.nought" (defArgs s_Truths_nought) (defBody s_Truths_nought) (defScope s_Truths_nought) .none kV_Truths_nought dc_Truths_nought pm_Truths_nought an_Truths_nought cd_Truths_nought ct_Truths_nought, Truths_plus := a_Truths_plus, d_Truths_plus := PySem.W.fnOf "plus" "Truths.plus" (defArgs s_Truths_plus) (defBody s_Truths_plus) (defScope s_Truths_plus) .none kV_Truths_plus dc_Truths_plus pm_Truths_plus an_Truths_plus cd_Truths_plus ct_Truths_plus, Truths_times := a_Truths_times, d_Truths_times := PySem.W.fnOf "times" "Truths.times" (defArgs s_Truths_times) (defBody s_Truths_times) (defScope s_Truths_times) .none kV_Truths_times dc_Truths_times pm_Truths_times an_Truths_times cd_Truths_times ct_Truths_times, column_at := a_column_at, d_column_at := PySem.W.fnOf "column_at" "column_at" (defArgs s_column_at) (defBody s_column_at) (defScope s_column_at) .none kV_column_at dc_column_at pm_column_at an_column_at cd_column_at ct_column_at, columns_of := a_columns_of, d_columns_of := PySem.W.fnOf "columns_of" "columns_of" (defArgs s_columns_of) (defBody s_columns_of) (defScope s_columns_of) .none kV_columns_of dc_columns_of pm_columns_of an_columns_of cd_columns_of ct_columns_of, dot := a_dot, d_dot := PySem.W.fnOf "dot" "dot" (defArgs s_dot) (defBody s_dot) (defScope s_dot) .none kV_dot dc_dot pm_dot an_dot cd_dot ct_dot, row_by := a_row_by, d_row_by := PySem.W.fnOf "row_by" "row_by" (defArgs s_row_by) (defBody s_row_by) (defScope s_row_by) .none kV_row_by dc_row_by pm_row_by an_row_by cd_row_by ct_row_by, by_column := a_by_column, d_by_column := PySem.W.fnOf "by_column" "by_column" (defArgs s_by_column) (defBody s_by_column) (defScope s_by_column) .none kV_by_column dc_by_column pm_by_column an_by_column cd_by_column ct_by_column, by_table := a_by_table, d_by_table := PySem.W.fnOf "by_table" "by_table" (defArgs s_by_table) (defBody s_by_table) (defScope s_by_table) .none kV_by_table dc_by_table pm_by_table an_by_table cd_by_table ct_by_table, law_next := a_law_next, d_law_next := PySem.W.fnOf "_law_next" "_law_next" (defArgs s_law_next) (defBody s_law_next) (defScope s_law_next) .none kV_law_next dc_law_next pm_law_next an_law_next cd_law_next ct_law_next, law_state := a_law_state, d_law_state := PySem.W.fnOf "_law_state" "_law_state" (defArgs s_law_state) (defBody s_law_state) (defScope s_law_state) .none kV_law_state dc_law_state pm_law_state an_law_state cd_law_state ct_law_state, law_low := a_law_low, d_law_low := PySem.W.fnOf "_law_low" "_law_low" (defArgs s_law_low) (defBody s_law_low) (defScope s_law_low) .none kV_law_low dc_law_low pm_law_low an_law_low cd_law_low ct_law_low, law_plus := a_law_plus, d_law_plus := PySem.W.fnOf "_law_plus" "_law_plus" (defArgs s_law_plus) (defBody s_law_plus) (defScope s_law_plus) .none kV_law_plus dc_law_plus pm_law_plus an_law_plus cd_law_plus ct_law_plus, law_times := a_law_times, d_law_times := PySem.W.fnOf "_law_times" "_law_times" (defArgs s_law_times) (defBody s_law_times) (defScope s_law_times) .none kV_law_times dc_law_times pm_law_times an_law_times cd_law_times ct_law_times, law_nought := a_law_nought, d_law_nought := PySem.W.fnOf "_law_nought" "_law_nought" (defArgs s_law_nought) (defBody s_law_nought) (defScope s_law_nought) .none kV_law_nought dc_law_nought pm_law_nought an_law_nought cd_law_nought ct_law_nought, law_sort := a_law_sort, d_law_sort := PySem.W.fnOf "_law_sort" "_law_sort" (defArgs s_law_sort) (defBody s_law_sort) (defScope s_law_sort) .none kV_law_sort dc_law_sort pm_law_sort an_law_sort cd_law_sort ct_law_sort, law_kind := a_law_kind, d_law_kind := PySem.W.fnOf "_law_kind" "_law_kind" (defArgs s_law_kind) (defBody s_law_kind) (defScope s_law_kind) .none kV_law_kind dc_law_kind pm_law_kind an_law_kind cd_law_kind ct_law_kind, law_weight := a_law_weight, d_law_weight := PySem.W.fnOf "_law_weight" "_law_weight" (defArgs s_law_weight) (defBody s_law_weight) (defScope s_law_weight) .none kV_law_weight dc_law_weight pm_law_weight an_law_weight cd_law_weight ct_law_weight, law_line := a_law_line, d_law_line := PySem.W.fnOf "_law_line" "_law_line" (defArgs s_law_line) (defBody s_law_line) (defScope s_law_line) .none kV_law_line dc_law_line pm_law_line an_law_line cd_law_line ct_law_line, law_table := a_law_table, d_law_table := PySem.W.fnOf "_law_table" "_law_table" (defArgs s_law_table) (defBody s_law_table) (defScope s_law_table) .none kV_law_table dc_law_table pm_law_table an_law_table cd_law_table ct_law_table, law_dot := a_law_dot, d_law_dot := PySem.W.fnOf "_law_dot" "_law_dot" (defArgs s_law_dot) (defBody s_law_dot) (defScope s_law_dot) .none kV_law_dot dc_law_dot pm_law_dot an_law_dot cd_law_dot ct_law_dot, law_same := a_law_same, d_law_same := PySem.W.fnOf "_law_same" "_law_same" (defArgs s_law_same) (defBody s_law_same) (defScope s_law_same) .none kV_law_same dc_law_same pm_law_same an_law_same cd_law_same ct_law_same, law_all_same := a_law_all_same, d_law_all_same := PySem.W.fnOf "_law_all_same" "_law_all_same" (defArgs s_law_all_same) (defBody s_law_all_same) (defScope s_law_all_same) .none kV_law_all_same dc_law_all_same pm_law_all_same an_law_all_same cd_law_all_same ct_law_all_same, law_tables_same := a_law_tables_same, d_law_tables_same := PySem.W.fnOf "_law_tables_same" "_law_tables_same" (defArgs s_law_tables_same) (defBody s_law_tables_same) (defScope s_law_tables_same) .none kV_law_tables_same dc_law_tables_same pm_law_tables_same an_law_tables_same cd_law_tables_same ct_law_tables_same, law_row_by := a_law_row_by, d_law_row_by := PySem.W.fnOf "_law_row_by" "_law_row_by" (defArgs s_law_row_by) (defBody s_law_row_by) (defScope s_law_row_by) .none kV_law_row_by dc_law_row_by pm_law_row_by an_law_row_by cd_law_row_by ct_law_row_by, law := a_law, d_law := PySem.W.fnOf "law" "law" (defArgs s_law) (defBody s_law) (defScope s_law) .none kV_law dc_law pm_law an_law cd_law ct_law, Fractions := a_Fractions, Residues := a_Residues, Costs := a_Costs, Truths := a_Truths },
    { F_is_whole := fun_mk (st := s_is_whole) l_is_whole c_is_whole k_is_whole,
      b_is_whole := (fun_mk (st := s_is_whole) l_is_whole c_is_whole k_is_whole).binds (ps := ["thing"]) fun _ _ _ _ _ _ us hl => match us, hl with | [_], _ => rfl,
      m_is_whole := PySem.W.mg_of X G n_is_whole,
      F_divisor := fun_mk (st := s_divisor) l_divisor c_divisor k_divisor,
      b_divisor := (fun_mk (st := s_divisor) l_divisor c_divisor k_divisor).binds (ps := ["one", "other"]) fun _ _ _ _ _ _ us hl => match us, hl with | [_, _], _ => rfl,
      m_divisor := PySem.W.mg_of X G n_divisor,
      F_fraction := fun_mk (st := s_fraction) l_fraction c_fraction k_fraction,
      b_fraction := (fun_mk (st := s_fraction) l_fraction c_fraction k_fraction).binds (ps := ["top", "bottom"]) fun _ _ _ _ _ _ us hl => match us, hl with | [_, _], _ => rfl,
      m_fraction := PySem.W.mg_of X G n_fraction,
      F_is_prime := fun_mk (st := s_is_prime) l_is_prime c_is_prime k_is_prime,
      b_is_prime := (fun_mk (st := s_is_prime) l_is_prime c_is_prime k_is_prime).binds (ps := ["number"]) fun _ _ _ _ _ _ us hl => match us, hl with | [_], _ => rfl,
      m_is_prime := PySem.W.mg_of X G n_is_prime,
      F_Fractions_nought := fun_mk (st := s_Fractions_nought) l_Fractions_nought c_Fractions_nought k_Fractions_nought,
      b_Fractions_nought := (fun_mk (st := s_Fractions_nought) l_Fractions_nought c_Fractions_nought k_Fractions_nought).binds (ps := ["self"]) fun _ _ _ _ _ _ us hl => match us, hl with | [_], _ => rfl,
      t_Fractions_nought := ⟨n_Fractions_nought, i_Fractions_nought, k_Fractions_nought⟩,
      F_Fractions_plus := fun_mk (st := s_Fractions_plus) l_Fractions_plus c_Fractions_plus k_Fractions_plus,
      b_Fractions_plus := (fun_mk (st := s_Fractions_plus) l_Fractions_plus c_Fractions_plus k_Fractions_plus).binds (ps := ["self", "x", "y"]) fun _ _ _ _ _ _ us hl => match us, hl with | [_, _, _], _ => rfl,
      t_Fractions_plus := ⟨n_Fractions_plus, i_Fractions_plus, k_Fractions_plus⟩,
      F_Fractions_times := fun_mk (st := s_Fractions_times) l_Fractions_times c_Fractions_times k_Fractions_times,
      b_Fractions_times := (fun_mk (st := s_Fractions_times) l_Fractions_times c_Fractions_times k_Fractions_times).binds (ps := ["self", "x", "y"]) fun _ _ _ _ _ _ us hl => match us, hl with | [_, _, _], _ => rfl,
      t_Fractions_times := ⟨n_Fractions_times, i_Fractions_times, k_Fractions_times⟩,
      F_Residues___init__ := fun_mk (st := s_Residues___init__) l_Residues___init__ c_Residues___init__ k_Residues___init__,
      b_Residues___init__ := (fun_mk (st := s_Residues___init__) l_Residues___init__ c_Residues___init__ k_Residues___init__).binds (ps := ["self", "prime"]) fun _ _ _ _ _ _ us hl => match us, hl with | [_, _], _ => rfl,
      t_Residues___init__ := ⟨n_Residues___init__, i_Residues___init__, k_Residues___init__⟩,
      F_Residues_nought := fun_mk (st := s_Residues_nought) l_Residues_nought c_Residues_nought k_Residues_nought,
      b_Residues_nought := (fun_mk (st := s_Residues_nought) l_Residues_nought c_Residues_nought k_Residues_nought).binds (ps := ["self"]) fun _ _ _ _ _ _ us hl => match us, hl with | [_], _ => rfl,
      t_Residues_nought := ⟨n_Residues_nought, i_Residues_nought, k_Residues_nought⟩,
      F_Residues_plus := fun_mk (st := s_Residues_plus) l_Residues_plus c_Residues_plus k_Residues_plus,
      b_Residues_plus := (fun_mk (st := s_Residues_plus) l_Residues_plus c_Residues_plus k_Residues_plus).binds (ps := ["self", "x", "y"]) fun _ _ _ _ _ _ us hl => match us, hl with | [_, _, _], _ => rfl,
      t_Residues_plus := ⟨n_Residues_plus, i_Residues_plus, k_Residues_plus⟩,
      F_Residues_times := fun_mk (st := s_Residues_times) l_Residues_times c_Residues_times k_Residues_times,
      b_Residues_times := (fun_mk (st := s_Residues_times) l_Residues_times c_Residues_times k_Residues_times).binds (ps := ["self", "x", "y"]) fun _ _ _ _ _ _ us hl => match us, hl with | [_, _, _], _ => rfl,
      t_Residues_times := ⟨n_Residues_times, i_Residues_times, k_Residues_times⟩,
      F_Costs_nought := fun_mk (st := s_Costs_nought) l_Costs_nought c_Costs_nought k_Costs_nought,
      b_Costs_nought := (fun_mk (st := s_Costs_nought) l_Costs_nought c_Costs_nought k_Costs_nought).binds (ps := ["self"]) fun _ _ _ _ _ _ us hl => match us, hl with | [_], _ => rfl,
      t_Costs_nought := ⟨n_Costs_nought, i_Costs_nought, k_Costs_nought⟩,
      F_Costs_plus := fun_mk (st := s_Costs_plus) l_Costs_plus c_Costs_plus k_Costs_plus,
      b_Costs_plus := (fun_mk (st := s_Costs_plus) l_Costs_plus c_Costs_plus k_Costs_plus).binds (ps := ["self", "x", "y"]) fun _ _ _ _ _ _ us hl => match us, hl with | [_, _, _], _ => rfl,
      t_Costs_plus := ⟨n_Costs_plus, i_Costs_plus, k_Costs_plus⟩,
      F_Costs_times := fun_mk (st := s_Costs_times) l_Costs_times c_Costs_times k_Costs_times,
      b_Costs_times := (fun_mk (st := s_Costs_times) l_Costs_times c_Costs_times k_Costs_times).binds (ps := ["self", "x", "y"]) fun _ _ _ _ _ _ us hl => match us, hl with | [_, _, _], _ => rfl,
      t_Costs_times := ⟨n_Costs_times, i_Costs_times, k_Costs_times⟩,
      F_Truths_nought := fun_mk (st := s_Truths_nought) l_Truths_nought c_Truths_nought k_Truths_nought,
      b_Truths_nought := (fun_mk (st := s_Truths_nought) l_Truths_nought c_Truths_nought k_Truths_nought).binds (ps := ["self"]) fun _ _ _ _ _ _ us hl => match us, hl with | [_], _ => rfl,
      t_Truths_nought := ⟨n_Truths_nought, i_Truths_nought, k_Truths_nought⟩,
      F_Truths_plus := fun_mk (st := s_Truths_plus) l_Truths_plus c_Truths_plus k_Truths_plus,
      b_Truths_plus := (fun_mk (st := s_Truths_plus) l_Truths_plus c_Truths_plus k_Truths_plus).binds (ps := ["self", "x", "y"]) fun _ _ _ _ _ _ us hl => match us, hl with | [_, _, _], _ => rfl,
      t_Truths_plus := ⟨n_Truths_plus, i_Truths_plus, k_Truths_plus⟩,
      F_Truths_times := fun_mk (st := s_Truths_times) l_Truths_times c_Truths_times k_Truths_times,
      b_Truths_times := (fun_mk (st := s_Truths_times) l_Truths_times c_Truths_times k_Truths_times).binds (ps := ["self", "x", "y"]) fun _ _ _ _ _ _ us hl => match us, hl with | [_, _, _], _ => rfl,
      t_Truths_times := ⟨n_Truths_times, i_Truths_times, k_Truths_times⟩,
      F_column_at := fun_mk (st := s_column_at) l_column_at c_column_at k_column_at,
      b_column_at := (fun_mk (st := s_column_at) l_column_at c_column_at k_column_at).binds (ps := ["table", "place"]) fun _ _ _ _ _ _ us hl => match us, hl with | [_, _], _ => rfl,
      m_column_at := PySem.W.mg_of X G n_column_at,
      F_columns_of := fun_mk (st := s_columns_of) l_columns_of c_columns_of k_columns_of,
      b_columns_of := (fun_mk (st := s_columns_of) l_columns_of c_columns_of k_columns_of).binds (ps := ["table"]) fun _ _ _ _ _ _ us hl => match us, hl with | [_], _ => rfl,
      m_columns_of := PySem.W.mg_of X G n_columns_of,
      F_dot := fun_mk (st := s_dot) l_dot c_dot k_dot,
      b_dot := (fun_mk (st := s_dot) l_dot c_dot k_dot).binds (ps := ["kind", "row", "column"]) fun _ _ _ _ _ _ us hl => match us, hl with | [_, _, _], _ => rfl,
      m_dot := PySem.W.mg_of X G n_dot,
      F_row_by := fun_mk (st := s_row_by) l_row_by c_row_by k_row_by,
      b_row_by := (fun_mk (st := s_row_by) l_row_by c_row_by k_row_by).binds (ps := ["kind", "row", "table"]) fun _ _ _ _ _ _ us hl => match us, hl with | [_, _, _], _ => rfl,
      m_row_by := PySem.W.mg_of X G n_row_by,
      F_by_column := fun_mk (st := s_by_column) l_by_column c_by_column k_by_column,
      b_by_column := (fun_mk (st := s_by_column) l_by_column c_by_column k_by_column).binds (ps := ["kind", "table", "column"]) fun _ _ _ _ _ _ us hl => match us, hl with | [_, _, _], _ => rfl,
      m_by_column := PySem.W.mg_of X G n_by_column,
      F_by_table := fun_mk (st := s_by_table) l_by_table c_by_table k_by_table,
      b_by_table := (fun_mk (st := s_by_table) l_by_table c_by_table k_by_table).binds (ps := ["kind", "one", "other"]) fun _ _ _ _ _ _ us hl => match us, hl with | [_, _, _], _ => rfl,
      m_by_table := PySem.W.mg_of X G n_by_table,
      F_law_next := fun_mk (st := s_law_next) l_law_next c_law_next k_law_next,
      b_law_next := (fun_mk (st := s_law_next) l_law_next c_law_next k_law_next).binds (ps := ["_law_state_here", "_law_many"]) fun _ _ _ _ _ _ us hl => match us, hl with | [_, _], _ => rfl,
      m_law_next := PySem.W.mg_of X G n_law_next,
      F_law_state := fun_mk (st := s_law_state) l_law_state c_law_state k_law_state,
      b_law_state := (fun_mk (st := s_law_state) l_law_state c_law_state k_law_state).binds (ps := ["_law_script"]) fun _ _ _ _ _ _ us hl => match us, hl with | [_], _ => rfl,
      m_law_state := PySem.W.mg_of X G n_law_state,
      F_law_low := fun_mk (st := s_law_low) l_law_low c_law_low k_law_low,
      b_law_low := (fun_mk (st := s_law_low) l_law_low c_law_low k_law_low).binds (ps := ["_law_top", "_law_bottom"]) fun _ _ _ _ _ _ us hl => match us, hl with | [_, _], _ => rfl,
      m_law_low := PySem.W.mg_of X G n_law_low,
      F_law_plus := fun_mk (st := s_law_plus) l_law_plus c_law_plus k_law_plus,
      b_law_plus := (fun_mk (st := s_law_plus) l_law_plus c_law_plus k_law_plus).binds (ps := ["_law_sort_here", "_law_x", "_law_y"]) fun _ _ _ _ _ _ us hl => match us, hl with | [_, _, _], _ => rfl,
      m_law_plus := PySem.W.mg_of X G n_law_plus,
      F_law_times := fun_mk (st := s_law_times) l_law_times c_law_times k_law_times,
      b_law_times := (fun_mk (st := s_law_times) l_law_times c_law_times k_law_times).binds (ps := ["_law_sort_here", "_law_x", "_law_y"]) fun _ _ _ _ _ _ us hl => match us, hl with | [_, _, _], _ => rfl,
      m_law_times := PySem.W.mg_of X G n_law_times,
      F_law_nought := fun_mk (st := s_law_nought) l_law_nought c_law_nought k_law_nought,
      b_law_nought := (fun_mk (st := s_law_nought) l_law_nought c_law_nought k_law_nought).binds (ps := ["_law_sort_here"]) fun _ _ _ _ _ _ us hl => match us, hl with | [_], _ => rfl,
      m_law_nought := PySem.W.mg_of X G n_law_nought,
      F_law_sort := fun_mk (st := s_law_sort) l_law_sort c_law_sort k_law_sort,
      b_law_sort := (fun_mk (st := s_law_sort) l_law_sort c_law_sort k_law_sort).binds (ps := ["_law_state_here", "_law_way"]) fun _ _ _ _ _ _ us hl => match us, hl with | [_, _], _ => rfl,
      m_law_sort := PySem.W.mg_of X G n_law_sort,
      F_law_kind := fun_mk (st := s_law_kind) l_law_kind c_law_kind k_law_kind,
      b_law_kind := (fun_mk (st := s_law_kind) l_law_kind c_law_kind k_law_kind).binds (ps := ["_law_sort_here"]) fun _ _ _ _ _ _ us hl => match us, hl with | [_], _ => rfl,
      m_law_kind := PySem.W.mg_of X G n_law_kind,
      F_law_weight := fun_mk (st := s_law_weight) l_law_weight c_law_weight k_law_weight,
      b_law_weight := (fun_mk (st := s_law_weight) l_law_weight c_law_weight k_law_weight).binds (ps := ["_law_state_here", "_law_sort_here", "_law_great"]) fun _ _ _ _ _ _ us hl => match us, hl with | [_, _, _], _ => rfl,
      m_law_weight := PySem.W.mg_of X G n_law_weight,
      F_law_line := fun_mk (st := s_law_line) l_law_line c_law_line k_law_line,
      b_law_line := (fun_mk (st := s_law_line) l_law_line c_law_line k_law_line).binds (ps := ["_law_state_here", "_law_sort_here", "_law_many", "_law_great"]) fun _ _ _ _ _ _ us hl => match us, hl with | [_, _, _, _], _ => rfl,
      m_law_line := PySem.W.mg_of X G n_law_line,
      F_law_table := fun_mk (st := s_law_table) l_law_table c_law_table k_law_table,
      b_law_table := (fun_mk (st := s_law_table) l_law_table c_law_table k_law_table).binds (ps := ["_law_state_here", "_law_sort_here", "_law_high", "_law_wide", "_law_great"]) fun _ _ _ _ _ _ us hl => match us, hl with | [_, _, _, _, _], _ => rfl,
      m_law_table := PySem.W.mg_of X G n_law_table,
      F_law_dot := fun_mk (st := s_law_dot) l_law_dot c_law_dot k_law_dot,
      b_law_dot := (fun_mk (st := s_law_dot) l_law_dot c_law_dot k_law_dot).binds (ps := ["_law_sort_here", "_law_row", "_law_column"]) fun _ _ _ _ _ _ us hl => match us, hl with | [_, _, _], _ => rfl,
      m_law_dot := PySem.W.mg_of X G n_law_dot,
      F_law_same := fun_mk (st := s_law_same) l_law_same c_law_same k_law_same,
      b_law_same := (fun_mk (st := s_law_same) l_law_same c_law_same k_law_same).binds (ps := ["_law_sort_here", "_law_found", "_law_due"]) fun _ _ _ _ _ _ us hl => match us, hl with | [_, _, _], _ => rfl,
      m_law_same := PySem.W.mg_of X G n_law_same,
      F_law_all_same := fun_mk (st := s_law_all_same) l_law_all_same c_law_all_same k_law_all_same,
      b_law_all_same := (fun_mk (st := s_law_all_same) l_law_all_same c_law_all_same k_law_all_same).binds (ps := ["_law_sort_here", "_law_found", "_law_due"]) fun _ _ _ _ _ _ us hl => match us, hl with | [_, _, _], _ => rfl,
      m_law_all_same := PySem.W.mg_of X G n_law_all_same,
      F_law_tables_same := fun_mk (st := s_law_tables_same) l_law_tables_same c_law_tables_same k_law_tables_same,
      b_law_tables_same := (fun_mk (st := s_law_tables_same) l_law_tables_same c_law_tables_same k_law_tables_same).binds (ps := ["_law_sort_here", "_law_found", "_law_due"]) fun _ _ _ _ _ _ us hl => match us, hl with | [_, _, _], _ => rfl,
      m_law_tables_same := PySem.W.mg_of X G n_law_tables_same,
      F_law_row_by := fun_mk (st := s_law_row_by) l_law_row_by c_law_row_by k_law_row_by,
      b_law_row_by := (fun_mk (st := s_law_row_by) l_law_row_by c_law_row_by k_law_row_by).binds (ps := ["_law_sort_here", "_law_row", "_law_table_here", "_law_wide"]) fun _ _ _ _ _ _ us hl => match us, hl with | [_, _, _, _], _ => rfl,
      m_law_row_by := PySem.W.mg_of X G n_law_row_by,
      F_law := fun_mk (st := s_law) l_law c_law k_law,
      b_law := (fun_mk (st := s_law) l_law c_law k_law).binds (ps := ["_law_script"]) fun _ _ _ _ _ _ us hl => match us, hl with | [_], _ => rfl,
      m_law := PySem.W.mg_of X G n_law,
      C_Fractions := ⟨pg_Fractions, hd_Fractions, po_Fractions, sa_Fractions⟩,
      m_Fractions := PySem.W.mg_of X G n_Fractions,
      M_Fractions := ⟨mk_Fractions, in_Fractions, kp_Fractions⟩,
      C_Residues := ⟨pg_Residues, hd_Residues, po_Residues, sa_Residues⟩,
      m_Residues := PySem.W.mg_of X G n_Residues,
      M_Residues := ⟨mk_Residues, n_Residues___init__, i_Residues___init__, kp_Residues⟩,
      C_Costs := ⟨pg_Costs, hd_Costs, po_Costs, sa_Costs⟩,
      m_Costs := PySem.W.mg_of X G n_Costs,
      M_Costs := ⟨mk_Costs, in_Costs, kp_Costs⟩,
      C_Truths := ⟨pg_Truths, hd_Truths, po_Truths, sa_Truths⟩,
      m_Truths := PySem.W.mg_of X G n_Truths,
      M_Truths := ⟨mk_Truths, in_Truths, kp_Truths⟩,
      z_isinstance := PySem.W.mg_none_of X G z_isinstance,
      z_int := PySem.W.mg_none_of X G z_int,
      z_bool := PySem.W.mg_none_of X G z_bool,
      z_abs := PySem.W.mg_none_of X G z_abs,
      c_GREATEST_PRIME := ⟨_, PySem.W.mg_of X G c_GREATEST_PRIME⟩,
      z_min := PySem.W.mg_none_of X G z_min,
      z_tuple := PySem.W.mg_none_of X G z_tuple,
      z_len := PySem.W.mg_none_of X G z_len,
      z_range := PySem.W.mg_none_of X G z_range,
      z_zip := PySem.W.mg_none_of X G z_zip,
      k_ii := k_ii,
      k_ib := k_ib,
      k_tt := k_tt,
      k_bb := k_bb,
      nP := nP }⟩
end K11
open PySem PySem.W PyProof.Rows
set_option maxRecDepth 100000 in
set_option maxHeartbeats 0 in
theorem PySem.Challenge.cw_weighwalk_k11_rows_and_tables_holds : PySem.Challenge.rw_weighwalk_k11_rows_and_tables.Holds := by
  w_on; o_law
  refine H11.holds_ (by assumption) ?hw ?hc
  (case hw => w_witness2)
  unfold H11.hook
  k_fill
  refine L2.walk_ofK (l := PySem.Challenge.rw_weighwalk_k11_rows_and_tables) (n := 63) (k := 50) (x := "_law_script") (CX := L2.CX0) (sp := K11.sp_law) rfl (by decide) rfl ⟨rfl, by decide, by decide⟩ (by decide +kernel) (fun w h Y => PySem.W.kIn_of Y) ?F ?S ?C
  case F =>
    intro w mg fa h KX G hmg
    have T : ∃ t, K11.Txt (L2.KOf KX) mg t := by
      dsimp only [L2.KOf]
      refine' K11.txt_mk KX G ?n_Fractions ?pg_Fractions ?hd_Fractions ?po_Fractions ?sa_Fractions ?mk_Fractions ?kp_Fractions ?in_Fractions ?n_Residues ?pg_Residues ?hd_Residues ?po_Residues ?sa_Residues ?mk_Residues ?kp_Residues ?n_Costs ?pg_Costs ?hd_Costs ?po_Costs ?sa_Costs ?mk_Costs ?kp_Costs ?in_Costs ?n_Truths ?pg_Truths ?hd_Truths ?po_Truths ?sa_Truths ?mk_Truths ?kp_Truths ?in_Truths ?n_is_whole ?l_is_whole ?c_is_whole ?k_is_whole ?n_divisor ?l_divisor ?c_divisor ?k_divisor ?n_fraction ?l_fraction ?c_fraction ?k_fraction ?n_is_prime ?l_is_prime ?c_is_prime ?k_is_prime ?n_Fractions_nought ?i_Fractions_nought ?l_Fractions_nought ?c_Fractions_nought ?k_Fractions_nought ?n_Fractions_plus ?i_Fractions_plus ?l_Fractions_plus ?c_Fractions_plus ?k_Fractions_plus ?n_Fractions_times ?i_Fractions_times ?l_Fractions_times ?c_Fractions_times ?k_Fractions_times ?n_Residues___init__ ?i_Residues___init__ ?l_Residues___init__ ?c_Residues___init__ ?k_Residues___init__ ?n_Residues_nought ?i_Residues_nought ?l_Residues_nought ?c_Residues_nought ?k_Residues_nought ?n_Residues_plus ?i_Residues_plus ?l_Residues_plus ?c_Residues_plus ?k_Residues_plus ?n_Residues_times ?i_Residues_times ?l_Residues_times ?c_Residues_times ?k_Residues_times ?n_Costs_nought ?i_Costs_nought ?l_Costs_nought ?c_Costs_nought ?k_Costs_nought ?n_Costs_plus ?i_Costs_plus ?l_Costs_plus ?c_Costs_plus ?k_Costs_plus ?n_Costs_times ?i_Costs_times ?l_Costs_times ?c_Costs_times ?k_Costs_times ?n_Truths_nought ?i_Truths_nought ?l_Truths_nought ?c_Truths_nought ?k_Truths_nought ?n_Truths_plus ?i_Truths_plus ?l_Truths_plus ?c_Truths_plus ?k_Truths_plus ?n_Truths_times ?i_Truths_times ?l_Truths_times ?c_Truths_times ?k_Truths_times ?n_column_at ?l_column_at ?c_column_at ?k_column_at ?n_columns_of ?l_columns_of ?c_columns_of ?k_columns_of ?n_dot ?l_dot ?c_dot ?k_dot ?n_row_by ?l_row_by ?c_row_by ?k_row_by ?n_by_column ?l_by_column ?c_by_column ?k_by_column ?n_by_table ?l_by_table ?c_by_table ?k_by_table ?n_law_next ?l_law_next ?c_law_next ?k_law_next ?n_law_state ?l_law_state ?c_law_state ?k_law_state ?n_law_low ?l_law_low ?c_law_low ?k_law_low ?n_law_plus ?l_law_plus ?c_law_plus ?k_law_plus ?n_law_times ?l_law_times ?c_law_times ?k_law_times ?n_law_nought ?l_law_nought ?c_law_nought ?k_law_nought ?n_law_sort ?l_law_sort ?c_law_sort ?k_law_sort ?n_law_kind ?l_law_kind ?c_law_kind ?k_law_kind ?n_law_weight ?l_law_weight ?c_law_weight ?k_law_weight ?n_law_line ?l_law_line ?c_law_line ?k_law_line ?n_law_table ?l_law_table ?c_law_table ?k_law_table ?n_law_dot ?l_law_dot ?c_law_dot ?k_law_dot ?n_law_same ?l_law_same ?c_law_same ?k_law_same ?n_law_all_same ?l_law_all_same ?c_law_all_same ?k_law_all_same ?n_law_tables_same ?l_law_tables_same ?c_law_tables_same ?k_law_tables_same ?n_law_row_by ?l_law_row_by ?c_law_row_by ?k_law_row_by ?n_law ?l_law ?c_law ?k_law ?z_isinstance ?z_int ?z_bool ?z_abs ?c_GREATEST_PRIME ?z_min ?z_tuple ?z_len ?z_range ?z_zip ?k_ii ?k_ib ?k_tt ?k_bb ?nP
      (case n_Fractions => k_is)
      (case pg_Fractions => k_is)
      (case hd_Fractions => k_is)
      (case po_Fractions => k_is)
      (case sa_Fractions => k_is)
      (case mk_Fractions => k_is)
      (case kp_Fractions => k_is)
      (case in_Fractions => k_is)
      (case n_Residues => k_is)
      (case pg_Residues => k_is)
      (case hd_Residues => k_is)
      (case po_Residues => k_is)
      (case sa_Residues => k_is)
      (case mk_Residues => k_is)
      (case kp_Residues => k_is)
      (case n_Costs => k_is)
      (case pg_Costs => k_is)
      (case hd_Costs => k_is)
      (case po_Costs => k_is)
      (case sa_Costs => k_is)
      (case mk_Costs => k_is)
      (case kp_Costs => k_is)
      (case in_Costs => k_is)
      (case n_Truths => k_is)
      (case pg_Truths => k_is)
      (case hd_Truths => k_is)
      (case po_Truths => k_is)
      (case sa_Truths => k_is)
      (case mk_Truths => k_is)
      (case kp_Truths => k_is)
      (case in_Truths => k_is)
      (case n_is_whole => k_is)
      (case l_is_whole => exact H11.lk_is_whole _)
      (case c_is_whole => k_is)
      (case k_is_whole => k_is)
      (case n_divisor => k_is)
      (case l_divisor => exact H11.lk_divisor _)
      (case c_divisor => k_is)
      (case k_divisor => k_is)
      (case n_fraction => k_is)
      (case l_fraction => exact H11.lk_fraction _)
      (case c_fraction => k_is)
      (case k_fraction => k_is)
      (case n_is_prime => k_is)
      (case l_is_prime => exact H11.lk_is_prime _)
      (case c_is_prime => k_is)
      (case k_is_prime => k_is)
      (case n_Fractions_nought => k_is)
      (case i_Fractions_nought => k_is)
      (case l_Fractions_nought => exact H11.lk_Fractions_nought _)
      (case c_Fractions_nought => k_is)
      (case k_Fractions_nought => k_is)
      (case n_Fractions_plus => k_is)
      (case i_Fractions_plus => k_is)
      (case l_Fractions_plus => exact H11.lk_Fractions_plus _)
      (case c_Fractions_plus => k_is)
      (case k_Fractions_plus => k_is)
      (case n_Fractions_times => k_is)
      (case i_Fractions_times => k_is)
      (case l_Fractions_times => exact H11.lk_Fractions_times _)
      (case c_Fractions_times => k_is)
      (case k_Fractions_times => k_is)
      (case n_Residues___init__ => k_is)
      (case i_Residues___init__ => k_is)
      (case l_Residues___init__ => exact H11.lk_Residues___init__ _)
      (case c_Residues___init__ => k_is)
      (case k_Residues___init__ => k_is)
      (case n_Residues_nought => k_is)
      (case i_Residues_nought => k_is)
      (case l_Residues_nought => exact H11.lk_Residues_nought _)
      (case c_Residues_nought => k_is)
      (case k_Residues_nought => k_is)
      (case n_Residues_plus => k_is)
      (case i_Residues_plus => k_is)
      (case l_Residues_plus => exact H11.lk_Residues_plus _)
      (case c_Residues_plus => k_is)
      (case k_Residues_plus => k_is)
      (case n_Residues_times => k_is)
      (case i_Residues_times => k_is)
      (case l_Residues_times => exact H11.lk_Residues_times _)
      (case c_Residues_times => k_is)
      (case k_Residues_times => k_is)
      (case n_Costs_nought => k_is)
      (case i_Costs_nought => k_is)
      (case l_Costs_nought => exact H11.lk_Costs_nought _)
      (case c_Costs_nought => k_is)
      (case k_Costs_nought => k_is)
      (case n_Costs_plus => k_is)
      (case i_Costs_plus => k_is)
      (case l_Costs_plus => exact H11.lk_Costs_plus _)
      (case c_Costs_plus => k_is)
      (case k_Costs_plus => k_is)
      (case n_Costs_times => k_is)
      (case i_Costs_times => k_is)
      (case l_Costs_times => exact H11.lk_Costs_times _)
      (case c_Costs_times => k_is)
      (case k_Costs_times => k_is)
      (case n_Truths_nought => k_is)
      (case i_Truths_nought => k_is)
      (case l_Truths_nought => exact H11.lk_Truths_nought _)
      (case c_Truths_nought => k_is)
      (case k_Truths_nought => k_is)
      (case n_Truths_plus => k_is)
      (case i_Truths_plus => k_is)
      (case l_Truths_plus => exact H11.lk_Truths_plus _)
      (case c_Truths_plus => k_is)
      (case k_Truths_plus => k_is)
      (case n_Truths_times => k_is)
      (case i_Truths_times => k_is)
      (case l_Truths_times => exact H11.lk_Truths_times _)
      (case c_Truths_times => k_is)
      (case k_Truths_times => k_is)
      (case n_column_at => k_is)
      (case l_column_at => exact H11.lk_column_at _)
      (case c_column_at => k_is)
      (case k_column_at => k_is)
      (case n_columns_of => k_is)
      (case l_columns_of => exact H11.lk_columns_of _)
      (case c_columns_of => k_is)
      (case k_columns_of => k_is)
      (case n_dot => k_is)
      (case l_dot => exact H11.lk_dot _)
      (case c_dot => k_is)
      (case k_dot => k_is)
      (case n_row_by => k_is)
      (case l_row_by => exact H11.lk_row_by _)
      (case c_row_by => k_is)
      (case k_row_by => k_is)
      (case n_by_column => k_is)
      (case l_by_column => exact H11.lk_by_column _)
      (case c_by_column => k_is)
      (case k_by_column => k_is)
      (case n_by_table => k_is)
      (case l_by_table => exact H11.lk_by_table _)
      (case c_by_table => k_is)
      (case k_by_table => k_is)
      (case n_law_next => k_is)
      (case l_law_next => exact H11.lk__law_next _)
      (case c_law_next => k_is)
      (case k_law_next => k_is)
      (case n_law_state => k_is)
      (case l_law_state => exact H11.lk__law_state _)
      (case c_law_state => k_is)
      (case k_law_state => k_is)
      (case n_law_low => k_is)
      (case l_law_low => exact H11.lk__law_low _)
      (case c_law_low => k_is)
      (case k_law_low => k_is)
      (case n_law_plus => k_is)
      (case l_law_plus => exact H11.lk__law_plus _)
      (case c_law_plus => k_is)
      (case k_law_plus => k_is)
      (case n_law_times => k_is)
      (case l_law_times => exact H11.lk__law_times _)
      (case c_law_times => k_is)
      (case k_law_times => k_is)
      (case n_law_nought => k_is)
      (case l_law_nought => exact H11.lk__law_nought _)
      (case c_law_nought => k_is)
      (case k_law_nought => k_is)
      (case n_law_sort => k_is)
      (case l_law_sort => exact H11.lk__law_sort _)
      (case c_law_sort => k_is)
      (case k_law_sort => k_is)
      (case n_law_kind => k_is)
      (case l_law_kind => exact H11.lk__law_kind _)
      (case c_law_kind => k_is)
      (case k_law_kind => k_is)
      (case n_law_weight => k_is)
      (case l_law_weight => exact H11.lk__law_weight _)
      (case c_law_weight => k_is)
      (case k_law_weight => k_is)
      (case n_law_line => k_is)
      (case l_law_line => exact H11.lk__law_line _)
      (case c_law_line => k_is)
      (case k_law_line => k_is)
      (case n_law_table => k_is)
      (case l_law_table => exact H11.lk__law_table _)
      (case c_law_table => k_is)
      (case k_law_table => k_is)
      (case n_law_dot => k_is)
      (case l_law_dot => exact H11.lk__law_dot _)
      (case c_law_dot => k_is)
      (case k_law_dot => k_is)
      (case n_law_same => k_is)
      (case l_law_same => exact H11.lk__law_same _)
      (case c_law_same => k_is)
      (case k_law_same => k_is)
      (case n_law_all_same => k_is)
      (case l_law_all_same => exact H11.lk__law_all_same _)
      (case c_law_all_same => k_is)
      (case k_law_all_same => k_is)
      (case n_law_tables_same => k_is)
      (case l_law_tables_same => exact H11.lk__law_tables_same _)
      (case c_law_tables_same => k_is)
      (case k_law_tables_same => k_is)
      (case n_law_row_by => k_is)
      (case l_law_row_by => exact H11.lk__law_row_by _)
      (case c_law_row_by => k_is)
      (case k_law_row_by => k_is)
      (case n_law => k_is)
      (case l_law => exact H11.lk_law _)
      (case c_law => k_is)
      (case k_law => k_is)
      (case z_isinstance => k_is)
      (case z_int => k_is)
      (case z_bool => k_is)
      (case z_abs => k_is)
      (case c_GREATEST_PRIME => k_is)
      (case z_min => k_is)
      (case z_tuple => k_is)
      (case z_len => k_is)
      (case z_range => k_is)
      (case z_zip => k_is)
      (case k_ii => kit_is)
      (case k_ib => kit_is)
      (case k_tt => kit_is)
      (case k_bb => kit_is)
      (case nP => k_is)
    obtain ⟨t, T⟩ := T
    have e0 := hmg.symm.trans T.m_law
    cases e0
    exact ⟨_, K11.law_binds T, fun base kb nb => K11.ok_law T⟩
  case S => exact fun K H a ns hl hO hS => ⟨a, ns, rfl, hS, hl, fun _ => rfl⟩
  case C => exact fun _ _ _ _ z => z
