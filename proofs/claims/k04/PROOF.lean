import PyProof.Rows.All
import Wide.All
import OpenK.AllK
import Wide.FinOn
import PySem.Challenge.RW_weighwalk_k04_costs_and_truths
open PySem PySem.W PyProof.Rows
set_option Elab.async false
set_option maxRecDepth 100000 in
set_option maxHeartbeats 0 in
open_top hd04 for PySem.Challenge.rw_weighwalk_k04_costs_and_truths
namespace Mine
@[irreducible] def num (c : Int) : Int := if c.fmod 3 = 0 then (c.fdiv 3).fmod 19 - 9 else if c.fmod 3 = 1 then (c.fdiv 3).fmod 2000003 - 1000001 else (c.fdiv 3).fmod 1999999999999999999999999999999 - 999999999999999999999999999999
theorem num_a {c : Int} (h : c.fmod 3 = 0) : (c.fdiv 3).fmod 19 - 9 = num c := by unfold num; rw [if_pos h]
theorem num_b {c : Int} (h : ¬ c.fmod 3 = 0) (h1 : c.fmod 3 = 1) : (c.fdiv 3).fmod 2000003 - 1000001 = num c := by unfold num; rw [if_neg h, if_pos h1]
theorem num_c {c m k : Int} (h : ¬ c.fmod 3 = 0) (h1 : ¬ c.fmod 3 = 1) (hm : m = 1999999999999999999999999999999) (hk : k = 999999999999999999999999999999) : (c.fdiv 3).fmod m - k = num c := by unfold num; rw [if_neg h, if_neg h1, hm, hk]
section
variable {prog : Program} {w : World} {A : Around} {E : Value → Shared → Prop} {s : Shared} {x y a b : Int} {t u : Tok} {Q : Value → Shared → Prop}
theorem step_pow {n : Int} (z : Int) (hn : 0 ≤ n) (hn2 : n ≤ 1000000) (ha : a.natAbs < 2 ^ 64) (e : a ^ n.toNat = z) (h : Q (.int z s.toks) { s with toks := s.toks + 1 }) :
    wpAny (model prog w) A (binaryOp .Pow (.int a t) (.int n u)) Q E s := PyProof.Rows.pow_int_small hn hn2 ha (by rw [e]; exact h)
theorem step_sub (z : Int) (e : a - b = z) (h : Q (.int z s.toks) { s with toks := s.toks + 1 }) :
    wpAny (model prog w) A (binaryOp .Sub (.int a t) (.int b u)) Q E s := PyProof.Rows.sub_int (by rw [e]; exact h)
theorem step_mulL (z : Int) (hb : Builtin.Int.intBits a ≤ 64) (e : a * b = z) (h : Q (.int z s.toks) { s with toks := s.toks + 1 }) :
    wpAny (model prog w) A (binaryOp .Mult (.int a t) (.int b u)) Q E s := PyProof.Rows.mul_int (by rw [e]; exact h) (PySem.IntMulOk.of_left hb)
theorem step_eq (e : x = y) (h : Q (.bool true) s) : wpAny (model prog w) A (compareOp .Eq (.int x t) (.int y u)) Q E s := by
  refine PyProof.Rows.eq_int ?_
  have d : (x == y) = true := beq_iff_eq.mpr e
  rw [d]
  exact h
theorem step_eq2 (h1 : x = y → Q (.bool true) s) (h2 : x ≠ y → Q (.bool false) s) : wpAny (model prog w) A (compareOp .Eq (.int x t) (.int y u)) Q E s := by
  refine PyProof.Rows.eq_int ?_
  by_cases e : x = y
  · have d : (x == y) = true := beq_iff_eq.mpr e
    rw [d]; exact h1 e
  · have d : (x == y) = false := beq_eq_false_iff_ne.mpr e
    rw [d]; exact h2 e
end
end Mine
local macro_rules | `(tactic| walk_at "compareOp Eq int int") => `(tactic| (k_here; (with_reducible refine' Mine.step_eq ?k1 ?_); (case k1 => k_dflt (first | with_reducible rfl | omega))))
local macro_rules | `(tactic| walk_at "eval Call Name") => `(tactic| ((with_reducible show wpAny _ _ (eval (Expr.Call (Expr.Name "_law_number" _) _ _ _) _) _ _ _); refine Call_ ?_))
local macro_rules | `(tactic| walk_at "binaryOp Pow int int") => `(tactic| (k_here; (with_reducible show wpAny _ _ (binaryOp _ (Value.int 10 _) (Value.int 30 _)) _ _ _); (with_reducible refine' Mine.step_pow 1000000000000000000000000000000 ?k1 ?k2 ?k3 ?k4 ?_); (case k1 => decide); (case k2 => decide); (case k3 => decide); (case k4 => decide)))
local macro_rules | `(tactic| walk_at "binaryOp Pow int int") => `(tactic| (k_here; (with_reducible show wpAny _ _ (binaryOp _ (Value.int 10 _) (Value.int 28 _)) _ _ _); (with_reducible refine' Mine.step_pow 10000000000000000000000000000 ?k1 ?k2 ?k3 ?k4 ?_); (case k1 => decide); (case k2 => decide); (case k3 => decide); (case k4 => decide)))
local macro_rules | `(tactic| walk_at "binaryOp Mult int int") => `(tactic| (k_here; (with_reducible show wpAny _ _ (binaryOp _ (Value.int 2 _) (Value.int 1000000000000000000000000000000 _)) _ _ _); (with_reducible refine' Mine.step_mulL 2000000000000000000000000000000 ?k1 ?k2 ?_); (case k1 => decide); (case k2 => decide)))
local macro_rules | `(tactic| walk_at "binaryOp Sub int int") => `(tactic| (k_here; (with_reducible show wpAny _ _ (binaryOp _ (Value.int 2000000000000000000000000000000 _) (Value.int 1 _)) _ _ _); (with_reducible refine' Mine.step_sub 1999999999999999999999999999999 ?k1 ?_); (case k1 => decide)))
local macro_rules | `(tactic| walk_at "binaryOp Sub int int") => `(tactic| (k_here; (with_reducible show wpAny _ _ (binaryOp _ (Value.int 1000000000000000000000000000000 _) (Value.int 1 _)) _ _ _); (with_reducible refine' Mine.step_sub 999999999999999999999999999999 ?k1 ?_); (case k1 => decide)))
local macro_rules | `(tactic| k_in) => `(tactic| (refine Frag.In.keeps ?_ (Fr.keep (by with_reducible assumption)); with_reducible assumption))
local macro_rules | `(tactic| k_room) => `(tactic| ((try simp only [depth_mark, depth_under_make, depth_under_kw, depth_in1, depth_deeper, depth_caller]); (try dsimp only [ktrTop]); omega))
set_option maxRecDepth 100000 in
set_option maxHeartbeats 8000000 in
theorem Mine.truths_ok : ∀ {w : World} {mean : ExcName → Option Value} {mg mb : Str → Option Value} {x y : Bool} {news : CbLed} {dp un : Nat} {gd : Option (List Code)} {cn : Str} {cs : Scope} {a : Addr} {ccd : Value} {cl : List (Str × Addr)} {outer : List Env} {A₀ : Around} {base h₀ : Heap} {L : Addr} {m : Str → Option Value} {s : Shared} {Q E : Value → Shared → Prop} {kd dd : Addr}
    (_ : Below A₀ base outer h₀) (_ : Fr h₀ L s.heap m) (_ : (hd04.heap_39 w.params).In h₀) (_ : News h₀ L s.heap news) (_ : Top hd04.view_39 (looseW hd04.view_39 []) mean mg mb h₀) (_ : cs.kind = .function) (_ : dp + 10 < recursionLimit) (_ : un + 150 < cLine)
    (_ : (kd, instObj 253 dd) ∈ news) (_ : (dd, dictOf [] 0) ∈ news)
    (_ : ∀ (t : Tok) (h' : Heap) (tk' : Nat), Fr h₀ L h' m → News h₀ L h' news → Q (.bool true) { s with heap := h', toks := tk' }),
    wpAny (model PySem.Challenge.rw_weighwalk_k04_costs_and_truths.row.prog w) (ktrTop dp un gd cn cs L a ccd cl outer) (call (.ref 297) [.ref kd, .bool x, .bool y]) Q E s := by
  k_fill
  intro w mean mg mb x y news dp un gd cn cs a ccd cl outer A₀ base h₀ L m s Q E kd dd k1 k2 k3 k40 k5 kK kdp ku hk hd hret0
  have k4 : News h₀ L s.heap ((kd, instObj 253 dd) :: (dd, dictOf [] 0) :: news) := fun p hp => by
    rcases List.mem_cons.mp hp with rfl | hp
    · exact k40 _ hk
    · rcases List.mem_cons.mp hp with rfl | hp
      · exact k40 _ hd
      · exact k40 _ hp
  have hret : ∀ (t : Tok) (h' : Heap) (tk' : Nat), Fr h₀ L h' m → News h₀ L h' ((kd, instObj 253 dd) :: (dd, dictOf [] 0) :: news) → Q (.bool true) { s with heap := h', toks := tk' } :=
    fun t h' tk' F N => hret0 t h' tk' F (fun p hp => N p (List.mem_cons_of_mem _ (List.mem_cons_of_mem _ hp)))
  clear k40 hret0 hk hd
  cases x <;> cases y
  all_goals (refine wpAny_call ?_; k_dflt cell_enter)
  k_steps
  all_goals cb_end hret
set_option maxRecDepth 100000 in
set_option maxHeartbeats 8000000 in
theorem Mine.costs_nn : ∀ {w : World} {mean : ExcName → Option Value} {mg mb : Str → Option Value}  {news : CbLed} {dp un : Nat} {gd : Option (List Code)} {cn : Str} {cs : Scope} {a : Addr} {ccd : Value} {cl : List (Str × Addr)} {outer : List Env} {A₀ : Around} {base h₀ : Heap} {L : Addr} {m : Str → Option Value} {s : Shared} {Q E : Value → Shared → Prop} {kd dd : Addr}
    (_ : Below A₀ base outer h₀) (_ : Fr h₀ L s.heap m) (_ : (hd04.heap_39 w.params).In h₀) (_ : News h₀ L s.heap news) (_ : Top hd04.view_39 (looseW hd04.view_39 []) mean mg mb h₀) (_ : cs.kind = .function) (_ : dp + 10 < recursionLimit) (_ : un + 150 < cLine)
    (_ : (kd, instObj 185 dd) ∈ news) (_ : (dd, dictOf [] 0) ∈ news)
    (_ : ∀ (t : Tok) (h' : Heap) (tk' : Nat), Fr h₀ L h' m → News h₀ L h' news → Q (.bool true) { s with heap := h', toks := tk' }),
    wpAny (model PySem.Challenge.rw_weighwalk_k04_costs_and_truths.row.prog w) (ktrTop dp un gd cn cs L a ccd cl outer) (call (.ref 290) [.ref kd, .none, .none]) Q E s := by
  k_fill
  intro w mean mg mb  news dp un gd cn cs a ccd cl outer A₀ base h₀ L m s Q E kd dd k1 k2 k3 k40 k5 kK kdp ku hk hd hret0
  have k4 : News h₀ L s.heap ((kd, instObj 185 dd) :: (dd, dictOf [] 0) :: news) := fun p hp => by
    rcases List.mem_cons.mp hp with rfl | hp
    · exact k40 _ hk
    · rcases List.mem_cons.mp hp with rfl | hp
      · exact k40 _ hd
      · exact k40 _ hp
  have hret : ∀ (t : Tok) (h' : Heap) (tk' : Nat), Fr h₀ L h' m → News h₀ L h' ((kd, instObj 185 dd) :: (dd, dictOf [] 0) :: news) → Q (.bool true) { s with heap := h', toks := tk' } :=
    fun t h' tk' F N => hret0 t h' tk' F (fun p hp => N p (List.mem_cons_of_mem _ (List.mem_cons_of_mem _ hp)))
  clear k40 hret0 hk hd
  all_goals (refine wpAny_call ?_; k_dflt cell_enter)
  k_steps
  all_goals cb_end hret
set_option maxRecDepth 100000 in
set_option maxHeartbeats 8000000 in
theorem Mine.costs_ni : ∀ {w : World} {mean : ExcName → Option Value} {mg mb : Str → Option Value} {y : Int} {ty : Tok} {news : CbLed} {dp un : Nat} {gd : Option (List Code)} {cn : Str} {cs : Scope} {a : Addr} {ccd : Value} {cl : List (Str × Addr)} {outer : List Env} {A₀ : Around} {base h₀ : Heap} {L : Addr} {m : Str → Option Value} {s : Shared} {Q E : Value → Shared → Prop} {kd dd : Addr}
    (_ : Below A₀ base outer h₀) (_ : Fr h₀ L s.heap m) (_ : (hd04.heap_39 w.params).In h₀) (_ : News h₀ L s.heap news) (_ : Top hd04.view_39 (looseW hd04.view_39 []) mean mg mb h₀) (_ : cs.kind = .function) (_ : dp + 10 < recursionLimit) (_ : un + 150 < cLine)
    (_ : (kd, instObj 185 dd) ∈ news) (_ : (dd, dictOf [] 0) ∈ news)
    (_ : ∀ (t : Tok) (h' : Heap) (tk' : Nat), Fr h₀ L h' m → News h₀ L h' news → Q (.bool true) { s with heap := h', toks := tk' }),
    wpAny (model PySem.Challenge.rw_weighwalk_k04_costs_and_truths.row.prog w) (ktrTop dp un gd cn cs L a ccd cl outer) (call (.ref 290) [.ref kd, .none, .int y ty]) Q E s := by
  k_fill
  intro w mean mg mb y ty news dp un gd cn cs a ccd cl outer A₀ base h₀ L m s Q E kd dd k1 k2 k3 k40 k5 kK kdp ku hk hd hret0
  have k4 : News h₀ L s.heap ((kd, instObj 185 dd) :: (dd, dictOf [] 0) :: news) := fun p hp => by
    rcases List.mem_cons.mp hp with rfl | hp
    · exact k40 _ hk
    · rcases List.mem_cons.mp hp with rfl | hp
      · exact k40 _ hd
      · exact k40 _ hp
  have hret : ∀ (t : Tok) (h' : Heap) (tk' : Nat), Fr h₀ L h' m → News h₀ L h' ((kd, instObj 185 dd) :: (dd, dictOf [] 0) :: news) → Q (.bool true) { s with heap := h', toks := tk' } :=
    fun t h' tk' F N => hret0 t h' tk' F (fun p hp => N p (List.mem_cons_of_mem _ (List.mem_cons_of_mem _ hp)))
  clear k40 hret0 hk hd
  all_goals (refine wpAny_call ?_; k_dflt cell_enter)
  k_steps
  all_goals cb_end hret
set_option maxRecDepth 100000 in
set_option maxHeartbeats 8000000 in
theorem Mine.costs_in : ∀ {w : World} {mean : ExcName → Option Value} {mg mb : Str → Option Value} {x : Int} {tx : Tok} {news : CbLed} {dp un : Nat} {gd : Option (List Code)} {cn : Str} {cs : Scope} {a : Addr} {ccd : Value} {cl : List (Str × Addr)} {outer : List Env} {A₀ : Around} {base h₀ : Heap} {L : Addr} {m : Str → Option Value} {s : Shared} {Q E : Value → Shared → Prop} {kd dd : Addr}
    (_ : Below A₀ base outer h₀) (_ : Fr h₀ L s.heap m) (_ : (hd04.heap_39 w.params).In h₀) (_ : News h₀ L s.heap news) (_ : Top hd04.view_39 (looseW hd04.view_39 []) mean mg mb h₀) (_ : cs.kind = .function) (_ : dp + 10 < recursionLimit) (_ : un + 150 < cLine)
    (_ : (kd, instObj 185 dd) ∈ news) (_ : (dd, dictOf [] 0) ∈ news)
    (_ : ∀ (t : Tok) (h' : Heap) (tk' : Nat), Fr h₀ L h' m → News h₀ L h' news → Q (.bool true) { s with heap := h', toks := tk' }),
    wpAny (model PySem.Challenge.rw_weighwalk_k04_costs_and_truths.row.prog w) (ktrTop dp un gd cn cs L a ccd cl outer) (call (.ref 290) [.ref kd, .int x tx, .none]) Q E s := by
  k_fill
  intro w mean mg mb x tx news dp un gd cn cs a ccd cl outer A₀ base h₀ L m s Q E kd dd k1 k2 k3 k40 k5 kK kdp ku hk hd hret0
  have k4 : News h₀ L s.heap ((kd, instObj 185 dd) :: (dd, dictOf [] 0) :: news) := fun p hp => by
    rcases List.mem_cons.mp hp with rfl | hp
    · exact k40 _ hk
    · rcases List.mem_cons.mp hp with rfl | hp
      · exact k40 _ hd
      · exact k40 _ hp
  have hret : ∀ (t : Tok) (h' : Heap) (tk' : Nat), Fr h₀ L h' m → News h₀ L h' ((kd, instObj 185 dd) :: (dd, dictOf [] 0) :: news) → Q (.bool true) { s with heap := h', toks := tk' } :=
    fun t h' tk' F N => hret0 t h' tk' F (fun p hp => N p (List.mem_cons_of_mem _ (List.mem_cons_of_mem _ hp)))
  clear k40 hret0 hk hd
  all_goals (refine wpAny_call ?_; k_dflt cell_enter)
  k_steps
  all_goals cb_end hret
set_option maxRecDepth 100000 in
set_option maxHeartbeats 8000000 in
theorem Mine.costs_ii : ∀ {w : World} {mean : ExcName → Option Value} {mg mb : Str → Option Value} {x y : Int} {tx ty : Tok} {news : CbLed} {dp un : Nat} {gd : Option (List Code)} {cn : Str} {cs : Scope} {a : Addr} {ccd : Value} {cl : List (Str × Addr)} {outer : List Env} {A₀ : Around} {base h₀ : Heap} {L : Addr} {m : Str → Option Value} {s : Shared} {Q E : Value → Shared → Prop} {kd dd : Addr}
    (_ : Below A₀ base outer h₀) (_ : Fr h₀ L s.heap m) (_ : (hd04.heap_39 w.params).In h₀) (_ : News h₀ L s.heap news) (_ : Top hd04.view_39 (looseW hd04.view_39 []) mean mg mb h₀) (_ : cs.kind = .function) (_ : dp + 10 < recursionLimit) (_ : un + 150 < cLine)
    (_ : (kd, instObj 185 dd) ∈ news) (_ : (dd, dictOf [] 0) ∈ news)
    (_ : ∀ (t : Tok) (h' : Heap) (tk' : Nat), Fr h₀ L h' m → News h₀ L h' news → Q (.bool true) { s with heap := h', toks := tk' }),
    wpAny (model PySem.Challenge.rw_weighwalk_k04_costs_and_truths.row.prog w) (ktrTop dp un gd cn cs L a ccd cl outer) (call (.ref 290) [.ref kd, .int x tx, .int y ty]) Q E s := by
  k_fill
  intro w mean mg mb x y tx ty news dp un gd cn cs a ccd cl outer A₀ base h₀ L m s Q E kd dd k1 k2 k3 k40 k5 kK kdp ku hk hd hret0
  have k4 : News h₀ L s.heap ((kd, instObj 185 dd) :: (dd, dictOf [] 0) :: news) := fun p hp => by
    rcases List.mem_cons.mp hp with rfl | hp
    · exact k40 _ hk
    · rcases List.mem_cons.mp hp with rfl | hp
      · exact k40 _ hd
      · exact k40 _ hp
  have hret : ∀ (t : Tok) (h' : Heap) (tk' : Nat), Fr h₀ L h' m → News h₀ L h' ((kd, instObj 185 dd) :: (dd, dictOf [] 0) :: news) → Q (.bool true) { s with heap := h', toks := tk' } :=
    fun t h' tk' F N => hret0 t h' tk' F (fun p hp => N p (List.mem_cons_of_mem _ (List.mem_cons_of_mem _ hp)))
  clear k40 hret0 hk hd
  all_goals (refine wpAny_call ?_; k_dflt cell_enter)
  k_steps
  all_goals cb_end hret
local macro_rules | `(tactic| walk_at "call ref cons nil") => `(tactic| (k_here; (with_reducible show wpAny _ _ (call (Value.ref 297) [Value.ref _, Value.bool _, Value.bool _]) _ _ _); k_dflt (refine' Mine.truths_ok ?k1 ?k2 ?k3 ?k4 ?k5 ?kK ?kd ?ku ?hk ?hd ?_; (case k2 => with_reducible assumption); (case k1 => with_reducible assumption); (case k3 => with_reducible assumption); (case k4 => with_reducible assumption); (case k5 => with_reducible assumption); (case kK => first | exact rfl | assumption); (case kd => ((try simp only [depth_mark, depth_under_make, depth_under_kw, depth_in1, depth_deeper, depth_caller]); (try dsimp only [ktrTop]); first | decide | omega)); (case ku => ((try simp only [units_in1, units_deeper, Around.mark_units, units_caller]); (try dsimp only [ktrTop]); (have hcL9 := cLine_is); first | decide | omega)); (case hk => k_mem); (case hd => k_mem); intro t9 h9 tk9 F9 N9; (try dsimp only); (try k_fold))))
local macro_rules | `(tactic| walk_at "call ref cons nil") => `(tactic| (k_here; (with_reducible show wpAny _ _ (call (Value.ref 290) [Value.ref _, Value.none, Value.none]) _ _ _); k_dflt (refine' Mine.costs_nn ?k1 ?k2 ?k3 ?k4 ?k5 ?kK ?kd ?ku ?hk ?hd ?_; (case k2 => with_reducible assumption); (case k1 => with_reducible assumption); (case k3 => with_reducible assumption); (case k4 => with_reducible assumption); (case k5 => with_reducible assumption); (case kK => first | exact rfl | assumption); (case kd => ((try simp only [depth_mark, depth_under_make, depth_under_kw, depth_in1, depth_deeper, depth_caller]); (try dsimp only [ktrTop]); first | decide | omega)); (case ku => ((try simp only [units_in1, units_deeper, Around.mark_units, units_caller]); (try dsimp only [ktrTop]); (have hcL9 := cLine_is); first | decide | omega)); (case hk => k_mem); (case hd => k_mem); intro t9 h9 tk9 F9 N9; (try dsimp only); (try k_fold))))
local macro_rules | `(tactic| walk_at "call ref cons nil") => `(tactic| (k_here; (with_reducible show wpAny _ _ (call (Value.ref 290) [Value.ref _, Value.none, Value.int _ _]) _ _ _); k_dflt (refine' Mine.costs_ni ?k1 ?k2 ?k3 ?k4 ?k5 ?kK ?kd ?ku ?hk ?hd ?_; (case k2 => with_reducible assumption); (case k1 => with_reducible assumption); (case k3 => with_reducible assumption); (case k4 => with_reducible assumption); (case k5 => with_reducible assumption); (case kK => first | exact rfl | assumption); (case kd => ((try simp only [depth_mark, depth_under_make, depth_under_kw, depth_in1, depth_deeper, depth_caller]); (try dsimp only [ktrTop]); first | decide | omega)); (case ku => ((try simp only [units_in1, units_deeper, Around.mark_units, units_caller]); (try dsimp only [ktrTop]); (have hcL9 := cLine_is); first | decide | omega)); (case hk => k_mem); (case hd => k_mem); intro t9 h9 tk9 F9 N9; (try dsimp only); (try k_fold))))
local macro_rules | `(tactic| walk_at "call ref cons nil") => `(tactic| (k_here; (with_reducible show wpAny _ _ (call (Value.ref 290) [Value.ref _, Value.int _ _, Value.none]) _ _ _); k_dflt (refine' Mine.costs_in ?k1 ?k2 ?k3 ?k4 ?k5 ?kK ?kd ?ku ?hk ?hd ?_; (case k2 => with_reducible assumption); (case k1 => with_reducible assumption); (case k3 => with_reducible assumption); (case k4 => with_reducible assumption); (case k5 => with_reducible assumption); (case kK => first | exact rfl | assumption); (case kd => ((try simp only [depth_mark, depth_under_make, depth_under_kw, depth_in1, depth_deeper, depth_caller]); (try dsimp only [ktrTop]); first | decide | omega)); (case ku => ((try simp only [units_in1, units_deeper, Around.mark_units, units_caller]); (try dsimp only [ktrTop]); (have hcL9 := cLine_is); first | decide | omega)); (case hk => k_mem); (case hd => k_mem); intro t9 h9 tk9 F9 N9; (try dsimp only); (try k_fold))))
local macro_rules | `(tactic| walk_at "call ref cons nil") => `(tactic| (k_here; (with_reducible show wpAny _ _ (call (Value.ref 290) [Value.ref _, Value.int _ _, Value.int _ _]) _ _ _); k_dflt (refine' Mine.costs_ii ?k1 ?k2 ?k3 ?k4 ?k5 ?kK ?kd ?ku ?hk ?hd ?_; (case k2 => with_reducible assumption); (case k1 => with_reducible assumption); (case k3 => with_reducible assumption); (case k4 => with_reducible assumption); (case k5 => with_reducible assumption); (case kK => first | exact rfl | assumption); (case kd => ((try simp only [depth_mark, depth_under_make, depth_under_kw, depth_in1, depth_deeper, depth_caller]); (try dsimp only [ktrTop]); first | decide | omega)); (case ku => ((try simp only [units_in1, units_deeper, Around.mark_units, units_caller]); (try dsimp only [ktrTop]); (have hcL9 := cLine_is); first | decide | omega)); (case hk => k_mem); (case hd => k_mem); intro t9 h9 tk9 F9 N9; (try dsimp only); (try k_fold))))
set_option maxRecDepth 100000 in
set_option maxHeartbeats 8000000 in
theorem PySem.Challenge.cw_weighwalk_k04_costs_and_truths_holds : PySem.Challenge.rw_weighwalk_k04_costs_and_truths.Holds :=
  hd04 (by
    k_with "tree" => first | exact Mine.num_a (by assumption) | exact Mine.num_b (by assumption) (by assumption) | exact Mine.num_c (by assumption) (by assumption) (by decide) (by decide)
    k_with "call ref" => k_call_by "_law_number" Mine.num
    k_with "pyIter ref" => k_search (fun _ => True)
    w_strict k_go)
