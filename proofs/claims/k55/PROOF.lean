import PyProof.Rows.All
import Wide.All
import OpenK.AllK
import Wide.FinOn
import Lean
import PyProof.EqAt
import PyProof.EqKinds
import PyProof.TupleCall
import KE.KRevIter
import PyProof.ListRange
import PyProof.AutoSeq1
import PySem.Challenge.RW_weighwalk_k55_whole_alike_and_least
set_option Elab.async false
set_option linter.all false
set_option maxRecDepth 100000
set_option compiler.extract_closed false
set_option bootstrap.genMatcherCode false
local macro_rules | `(tactic| omega)=>`(tactic| lia)
def sL{n:Nat}(h:Nat.ble n 100000=true:=by rfl):n<=PySem.sizeLine:=Nat.le_trans (Nat.le_of_ble_eq_true h) (by decide)
def sZ:10000 < PySem.sizeLine:=by decide
def bR{p:Prop}(h:p:=by rfl):p:=h
def bD{p:Prop}(h:p:=by decide):p:=h
def dK{p:Prop}(h:p:=by decide +kernel):p:=h
def Z{p:Prop}(h:p:=by omega):p:=h
theorem za{A0 A1}{p:A0->A1->Prop}{a0 a1}(h:p a0 a1):∃a0 a1,p a0 a1:=⟨a0,a1,h⟩
theorem zd{A0 A1 A2}{p:A0->A1->A2->Prop}{a0 a1 a2}(h:p a0 a1 a2):∃a0 a1 a2,p a0 a1 a2:=⟨a0,a1,a2,h⟩
theorem zf{A0 A1 A2 A3}{p:A0->A1->A2->A3->Prop}{a0 a1 a2 a3}(h:p a0 a1 a2 a3):∃a0 a1 a2 a3,p a0 a1 a2 a3:=⟨a0,a1,a2,a3,h⟩
theorem zg{A0 A1 A2 A3 A4}{p:A0->A1->A2->A3->A4->Prop}{a0 a1 a2 a3 a4}(h:p a0 a1 a2 a3 a4):∃a0 a1 a2 a3 a4,p a0 a1 a2 a3 a4:=⟨a0,a1,a2,a3,a4,h⟩
theorem zi{A0 A1 A2 A3 A4 A5 A6}{p:A0->A1->A2->A3->A4->A5->A6->Prop}{a0 a1 a2 a3 a4 a5 a6}(h:p a0 a1 a2 a3 a4 a5 a6):∃a0 a1 a2 a3 a4 a5 a6,p a0 a1 a2 a3 a4 a5 a6:=⟨a0,a1,a2,a3,a4,a5,a6,h⟩
theorem zj{A0 A1 A2}{p:A0->A1->A2->Prop}(a0 a1 a2)(h:p a0 a1 a2):∃a0 a1 a2,p a0 a1 a2:=⟨a0,a1,a2,h⟩
theorem zm{A0 A1 A2 A3}{p:A0->A1->A2->A3->Prop}(a0 a1 a2 a3)(h:p a0 a1 a2 a3):∃a0 a1 a2 a3,p a0 a1 a2 a3:=⟨a0,a1,a2,a3,h⟩
theorem zt{A0 A1 A2 A3 A4}{p:A0->A1->A2->A3->A4->Prop}(a0 a1 a2 a3 a4)(h:p a0 a1 a2 a3 a4):∃a0 a1 a2 a3 a4,p a0 a1 a2 a3 a4:=⟨a0,a1,a2,a3,a4,h⟩
theorem zu{A0 A1 A2 A3 A4 A5}{p:A0->A1->A2->A3->A4->A5->Prop}(a0 a1 a2 a3 a4 a5)(h:p a0 a1 a2 a3 a4 a5):∃a0 a1 a2 a3 a4 a5,p a0 a1 a2 a3 a4 a5:=⟨a0,a1,a2,a3,a4,a5,h⟩
theorem zw{A0 A1 A2 A3 A4 A5 A6}{p:A0->A1->A2->A3->A4->A5->A6->Prop}(a0 a1 a2 a3 a4 a5 a6)(h:p a0 a1 a2 a3 a4 a5 a6):∃a0 a1 a2 a3 a4 a5 a6,p a0 a1 a2 a3 a4 a5 a6:=⟨a0,a1,a2,a3,a4,a5,a6,h⟩
theorem zB{A0 A1 A2 A3 A4 A5 A6 A7}{p:A0->A1->A2->A3->A4->A5->A6->A7->Prop}(a0 a1 a2 a3 a4 a5 a6 a7)(h:p a0 a1 a2 a3 a4 a5 a6 a7):∃a0 a1 a2 a3 a4 a5 a6 a7,p a0 a1 a2 a3 a4 a5 a6 a7:=⟨a0,a1,a2,a3,a4,a5,a6,a7,h⟩
theorem zD{A0 A1 A2 A3 A4 A5 A6 A7 A8}{p:A0->A1->A2->A3->A4->A5->A6->A7->A8->Prop}(a0 a1 a2 a3 a4 a5 a6 a7 a8)(h:p a0 a1 a2 a3 a4 a5 a6 a7 a8):∃a0 a1 a2 a3 a4 a5 a6 a7 a8,p a0 a1 a2 a3 a4 a5 a6 a7 a8:=⟨a0,a1,a2,a3,a4,a5,a6,a7,a8,h⟩
theorem zE{A0 A1 A2 A3 A4 A5 A6 A7 A8 A9}{p:A0->A1->A2->A3->A4->A5->A6->A7->A8->A9->Prop}(a0 a1 a2 a3 a4 a5 a6 a7 a8 a9)(h:p a0 a1 a2 a3 a4 a5 a6 a7 a8 a9):∃a0 a1 a2 a3 a4 a5 a6 a7 a8 a9,p a0 a1 a2 a3 a4 a5 a6 a7 a8 a9:=⟨a0,a1,a2,a3,a4,a5,a6,a7,a8,a9,h⟩
theorem zG{A0 A1 A2 A3 A4 A5 A6 A7 A8 A9 jW}{p:A0->A1->A2->A3->A4->A5->A6->A7->A8->A9->jW->Prop}(a0 a1 a2 a3 a4 a5 a6 a7 a8 a9 jD)(h:p a0 a1 a2 a3 a4 a5 a6 a7 a8 a9 jD):∃a0 a1 a2 a3 a4 a5 a6 a7 a8 a9 jD,p a0 a1 a2 a3 a4 a5 a6 a7 a8 a9 jD:=⟨a0,a1,a2,a3,a4,a5,a6,a7,a8,a9,jD,h⟩
theorem zI{A0 A1 A2 A3 A4 A5 A6 A7 A8 A9 jW lZ}{p:A0->A1->A2->A3->A4->A5->A6->A7->A8->A9->jW->lZ->Prop}(a0 a1 a2 a3 a4 a5 a6 a7 a8 a9 jD qi)(h:p a0 a1 a2 a3 a4 a5 a6 a7 a8 a9 jD qi):∃a0 a1 a2 a3 a4 a5 a6 a7 a8 a9 jD qi,p a0 a1 a2 a3 a4 a5 a6 a7 a8 a9 jD qi:=⟨a0,a1,a2,a3,a4,a5,a6,a7,a8,a9,jD,qi,h⟩
theorem va{A B:Sort _}{l:B}{g:A->B}{Q:A->Prop}{x:A}(h:l=g x)(q:Q x):∃y,l=g y/\Q y:=⟨x,h,q⟩
theorem vb{A B C D:Sort _}{l:B}{g:A->B}{m:A->D}{k:A->C->D}{Q:A->C->Prop}{x:A}{y:C}(h:l=g x)(i:m x=k x y)(q:Q x y):∃x,l=g x/\∃y,m x=k x y/\Q x y:=⟨x,h,y,i,q⟩
theorem vc{A B C D E F:Sort _}{l:B}{g:A->B}{m:A->D}{k:A->C->D}{o:A->C->F}{p:A->C->E->F}{Q:A->C->E->Prop}{x:A}{y:C}{z:E}(h:l=g x)(i:m x=k x y)(j:o x y=p x y z)(q:Q x y z):∃x,l=g x/\∃y,m x=k x y/\∃z,o x y=p x y z/\Q x y z:=⟨x,h,y,i,z,j,q⟩
section
open PySem PySem.Spec PyProof.Rows
abbrev aa:=@PySem.W.Frag
abbrev w1b:=List (Addr × Obj)
abbrev w1c:=Value->Shared->Prop
abbrev w1d:=Str->Option Value
abbrev w1e:=List Nat
abbrev w1f:=List Str
abbrev w1g:=List Value
abbrev ae:=@Nat.le_refl
abbrev af:=@Nat.le_trans
abbrev ag:=@List.length_map
abbrev ah:=@List.getElem?_eq_getElem
abbrev ak:=@Heap.get?_push_of_some
abbrev ao:=@Heap.lt_size
abbrev aq:=@List.length_append
abbrev ar:=@List.mem_singleton
abbrev au:=@List.mem_cons
abbrev av:=@List.mem_append
abbrev aw:=@List.mem_map
abbrev ax:=@List.mem_cons_self
abbrev ay:=@List.size_toArray
abbrev az:=@Nat.lt_of_lt_of_le
abbrev aA:=@List.mem_cons_of_mem
abbrev aB:=@PassesOwn.never
abbrev aC:=@Nat.ne_of_lt
abbrev aD:=@Nat.mul_le_mul_left
abbrev aE:=@List.getElem?_map
abbrev aF:=@Heap.get?_push_size
abbrev aG:=@List.getElem_mem
abbrev aH:=@Int.mul_assoc
abbrev aI:=@Bool.false_ne_true
abbrev aJ:=@List.getElem?_eq_some_iff
abbrev aK:=@List.mem_append_right
abbrev aL:=@List.mem_of_getElem?
abbrev aM:=@Nat.mul_le_mul
abbrev aN:=@Int.mul_pos
abbrev aO:=@Nat.lt_irrefl
abbrev aP:=@Nat.zero_le
abbrev aQ:=@Int.mul_comm
abbrev aR:=@Int.mul_right_comm
abbrev aU:=@List.getD_eq_getElem?_getD
abbrev aV:=@Nat.pow_add
abbrev aW:=@List.mem_range
abbrev aX:=@List.map_cons
abbrev aY:=@List.getElem?_append_left
abbrev aZ:=@List.getElem?_append_right
abbrev ba:=@Nat.pow_succ
abbrev bb:=@List.map_append
abbrev bc:=@List.mem_append_left
abbrev bg:=@PySem.mem_of_lookup
abbrev bh:=@List.length_eq_zero_iff
abbrev bo:=@List.take_length
abbrev bq:=@PySem.F.plainAttrs_list
abbrev bu:=@Heap.size_push
abbrev bw:=@List.append_nil
abbrev bx:=@List.length_take
abbrev bz:=@Int.eq_of_mul_eq_mul_right
abbrev bA:=@Nat.mul_le_mul_right
abbrev bB:=@Nat.succ_mul
abbrev bC:=@Int.natAbs_mul
abbrev bE:=@Nat.mul_pos
abbrev bF:=@PySem.F.slot_list_append
abbrev bH:=@PySem.F.type_list_append
abbrev bI:=@Nat.le_of_lt
abbrev bJ:=@PySem.W.kia_one
abbrev bK:=@List.length_set
abbrev bL:=@List.getElem?_set_ne
abbrev bM:=@List.length_cons
abbrev bN:=@Int.fmod_nonneg_of_pos
abbrev bO:=@Int.fmod_lt_of_pos
abbrev bQ:=@Nat.mul_assoc
abbrev bS:=@Nat.pow_le_pow_left
abbrev bT:=@List.not_mem_nil
abbrev bU:=@Nat.mul_comm
abbrev bV:=@Int.pow_succ
abbrev bW:=@Nat.le_add_right
abbrev bX:=@List.pairwise_iff_getElem
abbrev bZ:=@Nat.ne_of_gt
abbrev cf:=@Nat.pow_pos
abbrev cg:=@Nat.pow_le_pow_right
abbrev cj:=@List.lookup_cons
abbrev ck:=@List.append_assoc
abbrev cn:=@Nat.not_lt_zero
abbrev cq:=@Nat.one_le_two_pow
abbrev cu:=@List.idxOf_lt_length_iff
abbrev cz:=@List.mem_filterMap
abbrev cA:=@List.getElem?_set_self
abbrev cB:=@Int.mul_one
abbrev cD:=@PyProof.Rows.callWith_type1
abbrev cE:=@Nat.lt_succ_self
abbrev cG:=@List.nodup_cons
abbrev cH:=@List.pairwise_map
abbrev cI:=@List.map_map
abbrev cJ:=@List.length_range
abbrev cK:=@List.mem_singleton_self
abbrev cM:=@List.mem_iff_getElem
abbrev cP:=@Option.map_eq_some_iff
abbrev cQ:=@Int.neg_mul
abbrev cR:=@Int.mul_ne_zero
abbrev cS:=@Int.one_mul
abbrev cU:=@Nat.le_of_dvd
abbrev cV:=@List.foldl_append
abbrev cW:=@List.dropLast_concat_getLast
abbrev cX:=@List.length_dropLast
abbrev cY:=@PySem.W.mg_of
abbrev cZ:=@List.mem_filter
abbrev da:=@List.filterMap_cons
abbrev dc:=@Nat.le_of_eq
abbrev de:=@List.length_drop
abbrev df:=@Int.ne_of_gt
abbrev dg:=@Int.pow_zero
abbrev dh:=@List.cons_append
abbrev di:=@Nat.sub_self
abbrev dj:=@List.pairwise_append
abbrev dk:=@List.pairwise_singleton
abbrev dm:=@Nat.le_mul_of_pos_right
abbrev dq:=@List.nil_append
abbrev du:=@List.idxOf_cons
abbrev dw:=@PySem.W.hideAll_none
abbrev dy:=@PySem.W.callWith_K
abbrev dz:=@List.length_replicate
abbrev dA:=@PyProof.Rows.slot_tuple_getitem
abbrev dB:=@Int.emod_eq_of_lt
abbrev dC:=@Int.toNat_of_nonneg
abbrev dD:=@List.all_eq_true
abbrev dE:=@List.dropLast_subset
abbrev dF:=@List.getLast_mem
abbrev dH:=@List.mem_flatMap
abbrev dJ:=@List.take_of_length_le
abbrev dM:=@Nat.add_sub_cancel_left
abbrev dP:=@PySem.Spec.same_self
abbrev dQ:=@List.getElem?_replicate
abbrev dR:=@PySem.F.slot_tuple_add
abbrev dS:=@PySem.F.entry_tuple_add
abbrev dU:=@PySem.F.args_tuple_add_2
abbrev dW:=@Heap.get?_update_other
abbrev dX:=@Nat.dvd_of_mod_eq_zero
abbrev dY:=@Int.fmod_eq_emod_of_nonneg
abbrev dZ:=@Int.fdiv_eq_ediv_of_nonneg
end
theorem U.{u}{α:Sort u}{a:α}:a=a:=rfl
local macro_rules|`(tactic|show $e)=>`(tactic|refine $e)
namespace L2
open PySem PySem.Spec PyProof.Rows
abbrev Mv:=Sum Int Str
def YW:Mv->Value->Bool
 | .inl k,v=>Value.isInt k v
 | .inr x,v=>Value.isStrOf x v
def keyH(w:World):Mv->Int
 | .inl k=>hashInt k
 | .inr x=>hashStr w x
def J8:∀{k:Mv} {v:Value},YW k v=true->(∃i t,k=Sum.inl i/\v=Value.int i t)\/(∃x t,k=Sum.inr x/\v=Value.str x t)
 | .inl i,v,h=>by
  obtain⟨t,e⟩:=Value.isInt_shape (k:=i) (v:=v) h;exact .inl ⟨i,t,U,e⟩
 | .inr x,v,h=>by
  obtain⟨t,e⟩:=Value.isStrOf_shape (x:=x) (v:=v) h;exact .inr ⟨x,t,U,e⟩
def c0c(a b:Int):decide ((Sum.inl a:Mv)=Sum.inl b)=(a == b):=by
 by_cases e:a=b
 . subst e;simp
 . have h:¬(Sum.inl a:Mv)=Sum.inl b:=λq=>e<|Sum.inl.inj q;rw[decide_eq_false h];exact(beq_eq_false_iff_ne.mpr e).symm
def b0z(a b:Str):decide ((Sum.inr a:Mv)=Sum.inr b)=decide (a=b):=by
 by_cases e:a=b
 . subst e;simp
 . have h:¬(Sum.inr a:Mv)=Sum.inr b:=λq=>e<|Sum.inr.inj q;rw[decide_eq_false h,decide_eq_false e]
def c0b(a:Int)(b:Str):decide ((Sum.inl a:Mv)=Sum.inr b)=false:=decide_eq_false (λq=>nomatch q)
def c0a(a:Str)(b:Int):decide ((Sum.inr a:Mv)=Sum.inl b)=false:=decide_eq_false (λq=>nomatch q)
def Lu(prog:Program)(w:World):PySem.KeyKind prog w Mv where
 is:=YW
 hash:=keyH w
 inj:=λv a b ha hb=>by
  rcases J8 ha with ⟨i,t,rfl,rfl⟩ | ⟨x,t,rfl,rfl⟩
  . rcases J8 hb with ⟨j,u,rfl,e⟩ | ⟨y,u,rfl,e⟩
    . injection e with e1 _;rw[e1]
    . exact nomatch e
  . rcases J8 hb with ⟨j,u,rfl,e⟩ | ⟨y,u,rfl,e⟩
    . exact nomatch e
    . injection e with e1 _;rw[e1]
 byValue:=λk v h=>by
  rcases J8 h with ⟨i,t,rfl,rfl⟩ | ⟨x,t,rfl,rfl⟩ <;>rfl
 pyHash:=λhv h=>by
  rcases J8 hv with ⟨i,t,rfl,rfl⟩ | ⟨x,t,rfl,rfl⟩
  . exact wpAny_pyHash_int h
  . exact wpAny_pyHash_str h
 eqBool:=λhu hv h=>by
  rcases J8 hu with ⟨i,t,rfl,rfl⟩ | ⟨x,t,rfl,rfl⟩
  . rcases J8 hv with ⟨j,u,rfl,rfl⟩ | ⟨y,u,rfl,rfl⟩
    . rw[c0c]at h;exact wpAny_eqBool_int h
    . rw[c0b]at h;exact SeqAt.EqAt.int_str i t y u _ _ _ _ h
  . rcases J8 hv with ⟨j,u,rfl,rfl⟩ | ⟨y,u,rfl,rfl⟩
    . rw[c0a]at h;exact SeqAt.EqAt.str_int x t j u _ _ _ _ h
    . rw[b0z]at h;exact wpAny_eqBool_str h
 «strs»:=λk x t v h=>by
  rcases J8 h with ⟨i,u,rfl,e⟩ | ⟨y,u,rfl,e⟩
  . exact nomatch e
  . injection e with e1 _;subst e1;cases v <;>rfl
inductive V where
 | non | bl (b:Bool) | int (i:Int) | str (x:Str) | byt (b:Array UInt8) | flt (b:UInt64) | ref (a:Addr) | ty (n:String)
 deriving DecidableEq
def E3:V->Value->Prop
 | .non,u=>u=Value.none
 | .bl b,u=>u=Value.bool b
 | .int i,u=>∃t,u=Value.int i t
 | .str x,u=>∃t,u=Value.str x t
 | .byt b,u=>∃t,u=Value.bytes b t
 | .flt b,u=>∃t,u=Value.float b t
 | .ref a,u=>u=Value.ref a
 | .ty n,u=>u=Value.type n
abbrev z9:List V->List Value->Prop:=Paired E3
theorem z9.length{xs:List V}{us:w1g}(r:z9 xs us):xs.length=us.length:=Paired.length r
theorem z9.get:∀{xs:List V} {us:w1g} {i:Nat} {x:V},z9 xs us->xs[i]? = some x->∃u,us[i]? = some u/\E3 x u
 | _,_,_,_,.nil,e=>by simp at e
 | _,_,0,_,.cons r _,e=>by simp at e;subst e;exact⟨_,U,r⟩
 | _,_,i+1,x,.cons _ t,e=>by
  obtain⟨u,h1,h2⟩:=z9.get (i:=i) (x:=x) t (by simpa using e);exact⟨u,by simpa using h1,h2⟩
theorem z9.set{x:V}{u:Value}(r:E3 x u):∀{xs:List V} {us:w1g} (i:Nat),z9 xs us->z9 (xs.set i x) (us.set i u)
 | _,_,_,.nil=>.nil
 | _,_,0,.cons _ t=>.cons r t
 | _,_,i+1,.cons q t=>.cons q (z9.set r i t)
theorem z9.append:∀{xs ys:List V} {us ws:w1g},z9 xs us->z9 ys ws->z9 (xs++ys) (us++ws)
 | _,_,_,_,.nil,s=>s
 | _,_,_,_,.cons r t,s=>.cons r (z9.append t s)
theorem z9.take:∀{xs:List V} {us:w1g} (n:Nat),z9 xs us->z9 (xs.take n) (us.take n)
 | _,_,0,_=>.nil
 | _,_,_+1,.nil=>.nil
 | _,_,n+1,.cons r t=>.cons r (z9.take n t)
theorem z9.drop:∀{xs:List V} {us:w1g} (n:Nat),z9 xs us->z9 (xs.drop n) (us.drop n)
 | _,_,0,r=>r
 | _,_,_+1,.nil=>.nil
 | _,_,n+1,.cons _ t=>z9.drop n t
def JU:Option V->Option Value->Prop
 | some v,some u=>E3 v u
 | none,none=>True
 | _,_=>False
def KV{κ:Type}:List (κ × V)->List (κ × Value)->Prop:=Paired λ(p:κ × V) (q:κ × Value)=>p.1=q.1/\E3 p.2 q.2
def kV:Mv->V
 | .inl i=>.int i
 | .inr x=>.str x
inductive HO where
 | lst (xs:List V)
 | tup (xs:List V)
 | dK (fg:List (Mv × V)) | dT (fg:List (List Mv × V))
 | set (S:Int->Bool) (n:Nat)
 | ins (C dx:Addr) (fs:List (Str × V))
 | own (x:Addr)
 | xd (fs:List (Str × V))
 | met (f x:Addr)
 | rng (lo hi:Int)
 | frz (o:Obj) (u:HO)
 | tbl (ps:Array Value)
 | ext (φ:Heap->Prop)
abbrev Hp:=Addr->Option HO
def upd(H:Hp)(a:Addr)(o:HO):Hp:=λb=>if b=a then some o else H b
def b9{H:Hp}{a:Addr}{o:HO}:upd H a o a=some o:=by unfold upd;rw[if_pos rfl]
def l9{H:Hp}{a b:Addr}{o:HO}(h:b≠a):upd H a o b=H b:=by unfold upd;rw[if_neg h]
def Av{H:Hp}{a b:Addr}{o u:HO}(h:H a=some o)(h':H b=some u)(d:o≠u):a≠b:=by intro e;subst e;rw[h]at h';exact d (Option.some.inj h')
def l8{H:Hp}{a b:Addr}{o:HO}(h:H a=some o)(h':H b=none):a≠b:=by intro e;subst e;rw[h]at h';cases h'
section
variable(P:Program)(w:World)
def M6(H:Hp)(h:Heap)(a:Addr):HO->Prop
 | .lst xs=>xs.length<=sizeLine/\∃(its:w1g) (n:Nat),z9 xs its/\h.get? a=some { cls:=.type "list",data:=.seq its.toArray n }
 | .tup xs=>xs.length<=sizeLine/\∃its:w1g,z9 xs its/\IsTup h a its.toArray/\((∀i y,xs≠[.int i,y])->∃o,h.get? a=some o/\o.dict=none)
 | .dK fg=>fg.length<=sizeLine/\(a == sysModules)=false/\∃vs,KV fg vs/\h.DictOf (Lu P w) a vs
 | .dT fg=>fg.length<=sizeLine/\(a == sysModules)=false/\∃xs:List (List Mv × Addr × Value),
     Paired (λ(p:List Mv × V) (q:List Mv × Addr × Value)=>p.1=q.1/\H q.2.1=some (.tup<|p.1.map kV)/\E3 p.2 q.2.2) fg xs/\
     ∃o es ep,h.get? a=some o/\o.ExactDict/\o.data=.dict es ep/\es.toList=xs.map (entryOfKey<|tupleKind<|Lu P w)/\(xs.map (·.1)).Nodup
 | .set S n=>h.SetOf (intKind P w) a S n
 | .ins C dx fs=>H dx=some (.own a)/\fs.length<=1000/\dx≠a/\h.get? a=some (PySem.W.instObj C dx)/\
     ∃mA,h.Ns1 dx mA/\(∀f,JU (fs.lookup f)<|mA f)/\PySem.Within mA (fs.map (·.1))
 | .own _=>∃o,h.get? a=some o
 | .xd fs=>∃mA,h.Ns1 a mA/\∀f,JU (fs.lookup f) (mA f)
 | .rng lo hi=>∃t u v,h.get? a=some { cls:=.type "range",data:=.fields #[.int lo t,.int hi u,.int 1 v] }
 | .frz o u=>h.get? a=some o/\M6 H h a u
 | .tbl ps=>h.get? a=some { cls:=.none,data:=.fields ps }
 | .met f x=>h.get? a=some (PySem.W.methodObj (.ref f)<|.ref x)
 | .ext φ=>φ h/\(∃o,h.get? a=some o)/\∀h1 h2:Heap,φ h1->(∀o,h1.get? a=some o->h2.get? a=some o)->φ h2
def BB(H:Hp)(h:Heap):Prop:=∀a o,H a=some o->M6 P w H h a o
end
section
variable{P:Program}{w:World}{H H':Hp}{h h':Heap}{a:Addr}{o:HO}
theorem M6.lt(x:M6 P w H h a o):a < h.objs.size:=by
 cases o with
 | lst xs=>obtain⟨_,_,_,_,e⟩:=x;exact ao e
 | tup xs=>obtain⟨_,_,_,p,_⟩:=x;exact p.lt
 | dK fg=>obtain⟨_,_,_,_,o,_,_,e,_⟩:=x;exact ao e
 | dT fg=>obtain⟨_,_,_,_,o,_,_,e,_⟩:=x;exact ao e
 | set S n=>obtain⟨o,_,_,_,e,_⟩:=x;exact ao e
 | ins C dx fs=>obtain⟨_,_,_,e,_⟩:=x;exact ao e
 | own y=>obtain⟨_,e⟩:=x;exact ao e
 | xd fs=>obtain⟨_,⟨_,_,_,e,_⟩,_⟩:=x;exact ao e
 | rng lo hi=>obtain⟨_,_,_,e⟩:=x;exact ao e
 | frz ob u=>obtain⟨e,_⟩:=x;exact ao e
 | tbl ps=>exact ao (show h.get? a=some _ from x)
 | met f y=>exact ao (show h.get? a=some _ from x)
 | ext φ=>obtain⟨_,⟨_,e⟩,_⟩:=x;exact ao e
theorem Paired.mapP{α β:Type}{F G:α->β->Prop}:∀{l₁:List α} {l₂:List β},Paired F l₁ l₂->(∀a b,F a b->G a b)->Paired G l₁ l₂
 | _,_,.nil,_=>.nil
 | _,_,.cons r t,f=>.cons (f _ _ r) (Paired.mapP t f)
def M6.stay(x:M6 P w H h a o)(k:∀b u,(b=a\/H b=some (.own a))->h.get? b=some u->h'.get? b=some u)
    (ho:∀b,H b=some (.own a)->H' b=some (.own a)) (ht:∀b xs,H b=some (.tup xs)->H' b=some (.tup xs)):M6 P w H' h' a o:=by
 induction o with
 | lst xs=>obtain⟨z,its,n,r,e⟩:=x;exact⟨z,its,n,r,k _ _ (.inl U) e⟩
 | tup xs=>obtain⟨z,its,r,⟨ob,e,c⟩,d⟩:=x;exact⟨z,its,r,⟨ob,k _ _ (.inl U) e,c⟩,λnx=>let⟨o,e2,d2⟩:=d nx;⟨o,k _ _ (.inl U) e2,d2⟩⟩
 | dK fg=>obtain⟨z,y,vs,r,ob,es,ep,e,c⟩:=x;exact⟨z,y,vs,r,ob,es,ep,k _ _ (.inl U) e,c⟩
 | dT fg=>
  obtain⟨z,y,xs,r,ob,es,ep,e,c⟩:=x;exact⟨z,y,xs,Paired.mapP r λp q z=>⟨z.1,ht _ _ z.2.1,z.2.2⟩,ob,es,ep,k _ _ (.inl U) e,c⟩
 | set S n=>obtain⟨ob,es,ep,t,e,c⟩:=x;exact⟨ob,es,ep,t,k _ _ (.inl U) e,c⟩
 | ins C dx fs=>
  obtain⟨d,z,ne,e,mA,⟨od,es,ep,e2,c⟩,r⟩:=x;exact⟨ho _ d,z,ne,k _ _ (.inl U) e,mA,⟨od,es,ep,k _ _ (.inr d) e2,c⟩,r⟩
 | own y=>obtain⟨ob,e⟩:=x;exact⟨ob,k _ _ (.inl U) e⟩
 | xd fs=>obtain⟨mA,⟨od,es,ep,e,c⟩,r⟩:=x;exact⟨mA,⟨od,es,ep,k _ _ (.inl U) e,c⟩,r⟩
 | rng lo hi=>obtain⟨t,u,v,e⟩:=x;exact⟨t,u,v,k _ _ (.inl U) e⟩
 | frz ob u ih=>obtain⟨e,q⟩:=x;exact⟨k _ _ (.inl U) e,ih q⟩
 | tbl ps=>
  have e:h.get? a=some { cls:=.none,data:=.fields ps }:=x;show h'.get? a=some { cls:=.none,data:=.fields ps };exact k a _ (.inl U) e
 | met f y=>
  have e:h.get? a=some (PySem.W.methodObj (.ref f)<|.ref y):=x;show h'.get? a=some (PySem.W.methodObj (.ref f)<|.ref y);exact k a _ (.inl U) e
 | ext φ=>obtain⟨p,⟨o,e⟩,st⟩:=x;exact⟨st _ _ p λo q=>k _ _ (.inl U) q,⟨o,k _ _ (.inl U) e⟩,st⟩
theorem BB.lt(x:BB P w H h)(e:H a=some o):a < h.objs.size:=(x a o e).lt
def BB.fresh(x:BB P w H h)(e:h.objs.size<=a):H a=none:=by
 cases q:H a with
 | none=>rfl
 | some u=>exact absurd (az (x.lt q) e) (aO _)
def BB.kept(x:BB P w H h)(k:∀b u,h.get? b=some u->h'.get? b=some u):BB P w H h':=λa o e=>
 (x a o e).stay (λb u _ q=>k b u q) (λ_ q=>q) λ_ _ q=>q
def BB.laid(x:BB P w H h)(k:∀b u,h.get? b=some u->h'.get? b=some u)(hp:h.objs.size<=a)(new:M6 P w (upd H a o) h' a o):BB P w (upd H a o) h':=λb u e=>by
 have hn:=x.fresh hp;by_cases hb:b=a
 . subst hb;rw[b9]at e;cases e;exact new
 . rw[l9 hb]at e;exact(x b u e).stay (λc v _ q=>k c v q) (λc q=>by rw[l9<|l8 q hn];exact q) λc xs q=>by rw[l9<|l8 q hn];exact q
end
def Rd(H:Hp)(a:Addr)(u:HO):Prop:=H a=some u\/∃o,H a=some (.frz o u)
def Rd.of{H:Hp}{a:Addr}{u:HO}(h:H a=some u):Rd H a u:=.inl h
def Rd.ok{P:Program}{w:World}{H:Hp}{h:Heap}{a:Addr}{u:HO}(r:Rd H a u)(x:BB P w H h):M6 P w H h a u:=by
 rcases r with r | ⟨o,r⟩
 . exact x a u r
 . obtain⟨_,q⟩:=x a _ r;exact q
def Mut:Option HO->Prop
 | some (.lst _)=>True
 | some (.dK _)=>True
 | some (.dT _)=>True
 | some (.set _ _)=>True
 | some (.ins _ _ _)=>True
 | some (.ext _)=>True
 | _=>False
section
variable{P:Program}{w:World}{H:Hp}{h h':Heap}{x e:Addr}{o':HO}
def BB.write(ok:BB P w H h)(mu:Mut (H x))(he:e=x\/H e=some (.own x))(k:∀b u,b≠e->h.get? b=some u->h'.get? b=some u)(lK:∃u,h'.get? e=some u)
    (new:M6 P w (upd H x o') h' x o'):BB P w (upd H x o') h':=λb u q=>by
 have mH:∀c y,H c=some (.own y)->c≠x:=λc y r z=>by subst z;rw[r]at mu;exact mu
 have rz:∀c xs,H c=some (.tup xs)->c≠x:=λc xs r z=>by subst z;rw[r]at mu;exact mu
 by_cases hb:b=x
 . subst hb;rw[b9]at q;cases q;exact new
 . rw[l9 hb]at q;by_cases jd:b=e
   . have q':H b=some (.own x):=by
      rcases he with z | z
      . exact absurd (jd.trans z) hb
      . rw[jd];exact z
     rw[q]at q';cases q';obtain⟨v,hv⟩:=lK;exact⟨v,by rw[jd];exact hv⟩
   . show(ok b u q).stay (λc v hc r=>k c v ?_ r) (λc r=>by rw[l9<|mH c b r];exact r) λc xs r=>by rw[l9<|rz c xs r];exact r
     rcases hc with rfl | hc
     . exact jd
     . rintro rfl;rcases he with z | z
       . exact mH c b hc z
       . rw[hc]at z;cases z;exact hb rfl
end
structure Un(fs ex:List Addr)(H H':Hp)(h h':Heap):Prop where
 keep:∀b o,h.get? b=some o->H b=none->b ∉ fs->b ∉ ex->h'.get? b=some o
 slot:∀b o,h.get? b=some o->H b=none->b∈fs->b ∉ ex->∃sl,h'.get? b=some { o with slots:=sl }
 free:∀b o,h.get? b=some o->H b=none->b ∉ ex->H' b=none
 there:∀b o,h.get? b=some o->b ∉ ex->∃o',h'.get? b=some o'
 tups:∀b xs,H b=some (.tup xs)->H' b=some (.tup xs)
 frzs:∀b o u,H b=some (.frz o u)->H' b=some (.frz o u)
 tbls:∀b ps,H b=some (.tbl ps)->∃more,H' b=some (.tbl<|ps++more)
section
variable{fs uf ex qg:List Addr}{H H1 H2:Hp}{h h1 h2 h':Heap}{a x e:Addr}{o:HO}
def Un.any(u:Un fs ex H H1 h h1){b:Addr}{ob:Obj}(q:h.get? b=some ob)(n:H b=none)(hx:b ∉ ex):∃sl,h1.get? b=some { ob with slots:=sl }:=by
 by_cases hb:b∈fs
 . exact u.slot b ob q n hb hx
 . exact⟨ob.slots,u.keep b ob q n hb hx⟩
def Un.trans(a:Un fs ex H H1 h h1)(b:Un fs ex H1 H2 h1 h2):Un fs ex H H2 h h2 where
 keep:=λc ob q n hc hx=>b.keep c ob (a.keep c ob q n hc hx) (a.free c ob q n hx) hc hx
 slot:=λc ob q n hc hx=>by
  obtain⟨sl,e1⟩:=a.slot c ob q n hc hx;obtain⟨qR,e2⟩:=b.slot c _ e1 (a.free c ob q n hx) hc hx;exact⟨qR,e2⟩
 free:=λc ob q n hx=>by
  obtain⟨o',e1⟩:=a.there c ob q hx;exact b.free c o' e1 (a.free c ob q n hx) hx
 there:=λc ob q hx=>by
  obtain⟨o',e1⟩:=a.there c ob q hx;exact b.there c o' e1 hx
 tups:=λc xs q=>b.tups c xs (a.tups c xs q)
 frzs:=λc ob xs q=>b.frzs c ob xs (a.frzs c ob xs q)
 tbls:=λc ps q=>by
  obtain⟨m1,e1⟩:=a.tbls c ps q;obtain⟨m2,e2⟩:=b.tbls c _ e1;exact⟨m1++m2,by rw[e2,Array.append_assoc]⟩
def Un.kept(k:∀b u,h.get? b=some u->h'.get? b=some u):Un fs ex H H h h':=
 ⟨λb ob q _ _ _=>k b ob q,λb ob q _ _ _=>⟨ob.slots,k b ob q⟩,λ_ _ _ n _=>n,λb ob q _=>⟨ob,k b ob q⟩,λ_ _ q=>q,λ_ _ _ q=>q,λ_ ps q=>⟨#[],by rw[q];simp⟩⟩
def Un.refl:Un fs ex H H h h:=Un.kept λ_ _ q=>q
def Un.laid(k:∀b u,h.get? b=some u->h'.get? b=some u)(hp:h.objs.size<=a)(hn:H a=none):Un fs ex H (upd H a o) h h' where
 keep:=λb u q _ _ _=>k b u q
 slot:=λb u q _ _ _=>⟨u.slots,k b u q⟩
 free:=λb u q n _=>by rw[l9<|aC<|az (ao q) hp];exact n
 there:=λb u q _=>⟨u,k b u q⟩
 tups:=λb xs q=>by rw[l9<|l8 q hn];exact q
 frzs:=λb u xs q=>by rw[l9<|l8 q hn];exact q
 tbls:=λb ps q=>⟨#[],by rw[l9<|l8 q hn,q];simp⟩
def Un.write(mu:Mut (H x))(he:e=x\/H e=some (.own x))(k:∀b u,b≠e->h.get? b=some u->h'.get? b=some u)(lK:∃u,h'.get? e=some u):Un fs ex H (upd H x o) h h':=by
 have hx:∀b,H b=none->b≠x:=λb n z=>by subst z;rw[n]at mu;exact mu
 have hb:∀b,H b=none->b≠e:=λb n z=>by
  subst z;rcases he with r | r
  . exact hx b n r
  . rw[n]at r;cases r
 have hm:∀b u,H b=some u->¬Mut (some u)->b≠x:=λb u q nm z=>by subst z;rw[q]at mu;exact nm mu
 show⟨λb u q n _ _=>k b u (hb b n) q,λb u q n _ _=>⟨u.slots,k b u (hb b n) q⟩,λb u q n _=>by rw[l9<|hx b n];exact n,λb u q _=>?_,
  λb xs q=>by rw[l9<|hm b _ q λz=>z];exact q,λb u xs q=>by rw[l9<|hm b _ q λz=>z];exact q,λb ps q=>⟨#[],by rw[l9<|hm b _ q λz=>z,q];simp⟩⟩
 by_cases jd:b=e
 . subst jd;exact lK
 . exact⟨u,k b u jd q⟩
def Un.mono(u:Un fs ex H H1 h h1)(hs:∀b∈fs,b∈uf)(hx:∀b∈ex,b∈qg):Un uf qg H H1 h h1:=
 ⟨λb ob q n hb he=>u.keep b ob q n (λz=>hb<|hs b z) λz=>he<|hx b z,λ_ _ q n _ he=>u.any q n λz=>he<|hx _ z,λb ob q n he=>u.free b ob q n λz=>he<|hx b z,λb ob q he=>u.there b ob q λz=>he<|hx b z,u.tups,u.frzs,u.tbls⟩
end
def Zs(h:Heap)(H:Hp):List Addr:=(List.range h.objs.size).filter λa=>(H a).isSome
def JR(h:Heap)(H:Hp):Heap:=PySem.W.hideAll h (Zs h H)
def Tu(h:Heap)(H:Hp):(JR h H).objs.size=h.objs.size:=PySem.W.hideAll_size _ _
def Wa{h:Heap}{H:Hp}{b:Addr}{o:Obj}(e:h.get? b=some o)(n:H b=none):(JR h H).get? b=some o:=
 PySem.W.hideAll_get _ e λhm=>by
  have q:(H b).isSome=true:=(cZ.mp hm).2;rw[n]at q;simp at q
def XY{h:Heap}{H:Hp}{b:Addr}{o:Obj}(e:(JR h H).get? b=some o):h.get? b=some o/\H b=none:=by
 have e':h.get? b=some o:=PySem.W.of_hideAll (Zs h H) e;show⟨e',?_⟩;cases q:H b with
 | none=>rfl
 | some x=>
  have hm:b∈Zs h H:=cZ.mpr ⟨aW.mpr<|ao e',by simp[q]⟩;have z:(JR h H).get? b=none:=dw (Zs h H) hm;rw[z]at e;cases e
def Dn(g h:Heap)(L:Addr):w1b:=(List.range h.objs.size).filterMap λa=>if a=L\/(g.get? a).isSome=true then none else(h.get? a).map λo=>(a,o)
def GO{g h:Heap}{L a:Addr}{o:Obj}(h1:a≠L)(h2:g.get? a=none)(h3:h.get? a=some o):(a,o)∈Dn g h L:=
 cz.mpr ⟨a,aW.mpr<|ao h3,by simp[h1,h2,h3]⟩
def IA{g h:Heap}{L:Addr}{p:Addr × Obj}(hp:p∈Dn g h L):p.1≠L/\g.get? p.1=none/\h.get? p.1=some p.2:=by
 obtain⟨b,_,e⟩:=cz.mp hp;split at e
 . cases e
 . rename_i hn;cases q:h.get? b with
   | none=>rw[q]at e;simp at e
   | some u=>
    rw[q]at e;simp only[Option.map_some,Option.some.injEq]at e;subst e;show⟨λz=>hn<|.inl z,?_,q⟩;show g.get? b=none;cases r:g.get? b with
    | none=>rfl
    | some v=>exact(hn<|.inr<|by simp[r]).elim
def R3(g h:Heap)(L d:Addr):w1b:=(Dn g h L).filter λp=>decide (p.1≠d)
def Vw{g h:Heap}{L:Addr}:News g L h (Dn g h L):=λp hp=>let⟨a,b,c⟩:=IA hp;⟨c,a,b⟩
structure Mod(K:aa)(mg:w1d)(base:Heap):Prop where
 kin:K.In base
 glob:base.Ns mainGlobals mg
 blt:∃mb,base.Ns builtinsNs mb/\∀x:Str,x≠"__name__"->mb x=bootBuiltins x
 nolimit:base.NoLimit
 seer:base.NoSeer
set_option genInjectivity false in
set_option genSizeOfSpec false in
structure Cx where
 prog:Program
 w:World
 K:aa
 mg:w1d
 base:Heap
 A:Around
 N:w1f
 s₀:Shared
 H₀:Hp
 env:Env
 outer:List Env
 stack:List Env
 ex:List Addr
 fn:Str->Bool
 calm:Bool
 pn:w1b
 xe:w1c
def HH(l:List Env):List Addr:=l.filterMap (·.frame)
abbrev Cx.fs(X:Cx):List Addr:=HH X.outer
def Vis(sc:Scope)(x:Str):Prop:=sc.names.lookup x=some .local\/sc.names.lookup x=some .cell\/sc.names.lookup x=some .free
def d0p(sc:Scope)(x:Str):Prop:=sc.names.lookup x=some .local\/sc.names.lookup x=some .cell
def Look(env:Env)(h:Heap)(m:w1d)(x:Str)(u:Value):Prop:=
 (env.kindOf x=some .local/\m x=some u)\/((env.kindOf x=some .cell\/env.kindOf x=some .free)/\∃c,env.cells.lookup x=some c/\h.IsCell c (some u))
structure Cx.Ok(X:Cx):Prop where
 mod:Mod X.K X.mg X.base
 kind:X.env.scope.kind=.function
 glob:X.env.globals=mainGlobals
 blt:X.env.builtins=builtinsNs
 above:X.s₀.heap.objs.size<=X.env.locals
 inj:∀x y c,X.env.cells.lookup x=some c->X.env.cells.lookup y=some c->x=y
 has:∀x,(X.env.kindOf x=some .cell\/X.env.kindOf x=some .free)->∃c,X.env.cells.lookup x=some c
 cab:∀x c,X.fn x=true->X.env.cells.lookup x=some c->X.s₀.heap.objs.size<=c
 hd:X.calm=true->X.A.handled=none
 frames:X.A.frames=some X.stack
 stk:X.stack=X.outer\/(X.stack=X.env::X.outer/\X.env.frame=some X.env.locals)
 exf:∀b∈X.ex,b≠X.env.locals/\∀x c,X.env.cells.lookup x=some c->c≠b
 bs:∀b o,X.base.get? b=some o->X.s₀.heap.get? b=some o/\X.H₀ b=none
 bsz:X.base.objs.size<=X.s₀.heap.objs.size
 noex:∀b o,X.base.get? b=some o->b ∉ X.ex
 exfs:∀b∈X.ex,b ∉ X.fs
 funs:X.s₀.heap.FunFrames X.base X.outer
 frf:∀b∈X.fs,X.H₀ b=none
structure r8(X:Cx)(aS:w1b)(σ:List (Option V))(H:Hp)(s:Shared):Prop where
 ok:X.Ok
 os:s.os=X.s₀.os
 bare:AllBare s.gens
 base:Un X.fs X.ex X.H₀ H X.s₀.heap s.heap
 loc:∃m,s.heap.Ns X.env.locals m/\∀(i:Nat) (x:Str) (v:V),X.N[i]? = some x->σ[i]? = some (some v)->Vis X.env.scope x->∃u,E3 v u/\Look X.env s.heap m x u
 cell:∀x c,X.env.cells.lookup x=some c->∃v,s.heap.IsCell c v
 free:H X.env.locals=none
 freeC:∀x c,X.env.cells.lookup x=some c->H c=none
 pin:∀p∈X.pn++aS,s.heap.get? p.1=some p.2/\H p.1=none/\p.1≠X.env.locals/\p.1 ∉ X.fs/\∀v,p.2.data≠.cell v
 hok:BB X.prog X.w H s.heap
 len:σ.length=X.N.length
section
variable{X:Cx}{aS:w1b}{σ:List (Option V)}{H H':Hp}{s:Shared}{h':Heap}
def Cx.Ok.nofr(ok:X.Ok){b:Addr}{o:Obj}(e:X.base.get? b=some o):b ∉ X.fs:=λhb=>by
 have:=(ok.funs.mem hb).1;rw[e]at this;cases this
theorem r8.bs(I:r8 X aS σ H s):∀b o,X.base.get? b=some o->s.heap.get? b=some o/\H b=none:=λb o e=>
 ⟨I.base.keep b o (I.ok.bs b o e).1 (I.ok.bs b o e).2 (I.ok.nofr e)<|I.ok.noex b o e,I.base.free b o (I.ok.bs b o e).1 (I.ok.bs b o e).2<|I.ok.noex b o e⟩
def r8.bk(I:r8 X aS σ H s):∀b o,X.base.get? b=some o->s.heap.get? b=some o:=λb o e=>(I.bs b o e).1
theorem r8.mod(I:r8 X aS σ H s):Mod X.K X.mg X.base:=I.ok.mod
def r8.kIn(I:r8 X aS σ H s):X.K.In s.heap:=I.ok.mod.kin.keeps I.bk
theorem r8.nolimit(I:r8 X aS σ H s):s.heap.NoLimit:=I.ok.mod.nolimit.keeps I.bk
def r8.fr(I:r8 X aS σ H s):∃m,Fr X.base X.env.locals s.heap m:=
 let⟨m,hn,_⟩:=I.loc
 ⟨m,hn,I.bk,af I.ok.bsz I.ok.above⟩
theorem r8.lt(I:r8 X aS σ H s):X.env.locals < s.heap.objs.size:=let⟨_,hn,_⟩:=I.loc;hn.lt
def r8.sz(I:r8 X aS σ H s):X.s₀.heap.objs.size<=s.heap.objs.size:=af I.ok.above (bI I.lt)
def r8.nofs(I:r8 X aS σ H s){a:Addr}(h:s.heap.objs.size<=a):a ∉ X.fs:=λhb=>by
 obtain⟨_,o,ho,_⟩:=I.ok.funs.mem hb;exact absurd (az (ao ho)<|af I.sz h) (aO _)
def r8.cne(I:r8 X aS σ H s):∀x c,X.env.cells.lookup x=some c->c≠X.env.locals:=λx c e z=>by
 obtain⟨v,o,ho,hd⟩:=I.cell x c e;obtain⟨m,⟨o',es,ep,kD,ir,_⟩,_⟩:=I.loc;rw[z,kD]at ho;cases ho;rw[ir]at hd;cases hd
theorem r8.funs(I:r8 X aS σ H s):s.heap.FunFrames X.base X.outer:=by
 have all:∀(l:List Env),(∀b∈HH l,b∈X.fs)->X.s₀.heap.FunFrames X.base l->s.heap.FunFrames X.base l:=by
  intro l
  induction l with
  | nil=>intro _ _;trivial
  | cons env r ih=>
   intro hs hl;obtain⟨hk,⟨L,o,hf,hn,ho,hd⟩,hr⟩:=hl;have hL:L∈X.fs:=hs L (by unfold HH;rw[da,hf];exact ax);obtain⟨sl,e⟩:=I.base.slot L o ho (I.ok.frf L hL) hL λz=>I.ok.exfs L z hL;exact⟨hk,⟨L,_,hf,hn,e,hd⟩,ih (λb hb=>hs b<|by unfold HH;rw[da,hf];exact aA _ hb) hr⟩
 exact all X.outer (λ_ hb=>hb) I.ok.funs
theorem r8.stack(I:r8 X aS σ H s):s.heap.FunFrames X.base X.stack:=by
 rcases I.ok.stk with e | ⟨e,hf⟩
 . rw[e];exact I.funs
 . rw[e];obtain⟨m,hn,_⟩:=I.loc;show .cons (by rw[I.ok.kind];decide) hf hn ?_ I.funs;exact Heap.get?_none_of_le (af I.ok.bsz I.ok.above)
def r8.stkSub(I:r8 X aS σ H s):∀b∈HH X.stack,b∈X.env.locals::X.fs:=λb hb=>by
 rcases I.ok.stk with e | ⟨e,hf⟩
 . rw[e]at hb;exact aA _ hb
 . rw[e]at hb;unfold HH at hb;rw[da,hf]at hb;exact hb
def r8.stkFree(I:r8 X aS σ H s):∀b∈HH X.stack,H b=none:=λb hb=>by
 rcases au.mp (I.stkSub b hb)with e | hb
 . rw[e];exact I.free
 . obtain⟨_,o,ho,_⟩:=I.ok.funs.mem hb;exact I.base.free b o ho (I.ok.frf b hb) λz=>I.ok.exfs b z hb
def r8.step{g':Array GenState}{t':Nat}{d':Drawn}{ch:List Addr}(I:r8 X aS σ H s)
    (jc:∀b∈ch,(b∈X.ex\/X.s₀.heap.objs.size<=b)/\b≠X.env.locals/\(∀x c,X.env.cells.lookup x=some c->c≠b)/\∀p∈X.pn++aS,p.1≠b)
    (keep:∀b o,b≠X.env.locals->b ∉ X.fs->b ∉ ch->s.heap.get? b=some o->H b=none->h'.get? b=some o)
    (slot:∀b o,b≠X.env.locals->b∈X.fs->b ∉ ch->s.heap.get? b=some o->H b=none->∃sl,h'.get? b=some { o with slots:=sl }) (free:∀b o,b ∉ ch->s.heap.get? b=some o->H b=none->H' b=none)
    (there:∀b o,b ∉ ch->s.heap.get? b=some o->∃o',h'.get? b=some o')
    (tups:∀b xs,H b=some (.tup xs)->H' b=some (.tup xs)) (frzs:∀b o u,H b=some (.frz o u)->H' b=some (.frz o u)) (tbls:∀b ps,H b=some (.tbl ps)->∃more,H' b=some (.tbl<|ps++more))
    (ns:∀m,s.heap.Ns X.env.locals m->h'.Ns X.env.locals m) (hok:BB X.prog X.w H' h') (hg:AllBare g') :
    r8 X aS σ H' { s with heap:=h',gens:=g',drawn:=d',toks:=t' }:=by
 have lC:∀b o,X.s₀.heap.get? b=some o->b≠X.env.locals:=λb o e=>aC<|az (ao e) I.ok.above;have jt:∀b o,X.s₀.heap.get? b=some o->b ∉ X.ex->b ∉ ch:=λb o e hx hb=>by
  rcases(jc b hb).1 with z | z
  . exact hx z
  . exact absurd (az (ao e) z) (aO _)
 have jV:∀x c,X.env.cells.lookup x=some c->∀v,s.heap.IsCell c v->h'.IsCell c v:=λx c e v ⟨o,ho,hd⟩=>by
  have mK:c ∉ ch:=λz=>(jc c z).2.2.1 x c e rfl;by_cases hc:c∈X.fs
  . obtain⟨sl,q⟩:=slot c o (I.cne x c e) hc mK ho<|I.freeC x c e;exact⟨_,q,hd⟩
  . exact⟨o,keep c o (I.cne x c e) hc mK ho<|I.freeC x c e,hd⟩
 show⟨I.ok,I.os,hg,⟨λb o e n hb hx=>?_,λb o e n hb hx=>?_,λb o e n hx=>?_,λb o e hx=>?_,λb xs e=>tups b xs<|I.base.tups b xs e,λb o xs e=>frzs b o xs<|I.base.frzs b o xs e,λb ps e=>?_⟩,?_,λx c e=>?_,?_,λx c e=>?_,λp hp=>?_,hok,I.len⟩
 . exact keep b o (lC b o e) hb (jt b o e hx) (I.base.keep b o e n hb hx) (I.base.free b o e n hx)
 . obtain⟨sl,e1⟩:=I.base.slot b o e n hb hx;obtain⟨qR,e2⟩:=slot b _ (lC b o e) hb (jt b o e hx) e1<|I.base.free b o e n hx;exact⟨qR,e2⟩
 . obtain⟨o',e1⟩:=I.base.there b o e hx;exact free b o' (jt b o e hx) e1 (I.base.free b o e n hx)
 . obtain⟨o',e1⟩:=I.base.there b o e hx;exact there b o' (jt b o e hx) e1
 . obtain⟨m1,e1⟩:=I.base.tbls b ps e;obtain⟨m2,e2⟩:=tbls b _ e1;exact⟨m1++m2,by rw[e2,Array.append_assoc]⟩
 . obtain⟨m,hn,hl⟩:=I.loc;show⟨m,ns m hn,λi x v e1 e2 e3=>?_⟩;obtain⟨u,r,l⟩:=hl i x v e1 e2 e3;show⟨u,r,?_⟩;rcases l with l | ⟨k,c,e,z⟩
   . exact .inl l
   . exact .inr ⟨k,c,e,jV x c e _ z⟩
 . obtain⟨v,z⟩:=I.cell x c e;exact⟨v,jV x c e v z⟩
 . obtain⟨m,⟨o,_,_,ho,_⟩,_⟩:=I.loc;exact free _ o (λz=>(jc _ z).2.1 U) ho I.free
 . obtain⟨v,o,ho,hd⟩:=I.cell x c e;exact free c o (λz=>(jc c z).2.2.1 x c e U) ho (I.freeC x c e)
 . obtain⟨e,n,ne,nf,d⟩:=I.pin p hp;have mK:p.1 ∉ ch:=λz=>(jc p.1 z).2.2.2 p hp rfl;exact⟨keep p.1 p.2 ne nf mK e n,free p.1 p.2 mK e n,ne,nf,d⟩
def r8.un{t':Nat}(I:r8 X aS σ H s)(u:Un X.fs [] H H' s.heap h')(hok:BB X.prog X.w H' h'):r8 X aS σ H' { s with heap:=h',toks:=t' }:=by
 obtain⟨m,⟨o,es,ep,ho,r⟩,_⟩:=id I.loc;obtain⟨sl,hL⟩:=u.any ho I.free (by simp);exact I.step (g':=s.gens) (d':=s.drawn) (ch:=[]) (λ_ z=>nomatch z) (λb o _ hb _ e n=>u.keep b o e n hb<|by simp) (λb o _ hb _ e n=>u.slot b o e n hb<|by simp) (λb o _ e n=>u.free b o e n<|by simp) (λb o _ e=>u.there b o e<|by simp) u.tups u.frzs u.tbls (λm' hm=>by
  obtain⟨o',fm,lT,kD,r'⟩:=hm;rw[ho]at kD;cases kD;exact⟨_,fm,lT,hL,r'⟩) hok I.bare
def r8.call{g':Array GenState}{t':Nat}{d':Drawn}{ch:List Addr}(I:r8 X aS σ H s)(u:Un (HH X.stack) ch H H' s.heap h')(hok:BB X.prog X.w H' h')(hg:AllBare g')
    (jc:∀b∈ch,(b∈X.ex\/X.s₀.heap.objs.size<=b)/\b≠X.env.locals/\(∀x c,X.env.cells.lookup x=some c->c≠b)/\∀p∈X.pn++aS,p.1≠b) :
    r8 X aS σ H' { s with heap:=h',gens:=g',drawn:=d',toks:=t' }:=by
 obtain⟨m,⟨o,es,ep,ho,r⟩,_⟩:=id I.loc;obtain⟨sl,hL⟩:=u.any ho I.free λz=>(jc _ z).2.1 rfl;exact I.step (ch:=ch) jc (λb o hL hb hc e n=>u.keep b o e n (λz=>(au.mp<|I.stkSub b z).elim hL hb) hc) (λb o _ _ hc e n=>u.any e n hc) (λb o hc e n=>u.free b o e n hc) (λb o hc e=>u.there b o e hc) u.tups u.frzs u.tbls (λm' hm=>by
  obtain⟨o',fm,lT,kD,r'⟩:=hm;rw[ho]at kD;cases kD;exact⟨_,fm,lT,hL,r'⟩) hok hg
def r8.turned{t':Nat}{it:Addr}(I:r8 X aS σ H s)(k:∀b o,b≠it->s.heap.get? b=some o->h'.get? b=some o)(hn:H it=none)(hL:it≠X.env.locals)
    (h1:it∈X.ex\/X.s₀.heap.objs.size<=it) (h2:∀x c,X.env.cells.lookup x=some c->c≠it) (h3:∀p∈X.pn++aS,p.1≠it):r8 X aS σ H { s with heap:=h',toks:=t' }:=by
 have mI:∀b u,H b=some u->b≠it:=λb u e z=>by rw[z,hn]at e;cases e
 show I.step (g':=s.gens) (d':=s.drawn) (ch:=[it]) (λb hb=>?_) (λb o _ _ hc e _=>k b o (λz=>hc<|by simp[z]) e) (λb o _ _ hc e _=>⟨o.slots,k b o (λz=>hc<|by simp[z]) e⟩) (λ_ _ _ _ n=>n)
  (λb o hc e=>⟨o,k b o (λz=>hc<|by simp[z]) e⟩) (λ_ _ e=>e) (λ_ _ _ e=>e) (λb ps e=>⟨#[],by rw[e];simp⟩) (λm hm=>?_) (λb u e=>?_) I.bare
 . have e:b=it:=by simpa using hb
   subst e;exact⟨h1,hL,h2,h3⟩
 . obtain⟨o,es,ep,ho,r⟩:=hm;exact⟨o,es,ep,k _ o (Ne.symm hL) ho,r⟩
 . show(I.hok b u e).stay (λc v hc q=>k c v ?_ q) (λ_ q=>q) λ_ _ q=>q;rcases hc with z | z
   . rw[z];exact mI b u e
   . exact mI c _ z
def r8.tok(I:r8 X aS σ H s)(t:Nat):r8 X aS σ H { s with toks:=t }:=I.un (h':=s.heap) (t':=t) Un.refl I.hok
theorem r8.kept{t':Nat}(I:r8 X aS σ H s)(k:∀b u,s.heap.get? b=some u->h'.get? b=some u):r8 X aS σ H { s with heap:=h',toks:=t' }:=I.un (Un.kept k) (I.hok.kept k)
theorem r8.laid{a:Addr}{o:HO}{t':Nat}(I:r8 X aS σ H s)(k:∀b u,s.heap.get? b=some u->h'.get? b=some u)(hp:s.heap.objs.size<=a)(new:M6 X.prog X.w (upd H a o) h' a o) :
    r8 X aS σ (upd H a o) { s with heap:=h',toks:=t' }:=I.un (Un.laid k hp<|I.hok.fresh hp) (I.hok.laid k hp new)
theorem r8.write{x e:Addr}{o:HO}{t':Nat}(I:r8 X aS σ H s)(mu:Mut (H x))(he:e=x\/H e=some (.own x))(k:∀b u,b≠e->s.heap.get? b=some u->h'.get? b=some u)(lK:∃u,h'.get? e=some u)
    (new:M6 X.prog X.w (upd H x o) h' x o):r8 X aS σ (upd H x o) { s with heap:=h',toks:=t' }:=I.un (Un.write mu he k lK) (I.hok.write mu he k lK new)
def r8.weak{σ':List (Option V)}(I:r8 X aS σ H s)(hl:σ'.length=σ.length)(w:∀(i:Nat) v,σ'[i]? = some (some v)->σ[i]? = some (some v)):r8 X aS σ' H s:=
 ⟨I.ok,I.os,I.bare,I.base,let⟨m,hn,vU⟩:=I.loc;⟨m,hn,λi x v e1 e2 e3=>vU i x v e1 (w i v e2) e3⟩,I.cell,I.free,I.freeC,I.pin,I.hok,hl.trans I.len⟩
def r8.pins_of{pins':w1b}(I:r8 X aS σ H s)(h:∀p∈pins',s.heap.get? p.1=some p.2/\H p.1=none/\p.1≠X.env.locals/\p.1 ∉ X.fs/\∀v,p.2.data≠.cell v):r8 X pins' σ H s:=
 ⟨I.ok,I.os,I.bare,I.base,I.loc,I.cell,I.free,I.freeC,λp hp=>(av.mp hp).elim (λz=>I.pin p<|bc _ z)<|h p,I.hok,I.len⟩
def NG{N:w1f}(hN:N.Nodup){i j:Nat}{x:Str}(a:N[i]? = some x)(b:N[j]? = some x):i=j:=by obtain⟨h1,e1⟩:=aJ.mp a;obtain⟨h2,e2⟩:=aJ.mp b;exact(List.getElem_inj hN).mp (e1.trans e2.symm)
def Kd{M:Model}{A:Around}{E:w1c}{i:Nat}{x:Str}{v:V}{u:Value}{Q:Unit->Shared->Prop}(I:r8 X aS σ H s)(hN:X.N.Nodup)(hi:X.N[i]? = some x)(hx:d0p X.env.scope x)(r:E3 v u)
    (h:∀s',r8 X aS (σ.set i<|some v) H s'->(∃a,Heap.SameBut a s.heap s'.heap/\(a=X.env.locals\/X.env.cells.lookup x=some a))->Q () s') (hf:X.fn x=true\/X.env.scope.names.lookup x=some .local:=by first | exact .inl rfl | exact .inr rfl | assumption):wpAny M A (storeName X.env x u) Q E s:=by
 obtain⟨m,hn,hl⟩:=id I.loc;have tO:(X.env.scope.kind == .class || (X.env.scope.kind == .module && X.env.locals != X.env.globals))=false:=by rw[I.ok.kind];rfl
 have nF:i < σ.length:=by rw[I.len];exact(aJ.mp hi).1
 have cne:=I.cne;have gS:∀{a:Addr} {h':Heap},(∃o,s.heap.get? a=some o/\H a=none)->Heap.SameBut a s.heap h'->BB X.prog X.w H h':=λ{a h'} ha hs b ob e=>by
  obtain⟨_,_,jO⟩:=ha;show(I.hok b ob e).stay (λc w' hc q=>(hs.2 c ?_).trans q) (λ_ q=>q) λ_ _ q=>q;rintro rfl;rcases hc with rfl | hc
  . rw[jO]at e;cases e
  . rw[jO]at hc;cases hc
 rcases hx with hk | hk
 . show wpAny_storeName_local hk hn (λh' kE hs=>?_) tO;obtain⟨oL,_,_,hoL,_⟩:=id hn;show h _ ⟨I.ok,I.os,I.bare,⟨λb o e n hb hx=>?_,λb o e n hb hx=>?_,I.base.free,λb o e hx=>?_,I.base.tups,I.base.frzs,I.base.tbls⟩,⟨_,kE,λj y v' e1 e2 e3=>?_⟩,λy c e=>?_,I.free,I.freeC,λp hp=>?_,gS ⟨oL,hoL,I.free⟩ hs,by simpa using I.len⟩ ⟨_,hs,.inl U⟩
   . exact(hs.2 b<|aC<|az (ao e) I.ok.above).trans (I.base.keep b o e n hb hx)
   . obtain⟨sl,e1⟩:=I.base.slot b o e n hb hx;exact⟨sl,(hs.2 b<|aC<|az (ao e) I.ok.above).trans e1⟩
   . obtain⟨o',e1⟩:=I.base.there b o e hx;exact⟨o',(hs.2 b<|aC<|az (ao e) I.ok.above).trans e1⟩
   . by_cases hj:j=i
     . subst hj;rw[hi]at e1;cases e1;rw[cA nF]at e2;cases e2;exact⟨u,r,.inl ⟨hk,by simp⟩⟩
     . rw[bL<|Ne.symm hj]at e2;obtain⟨u',r',q⟩:=hl j y v' e1 e2 e3;show⟨u',r',?_⟩;rcases q with ⟨k,e⟩ | ⟨k,c,e,z⟩
       . show .inl ⟨k,?_⟩;have:y≠x:=λe=>hj<|NG hN e1<|e▸hi;simp[this,e]
       . exact .inr ⟨k,c,e,z.sameBut hs<|cne y c e⟩
   . obtain⟨w',z⟩:=I.cell y c e;exact⟨w',z.sameBut hs<|cne y c e⟩
   . obtain⟨e,n,ne,nf,d⟩:=I.pin p hp;exact⟨(hs.2 p.1 ne).trans e,n,ne,nf,d⟩
 . have tI:X.fn x=true:=by
    rcases hf with z | z
    . exact z
    . rw[z]at hk;cases hk
   obtain⟨c,hc⟩:=I.ok.has x<|.inl hk;obtain⟨w',z⟩:=I.cell x c hc;show wpAny_storeName_cell I.ok.kind hk hc z<|λh' gO hs=>?_;obtain⟨oc,vR,sQ⟩:=id z;show h { s with heap:=h' } ⟨I.ok,I.os,I.bare,⟨λb o e n hb hx=>?_,λb o e n hb hx=>?_,I.base.free,λb o e hx=>?_,I.base.tups,I.base.frzs,I.base.tbls⟩,⟨m,hn.sameBut hs<|Ne.symm<|cne x c hc,λj y v' e1 e2 e3=>?_⟩,λy c' e=>?_,I.free,I.freeC,λp hp=>?_,gS ⟨oc,vR,I.freeC x c hc⟩ hs,by simpa using I.len⟩ ⟨c,hs,.inr hc⟩
   . exact(hs.2 b<|aC<|az (ao e)<|I.ok.cab x c tI hc).trans (I.base.keep b o e n hb hx)
   . obtain⟨sl,e1⟩:=I.base.slot b o e n hb hx;exact⟨sl,(hs.2 b<|aC<|az (ao e)<|I.ok.cab x c tI hc).trans e1⟩
   . obtain⟨o',e1⟩:=I.base.there b o e hx;exact⟨o',(hs.2 b<|aC<|az (ao e)<|I.ok.cab x c tI hc).trans e1⟩
   . by_cases hj:j=i
     . subst hj;rw[hi]at e1;cases e1;rw[cA nF]at e2;cases e2;exact⟨u,r,.inr ⟨.inl hk,c,hc,gO⟩⟩
     . rw[bL<|Ne.symm hj]at e2;obtain⟨u',r',q⟩:=hl j y v' e1 e2 e3;show⟨u',r',?_⟩;rcases q with q | ⟨k,c',e,z'⟩
       . exact .inl q
       . show .inr ⟨k,c',e,z'.sameBut hs ?_⟩;rintro rfl;exact hj (NG hN e1<|I.ok.inj _ _ _ e hc▸hi)
   . by_cases pM:c'=c
     . subst pM;exact⟨_,gO⟩
     . obtain⟨w2,z2⟩:=I.cell y c' e;exact⟨w2,z2.sameBut hs pM⟩
   . obtain⟨e,n,ne,nf,d⟩:=I.pin p hp;show⟨(hs.2 p.1 ?_).trans e,n,ne,nf,d⟩;intro q;rw[q,vR]at e;have q':oc=p.2:=Option.some.inj e;exact d w' (by rw[<- q'];exact sQ)
def EH{M:Model}{A:Around}{E:w1c}{i:Nat}{x:Str}{v:V}{u:Value}{Q:Unit->Shared->Prop}(I:r8 X aS σ H s)(hN:X.N.Nodup)(hi:X.N[i]? = some x)(hx:d0p X.env.scope x)(r:E3 v u)
    (h:∀s',r8 X aS (σ.set i<|some v) H s'->Q () s') (hf:X.fn x=true\/X.env.scope.names.lookup x=some .local:=by first | exact .inl rfl | exact .inr rfl | assumption):wpAny M A (storeName X.env x u) Q E s:=
 Kd I hN hi hx r (λs' I' _=>h s' I') hf
def r8.call'{s':Shared}{ch:List Addr}(I:r8 X aS σ H s)(ho:s'.os=s.os)(u:Un (HH X.stack) ch H H' s.heap s'.heap)(hok:BB X.prog X.w H' s'.heap)(hg:AllBare s'.gens)
    (jc:∀b∈ch,(b∈X.ex\/X.s₀.heap.objs.size<=b)/\b≠X.env.locals/\(∀x c,X.env.cells.lookup x=some c->c≠b)/\∀p∈X.pn++aS,p.1≠b):r8 X aS σ H' s':=by
 obtain⟨h',g',d',t',o'⟩:=s';have e:o'=s.os:=ho;subst e;exact I.call (g':=g') (t':=t') (d':=d') u hok hg jc
end
abbrev XK:=Value->Option Addr->Hp->Prop
abbrev St:=List (Option V)
abbrev VK:=V->Hp->Prop
abbrev TE:=St->Hp->VK->Prop
abbrev TT:=St->Hp->(Bool->Hp->Prop)->Prop
abbrev TA:=St->Hp->(List V->Hp->Prop)->Prop
structure Ja where
 nx:St->Hp->Prop
 rt:VK
 bk:St->Hp->Prop:=λ_ _=>False
 ct:St->Hp->Prop:=λ_ _=>False
abbrev TS:=Ja->St->Hp->Prop
def EP(X:Cx)(aS:w1b)(σ:St)(Q:VK)(u:Value)(s':Shared):Prop:=∃v H',r8 X aS σ H' s'/\E3 v u/\Q v H'
def TP(X:Cx)(aS:w1b)(σ:St)(Q:Bool->Hp->Prop)(b:Bool)(s':Shared):Prop:=∃H',r8 X aS σ H' s'/\Q b H'
def AP(X:Cx)(aS:w1b)(σ:St)(Q:List V->Hp->Prop)(us:w1g)(s':Shared):Prop:=∃vs H',r8 X aS σ H' s'/\z9 vs us/\Q vs H'
def SP(X:Cx)(aS:w1b)(D:Ja)(f:Flow)(s':Shared):Prop:=
 match f with
 | .next=>∃σ' H',r8 X aS σ' H' s'/\D.nx σ' H'
 | .brk=>∃σ' H',r8 X aS σ' H' s'/\D.bk σ' H'
 | .cont=>∃σ' H',r8 X aS σ' H' s'/\D.ct σ' H'
 | .ret u=>∃v σ' H',r8 X aS σ' H' s'/\E3 v u/\D.rt v H'
def PE(X:Cx)(e:Expr)(t:TE):Prop:=
 ∀(aS:w1b) (s:Shared) (σ:St) (H:Hp) (Q:VK),r8 X aS σ H s->t σ H Q->wpAny (model X.prog X.w) X.A (eval e X.env) (EP X aS σ Q) X.xe s
def PT(X:Cx)(e:Expr)(t:TT):Prop:=
 ∀(aS:w1b) (s:Shared) (σ:St) (H:Hp) (Q:Bool->Hp->Prop),r8 X aS σ H s->t σ H Q->wpAny (model X.prog X.w) X.A (isTrue e X.env<|eval e X.env) (TP X aS σ Q) X.xe s
def PW(X:Cx)(e:Expr)(t:TT):Prop:=
 ∀(gQ:Sem Value) (aS:w1b) (s:Shared) (σ:St) (H:Hp) (Q:Bool->Hp->Prop),r8 X aS σ H s->t σ H Q->wpAny (model X.prog X.w) X.A (isTrue e X.env gQ) (TP X aS σ Q) X.xe s
def PW.pt{X:Cx}{e:Expr}{t:TT}(h:PW X e t):PT X e t:=h _
def PA(X:Cx)(es:List Expr)(t:TA):Prop:=
 ∀(pos:Pos) (aS:w1b) (s:Shared) (σ:St) (H:Hp) (Q:List V->Hp->Prop),r8 X aS σ H s->t σ H Q->wpAny (model X.prog X.w) X.A (spliced<|backTo pos<|starEach es X.env) (AP X aS σ Q) X.xe s
def PS(X:Cx)(st:Stmt)(t:TS):Prop:=
 ∀(aS:w1b) (s:Shared) (σ:St) (H:Hp) (D:Ja),r8 X aS σ H s->t D σ H->wpAny (model X.prog X.w) X.A (exec st X.env) (SP X aS D) X.xe s
def Mu(X:Cx)(st:List Stmt)(t:TS):Prop:=
 ∀(aS:w1b) (s:Shared) (σ:St) (H:Hp) (D:Ja),r8 X aS σ H s->t D σ H->wpAny (model X.prog X.w) X.A (execs st X.env) (SP X aS D) X.xe s
def K0{α:Type}{t:Sem α}{Q Q':α->Shared->Prop}{M:Model}{A:Around}{E:w1c}{s:Shared}(h:wpAny M A t Q E s)(hQ:∀a s,Q a s->Q' a s):wpAny M A t Q' E s:=wpAny_mono h hQ λ_ _ x=>x
section
variable{X:Cx}
def bin{a b:Expr}{ta tb:TE}(ha:PE X a ta)(hb:PE X b tb){aS:w1b}{s:Shared}{σ:St}{H:Hp}{R:V->V->Hp->Prop}(I:r8 X aS σ H s)(h:ta σ H λx H1=>tb σ H1 λy H2=>R x y H2)
    {α:Type} {Q:α->Shared->Prop} {f:Value->Value->Sem α}
    (hf:∀v u s2 x y H2,r8 X aS σ H2 s2->E3 x v->E3 y u->R x y H2->wpAny (model X.prog X.w) X.A (f v u) Q X.xe s2) :
    wpAny (model X.prog X.w) X.A (eval a X.env) (λv s₁=>wpAny (model X.prog X.w) X.A (eval b X.env) (λu s₂=>wpAny (model X.prog X.w) X.A (f v u) Q X.xe s₂) X.xe s₁) X.xe s:=by
 show K0 (ha aS s σ H _ I h) λv s1 ⟨x,H1,I1,r1,q1⟩=>?_;show K0 (hb aS s1 σ H1 _ I1 q1) λu s2 ⟨y,H2,I2,r2,q2⟩=>?_;exact hf v u s2 x y H2 I2 r1 r2 q2
def Zu(i:Nat):TE:=λσ H Q=>∃v,σ[i]? = some (some v)/\Q v H
def tC(v:V):TE:=λ_ H Q=>Q v H
def Vg{i:Nat}{x:Str}{pos:Pos}(hN:X.N[i]? = some x)(hv:Vis X.env.scope x)(hd:(x == ("__debug__":Str))=false:=by decide)(gk:(x == ("__classdict__":Str))=false:=by decide):PE X (.Name x pos) (Zu i):=by
 intro aS s σ H Q I h;obtain⟨v,e,h⟩:=h;obtain⟨m,hn,hl⟩:=I.loc;obtain⟨u,r,l⟩:=hl i x v hN e hv;have fin:EP X aS σ Q u s:=⟨v,H,I,r,h⟩;rcases l with ⟨hk,hm⟩ | ⟨hk,c,hc,gx⟩
 . exact wpAny_Name (wpAny_loadName_local I.ok.kind hk hn hm fin) hd
 . rcases hk with hk | hk
   . exact wpAny_Name (wpAny_loadName_cell I.ok.kind hk hc gx fin) hd
   . exact wpAny_Name (wpAny_loadName_free I.ok.kind hk hc gx fin gk) hd
def c4{i j pos}:PE X (.Constant (.int i) j pos) (tC<|.int i):=λ_ _ _ H _ I h=>wpAny_Constant_int ⟨.int i,H,I.tok _,⟨_,U⟩,h⟩
def Ae{b j pos}:PE X (.Constant (.bool b) j pos) (tC<|.bl b):=λ_ _ _ H _ I h=>Constant_bool ⟨.bl b,H,I,U,h⟩
def Ii{j pos}:PE X (.Constant .none j pos) (tC .non):=λ_ _ _ H _ I h=>Constant_none ⟨.non,H,I,U,h⟩
def Ad{x j pos}:PE X (.Constant (.str x) j pos) (tC<|.str x):=λ_ _ _ H _ I h=>Calls.Constant_str ⟨.str x,H,I.tok _,⟨_,U⟩,h⟩
def Gl(X:Cx)(x:Str):Prop:=X.env.kindOf x=some .globalImplicit
def Fu{E:w1c}{aS:w1b}{s:Shared}{σ:St}{H:Hp}{x:Str}{u:Value}{pos:Pos}{Q:w1c}(I:r8 X aS σ H s)(hg:Gl X x)(hm:X.mg x=some u)(h:Q u s)
    (hd:(x == ("__debug__":Str))=false:=by decide):wpAny (model X.prog X.w) X.A (eval (.Name x pos) X.env) Q E s:=
 Calls.Name_function_global I.ok.kind hg (Calls.loadGlobal_global (by rw[I.ok.glob];exact I.mod.glob.keeps I.bk) hm h) hd
def AH{E:w1c}{aS:w1b}{s:Shared}{σ:St}{H:Hp}{x:Str}{u:Value}{pos:Pos}{Q:w1c}(I:r8 X aS σ H s)(hg:Gl X x)(hm:X.mg x=none)(hv:bootBuiltins x=some u)(h:Q u s)
    (hn:x≠"__name__":=by decide) (hd:(x == ("__debug__":Str))=false:=by decide):wpAny (model X.prog X.w) X.A (eval (.Name x pos) X.env) Q E s:=by
 obtain⟨mb,h1,h2⟩:=I.mod.blt;exact Calls.Name_function_global I.ok.kind hg (Calls.loadGlobal_builtin (by rw[I.ok.glob];exact I.mod.glob.keeps I.bk) hm (by rw[I.ok.blt];exact h1.keeps I.bk) ((h2 x hn).trans hv) h) hd
def XQ{x:Str}{v:V}{u:Value}{pos:Pos}(hg:Gl X x)(hm:X.mg x=some u)(r:E3 v u)(hd:(x == ("__debug__":Str))=false:=by decide):PE X (.Name x pos) (tC v):=
 λ_ _ _ H _ I h=>Fu I hg hm ⟨v,H,I,r,h⟩ hd
def Ll{x:Str}{v:V}{u:Value}{pos:Pos}(hg:Gl X x)(hm:X.mg x=none)(hv:bootBuiltins x=some u)(r:E3 v u)(hn:x≠"__name__":=by decide)(hd:(x == ("__debug__":Str))=false:=by decide):PE X (.Name x pos) (tC v):=
 λ_ _ _ H _ I h=>AH I hg hm hv ⟨v,H,I,r,h⟩ hn hd
variable{a b:Expr}{ta tb:TE}{pos:Pos}
def PC(X:Cx)(op:CmpOp)(a b:Expr)(t:TE):Prop:=
 ∀(aS:w1b) (s:Shared) (σ:St) (H:Hp) (Q:VK),r8 X aS σ H s->t σ H Q->
  wpAny (model X.prog X.w) X.A (eval a X.env) (λv s₁=>wpAny (model X.prog X.w) X.A (eval b X.env) (λu s₂=>wpAny (model X.prog X.w) X.A (compareOp op v u) (EP X aS σ Q) X.xe s₂) X.xe s₁) X.xe s
def Vv(b:Expr){op:CmpOp}(h:op≠.In)(h2:op≠.NotIn):behindInMarks op b=false:=by
 have e1:(op == CmpOp.In)=false:=by cases op <;>first | rfl | exact absurd rfl h
 have e2:(op == CmpOp.NotIn)=false:=by cases op <;>first | rfl | exact absurd rfl h2
 cases b <;>simp[behindInMarks,e1,e2]
def tB(t:TE):TT:=λσ H Q=>t σ H λx H1=>∃c,x=.bl c/\Q c H1
def pt_cmp{op:CmpOp}{t:TE}(h:PC X op a b t)(h1:behindInMarks op b=false:=by first | exact Vv _ bD bD | rfl):PT X (.Compare a [op] [b] pos) (tB t):=by intro aS s σ H Q I hw;show wpAny_isTrue_Compare1 (K0 (h aS s σ H _ I hw) λv s1 h1=>K0 h1 λu s2 h2=>K0 h2 λc s3 ⟨x,H1,I1,r1,q1⟩=>?_) h1;obtain⟨d,rfl,q⟩:=q1;cases r1;exact wpAny_truthy_bool ⟨H1,I1,q⟩
def DW{e:Expr}{t:TE}(h:PE X e t)(he:∀gQ,isTrue e X.env gQ=(do let v <- gQ;standAt e.pos;holding [v] (truthy v)):=by intro _;rfl):PT X e (tB t):=by intro aS s σ H Q I hw;show isTrue_plain (K0 (h aS s σ H _ I hw) λv s1 ⟨x,H1,I1,r1,q1⟩=>?_)<|he _;obtain⟨d,rfl,q⟩:=q1;cases r1;exact wpAny_truthy_bool ⟨H1,I1,q⟩
variable{tA oH:TT}{R3:List Expr}
def tAnd(t u:TT):TT:=λσ H Q=>t σ H λc H1=>if c=true then u σ H1 Q else Q false H1
def tOr(t u:TT):TT:=λσ H Q=>t σ H λc H1=>if c=true then Q true H1 else u σ H1 Q
def tNot(t:TT):TT:=λσ H Q=>t σ H λc H1=>Q (!c) H1
def Rn(ha:PT X a tA):PW X (.BoolOp .And [a] pos) tA:=by
 intro wh aS s σ H Q I h;show isTrue_and<|K0 (ha aS s σ H Q I h) λc s1 e=>?_;cases c with
 | true=>exact isTrue_and_nil e
 | false=>exact e
def Pw(ha:PT X a tA):PW X (.BoolOp .Or [a] pos) tA:=by
 intro wh aS s σ H Q I h;show isTrue_or<|K0 (ha aS s σ H Q I h) λc s1 e=>?_;cases c with
 | false=>exact isTrue_or_nil e
 | true=>exact e
def Px(ha:PT X a tA)(hb:PW X (.BoolOp .And (b::R3) pos) oH):PW X (.BoolOp .And (a::b::R3) pos) (tAnd tA oH):=by
 intro wh aS s σ H Q I h;show isTrue_and<|K0 (ha aS s σ H _ I h) λc s1 ⟨H1,I1,q1⟩=>?_;cases c with
 | true=>exact hb wh aS s1 σ H1 Q I1 q1
 | false=>exact⟨H1,I1,q1⟩
def Nn(ha:PT X a tA)(hb:PW X (.BoolOp .Or (b::R3) pos) oH):PW X (.BoolOp .Or (a::b::R3) pos) (tOr tA oH):=by
 intro wh aS s σ H Q I h;show isTrue_or<|K0 (ha aS s σ H _ I h) λc s1 ⟨H1,I1,q1⟩=>?_;cases c with
 | true=>exact⟨H1,I1,q1⟩
 | false=>exact hb wh aS s1 σ H1 Q I1 q1
def Gf(ha:PT X a tA):PT X (.UnaryOp .Not a pos) (tNot tA):=by intro aS s σ H Q I h;exact isTrue_not (ha aS s σ H (λc H1=>Q (!c) H1) I h)
def e0k(ta tb:TE):TE:=λσ H Q=>ta σ H λx H1=>∃c,x=.bl c/\if c=true then tb σ H1 Q else Q (.bl false) H1
def tOrV(ta tb:TE):TE:=λσ H Q=>ta σ H λx H1=>∃c,x=.bl c/\if c=true then Q (.bl true) H1 else tb σ H1 Q
def e0e(ta:TE):TE:=λσ H Q=>ta σ H λx H1=>∃c,x=.bl c/\Q (.bl<|!c) H1
def PD{op}{t:TE}(h:PE X a t):PE X (.BoolOp op [a] pos) t:=λaS s σ H Q I hw=>BoolOp_one (h aS s σ H Q I hw)
def PF(ha:PE X a ta)(hb:PE X (.BoolOp .And (b::R3) pos) tb):PE X (.BoolOp .And (a::b::R3) pos) (e0k ta tb):=by
 intro aS s σ H Q I h;show BoolOp_and<|K0 (ha aS s σ H _ I h) λv s1 ⟨x,H1,I1,r1,q1⟩=>?_;obtain⟨c,rfl,q1⟩:=q1;cases r1;show wpAny_truthy_bool ?_;cases c with
 | true=>exact hb aS s1 σ H1 Q I1 q1
 | false=>exact⟨.bl false,H1,I1,U,q1⟩
def g0f(ha:PE X a ta)(hb:PE X (.BoolOp .Or (b::R3) pos) tb):PE X (.BoolOp .Or (a::b::R3) pos) (tOrV ta tb):=by
 intro aS s σ H Q I h;show BoolOp_or<|K0 (ha aS s σ H _ I h) λv s1 ⟨x,H1,I1,r1,q1⟩=>?_;obtain⟨c,rfl,q1⟩:=q1;cases r1;show wpAny_truthy_bool ?_;cases c with
 | false=>exact hb aS s1 σ H1 Q I1 q1
 | true=>exact⟨.bl true,H1,I1,U,q1⟩
def Vj(ha:PE X a ta):PE X (.UnaryOp .Not a pos) (e0e ta):=by intro aS s σ H Q I h;show UnaryOp_<|K0 (ha aS s σ H _ I h) λv s1 ⟨x,H1,I1,r1,q1⟩=>?_;obtain⟨c,rfl,q1⟩:=q1;cases r1;exact not_of (wpAny_truthy_bool ⟨.bl<|!c,H1,I1,U,q1⟩)
def tIf(t:TT)(ta tb:TE):TE:=λσ H Q=>t σ H λc H1=>if c=true then ta σ H1 Q else tb σ H1 Q
def Nq{c:Expr}(hc:PT X c tA)(ha:PE X a ta)(hb:PE X b tb):PE X (.IfExp c a b pos) (tIf tA ta tb):=by
 intro aS s σ H Q I h;show wpAny_IfExp<|K0 (hc aS s σ H _ I h) λd s1 ⟨H1,I1,q1⟩=>?_;cases d with
 | true=>exact ha aS s1 σ H1 Q I1 q1
 | false=>exact hb aS s1 σ H1 Q I1 q1
end
def p9(K:aa)(H:Hp)(a:Addr)(xs:List V):Prop:=
 Rd H a (.lst xs)\/
  ∃(o:Obj) (its:Array Value) (n:Nat),K.lookup a=some o/\o.cls=.type "list"/\o.dict=none/\o.data=.seq its n/\its.size<=sizeLine/\z9 xs its.toList
def o9(K:aa)(H:Hp)(a:Addr)(xs:List V):Prop:=
 Rd H a (.tup xs)\/
  ∃(o:Obj) (its:Array Value) (n:Nat),K.lookup a=some o/\o.cls=.type "tuple"/\o.data=.seq its n/\its.size<=sizeLine/\z9 xs its.toList
def absV:Value->Option V
 | .none=>some .non
 | .bool b=>some (.bl b)
 | .int i _=>some (.int i)
 | .str x _=>some (.str x)
 | .bytes b _=>some (.byt b)
 | .float b _=>some (.flt b)
 | .ref a=>some (.ref a)
 | .type n=>some (.ty n)
 | _=>none
def E3.abs{x:V}{u:Value}(r:E3 x u):absV u=some x:=by
 cases x with
 | non=>cases r;rfl
 | bl _=>cases r;rfl
 | int _=>obtain⟨t,rfl⟩:=r;rfl
 | str _=>obtain⟨t,rfl⟩:=r;rfl
 | byt _=>obtain⟨t,rfl⟩:=r;rfl
 | flt _=>obtain⟨t,rfl⟩:=r;rfl
 | ref _=>cases r;rfl
 | ty _=>cases r;rfl
theorem E3.inj{x y:V}{u:Value}(r:E3 x u)(q:E3 y u):x=y:=Option.some.inj (r.abs.symm.trans q.abs)
theorem z9.inj:∀{xs ys:List V} {us:w1g},z9 xs us->z9 ys us->xs=ys
 | _,_,_,.nil,.nil=>rfl
 | _,_,_,.cons r t,.cons r' t'=>by rw[r.inj r',z9.inj t t']
section
variable{X:Cx}{aS:w1b}{σ:St}{H:Hp}{s:Shared}{a:Addr}{xs ys:List V}
def p9.of{K:aa}(h:H a=some (.lst xs)):p9 K H a xs:=.inl (.inl h)
def o9.of{K:aa}(h:H a=some (.tup xs)):o9 K H a xs:=.inl (.inl h)
def r8.list(I:r8 X aS σ H s)(h:p9 X.K H a xs):∃its:w1g,z9 xs its/\PlainL s.heap a its.toArray/\xs.length<=sizeLine:=by
 rcases h with h | ⟨o,its,n,hk,hc,hd,hs,hz,r⟩
 . obtain⟨z,its,n,r,e⟩:=h.ok I.hok;exact⟨its,r,⟨_,n,e,U,U,U⟩,z⟩
 . show⟨its.toList,r,⟨o,n,I.kIn a o hk,hc,hd,by simpa using hs⟩,?_⟩;have e:=r.length;simp only[Array.length_toList]at e;omega
def r8.tuple(I:r8 X aS σ H s)(h:o9 X.K H a xs):∃its:w1g,z9 xs its/\IsTup s.heap a its.toArray/\xs.length<=sizeLine:=by
 rcases h with h | ⟨o,its,n,hk,hc,hs,hz,r⟩
 . obtain⟨z,its,r,p,_⟩:=h.ok I.hok;exact⟨its,r,p,z⟩
 . show⟨its.toList,r,⟨o,I.kIn a o hk,hc,n,by simpa using hs⟩,?_⟩;have e:=r.length;simp only[Array.length_toList]at e;omega
def r8.list_inj(I:r8 X aS σ H s)(h:p9 X.K H a xs)(h':p9 X.K H a ys):xs=ys:=by
 obtain⟨its,r,⟨o,n,e,_,_,d⟩,_⟩:=I.list h;obtain⟨its',r',⟨o',n',e',_,_,d'⟩,_⟩:=I.list h';rw[e]at e';cases e';rw[d]at d';injection d' with d1 _;have:its=its':=by simpa using congrArg Array.toList d1
 subst this;exact r.inj r'
def r8.tuple_inj(I:r8 X aS σ H s)(h:o9 X.K H a xs)(h':o9 X.K H a ys):xs=ys:=by
 obtain⟨its,r,⟨o,e,_,n,d⟩,_⟩:=I.tuple h;obtain⟨its',r',⟨o',e',_,n',d'⟩,_⟩:=I.tuple h';rw[e]at e';cases e';rw[d]at d';injection d' with d1 _;have:its=its':=by simpa using congrArg Array.toList d1
 subst this;exact r.inj r'
end
abbrev Cx.wish(X:Cx)(E:w1c):Cx:={ X with xe:=E }
abbrev Cx.nox(X:Cx):Cx:=X.wish λ_ _=>False
theorem Cx.Ok.wish{X:Cx}(ok:X.Ok)(E:w1c):(X.wish E).Ok:=
 ⟨ok.mod,ok.kind,ok.glob,ok.blt,ok.above,ok.inj,ok.has,ok.cab,ok.hd,ok.frames,ok.stk,ok.exf,ok.bs,ok.bsz,ok.noex,ok.exfs,ok.funs,ok.frf⟩
def Cx.Ok.unwish{X:Cx}{E:w1c}(ok:(X.wish E).Ok):X.Ok:=
 ⟨ok.mod,ok.kind,ok.glob,ok.blt,ok.above,ok.inj,ok.has,ok.cab,ok.hd,ok.frames,ok.stk,ok.exf,ok.bs,ok.bsz,ok.noex,ok.exfs,ok.funs,ok.frf⟩
section
variable{X:Cx}{aS:w1b}{σ:St}{H:Hp}{s:Shared}{E:w1c}
theorem r8.wish(I:r8 X aS σ H s)(E:w1c):r8 (X.wish E) aS σ H s:=⟨I.ok.wish E,I.os,I.bare,I.base,I.loc,I.cell,I.free,I.freeC,I.pin,I.hok,I.len⟩
theorem r8.unwish(I:r8 (X.wish E) aS σ H s):r8 X aS σ H s:=⟨I.ok.unwish,I.os,I.bare,I.base,I.loc,I.cell,I.free,I.freeC,I.pin,I.hok,I.len⟩
theorem SP.unwish{D:Ja}{f:Flow}{s':Shared}(h:SP (X.wish E) aS D f s'):SP X aS D f s':=by
 cases f with
 | next=>obtain⟨σ',H',I,q⟩:=h;exact⟨σ',H',I.unwish,q⟩
 | brk=>obtain⟨σ',H',I,q⟩:=h;exact⟨σ',H',I.unwish,q⟩
 | cont=>obtain⟨σ',H',I,q⟩:=h;exact⟨σ',H',I.unwish,q⟩
 | ret u=>obtain⟨v,σ',H',I,r,q⟩:=h;exact⟨v,σ',H',I.unwish,r,q⟩
theorem PE.nox{e:Expr}{t:TE}(h:PE X.nox e t):PE X e t:=λaS s σ H Q I hw=>
 wpAny_mono (h aS s σ H Q (I.wish _) hw) (λ_ _ ⟨v,H',I',r,q⟩=>⟨v,H',I'.unwish,r,q⟩) λ_ _ z=>False.elim z
theorem PT.nox{e:Expr}{t:TT}(h:PT X.nox e t):PT X e t:=λaS s σ H Q I hw=>
 wpAny_mono (h aS s σ H Q (I.wish _) hw) (λ_ _ ⟨H',I',q⟩=>⟨H',I'.unwish,q⟩) λ_ _ z=>False.elim z
theorem Mu.nox{st:List Stmt}{t:TS}(h:Mu X.nox st t):Mu X st t:=λaS s σ H D I hw=>
 wpAny_mono (h aS s σ H D (I.wish _) hw) (λ_ _ q=>q.unwish) λ_ _ z=>False.elim z
end
section
variable{X:Cx}{st:Stmt}{R3:List Stmt}{t u:TS}{e:Expr}{te:TE}{pos:Pos}
def tNext:TS:=λD σ H=>D.nx σ H
def e0a(t u:TS):TS:=λD σ H=>t { D with nx:=u D } σ H
def x5:Mu X [] tNext:=λ_ _ σ H _ I h=>wpAny_execs_nil ⟨σ,H,I,h⟩
def c5(h1:PS X st t)(h2:Mu X R3 u):Mu X (st::R3) (e0a t u):=by
 intro aS s σ H D I h;show wpAny_execs_cons<|K0 (h1 aS s σ H { D with nx:=u D } I h) λf s1 q=>?_;cases f with
 | next=>
  obtain⟨σ',H',I',q⟩:=q;exact h2 aS s1 σ' H' D I' q
 | ret v=>exact q
 | brk=>exact q
 | cont=>exact q
def c6(h1:PS X st t):Mu X [st] t:=by
 intro aS s σ H D I h;show wpAny_execs_cons<|K0 (h1 aS s σ H D I h) λf s1 q=>?_;cases f with
 | next=>exact wpAny_execs_nil q
 | ret v=>exact q
 | brk=>exact q
 | cont=>exact q
def r8.quiet{aS:w1b}{σ:St}{H:Hp}{s:Shared}(I:r8 X aS σ H s):interactive X.env=false:=by simp[interactive,I.ok.kind]
def e0j(te:TE):TS:=λD σ H=>te σ H λ_ H1=>D.nx σ H1
def F3(he:PE X e te)(hs:swapsWith e none pos.line X.env=pure false:=by rfl):PS X (.Expr e pos) (e0j te):=by intro aS s σ H D I h;exact wpAny_Expr_any (K0 (he aS s σ H _ I h) λv s1 ⟨x,H1,I1,r1,q1⟩=>⟨σ,H1,I1,q1⟩) I.quiet hs
def e0b(te:TE):TS:=λD σ H=>te σ H D.rt
def h7(he:PE X e te):PS X (.Return (some e) pos) (e0b te):=by intro aS s σ H D I h;exact wpAny_Return_some (K0 (he aS s σ H _ I h) λv s1 ⟨x,H1,I1,r1,q1⟩=>⟨x,σ,H1,I1,r1,q1⟩)
def tIfS(c:TT)(t u:TS):TS:=λD σ H=>c σ H λb H1=>if b=true then t D σ H1 else u D σ H1
def D3{c:Expr}{a b:List Stmt}{tc:TT}(hc:PT X c tc)(ha:Mu X a t)(hb:Mu X b u):PS X (.If c a b pos) (tIfS tc t u):=by
 intro aS s σ H D I h;show wpAny_If<|K0 (hc aS s σ H _ I h) λd s1 ⟨H1,I1,q1⟩=>?_;cases d with
 | true=>exact ha aS s1 σ H1 D I1 q1
 | false=>exact hb aS s1 σ H1 D I1 q1
def tNever:TS:=λ_ _ _=>False
def AX:PS X st tNever:=λ_ _ _ _ _ _ h=>h.elim
end
abbrev TG:=V->St->Hp->(St->Hp->Prop)->Prop
abbrev d0c:=List V->St->Hp->(St->Hp->Prop)->Prop
def PG(X:Cx)(bY:Expr)(t:TG):Prop:=
 ∀(aS:w1b) (s:Shared) (σ:St) (H:Hp) (v:V) (u:Value) (Q:St->Hp->Prop),r8 X aS σ H s->E3 v u->t v σ H Q->
  wpAny (model X.prog X.w) X.A (assign bY X.env u) (λ_ s'=>∃σ' H',r8 X aS σ' H' s'/\Q σ' H') X.xe s
def q0h(X:Cx)(ts:List Expr)(t:d0c):Prop:=
 ∀(aS:w1b) (s:Shared) (σ:St) (H:Hp) (vs:List V) (us:w1g) (Q:St->Hp->Prop),r8 X aS σ H s->z9 vs us->t vs σ H Q->
  wpAny (model X.prog X.w) X.A (assignInOrder ((assignEach ts X.env).map (·.2)) us) (λ_ s'=>∃σ' H',r8 X aS σ' H' s'/\Q σ' H') X.xe s
abbrev d0b:=V->V->V->Hp->(Hp->Prop)->Prop
def q0g(X:Cx)(t:d0b):Prop:=
 ∀(aS:w1b) (s:Shared) (σ:St) (H:Hp) (o i v:V) (ov iv u:Value) (Q:Hp->Prop),r8 X aS σ H s->E3 o ov->E3 i iv->E3 v u->t o i v H Q->
  wpAny (model X.prog X.w) X.A (setItem ov iv u) (λ_ s'=>∃H',r8 X aS σ H' s'/\Q H') X.xe s
section
variable{X:Cx}{pos:Pos}
def R7(i:Nat):TG:=λv σ H Q=>Q (σ.set i<|some v) H
def r9{i:Nat}{x:Str}(hN:X.N.Nodup)(hi:X.N[i]? = some x)(hx:d0p X.env.scope x)(hf:X.fn x=true\/X.env.scope.names.lookup x=some .local:=by first | exact .inl rfl | exact .inr rfl | assumption):PG X (.Name x pos) (R7 i):=by intro aS s σ H v u Q I r h;exact wpAny_assign_Name (EH I hN hi hx r (λs' I'=>⟨_,H,I',h⟩) hf)
def gNil:d0c:=λvs σ H Q=>vs=[]/\Q σ H
def p0k(t:TG)(u:d0c):d0c:=λvs σ H Q=>∃v r,vs=v::r/\t v σ H λσ' H'=>u r σ' H' Q
def D7:q0h X [] gNil:=by intro aS s σ H vs us Q I r h;obtain⟨e,h⟩:=h;subst e;cases r;exact assignInOrder_nil ⟨σ,H,I,h⟩
def l5{e:Expr}{es:List Expr}{t:TG}{u:d0c}(h1:PG X e t)(h2:q0h X es u)
    (hs:(assignEach (e::es) X.env).map (·.2)=assign e X.env::(assignEach es X.env).map (·.2):=by rfl):q0h X (e::es) (p0k t u):=by
 intro aS s σ H vs us Q I r h;obtain⟨v,vr,e1,h⟩:=h;subst e1;cases r with
 | cons r rr=>
  rw[hs];show assignInOrder_cons<|K0 (h1 aS s σ H _ _ _ I r h) λ_ s1 ⟨σ1,H1,I1,q1⟩=>?_;exact h2 aS s1 σ1 H1 _ _ Q I1 rr q1
def Ep(K:aa)(n:Nat)(t:d0c):TG:=λv σ H Q=>∃a xs,v=.ref a/\o9 K H a xs/\xs.length=n/\t xs σ H Q
def I9{es:List Expr}{k:Nat}{t:d0c}{n:Nat}(hc:X.calm=true)(h:q0h X es t)
    (hn:(assignEach es X.env).length=n:=by rfl) (kx:(assignEach es X.env).findIdx? (·.1)=none:=by rfl):PG X (.Tuple es k pos) (Ep X.K n t):=by
 intro aS s σ H v u Q I r hw;obtain⟨a,xs,e1,hq,hl,hw⟩:=hw;subst e1;cases r;obtain⟨its,rv,ht,hz⟩:=I.tuple hq;show assign_Tuple_tuple (I.ok.hd hc) ht (by simp[hn,<- hl,rv.length]) kx λh' hx=>?_;have I1:r8 X aS σ H { s with heap:=h' }:=I.kept (t':=s.toks) λb o e=>hx b o (aC<|ao e) e;exact h aS _ σ H xs _ Q I1 (by simpa using rv) hw
def gSub(to ti:TE)(t:d0b):TG:=λv σ H Q=>to σ H λo H1=>ti σ H1 λi H2=>t o i v H2 λH3=>Q σ H3
def Cs{o i:Expr}{to ti:TE}{t:d0b}(ho:PE X o to)(hi:PE X i ti)(hs:q0g X t)
    (ha:∀v,assign (.Subscript o i pos) X.env v=(do
     let ov <- holding [v] (eval o X.env)
     let iv <- holding [v,ov] (eval i X.env)
     standAt pos
     holding [v,ov,iv] (setItem ov iv v)
     release [v,ov,iv] []):=by intro _;rfl):PG X (.Subscript o i pos) (gSub to ti t):=by
 intro aS s σ H v u Q I r h;rw[ha];show wpAny_bind<|wpAny_holding<|K0 (ho aS s σ H _ I h) λov s1 ⟨x,H1,I1,r1,q1⟩=>?_;show wpAny_bind<|wpAny_holding<|K0 (hi aS s1 σ H1 _ I1 q1) λiv s2 ⟨y,H2,I2,r2,q2⟩=>?_;show wpAny_bind<|wpAny_standAt<|wpAny_bind<|wpAny_holding<|K0 (hs aS s2 σ H2 x y v ov iv u _ I2 r1 r2 r q2) λ_ s3 ⟨H3,I3,q3⟩=>?_;exact wpAny_release ⟨σ,H3,I3,q3⟩
def MI(te:TE)(g:TG):TS:=λD σ H=>te σ H λx H1=>g x σ H1 D.nx
def X3{tg e:Expr}{te:TE}{g:TG}(he:PE X e te)(hg:PG X tg g)(hs:swapsWithSole [tg] e pos.line X.env=pure false:=by rfl)(hw:swappedStores [tg] e X.env=pure none:=by rfl)
    (h1:(assignEach [tg] X.env).map (·.2)=[assign tg X.env]:=by rfl):PS X (.Assign [tg] e pos) (MI te g):=by
 intro aS s σ H D I h;show wpAny_Assign_stores (K0 (he aS s σ H _ I h) λv s1 ⟨x,H1,I1,r1,q1⟩=>?_) hs hw;rw[h1];exact K0 (hg aS s1 σ H1 x v _ I1 r1 q1) λ_ s2 q=>q
def U7{i:Nat}{x:Str}{e:Expr}{te:TE}{fK:Pos}(hN:X.N.Nodup)(hi:X.N[i]? = some x)(hx:d0p X.env.scope x)(he:PE X e te)(hs:swapsWith e (some<|.Name x fK) pos.line X.env=pure false:=by rfl)(hf:X.fn x=true\/X.env.scope.names.lookup x=some .local:=by first | exact .inl rfl | exact .inr rfl | assumption) :
    PS X (.Assign [.Name x fK] e pos) (MI te<|R7 i):=by
 intro aS s σ H D I h;show wpAny_Assign_Name (K0 (he aS s σ H _ I h) λv s1 ⟨y,H1,I1,r1,q1⟩=>?_) hs;exact EH I1 hN hi hx r1 (λs2 I2=>⟨_,H1,I2,q1⟩) hf
def tPar(i j:Nat)(ta:TA):TS:=λD σ H=>ta σ H λvs H1=>∃v w,vs=[v,w]/\D.nx ((σ.set i<|some v).set j<|some w) H1
def a0e{i j:Nat}{x y:Str}{a b:Expr}{ta:TA}{px py pt:Pos}{kt k2 pt2}(hc:X.calm=true)(hN:X.N.Nodup)(hi:X.N[i]? = some x)(hj:X.N[j]? = some y)(gK:i≠j)
    (hx:X.env.scope.names.lookup x=some .local) (hy:X.env.scope.names.lookup y=some .local) (ha:PA X [a,b] ta)
    (hw:swappedStores [.Tuple [.Name x px,.Name y py] kt pt] (.Tuple [a,b] k2 pt2) X.env=pure (some [x,y]))
    (hs:swapsWithSole [.Tuple [.Name x px,.Name y py] kt pt] (.Tuple [a,b] k2 pt2) pos.line X.env=pure false:=by rfl) :
    PS X (.Assign [.Tuple [.Name x px,.Name y py] kt pt] (.Tuple [a,b] k2 pt2) pos) (tPar i j ta):=by
 intro aS s σ H D I h;rw[exec_Assign_arm];show wpAny_bind<|wpAny_standAt ?_;rw[hs];show wpAny_bind<|wpAny_pure ?_;rw[if_neg bD];show wpAny_bind<|Tuple_<|K0 (ha _ aS s σ H _ I h) λus s1 ⟨vs,H1,I1,r1,q1⟩=>?_;obtain⟨v,w,e1,q1⟩:=q1;subst e1;obtain⟨u1,u2,rfl,rv,jI⟩:∃u1 u2,us=[u1,u2]/\E3 v u1/\E3 w u2:=by
  cases r1 with
  | cons p q=>
   cases q with
   | cons p' q'=>
    cases q';exact za ⟨U,p,p'⟩
 show wpAny_newObj_type ?_ sL;have I2:r8 X aS σ H1 { s1 with heap:=s1.heap.push { cls:=.type "tuple",data:=.seq [u1,u2].toArray } }:=I1.kept (t':=s1.toks) λb o e=>ak _ e;rw[hw];show wpAny_bind<|wpAny_pure ?_;show wpAny (model X.prog X.w) X.A (do rule "assign.swapped-stores";let items <- unpackItems (.ref s1.heap.objs.size) 2 none;assignInOrder [λv=>bindName X.env y v,λv=>bindName X.env x v] items.reverse;pure Flow.next) _ _ _;show wpAny_bind<|wpAny_rule<|wpAny_bind<|unpackItems_tuple (items:=#[u1,u2]) (I.ok.hd hc) (IsTup.new s1.heap _) λh' iI=>?_;have I3:=I2.kept (h':=h') (t':=s1.toks) λb o e=>iI b o (aC<|ao e) e;show wpAny _ _ (assignInOrder [λv=>bindName X.env y v,λv=>bindName X.env x v] [u2,u1] >>= λ_=>pure Flow.next) _ _ _;show wpAny_bind<|assignInOrder_cons<|wpAny_bindName<|EH I3 hN hj (.inl hy) jI (λs2 I4=>?_)<|.inr hy;show assignInOrder_cons<|wpAny_bindName<|EH I4 hN hi (.inl hx) rv (λs3 I5=>assignInOrder_nil<|wpAny_pure ?_)<|.inr hx;rw[List.set_comm _ _<|Ne.symm gK]at I5;exact⟨_,H1,I5,q1⟩
end
section
variable{X:Cx}{pos:Pos}
def Zt(c:TT)(tb:TS):TS:=λD σ H=>∃W:Nat->St->Hp->Prop,(∃m,W m σ H)/\∀m σ H,W m σ H->
 c σ H λb H1=>if b=true then ∃N:St->Hp->Prop,(∀σ' H',N σ' H'->∃m',m' < m/\W m' σ' H')/\tb { D with nx:=N,ct:=N,bk:=D.nx } σ H1 else D.nx σ H1
def Cr{c:Expr}{body:List Stmt}{tc:TT}{tb:TS}(hp:PassesOwn (model X.prog X.w) X.A X.env X.xe)(hc:PT X c tc)(hb:Mu X body tb):PS X (.While c body [] pos) (Zt tc tb):=by
 intro aS s σ H D I h;obtain⟨W,⟨m0,w0⟩,turn⟩:=h;show wpAny_While<|codeAny_whileLoop (λn s'=>∃σ' H',r8 X aS σ' H' s'/\W n σ' H') ?_ m0 ⟨σ,H,I,w0⟩;rintro n s1 ⟨σ1,H1,I1,w1⟩;show wpAny_passesOwn hp<|K0 (hc aS s1 σ1 H1 _ I1<|turn n σ1 H1 w1) λb s2 ⟨H2,I2,q2⟩=>?_;cases b with
 | true=>
  obtain⟨N,hN,q2⟩:=q2;rw[if_pos rfl];show wpAny_passesOwn hp<|K0 (hb aS s2 σ1 H2 _ I2 q2) λf s3 q3=>?_;cases f with
  | next=>
   obtain⟨σ3,H3,I3,n3⟩:=q3;obtain⟨m',hm,w3⟩:=hN σ3 H3 n3;exact⟨m',hm,σ3,H3,I3,w3⟩
  | cont=>
   obtain⟨σ3,H3,I3,n3⟩:=q3;obtain⟨m',hm,w3⟩:=hN σ3 H3 n3;exact⟨m',hm,σ3,H3,I3,w3⟩
  | brk=>exact q3
  | ret v=>exact q3
 | false=>
  rw[if_neg aI];exact wpAny_execs_nil ⟨σ1,H2,I2,q2⟩
end
structure It where
 go:Nat->Hp->Prop
 yld:Nat->Hp->V->Hp->Prop
 stop:Nat->Hp->Prop
def AK(X:Cx)(aS:w1b)(H:Hp)(b:Addr):Prop:=
 H b=none/\b≠X.env.locals/\b ∉ X.fs/\(b∈X.ex\/X.s₀.heap.objs.size<=b)/\(∀x c,X.env.cells.lookup x=some c->c≠b)/\∀p∈X.pn++aS,p.1≠b
def r8.fpOk{X:Cx}{aS:w1b}{σ:St}{H H':Hp}{s:Shared}{b:Addr}(I:r8 X aS σ H s)(hb:s.heap.objs.size<=b)(hn:H' b=none):AK X aS H' b:=by
 show⟨hn,bZ<|az I.lt hb,I.nofs hb,.inr<|af I.sz hb,λx c e z=>?_,λp hp z=>?_⟩
 . obtain⟨v,q⟩:=I.cell x c e;exact absurd (az q.lt<|by rw[z];exact hb) (aO _)
 . exact absurd (az (ao (I.pin p hp).1)<|by rw[z];exact hb) (aO _)
structure Mq(P:Program)(w:World)(K:aa)(tg:Expr)(J:It)(fp:List Addr)(it:Addr)(tn:Nat->Heap->Prop):Prop where
 mem:it∈fp
 obj:∀i h,tn i h->∀b∈fp,∃o,h.get? b=some o/\∀v,o.data≠.cell v
 keep:∀i h h',tn i h->(∀b∈fp,∀o,h.get? b=some o->h'.get? b=some o)->tn i h'
 item:∀(X:Cx),X.prog=P->X.w=w->X.K=K->X.calm=true->∀(i:Nat) (aS:w1b) (s:Shared) (σ:St) (H:Hp) (E:w1c),r8 X aS σ H s->(∀b∈fp,AK X aS H b)->tn i s.heap->J.go i H->
  wpAny (model P w) X.A (pyNext<|.ref it) (λr s1=>∃u,r=some u/\
   wpAny (model P w) X.A (letOwnedTupleGo tg (.ref it) u) (λ_ s2=>∃x H',r8 X aS σ H' s2/\E3 x u/\J.yld i H x H'/\tn (i+1) s2.heap/\∀b∈fp,H' b=none) E s1) E s
 done:∀(X:Cx),X.prog=P->X.w=w->X.K=K->X.calm=true->∀(i:Nat) (aS:w1b) (s:Shared) (σ:St) (H:Hp) (E:w1c),r8 X aS σ H s->(∀b∈fp,AK X aS H b)->tn i s.heap->J.stop i H->
  wpAny (model P w) X.A (pyNext<|.ref it) (λr s1=>r=none/\r8 X aS σ H s1) E s
 self:∀(A:Around) (i:Nat) (s:Shared) (Q:w1c) (E:w1c),tn i s.heap->Q (.ref it) s->wpAny (model P w) A (pyIter<|.ref it) Q E s
abbrev TI:=St->Hp->(It->Hp->Prop)->Prop
def PIE(X:Cx)(aS:w1b)(σ:St)(tg:Expr)(R:It->Hp->Prop)(pB:Value)(s2:Shared):Prop:=
 ∃(it:Addr) (fp:List Addr) (tn:Nat->Heap->Prop) (J:It) (H':Hp),pB=.ref it/\r8 X aS σ H' s2/\Mq X.prog X.w X.K tg J fp it tn/\tn 0 s2.heap/\(∀b∈fp,AK X aS H' b)/\R J H'
def PI(X:Cx)(tg iter:Expr)(wi:TI):Prop:=
 ∀(aS:w1b) (s:Shared) (σ:St) (H:Hp) (R:It->Hp->Prop),r8 X aS σ H s->wi σ H R->
  wpAny (model X.prog X.w) X.A (eval iter X.env) (λv s1=>wpAny (model X.prog X.w) X.A (pyIter v) (PIE X aS σ tg R) X.xe s1) X.xe s
def Oq{M:Model}{A:Around}{E:w1c}{s:Shared}{tg:Expr}{it:Addr}{u:Value}{o:Obj}{n:String}{vs:Array Value}{Q:Unit->Shared->Prop}(ho:s.heap.get? it=some o)(hc:o.cls=.type n)(hd:o.data=.fields vs)
    (hn:["enumerate","zip","dict_itemiterator","dict_reverseitemiterator","odict_iterator","itertools.zip_longest","itertools.pairwise"].contains n=false) (hQ:Q () s):wpAny M A (letOwnedTupleGo tg (.ref it) u) Q E s:=by
 unfold letOwnedTupleGo;cases tg <;>first
  | exact wpAny_pure hQ
  | (cases u <;>first
      | exact wpAny_pure hQ
      | (show wpAny_bind (wpAny_load ho ?_)
         rw[hc,hd];show wpAny M A (if(["enumerate","zip","dict_itemiterator","dict_reverseitemiterator","odict_iterator","itertools.zip_longest","itertools.pairwise"].contains n && vs[0]? == some (rawInt _))=true then _ else _) Q E s;rw[if_neg<|by intro h;rw[hn,Bool.false_and]at h;cases h];exact wpAny_pure hQ))
def d0f(K:aa)(a:Addr):It:=
 ⟨λi H=>∃xs x,p9 K H a xs/\xs[i]? = some x,λi H x H'=>H'=H/\∀xs,p9 K H a xs->xs[i]? = some x,λi H=>∃xs,p9 K H a xs/\xs.length<=i⟩
def d0e(K:aa)(a:Addr):It:=
 ⟨λi H=>∃xs x,o9 K H a xs/\xs[i]? = some x,λi H x H'=>H'=H/\∀xs,o9 K H a xs->xs[i]? = some x,λi H=>∃xs,o9 K H a xs/\xs.length<=i⟩
def Zh(lo:Int)(n:Nat):It:=⟨λi _=>i < n,λi H x H'=>H'=H/\x=.int (lo+i),λi _=>n<=i⟩
def Sv{P:Program}{w:World}{K:aa}{tg:Expr}(a it:Addr):Mq P w K tg (d0f K a) [it] it (λi h=>h.IsListIter it a i)where
 mem:=by simp
 obj:=λi h st b hb=>by
  have e:b=it:=by simpa using hb
  subst e;obtain⟨o,e,c,d⟩:=st;exact⟨o,e,λv z=>by rw[d]at z;cases z⟩
 keep:=λi h h' st k=>st.at λo e=>k it (by simp) o e
 item:=by
  intro X hP hw hK hc i aS s σ H E I hf st hg;subst hP hw hK;obtain⟨xs,x,hq,hx⟩:=hg;obtain⟨its,rv,p,hz⟩:=I.list hq;obtain⟨u,hu,ru⟩:=rv.get hx;obtain⟨f0,f1,f2,f3,f4,f5⟩:=hf it (by simp);show wpAny_pyNext_list_item st p.isList (x:=u) (by simpa using hu) λh' st' sb=>?_;have I1:r8 X aS σ H { s with heap:=h' }:=I.turned (t':=s.toks) (λb o hb e=>(sb.2 b hb).trans e) f0 f1 f3 f4 f5;obtain⟨o,e,c,d⟩:=id st';exact⟨u,U,Oq (s:={ s with heap:=h' }) e c d bD ⟨x,H,I1,ru,⟨U,λys hy=>by rw[I.list_inj hy hq];exact hx⟩,st',λb hb=>(hf b hb).1⟩⟩
 done:=by intro X hP hw hK hc i aS s σ H E I hf st hg;subst hP hw hK;obtain⟨xs,hq,hx⟩:=hg;obtain⟨its,rv,p,hz⟩:=I.list hq;obtain⟨f0,f1,f2,f3,f4,f5⟩:=hf it (by simp);have hl:=rv.length;exact wpAny_pyNext_list_end (I.ok.hd hc) st p.isList (by simp;omega) λh' eb=>⟨U,I.turned (t':=s.toks) (λb o hb e=>eb b o hb e) f0 f1 f3 f4 f5⟩
 self:=λ_ _ _ _ _ st h=>wpAny_pyIter_listiter st h
def OV{P:Program}{w:World}{K:aa}{tg:Expr}(a it:Addr):Mq P w K tg (d0e K a) [it] it (λi h=>h.IsTupleIter it a i)where
 mem:=by simp
 obj:=λi h st b hb=>by
  have e:b=it:=by simpa using hb
  subst e;obtain⟨o,e,c,d⟩:=st;exact⟨o,e,λv z=>by rw[d]at z;cases z⟩
 keep:=λi h h' st k=>st.at λo e=>k it (by simp) o e
 item:=by
  intro X hP hw hK hc i aS s σ H E I hf st hg;subst hP hw hK;obtain⟨xs,x,hq,hx⟩:=hg;obtain⟨its,rv,p,hz⟩:=I.tuple hq;obtain⟨u,hu,ru⟩:=rv.get hx;obtain⟨f0,f1,f2,f3,f4,f5⟩:=hf it (by simp);show wpAny_pyNext_tuple_item st (show s.heap.IsTuple a its.toArray from p) (x:=u) (by simpa using hu) λh' st' sb=>?_;have I1:r8 X aS σ H { s with heap:=h' }:=I.turned (t':=s.toks) (λb o hb e=>(sb.2 b hb).trans e) f0 f1 f3 f4 f5;obtain⟨o,e,c,d⟩:=id st';exact⟨u,U,Oq (s:={ s with heap:=h' }) e c d bD ⟨x,H,I1,ru,⟨U,λys hy=>by rw[I.tuple_inj hy hq];exact hx⟩,st',λb hb=>(hf b hb).1⟩⟩
 done:=by intro X hP hw hK hc i aS s σ H E I hf st hg;subst hP hw hK;obtain⟨xs,hq,hx⟩:=hg;obtain⟨its,rv,p,hz⟩:=I.tuple hq;obtain⟨f0,f1,f2,f3,f4,f5⟩:=hf it (by simp);have hl:=rv.length;exact wpAny_pyNext_tuple_end (I.ok.hd hc) st (show s.heap.IsTuple a its.toArray from p) (by simp;omega) λh' eb=>⟨U,I.turned (t':=s.toks) (λb o hb e=>eb b o hb e) f0 f1 f3 f4 f5⟩
 self:=λ_ _ _ _ _ st h=>wpAny_pyIter_tupleiter st h
def OW{P:Program}{w:World}{K:aa}{tg:Expr}(it:Addr)(lo:Int)(n:Nat):Mq P w K tg (Zh lo n) [it] it (λi h=>IsRangeIter h it (lo+(i:Nat) * 1) ((n:Int) - (i:Nat)) 1)where
 mem:=by simp
 obj:=λi h st b hb=>by
  have e:b=it:=by simpa using hb
  subst e;exact⟨_,st,λv z=>by
   have z':Data.fields _=Data.cell v:=z;cases z'⟩
 keep:=λi h h' st k=>k it (by simp) _ st
 item:=by
  intro X hP hw hK hc i aS s σ H E I hf st hg;subst hP hw hK;obtain⟨f0,f1,f2,f3,f4,f5⟩:=hf it (by simp);have W:=Walks.range (prog:=X.prog) (w:=X.w) (I.ok.hd hc) it lo 1 n;show W.item i s _ _ hg st λv h' tk hv st' kk=>?_;obtain⟨t,rfl⟩:=hv;have I1:r8 X aS σ H { s with heap:=h',toks:=tk }:=I.turned (λb o hb e=>kk b o (by simpa using hb) e) f0 f1 f3 f4 f5;show⟨_,U,Oq (s:={ s with heap:=h',toks:=tk }) (n:="range_iterator") st' U U bD ⟨.int<|lo+i,H,I1,⟨t,?_⟩,⟨U,U⟩,st',λb hb=>(hf b hb).1⟩⟩;rw[cB]
 done:=by intro X hP hw hK hc i aS s σ H E I hf st hg;subst hP hw hK;obtain⟨f0,f1,f2,f3,f4,f5⟩:=hf it (by simp);exact wpAny_pyNext_range_end (I.ok.hd hc) st (by have:n<=i:=hg;omega) λh' eb=>⟨U,I.turned (t':=s.toks) (λb o hb e=>eb b o hb e) f0 f1 f3 f4 f5⟩
 self:=λ_ _ _ _ _ st h=>wpAny_pyIter_rangeiter st h
section
variable{X:Cx}{tg:Expr}
def YX(K:aa)(tl:TE):TI:=λσ H R=>tl σ H λx H1=>∃a,x=.ref a/\(∃xs,p9 K H1 a xs)/\R (d0f K a) H1
def c0k(K:aa)(tl:TE):TI:=λσ H R=>tl σ H λx H1=>∃a,x=.ref a/\(∃xs,o9 K H1 a xs)/\R (d0e K a) H1
def C5{l:Expr}{tl:TE}(hl:PE X l tl):PI X tg l (YX X.K tl):=by
 intro aS s σ H R I h;show K0 (hl aS s σ H _ I h) λv s1 ⟨x,H1,I1,r1,q1⟩=>?_;obtain⟨a,e,⟨xs,hq⟩,q⟩:=q1;subst e;cases r1;obtain⟨its,rv,p,hz⟩:=I1.list hq;show wpAny_pyIter_list p.isList ?_;show⟨s1.heap.objs.size,[s1.heap.objs.size],za ⟨H1,U,I1.kept (t':=s1.toks) λb o e=>ak _ e,Sv a _,⟨_,aF _ U,U,U⟩,λb hb=>?_,q⟩⟩;have e:b=s1.heap.objs.size:=by simpa using hb
 subst e;exact I1.fpOk (ae _) (I1.hok.fresh<|ae _)
def J2{l:Expr}{tl:TE}(hl:PE X l tl):PI X tg l (c0k X.K tl):=by
 intro aS s σ H R I h;show K0 (hl aS s σ H _ I h) λv s1 ⟨x,H1,I1,r1,q1⟩=>?_;obtain⟨a,e,⟨xs,hq⟩,q⟩:=q1;subst e;cases r1;obtain⟨its,rv,p,hz⟩:=I1.tuple hq;show wpAny_pyIter_tuple (show s1.heap.IsTuple a its.toArray from p) ?_;show⟨s1.heap.objs.size,[s1.heap.objs.size],za ⟨H1,U,I1.kept (t':=s1.toks) λb o e=>ak _ e,OV a _,⟨_,aF _ U,U,U⟩,λb hb=>?_,q⟩⟩;have e:b=s1.heap.objs.size:=by simpa using hb
 subst e;exact I1.fpOk (ae _) (I1.hok.fresh<|ae _)
def UX{aS:w1b}{σ:St}{H:Hp}{s:Shared}{R:It->Hp->Prop}{E:w1c}{lo hi:Int}{t u v:Tok}{tk:Nat}(I:r8 X aS σ H s)(h1:-(2 ^ 62)<=lo)(h2:lo < 2 ^ 62)(h3:-(2 ^ 62)<=hi)(h4:hi < 2 ^ 62)
    (q:R (Zh lo (hi - lo).toNat) H):wpAny (model X.prog X.w) X.A (pyIter<|.ref s.heap.objs.size) (PIE X aS σ tg R) E { s with heap:=s.heap.push { cls:=.type "range",data:=.fields #[.int lo t,.int hi u,.int 1 v] },toks:=tk }:=by
 show wpAny_pyIter_range (IsRange.new ..) (small_one h1 h2 h3 h4) ?_;have I1:r8 X aS σ H { s with heap:=s.heap.push { cls:=.type "range",data:=.fields #[.int lo t,.int hi u,.int 1 v] },toks:=tk }:=I.kept λb o e=>ak _ e;show⟨(s.heap.push { cls:=.type "range",data:=.fields #[.int lo t,.int hi u,.int 1 v] }).objs.size,[(s.heap.push { cls:=.type "range",data:=.fields #[.int lo t,.int hi u,.int 1 v] }).objs.size],za ⟨H,U,
  I1.kept (t':=tk) λb o e=>ak _ e,OW _ lo (hi - lo).toNat,?_,λb hb=>?_,q⟩⟩
 . have e1:lo+((0:Nat):Int) * 1=lo:=by simp
   have e2:(((hi - lo).toNat:Nat):Int) - ((0:Nat):Int)=Builtin.Range.rangeSize lo hi 1:=by rw[rangeSize_one];split <;>omega
   show IsRangeIter _ _ (lo+((0:Nat):Int) * 1) ((((hi - lo).toNat:Nat):Int) - ((0:Nat):Int)) 1;rw[e1,e2];exact aF _ rfl
 . have e:b=(s.heap.push { cls:=.type "range",data:=.fields #[.int lo t,.int hi u,.int 1 v] }).objs.size:=by simpa using hb
   subst e;exact I1.fpOk (ae _) (I1.hok.fresh<|ae _)
def p0e(ta:TA):TI:=λσ H R=>ta σ H λvs H1=>∃j:Int,vs=[.int j]/\-(2 ^ 62)<=j/\j < 2 ^ 62/\R (Zh 0 j.toNat) H1
def C6{a:Expr}{ta:TA}{p pos:Pos}(hg:Gl X "range")(hm:X.mg "range"=none)(ha:PA X [a] ta)(hs:starEach [a] X.env=[(false,eval a X.env)]:=by rfl):PI X tg (.Call (.Name "range" p) [a] [] pos) (p0e ta):=by
 intro aS s σ H R I h;show Call_<|AH I hg hm boot_range<|cD (K0 (ha pos aS s σ H _ I h) λus s1 ⟨vs,H1,I1,r1,q1⟩=>?_) hs U;obtain⟨j,e,q1,q2,q⟩:=q1;subst e;cases r1 with
 | cons r rr=>
  cases rr;obtain⟨t,rfl⟩:=r;exact call_range_1 (UX I1 Z Z q1 q2<|by simpa using q)
def tFor(wi:TI)(g:TG)(tb:TS):TS:=λD σ H=>wi σ H λJ H1=>∃W:Nat->Nat->St->Hp->Prop,(∃m,W 0 m σ H1)/\∀i m σ H,W i m σ H->
 (J.stop i H/\D.nx σ H)\/(J.go i H/\∃N:St->Hp->Prop,(∀σ' H',N σ' H'->∃m',m' < m/\W (i+1) m' σ' H')/\∀x H',J.yld i H x H'->g x σ H' λσ2 H2=>tb { D with nx:=N,ct:=N,bk:=D.nx } σ2 H2)
def Ih(fp:List Addr)(h:Heap):w1b:=fp.filterMap λb=>(h.get? b).map λo=>(b,o)
def Bu{fp:List Addr}{h:Heap}{b:Addr}{o:Obj}(hb:b∈fp)(e:h.get? b=some o):(b,o)∈Ih fp h:=cz.mpr ⟨b,hb,by rw[e];rfl⟩
def Ta{fp:List Addr}{h:Heap}{p:Addr × Obj}(hp:p∈Ih fp h):p.1∈fp/\h.get? p.1=some p.2:=by
 obtain⟨b,hb,e⟩:=cz.mp hp;cases q:h.get? b with
 | none=>rw[q]at e;cases e
 | some o=>
  rw[q]at e;have e':(b,o)=p:=Option.some.inj e;subst e';exact⟨hb,q⟩
def r8.pinned{aS:w1b}{σ:St}{H:Hp}{s:Shared}{fp:List Addr}(I:r8 X aS σ H s)(hf:∀b∈fp,AK X aS H b)(ho:∀b∈fp,∃o,s.heap.get? b=some o/\∀v,o.data≠.cell v):r8 X (aS++Ih fp s.heap) σ H s:=
 I.pins_of λp hp=>(av.mp hp).elim (λz=>I.pin p<|aK _ z) λz=>by
  obtain⟨hb,e⟩:=Ta z;obtain⟨f0,f1,f2,_⟩:=hf p.1 hb;obtain⟨o,e',d⟩:=ho p.1 hb;rw[e]at e';cases e';exact⟨e,f0,f1,f2,d⟩
def r8.unpinned{aS pl:w1b}{σ:St}{H:Hp}{s:Shared}(I:r8 X (aS++pl) σ H s):r8 X aS σ H s:=I.pins_of λp hp=>I.pin p (aK _<|bc _ hp)
def E9{iter:Expr}{body:List Stmt}{wi:TI}{g:TG}{tb:TS}{pos:Pos}(hp:PassesOwn (model X.prog X.w) X.A X.env X.xe)(hc:X.calm=true)(hi:PI X tg iter wi)(hg:PG X tg g)(hb:Mu X body tb)
    (hs:∀x,foldedSetIterable iter X.env x=pure x:=by intro _;rfl):PS X (.For tg iter body [] pos) (tFor wi g tb):=by
 intro aS s σ H D I h;show wpAny_For (K0 (hi aS s σ H _ I h) λv s1 h1=>K0 h1 λpB s2 h2=>?_) hs;obtain⟨it,fp,tn,J,H2,e,I2,T,fS,f2,W,⟨m0,w0⟩,turn⟩:=h2;subst e;have gG:∀{H':Hp},(∀b∈fp,H' b=none)->∀b∈fp,AK X aS H' b:=λhn b hb=>⟨hn b hb,(f2 b hb).2⟩;show codeAny_forLoop_any (λn s'=>∃i σ' H',r8 X aS σ' H' s'/\tn i s'.heap/\(∀b∈fp,H' b=none)/\W i n σ' H') ?_ m0 ⟨0,σ,H2,I2,fS,λb hb=>(f2 b hb).1,w0⟩;rintro n s3 ⟨i,σ3,H3,I3,ip,wK,w3⟩;rcases turn i n σ3 H3 w3 with ⟨stop,qn⟩ | ⟨go,N,hN,step⟩
 . show wpAny_passesOwn hp<|K0 (T.done X U U U hc i aS s3 σ3 H3 X.xe I3 (gG wK) ip stop) λr s4 ⟨hr,I4⟩=>?_;subst hr;exact wpAny_execs_nil ⟨σ3,H3,I4,qn⟩
 . show wpAny_passesOwn hp<|K0 (T.item X U U U hc i aS s3 σ3 H3 X.xe I3 (gG wK) ip go) λr s4 ⟨u,hr,h4⟩=>?_;subst hr;show wpAny_passesOwn hp<|K0 h4 λ_ s5 ⟨x,H5,I5,r5,y5,ji,fr5⟩=>?_;have uL:=I5.pinned (gG fr5)<|T.obj _ _ ji;show wpAny_passesOwn hp<|K0 (hg _ s5 σ3 H5 x u _ uL r5<|step x H5 y5) λ_ s6 ⟨σ6,H6,I6,q6⟩=>?_;show wpAny_passesOwn hp<|K0 (hb _ s6 σ6 H6 _ I6 q6) λf s7 q7=>?_;have again:∀{σ7:St} {H7:Hp},r8 X (aS++Ih fp s5.heap) σ7 H7 s7->N σ7 H7->∃m,m < n/\∃i σ' H',r8 X aS σ' H' s7/\tn i s7.heap/\(∀b∈fp,H' b=none)/\W i m σ' H':=λ{σ7 H7} I7 n7=>by
    obtain⟨m',hm,w7⟩:=hN σ7 H7 n7;show⟨m',hm,i+1,σ7,H7,I7.unpinned,T.keep _ _ _ ji λb hb o e=>(I7.pin (b,o)<|aK _<|aK _<|Bu hb e).1,λb hb=>?_,w7⟩;obtain⟨o,e,d⟩:=T.obj _ _ ji b hb;exact(I7.pin (b,o)<|aK _<|aK _<|Bu hb e).2.1
   cases f with
   | next=>obtain⟨σ7,H7,I7,n7⟩:=q7;exact again I7 n7
   | cont=>obtain⟨σ7,H7,I7,n7⟩:=q7;exact again I7 n7
   | brk=>obtain⟨σ7,H7,I7,q7⟩:=q7;exact⟨σ7,H7,I7.unpinned,q7⟩
   | ret v=>obtain⟨x7,σ7,H7,I7,r7,q7⟩:=q7;exact⟨x7,σ7,H7,I7.unpinned,r7,q7⟩
end
def P2{K:aa}{a:Addr}{xs:List V}{g:TG}{tb:TS}{D:Ja}{σ:St}{H:Hp}(Pv:Nat->St->Hp->Prop)(h0:Pv 0 σ H)(hl:∀i σ H,i<=xs.length->Pv i σ H->p9 K H a xs)
    (hs:∀i x σ H,xs[i]? = some x->Pv i σ H->g x σ H λσ2 H2=>tb { D with nx:=Pv<|i+1,ct:=Pv<|i+1,bk:=D.nx } σ2 H2) (hd:∀σ H,Pv xs.length σ H->D.nx σ H) :
    ∃W:Nat->Nat->St->Hp->Prop,(∃m,W 0 m σ H)/\∀i m σ H,W i m σ H->
     ((d0f K a).stop i H/\D.nx σ H)\/((d0f K a).go i H/\∃N:St->Hp->Prop,(∀σ' H',N σ' H'->∃m',m' < m/\W (i+1) m' σ' H')/\∀x H',(d0f K a).yld i H x H'->g x σ H' λσ2 H2=>tb { D with nx:=N,ct:=N,bk:=D.nx } σ2 H2):=by
 show⟨λi m σ H=>m=xs.length - i/\i<=xs.length/\Pv i σ H,⟨xs.length,by simp,aP _,h0⟩,?_⟩;rintro i m σ H ⟨rfl,hi,p⟩;have q:=hl i σ H hi p;by_cases fB:i < xs.length
 . show .inr ⟨⟨xs,xs[i],q,by simp[fB]⟩,Pv<|i+1,λσ' H' p'=>⟨xs.length - (i+1),Z,U,fB,p'⟩,λx H' y=>?_⟩;obtain⟨e,y⟩:=y;subst e;exact hs i x σ _ (y xs q) p
 . have e:i=xs.length:=by omega
   subst e;exact .inl ⟨⟨xs,q,ae _⟩,hd σ H p⟩
def FB{K:aa}{a:Addr}{xs:List V}{g:TG}{tb:TS}{D:Ja}{σ:St}{H:Hp}(Pv:Nat->St->Hp->Prop)(h0:Pv 0 σ H)(hl:∀i σ H,i<=xs.length->Pv i σ H->o9 K H a xs)
    (hs:∀i x σ H,xs[i]? = some x->Pv i σ H->g x σ H λσ2 H2=>tb { D with nx:=Pv<|i+1,ct:=Pv<|i+1,bk:=D.nx } σ2 H2) (hd:∀σ H,Pv xs.length σ H->D.nx σ H) :
    ∃W:Nat->Nat->St->Hp->Prop,(∃m,W 0 m σ H)/\∀i m σ H,W i m σ H->
     ((d0e K a).stop i H/\D.nx σ H)\/((d0e K a).go i H/\∃N:St->Hp->Prop,(∀σ' H',N σ' H'->∃m',m' < m/\W (i+1) m' σ' H')/\∀x H',(d0e K a).yld i H x H'->g x σ H' λσ2 H2=>tb { D with nx:=N,ct:=N,bk:=D.nx } σ2 H2):=by
 show⟨λi m σ H=>m=xs.length - i/\i<=xs.length/\Pv i σ H,⟨xs.length,by simp,aP _,h0⟩,?_⟩;rintro i m σ H ⟨rfl,hi,p⟩;have q:=hl i σ H hi p;by_cases fB:i < xs.length
 . show .inr ⟨⟨xs,xs[i],q,by simp[fB]⟩,Pv<|i+1,λσ' H' p'=>⟨xs.length - (i+1),Z,U,fB,p'⟩,λx H' y=>?_⟩;obtain⟨e,y⟩:=y;subst e;exact hs i x σ _ (y xs q) p
 . have e:i=xs.length:=by omega
   subst e;exact .inl ⟨⟨xs,q,ae _⟩,hd σ H p⟩
def Dh{lo:Int}{n:Nat}{g:TG}{tb:TS}{D:Ja}{σ:St}{H:Hp}(Pv:Nat->St->Hp->Prop)(h0:Pv 0 σ H)
    (hs:∀i σ H,i < n->Pv i σ H->g (.int<|lo+i) σ H λσ2 H2=>tb { D with nx:=Pv<|i+1,ct:=Pv<|i+1,bk:=D.nx } σ2 H2) (hd:∀σ H,Pv n σ H->D.nx σ H) :
    ∃W:Nat->Nat->St->Hp->Prop,(∃m,W 0 m σ H)/\∀i m σ H,W i m σ H->
     ((Zh lo n).stop i H/\D.nx σ H)\/((Zh lo n).go i H/\∃N:St->Hp->Prop,(∀σ' H',N σ' H'->∃m',m' < m/\W (i+1) m' σ' H')/\∀x H',(Zh lo n).yld i H x H'->g x σ H' λσ2 H2=>tb { D with nx:=N,ct:=N,bk:=D.nx } σ2 H2):=by
 show⟨λi m σ H=>m=n - i/\i<=n/\Pv i σ H,⟨n,by simp,aP _,h0⟩,?_⟩;rintro i m σ H ⟨rfl,hi,p⟩;by_cases fB:i < n
 . show .inr ⟨fB,Pv<|i+1,λσ' H' p'=>⟨n - (i+1),Z,U,fB,p'⟩,λx H' y=>?_⟩;obtain⟨e,y⟩:=y;subst e y;exact hs i σ _ fB p
 . have e:i=n:=by omega
   subst e;exact .inl ⟨ae _,hd σ H p⟩
abbrev R2:=V->V->Hp->VK->Prop
def FI(X:Cx)(f:Value->Value->Sem Value)(r:R2):Prop:=
 ∀(aS:w1b) (s:Shared) (σ:St) (H:Hp) (x y:V) (v u:Value) (Q:VK),r8 X aS σ H s->E3 x v->E3 y u->r x y H Q->
  wpAny (model X.prog X.w) X.A (f v u) (EP X aS σ Q) X.xe s
def UnR(X:Cx)(f:Value->Sem Value)(r:V->Hp->VK->Prop):Prop:=
 ∀(aS:w1b) (s:Shared) (σ:St) (H:Hp) (x:V) (v:Value) (Q:VK),r8 X aS σ H s->E3 x v->r x H Q->
  wpAny (model X.prog X.w) X.A (f v) (EP X aS σ Q) X.xe s
def T3(X:Cx)(f:Value)(r:List V->Hp->VK->Prop):Prop:=
 ∀(aS:w1b) (s:Shared) (σ:St) (H:Hp) (xs:List V) (us:w1g) (Q:VK),r8 X aS σ H s->z9 xs us->r xs H Q->
  wpAny (model X.prog X.w) X.A (call f us) (EP X aS σ Q) X.xe s
def TruR(X:Cx)(r:V->Hp->(Bool->Hp->Prop)->Prop):Prop:=
 ∀(aS:w1b) (s:Shared) (σ:St) (H:Hp) (x:V) (v:Value) (Q:Bool->Hp->Prop),r8 X aS σ H s->E3 x v->r x H Q->
  wpAny (model X.prog X.w) X.A (truthy v) (TP X aS σ Q) X.xe s
def e0d(r:R2)(ta tb:TE):TE:=λσ H Q=>ta σ H λx H1=>tb σ H1 λy H2=>r x y H2 Q
def tUn(r:V->Hp->VK->Prop)(ta:TE):TE:=λσ H Q=>ta σ H λx H1=>r x H1 Q
def rI(C:Int->Int->Prop)(g:Int->Int->V):R2:=λx y H Q=>∃i j,x=.int i/\y=.int j/\C i j/\Q (g i j) H
def a0a(g:Int->Int->V):R2:=λx y H Q=>∃i j,x=.int i/\y=.int j/\Q (g i j) H
def rU(g:Int->V):V->Hp->VK->Prop:=λx H Q=>∃i,x=.int i/\Q (g i) H
section
variable{X:Cx}{a b c:Expr}{ta tb tc:TE}{pos:Pos}
def c0z(ha:PE X a ta)(hb:PE X b tb){aS:w1b}{s:Shared}{σ:St}{H:Hp}{R:V->V->Hp->Prop}(I:r8 X aS σ H s)
    (h:ta σ H λx H1=>tb σ H1 λy H2=>R x y H2) {Q:w1c} {f:Value->Value->Sem Value}
    (hf:∀v u s2 x y H2,r8 X aS σ H2 s2->E3 x v->E3 y u->R x y H2->wpAny (model X.prog X.w) X.A (f v u) Q X.xe s2) :
    wpAny (model X.prog X.w) X.A (eval a X.env) (λv s₁=>wpAny (model X.prog X.w) X.A (eval b X.env) (λu s₂=>wpAny (model X.prog X.w) X.A (f v u) Q X.xe s₂) X.xe s₁) X.xe s:=by
 show K0 (ha aS s σ H _ I h) λv s1 ⟨x,H1,I1,r1,q1⟩=>?_;show K0 (hb aS s1 σ H1 _ I1 q1) λu s2 ⟨y,H2,I2,r2,q2⟩=>?_;exact hf v u s2 x y H2 I2 r1 r2 q2
def o8{op:Operator}{r:R2}(ho:FI X (binaryOp op) r)(ha:PE X a ta)(hb:PE X b tb):PE X (.BinOp a op b pos) (e0d r ta tb):=by intro aS s σ H Q I h;exact wpAny_BinOp (c0z ha hb I h λv u s2 x y H2 I2 rx ry q=>ho aS s2 σ H2 x y v u Q I2 rx ry q)
def Vh{op:UnaryOp}{r:V->Hp->VK->Prop}(ho:UnR X (unaryOp op) r)(ha:PE X a ta):PE X (.UnaryOp op a pos) (tUn r ta):=by intro aS s σ H Q I h;exact UnaryOp_ (K0 (ha aS s σ H _ I h) λv s1 ⟨x,H1,I1,r1,q1⟩=>ho aS s1 σ H1 x v Q I1 r1 q1)
def g0k{f:Value->Value->Sem Value}{C:Int->Int->Prop}{g:Int->Int->Int}
    (rule:∀(i j:Int) (t u:Tok) (s:Shared) (Q:w1c) (E:w1c),C i j->Q (.int (g i j) s.toks) { s with toks:=s.toks+1 }->wpAny (model X.prog X.w) X.A (f (.int i t)<|.int j u) Q E s) :
    FI X f (rI C λi j=>.int<|g i j):=by
 intro aS s σ H x y v u Q I rx ry h;obtain⟨i,j,rfl,rfl,hc,q⟩:=h;obtain⟨t,rfl⟩:=rx;obtain⟨t',rfl⟩:=ry;exact rule i j t t' s _ _ hc ⟨.int<|g i j,H,I.tok _,⟨_,U⟩,q⟩
def g0j{f:Value->Value->Sem Value}{g:Int->Int->Int}
    (rule:∀(i j:Int) (t u:Tok) (s:Shared) (Q:w1c) (E:w1c),Q (.int (g i j) s.toks) { s with toks:=s.toks+1 }->wpAny (model X.prog X.w) X.A (f (.int i t)<|.int j u) Q E s) :
    FI X f (a0a λi j=>.int<|g i j):=by
 intro aS s σ H x y v u Q I rx ry h;obtain⟨i,j,rfl,rfl,q⟩:=h;obtain⟨t,rfl⟩:=rx;obtain⟨t',rfl⟩:=ry;exact rule i j t t' s _ _ ⟨.int<|g i j,H,I.tok _,⟨_,U⟩,q⟩
def a0m{f:Value->Value->Sem Value}{g:Int->Int->Bool}
    (rule:∀(i j:Int) (t u:Tok) (s:Shared) (Q:w1c) (E:w1c),Q (.bool<|g i j) s->wpAny (model X.prog X.w) X.A (f (.int i t)<|.int j u) Q E s) :
    FI X f (a0a λi j=>.bl<|g i j):=by
 intro aS s σ H x y v u Q I rx ry h;obtain⟨i,j,rfl,rfl,q⟩:=h;obtain⟨t,rfl⟩:=rx;obtain⟨t',rfl⟩:=ry;exact rule i j t t' s _ _ ⟨.bl<|g i j,H,I,U,q⟩
def CPow(i j:Int):Prop:=0<=j/\j<=1000000/\i.natAbs < 2 ^ 64
def TQ(i j:Int):Prop:=(-(2 ^ 64) < i/\i < 2 ^ 64)\/(-(2 ^ 64) < j/\j < 2 ^ 64)
def TQ.ok{i j:Int}(h:TQ i j):IntMulOk i j:=by
 rcases h with ⟨h1,h2⟩ | ⟨h1,h2⟩
 . exact .of_left (intBits_le_64 h1 h2)
 . exact .of_right (intBits_le_64 h1 h2)
def O7:FI X (binaryOp .Add) (a0a λi j=>.int<|i+j):=g0j λ_ _ _ _ _ _ _ q=>add_int q
def Gj:FI X (binaryOp .Sub) (a0a λi j=>.int<|i - j):=g0j λ_ _ _ _ _ _ _ q=>sub_int q
def Gm:FI X (binaryOp .Mult) (rI TQ λi j=>.int<|i * j):=g0k λ_ _ _ _ _ _ _ hc q=>mul_int q hc.ok
def F9:FI X (binaryOp .Mod) (rI (λ_ j=>j≠0) λi j=>.int<|i.fmod j):=g0k λ_ _ _ _ _ _ _ hc q=>mod_int' hc q
def a0k:FI X (binaryOp .Pow) (rI CPow λi j=>.int<|i ^ j.toNat):=g0k λ_ _ _ _ _ _ _ hc q=>pow_int_small hc.1 hc.2.1 hc.2.2 q
def unI{f:Value->Sem Value}{g:Int->Int}
    (rule:∀(i:Int) (t:Tok) (s:Shared) (Q:w1c) (E:w1c),Q (.int (g i) s.toks) { s with toks:=s.toks+1 }->wpAny (model X.prog X.w) X.A (f<|.int i t) Q E s) :
    UnR X f (rU λi=>.int<|g i):=by
 intro aS s σ H x v Q I rx h;obtain⟨i,rfl,q⟩:=h;obtain⟨t,rfl⟩:=rx;exact rule i t s _ _ ⟨.int<|g i,H,I.tok _,⟨_,U⟩,q⟩
def OU:UnR X (unaryOp .USub) (rU λi=>.int<|-i):=unI λ_ _ _ _ _ q=>neg_int q
end
def e0r:V->V->Bool
 | .non,.non=>true | .non,.int _=>true | .int _,.non=>true | .non,.bl _=>true | .bl _,.non=>true | .non,.str _=>true | .str _,.non=>true
 | .int _,.int _=>true | .bl _,.bl _=>true | .str _,.str _=>true | .byt _,.byt _=>true
 | .int _,.str _=>true | .str _,.int _=>true | .bl _,.str _=>true | .str _,.bl _=>true
 | _,_=>false
def rEq:R2:=λx y H Q=>e0r x y=true/\Q (.bl<|decide<|x=y) H
def rNe:R2:=λx y H Q=>e0r x y=true/\Q (.bl<|!decide (x=y)) H
def RS{i j:Int}:decide (V.int i=V.int j)=(i == j):=by rw[Bool.eq_iff_iff];simp
def Wz{i j:Bool}:decide (V.bl i=V.bl j)=(i == j):=by rw[Bool.eq_iff_iff];simp
def RR{i j:Str}:decide (V.str i=V.str j)=(i == j):=by rw[Bool.eq_iff_iff];simp
def RT{i j:Array UInt8}:decide (V.byt i=V.byt j)=(i.toList == j.toList):=by rw[Bool.eq_iff_iff];cases i;cases j;simp
section
variable{X:Cx}{a b c:Expr}{ta tb tc:TE}{pos:Pos}
def C7{aS:w1b}{σ:St}{H:Hp}{s:Shared}{Q:VK}{k k':Bool}(I:r8 X aS σ H s)(q:Q (.bl k) H)(e:k=k'):EP X aS σ Q (.bool k') s:=by subst e;exact⟨.bl k,H,I,U,q⟩
def K8:FI X (compareOp .Eq) rEq:=by
 intro aS s σ H x y v u Q I rx ry h;obtain⟨hs,q⟩:=h;cases x with
 | non=>
  cases rx;cases y with
  | non=>cases ry;exact PySem.EqNone.eq_none_none (C7 I q<|by simp)
  | bl j=>cases ry;exact PySem.EqNone.eq_none_bool (C7 I q<|by simp)
  | int j=>obtain⟨t',rfl⟩:=ry;exact PySem.EqNone.eq_none_int (C7 I q<|by simp)
  | str j=>obtain⟨t',rfl⟩:=ry;exact PySem.EqNone.eq_none_str (C7 I q<|by simp)
  | _=>exact absurd (show false=true from hs) aI
 | bl i=>
  cases rx;cases y with
  | non=>cases ry;exact PySem.EqNone.eq_bool_none (C7 I q<|by simp)
  | bl j=>cases ry;exact eq_bool (C7 I q Wz)
  | str j=>obtain⟨t',rfl⟩:=ry;exact PySem.EqMixed.eq_bool_str (C7 I q<|by simp)
  | _=>exact absurd (show false=true from hs) aI
 | int i=>
  obtain⟨t,rfl⟩:=rx;cases y with
  | non=>cases ry;exact PySem.EqNone.eq_int_none (C7 I q<|by simp)
  | int j=>obtain⟨t',rfl⟩:=ry;exact eq_int (C7 I q RS)
  | str j=>obtain⟨t',rfl⟩:=ry;exact PySem.EqMixed.eq_int_str (C7 I q<|by simp)
  | _=>exact absurd (show false=true from hs) aI
 | str i=>
  obtain⟨t,rfl⟩:=rx;cases y with
  | non=>cases ry;exact PySem.EqNone.eq_str_none (C7 I q<|by simp)
  | bl j=>cases ry;exact PySem.EqMixed.eq_str_bool (C7 I q<|by simp)
  | int j=>obtain⟨t',rfl⟩:=ry;exact PySem.EqMixed.eq_str_int (C7 I q<|by simp)
  | str j=>obtain⟨t',rfl⟩:=ry;exact eq_str (C7 I q RR)
  | _=>exact absurd (show false=true from hs) aI
 | byt i=>
  obtain⟨t,rfl⟩:=rx;cases y with
  | byt j=>obtain⟨t',rfl⟩:=ry;exact PySem.W.eq_bytes (C7 I q RT)
  | _=>exact absurd (show false=true from hs) aI
 | _=>cases y <;>exact absurd (show false=true from hs) aI
def Nt:FI X (compareOp .NotEq) rNe:=by
 intro aS s σ H x y v u Q I rx ry h;obtain⟨hs,q⟩:=h;cases x with
 | non=>
  cases rx;cases y with
  | non=>cases ry;exact PySem.EqNone.ne_none_none (C7 I q<|by simp)
  | bl j=>cases ry;exact PySem.EqNone.ne_none_bool (C7 I q<|by simp)
  | int j=>obtain⟨t',rfl⟩:=ry;exact PySem.EqNone.ne_none_int (C7 I q<|by simp)
  | str j=>obtain⟨t',rfl⟩:=ry;exact PySem.EqNone.ne_none_str (C7 I q<|by simp)
  | _=>exact absurd (show false=true from hs) aI
 | bl i=>
  cases rx;cases y with
  | non=>cases ry;exact PySem.EqNone.ne_bool_none (C7 I q<|by simp)
  | bl j=>cases ry;exact ne_bool (C7 I q<|congrArg not Wz)
  | str j=>obtain⟨t',rfl⟩:=ry;exact PySem.EqMixed.ne_bool_str (C7 I q<|by simp)
  | _=>exact absurd (show false=true from hs) aI
 | int i=>
  obtain⟨t,rfl⟩:=rx;cases y with
  | non=>cases ry;exact PySem.EqNone.ne_int_none (C7 I q<|by simp)
  | int j=>obtain⟨t',rfl⟩:=ry;exact ne_int (C7 I q<|congrArg not RS)
  | str j=>obtain⟨t',rfl⟩:=ry;exact PySem.EqMixed.ne_int_str (C7 I q<|by simp)
  | _=>exact absurd (show false=true from hs) aI
 | str i=>
  obtain⟨t,rfl⟩:=rx;cases y with
  | non=>cases ry;exact PySem.EqNone.ne_str_none (C7 I q<|by simp)
  | bl j=>cases ry;exact PySem.EqMixed.ne_str_bool (C7 I q<|by simp)
  | int j=>obtain⟨t',rfl⟩:=ry;exact PySem.EqMixed.ne_str_int (C7 I q<|by simp)
  | str j=>obtain⟨t',rfl⟩:=ry;exact ne_str (C7 I q<|congrArg not RR)
  | _=>exact absurd (show false=true from hs) aI
 | byt i=>
  obtain⟨t,rfl⟩:=rx;cases y with
  | byt j=>obtain⟨t',rfl⟩:=ry;exact PySem.W.ne_bytes (C7 I q<|congrArg not RT)
  | _=>exact absurd (show false=true from hs) aI
 | _=>cases y <;>exact absurd (show false=true from hs) aI
def Vp:FI X (compareOp .Lt) (a0a λi j=>.bl<|decide<|i < j):=a0m λ_ _ _ _ _ _ _ q=>lt_int q
def g0i:FI X (compareOp .LtE) (a0a λi j=>.bl<|decide<|i<=j):=a0m λ_ _ _ _ _ _ _ q=>le_int q
def AZ:FI X (compareOp .Gt) (a0a λi j=>.bl<|decide<|j < i):=a0m λ_ _ _ _ _ _ _ q=>gt_int q
def a0l:FI X (compareOp .Is) (λx y H Q=>y=.non/\Q (.bl<|decide<|x=.non) H):=by
 intro aS s σ H x y v u Q I rx ry h;obtain⟨rfl,q⟩:=h;cases ry;show is_none_gen<|C7 I q ?_;cases x <;>first
  | (cases rx;rfl)
  | (obtain⟨t,rfl⟩:=rx;rfl)
def XU:FI X (compareOp .IsNot) (λx y H Q=>y=.non/\Q (.bl<|!decide (x=.non)) H):=by
 intro aS s σ H x y v u Q I rx ry h;obtain⟨rfl,q⟩:=h;cases ry;show isnot_none_gen<|C7 I q ?_;cases x <;>first
  | (cases rx;rfl)
  | (obtain⟨t,rfl⟩:=rx;rfl)
def o7(b:Expr){op:CmpOp}(h:op≠.In:=by decide)(h2:op≠.NotIn:=by decide):behindInMarks op b=false:=by
 have e1:(op == CmpOp.In)=false:=by cases op <;>first | rfl | exact absurd rfl h
 have e2:(op == CmpOp.NotIn)=false:=by cases op <;>first | rfl | exact absurd rfl h2
 cases b <;>simp[behindInMarks,e1,e2]
def R4{op:CmpOp}{r:R2}(ho:FI X (compareOp op) r)(ha:PE X a ta)(hb:PE X b tb)(hm:behindInMarks op b=false):PE X (.Compare a [op] [b] pos) (e0d r ta tb):=by intro aS s σ H Q I h;exact wpAny_Compare1 (c0z ha hb I h λv u s2 x y H2 I2 rx ry q=>ho aS s2 σ H2 x y v u Q I2 rx ry q) hm
def d0y(t:TE):TT:=λσ H Q=>t σ H λx H'=>∃k,x=.bl k/\Q k H'
def o6{op:CmpOp}{r:R2}(ho:FI X (compareOp op) r)(ha:PE X a ta)(hb:PE X b tb)(hm:behindInMarks op b=false):PT X (.Compare a [op] [b] pos) (d0y<|e0d r ta tb):=by
 intro aS s σ H Q I h;show wpAny_isTrue_Compare1 (K0 (ha aS s σ H _ I h) λv s1 ⟨x,H1,I1,r1,q1⟩=>K0 (hb aS s1 σ H1 _ I1 q1) λu s2 ⟨y,H2,I2,r2,q2⟩=>
  K0 (ho aS s2 σ H2 x y v u _ I2 r1 r2 q2) λc s3 ⟨z,H3,I3,r3,k,e,q3⟩=>?_) hm
 subst e;cases r3;exact wpAny_truthy_bool ⟨H3,I3,q3⟩
def TruV(K:aa)(x:V)(H:Hp)(k:Bool):Prop:=
 match x with
 | .non=>k=false
 | .bl b=>k=b
 | .int i=>k=(i != 0)
 | .str y=>y.length<=sizeLine/\k=((y.length:Int) != 0)
 | .byt y=>y.size<=sizeLine/\k=((y.size:Int) != 0)
 | .ref p=>(∃xs,p9 K H p xs/\k = !xs.isEmpty)\/(∃xs,o9 K H p xs/\k = !xs.isEmpty)\/∃fg,H p=some (.dK fg)/\k = !fg.isEmpty
 | _=>False
def Qt{κ:Type}{fg:List (κ × V)}{vs:List (κ × Value)}(r:KV fg vs):(!vs.isEmpty) = !fg.isEmpty:=by
 cases r <;>rfl
def IH{xs:List V}{its:w1g}(r:z9 xs its):(!its.toArray.isEmpty) = !xs.isEmpty:=by
 cases r <;>simp
def Gu:(sizeLine:Nat) < 2 ^ 63:=by rw[sizeLine_eq];decide
def tru_ok:TruR X (λx H Q=>∃k,TruV X.K x H k/\Q k H):=by
 intro aS s σ H x v Q I rx h;obtain⟨k,e,q⟩:=h;have hl:=Gu;have hs:sizeLine=16777216:=sizeLine_eq;cases x with
 | non=>
  cases rx;have e':k=false:=e;subst e';exact truthy_none ⟨H,I,q⟩
 | bl b=>
  cases rx;have e':k=b:=e;subst e';exact wpAny_truthy_bool ⟨H,I,q⟩
 | int i=>
  obtain⟨t,rfl⟩:=rx;have e':k=(i != 0):=e;subst e';exact PySem.P.truthy_int ⟨H,I,q⟩
 | str y=>
  obtain⟨t,rfl⟩:=rx;obtain⟨hy,e'⟩:y.length<=sizeLine/\k=((y.length:Int) != 0):=e;subst e';exact PySem.P.truthy_str Z ⟨H,I.tok _,q⟩
 | byt y=>
  obtain⟨t,rfl⟩:=rx;obtain⟨hy,e'⟩:y.size<=sizeLine/\k=((y.size:Int) != 0):=e;subst e';exact PySem.W.truthy_bytes Z ⟨H,I.tok _,q⟩
 | ref p=>
  cases rx;have e':(∃xs,p9 X.K H p xs/\k = !xs.isEmpty)\/(∃xs,o9 X.K H p xs/\k = !xs.isEmpty)\/∃fg,H p=some (.dK fg)/\k = !fg.isEmpty:=e;rcases e' with ⟨xs,hx,e'⟩ | ⟨xs,hx,e'⟩ | ⟨fg,hx,e'⟩
  . subst e';obtain⟨its,r,pl,hz⟩:=I.list hx;have ed:=r.length;exact wpAny_truthy_list pl.isList (by simp only[ay];omega) ⟨H,I.tok _,by rw[IH r];exact q⟩
  . subst e';obtain⟨its,r,pl,hz⟩:=I.tuple hx;have ed:=r.length;exact truthy_tuple pl (by simp only[ay];omega) ⟨H,I.tok _,by rw[IH r];exact q⟩
  . subst e';obtain⟨hz,hS,vs,r,m⟩:fg.length<=sizeLine/\(p == sysModules)=false/\∃vs,KV fg vs/\s.heap.DictOf (Lu X.prog X.w) p vs:=I.hok p _ hx;have ed:fg.length=vs.length:=Paired.length r;exact wpAny_truthy_dict hS m Z ⟨H,I.tok _,by rw[Qt r];exact q⟩
 | _=>exact(show False from e).elim
def Il:FI X (binaryOp .Add) (λx y H Q=>∃i j,x=.str i/\y=.str j/\i.length+j.length<=sizeLine/\Q (.str<|i++j) H):=by intro aS s σ H x y v u Q I rx ry h;obtain⟨i,j,rfl,rfl,hz,q⟩:=h;obtain⟨t,rfl⟩:=rx;obtain⟨t',rfl⟩:=ry;exact add_str (λt' tk=>⟨.str<|i++j,H,I.tok _,⟨_,U⟩,q⟩) hz
def JY{x:V}{us:w1g}(r:z9 [x] us):∃u,us=[u]/\E3 x u:=by
 cases r with
 | cons r1 r2=>cases r2;exact⟨_,U,r1⟩
def d0t{x y:V}{us:w1g}(r:z9 [x,y] us):∃u w',us=[u,w']/\E3 x u/\E3 y w':=by
 cases r with
 | cons r1 r2=>
  cases r2 with
  | cons r3 r4=>cases r4;exact za ⟨U,r1,r3⟩
def IV:T3 X (.builtin "abs") (λxs H Q=>∃i,xs=[.int i]/\Q (.int<|if i < 0 then -i else i) H):=by intro aS s σ H xs us Q I r h;obtain⟨i,rfl,q⟩:=h;obtain⟨u,rfl,t,rfl⟩:=JY r;exact call_abs_int λu tk=>⟨.int (if i < 0 then -i else i),H,I.tok _,⟨_,U⟩,q⟩
def TH(hc:X.calm=true):T3 X (.builtin "max") (λxs H Q=>∃i j,xs=[.int i,.int j]/\Q (.int<|if j > i then j else i) H):=by
 intro aS s σ H xs us Q I r h;obtain⟨i,j,rfl,q⟩:=h;obtain⟨u,w',rfl,⟨t,rfl⟩,⟨t',rfl⟩⟩:=d0t r;show max_two_ints (I.ok.hd hc) λh' tk k=>⟨_,H,I.kept k,?_,q⟩;by_cases hj:j > i
 . rw[if_pos hj,if_pos hj];exact⟨_,U⟩
 . rw[if_neg hj,if_neg hj];exact⟨_,U⟩
def Y8:T3 X (.type "int") (λxs H Q=>(∃i,xs=[.int i]/\Q (.int i) H)\/∃k,xs=[.bl k]/\Q (.int<|if k then 1 else 0) H):=by
 intro aS s σ H xs us Q I r h;rcases h with ⟨i,rfl,q⟩ | ⟨k,rfl,q⟩
 . obtain⟨u,rfl,t,rfl⟩:=JY r;exact call_int_int ⟨.int i,H,I,⟨_,U⟩,q⟩
 . obtain⟨u,rfl,r1⟩:=JY r;cases r1;exact call_int_bool ⟨.int (if k then 1 else 0),H,I.tok _,⟨_,U⟩,q⟩
def BA(K:aa)(x:V)(H:Hp)(n:Nat):Prop:=
 match x with
 | .str y=>y.length<=sizeLine/\n=y.length
 | .byt y=>y.size<=sizeLine/\n=y.size
 | .ref p=>(∃xs,p9 K H p xs/\n=xs.length)\/∃xs,o9 K H p xs/\n=xs.length
 | _=>False
def B4:T3 X (.builtin "len") (λxs H Q=>∃x n,xs=[x]/\BA X.K x H n/\Q (.int n) H):=by
 intro aS s σ H xs us Q I r h;obtain⟨x,n,rfl,e,q⟩:=h;obtain⟨u,rfl,rx⟩:=JY r;have hl:=Gu;have hs:sizeLine=16777216:=sizeLine_eq;cases x with
 | str y=>
  obtain⟨t,rfl⟩:=rx;obtain⟨hy,e'⟩:y.length<=sizeLine/\n=y.length:=e;subst e';exact len_str Z ⟨.int _,H,I.tok _,⟨_,U⟩,q⟩
 | byt y=>
  obtain⟨t,rfl⟩:=rx;obtain⟨hy,e'⟩:y.size<=sizeLine/\n=y.size:=e;subst e';exact PySem.W.len_bytes Z ⟨.int _,H,I.tok _,⟨_,U⟩,q⟩
 | ref p=>
  cases rx;have e':(∃xs,p9 X.K H p xs/\n=xs.length)\/∃xs,o9 X.K H p xs/\n=xs.length:=e;rcases e' with ⟨xs,hx,e'⟩ | ⟨xs,hx,e'⟩
  . subst e';obtain⟨its,r',pl,hz⟩:=I.list hx;have ed:=r'.length;exact Calls.call_len_list pl.isList (by simp only[ay];omega) ⟨.int xs.length,H,I.tok _,⟨_,by simp only[ay];rw[ed]⟩,q⟩
  . subst e';obtain⟨its,r',pl,hz⟩:=I.tuple hx;have ed:=r'.length;exact len_tuple pl (by simp only[ay];omega) ⟨.int xs.length,H,I.tok _,⟨_,by simp only[ay];rw[ed]⟩,q⟩
 | _=>exact(show False from e).elim
end
structure QN(h:Heap)(x dx C:Addr)(mA:w1d):Prop where
 obj:h.get? x=some (PySem.W.instObj C dx)
 ns:h.Ns1 dx mA
 ne:dx≠x
def Ti{h:Heap}{dx:Addr}{mA:w1d}(n:h.Ns1 dx mA):∃od,h.get? dx=some od/\∀name,PySem.W.lookIn name od=some (mA name):=by
 obtain⟨o,es,ep,ho,hd,hk,_,hm⟩:=n;show⟨o,ho,λname=>?_⟩;have e:=hm name;unfold nsFind findBy at e;rw[<- Array.find?_toList]at e;unfold PySem.W.lookIn;rw[hd];dsimp only;split
 . rename_i y q;rw[q]at e;exact congrArg some e
 . rename_i q;rw[q]at e;have a:es.toList.any (·.refKey)=false:=by rw[List.any_eq_false];intro y hy;obtain⟨z,t,sV⟩:=hk y<|Array.mem_toList_iff.mp hy;simp[DictEntry.refKey,sV]
   have a':¬es.toList.any (·.refKey)=true:=by rw[a];exact aI
   rw[if_neg a'];exact congrArg some e
def QN.look{h:Heap}{x dx C:Addr}{mA:w1d}(I:QN h x dx C mA):∃od,PySem.W.InstAt h x (PySem.W.instObj C dx) C (some od)/\∀name,PySem.W.lookIn name od=some (mA name):=
 let⟨od,ho,hl⟩:=Ti I.ns
 ⟨od,⟨I.obj,U,U,ho⟩,hl⟩
section
variable{prog:Program}{w:World}{A:Around}{E:w1c}{s:Shared}{K:aa}{x dx C f:Addr}{mA:w1d}{name:Str}{v:Value}
def Yy{uo:Bool}{Q:w1c}(X:K.In s.heap)(I:QN s.heap x dx C mA)(hg:PySem.W.plainGet K C name=true)(hh:PySem.W.hasDictIn K C=true)
    (ha:PySem.W.findIn K (.ref C) name=some none) (hv:mA name=some v) (hv':PySem.W.handedIn v=true) (h:Q v { s with toks:=s.toks+1 }) :
    wpAny (model prog w) A (getAttr (.ref x) name uo) Q E s:=by
 obtain⟨od,J,hl⟩:=I.look;exact PySem.W.get_value X J (PySem.W.plainGet_of hg).1 (PySem.W.findObj_own hh ha U<|by rw[hl,hv]) hv' h
def Wb{pl:Sem Bool}{Q:Value × w1g->Shared->Prop}(X:K.In s.heap)(I:QN s.heap x dx C mA)(hg:PySem.W.plainGet K C name=true)
    (hf:PySem.W.findIn K (.ref C) name=some (some<|.ref f)) (ht:PySem.W.isFn K (.ref f)=true) (hv:mA name=none) (h:Q (.ref f,[.ref x]) s) :
    wpAny (model prog w) A (getMethod (.ref x) name pl) Q E s:=by
 obtain⟨od,J,hl⟩:=I.look;exact PySem.W.method_fn X J (PySem.W.plainGet_of hg).1 (PySem.W.plainGet_of hg).2 hf (beq_iff_eq.mp ht) (by show(PySem.W.lookIn name od).map (·.isSome)=some false;rw[hl,hv];rfl) h
def Xq{ns:w1f}{Q:Unit->Shared->Prop}(X:K.In s.heap)(I:QN s.heap x dx C mA)
    (hs:PySem.W.findIn K (.ref C) "__setattr__"=some (some<|.builtin "object.__setattr__")) (hp:PySem.W.plainOver K C=true) (ht:PySem.W.takerIn K C name=some none) (hh:PySem.W.hasDictIn K C=true)
    (hw:PySem.Within mA ns) (ku:ns.length<=sizeLine)
    (h:∀h',QN h' x dx C (λy=>if y=name then some v else mA y)->Heap.SameBut dx s.heap h'->Q () { s with heap:=h',toks:=s.toks+2 }) :
    wpAny (model prog w) A (setAttr (.ref x) name v) Q E s:=by
 obtain⟨od,J,hl⟩:=I.look;show PySem.W.set_plain X J hs<|PySem.W.osa_open (s:={ s with toks:=s.toks+1 }) (r:=none) X J hp ht λb=>?_;obtain⟨cd,hc,ir⟩:=PySem.W.any_some hh;have hx:s.heap.get? x=some ⟨.ref C,some dx,.plain,#[]⟩:=I.obj;show wpAny_bind<|wpAny_pure<|wpAny_bind<|wpAny_bind<|wpAny_loadPart hx<|wpAny_bind<|PySem.W.Looks.here (s:={ s with toks:=s.toks+1 }) (PySem.W.looks_clsIn X hc) ?_;rw[ir];show wpAny_pure (a:=some dx)<|wpAny_bind<|wpAny_pure<|wpAny_bind ?_;show wpAny_nsSet1 (s:={ s with toks:=s.toks+1 }) I.ns λh' pJ mV=>?_;obtain⟨oD,esD,epD,hoD,hdD,hcD⟩:=pJ.count<|PySem.Within.cons name v hw;show wpAny_bind (wpAny_lookBehind hoD (by rw[hdD];exact pastItsLine_dict<|af hcD<|by rw[bM];omega) ?_);exact wpAny_pure (h _ ⟨(mV.2 _<|Ne.symm I.ne).trans I.obj,pJ,I.ne⟩ mV)
def VH{R:Result->Shared->Prop}{vs:w1g}{kw:List (Str × Value)}(X:K.In s.heap)(hm:PySem.W.makesIn K C=true)
    (hi:PySem.W.findIn K (.ref C) "__init__"=some (some<|.ref f)) (hf:PySem.W.typeIn K (.ref f)=some (.type "function"))
    (h:codeAny (model prog w) (A.under<|.builtin "type.__call__" ⟨.ref C::vs,kw⟩) (.call (.ref f) ⟨.ref (s.heap.objs.size+1)::vs,kw⟩) (PySem.W.InitBack (s.heap.objs.size+1) R)
     { s with heap:=(s.heap.push PySem.W.emptyDict).push (PySem.W.instObj C s.heap.objs.size) }) :
    codeAny (model prog w) A (.call (.ref C) ⟨vs,kw⟩) R s:=by
 obtain⟨hh,g,d,t,os⟩:=s;exact PySem.W.make_core (PySem.W.makes_of X hm) (PySem.W.looks_findIn X hi) (λself=>PySem.W.bind_fn X self hf) (.inl U) h
def Th{R:Result->Shared->Prop}(X:K.In s.heap)(hm:PySem.W.makesIn K C=true)
    (hi:PySem.W.findIn K (.ref C) "__init__"=some (some<|.builtin "object.__init__"))
    (hb:∀self,PySem.W.Looks (model prog w) s.heap (bindSpecial (.builtin "object.__init__") self) (.builtin "object.__init__",[self]))
    (h:codeAny (model prog w) (A.under<|.builtin "type.__call__" ⟨[.ref C],[]⟩) (.call (.builtin "object.__init__") ⟨[.ref<|s.heap.objs.size+1],[]⟩) (PySem.W.InitBack (s.heap.objs.size+1) R)
     { s with heap:=(s.heap.push PySem.W.emptyDict).push (PySem.W.instObj C s.heap.objs.size) }) :
    codeAny (model prog w) A (.call (.ref C) ⟨[],[]⟩) R s:=by
 obtain⟨hh,g,d,t,os⟩:=s;exact PySem.W.make_core (PySem.W.makes_of X hm) (PySem.W.looks_findIn X hi) hb (.inr ⟨U,U⟩) h
end
def Cq(f:Str)(v:V):List (Str × V)->List (Str × V)
 | []=>[(f,v)]
 | (g,x)::r=>if g=f then(g,v)::r else(g,x)::Cq f v r
theorem Aw(f g:Str)(v:V):∀fs:List (Str × V),(Cq f v fs).lookup g=if g=f then some v else fs.lookup g
 | []=>by
  show List.lookup g [(f,v)]=_;by_cases h:g=f
  . have hb:(g == f)=true:=beq_iff_eq.mpr h;simp only[List.lookup,hb,if_pos h]
  . have hb:(g == f)=false:=beq_eq_false_iff_ne.mpr h;simp only[List.lookup,hb,if_neg h]
 | (k,x)::r=>by
  have ih:=Aw f g v r;rw[show Cq f v ((k,x)::r)=(if k=f then(k,v)::r else(k,x)::Cq f v r)from rfl];by_cases hk:k=f
  . rw[if_pos hk];by_cases h:g=k
    . have hb:(g == k)=true:=beq_iff_eq.mpr h;simp only[List.lookup,hb,if_pos<|h.trans hk]
    . have hb:(g == k)=false:=beq_eq_false_iff_ne.mpr h;simp only[List.lookup,hb,if_neg (λe:g=f=>h<|e.trans hk.symm)]
  . rw[if_neg hk];by_cases h:g=k
    . have hb:(g == k)=true:=beq_iff_eq.mpr h;simp only[List.lookup,hb,if_neg (λe:g=f=>hk<|h.symm.trans e)]
    . have hb:(g == k)=false:=beq_eq_false_iff_ne.mpr h;simp only[List.lookup,hb];exact ih
theorem Gx(f:Str)(v:V):∀fs:List (Str × V),f∈(Cq f v fs).map (·.1)/\∀g,g∈fs.map (·.1)->g∈(Cq f v fs).map (·.1)
 | []=>⟨by simp[Cq],λg h=>by simp at h⟩
 | (k,x)::r=>by
  obtain⟨i1,i2⟩:=Gx f v r;rw[show Cq f v ((k,x)::r)=(if k=f then(k,v)::r else(k,x)::Cq f v r)from rfl];by_cases hk:k=f
  . rw[if_pos hk];subst hk;exact⟨by simp,λg h=>by simpa using h⟩
  . rw[if_neg hk];show⟨?_,λg h=>?_⟩
    . rw[aX];exact aA _ i1
    . rw[aX]at h ⊢;rcases au.mp h with e | e
      . exact au.mpr (.inl e)
      . exact aA _ (i2 g e)
theorem GP(f:Str)(v:V):∀fs:List (Str × V),(Cq f v fs).length<=fs.length+1
 | []=>by simp[Cq]
 | (k,x)::r=>by
  have ih:=GP f v r;rw[show Cq f v ((k,x)::r)=(if k=f then(k,v)::r else(k,x)::Cq f v r)from rfl];by_cases hk:k=f
  . rw[if_pos hk,bM,bM];omega
  . rw[if_neg hk,bM,bM];omega
def JU.some_of{v:V}{o:Option Value}(r:JU (some v) o):∃u,o=some u/\E3 v u:=by
 cases o with
 | none=>exact(show False from r).elim
 | some u=>exact⟨u,U,r⟩
def JU.none_of{o:Option Value}(r:JU none o):o=none:=by
 cases o with
 | none=>rfl
 | some u=>exact(show False from r).elim
def Tv{v:V}{u:Value}(r:E3 v u):PySem.W.handedIn u=true:=by
 cases v with
 | non=>cases (show u=Value.none from r);rfl
 | bl b=>cases (show u=Value.bool b from r);rfl
 | int i=>obtain⟨t,e⟩:=(show ∃t,u=Value.int i t from r);cases e;rfl
 | str x=>obtain⟨t,e⟩:=(show ∃t,u=Value.str x t from r);cases e;rfl
 | byt b=>obtain⟨t,e⟩:=(show ∃t,u=Value.bytes b t from r);cases e;rfl
 | flt b=>obtain⟨t,e⟩:=(show ∃t,u=Value.float b t from r);cases e;rfl
 | ref a=>cases (show u=Value.ref a from r);rfl
 | ty n=>cases (show u=Value.type n from r);rfl
section
variable{P:Program}{w:World}{H H':Hp}{h h':Heap}{a C dx:Addr}{fs uf:List (Str × V)}
def HF(hok:BB P w H h)(e:H a=some (.ins C dx fs)):∃mA,QN h a dx C mA/\(∀f,JU (fs.lookup f)<|mA f)/\PySem.Within mA (fs.map (·.1))/\fs.length<=1000/\H dx=some (.own a):=by obtain⟨d,z,ne,ob,mA,n,r,q⟩:=(show M6 P w H h a (.ins C dx fs)from hok a _ e);exact⟨mA,⟨ob,n,ne⟩,r,q,z,d⟩
end
structure QO(K:aa)(C:Addr):Prop where
 pg:PySem.W.plainGet K C Str.empty=true
 hd:PySem.W.hasDictIn K C=true
 po:PySem.W.plainOver K C=true
 sa:PySem.W.findIn K (.ref C) "__setattr__"=some (some<|.builtin "object.__setattr__")
def QO.get{K:aa}{C:Addr}(c:QO K C)(f:Str):PySem.W.plainGet K C f=true:=c.pg
def Ez(K:aa)(C:Addr)(f:Str):Prop:=PySem.W.findIn K (.ref C) f=some none
def Ez.taker{K:aa}{C:Addr}{f:Str}(n:Ez K C f):PySem.W.takerIn K C f=some none:=by unfold PySem.W.takerIn;rw[show PySem.W.findIn K (.ref C) f=some none from n];rfl
structure Con(K:aa)(C:Addr)(f:Str)(v:V)(u:Value):Prop where
 at_:PySem.W.findIn K (.ref C) f=some (some u)
 rel:E3 v u
 get:PySem.W.specialIn K u "__get__"=some none
 cp:PySem.W.copiedNames.contains f=false
structure Hr(K:aa)(C:Addr)(m:Str)(f:Addr):Prop where
 at_:PySem.W.findIn K (.ref C) m=some (some<|.ref f)
 fn:PySem.W.isFn K (.ref f)=true
 kp:PySem.W.keepIn K (.ref f)=true
section
variable{X:Cx}{aS:w1b}{σ:St}{H:Hp}{s:Shared}{a C dx:Addr}{fs:List (Str × V)}{f:Str}{v:V}{A:Around}{E:w1c}
def Qv{b:Bool}{Q:w1c}(I:r8 X aS σ H s)(e:H a=some (.ins C dx fs))(c:QO X.K C)(n:Ez X.K C f)(l:fs.lookup f=some v)
    (h:∀u s',r8 X aS σ H s'->E3 v u->Q u s'):wpAny (model X.prog X.w) A (getAttr (.ref a) f b) Q E s:=by
 obtain⟨mA,a1u,r,_,_,_⟩:=HF I.hok e;obtain⟨u,hu,ru⟩:=JU.some_of (v:=v) (o:=mA f) (by rw[<- l];exact r f);exact Yy I.kIn a1u (c.get f) c.hd n hu (Tv ru) (h u _ (I.tok _) ru)
def Eo{m:Str}{g:Addr}{pl:Sem Bool}{Q:Value × w1g->Shared->Prop}(I:r8 X aS σ H s)(e:H a=some (.ins C dx fs))(c:QO X.K C)(k:Hr X.K C m g)(l:fs.lookup m=none)
    (h:Q (.ref g,[.ref a]) s):wpAny (model X.prog X.w) A (getMethod (.ref a) m pl) Q E s:=by
 obtain⟨mA,a1u,r,_,_,_⟩:=HF I.hok e;have hn:mA m=none:=JU.none_of (by rw[<- l];exact r m);exact Wb I.kIn a1u (c.get m) k.at_ k.fn hn h
def Pm{y:V}{u:Value}{Q:Unit->Shared->Prop}(I:r8 X aS σ H s)(e:H a=some (.ins C dx fs))(c:QO X.K C)(n:Ez X.K C f)(hl:fs.length < 1000)(ry:E3 y u)
    (h:∀s',r8 X aS σ (upd H a<|.ins C dx<|Cq f y fs) s'->Q () s'):wpAny (model X.prog X.w) A (setAttr (.ref a) f u) Q E s:=by
 obtain⟨mA,a1u,r,wi,_,ho⟩:=HF I.hok e;have hz:(fs.map (·.1)).length<=sizeLine:=by rw[ag,sizeLine_eq];omega
 show Xq I.kIn a1u c.sa c.po n.taker c.hd wi hz λh' O' sb=>h _ ?_;have hd:∃o,h'.get? dx=some o:=let⟨o,_,_,e',_⟩:=O'.ns;⟨o,e'⟩
 show I.write (x:=a) (e:=dx) (by rw[e];exact True.intro) (.inr ho) (λb q hb z=>(sb.2 b hb).trans z) hd ?_;show⟨by rw[l9 a1u.ne];exact ho,?_,a1u.ne,O'.obj,_,O'.ns,λg=>?_,λg hg=>?_⟩
 . have:=GP f y fs;omega
 . show JU ((Cq f y fs).lookup g) (if g=f then some u else mA g);rw[Aw];by_cases q:g=f
   . rw[if_pos q,if_pos q];exact ry
   . rw[if_neg q,if_neg q];exact r g
 . by_cases q:g=f
   . rw[q];exact(Gx f y fs).1
   . show(Gx f y fs).2 g<|wi g λz=>hg ?_;show(if g=f then some u else mA g)=none;rw[if_neg q];exact z
def r8.made(I:r8 X aS σ H s):r8 X aS σ (upd (upd H s.heap.objs.size<|.own<|s.heap.objs.size+1) (s.heap.objs.size+1)<|.ins C s.heap.objs.size [])
    { s with heap:=(s.heap.push PySem.W.emptyDict).push (PySem.W.instObj C s.heap.objs.size) }:=by
 have e1:(s.heap.push PySem.W.emptyDict).get? s.heap.objs.size=some PySem.W.emptyDict:=aF s.heap rfl;have e2:((s.heap.push PySem.W.emptyDict).push<|PySem.W.instObj C s.heap.objs.size).get? (s.heap.objs.size+1)=some (PySem.W.instObj C s.heap.objs.size):=by have:=aF (s.heap.push PySem.W.emptyDict) (o:=PySem.W.instObj C s.heap.objs.size) rfl;rwa [bu]at this
 have e3:(s.heap.push PySem.W.emptyDict).Ns s.heap.objs.size (λ_=>none):=⟨PySem.W.emptyDict,#[],_,e1,U,(λe he=>absurd he<|by simp),λ_=>rfl⟩;have I1:=I.laid (a:=s.heap.objs.size) (o:=.own<|s.heap.objs.size+1) (h':=s.heap.push PySem.W.emptyDict) (t':=s.toks) (λb u q=>ak _ q) (ae _) ⟨_,e1⟩;show I1.laid (a:=s.heap.objs.size+1) (o:=.ins C s.heap.objs.size []) (t':=s.toks) (λb u q=>ak _ q) (dc<|bu _ _) ?_;have ne:s.heap.objs.size≠s.heap.objs.size+1:=aC<|cE _;show⟨by rw[l9 ne,b9],aP _,ne,e2,λ_=>none,(Heap.Ns1.of_empty e3).at λo q=>ak _ q,λ_=>True.intro,λy hy=>absurd rfl hy⟩
def YH{prog:Program}{w:World}{env:Env}{e:Expr}{f:Str}{pos:Pos}{s:Shared}{Q:w1c}(hb:attributeBase e f env (eval e env)=eval e env)
    (h:wpAny (model prog w) A (eval e env) (λo s₁=>wpAny (model prog w) A (getAttr o f true) Q E s₁) E s):wpAny (model prog w) A (eval (.Attribute e f pos) env) Q E s:=
 Attribute_any_ h (by rw[arm_eval_Attribute,hb])
end
def tFld(K:aa)(ta:TE)(f:Str):TE:=λσ H Q=>ta σ H λx H1=>∃a C dx fs v,x=.ref a/\H1 a=some (.ins C dx fs)/\QO K C/\Ez K C f/\fs.lookup f=some v/\Q v H1
def sFld(K:aa)(ta tv:TE)(f:Str):TS:=λD σ H=>tv σ H λy H1=>ta σ H1 λx H2=>∃a C dx fs,x=.ref a/\H2 a=some (.ins C dx fs)/\QO K C/\Ez K C f/\fs.length < 1000/\
 D.nx σ (upd H2 a<|.ins C dx<|Cq f y fs)
section
variable{X:Cx}{o e value:Expr}{f:Str}{pos fK tpos:Pos}{ta tv:TE}
def Lk(he:PE X e ta)(hb:attributeBase e f X.env (eval e X.env)=eval e X.env):PE X (.Attribute e f pos) (tFld X.K ta f):=by intro aS s σ H Q I h;show YH hb<|K0 (he aS s σ H _ I h) λu s1 hζ=>?_;obtain⟨x,H1,I1,rx,a,C,dx,fs,v,ex,ea,c,n,l,q⟩:=hζ;subst ex;obtain rfl:u=Value.ref a:=rx;exact Qv I1 ea c n l λu' s2 I2 ru=>⟨v,H1,I2,ru,q⟩
def a0f(ha:PE X o ta)(hv:PE X value tv)(hs:swapsWith value (some<|.Attribute o f fK) pos.line X.env=pure false):PS X (.Assign [.Attribute o f fK] value pos) (sFld X.K ta tv f):=by intro aS s σ H D I h;show plainObj_wpAny_Assign_Attribute (K0 (hv aS s σ H _ I h) λu s1 ⟨y,H1,I1,ry,q⟩=>K0 (ha aS s1 σ H1 _ I1 q) λov s2 hζ=>?_) hs;obtain⟨x,H2,I2,rx,a,C,dx,fs,ex,ea,c,n,l,q2⟩:=hζ;subst ex;obtain rfl:ov=Value.ref a:=rx;exact Pm I2 ea c n l ry λs3 I3=>⟨σ,_,I3,q2⟩
def YU{pl:Sem Bool}{m:Str}{fA:Pos}{args:List Expr}{aS:w1b}{s:Shared}{σ:St}{H:Hp}{Q:w1c}{te:TE}(he:PE X e te)(I:r8 X aS σ H s)
    (h:te σ H λx H1=>∃a C dx fs g,x=.ref a/\H1 a=some (.ins C dx fs)/\QO X.K C/\Hr X.K C m g/\fs.lookup m=none/\
     ∀s1,r8 X aS σ H1 s1->wpAny (model X.prog X.w) X.A (callWith pos (.ref g) [.ref a] (backTo pos<|starEach args X.env)<|backToKw pos<|keywordEach [] X.env) Q X.xe s1)
    (ht:eval (.Call (.Attribute e m fA) args [] pos) X.env=(do
     let ov <- eval e X.env
     standAt fA.atName
     let(f,first) <- holding [ov] (getMethod ov m pl)
     callWith pos f first (backTo pos<|starEach args X.env) (backToKw pos<|keywordEach [] X.env))) :
    wpAny (model X.prog X.w) X.A (eval (.Call (.Attribute e m fA) args [] pos) X.env) Q X.xe s:=by
 show PySem.W.methodCall_KW (pl:=pl) (K0 (he aS s σ H _ I h) λu s1 hζ=>?_) ht;obtain⟨x,H1,I1,rx,a,C,dx,fs,g,ex,ea,c,k,l,q⟩:=hζ;subst ex;obtain rfl:u=Value.ref a:=rx;exact Eo I1 ea c k l (q s1 I1)
end
section
variable{X:Cx}{aS:w1b}{σ:St}{H:Hp}{s:Shared}{A:Around}{E:w1c}{Q:w1c}{c:Value}{b:Bool}
inductive Ew(K:aa)(H:Hp):V->Value->Prop where
 | non:Ew K H .non (.type "NoneType")
 | bl (x:Bool):Ew K H (.bl x) (.type "bool")
 | int (i:Int):Ew K H (.int i) (.type "int")
 | str (x:Str):Ew K H (.str x) (.type "str")
 | flt (x:UInt64):Ew K H (.flt x) (.type "float")
 | lst {a:Addr} {xs:List V} (e:H a=some (.lst xs)):Ew K H (.ref a) (.type "list")
 | frz {a:Addr} {o:Obj} {xs:List V} (e:H a=some (.frz o<|.lst xs)):Ew K H (.ref a) (.type "list")
 | tup {a:Addr} {xs:List V} (e:H a=some (.tup xs)):Ew K H (.ref a) (.type "tuple")
 | dK {a:Addr} {fg:List (Mv × V)} (e:H a=some (.dK fg)):Ew K H (.ref a) (.type "dict")
 | dT {a:Addr} {fg:List (List Mv × V)} (e:H a=some (.dT fg)):Ew K H (.ref a) (.type "dict")
 | ins {a C dx:Addr} {fs:List (Str × V)} (e:H a=some (.ins C dx fs)) (cl:QO K C) (ha:PySem.W.findIn K (.ref C) "__class__"=some (some<|.builtin "object.__class__"))
     (hn:PySem.W.specialIn K (.builtin "object.__class__") "__get__"=some (some<|.builtin "getset_descriptor.__get__")) (vL:PySem.W.takesIn K (.builtin "object.__class__")=some true)
     (hm:PySem.W.mroIn K C (.type "object")=some true):Ew K H (.ref a) (.ref C)
def Ts{x:V}{u t:Value}(I:r8 X aS σ H s)(rx:E3 x u)(ty:Ew X.K H x t)(e:PySem.W.kitOne X.K t c=some b)(h:∀tk,Q (.bool b) { s with toks:=tk }) :
    wpAny (model X.prog X.w) A (call (.builtin "isinstance") [u,c]) Q E s:=by
 cases ty with
 | non=>cases (show u=Value.none from rx);exact bJ PySem.W.kitx_none I.kIn True.intro e (λz=>nomatch z) h
 | bl y=>cases (show u=Value.bool y from rx);exact bJ PySem.W.kitx_bool I.kIn True.intro e (λz=>nomatch z) h
 | int i=>obtain⟨t,q⟩:=(show ∃t,u=Value.int i t from rx);cases q;exact bJ PySem.W.kitx_int I.kIn True.intro e (λz=>nomatch z) h
 | str y=>obtain⟨t,q⟩:=(show ∃t,u=Value.str y t from rx);cases q;exact bJ PySem.W.kitx_str I.kIn True.intro e (λz=>nomatch z) h
 | flt y=>obtain⟨t,q⟩:=(show ∃t,u=Value.float y t from rx);cases q;exact bJ PySem.W.kitx_float I.kIn True.intro e (λz=>nomatch z) h
 | @lst a xs ea=>
  cases (show u=Value.ref a from rx);obtain⟨_,_,n,_,h1⟩:=(show M6 X.prog X.w H s.heap a (.lst xs)from I.hok a _ ea);exact bJ PySem.W.kitx_list I.kIn ⟨_,h1,U⟩ e (λz=>nomatch z) h
 | @frz a ob xs ea=>
  cases (show u=Value.ref a from rx);obtain⟨_,_,_,n,_,h1⟩:=(show M6 X.prog X.w H s.heap a (.frz ob<|.lst xs)from I.hok a _ ea);exact bJ PySem.W.kitx_list I.kIn ⟨_,h1,U⟩ e (λz=>nomatch z) h
 | @tup a xs ea=>
  cases (show u=Value.ref a from rx);obtain⟨_,_,_,p,_⟩:=(show M6 X.prog X.w H s.heap a (.tup xs)from I.hok a _ ea);obtain⟨o,h1,h2,_⟩:=p;exact bJ PySem.W.kitx_tuple I.kIn ⟨o,h1,h2⟩ e (λz=>nomatch z) h
 | @dK a fg ea=>
  cases (show u=Value.ref a from rx);obtain⟨_,_,vs,_,p⟩:=(show M6 X.prog X.w H s.heap a (.dK fg)from I.hok a _ ea);obtain⟨o,es,ep,h1,h2,_⟩:=p;exact bJ PySem.W.kitx_dict I.kIn ⟨o,h1,h2.1⟩ e (λz=>nomatch z) h
 | @dT a fg ea=>
  cases (show u=Value.ref a from rx);obtain⟨_,_,xs,_,o,es,ep,h1,h2,_⟩:=(show M6 X.prog X.w H s.heap a (.dT fg)from I.hok a _ ea);exact bJ PySem.W.kitx_dict I.kIn ⟨o,h1,h2.1⟩ e (λz=>nomatch z) h
 | @ins a C dx fs ea cl ha hn vL hm=>
  cases (show u=Value.ref a from rx);obtain⟨mA,a1u,_⟩:=HF I.hok ea;obtain⟨od,J,_⟩:=a1u.look;exact bJ (PySem.W.kitx_own (cl.get _) cl.hd ha hn vL hm) I.kIn J e (λz=>nomatch z) h
end
structure L9(k:Nat)(A:Around):Prop where
 hd:A.handled=none
 dp:A.depth+3 * k+5 < recursionLimit
 un:A.units+16 * k+200 < cLine
def L9.mono{j k:Nat}{A:Around}(r:L9 k A)(h:j<=k):L9 j A:=⟨r.hd,by have:=r.dp;omega,by have:=r.un;omega⟩
theorem L9.deeper{k:Nat}{A:Around}(r:L9 (k+1) A)(env:Env):L9 k (A.deeper env):=
 ⟨r.hd,by have:=r.dp;show A.depth+1+3 * k+5 < _;omega,by have:=r.un;show A.units+3+16 * k+200 < _;omega⟩
def Qa{A:Around}{C:Addr}{us:w1g}{kw:List (Str × Value)}:(A.under<|.builtin "type.__call__" ⟨.ref C::us,kw⟩).depth=A.depth+1:=by
 first | rfl | simp[Around.under,Code.weight,Code.isCreation,Code.isGuard,Code.isCaller,Code.frames,Code.isFrame,guardIds]
def PZ{A:Around}{C:Addr}{us:w1g}{kw:List (Str × Value)}:(A.under<|.builtin "type.__call__" ⟨.ref C::us,kw⟩).units=A.units+1:=by
 first | rfl | simp[Around.under,Code.cUnits,Code.frames,Code.isFrame]
def L9.make{k:Nat}{A:Around}(r:L9 (k+1) A)(C:Addr)(us:w1g)(kw:List (Str × Value)):L9 k (A.under<|.builtin "type.__call__" ⟨.ref C::us,kw⟩):=
 ⟨r.hd,by have:=r.dp;rw[Qa];omega,by have:=r.un;rw[PZ];omega⟩
theorem L9.depth{k:Nat}{A:Around}(r:L9 k A):A.depth < recursionLimit:=by have:=r.dp;omega
theorem L9.units{k:Nat}{A:Around}(r:L9 k A):A.units+64 < cLine:=by have:=r.un;omega
def tNil:TA:=λ_ H Q=>Q [] H
def BC(ta:TE)(tr:TA):TA:=λσ H Q=>ta σ H λx H1=>tr σ H1 λxs H2=>Q (x::xs) H2
section
variable{X:Cx}{e:Expr}{es:List Expr}{te:TE}{t:TA}{pos:Pos}
def K6:PA X [] tNil:=λ_ _ _ _ H Q I h=>Calls.spliced_nil ⟨[],H,I,.nil,h⟩
def J7(ha:PE X e te)(hr:PA X es t)(hs:starEach (e::es) X.env=(false,eval e X.env)::starEach es X.env:=by rfl):PA X (e::es) (BC te t):=by intro pos aS s σ H Q I h;rw[hs];show wpAny _ _ (spliced ((false,eval e X.env)::backTo pos (starEach es X.env))) _ _ s;show Calls.spliced_cons<|K0 (ha aS s σ H _ I h) λu s1 ⟨x,H1,I1,r1,q1⟩=>?_;exact K0 (hr pos aS s1 σ H1 _ I1 q1) λus s2 ⟨xs,H2,I2,r2,q2⟩=>⟨x::xs,H2,I2,.cons r1 r2,q2⟩
def tTup(t:TA):TE:=λσ H Q=>t σ H λxs H1=>xs.length<=sizeLine/\∀p,H1 p=none->Q (.ref p) (upd H1 p<|.tup xs)
def e0g(t:TA):TE:=λσ H Q=>t σ H λxs H1=>xs.length<=sizeLine/\∀p,H1 p=none->Q (.ref p) (upd H1 p<|.lst xs)
def D0{x1}(h:PA X es t):PE X (.Tuple es x1 pos) (tTup t):=by intro aS s σ H Q I hq;show wpAny_Tuple_spliced (K0 (h pos aS s σ H _ I hq) λus s1 ⟨xs,H1,I1,r,z,q⟩=>⟨by rw[<- r.length];exact z,?_⟩);have hf:H1 s1.heap.objs.size=none:=I1.hok.fresh<|ae _;show⟨.ref s1.heap.objs.size,upd H1 s1.heap.objs.size<|.tup xs,I1.laid (t':=s1.toks) (λb u e=>ak _ e) (ae _) ?_,U,q _ hf⟩;exact⟨z,us,r,⟨_,aF _ U,U,_,U⟩,λ_=>⟨_,aF _ U,U⟩⟩
def D1(h:PA X es t):PE X (.List es pos) (e0g t):=by intro aS s σ H Q I hq;show wpAny_List_spliced (K0 (h pos aS s σ H _ I hq) λus s1 ⟨xs,H1,I1,r,z,q⟩=>⟨by rw[<- r.length];exact z,?_⟩);have hf:H1 s1.heap.objs.size=none:=I1.hok.fresh<|ae _;show⟨.ref s1.heap.objs.size,upd H1 s1.heap.objs.size<|.lst xs,I1.laid (t':=s1.toks) (λb u e=>ak _ e) (ae _) ?_,U,q _ hf⟩;exact⟨z,us,0,r,aF _ U⟩
end
abbrev Sp:=List V->Hp->VK->XK->Prop
abbrev Sj:=List Env->Hp->Shared->XK->Value->Shared->Prop
structure JW(P:Program)(w:World)(K:aa)(mg:w1d)(base:Heap)(A:Around)(outer:List Env)(s:Shared)(H:Hp):Prop where
 frames:A.frames=some outer
 mod:Mod K mg base
 bs:∀b o,base.get? b=some o->s.heap.get? b=some o/\H b=none
 bsz:base.objs.size<=s.heap.objs.size
 funs:s.heap.FunFrames base outer
 frf:∀b∈HH outer,H b=none
 hok:BB P w H s.heap
 bare:AllBare s.gens
def CE(outer:List Env)(P:Program)(w:World)(H:Hp)(s:Shared)(Q:VK)(u:Value)(s':Shared):Prop:=
 ∃v H',s'.os=s.os/\AllBare s'.gens/\Un (HH outer) [] H H' s.heap s'.heap/\BB P w H' s'.heap/\E3 v u/\Q v H'
def CR(CX:Sj)(outer:List Env)(P:Program)(w:World)(H:Hp)(s:Shared)(Q:VK)(E:XK)(r:Result)(s':Shared):Prop:=
 match r with
 | .ok (.ret u)=>CE outer P w H s Q u s'
 | .ok _=>False
 | .error e=>CX outer H s E e s'
structure w8(P:Program)(w:World)(K:aa)(mg:w1d)(base:Heap)(CX:Sj)(k:Nat)(f:Addr)(fd:FuncData)(ps:w1f)(sp:Sp):Prop where
 len:∀vs H Q E,sp vs H Q E->vs.length=ps.length
 run:∀(A:Around) (outer:List Env) (s:Shared) (H:Hp) (args:Args) (us:w1g) (vs:List V) (Q:VK) (E:XK),L9 k A->JW P w K mg base A outer s H->BindsTo s fd args (ps.zip us)->z9 vs us->sp vs H Q E->
  codeAny (model P w) A (.call (.ref f) args) (CR CX outer P w H s Q E) s
theorem w8.mono{P:Program}{w:World}{K:aa}{mg:w1d}{base:Heap}{CX:Sj}{j k:Nat}{f:Addr}{fd:FuncData}{ps:w1f}{sp:Sp}(F:w8 P w K mg base CX j f fd ps sp)(h:j<=k) :
    w8 P w K mg base CX k f fd ps sp:=⟨F.len,λA outer s H args us vs Q E hr=>F.run A outer s H args us vs Q E<|hr.mono h⟩
def JW.make{P:Program}{w:World}{K:aa}{mg:w1d}{base:Heap}{A:Around}{outer:List Env}{s:Shared}{H:Hp}(e:JW P w K mg base A outer s H)(C:Addr)(us:w1g)(kw:List (Str × Value)) :
    JW P w K mg base (A.under<|.builtin "type.__call__" ⟨.ref C::us,kw⟩) outer s H:=⟨by first | exact e.frames | (simpa [Around.under,Code.envs,Code.isFrame,pushEnvs] using e.frames),e.mod,e.bs,e.bsz,e.funs,e.frf,e.hok,e.bare⟩
section
variable{X:Cx}{aS:w1b}{σ:St}{H:Hp}{s s':Shared}
def r8.env0(I:r8 X aS σ H s):JW X.prog X.w X.K X.mg X.base X.A X.stack s H:=
 ⟨I.ok.frames,I.ok.mod,I.bs,af I.ok.bsz I.sz,I.stack,I.stkFree,I.hok,I.bare⟩
def r8.after{Q:VK}{u:Value}(I:r8 X aS σ H s)(h:CE X.stack X.prog X.w H s Q u s'):EP X aS σ Q u s':=by obtain⟨v,H',os,bare,un,hok,r,q⟩:=h;obtain⟨hh,g,d,t,os'⟩:=s';obtain rfl:os'=s.os:=os;exact⟨v,H',I.call (h':=hh) (g':=g) (d':=d) (t':=t) (ch:=[]) un hok bare (λb z=>absurd z<|by simp),r,q⟩
end
def YM(sp:Sp)(fZ:List V)(E:XK)(t:TA):TE:=λσ H Q=>t σ H λvs H1=>sp (vs++fZ) H1 Q E
def YL(C:Addr)(m:Str)(sp:Sp)(fZ:List V)(E:XK)(ta:TE)(t:TA):TE:=λσ H Q=>ta σ H λx H1=>∃a dx fs,x=.ref a/\H1 a=some (.ins C dx fs)/\fs.lookup m=none/\
 t σ H1 λvs H2=>sp (x::(vs++fZ)) H2 Q E
def e0f(C:Addr)(sp:Sp)(fZ:List V)(E:XK)(t:TA):TE:=λσ H Q=>t σ H λvs H1=>∀x dx,H1 x=none->H1 dx=none->dx≠x->
 sp (.ref x::(vs++fZ)) (upd (upd H1 dx<|.own x) x<|.ins C dx []) (λv H2=>v=.non/\Q (.ref x) H2) E
def M8(K:aa)(fd:FuncData)(ps:w1f)(ds:w1g):Prop:=
 ∀(s:Shared) (us:w1g),K.In s.heap->(us++ds).length=ps.length->BindsTo s fd ⟨us,[]⟩ (ps.zip<|us++ds)
def M8.all{K:aa}{fd:FuncData}{ps:w1f}(h:∀us:w1g,us.length=ps.length->bindArgs fd ⟨us,[]⟩=pure (ps.zip us)):M8 K fd ps []:=λs us _ hl=>by
 rw[bw]at hl ⊢;exact .of_eq (h us hl)
def Ey(CX:Sj)(X:Cx)(E:XK):Prop:=∀(aS:w1b) (σ:St) (H:Hp) (s:Shared) (e:Value) (s':Shared),r8 X aS σ H s->CX X.stack H s E e s'->X.xe e s'
section
variable{X:Cx}{CX:Sj}{k:Nat}{f C:Addr}{fd:FuncData}{ps:w1f}{sp:Sp}{fZ:List V}{ds:w1g}{E:XK}{x m:Str}{p pos fA:Pos}{e o:Expr}{es:List Expr}{ta:TE}{t:TA}
def Pt{aS:w1b}{σ:St}{H:Hp}{s:Shared}{Q:VK}{us:w1g}{vs:List V}(F:w8 X.prog X.w X.K X.mg X.base CX k f fd ps sp)(hr:L9 k X.A)(hb:M8 X.K fd ps ds)(hd:z9 fZ ds)(hx:Ey CX X E)
    (I:r8 X aS σ H s) (r:z9 vs us) (h:sp (vs++fZ) H Q E):wpAny (model X.prog X.w) X.A (call (.ref f) us) (EP X aS σ Q) X.xe s:=by
 have r2:z9 (vs++fZ) (us++ds):=r.append hd;have hl:(us++ds).length=ps.length:=by rw[<- r2.length];exact F.len _ _ _ _ h
 show wpAny_call<|codeAny_mono (F.run X.A X.stack s H ⟨us,[]⟩ (us++ds) (vs++fZ) Q E hr I.env0 (hb s us I.kIn hl) r2 h) λr s' hq=>?_;cases r with
 | error e=>exact hx aS σ H s e s' I hq
 | ok fl=>
  cases fl with
  | ret u=>exact I.after hq
  | next=>exact False.elim hq
  | brk=>exact False.elim hq
  | cont=>exact False.elim hq
def C1(F:w8 X.prog X.w X.K X.mg X.base CX k f fd ps sp)(hr:L9 k X.A)(hg:Gl X x)(hm:X.mg x=some (.ref f))(hk:PySem.W.keepIn X.K (.ref f)=true)(hb:M8 X.K fd ps ds)(hd:z9 fZ ds)(hx:Ey CX X E)
    (ha:PA X (e::es) t) (ik:(x == ("__debug__":Str))=false:=by decide) (he:starEach (e::es) X.env=(false,eval e X.env)::starEach es X.env:=by rfl) (fX:(backTo pos<|starEach es X.env).any (·.1)=false:=by rfl) :
    PE X (.Call (.Name x p) (e::es) [] pos) (YM sp fZ E t):=by
 intro aS s σ H Q I h;show wpAny_Call_Name_kw<|Fu I hg hm ?_ ik;show dy (h₀:=X.base) I.ok.mod.kin hk (K0 (ha pos aS s σ H _ I h) λus s1 ⟨vs,H1,I1,r,q⟩=>⟨I1.kIn,?_⟩) he fX;exact Pt F hr hb hd hx I1 r q
def V2{pl:Sem Bool}(he:PE X o ta)(c:QO X.K C)(hm:Hr X.K C m f)(F:w8 X.prog X.w X.K X.mg X.base CX k f fd ps sp)(hr:L9 k X.A)(hb:M8 X.K fd ps ds)(hd:z9 fZ ds)(hx:Ey CX X E)(ha:PA X (e::es) t)
    (kx:starEach (e::es) X.env=(false,eval e X.env)::starEach es X.env:=by rfl) (fX:(backTo pos<|starEach es X.env).any (·.1)=false:=by rfl)
    (ht:eval (.Call (.Attribute o m fA) (e::es) [] pos) X.env=(do
     let ov <- eval o X.env
     standAt fA.atName
     let(f,first) <- holding [ov] (getMethod ov m pl)
     callWith pos f first (backTo pos<|starEach (e::es) X.env) (backToKw pos<|keywordEach [] X.env)):=by rfl) :
    PE X (.Call (.Attribute o m fA) (e::es) [] pos) (YL C m sp fZ E ta t):=by
 intro aS s σ H Q I h;show PySem.W.methodCall_KW (pl:=pl) (K0 (he aS s σ H _ I h) λu s1 hζ=>?_) ht;obtain⟨x,H1,I1,rx,a,dx,fs,ex,ea,l,q⟩:=hζ;subst ex;obtain rfl:u=Value.ref a:=rx;show Eo I1 ea c hm l ?_;show dy (first:=[.ref a]) (h₀:=X.base) I.ok.mod.kin hm.kp (K0 (ha pos aS s1 σ H1 _ I1 q) λus s2 ⟨vs,H2,I2,r,q2⟩=>⟨I2.kIn,?_⟩) kx fX;exact Pt (us:=.ref a::us) (vs:=.ref a::vs) F hr hb hd hx I2 (.cons U r) q2
def W0{pl:Sem Bool}(he:PE X o ta)(c:QO X.K C)(hm:Hr X.K C m f)(F:w8 X.prog X.w X.K X.mg X.base CX k f fd ps sp)(hr:L9 k X.A)(hb:M8 X.K fd ps ds)(hd:z9 fZ ds)(hx:Ey CX X E)
    (ht:eval (.Call (.Attribute o m fA) [] [] pos) X.env=(do
     let ov <- eval o X.env
     standAt fA.atName
     let(f,first) <- holding [ov] (getMethod ov m pl)
     callWith pos f first (backTo pos<|starEach [] X.env) (backToKw pos<|keywordEach [] X.env)):=by rfl) :
    PE X (.Call (.Attribute o m fA) [] [] pos) (YL C m sp fZ E ta tNil):=by
 intro aS s σ H Q I h;show PySem.W.methodCall_KW (pl:=pl) (K0 (he aS s σ H _ I h) λu s1 hζ=>?_) ht;obtain⟨x,H1,I1,rx,a,dx,fs,ex,ea,l,q⟩:=hζ;subst ex;obtain rfl:u=Value.ref a:=rx;show Eo I1 ea c hm l ?_;exact PySem.W.callWith_K0 (first:=[.ref a]) I1.kIn hm.kp (Pt (us:=[.ref a]) (vs:=[.ref a]) F hr hb hd hx I1 (.cons U .nil) q)
structure Mk(K:aa)(C f:Addr):Prop where
 makes:PySem.W.makesIn K C=true
 init:PySem.W.findIn K (.ref C) "__init__"=some (some<|.ref f)
 fn:PySem.W.isFn K (.ref f)=true
 kp:PySem.W.keepIn K (.ref C)=true
def UV{aS:w1b}{σ:St}{H:Hp}{s:Shared}{Q:VK}{us:w1g}{vs:List V}(M:Mk X.K C f)(F:w8 X.prog X.w X.K X.mg X.base CX k f fd ps sp)(hr:L9 (k+1) X.A)(hb:M8 X.K fd ps ds)(hd:z9 fZ ds)
    (hx:Ey CX X E) (I:r8 X aS σ H s) (r:z9 vs us)
    (h:∀x dx,H x=none->H dx=none->dx≠x->sp (.ref x::(vs++fZ)) (upd (upd H dx<|.own x) x<|.ins C dx []) (λv H2=>v=.non/\Q (.ref x) H2) E) :
    wpAny (model X.prog X.w) X.A (call (.ref C) us) (EP X aS σ Q) X.xe s:=by
 have hq:=h (s.heap.objs.size+1) s.heap.objs.size (I.hok.fresh<|Nat.le_succ _) (I.hok.fresh<|ae _)<|aC<|cE _;have I2:=r8.made (C:=C) I;have r2:z9 (V.ref (s.heap.objs.size+1)::(vs++fZ)) (Value.ref (s.heap.objs.size+1)::(us++ds)):=.cons rfl<|r.append hd;have hl:(Value.ref (s.heap.objs.size+1)::us++ds).length=ps.length:=by have e:=r2.length;rw[F.len _ _ _ _ hq]at e;exact e.symm
 show wpAny_call (VH (f:=f) I.kIn M.makes M.init (beq_iff_eq.mp M.fn) (codeAny_mono (F.run _ X.stack _ _ ⟨Value.ref (s.heap.objs.size+1)::us,[]⟩ (Value.ref (s.heap.objs.size+1)::(us++ds)) _ _ E (hr.make C us [])
  (I2.env0.make C us []) (hb _ (Value.ref (s.heap.objs.size+1)::us) I2.kIn hl) r2 hq) λr s' gI=>?_))
 cases r with
 | error e=>exact hx aS σ _ _ e s' I2 gI
 | ok fl=>
  cases fl with
  | ret u=>
   obtain⟨v,H',I3,rv,ev,q3⟩:=I2.after gI;subst ev;exact⟨rv,⟨V.ref<|s.heap.objs.size+1,H',I3,U,q3⟩⟩
  | next=>exact False.elim gI
  | brk=>exact False.elim gI
  | cont=>exact False.elim gI
def XO(M:Mk X.K C f)(F:w8 X.prog X.w X.K X.mg X.base CX k f fd ps sp)(hr:L9 (k+1) X.A)(hg:Gl X x)(hm:X.mg x=some (.ref C))(hb:M8 X.K fd ps ds)(hd:z9 fZ ds)(hx:Ey CX X E)
    (ha:PA X (e::es) t) (ik:(x == ("__debug__":Str))=false:=by decide) (he:starEach (e::es) X.env=(false,eval e X.env)::starEach es X.env:=by rfl) (fX:(backTo pos<|starEach es X.env).any (·.1)=false:=by rfl) :
    PE X (.Call (.Name x p) (e::es) [] pos) (e0f C sp fZ E t):=by
 intro aS s σ H Q I h;show wpAny_Call_Name_kw<|Fu I hg hm ?_ ik;show dy (h₀:=X.base) I.ok.mod.kin M.kp (K0 (ha pos aS s σ H _ I h) λus s1 ⟨vs,H1,I1,r,q⟩=>⟨I1.kIn,?_⟩) he fX;exact UV M F hr hb hd hx I1 r q
end
section
variable{X:Cx}{CX:Sj}{k:Nat}{f C:Addr}{fd:FuncData}{ps ks:w1f}{sp:Sp}{E:XK}{x m:Str}{p pos fA mP:Pos}{e o:Expr}{es:List Expr}{kws:List Keyword}{te ta:TE}{t tk:TA}{nm:Option Str}
structure KBinds(K:aa)(fd:FuncData)(ps ks:w1f)(g:w1g->List Value->List Value)(gV:List V->List V->List V):Prop where
 to:∀(s:Shared) (us ws:w1g),K.In s.heap->(g us ws).length=ps.length->BindsTo s fd ⟨us,ks.zip ws⟩ (ps.zip<|g us ws)
 rel:∀{vs:List V} {us:w1g} {zs:List V} {ws:w1g},z9 vs us->z9 zs ws->z9 (gV vs zs) (g us ws)
variable{g:w1g->List Value->List Value}{gV:List V->List V->List V}
end
structure g6(N P:w1f)(sc:Scope):Prop where
 kind:sc.kind=.function
 co:sc.isCoroutine=false
 gen:sc.isGenerator=false
 nd:N.Nodup
 pre:N.take P.length=P
 par:∀x∈P,sc.names.lookup x=some .local\/sc.names.lookup x=some .cell
 nofree:∀y∈sc.names,y.2≠.free
theorem Kt{kindOf:Str->Option NameKind}{x:Str}:∀{binds:List (Str × Value)} {m:w1d},(∀v,(x,v) ∉ binds)->bindL kindOf binds m x=m x
 | [],_,_=>rfl
 | (n,v)::r,m,h=>by
  unfold bindL;rw[Kt λw hw=>h w<|aA _ hw];split
  . have:x≠n:=by rintro rfl;exact h v ax
    simp[this]
  . rfl
theorem Kv{kindOf:Str->Option NameKind}{x:Str}:∀{binds:List (Str × Value)} {m:w1d},(∀v,(x,v) ∉ binds)->bindC kindOf binds m x=m x
 | [],_,_=>rfl
 | (n,v)::r,m,h=>by
  unfold bindC;rw[Kv λw hw=>h w<|aA _ hw];split
  . rfl
  . have:x≠n:=by rintro rfl;exact h v ax
    simp[this]
theorem Ku{kindOf:Str->Option NameKind}{x:Str}{v:Value}:∀{P:w1f} {vs:w1g} {i:Nat} {m:w1d},P.Nodup->P[i]? = some x->vs[i]? = some v->kindOf x=some .local->
    bindL kindOf (P.zip vs) m x=some v
 | [],_,_,_,_,h,_,_=>by simp at h
 | _::_,[],_,_,_,_,h,_=>by simp at h
 | p::P,w::vs,0,m,nd,h1,h2,hk=>by
  simp at h1 h2;subst h1;subst h2;show bindL kindOf ((p,w)::P.zip vs) m p=_;unfold bindL;rw[Kt λv hv=>(cG.mp nd).1 (List.of_mem_zip hv).1,if_pos hk];simp
 | p::P,w::vs,i+1,m,nd,h1,h2,hk=>by
  show bindL kindOf ((p,w)::P.zip vs) m x=_;unfold bindL;exact Ku (i:=i) (cG.mp nd).2 (by simpa using h1) (by simpa using h2) hk
theorem Kw{kindOf:Str->Option NameKind}{x:Str}{v:Value}:∀{P:w1f} {vs:w1g} {i:Nat} {m:w1d},P.Nodup->P[i]? = some x->vs[i]? = some v->kindOf x≠some .local->
    bindC kindOf (P.zip vs) m x=some v
 | [],_,_,_,_,h,_,_=>by simp at h
 | _::_,[],_,_,_,_,h,_=>by simp at h
 | p::P,w::vs,0,m,nd,h1,h2,hk=>by
  simp at h1 h2;subst h1;subst h2;show bindC kindOf ((p,w)::P.zip vs) m p=_;unfold bindC;rw[Kv λv hv=>(cG.mp nd).1 (List.of_mem_zip hv).1,if_neg hk];simp
 | p::P,w::vs,i+1,m,nd,h1,h2,hk=>by
  show bindC kindOf ((p,w)::P.zip vs) m x=_;unfold bindC;exact Kw (i:=i) (cG.mp nd).2 (by simpa using h1) (by simpa using h2) hk
def DB(N:w1f)(vs:List V):St:=vs.map some++List.replicate (N.length - vs.length) none
def Hq(CX:Sj)(P:Program)(w:World)(K:aa)(mg:w1d)(base:Heap)(N:w1f)(qual:Str)(scope:Scope)(f:Addr)(cd:Value)(A:Around)(outer:List Env)(s:Shared)(H:Hp)(E:XK):Cx where
 prog:=P
 w:=w
 K:=K
 mg:=mg
 base:=base
 A:=A.deeper (envOfC qual scope s.heap.objs.size f cd)
 N:=N
 s₀:=s
 H₀:=H
 env:=envOfC qual scope s.heap.objs.size f cd
 outer:=outer
 stack:=envOfC qual scope s.heap.objs.size f cd::outer
 ex:=[]
 calm:=true
 fn:=λ_=>true
 pn:=[]
 xe:=λe s'=>wpAny (model P w) (A.deeper<|envOfC qual scope s.heap.objs.size f cd) (leaving (envOfC qual scope s.heap.objs.size f cd) e) (λ_ iB=>CX outer H s E e iB) (λe' iB=>CX outer H s E e' iB) s'
def OD{sc:Scope}{n:Nat}{x:Str}(h:sc.names.lookup x=some .cell):∃c,(cellsFrom n sc.names []).lookup x=some c:=by have q:=PySem.W.cellsFrom_some sc.names n []<|.inl h;exact Option.isSome_iff_exists.mp q
def Tt{CX:Sj}{P:Program}{w:World}{K:aa}{mg:w1d}{base:Heap}{N ps:w1f}{qual:Str}{scope:Scope}{f:Addr}{cd:Value}{A:Around}{outer:List Env}{s s1:Shared}{H:Hp}{E:XK}{us:w1g}{vs:List V}
    (S:g6 N ps scope) (hd:A.handled=none) (e0:JW P w K mg base A outer s H) (hl:vs.length=ps.length) (r:z9 vs us)
    (x:InCallC s s.heap.objs.size (bindL (envOfC qual scope s.heap.objs.size f cd).kindOf (ps.zip us) λ_=>none) (cellsFrom (s.heap.objs.size+1) scope.names []) (bindC (envOfC qual scope s.heap.objs.size f cd).kindOf (ps.zip us) λ_=>none) s1) :
    r8 (Hq CX P w K mg base N qual scope f cd A outer s H E) [] (DB N vs) H s1:=by
 have fX:ps.length<=N.length:=by have:=congrArg List.length S.pre;rw[bx]at this;omega
 obtain⟨h1,tk,rfl,hk⟩:=x.done;have jr:∀b:Addr,b ∉ (Hq CX P w K mg base N qual scope f cd A outer s H E).ex:=λb z=>absurd (show b∈([]:List Addr)from z) (by simp);show⟨⟨e0.mod,S.kind,U,U,ae _,λy z c h1 h2=>?_,λy hy=>?_,λy c _ h=>?_,λ_=>hd,Around.frames_deeper e0.frames,.inr ⟨U,U⟩,λb z=>absurd z<|jr b,e0.bs,e0.bsz,λb _ _=>jr b,λb z=>absurd z<|jr b,e0.funs,e0.frf⟩,
  rfl,e0.bare,Un.kept hk,⟨_,x.toInCall.ns,λi y v h1 h2 h3=>?_⟩,λy c h=>⟨_,x.cell y c h⟩,e0.hok.fresh (ae _),λy c h=>?_,λp hp=>absurd (show p∈([]:w1b)from hp) (by simp),e0.hok.kept hk,?_⟩
 . exact name_of_addr x.apart (bg h1) (bg h2)
 . have hy:scope.names.lookup y=some .cell\/scope.names.lookup y=some .free:=hy;rcases hy with hy | hy
   . exact OD hy
   . exact absurd rfl (S.nofree _<|bg hy)
 . exact bI (x.above y c<|bg h)
 . have hi:i < vs.length:=by
    unfold DB at h2;by_cases hi:i < vs.length
    . exact hi
    . rw[aZ<|by simpa using hi]at h2;rw[dQ]at h2;split at h2 <;>cases h2
   have ha:vs[i]? = some v:=by
    unfold DB at h2;rw[aY (by simpa using hi),aE]at h2;cases e:vs[i]? with
    | none=>rw[e]at h2;cases h2
    | some a=>rw[e]at h2;cases h2;rfl
   obtain⟨u,hu,rv⟩:=r.get ha;have hp:ps[i]? = some y:=by rw[<- S.pre,List.getElem?_take_of_lt Z];exact h1
   have vB:ps.Nodup:=by rw[<- S.pre];exact S.nd.sublist (List.take_sublist _ _)
   show⟨u,rv,?_⟩;rcases S.par y (aL hp)with k | k
   . exact .inl ⟨k,Ku vB hp hu k⟩
   . obtain⟨c,e⟩:=OD (n:=s.heap.objs.size+1) k;show .inr ⟨.inl k,c,e,?_⟩;have q:=x.cell y c e;rw[Kw vB hp hu<|by show scope.names.lookup y≠_;rw[k];decide]at q;exact q
 . exact e0.hok.fresh (bI<|x.above y c<|bg h)
 . unfold DB;show _=N.length;rw[aq,ag,dz];omega
def Zc{CX:Sj}{P:Program}{w:World}{K:aa}{mg:w1d}{base:Heap}{k:Nat}{f:Addr}{name qual:Str}{params:Arguments}{body:List Stmt}{scope:Scope}{dV kV gg pm fE ct oc:Value}{an od:Option Addr}
    {iq:Array (Option Value)} {N ps:w1f} {sp:Sp} (lk:K.lookup f=some ⟨oc,od,.func<|PySem.W.fnOf name qual params body scope dV kV gg pm an fE ct,iq⟩) (gk:PySem.W.codeIn K fE qual=true) (S:g6 N ps scope)
    (len:∀vs H Q E,sp vs H Q E->vs.length=ps.length)
    (eZ:∀(A:Around) (outer:List Env) (s:Shared) (H:Hp) (vs:List V) (Q:VK) (E:XK),L9 k (A.deeper<|envOfC qual scope s.heap.objs.size f fE)->sp vs H Q E->
     ∃t,Mu (Hq CX P w K mg base N qual scope f fE A outer s H E) body t/\t { nx:=λ_ H'=>Q .non H',rt:=Q } (DB N vs) H) :
    w8 P w K mg base CX (k+1) f (PySem.W.fnOf name qual params body scope dV kV gg pm an fE ct) ps sp:=by
 show⟨len,λA outer s H args us vs Q E hr e0 hb r fM=>?_⟩;have hl:=len _ _ _ _ fM;have KX:K.In s.heap:=e0.mod.kin.keeps λb o e=>(e0.bs b o e).1;have kg:s.heap.NoLimit:=e0.mod.nolimit.keeps λb o e=>(e0.bs b o e).1;have nC:∀y∈ps.zip us,scope.names.lookup y.1=some .local\/(scope.names.lookup y.1=some .cell/\((cellsFrom (s.heap.objs.size+1) scope.names []).lookup y.1).isSome=true):=λ⟨n,v⟩ hy=>by
  rcases S.par n (List.of_mem_zip hy).1 with q | q
  . exact .inl q
  . exact .inr ⟨q,PySem.W.cellsFrom_some _ _ _<|.inl q⟩
 show codeAny_call_function hr.depth (KX _ _ lk) rfl S.co S.gen rfl (PySem.W.codeRec_of KX gk)<|hb _ _ _ _ ?_;show wpAny_newFunctionEnv_cells S.kind nC λenv he s1 x=>?_;subst he;show⟨kg.keeps x.toInCall.keep,codeAny_func ?_⟩;obtain⟨t,ht,hq⟩:=eZ A outer s H vs Q E (hr.deeper _) fM;have I:r8 (Hq CX P w K mg base N qual scope f fE A outer s H E) [] (DB N vs) H s1:=Tt S hr.hd e0 hl r x;show wpAny_mono (ht [] s1 (DB N vs) H _ I hq) (λfl s' hs=>?_) λe s' hs=>hs;have fin:∀{σ':St} {H':Hp} {v:V} {u:Value},r8 (Hq CX P w K mg base N qual scope f fE A outer s H E) [] σ' H' s'->E3 v u->Q v H'->CE outer P w H s Q u s':=
  λ{σ' H' v u} J rv q=>⟨v,H',J.os,J.bare,J.base,J.hok,rv,q⟩
 cases fl with
 | ret u=>
  obtain⟨v,σ',H',J,rv,q⟩:=hs;exact fin J rv q
 | next=>
  obtain⟨σ',H',J,q⟩:=hs;exact fin (v:=V.non) (u:=Value.none) J rfl q
 | brk=>
  obtain⟨_,_,_,q⟩:=hs;exact False.elim q
 | cont=>
  obtain⟨_,_,_,q⟩:=hs;exact False.elim q
section
variable{X:Cx}{x:Str}{p pos:Pos}{e:Expr}{es:List Expr}{t:TA}{id T:String}{r:List V->Hp->VK->Prop}
def tCB(r:List V->Hp->VK->Prop)(t:TA):TE:=λσ H Q=>t σ H λvs H1=>r vs H1 Q
def x9(hc:T3 X (.builtin id) r)(hg:Gl X x)(hm:X.mg x=none)(hv:bootBuiltins x=some (.builtin id))(ha:PA X (e::es) t)(hn:x≠"__name__":=by decide)(ik:(x == ("__debug__":Str))=false:=by decide)
    (he:starEach (e::es) X.env=(false,eval e X.env)::starEach es X.env:=by rfl) (fX:(backTo pos<|starEach es X.env).any (·.1)=false:=by rfl):PE X (.Call (.Name x p) (e::es) [] pos) (tCB r t):=by
 intro aS s σ H Q I h;show wpAny_Call_Name_kw<|AH I hg hm hv ?_ hn ik;exact PyProof.Rows.callWith_builtin1 (K0 (ha pos aS s σ H _ I h) λus s1 ⟨vs,H1,I1,r1,q1⟩=>hc aS s1 σ H1 vs us Q I1 r1 q1) he fX
def i3(hc:T3 X (.type T) r)(hg:Gl X x)(hm:X.mg x=none)(hv:bootBuiltins x=some (.type T))(ha:PA X (e::es) t)(hn:x≠"__name__":=by decide)(ik:(x == ("__debug__":Str))=false:=by decide)
    (he:starEach (e::es) X.env=(false,eval e X.env)::starEach es X.env:=by rfl) (fX:(backTo pos<|starEach es X.env).any (·.1)=false:=by rfl):PE X (.Call (.Name x p) (e::es) [] pos) (tCB r t):=by
 intro aS s σ H Q I h;show wpAny_Call_Name_kw<|AH I hg hm hv ?_ hn ik;exact cD (K0 (ha pos aS s σ H _ I h) λus s1 ⟨vs,H1,I1,r1,q1⟩=>hc aS s1 σ H1 vs us Q I1 r1 q1) he fX
end
end L2
namespace HT
open PySem PyProof.Rows
section
open PySem.SeqAt
open PySem.AutoSeq1 (wpAny_loadPart')
open PySem.MeetsSeq PySem.MeetsSeq2 PySem.MeetsSeq3
end
section
variable{prog:Program}{w:World}{A:Around}{E:w1c}{s:Shared}
def YF{t b:Addr}{vs ws:w1g}{Q:w1c}(ht:IsTup s.heap t vs.toArray)(hb:IsTup s.heap b ws.toArray)(hv:vs≠[])
    (h1:ws=[]->Q (.ref t) s) (h2:ws≠[]->Q (.ref s.heap.objs.size) { s with heap:=s.heap.push { cls:=.type "tuple",data:=.seq (vs++ws).toArray } })
    (ku:vs.length+ws.length<=sizeLine):wpAny (model prog w) A (binaryOp .Add (.ref t)<|.ref b) Q E s:=by
 obtain⟨⟨cls,dd,data,sl⟩,ho,hc,n,hd⟩:=id ht;obtain⟨⟨uJ,lV,data2,lr⟩,iX,kP,n2,kL⟩:=id hb;simp only at hc hd kP kL;subst hc hd kP kL;have e:vs.toArray++ws.toArray=(vs++ws).toArray:=by simp
 by_cases hw:ws=[]
 . exact concat_meets ⟨_,ho,U⟩ ⟨_,iX,U⟩ noFill_tuple_add seq_tuple_add dR dS (dU _ _)
    (tuple_addW1 t b vs.toArray ws.toArray n n2 dd lV sl lr (by simpa using hv)<|by simp[hw]) ⟨ho,iX,h1 hw⟩
 . show concat_meets ⟨_,ho,U⟩ ⟨_,iX,U⟩ noFill_tuple_add seq_tuple_add dR dS (dU _ _)
    (tuple_addW2 t b vs.toArray ws.toArray n n2 dd lV sl lr (by simpa using hv) (by simpa using hw)<|by rw[ay,ay];exact ku) ⟨ho,iX,?_⟩
   rw[e];exact h2 hw
def S5(n d:Nat):Option Int->Nat
 | none=>d
 | some v=>if v < 0 then(v+(n:Int)).toNat else min v.toNat n
def Nd(n d:Nat):S5 n d none=d:=rfl
def Rj(n d k:Nat):S5 n d (some (k:Int))=min k n:=by show(if(k:Int) < 0 then((k:Int)+(n:Int)).toNat else min (k:Int).toNat n)=min k n;rw[if_neg Z,Int.toNat_natCast]
def ZG(n d:Nat)(hd:d<=n)(o:Option Int):S5 n d o<=n:=by
 cases o with
 | none=>exact hd
 | some v=>
  show(if v < 0 then(v+(n:Int)).toNat else min v.toNat n)<=n;by_cases hv:v < 0
  . rw[if_pos hv];omega
  . rw[if_neg hv];exact Nat.min_le_right _ _
def RZ(v:Int)(n d:Nat):(if v < 0 then max (v+(n:Int)) 0 else min v (n:Int))=((S5 n d (some v):Nat):Int):=by
 show(if v < 0 then max (v+(n:Int)) 0 else min v (n:Int))=(((if v < 0 then(v+(n:Int)).toNat else min v.toNat n):Nat):Int);by_cases hv:v < 0
 . simp only[if_pos hv];omega
 . simp only[if_neg hv];omega
def QL(lo hi:Option Int)(n:Nat):Builtin.Slice.sliceAdjust lo hi 1 (n:Int)=(((S5 n 0 lo:Nat):Int),((S5 n n hi:Nat):Int)):=by
 have h1:¬((1:Int) < 0):=by omega
 unfold Builtin.Slice.sliceAdjust;simp only[h1,if_false];show Prod.ext ?_ ?_
 . cases lo with
   | none=>rfl
   | some v=>exact RZ v n 0
 . cases hi with
   | none=>rfl
   | some v=>exact RZ v n n
def Pz(i j:Nat):Builtin.Slice.slicePlaces (i:Int) (j:Int) 1=j - i:=by
 unfold Builtin.Slice.slicePlaces;have h1:(1:Int) > 0:=by omega
 simp only[h1,if_true,Int.ediv_one];split <;>omega
def HU{v:Value}{o:Option Int}{Q:Option Int->Shared->Prop}(p:IsPart v o)(h:Q o s):wpAny (model prog w) A (Builtin.Slice.slicePartIndex v) Q E s:=by
 cases p with
 | none=>exact slicePart_none h
 | int i t=>exact slicePart_int h
def AQ{sl:Addr}{vl vu:Value}{lo hi:Option Int}{n:Nat}{Q:Int × Int × Nat->Shared->Prop}(hs:s.heap.IsSliceOf sl vl vu .none)(pl:IsPart vl lo)(pu:IsPart vu hi)
    (h:Q (((S5 n 0 lo:Nat):Int),1,S5 n n hi - S5 n 0 lo) s):wpAny (model prog w) A (Builtin.Slice.sliceApplied (.ref sl)<|pure (n:Int)) Q E s:=by
 obtain⟨os,kB,lL,nK⟩:=id hs;unfold Builtin.Slice.sliceApplied Builtin.Slice.sliceFields;show wpAny_bind<|wpAny_bind<|wpAny_field kB nK (x:=vl) U<|wpAny_bind<|wpAny_field kB nK (x:=vu) U<|wpAny_bind<|wpAny_field kB nK (x:=.none) U<|wpAny_pure ?_;show wpAny_bind<|slicePart_none ?_;show wpAny _ _ (if((1:Int) == 0)=true then _ else _) _ _ s;rw[if_neg bD];show wpAny_bind<|HU pl<|wpAny_bind<|HU pu<|wpAny_bind<|wpAny_pure ?_;show wpAny _ _ (match Builtin.Slice.sliceAdjust lo hi 1 (n:Int)with | (lo,hi)=>pure (lo,(1:Int),Builtin.Slice.slicePlaces lo hi 1)) _ _ s;rw[QL lo hi n];show wpAny _ _ (pure (((S5 n 0 lo:Nat):Int),(1:Int),Builtin.Slice.slicePlaces ((S5 n 0 lo:Nat):Int) ((S5 n n hi:Nat):Int) 1)) _ _ s;rw[Pz];exact wpAny_pure h
def Vd(xs:Array Value)(i k:Nat):((List.range k).filterMap λ(m:Nat)=>xs[((i:Int)+(m:Int) * 1).toNat]?).toArray=((xs.toList.drop i).take k).toArray:=by
 have e:(λ(m:Nat)=>xs[((i:Int)+(m:Int) * 1).toNat]?)=λm=>xs[i+m]? := by
  funext m;have:((i:Int)+(m:Int) * 1).toNat=i+m:=by omega
  rw[this]
 rw[e];have:=pick_run xs i k;rw[List.filterMap_map]at this;have e2:((λx=>xs[x]?) ∘ λx=>i+x)=λm=>xs[i+m]? := rfl;rw[e2]at this;rw[this]
def Fx{t sl:Addr}{items:Array Value}{vl vu:Value}{lo hi:Option Int}{Q:w1c}(ht:IsTup s.heap t items)(hs:s.heap.IsSliceOf sl vl vu .none)(pl:IsPart vl lo)(pu:IsPart vu hi)
    (hw:¬(S5 items.size 0 lo=0/\S5 items.size items.size hi=items.size))
    (h:Q (.ref s.heap.objs.size) { s with heap:=s.heap.push { cls:=.type "tuple",data:=.seq ((items.toList.drop<|S5 items.size 0 lo).take<|S5 items.size items.size hi - S5 items.size 0 lo).toArray } })
    (ku:items.size<=sizeLine):wpAny (model prog w) A (getItem (.ref t)<|.ref sl) Q E s:=by
 have gW:sizeOk (.seq ((items.toList.drop<|S5 items.size 0 lo).take<|S5 items.size items.size hi - S5 items.size 0 lo).toArray):=by show((items.toList.drop<|S5 items.size 0 lo).take<|S5 items.size items.size hi - S5 items.size 0 lo).toArray.size<=sizeLine;rw[ay,bx,de,Array.length_toList];omega
 have hj:S5 items.size items.size hi<=items.size:=ZG _ _ (ae _) hi;obtain⟨os,kB,lL,nK⟩:=id hs;have iy:s.TypeIs (.ref sl) "slice":=⟨os,kB,lL⟩;unfold getItem
 try with_reducible show wpAny_holding ?_
 first | show wpAny_bind (wpAny_pure ?_) | skip
 show wpAny_bind<|wpAny_sequenceKey ht.typeIs bD ?_;show wpAny_bind (wpAny_callSpecial?_slot (name:=Str.ofString "__getitem__") ht.typeIs dA
  (wpAny_call_entry dA ht.typeIs entry_tuple_getitem ?_<|args_tuple_getitem _ _))
 show wpAny _ _ (Builtin.Tuple.tupleItemsOf (.ref t) >>= _) _ _ s;show wpAny_bind<|tupleItemsOf_ ht ?_;show wpAny_bind<|wpAny_typeOf iy ?_;rw[if_pos bD];show wpAny_bind<|AQ hs pl pu ?_;have hno:¬((((S5 items.size 0 lo:Nat):Int) == 0 && (1:Int) == 1 && (S5 items.size items.size hi - S5 items.size 0 lo) == items.size)=true):=by intro q;rw[Bool.and_eq_true,Bool.and_eq_true]at q;have q1:((S5 items.size 0 lo:Nat):Int)=0:=eq_of_beq q.1.1;have q2:S5 items.size items.size hi - S5 items.size 0 lo=items.size:=eq_of_beq q.2;exact hw ⟨Z,Z⟩
 show wpAny _ _ (if(((S5 items.size 0 lo:Nat):Int) == 0 && (1:Int) == 1 && (S5 items.size items.size hi - S5 items.size 0 lo) == items.size)=true then _ else _) _ _ s;rw[if_neg hno,Vd]
 first
  | exact wpAny_bind (m:=Builtin.Tuple.tupleExact _) (wpAny_newObj_type (wpAny_pure ⟨_,rfl,wpAny_pure h⟩) gW)
  | exact wpAny_bind (m:=Builtin.Tuple.tupleExact _) (wpAny_newObj_type (wpAny_bind<|wpAny_pure<|wpAny_pure ⟨_,rfl,wpAny_pure h⟩) gW)
  | exact wpAny_bind (wpAny_bind (m:=Builtin.Tuple.tupleExact _)<|wpAny_newObj_type (wpAny_pure<|wpAny_pure ⟨_,rfl,wpAny_pure h⟩) gW)
  | exact wpAny_bind (wpAny_bind (m:=Builtin.Tuple.tupleExact _)<|wpAny_newObj_type (wpAny_pure ⟨_,rfl,wpAny_pure h⟩) gW)
end
end HT
namespace L2
open PySem PySem.Spec PyProof.Rows
abbrev TO:=St->Hp->(Option Int->Hp->Prop)->Prop
def PO(X:Cx)(e:Option Expr)(t:TO):Prop:=
 ∀(aS:w1b) (s:Shared) (σ:St) (H:Hp) (Q:Option Int->Hp->Prop),r8 X aS σ H s->t σ H Q->
  wpAny (model X.prog X.w) X.A (evalPart e X.env) (λu s'=>∃o H',r8 X aS σ H' s'/\IsPart u o/\Q o H') X.xe s
def tNoPart:TO:=λ_ H Q=>Q none H
def e0c(t:TE):TO:=λσ H Q=>t σ H λx H1=>∃i,x=.int i/\Q (some i) H1
section
variable{X:Cx}{e:Expr}{te:TE}{lo hi:Option Expr}{tl th:TO}{pos p2:Pos}
def Dc:PO X none tNoPart:=by intro aS s σ H Q I h;rw[evalPart_none];exact wpAny_pure ⟨none,H,I,.none,h⟩
def Da(h:PE X e te):PO X (some e) (e0c te):=by intro aS s σ H Q I hw;rw[evalPart_some];show K0 (h aS s σ H _ I hw) λu s1 ⟨x,H1,I1,r1,q1⟩=>?_;obtain⟨i,rfl,q⟩:=q1;obtain⟨t,rfl⟩:=r1;exact⟨some i,H1,I1,.int i t,q⟩
def d0o(X:Cx)(r:V->Option Int->Option Int->Hp->VK->Prop):Prop:=
 ∀(aS:w1b) (s:Shared) (σ:St) (H:Hp) (x:V) (v vl vu:Value) (lo hi:Option Int) (sl:Addr) (Q:VK),r8 X aS σ H s->E3 x v->s.heap.IsSliceOf sl vl vu .none->IsPart vl lo->IsPart vu hi->r x lo hi H Q->
  ∃T id,typeLookup (.type T) "__getitem__"=pure (some<|.builtin id)/\s.TypeIs v T/\wpAny (model X.prog X.w) X.A (getItem v<|.ref sl) (EP X aS σ Q) X.xe s
def tSl(r:V->Option Int->Option Int->Hp->VK->Prop)(te:TE)(tl th:TO):TE:=λσ H Q=>te σ H λx H1=>tl σ H1 λl H2=>th σ H2 λu H3=>r x l u H3 Q
def AY{r:V->Option Int->Option Int->Hp->VK->Prop}(hr:d0o X r)(he:PE X e te)(hl:PO X lo tl)(hu:PO X hi th):PE X (.Subscript e (.Slice lo hi none p2) pos) (tSl r te tl th):=by
 intro aS s σ H Q I h;show Subscript_<|K0 (he aS s σ H _ I h) λv s1 ⟨x,H1,I1,r1,q1⟩=>?_;show wpAny_Slice<|K0 (hl aS s1 σ H1 _ I1 q1) λvl s2 ⟨l,H2,I2,pl,q2⟩=>K0 (hu aS s2 σ H2 _ I2 q2) λvu s3 ⟨u,H3,I3,pu,q3⟩=>?_;rw[evalPart_none];show wpAny_pure ?_;have I4:r8 X aS σ H3 { s3 with heap:=s3.heap.push { cls:=.type "slice",data:=.fields #[vl,vu,.none] } }:=I3.kept (t':=s3.toks) λb ob q=>ak _ q;obtain⟨T,id,hT,ht,hg⟩:=hr aS { s3 with heap:=s3.heap.push { cls:=.type "slice",data:=.fields #[vl,vu,.none] } } σ H3 x v vl vu l u s3.heap.objs.size Q I4 r1 (Heap.IsSliceOf.new ..) pl pu q3;show wpAny (model X.prog X.w) X.A (subscriptTail e (.Slice lo hi none p2) v<|.ref s3.heap.objs.size) (EP X aS σ Q) X.xe { s3 with heap:=s3.heap.push { cls:=.type "slice",data:=.fields #[vl,vu,.none] } };exact tail_any (ops:=[.ref s3.heap.objs.size,v]) ht hT hg (by with_unfolding_all rfl)
def BL(xs:List V)(lo hi:Option Int):List V:=(xs.drop<|HT.S5 xs.length 0 lo).take (HT.S5 xs.length xs.length hi - HT.S5 xs.length 0 lo)
def GT(xs:List V)(lo hi:Option Int):(BL xs lo hi).length<=xs.length:=by unfold BL;rw[bx,de];omega
def rSlT(K:aa):V->Option Int->Option Int->Hp->VK->Prop:=λx lo hi H Q=>∃a xs,x=.ref a/\o9 K H a xs/\
 ¬(HT.S5 xs.length 0 lo=0/\HT.S5 xs.length xs.length hi=xs.length)/\∀p,H p=none->Q (.ref p) (upd H p<|.tup<|BL xs lo hi)
def ZF:d0o X (rSlT X.K):=by
 intro aS s σ H x v vl vu lo hi sl Q I rx hs pl pu h;obtain⟨a,xs,rfl,hx,hw,q⟩:=h;cases rx;obtain⟨its,r,ht,hz⟩:=I.tuple hx;have ed:its.toArray.size=xs.length:=by rw[ay];exact r.length.symm
 show⟨"tuple",_,PyProof.Rows.slot_tuple_getitem.lookup,ht.typeIs,?_⟩;show HT.Fx ht hs pl pu (by rw[ed];exact hw) ?_ (by rw[ed];exact hz);rw[ed];show⟨.ref s.heap.objs.size,_,I.laid (t':=s.toks) (o:=.tup<|BL xs lo hi) (λb ob q=>ak _ q) (ae _) ?_,U,q _<|I.hok.fresh<|ae _⟩;exact⟨af (GT xs lo hi) hz,_,(r.drop<|HT.S5 xs.length 0 lo).take<|HT.S5 xs.length xs.length hi - HT.S5 xs.length 0 lo,IsTup.new _ _,λ_=>⟨_,aF _ U,U⟩⟩
def g0e(K:aa):R2:=λx y H Q=>∃a b xs ys,x=.ref a/\y=.ref b/\o9 K H a xs/\o9 K H b ys/\xs≠[]/\xs.length+ys.length<=sizeLine/\
 (ys=[]->Q (.ref a) H)/\(ys≠[]->∀p,H p=none->Q (.ref p) (upd H p<|.tup<|xs++ys))
def z9.nil_iff{xs:List V}{us:w1g}(r:z9 xs us):us=[]↔xs=[]:=by
 cases r with
 | nil=>simp
 | cons _ _=>simp
def XW:FI X (binaryOp .Add) (g0e X.K):=by intro aS s σ H x y v u Q I rx ry h;obtain⟨a,b,xs,ys,rfl,rfl,ha,hb,hx,hz,q1,q2⟩:=h;cases rx;cases ry;obtain⟨its,r1,p1,_⟩:=I.tuple ha;obtain⟨gb,r2,p2,_⟩:=I.tuple hb;show HT.YF p1 p2 (λz=>hx<|r1.nil_iff.mp z) (λz=>⟨.ref a,H,I,U,q1<|r2.nil_iff.mp z⟩) (λz=>?_) (by rw[<- r1.length,<- r2.length];exact hz);show⟨.ref s.heap.objs.size,_,I.laid (t':=s.toks) (o:=.tup<|xs++ys) (λb ob q=>ak _ q) (ae _) ?_,U,q2 (λw=>z<|r2.nil_iff.mpr w) _<|I.hok.fresh<|ae _⟩;exact⟨by rw[aq];exact hz,_,r1.append r2,IsTup.new _ _,λ_=>⟨_,aF _ U,U⟩⟩
end
def Yw(n:Nat)(i:Int):Option Nat:=if 0<=i then(if i < n then some i.toNat else none)else if -(n:Int)<=i then some (i+n).toNat else none
def OM{α:Type}(xs:List α)(i:Int):Option α:=(Yw xs.length i).bind λj=>xs[j]?
def RD{n:Nat}{i:Int}{j:Nat}(h:Yw n i=some j):seqIndex? i n=some j/\j < n/\-(n:Int)<=i/\i < n:=by
 unfold Yw at h;by_cases h0:0<=i
 . rw[if_pos h0]at h;by_cases h1:i < n
   . rw[if_pos h1]at h;have e:i.toNat=j:=Option.some.inj h;exact⟨by rw[seqIndex_of h0 h1,e],Z,Z,h1⟩
   . rw[if_neg h1]at h;cases h
 . rw[if_neg h0]at h;by_cases h1:-(n:Int)<=i
   . rw[if_pos h1]at h;have e:(i+n).toNat=j:=Option.some.inj h;exact⟨by rw[seqIndex_neg Z h1,e],Z,h1,Z⟩
   . rw[if_neg h1]at h;cases h
def Mp{α:Type}{xs:List α}{i:Int}{v:α}(h:OM xs i=some v):∃j,seqIndex? i xs.length=some j/\xs[j]? = some v/\j < xs.length/\-(xs.length:Int)<=i/\i < xs.length:=by
 unfold OM at h;cases e:Yw xs.length i with
 | none=>rw[e]at h;cases h
 | some j=>
  rw[e]at h;obtain⟨h1,h2,h3,h4⟩:=RD e;exact⟨j,h1,h,h2,h3,h4⟩
def E7{α:Type}{xs:List α}{j:Nat}{v:α}(h:xs[j]? = some v):OM xs (j:Int)=some v:=by
 have hj:j < xs.length:=(aJ.mp h).1;have e:Yw xs.length (j:Int)=some j:=by unfold Yw;rw[if_pos Z,if_pos Z];simp
 unfold OM;rw[e];exact h
def Sg(b:Expr):Prop:=∀o i,subscripted b false o i=operate [o,i] (getItem o i)
def Kx(X:Cx)(r:R2):Prop:=
 ∀(value slice:Expr) (aS:w1b) (s:Shared) (σ:St) (H:Hp) (x y:V) (v u:Value) (Q:VK),r8 X aS σ H s->E3 x v->E3 y u->r x y H Q->
  subscripted slice false v u=operate [v,u] (getItem v u)->wpAny (model X.prog X.w) X.A (subscriptTail value slice v u) (EP X aS σ Q) X.xe s
def MtR(X:Cx)(id:String)(r:V->List V->Hp->VK->Prop):Prop:=
 ∀(aS:w1b) (s:Shared) (σ:St) (H:Hp) (x:V) (xs:List V) (v:Value) (us:w1g) (Q:VK),r8 X aS σ H s->E3 x v->z9 xs us->r x xs H Q->
  wpAny (model X.prog X.w) X.A (call (.builtin id) (v::us)) (EP X aS σ Q) X.xe s
section
variable{X:Cx}{a b:Expr}{ta tb:TE}{pos:Pos}
def Kx.or{r r':R2}(h:Kx X r)(h':Kx X r'):Kx X (λx y H Q=>r x y H Q\/r' x y H Q):=by
 intro value slice aS s σ H x y v u Q I rx ry q hs;rcases q with q | q
 . exact h value slice aS s σ H x y v u Q I rx ry q hs
 . exact h' value slice aS s σ H x y v u Q I rx ry q hs
def g0g{r:R2}(hr:Kx X r)(ha:PE X a ta)(hb:PE X b tb)(hs:Sg b):PE X (.Subscript a b pos) (e0d r ta tb):=by intro aS s σ H Q I h;exact Subscript_ (c0z ha hb I h λv u s2 x y H2 I2 rx ry q=>hr a b aS s2 σ H2 x y v u Q I2 rx ry q<|hs _ _)
def XH(K:aa):R2:=λx y H Q=>∃p xs i v,x=.ref p/\y=.int i/\p9 K H p xs/\OM xs i=some v/\Q v H
def Jy(K:aa):R2:=λx y H Q=>∃p xs i v,x=.ref p/\y=.int i/\o9 K H p xs/\OM xs i=some v/\Q v H
def rIxS:R2:=λx y H Q=>∃z i c,x=.str z/\y=.int i/\z.length<=sizeLine/\OM z.cps.toList i=some c/\Q (.str ⟨#[c]⟩) H
def y8:Kx X (XH X.K):=by
 intro value slice aS s σ H x y v u Q I rx ry h hs;obtain⟨p,xs,i,z,rfl,rfl,hq,he,q⟩:=h;cases rx;obtain⟨t,rfl⟩:=ry;obtain⟨its,r,pl,hz⟩:=I.list hq;obtain⟨j,h1,h2,h3,h4,h5⟩:=Mp he;obtain⟨w,ew,jI⟩:=r.get h2;have hl:=r.length;have hn:=Gu;have fin:EP X aS σ Q w s:=⟨z,H,I,jI,q⟩;by_cases h0:0<=i
 . have hj:i.toNat=j:=by rw[seqIndex_of h0 h5]at h1;exact Option.some.inj h1
   exact item_listR pl.isList h0 Z (by rw[hj];simpa using ew) fin hs
 . have hj:(i+(its.toArray.size:Int)).toNat=j:=by rw[seqIndex_neg Z h4]at h1;rw[ay,<- hl];exact Option.some.inj h1
   exact subscriptTail_builtinR (x:=w) pl.isList.typeIs slot_list_getitem.lookup
    (wpAny_getItem_list_neg (Q:=λr s'=>r=w/\EP X aS σ Q r s') pl.isList Z (by rw[ay] <;>omega) Z (by rw[hj];simpa using ew) ⟨U,fin⟩) hs
def j7:Kx X (Jy X.K):=by
 intro value slice aS s σ H x y v u Q I rx ry h hs;obtain⟨p,xs,i,z,rfl,rfl,hq,he,q⟩:=h;cases rx;obtain⟨t,rfl⟩:=ry;obtain⟨its,r,pl,hz⟩:=I.tuple hq;obtain⟨j,h1,h2,h3,h4,h5⟩:=Mp he;obtain⟨w,ew,jI⟩:=r.get h2;have hl:=r.length;have hn:=Gu;have fin:EP X aS σ Q w s:=⟨z,H,I,jI,q⟩;exact subscriptTail_builtinR (x:=w) pl.typeIs slot_tuple_getitem.lookup
  (getItem_tuple (j:=j) (Q:=λr s'=>r=w/\EP X aS σ Q r s') pl Z Z (by rw[ay,<- hl];exact h1) (by simpa using ew) ⟨U,fin⟩) hs
def VW:Kx X rIxS:=by
 intro value slice aS s σ H x y v u Q I rx ry h hs;obtain⟨z,i,c,rfl,rfl,hz,he,q⟩:=h;obtain⟨t,rfl⟩:=rx;obtain⟨t',rfl⟩:=ry;obtain⟨j,h1,h2,h3,h4,h5⟩:=Mp he;have hl:z.cps.toList.length=z.length:=by simp[Str.length]
 rw[hl]at h1 h4 h5;have hn:=Gu;exact tail_any (typeIs_str s z t) slot_str_getitem.lookup (getItem_str (c:=c) (by
  have e1:decide (i < -(2 ^ 63:Int))=false:=decide_eq_false Z;have e2:decide (i ≥ 2 ^ 63)=false:=decide_eq_false Z;rw[e1,e2,Bool.or_false]) (by rw[h1];simpa using h2) ⟨.str ⟨#[c]⟩,H,I.tok _,⟨_,U⟩,q⟩) hs
def rIx(K:aa):R2:=λx y H Q=>XH K x y H Q\/Jy K x y H Q\/rIxS x y H Q
def c0d:Kx X (rIx X.K):=y8.or (j7.or VW)
def PY(its:w1g)(n j:Nat)(u:Value):Obj.mapSeq (·.setIfInBounds j u) { cls:=.type "list",data:=.seq its.toArray n }={ cls:=.type "list",data:=.seq (its.set j u).toArray n }:=by simp[Obj.mapSeq]
theorem r8.lst{aS:w1b}{σ:St}{H:Hp}{s:Shared}{p:Addr}{xs:List V}(I:r8 X aS σ H s)(h:H p=some (.lst xs)) :
    ∃(its:w1g) (n:Nat),z9 xs its/\s.heap.get? p=some { cls:=.type "list",data:=.seq its.toArray n }/\xs.length<=sizeLine:=by
 obtain⟨z,its,n,r,e⟩:=I.hok p _ h;exact⟨its,n,r,e,z⟩
def r8.lstUpd{aS:w1b}{σ:St}{H:Hp}{s:Shared}{p:Addr}{xs ys:List V}{its its':w1g}{n n':Nat}{f:Obj->Obj}(I:r8 X aS σ H s)(h:H p=some (.lst xs))
    (ho:s.heap.get? p=some { cls:=.type "list",data:=.seq its.toArray n }) (hf:f { cls:=.type "list",data:=.seq its.toArray n }={ cls:=.type "list",data:=.seq its'.toArray n' }) (r:z9 ys its') (hz:ys.length<=sizeLine) (t:Nat) :
    r8 X aS σ (upd H p<|.lst ys) { s with heap:=s.heap.update p f,toks:=t }:=by
 have e:(s.heap.update p f).get? p=some { cls:=.type "list",data:=.seq its'.toArray n' }:=by rw[Heap.get?_update_self f ho (by rw[hf] <;>rfl),hf]
 show I.write (x:=p) (e:=p) (by rw[h];trivial) (.inl U) (λb u hb q=>(dW _ _<|Ne.symm hb).trans q) ⟨_,e⟩ ?_;exact⟨hz,its',n',r,e⟩
def rSetL:V->V->V->Hp->(Hp->Prop)->Prop:=λo i v H Q=>∃p xs k j,o=.ref p/\i=.int k/\H p=some (.lst xs)/\Yw xs.length k=some j/\Q (upd H p<|.lst<|xs.set j v)
def V8:q0g X rSetL:=by
 intro aS s σ H o i v ov iv u Q I ro ri rv h;obtain⟨p,xs,k,j,rfl,rfl,hp,hj,q⟩:=h;cases ro;obtain⟨t,rfl⟩:=ri;obtain⟨its,n,r,ho,hz⟩:=I.lst hp;obtain⟨h1,h2,h3,h4⟩:=RD hj;have hl:=r.length;have hn:=Gu;have I':r8 X aS σ (upd H p<|.lst<|xs.set j v) { s with heap:=s.heap.update p (Obj.mapSeq (·.setIfInBounds j u)) }:=
  I.lstUpd hp ho (PY its n j u) (r.set rv j) (by rw[bK];exact hz) s.toks
 by_cases h0:0<=k
 . have hk:k.toNat=j:=by rw[seqIndex_of h0 h4]at h1;exact Option.some.inj h1
   exact PySem.W.ki_setAt ho h0 Z (by rw[ay,<- hl];exact h4) (by rw[hk];exact⟨_,I',q⟩)
 . have hk:(k+(its.toArray.size:Int)).toNat=j:=by rw[seqIndex_neg Z h3]at h1;rw[ay,<- hl];exact Option.some.inj h1
   exact PySem.W.ki_setBack ho Z (by rw[ay,<- hl];exact h3) Z (by rw[hk];exact⟨_,I',q⟩)
def KW(lo hi:Option Int)(n:Nat):(sliceBounds lo hi none n).1=((HT.S5 n 0 lo:Nat):Int)/\(sliceBounds lo hi none n).2.1=((HT.S5 n n hi:Nat):Int)/\(sliceBounds lo hi none n).2.2=1:=by
 show⟨?_,?_,U⟩
 . cases lo with
   | none=>simp[sliceBounds,HT.S5]
   | some i=>
    simp only[sliceBounds,HT.S5,Option.getD_none,show(1:Int) > 0 by decide,if_true];by_cases h:i < 0
    . simp only[h,if_true] <;>omega
    . simp only[h,if_false] <;>omega
 . cases hi with
   | none=>simp[sliceBounds,HT.S5]
   | some i=>
    simp only[sliceBounds,HT.S5,Option.getD_none,show(1:Int) > 0 by decide,if_true];by_cases h:i < 0
    . simp only[h,if_true] <;>omega
    . simp only[h,if_false] <;>omega
def Jo(its:w1g)(lo hi:Option Int):slicePick its.toArray lo hi none=((its.drop<|HT.S5 its.length 0 lo).take<|HT.S5 its.length its.length hi - HT.S5 its.length 0 lo).toArray:=by obtain⟨h1,h2,h3⟩:=KW lo hi its.toArray.size;unfold slicePick;rw[h1,h2,h3];simp only[sliceRange_one,pick_run,ay] <;>rfl
def rSlL(K:aa):V->Option Int->Option Int->Hp->VK->Prop:=λx lo hi H Q=>∃a xs,x=.ref a/\p9 K H a xs/\∀p,H p=none->Q (.ref p) (upd H p<|.lst<|BL xs lo hi)
def Rg:d0o X (rSlL X.K):=by intro aS s σ H x v vl vu lo hi sl Q I rx hs pl pu h;obtain⟨a,xs,rfl,hx,q⟩:=h;cases rx;obtain⟨its,r,ht,hz⟩:=I.list hx;have ed:=r.length;show⟨"list",_,slot_list_getitem.lookup,ht.isList.typeIs,?_⟩;show wpAny_getItem_list_slice ht.isList hs pl pu .none (by simp) ?_ (by rw[ay] <;>omega);rw[Jo,<- ed];show⟨.ref s.heap.objs.size,_,I.laid (t':=s.toks) (o:=.lst<|BL xs lo hi) (λb ob q=>ak _ q) (ae _) ?_,U,q _<|I.hok.fresh<|ae _⟩;exact⟨af (GT xs lo hi) hz,_,0,(r.drop<|HT.S5 xs.length 0 lo).take<|HT.S5 xs.length xs.length hi - HT.S5 xs.length 0 lo,aF _ U⟩
def R9:T3 X (.type "list") (λxs H Q=>∃p ys,xs=[.ref p]/\(p9 X.K H p ys\/o9 X.K H p ys)/\∀l,H l=none->Q (.ref l) (upd H l<|.lst ys)):=by
 intro aS s σ H xs us Q I r h;obtain⟨p,ys,rfl,hq,q⟩:=h;obtain⟨u,rfl,rx⟩:=JY r;cases rx;have fin:∀(its:w1g),z9 ys its->ys.length<=sizeLine->∀(h':Heap) (c':Nat),(∀b o',s.heap.get? b=some o'->h'.get? b=some o')->
     h'.get? s.heap.objs.size=some { cls:=.type "list",dict:=none,data:=.seq its.toArray c',slots:=#[] }->EP X aS σ Q (.ref s.heap.objs.size) { s with heap:=h' }:=λits r' hz h' c' kp e=>
  ⟨.ref s.heap.objs.size,_,I.laid (t':=s.toks) kp (ae _) (show M6 X.prog X.w _ h' _ (.lst ys)from⟨hz,its,c',r',e⟩),U,q _<|I.hok.fresh<|ae _⟩
 rcases hq with hq | hq
 . obtain⟨its,r',pl,hz⟩:=I.list hq;have ed:=r'.length;obtain⟨o,ho,hc,n,hd⟩:=pl.isList;exact call_list_seq p (.inl U) ho hc hd (λh' c' kp e=>fin its r' hz h' c' kp e) (by simp only[ay] <;>omega)
 . obtain⟨its,r',pl,hz⟩:=I.tuple hq;have ed:=r'.length;obtain⟨o,ho,hc,n,hd⟩:=pl;exact call_list_seq p (.inr U) ho hc hd (λh' c' kp e=>fin its r' hz h' c' kp e) (by simp only[ay] <;>omega)
def c8:T3 X (.type "tuple") (λxs H Q=>∃p ys,xs=[.ref p]/\((p9 X.K H p ys/\∀l,H l=none->Q (.ref l) (upd H l<|.tup ys))\/(o9 X.K H p ys/\Q (.ref p) H))):=by
 intro aS s σ H xs us Q I r h;obtain⟨p,ys,rfl,h⟩:=h;obtain⟨u,rfl,rx⟩:=JY r;cases rx;rcases h with ⟨hq,q⟩ | ⟨hq,q⟩
 . obtain⟨its,r',pl,hz⟩:=I.list hq;have ed:=r'.length;show call_tuple_list pl.isList (λh' kp=>?_) (by simp only[ay] <;>omega);have I1:r8 X aS σ H { s with heap:=h' }:=I.kept (t':=s.toks) kp;have I2:r8 X aS σ (upd H h'.objs.size<|.tup ys) { s with heap:=h'.push { cls:=.type "tuple",data:=.seq its.toArray } }:=
    I1.laid (t':=s.toks) (λb o e=>ak _ e) (ae _) (show M6 X.prog X.w _ _ _ (.tup ys)from⟨hz,its,r',IsTup.new _ _,λ_=>⟨_,aF _ U,U⟩⟩)
   exact⟨.ref h'.objs.size,_,I2,U,q _<|I1.hok.fresh<|ae _⟩
 . obtain⟨its,r',pl,hz⟩:=I.tuple hq;exact call_tuple_same pl ⟨.ref p,H,I,U,q⟩
def tyV(K:aa)(T:String)(x:V)(H:Hp):Prop:=match x with
 | .str _=>T="str"
 | .int _=>T="int"
 | .ref p=>(T="list"/\∃xs,p9 K H p xs)\/(T="tuple"/\∃o,K.lookup p=some o/\o.cls=.type "tuple"/\o.dict=none)\/
     (T="dict"/\((∃fg,H p=some (.dK fg))\/∃fg,H p=some (.dT fg)))\/(T="set"/\∃S n,H p=some (.set S n))
 | _=>False
def Zn{aS:w1b}{σ:St}{H:Hp}{s:Shared}{T:String}{x:V}{v:Value}(I:r8 X aS σ H s)(r:E3 x v)(ty:tyV X.K T x H) :
    s.TypeIs v T/\∀a,v=.ref a->∃ob,s.heap.get? a=some ob/\ob.dict=none:=by
 cases x with
 | str z=>
  obtain⟨t,rfl⟩:=r;cases (show T="str" from ty);exact⟨typeIs_str s z t,λ_ e=>nomatch e⟩
 | int i=>
  obtain⟨t,rfl⟩:=r;cases (show T="int" from ty);exact⟨typeIs_int s i t,λ_ e=>nomatch e⟩
 | ref p=>
  cases r;rcases ty with ⟨rfl,xs,hq⟩ | ⟨rfl,o,hk,hc,hd⟩ | ⟨rfl,hk⟩ | ⟨rfl,S,n,hk⟩
  . obtain⟨its,_,pl,_⟩:=I.list hq;show⟨pl.isList.typeIs,λa e=>?_⟩;cases e;obtain⟨o,n,e,c,hd,_⟩:=pl;exact⟨o,e,hd⟩
  . show⟨⟨o,I.kIn p o hk,hc⟩,λa e=>?_⟩;cases e;exact⟨o,I.kIn _ o hk,hd⟩
  . have z:∃o,s.heap.get? p=some o/\o.ExactDict:=by
     rcases hk with ⟨fg,hk⟩ | ⟨fg,hk⟩
     . obtain⟨_,_,_,_,o,_,_,e,ex,_⟩:=I.hok p _ hk;exact⟨o,e,ex⟩
     . obtain⟨_,_,_,_,o,_,_,e,ex,_⟩:=I.hok p _ hk;exact⟨o,e,ex⟩
    obtain⟨o,e,ex⟩:=z;show⟨⟨o,e,ex.1⟩,λa e2=>?_⟩;cases e2;exact⟨o,e,ex.2.1⟩
  . obtain⟨o,_,_,_,e,ex,_⟩:=I.hok p _ hk;show⟨⟨o,e,ex.1⟩,λa e2=>?_⟩;cases e2;exact⟨o,e,ex.2.1⟩
 | _=>exact False.elim ty
def tBM(K:aa)(T:String)(r:V->List V->Hp->VK->Prop)(to:TE)(t:TA):TE:=λσ H Q=>to σ H λx H1=>tyV K T x H1/\t σ H1 λxs H2=>r x xs H2 Q
variable{o e:Expr}{es:List Expr}{to:TE}{t:TA}{name:Str}{fA gy:Pos}{T id:String}{r:V->List V->Hp->VK->Prop}
def W2(pa:PlainAttrs T)(slot:Slot T name id)(hty:typeOf (.builtin id)=pure (.type "method_descriptor"))(hm:MtR X id r)(ho:PE X o to)(ha:PA X (e::es) t)
    (nM:attributeBase o name X.env (eval o X.env)=eval o X.env:=by rfl)
    (tJ:((backTo gy<|starEach (e::es) X.env).all (λx=>!x.1) && (backToKw gy<|keywordEach [] X.env).all (λx=>x.1.isSome)
     && decide ((e::es).length+([]:List Keyword).length+(if([]:List Keyword).isEmpty then 0 else 1) < 30))=true:=by rfl)
    (ny:(fA.endLine == gy.line)=true:=by rfl) (hs:starEach (e::es) X.env=(false,eval e X.env)::starEach es X.env:=by rfl) (kA:(backTo gy<|starEach es X.env).any (·.1)=false:=by rfl) :
    PE X (.Call (.Attribute o name fA) (e::es) [] gy) (tBM X.K T r to t):=by
 intro aS s σ H Q I h;show wpAny_Call_method_late nM tJ ny rfl<|K0 (ho aS s σ H _ I h) λv s1 ⟨x,H1,I1,r1,ty,q1⟩=>?_;obtain⟨h1,h2⟩:=Zn I1 r1 ty;show⟨T,id,pa,slot,hty,h1,h2,?_⟩;have hA:=ha gy aS s1 σ H1 _ I1 q1;rw[hs]at hA ⊢;show Calls.callWith_builtin (by show(false || (backTo gy<|starEach es X.env).any (·.1))=false;rw[kA] <;>rfl)<|Calls.evalArgs_plain ?_;exact K0 hA λus s2 ⟨vs,H2,I2,r2,q2⟩=>hm aS s2 σ H2 x vs v us Q I2 r1 r2 q2
end
def MtM(X:Cx)(id:String)(r:V->List V->Hp->VK->Prop):Prop:=
 ∀(aS:w1b) (s:Shared) (σ:St) (H:Hp) (x:V) (xs:List V) (v:Value) (us:w1g) (Q:VK),r8 X aS σ H s->E3 x v->z9 xs us->r x xs H Q->
  wpAny (model X.prog X.w) X.A (call (.builtin id) (v::us)) (EP X aS σ Q) X.xe s
def z9.one:∀{x:V} {us:w1g},z9 [x] us->∃u,us=[u]/\E3 x u
 | _,_,.cons r .nil=>⟨_,U,r⟩
theorem z9.eraseIdx:∀{xs:List V} {us:w1g} (i:Nat),z9 xs us->z9 (xs.eraseIdx i) (us.eraseIdx i)
 | _,_,_,.nil=>.nil
 | _,_,0,.cons _ t=>t
 | _,_,i+1,.cons r t=>.cons r (z9.eraseIdx i t)
theorem Ko{α:Type}:∀(l:List α) (i:Nat),(l.eraseIdx i).length<=l.length
 | [],_=>ae _
 | _::_,0=>Nat.le_succ _
 | _::r,i+1=>Nat.succ_le_succ (Ko r i)
section
variable{X:Cx}{aS:w1b}{σ:St}{H:Hp}{s:Shared}{l b:Addr}{xs ys zs:List V}
def r8.lset{its its':w1g}{n:Nat}{f:Array Value->Array Value}{t':Nat}(I:r8 X aS σ H s)(hH:H l=some (.lst xs))
    (e:s.heap.get? l=some { cls:=.type "list",data:=.seq its.toArray n }) (hf:f its.toArray=its'.toArray) (hv:z9 ys its') (hz:ys.length<=sizeLine) :
    r8 X aS σ (upd H l<|.lst ys) { s with heap:=s.heap.update l<|Obj.mapSeq f,toks:=t' }:=by
 have q:=PySem.IsL.update e f;rw[hf]at q;show I.write (x:=l) (e:=l) (by rw[hH];exact trivial) (.inl U) (λb' u hb hu=>(dW s.heap (Obj.mapSeq f)<|Ne.symm hb).trans hu) ⟨_,q⟩ ?_;exact⟨hz,its',_,hv,q⟩
def r8.lnew{its:w1g}{t':Nat}(I:r8 X aS σ H s)(hv:z9 ys its)(hz:ys.length<=sizeLine) :
    r8 X aS σ (upd H s.heap.objs.size<|.lst ys) { s with heap:=s.heap.push { cls:=.type "list",data:=.seq its.toArray },toks:=t' }:=
 I.laid (λ_ _ q=>ak _ q) (ae _) ⟨hz,its,0,hv,aF _ U⟩
theorem r8.fresh(I:r8 X aS σ H s):H s.heap.objs.size=none:=I.hok.fresh (ae _)
def r8.lstM(I:r8 X aS σ H s)(hH:H l=some (.lst xs)):xs.length<=sizeLine/\∃(its:w1g) (n:Nat),z9 xs its/\xs.length=its.length/\s.heap.get? l=some { cls:=.type "list",data:=.seq its.toArray n }:=by obtain⟨z,its,n,r,e⟩:=I.hok l _ hH;exact⟨z,its,n,r,r.length,e⟩
def Vu{n:Nat}(h:n<=sizeLine):Builtin.List.listTooLong n=false:=by unfold Builtin.List.listTooLong;exact decide_eq_false Z
end
section
variable{X:Cx}
def rAppend:V->List V->Hp->VK->Prop:=λx vs H Q=>∃l xs y,x=.ref l/\vs=[y]/\H l=some (.lst xs)/\xs.length < sizeLine/\Q .non (upd H l<|.lst<|xs++[y])
def J3:MtM X "list.append" rAppend:=by intro aS s σ H x vs v us Q I rx rv h;obtain⟨l,xs,y,rfl,rfl,hH,hz,q⟩:=h;cases rx;obtain⟨u,rfl,ru⟩:=rv.one;obtain⟨z,its,n,r,hl,e⟩:=I.lstM hH;show call_meets F.slot_list_append ⟨_,e,U⟩ F.entry_list_append (F.args_list_append_2 _ _) (PySem.list_append l its.toArray n u<|by rw[ay];omega) ⟨e,?_⟩;show⟨.non,_,I.lset (its':=its++[u]) hH e (by simp) (r.append<|.cons ru .nil) ?_,U,q⟩;rw[aq,List.length_singleton];omega
def rExtend:V->List V->Hp->VK->Prop:=λx vs H Q=>∃l b xs zs,x=.ref l/\vs=[.ref b]/\H l=some (.lst xs)/\H b=some (.lst zs)/\xs.length+zs.length<=sizeLine/\Q .non (upd H l<|.lst<|xs++zs)
def Km:MtM X "list.extend" rExtend:=by
 intro aS s σ H x vs v us Q I rx rv h;obtain⟨l,b,xs,zs,rfl,rfl,hH,hB,hz,q⟩:=h;cases rx;obtain⟨u,rfl,ru⟩:=rv.one;cases ru;obtain⟨z,its,n,r,hl,e⟩:=I.lstM hH;obtain⟨z2,gb,n2,r2,kH,e2⟩:=I.lstM hB;have ku:its.toArray.size+gb.toArray.size<=sizeLine:=by rw[ay,ay];omega
 have nu:¬(!its.toArray.isEmpty && Builtin.List.listTooLong (its.toArray.size+gb.toArray.size))=true:=by rw[Vu ku,Bool.and_false];exact aI
 show call_meets F.slot_list_extend ⟨_,e,U⟩ F.entry_list_extend (F.args_list_extend_2 _ _)
  (AutoSeq1.list_extend_list_list_0 l its.toArray n b gb.toArray n2 nu (by rw[ay];omega) Z) ⟨e,e2,?_⟩
 show⟨.non,_,I.lset (its':=its++gb) hH e (by simp) (r.append r2) ?_,U,q⟩;rw[aq];omega
def rPopAt:V->List V->Hp->VK->Prop:=λx vs H Q=>∃l xs i k y,x=.ref l/\vs=[.int i]/\H l=some (.lst xs)/\-(2 ^ 63)<=i/\i < 2 ^ 63/\seqIndex? i xs.length=some k/\xs[k]? = some y/\Q y (upd H l<|.lst<|xs.eraseIdx k)
def VF:MtM X "list.pop" rPopAt:=by
 intro aS s σ H x vs v us Q I rx rv h;obtain⟨l,xs,i,k,y,rfl,rfl,hH,h1,h2,hk,hy,q⟩:=h;cases rx;obtain⟨u,rfl,ru⟩:=rv.one;obtain⟨t,rfl⟩:=ru;obtain⟨z,its,n,r,hl,e⟩:=I.lstM hH;obtain⟨w,hw,jI⟩:=r.get hy;show call_meets F.slot_list_pop ⟨_,e,U⟩ F.entry_list_pop (F.args_list_pop_2 _ _)
  (MeetsSeq.list_pop_at l its.toArray n i t k w (fitsIndex_both h1 h2) (by rw[ay,<- hl];exact hk) (by rw[<- Array.getElem?_toList];exact hw)<|by rw[ay];omega) ⟨e,?_⟩
 show⟨y,_,I.lset (its':=its.eraseIdx k) hH e ?_ (r.eraseIdx k) ?_,jI,q⟩
 . show its.toArray.eraseIdxIfInBounds k=(its.eraseIdx k).toArray;rw[List.eraseIdxIfInBounds_toArray]
 . have:=Ko xs k;omega
def rCat:R2:=λx y H Q=>∃l b xs zs,x=.ref l/\y=.ref b/\H l=some (.lst xs)/\H b=some (.lst zs)/\xs.length+zs.length<=sizeLine/\∀p,H p=none->Q (.ref p) (upd H p<|.lst<|xs++zs)
def Lm:FI X (binaryOp .Add) rCat:=by
 intro aS s σ H x y v u Q I rx ry h;obtain⟨l,b,xs,zs,rfl,rfl,hH,hB,hz,q⟩:=h;cases rx;cases ry;obtain⟨z,its,n,r,hl,e⟩:=I.lstM hH;obtain⟨z2,gb,n2,r2,kH,e2⟩:=I.lstM hB;show PySem.P.add_list e e2 ?_ (by rw[ay,ay];omega);have ea:its.toArray++gb.toArray=(its++gb).toArray:=by simp
 rw[ea];exact⟨.ref _,_,I.lnew (t':=s.toks) (r.append r2) (by rw[aq];omega),U,q _ I.fresh⟩
end
section
variable{prog:Program}{w:World}{A:Around}{E:w1c}{s:Shared}
set_option maxRecDepth 100000 in
end
section
variable{X:Cx}
end
end L2
namespace Att
open PySem PySem.W PySem.Calls PyProof.Rows
def Hn{P:Params}{h:Heap}:∀(ns:List Int) (vs:w1g),WellAll P h vs (ns.map WData.int)->IntsAre vs ns:=by
 intro ns
 induction ns with
 | nil=>
  intro vs w;rw[List.map_nil]at w;cases w;exact .nil
 | cons n ns ih=>
  intro vs w;rw[aX]at w;cases w with
  | cons a b=>
   cases a;exact .cons _ _ (ih _ b)
def SI{l:OpenLaw}{n:Nat}(hn:l.most=some n){P:Params}{h:Heap}{args:List WData}{vals:w1g}
    (jy:l.row.toRowW.claim.pre args=true) (kr:WellAll P h vals args) :
    ∃a vs ns,vals=[Value.ref a]/\args=[WData.list<|ns.map WData.int]/\h.get? a=some { cls:=.type "list",data:=.seq vs.toArray }/\IntsAre vs ns/\ns.length<=n:=by
 have hsh:WShape.hasAll [] args [.list .int]=true:=(pre_splitW jy).1;have hc:l.pre.holds [] { args:=args }=true:=(pre_splitW jy).2;obtain⟨d,r,rfl,h1,h2⟩:=hasAllW_cons hsh;obtain rfl:=hasAllW_nil h2;obtain⟨xs,rfl,h3⟩:=hasW_list h1;obtain⟨ns,rfl⟩:=items_int h3;have ed:ns.length<=n:=by
  unfold OpenLaw.pre at hc;have h4:(WTm.not<|.lt (.lit<|.int (n:Int))<|.len<|.arg 0).holds [] { args:=[.list<|ns.map .int] }=true:=by have h4:=(holds_andW hc).1;rw[hn]at h4;exact h4
  have h5:=condW_of h4<|w_not<|w_lt w_lit<|w_len_list<|w_arg U;rw[ag]at h5;show Nat.le_of_not_lt λq=>?_;have q':(n:Int) < ((ns.length:Nat):Int):=by omega
  first
   | (rw[decide_eq_true q']at h5;exact absurd h5 bD)
   | (simp at h5;omega)
 cases kr with
 | cons w1 w2=>
  cases w2;cases w1 with
  | list ho hall=>exact za ⟨ns,U,U,ho,Hn ns _ hall,ed⟩
def SS(l:OpenLaw)(args:List WData):l.row.toRowW.claim.post args (.bool true) args=true:=
 postW_of (r:=l.row.toRowW) (X:=(true == true))
  (show WShape.has [] (.bool true) .bool=true by first | rfl | decide | simp[WShape.has,WShape.arms,WShape.armsAll])
  (show(WTm.eq .res<|.lit<|.bool true).value [] { args:=args,res:=some<|.bool true,after:=args }=some (.bool<|true == true)from w_eq_bool (w_res U) w_lit) rfl
def OF{l:OpenLaw}{n:Nat}{q:Program}{loose:w1f}{XP:w1d->Heap->Prop}{YP:World->Heap->Prop}{d:DefRec}
    (hn:l.most=some n) (tN:d.params.defaults=[])
    (call:∀(w:World) (s₀ s₁:Shared) (mg mb:w1d) (fa:Addr) (o:Obj) (pm cd gg:Value) (a:Addr) (vs:w1g) (ns:List Int),
     Ground q loose [] XP w s₀ mg mb s₁.heap->YP w s₁.heap->
     s₁.heap.get? fa=some o->o.data=.func (docDef d.name d.params d.body d.scope pm cd gg)->s₁.heap.CodeRec cd d.name->mg d.name=some (.ref fa)->
     s₁.heap.get? a=some { cls:=.type "list",data:=.seq vs.toArray }->IntsAre vs ns->ns.length<=n->s₁.gens=#[]->
     codeAny (model l.prog w) callerA (.call (.ref fa) ⟨[.ref a],[]⟩) (λr s'=>r=.ok (.ret<|.bool true)/\OldK s₁.heap s'.heap/\s'.os=s₁.os/\AllBare s'.gens) s₁) :
    WalkO q loose XP YP l.row.toRowW d [] (λf vs=>PySem.call f vs):=by
 intro w s₀ s₁ mg mb G Y fa o pm cd gg dV kV ho hd gk hD ni hg args vals as jy hlay hrd kr hlo;obtain rfl:dV=.none:=Dflts.none hD tN;obtain rfl:kV=.none:=Dflts.noKw hD;obtain⟨a,vs,ns,rfl,rfl,kC,iO,ed⟩:=SI hn jy kr;show enter_call<|codeAny_mono (call w s₀ s₁ mg mb fa o pm cd gg a vs ns G Y ho (fd_plain hd) gk ni kC iO ed hg) λr s' hq=>?_;obtain⟨rfl,h2,h3,h4⟩:=hq;exact⟨.inl ⟨.bool true,.bool true,[],U,λ_=>rfl,.bool true,SS l _,λ_=>⟨List.Pairwise.nil,λ_ hm=>(nomatch hm)⟩⟩,h2,h3,h4⟩
section
variable{prog:Program}{w:World}{A:Around}{E:w1c}{s:Shared}{K:Frag}
end
end Att
namespace L2
open PySem PySem.Spec PyProof.Rows
theorem JX:∀{vs:w1g} {ns:List Int},IntsAre vs ns->z9 (ns.map V.int) vs
 | _,_,.nil=>.nil
 | _,_,.cons n t h=>.cons ⟨t,U⟩ (JX h)
abbrev KOf{K:aa}{h:Heap}(_:K.In h):aa:=K
def y7(s:Stmt)(j:Nat):Stmt:=match s with
 | .ClassDef _ _ _ body _ _ _ _ _ _ _=>body.getD j (.Pass ⟨0,0,0,0⟩)
 | _=>.Pass ⟨0,0,0,0⟩
def F5(s:Stmt):Arguments:=match s with
 | .FunctionDef _ a _ _ _ _ _ _ _ _=>a
 | _=>{ posonlyargs:=[],args:=[],vararg:=none,kwonlyargs:=[],kw_defaults:=[],kwarg:=none,defaults:=[] }
def D8(s:Stmt):List Stmt:=match s with
 | .FunctionDef _ _ b _ _ _ _ _ _ _=>b
 | _=>[]
def a8(s:Stmt):Scope:=match s with
 | .FunctionDef _ _ _ _ _ _ sc _ _ _=>sc
 | _=>{ kind:=.function,names:=[],isGenerator:=false,isCoroutine:=false }
abbrev F6:Sj:=λ_ _ _ _ _ _=>False
abbrev E0:XK:=λ_ _ _=>False
def C3{X:Cx}:Ey F6 X E0:=λ_ _ _ _ _ _ _ h=>h.elim
structure Mw(K:aa)(x qual:Str)(st:Stmt)(f:Addr)(fd:FuncData):Prop where
 ex:∃(oc:Value) (od:Option Addr) (kV gg pm:Value) (an:Option Addr) (fE ct:Value) (iq:Array (Option Value)),
  fd=PySem.W.fnOf x qual (F5 st) (D8 st) (a8 st) .none kV gg pm an fE ct/\K.lookup f=some ⟨oc,od,.func fd,iq⟩/\PySem.W.codeIn K fE qual=true
 kp:PySem.W.keepIn K (.ref f)=true
section
variable{P:Program}{w:World}{K:aa}{mg:w1d}{base:Heap}
def Mw.ok{x qual:Str}{st:Stmt}{f:Addr}{fd:FuncData}{N ps:w1f}{k:Nat}{sp:Sp}(F:Mw K x qual st f fd)(S:g6 N ps (a8 st))(len:∀vs H Q E,sp vs H Q E->vs.length=ps.length)
    (eZ:∀(fE:Value) (A:Around) (outer:List Env) (s:Shared) (H:Hp) (vs:List V) (Q:VK) (E:XK),L9 k (A.deeper<|envOfC qual (a8 st) s.heap.objs.size f fE)->sp vs H Q E->
     ∃t,Mu (Hq F6 P w K mg base N qual (a8 st) f fE A outer s H E).nox (D8 st) t/\t { nx:=λ_ H'=>Q .non H',rt:=Q } (DB N vs) H):w8 P w K mg base F6 (k+1) f fd ps sp:=by
 obtain⟨oc,od,kV,gg,pm,an,fE,ct,iq,rfl,lk,gk⟩:=F.ex;show Zc lk gk S len λA outer s H vs Q E hr fM=>?_;obtain⟨t,h,q⟩:=eZ fE A outer s H vs Q E hr fM;exact⟨t,h.nox,q⟩
def Mw.okA{x qual:Str}{st:Stmt}{f:Addr}{fd:FuncData}{N ps:w1f}{k:Nat}{sp:Sp}(F:Mw K x qual st f fd)(S:g6 N ps (a8 st))
    (eZ:∀(fE:Value) (A:Around) (outer:List Env) (s:Shared) (H:Hp) (vs:List V) (Q:VK) (E:XK),L9 k (A.deeper<|envOfC qual (a8 st) s.heap.objs.size f fE)->sp vs H Q E->
     ∃t,Mu (Hq F6 P w K mg base N qual (a8 st) f fE A outer s H E).nox (D8 st) t/\t { nx:=λ_ H'=>Q .non H',rt:=Q } (DB N vs) H)(len:∀vs H Q E,sp vs H Q E->vs.length=ps.length:=by intro _ _ _ _ h;repeat first | (obtain⟨rfl,_⟩:=h;rfl) | obtain⟨_,h⟩:=h):w8 P w K mg base F6 (k+1) f fd ps sp:=F.ok S len eZ
def Mw.binds{x qual:Str}{st:Stmt}{f:Addr}{fd:FuncData}{ps:w1f}(F:Mw K x qual st f fd)
    (h:∀(kV gg pm:Value) (an:Option Addr) (fE ct:Value) (us:w1g),us.length=ps.length->bindArgs (PySem.W.fnOf x qual (F5 st) (D8 st) (a8 st) .none kV gg pm an fE ct) ⟨us,[]⟩=pure (ps.zip us)):M8 K fd ps []:=by
 obtain⟨oc,od,kV,gg,pm,an,fE,ct,iq,rfl,lk,gk⟩:=F.ex;exact .all (h kV gg pm an fE ct)
def Wj{x qual:Str}{st:Stmt}{f:Addr}{oc:Value}{od an:Option Addr}{iq:Array (Option Value)}{kV gg pm fE ct:Value}(l:K.lookup f=some ⟨oc,od,.func<|PySem.W.fnOf x qual (F5 st) (D8 st) (a8 st) .none kV gg pm an fE ct,iq⟩)
    (c:PySem.W.codeIn K fE qual=true) (k:PySem.W.keepIn K (.ref f)=true):Mw K x qual st f (PySem.W.fnOf x qual (F5 st) (D8 st) (a8 st) .none kV gg pm an fE ct):=⟨⟨oc,od,kV,gg,pm,an,fE,ct,iq,U,l,c⟩,k⟩
end
section
variable{X:Cx}
def O(i:Nat){x:Str}{pos:Pos}(hN:X.N[i]? = some x:=by rfl)(hv:Vis X.env.scope x:=by first | exact Or.inl rfl | exact Or.inr (Or.inl rfl) | exact Or.inr<|Or.inr rfl)(hd:(x == ("__debug__":Str))=false:=by decide)
    (gk:(x == ("__classdict__":Str))=false:=by decide):PE X (.Name x pos) (Zu i):=Vg hN hv hd gk
end
def Em{A B:Prop}(h:B):if false=true then A else B:=by rw[if_neg aI];exact h
def Om{A B:Prop}(h:A):if true=true then A else B:=by rw[if_pos rfl];exact h
def h9(H H':Hp):Prop:=∀b o,H b=some o->H' b=some o
def h9.refl(H:Hp):h9 H H:=λ_ _ h=>h
def h9.trans{H H1 H2:Hp}(a:h9 H H1)(b:h9 H1 H2):h9 H H2:=λc o h=>b c o (a c o h)
def h9.free{H H':Hp}(e:h9 H H'){l:Addr}(h:H' l=Option.none):H l=Option.none:=by
 cases q:H l with
 | none=>rfl
 | some o=>
  rw[e l o q]at h;cases h
def h9.seq{K:aa}{H H':Hp}{a:Addr}{xs:List V}(e:h9 H H')(h:p9 K H a xs):p9 K H' a xs:=by
 rcases h with (h | ⟨o,h⟩) | h
 . exact .inl (.inl<|e _ _ h)
 . exact .inl (.inr ⟨o,e _ _ h⟩)
 . exact .inr h
end L2
set_option maxHeartbeats 4000000
namespace L2
open PySem PySem.Spec PyProof.Rows PySem.SeqAt
section
variable{X:Cx}
def Zk(_ j:Int):Prop:=j≠0/\j.natAbs.log2 < 9000
def Fd:FI X (binaryOp .FloorDiv) (rI Zk λi j=>.int<|i.fdiv j):=g0k λ_ _ _ _ _ _ _ hc q=>floordiv_int hc.1 q (Or.inl<|PyProof.noPylong_of_log2 hc.2)
def rIsi(K:aa):List V->Hp->VK->Prop:=λxs H Q=>∃x n t b,xs=[x,.ty n]/\Ew K H x t/\PySem.W.kitOne K t (.type n)=some b/\Q (.bl b) H
def IU:T3 X (.builtin "isinstance") (rIsi X.K):=by
 intro aS s σ H xs us Q I r h;obtain⟨x,n,t,b,rfl,ty,e,q⟩:=h;cases r with
 | cons rx r1=>
  cases r1 with
  | cons ry r2=>
   cases r2;cases ry;exact Ts I rx ty e λtk=>⟨.bl b,H,I.tok _,U,q⟩
structure MkO(K:aa)(C:Addr):Prop where
 makes:PySem.W.makesIn K C=true
 init:PySem.W.findIn K (.ref C) "__init__"=some (some<|.builtin "object.__init__")
 kp:PySem.W.keepIn K (.ref C)=true
def Zw(C:Addr):TE:=λ_ H Q=>∀x dx,H x=none->H dx=none->dx≠x->Q (.ref x) (upd (upd H dx<|.own x) x<|.ins C dx [])
def Vk{C:Addr}{x:Str}{p pos:Pos}(M:MkO X.K C)(hg:Gl X x)(hm:X.mg x=some (.ref C))(ik:(x == ("__debug__":Str))=false:=by decide):PE X (.Call (.Name x p) [] [] pos) (Zw C):=by
 intro aS s σ H Q I h;show wpAny_Call_Name_kw<|Fu I hg hm ?_ ik;show PySem.W.callWith_K0 I.kIn M.kp ?_;have hq:=h (s.heap.objs.size+1) s.heap.objs.size (I.hok.fresh<|Nat.le_succ _) (I.hok.fresh<|ae _)<|aC<|cE _;have I2:=r8.made (C:=C) I;have Y:=PySem.W.makes_of (M:=model X.prog X.w) I.kIn M.makes;show wpAny_call<|Th I.kIn M.makes M.init (λself=>PySem.W.Looks.of_pure<|PySem.W.oi_bind self) ?_;have t1:PySem.W.Looks (model X.prog X.w) ((s.heap.push PySem.W.emptyDict).push<|PySem.W.instObj C s.heap.objs.size) (typeOf<|.ref<|s.heap.objs.size+1) (.ref C):=
  (PySem.W.Looks.ld (o:=PySem.W.instObj C s.heap.objs.size) (by have e:((s.heap.push PySem.W.emptyDict).push<|PySem.W.instObj C s.heap.objs.size).get? (s.heap.push PySem.W.emptyDict).objs.size=some (PySem.W.instObj C s.heap.objs.size):=aF _ rfl;rw[bu]at e;exact e)).andThen .now
 have t2:PySem.W.Looks (model X.prog X.w) ((s.heap.push PySem.W.emptyDict).push<|PySem.W.instObj C s.heap.objs.size) (isInstance (.ref<|s.heap.objs.size+1)<|.type "object") true:=
  t1.andThen (Y.top.keeps λb o e=>ak _<|ak _ e)
 show PySem.codeAny_call_builtin PySem.W.oi_plain PySem.W.entry_oi<|@PySem.W.check_slot (model X.prog X.w) _ _ _ "object.__init__" "object" "__init__" (.ref<|s.heap.objs.size+1) [] [] _ PySem.W.oi_kind PySem.W.oi_split t2 (PySem.W.oi_args<|.ref<|s.heap.objs.size+1) ?_;rw[PySem.W.oi_run];exact wpAny_pure (And.intro rfl ⟨V.ref<|s.heap.objs.size+1,_,I2,rfl,hq⟩)
end
mutual
inductive Is(K:aa)(H:Hp):V->PyData->Prop
 | non:Is K H .non .none
 | bl (b:Bool):Is K H (.bl b) (.bool b)
 | int (i:Int):Is K H (.int i) (.int i)
 | str (x:Str):Is K H (.str x) (.str x)
 | tup {a:Addr} {xs:List V} {ds:List PyData}:o9 K H a xs->W6 K H xs ds->Is K H (.ref a) (.tuple ds)
 | lst {a:Addr} {xs:List V} {ds:List PyData}:p9 K H a xs->W6 K H xs ds->Is K H (.ref a) (.list ds)
inductive W6(K:aa)(H:Hp):List V->List PyData->Prop
 | nil:W6 K H [] []
 | cons {v:V} {vs:List V} {d:PyData} {ds:List PyData}:Is K H v d->W6 K H vs ds->W6 K H (v::vs) (d::ds)
end
def h9.tup{K:aa}{H H':Hp}{a:Addr}{xs:List V}(e:h9 H H')(h:o9 K H a xs):o9 K H' a xs:=by
 rcases h with (h | ⟨o,h⟩) | h
 . exact .inl (.inl<|e _ _ h)
 . exact .inl (.inr ⟨o,e _ _ h⟩)
 . exact .inr h
mutual
theorem Is.same{K:aa}{H H':Hp}(e:h9 H H'):∀{v:V} {d:PyData},Is K H v d->Is K H' v d
 | _,_,.non=>.non
 | _,_,.bl b=>.bl b
 | _,_,.int i=>.int i
 | _,_,.str x=>.str x
 | _,_,.tup h r=>.tup (e.tup h) (W6.same e r)
 | _,_,.lst h r=>.lst (e.seq h) (W6.same e r)
theorem W6.same{K:aa}{H H':Hp}(e:h9 H H'):∀{v:List V} {d:List PyData},W6 K H v d->W6 K H' v d
 | _,_,.nil=>.nil
 | _,_,.cons a r=>.cons (Is.same e a) (W6.same e r)
end
section
variable{X:Cx}{aS:w1b}{σ:St}{H:Hp}{s:Shared}
mutual
theorem Is.reads(I:r8 X aS σ H s):∀{v:V} {d:PyData} {u:Value},Is X.K H v d->E3 v u->∃as,Reads s.heap u d as
 | _,_,_,.non,r=>by cases r;exact⟨_,.none⟩
 | _,_,_,.bl b,r=>by cases r;exact⟨_,.bool b⟩
 | _,_,_,.int i,r=>by obtain⟨t,rfl⟩:=r;exact⟨_,.int i t⟩
 | _,_,_,.str x,r=>by obtain⟨t,rfl⟩:=r;exact⟨_,.str x t⟩
 | _,_,_,.tup h a,r=>by
  cases r;obtain⟨its,rv,⟨o,ho,hc,n,hd⟩,_⟩:=I.tuple h;obtain⟨as,hr⟩:=W6.reads I a rv;exact⟨as,.tuple ho hc hd<|by simpa using hr⟩
 | _,_,_,.lst h a,r=>by
  cases r;obtain⟨its,rv,⟨o,n,ho,hc,_,hd⟩,_⟩:=I.list h;obtain⟨as,hr⟩:=W6.reads I a rv;exact⟨_,.list ho hc hd<|by simpa using hr⟩
theorem W6.reads(I:r8 X aS σ H s):∀{vs:List V} {ds:List PyData} {us:w1g},W6 X.K H vs ds->z9 vs us->∃as,ReadsAll s.heap us ds as
 | _,_,_,.nil,.nil=>⟨_,.nil⟩
 | _,_,_,.cons a r,.cons q t=>by
  obtain⟨as,h1⟩:=Is.reads I a q;obtain⟨bs,h2⟩:=W6.reads I r t;exact⟨_,.cons h1 h2⟩
end
def rEqD(K:aa):R2:=λx y H Q=>∃d d',Is K H x d/\Is K H y d'/\shaped d=true/\shaped d'=true/\noMix d d'=true/\Q (.bl<|PySem.Spec.same d d') H
def UY(K:aa):R2:=λx y H Q=>∃d d',Is K H x d/\Is K H y d'/\shaped d=true/\shaped d'=true/\noMix d d'=true/\Q (.bl<|!PySem.Spec.same d d') H
def PH(hu:X.A.units+64 < cLine):FI X (compareOp .Eq) (rEqD X.K):=by intro aS s σ H x y v u Q I rx ry h;obtain⟨d,d',hx,hy,sx,sy,nm,q⟩:=h;obtain⟨as,ra⟩:=hx.reads I rx;obtain⟨bs,rb⟩:=hy.reads I ry;exact eq_dataH_same ra rb sx sy hu nm ⟨.bl _,H,I,U,q⟩
def Gk(hu:X.A.units+64 < cLine):FI X (compareOp .NotEq) (UY X.K):=by intro aS s σ H x y v u Q I rx ry h;obtain⟨d,d',hx,hy,sx,sy,nm,q⟩:=h;obtain⟨as,ra⟩:=hx.reads I rx;obtain⟨bs,rb⟩:=hy.reads I ry;exact ne_dataH_same ra rb sx sy hu nm ⟨.bl _,H,I,U,q⟩
end
def Dx{i j:Int}{A B:Prop}(h1:i=j->A)(h2:¬i=j->B):if decide (V.int i=V.int j)=true then A else B:=by
 by_cases h:i=j
 . rw[if_pos<|decide_eq_true<|congrArg V.int h];exact h1 h
 . rw[if_neg<|by simpa using h];exact h2 h
def VX{i j:Int}{A B:Prop}(h1:¬i=j->A)(h2:i=j->B):if(!decide (V.int i=V.int j))=true then A else B:=by
 by_cases h:i=j
 . rw[if_neg<|by simpa using h];exact h2 h
 . rw[if_pos<|by simpa using h];exact h1 h
def Dw{p A B:Prop} [Decidable p](h1:p->A)(h2:¬p->B):if decide p=true then A else B:=by
 by_cases h:p
 . rw[if_pos<|decide_eq_true h];exact h1 h
 . rw[if_neg<|by simpa using h];exact h2 h
def AI{c:Bool}{A B:Prop}(e:c=true)(h:A):if c=true then A else B:=by rw[if_pos e];exact h
def BE{c:Bool}{A B:Prop}(e:c=false)(h:B):if c=true then A else B:=by rw[if_neg<|by rw[e];decide];exact h
def c7{H:Hp}{p:Addr}{o:HO}(h:H p=none):h9 H (upd H p o):=λb u e=>by
 rw[l9<|l8 e h];exact e
end L2
namespace Mine
@[irreducible] def dv(a b:Int):Int:=(Int.gcd a b:Int)
def Kr(a b:Int):0<=dv a b:=by unfold dv;exact Int.natCast_nonneg _
def RQ(a b:Int):dv b (a.fmod b)=dv a b:=by
 unfold dv;have e:a.fmod b=a - a.fdiv b * b:=by rw[Int.fmod_def,aQ]
 rw[e,Int.gcd_sub_mul_right_right,Int.gcd_comm]
def Mf(a:Int):dv a 0=(a.natAbs:Int):=by unfold dv;rw[Int.gcd_zero_right]
def c0r(a b:Int):dv (a.natAbs:Int) (b.natAbs:Int)=dv a b:=by unfold dv Int.gcd;simp
def Ot(a b:Int)(h:b≠0):(a.fmod b).natAbs < b.natAbs:=by
 rcases Int.lt_trichotomy b 0 with hb | hb | hb
 . have e:a.fmod b = -((-a).fmod<|-b):=by simp[Int.neg_fmod_neg]
   have h1:=bN (-a) (show 0 < -b by omega);have h2:=bO (-a) (show 0 < -b by omega);omega
 . exact absurd hb h
 . have h1:=bN a hb;have h2:=bO a hb;omega
def c0t(h:dv g r=dv a b)(hr:0 < r):0<=r/\0<=g.fmod r/\dv r (g.fmod r)=dv a b:=
 ⟨Z,bN g hr,by rw[RQ,h]⟩
def d_less{g r:Int}(hr:0 < r):(g.fmod r).toNat < r.toNat:=by have h1:=bN g hr;have h2:=bO g hr;omega
def p0r(h:dv g r=dv a b)(g0:0<=g)(r0:0<=r)(hr:¬0 < r):g=dv a b:=by
 have e:r=0:=by omega
 rw[<- h,e,Mf];omega
def b0t(h:dv x y=dv a b):dv y (x.fmod y)=dv a b:=by rw[RQ,h]
def p0d(h:dv x y=dv a b)(hy:y=0):(x.natAbs:Int)=dv a b:=by rw[<- h,hy,Mf]
def RP(a b:Int):∃q,a=dv a b * q:=by obtain⟨q,hq⟩:=Int.gcd_dvd_left a b;exact⟨q,by unfold dv;exact hq⟩
def Oy(a b:Int):∃q,b=dv a b * q:=by obtain⟨q,hq⟩:=Int.gcd_dvd_right a b;exact⟨q,by unfold dv;exact hq⟩
def QC(h:dv a b=0):a=0/\b=0:=by obtain⟨q,hq⟩:=RP a b;obtain⟨r,hr⟩:=Oy a b;rw[h]at hq hr;exact⟨Z,Z⟩
def IQ(h:b≠0):0 < dv a b:=by
 have:=Kr a b;rcases(by omega:dv a b=0\/0 < dv a b)with e | e
 . exact absurd (QC e).2 h
 . exact e
def p0q(a b:Int)(h:b≠0):dv a b<=(b.natAbs:Int):=by
 have:Int.gcd a b<=b.natAbs:=by unfold Int.gcd;exact Nat.gcd_le_right _ Z
 unfold dv;omega
def Ou{g q:Int}(hg:g≠0):(g * q).fdiv g=q:=Int.mul_fdiv_cancel_left q hg
@[irreducible] def sg(a b:Int):Int:=if b < 0 then -(dv a b)else dv a b
@[irreducible] def tp(a b:Int):Int:=a.fdiv (sg a b)
@[irreducible] def bt(a b:Int):Int:=b.fdiv (sg a b)
def UK(h:¬b < 0):sg a b=dv a b:=by unfold sg;rw[if_neg h]
def UL(h:b < 0):sg a b = -(dv a b):=by unfold sg;rw[if_pos h]
def Rh(h:b≠0):sg a b≠0:=by have:=IQ (a:=a) h;unfold sg;split <;>omega
def OY{a b:Int}(h:b≠0):sg a b * tp a b=a:=by
 obtain⟨q,hq⟩:=RP a b;have hs:=Rh (a:=a) h;have:∃k,a=sg a b * k:=by
  unfold sg;split
  . exact⟨-q,by rw[Int.neg_mul_neg];exact hq⟩
  . exact⟨q,hq⟩
 obtain⟨k,hk⟩:=this;have e:tp a b=k:=by
  unfold tp
  conv=>lhs;lhs;rw[hk]
  exact Ou hs
 rw[e];exact hk.symm
def Mm{a b:Int}(h:b≠0):sg a b * bt a b=b:=by
 obtain⟨q,hq⟩:=Oy a b;have hs:=Rh (a:=a) h;have:∃k,b=sg a b * k:=by
  unfold sg;split
  . exact⟨-q,by rw[Int.neg_mul_neg];exact hq⟩
  . exact⟨q,hq⟩
 obtain⟨k,hk⟩:=this;have e:bt a b=k:=by
  unfold bt
  conv=>lhs;lhs;rw[hk]
  exact Ou hs
 rw[e];exact hk.symm
def Eu(h:b≠0):0 < bt a b:=by
 have e:=Mm (a:=a) h;have g:=IQ (a:=a) h;rcases(by omega:0 < bt a b\/bt a b<=0)with p | p
 . exact p
 . exfalso;by_cases hb:b < 0
   . rw[UL hb,cQ]at e;have:=Int.mul_nonpos_of_nonneg_of_nonpos (Int.le_of_lt g) p;omega
   . rw[UK hb]at e;have:=Int.mul_nonpos_of_nonneg_of_nonpos (Int.le_of_lt g) p;omega
def RU(h:b≠0):tp a b * b=a * bt a b:=by
 have e1:=OY (a:=a) h;have e2:=Mm (a:=a) h
 calc tp a b * b=tp a b * (sg a b * bt a b):=by rw[e2]
  _=(sg a b * tp a b) * bt a b:=by rw[aQ (sg a b)<|tp a b,aH]
  _=a * bt a b:=by rw[e1]
def Td(a b:Int):(sg a b).natAbs=Int.gcd a b:=by unfold sg dv;split <;>omega
def Tw(e1:s * t=a)(e2:s * u=b):Int.gcd a b=s.natAbs * Int.gcd t u:=by rw[<- e1,<- e2,Int.gcd_mul_left]
def o0z(h:b≠0):dv (tp a b) (bt a b)=1:=by
 have e:=Tw (OY (a:=a) h)<|Mm (a:=a) h;rw[Td]at e;have p:=IQ (a:=a) h;have q:0 < Int.gcd a b:=by unfold dv at p;omega
 have:Int.gcd a b * Int.gcd (tp a b) (bt a b)=Int.gcd a b * 1:=by rw[<- e,Nat.mul_one]
 have:=Nat.eq_of_mul_eq_mul_left q this;unfold dv;rw[this];rfl
def QD(hb:0 < b)(hd:0 < d)(h1:dv a b=1)(h2:dv c d=1)(e:a * d=c * b):a=c/\b=d:=by
 have g1:Nat.Coprime b.natAbs a.natAbs:=by
  have:Int.gcd a b=1:=by unfold dv at h1;omega
  unfold Int.gcd at this;exact Nat.Coprime.symm this
 have g2:Nat.Coprime d.natAbs c.natAbs:=by
  have:Int.gcd c d=1:=by unfold dv at h2;omega
  unfold Int.gcd at this;exact Nat.Coprime.symm this
 have en:a.natAbs * d.natAbs=c.natAbs * b.natAbs:=by rw[<- bC,<- bC,e]
 have d1:b.natAbs ∣ d.natAbs:=g1.dvd_of_dvd_mul_left ⟨c.natAbs,by rw[en,bU]⟩;have d2:d.natAbs ∣ b.natAbs:=g2.dvd_of_dvd_mul_left ⟨a.natAbs,by rw[<- en,bU]⟩;have eb:b.natAbs=d.natAbs:=Nat.dvd_antisymm d1 d2;have yx:b=d:=by omega
 show⟨?_,yx⟩;rw[yx]at e;exact bz Z e
def EG(h:b≠0)(hy:0 < y)(hl:dv x y=1)(e:a * y=x * b):tp a b=x/\bt a b=y:=by
 show QD (Eu h) hy (o0z h) hl ?_;have c:=RU (a:=a) h;have:(tp a b * y) * b=(x * bt a b) * b:=by
  calc (tp a b * y) * b=(tp a b * b) * y:=by rw[aH,aQ y b,<- aH]
   _=(a * bt a b) * y:=by rw[c]
   _=(a * y) * bt a b:=by rw[aH,aQ (bt a b) y,<- aH]
   _=(x * b) * bt a b:=by rw[e]
   _=(x * bt a b) * b:=by rw[aH,aQ b,<- aH]
 exact bz h this
def CC(a s:Int)(k:Int)(e:s * k=a)(hs:s≠0):k.natAbs<=a.natAbs:=by
 have:a.natAbs=s.natAbs * k.natAbs:=by rw[<- e,bC]
 rw[this];exact Nat.le_mul_of_pos_left _ Z
def QW(h:b≠0):(tp a b).natAbs<=a.natAbs:=CC a _ _ (OY h) (Rh h)
def Sd(h:b≠0):(bt a b).natAbs<=b.natAbs:=CC b _ _ (Mm h) (Rh h)
def DM(hb:b≠0)(hd:d≠0)(e:a * d=c * b):tp a b=tp c d/\bt a b=bt c d:=by
 show EG hb (Eu hd) (o0z hd) ?_;have h:=RU (a:=c) hd;have:(a * bt c d) * d=(tp c d * b) * d:=by
  calc (a * bt c d) * d=(a * d) * bt c d:=by rw[aH,aQ (bt c d) d,<- aH]
   _=(c * b) * bt c d:=by rw[e]
   _=(c * bt c d) * b:=by rw[aH,aQ b,<- aH]
   _=(tp c d * d) * b:=by rw[h]
   _=(tp c d * b) * d:=by rw[aH,aQ d b,<- aH]
 exact bz hd this
def HA(hy:0 < y)(hl:dv x y=1):tp x y=x/\bt x y=y:=EG Z hy hl rfl
def L8{a b:Int}(ha:a≠0)(hb:b≠0):a * b≠0:=cR ha hb
def Py{a b c d e f T B T' B':Int}(hb:b≠0)(hd:d≠0)(hf:f≠0)(hB:B≠0)(jR:B'≠0)
    (h1:T * (b * d)=(a * d+c * b) * B) (h2:T' * (d * f)=(c * f+e * d) * B') :
    tp (T * f+e * B) (B * f)=tp (a * B'+T' * b) (b * B')/\bt (T * f+e * B) (B * f)=bt (a * B'+T' * b) (b * B'):=by
 show DM (L8 hB hf) (L8 hb jR) ?_;have k:((T * f+e * B) * (b * B')) * ((b * d) * (d * f))=((a * B'+T' * b) * (B * f)) * ((b * d) * (d * f)):=by
  grind
 exact bz (L8 (L8 hb hd)<|L8 hd hf) k
def MH{a b c d e f T B T' B':Int}(hb:b≠0)(hd:d≠0)(hf:f≠0)(hB:B≠0)(jR:B'≠0)
    (h1:T * (b * d)=(a * c) * B) (h2:T' * (d * f)=(c * e) * B') :
    tp (T * e) (B * f)=tp (a * T') (b * B')/\bt (T * e) (B * f)=bt (a * T') (b * B'):=by
 show DM (L8 hB hf) (L8 hb jR) ?_;have k:((T * e) * (b * B')) * ((b * d) * (d * f))=((a * T') * (B * f)) * ((b * d) * (d * f)):=by
  grind
 exact bz (L8 (L8 hb hd)<|L8 hd hf) k
def distrib{a b c d e f T B P a1t R V:Int}(hb:b≠0)(hd:d≠0)(hf:f≠0)(hB:B≠0)(hU:a1t≠0)(hV:V≠0)
    (h1:T * (d * f)=(c * f+e * d) * B) (h2:P * (b * d)=(a * c) * a1t) (h3:R * (b * f)=(a * e) * V) :
    tp (a * T) (b * B)=tp (P * V+R * a1t) (a1t * V)/\bt (a * T) (b * B)=bt (P * V+R * a1t) (a1t * V):=by
 show DM (L8 hb hB) (L8 hU hV) ?_;have k:((a * T) * (a1t * V)) * ((d * f) * ((b * d) * (b * f)))=((P * V+R * a1t) * (b * B)) * ((d * f) * ((b * d) * (b * f))):=by
  grind
 exact bz (L8 (L8 hd hf)<|L8 (L8 hb hd)<|L8 hb hf) k
def Gi:tp (a * d+c * b) (b * d)=tp (c * b+a * d) (d * b)/\bt (a * d+c * b) (b * d)=bt (c * b+a * d) (d * b):=by rw[Int.add_comm,aQ b d];exact⟨U,U⟩
def DH:tp (a * c) (b * d)=tp (c * a) (d * b)/\bt (a * c) (b * d)=bt (c * a) (d * b):=by rw[aQ a c,aQ b d];exact⟨U,U⟩
def Gh(hb:0 < b)(hl:dv a b=1):tp (a * 1+0 * b) (b * 1)=a/\bt (a * 1+0 * b) (b * 1)=b:=by
 have e1:a * 1+0 * b=a:=by omega
 have e2:b * 1=b:=by omega
 rw[e1,e2];exact HA hb hl
def Sl(hb:0 < b)(hl:dv a b=1):tp (0 * b+a * 1) (1 * b)=a/\bt (0 * b+a * 1) (1 * b)=b:=by
 have e1:0 * b+a * 1=a:=by omega
 have e2:1 * b=b:=by omega
 rw[e1,e2];exact HA hb hl
def Ka(hb:0 < b)(hl:dv a b=1):tp (a * 1) (b * 1)=a/\bt (a * 1) (b * 1)=b:=by rw[cB,cB];exact HA hb hl
def SW(hb:0 < b)(hl:dv a b=1):tp (1 * a) (1 * b)=a/\bt (1 * a) (1 * b)=b:=by rw[cS,cS];exact HA hb hl
def c0s:dv 0 1=1:=by unfold dv;decide
def dv11:dv 1 1=1:=by unfold dv;decide
def HQ(hb:0 < b):tp (a * 0) (b * 1)=0/\bt (a * 0) (b * 1)=1:=
 EG Z Z c0s Z
def Ig{a b:Int}(hb:0 < b):tp (a * b+-a * b) (b * b)=0/\bt (a * b+-a * b) (b * b)=1:=by show EG (L8 Z Z) Z c0s ?_;rw[cQ];omega
def c0q(a b:Int):dv (-a) b=dv a b:=by unfold dv;rw[Int.neg_gcd]
def YB(a b:Int):dv a b=dv b a:=by unfold dv;rw[Int.gcd_comm]
def Kc{a b:Int}(ha:a≠0)(hb:b≠0):tp (a * tp b a) (b * bt b a)=1/\bt (a * tp b a) (b * bt b a)=1:=by
 show EG (L8 hb<|df<|Eu ha) Z (by unfold dv;decide) ?_;have:=RU (a:=b) ha
 grind
open PySem
@[irreducible] def num(c:Int):Int:=if c.fmod 3=0 then(c.fdiv 3).fmod 19 - 9 else if c.fmod 3=1 then(c.fdiv 3).fmod 2000003 - 1000001 else(c.fdiv 3).fmod 1999999999999999999999999999999 - 999999999999999999999999999999
def TL(a b:Int):dv (if a < 0 then -a else a) (if b < 0 then -b else b)=dv a b:=by
 have e:∀x:Int,(if x < 0 then -x else x)=(x.natAbs:Int):=λx=>by split <;>omega
 rw[e,e,c0r]
def ZC(a b:Int):0<=(if a < 0 then -a else a)/\0<=(if b < 0 then -b else b)/\dv (if a < 0 then -a else a) (if b < 0 then -b else b)=dv a b:=
 ⟨by split <;>omega,by split <;>omega,TL a b⟩
def out2(h:dv x y=dv a b)(hy:y=0):(if x < 0 then -x else x)=dv a b:=by rw[<- p0d h hy];split <;>omega
structure S1(x:Int):Prop where
 lo:-10000000000000000000000000000000<=x
 hi:x<=10000000000000000000000000000000
structure S2(x:Int):Prop where
 lo:-1000000000000000000000000000000000000000000000000000000000000000<=x
 hi:x<=1000000000000000000000000000000000000000000000000000000000000000
structure Po(x:Int):Prop where
 lo:0 < x
def S1.one:S1 1:=⟨by decide,bD⟩
def Po.one:Po 1:=⟨by decide⟩
def Po.ne(h:Po x):x≠0:=by have:=h.lo;omega
theorem S1.tp(h:S1 a)(p:Po b):S1 (tp a b):=by have l:=QW (a:=a) p.ne;have:=h.lo;have:=h.hi;exact⟨Z,Z⟩
theorem S2.tp(h:S2 a)(p:Po b):S2 (tp a b):=by have l:=QW (a:=a) p.ne;have:=h.lo;have:=h.hi;exact⟨Z,Z⟩
theorem S1.bt(h:S1 b)(p:Po b):S1 (bt a b):=by have l:=Sd (a:=a) p.ne;have:=h.lo;have:=h.hi;exact⟨Z,Z⟩
theorem S2.bt(h:S2 b)(p:Po b):S2 (bt a b):=by have l:=Sd (a:=a) p.ne;have:=h.lo;have:=h.hi;exact⟨Z,Z⟩
theorem Po.bt(p:Po b):Po (bt a b):=⟨Eu p.ne⟩
theorem S2.dv(h:S2 b)(p:Po b):S2 (dv a b):=by have:=p0q a b p.ne;have:=Kr a b;have:=h.lo;have:=h.hi;exact⟨Z,Z⟩
structure q0i(a b:Int):Prop where
 one:dv a b=1
def lz(p:Po b)(l:q0i a b):tp (a * 1+0 * b) (b * 1)=a/\bt (a * 1+0 * b) (b * 1)=b:=Gh p.lo l.one
def zl(p:Po b)(l:q0i a b):tp (0 * b+a * 1) (1 * b)=a/\bt (0 * b+a * 1) (1 * b)=b:=Sl p.lo l.one
def ol(p:Po b)(l:q0i a b):tp (1 * a) (1 * b)=a/\bt (1 * a) (1 * b)=b:=SW p.lo l.one
def cp(_:q0i (tp (c * b+a * d)<|d * b) (bt (c * b+a * d)<|d * b)):tp (a * d+c * b) (b * d)=tp (c * b+a * d) (d * b)/\bt (a * d+c * b) (b * d)=bt (c * b+a * d) (d * b):=Gi
def ct(_:q0i (tp (c * a)<|d * b) (bt (c * a)<|d * b)):tp (a * c) (b * d)=tp (c * a) (d * b)/\bt (a * c) (b * d)=bt (c * a) (d * b):=DH
def Pr(p:Nat):Prop:=2<=p/\∀d,2<=d->d * d<=p->¬p % d=0
def Pr.div(h:Pr p)(hd:d ∣ p):d=1\/d=p:=by
 obtain⟨k,hk⟩:=hd;have p2:=h.1;rcases(by omega:d=0\/d=1\/2<=d)with e | e | e
 . rw[e,Nat.zero_mul]at hk;omega
 . exact .inl e
 . rcases(by omega:k=0\/k=1\/2<=k)with f | f | f
   . rw[f,Nat.mul_zero]at hk;omega
   . rw[f,Nat.mul_one]at hk;exact .inr hk.symm
   . exfalso;rcases Nat.le_total d k with g | g
     . have:d * d<=p:=by rw[hk];exact aD d g
       exact h.2 d e this (by rw[hk];exact Nat.mul_mod_right d k)
     . have:k * k<=p:=by rw[hk];exact bA k g
       exact h.2 k f this (by rw[hk];exact Nat.mul_mod_left d k)
def Pr.cop(h:Pr p)(ha:¬p ∣ a):Nat.Coprime p a:=by
 have d1:=Nat.gcd_dvd_left p a;have d2:=Nat.gcd_dvd_right p a;rcases h.div d1 with e | e
 . exact e
 . rw[e]at d2;exact absurd d2 ha
def Pr.mul(h:Pr p)(hd:p ∣ a * b):p ∣ a\/p ∣ b:=by
 by_cases c:p ∣ a
 . exact .inl c
 . exact .inr ((h.cop c).dvd_of_dvd_mul_left hd)
def Ra(h0:0 < a)(h1:a < p):¬p ∣ a:=λh=>by
 have:=cU h0 h;omega
theorem c0l:∀(n:Nat) (l:w1e),l.Nodup->(∀a∈l,a < n)->l.length<=n
 | 0,l,_,h=>by
  cases l with
  | nil=>exact ae 0
  | cons a r=>exact absurd (h a<|ax ..) Z
 | n+1,l,nd,h=>by
  by_cases c:n∈l
  . have e:=List.length_erase_of_mem c;have:=c0l n (l.erase n) (nd.erase n) (λa ha=>by
     have m:=(List.Nodup.mem_erase_iff nd).mp ha;have:=h a m.2;have:=m.1;omega)
    omega
  . have:=c0l n l nd (λa ha=>by
     have:=h a ha;have:a≠n:=λe=>c<|e▸ha;omega)
    omega
theorem perm:∀(n:Nat) (l:w1e),l.Nodup->(∀a∈l,a < n)->l.length=n->l.Perm (List.range n)
 | 0,l,_,_,e=>by
  have:l=[]:=bh.mp e;rw[this];exact List.Perm.refl _
 | n+1,l,nd,h,e=>by
  by_cases c:n∈l
  . have e':=List.length_erase_of_mem c;have i:=perm n (l.erase n) (nd.erase n) (λa ha=>by
     have m:=(List.Nodup.mem_erase_iff nd).mp ha;have:=h a m.2;have:=m.1;omega) Z
    have q:=List.perm_cons_erase c;show q.trans ?_;rw[List.range_succ];exact(i.cons n).trans (List.perm_append_singleton n<|List.range n).symm
  . have:=c0l n l nd (λa ha=>by
     have:=h a ha;have:a≠n:=λe=>c<|e▸ha;omega)
    omega
def pd:w1e->Nat
 | []=>1
 | a::r=>a * pd r
def XR(h:l.Perm m):pd l=pd m:=by
 induction h with
 | nil=>rfl
 | cons a _ ih=>show a * _=a * _;rw[ih]
 | swap a b l=>show b * (a * _)=a * (b * _);rw[<- bQ,<- bQ,bU b a]
 | trans _ _ i j=>exact i.trans j
theorem Vn(h:Pr p):∀(l:w1e),(∀a∈l,¬p ∣ a)->¬p ∣ pd l
 | [],_=>λd=>by
  have:=cU bD d;have:=h.1;have e:pd []=1:=rfl;omega
 | a::r,g=>λd=>by
  rcases h.mul d with e | e
  . exact g a (ax ..) e
  . exact Vn h r (λb hb=>g b<|aA _ hb) e
theorem Vm(p x:Nat):∀(l:w1e),pd (l.map λi=>x * i % p) % p=x ^ l.length * pd l % p
 | []=>by simp[pd]
 | a::r=>by
  have ih:=Vm p x r;show(x * a % p) * pd (r.map λi=>x * i % p) % p=x ^ (r.length+1) * (a * pd r) % p;rw[Nat.mul_mod,Nat.mod_mod,ih,<- Nat.mul_mod,ba];congr 1
  grind
def c0o(h:Pr p)(hx:¬p ∣ x):x ^ (p - 1) % p=1:=by
 have p2:=h.1
 let f:Nat->Nat:=λi=>x * (i+1) % p - 1
 have pos:∀i,i < p - 1->0 < x * (i+1) % p:=λi hi=>by
  rcases Nat.eq_zero_or_pos (x * (i+1) % p)with e | e
  . rcases h.mul (dX e)with d | d
    . exact absurd d hx
    . exact absurd d (Ra Z Z)
  . exact e
 have lt:∀i,x * (i+1) % p < p:=λi=>Nat.mod_lt _ Z;have inj:∀i j,i < p - 1->j < p - 1->i < j->x * (i+1) % p≠x * (j+1) % p:=λi j hi hj ij e=>by
  have d:p ∣ x * (j+1) - x * (i+1):=by
   apply dX;exact Nat.sub_mod_eq_zero_of_mod_eq e.symm
  rw[<- Nat.mul_sub]at d;rcases h.mul d with d | d
  . exact hx d
  . exact Ra Z Z d
 have nd:((List.range<|p - 1).map f).Nodup:=by rw[List.nodup_iff_pairwise_ne,cH];show List.Pairwise.imp_of_mem ?_<|List.pairwise_lt_range (n:=p - 1);intro a b ha hb ab e;have ha:=aW.mp ha;have hb:=aW.mp hb;have e:x * (a+1) % p - 1=x * (b+1) % p - 1:=e;have:=pos a ha;have:=pos b hb;exact inj a b ha hb ab Z
 have pm:=perm (p - 1) ((List.range<|p - 1).map f) nd (λa ha=>by
  obtain⟨i,hi,e⟩:=aw.mp ha;have:=pos i<|aW.mp hi;have:=lt i;have e:x * (i+1) % p - 1=a:=e;omega) (by simp)
 have oV:=XR (pm.map (·+1));have same:((List.range<|p - 1).map f).map (·+1)=((List.range<|p - 1).map (·+1)).map (λi=>x * i % p):=by rw[cI,cI];show List.map_congr_left λi hi=>?_;have:=pos i<|aW.mp hi;show x * (i+1) % p - 1+1=x * (i+1) % p;omega
 rw[same]at oV;have q:=Vm p x ((List.range<|p - 1).map (·+1));rw[oV,ag,cJ]at q;generalize hF:pd ((List.range<|p - 1).map (·+1))=F at q;have cF:¬p ∣ F:=by rw[<- hF];show Vn h _ λa ha=>?_;obtain⟨i,hi,e⟩:=aw.mp ha;have:=aW.mp hi;exact Ra Z Z
 have d:p ∣ (x ^ (p - 1) - 1) * F:=by
  apply dX;rw[Nat.sub_mul,Nat.one_mul];exact Nat.sub_mod_eq_zero_of_mod_eq q.symm
 have xp:0 < x ^ (p - 1):=cf (by
  rcases Nat.eq_zero_or_pos x with e | e
  . exact absurd (e▸Nat.dvd_zero p) hx
  . exact e)
 rcases h.mul d with d | d
 . obtain⟨k,hk⟩:=d;have e:x ^ (p - 1)=1+p * k:=by omega
   rw[e,Nat.add_mul_mod_self_left];exact Nat.mod_eq_of_lt Z
 . exact absurd d cF
def fe{a p:Int}(hp:0 < p):a.fmod p=a % p:=dY a (Int.le_of_lt hp)
def em1(a b p:Int):(a % p * b) % p=(a * b) % p:=by rw[Int.mul_emod,Int.emod_emod_of_dvd a<|Int.dvd_refl p,<- Int.mul_emod]
def Wv(a b p:Int):(a * (b % p)) % p=(a * b) % p:=by rw[aQ,em1,aQ]
def Wt(a p:Int):(-(a % p)) % p=(-a) % p:=by have:=Wv (-1) a p;rw[Int.neg_one_mul,Int.neg_one_mul]at this;exact this
def Pu{a p:Int}(hp:0 < p):0<=a.fmod p/\a.fmod p < p:=⟨bN a hp,bO a hp⟩
def r_pa{x y z p:Int}(hp:0 < p):((x+y).fmod p+z).fmod p=(x+(y+z).fmod p).fmod p:=by simp only[fe hp,Int.emod_add_emod,Int.add_emod_emod,Int.add_assoc]
def r_ta{x y z p:Int}(hp:0 < p):((x * y).fmod p * z).fmod p=(x * (y * z).fmod p).fmod p:=by simp only[fe hp,em1,Wv,aH]
def r_d{x y z p:Int}(hp:0 < p):(x * (y+z).fmod p).fmod p=((x * y).fmod p+(x * z).fmod p).fmod p:=by simp only[fe hp,Wv,Int.emod_add_emod,Int.add_emod_emod,Int.mul_add]
def Ie{x p:Int}(h0:0<=x)(h1:x < p):x.fmod p=x:=by rw[fe Z];exact dB h0 h1
def r_pm{x p:Int}(hp:0 < p):(x+(-x).fmod p).fmod p=0:=by simp only[fe hp,Int.add_emod_emod];rw[Int.add_right_neg];exact Int.zero_emod p
def ri(p x:Int):Int:=(x ^ (p.toNat - 2)) % p
def a0b(x:Int)(h:0<=x)(k:Nat):x ^ k=((x.toNat ^ k:Nat):Int):=by have:(x.toNat:Int)=x:=dC h;rw[Int.natCast_pow,this]
def YO(hp:0 < p):0<=ri p x/\ri p x < p:=⟨Int.emod_nonneg _ Z,Int.emod_lt_of_pos _ hp⟩
def ZX(h:Pr p.toNat)(h0:0 < x)(h1:x < p):(x * ri p x).fmod p=1:=by
 have p2:=h.1;have hp:0 < p:=by omega
 rw[fe hp];unfold ri;rw[Wv];have e:x * x ^ (p.toNat - 2)=x ^ (p.toNat - 1):=by
  have:p.toNat - 1=(p.toNat - 2)+1:=by omega
  rw[this,bV,aQ]
 rw[e,a0b x Z];have f:=c0o h<|Ra (p:=p.toNat) (a:=x.toNat) Z Z;have:((x.toNat ^ (p.toNat - 1) % p.toNat:Nat):Int)=((1:Nat):Int):=by rw[f]
 rw[Int.natCast_emod,dC Z]at this;exact this
def OI(p x:Int)(left gi jY:Int):Prop:=(gi * jY ^ left.toNat) % p=(x ^ (p.toNat - 2)) % p/\(0<=gi/\gi < p)
def UW(h:2<=p):OI p x (p - 2) 1 x:=by
 show⟨?_,Z,Z⟩;have:(p - 2).toNat=p.toNat - 2:=by omega
 rw[this,cS]
def YS(a p:Int)(k:Nat):((a % p) ^ k) % p=(a ^ k) % p:=by
 induction k with
 | zero=>rw[dg,dg]
 | succ k ih=>rw[bV,bV,Wv,aQ,<- Wv,ih,Wv,aQ]
def ZY{p x l a s:Int}(hp:0 < p)(h:OI p x l a s)(h0:0 < l)(o:l % 2=1):OI p x (l.fdiv 2) ((a * s).fmod p) ((s * s).fmod p):=by
 have hl:l.toNat=2 * (l.fdiv 2).toNat+1:=by rw[dZ l bD];omega
 show⟨?_,Pu hp⟩;rw[<- h.1,hl,fe hp,fe hp,em1];generalize (l.fdiv 2).toNat=k;have e:(a * s) * ((s * s) % p) ^ k % p=(a * s) * (s * s) ^ k % p:=by rw[<- Wv,YS,Wv]
 rw[e,bV,Int.pow_mul];have:s ^ 2=s * s:=by rw[bV,bV,dg,cS]
 rw[this];congr 1
 grind
def XG(hp:0 < p)(h:OI p x l a s)(h0:0 < l)(o:l % 2≠1):OI p x (l.fdiv 2) a ((s * s).fmod p):=by
 have hl:l.toNat=2 * (l.fdiv 2).toNat:=by rw[dZ l bD];omega
 show⟨?_,h.2⟩;rw[<- h.1,hl,fe hp];generalize (l.fdiv 2).toNat=k;rw[<- Wv,YS,Wv,Int.pow_mul];have:s ^ 2=s * s:=by rw[bV,bV,dg,cS]
 rw[this]
def ZW(h:OI p x l a s)(h0:¬0 < l):a=ri p x:=by
 have:l.toNat=0:=by omega
 have e:=h.1;rw[this,dg,cB,dB h.2.1 h.2.2]at e;exact e
def PI(n:Int):Prop:=2<=n/\∀d:Int,2<=d->d * d<=n->¬n.fmod d=0
def PI.nat{n:Int}(h:PI n):Pr n.toNat:=by
 show⟨by have:=h.1;omega,λd hd vZ e=>?_⟩;have n2:=h.1;have hn:(n.toNat:Int)=n:=dC Z;show h.2 (d:Int) Z ?_ ?_
 . have:((d * d:Nat):Int)<=(n.toNat:Int):=by omega
   rw[hn]at this;rw[<- Int.natCast_mul];exact this
 . rw[fe Z,<- hn,<- Int.natCast_emod,e];rfl
noncomputable def Mt(n:Int):Bool:=@decide (PI n) (Classical.propDecidable _)
def On(h:Mt n=true):PI n:=@of_decide_eq_true _ (Classical.propDecidable _) h
def c0e(h:PI n):Mt n=true:=@decide_eq_true _ (Classical.propDecidable _) h
def e0n{d f n:Int}(hd:2<=d)(hf:2<=f)(h:d * d<=n)(g:¬f * f<=n):d < f:=by
 rcases Int.lt_or_le d f with e | e
 . exact e
 . have:f * f<=d * d:=Int.mul_le_mul e e Z Z;omega
def e0o{f n:Int}(hf:2<=f)(h:f * f<=n):f+1<=n:=by have:2 * f<=f * f:=Int.mul_le_mul_of_nonneg_right hf Z;omega
def Y3(n k:Nat)(h2:2<=n)(hk:n < k * k)(h:(List.range k).all (λd=>d < 2 || n % d != 0)=true):Mt (n:Int)=true:=by
 show c0e ⟨Z,λd hd vZ e=>?_⟩;have iK:¬(k:Int) * (k:Int)<=(n:Int):=by
  have:((n:Nat):Int) < ((k * k:Nat):Int):=by omega
  rw[Int.natCast_mul]at this;omega
 have kk:2<=(k:Int):=by
  rcases(by omega:k=0\/k=1\/2<=k)with c | c | c
  . subst c;omega
  . subst c;omega
  . omega
 have lt:=e0n hd kk vZ iK;have dn:(d.toNat:Int)=d:=dC Z;have:=dD.mp h d.toNat<|aW.mpr Z;rw[<- dn,fe Z,<- Int.natCast_emod]at e;have e':n % d.toNat=0:=by omega
 simp[e']at this;omega
def XS:Mt 999983=true:=Y3 999983 1000 bD bD dK
def a0j:Mt 65537=true:=Y3 65537 257 bD bD dK
def p2:Mt 2=true:=Y3 2 2 bD bD dK
def p3:Mt 3=true:=Y3 3 2 bD bD dK
def p5:Mt 5=true:=Y3 5 3 bD bD dK
def p7:Mt 7=true:=Y3 7 3 bD bD dK
def p11:Mt 11=true:=Y3 11 4 bD bD dK
def p13:Mt 13=true:=Y3 13 4 bD bD dK
def p101:Mt 101=true:=Y3 101 11 bD bD dK
end Mine
namespace Mine
open PySem PySem.SeqAt
set_option genInjectivity false in
set_option genSizeOfSpec false in
structure SR where
 W:Type
 add:W->W->W
 mul:W->W->W
 zero:W
 one:W
 add_comm:∀x y,add x y=add y x
 add_assoc:∀x y z,add (add x y) z=add x (add y z)
 mul_comm:∀x y,mul x y=mul y x
 mul_assoc:∀x y z,mul (mul x y) z=mul x (mul y z)
 distrib:∀x y z,mul x (add y z)=add (mul x y) (mul x z)
 add_zero:∀x,add x zero=x
 mul_one:∀x,mul x one=x
 mul_zero:∀x,mul x zero=zero
 zo:zero≠one
 sz:Nat->W->Prop
 sz_mono:∀m n x,m<=n->sz m x->sz n x
 sz_add:∀m n x y,sz m x->sz n y->sz (m+n+1) (add x y)
 sz_mul:∀m n x y,sz m x->sz n y->sz (m+n) (mul x y)
 sz_zero:sz 0 zero
 sz_one:sz 0 one
 lv:Nat->Nat->W->Prop
 lv_mono:∀k c c' x,c<=c'->lv k c x->lv k c' x
 lv_add:∀k c c' x y,lv k c x->lv k c' y->lv k (c+c') (add x y)
 lv_mul:∀j k x y,lv j 32 x->lv k 32 y->lv (j+k) 1 (mul x y)
 lv_zero:∀k,lv k 0 zero
 lv_one:lv 1 1 one
 lv_up:∀k c x,lv k c x->lv (k+1) c x
 lv_sz:∀k c x,c<=1024->lv k c x->sz (100 * k) x
 data:W->PyData
 sh:∀x,shaped (data x)=true
 nm:∀x y,noMix (data x) (data y)=true
 eq:∀x,PySem.Spec.same (data x) (data x)=true
 ne:∀x y,x≠y->PySem.Spec.same (data x) (data y)=false
abbrev QQ(S:SR):=Nat->S.W
abbrev F0(S:SR):=Nat->Nat->S.W
abbrev FF(S:SR):=Nat->Nat->Nat->S.W
abbrev w1a(S:SR):=List (Nat × (Nat->S.W))
structure Fr where
 t:Int
 b:Int
 p:0 < b
 l:dv t b=1
def Fr.eq_of{x y:Fr}(h1:x.t=y.t)(h2:x.b=y.b):x=y:=by
 cases x;cases y;cases h1;cases h2;rfl
def Fr.nb(x:Fr):x.b≠0:=by have:=x.p;omega
def Fr.of(a b:Int)(h:0 < b):Fr:=⟨tp a b,bt a b,Eu Z,o0z Z⟩
def Fr.of_cross(a b:Int)(h:0 < b):(Fr.of a b h).t * b=a * (Fr.of a b h).b:=RU Z
def Fr.add(x y:Fr):Fr:=Fr.of (x.t * y.b+y.t * x.b) (x.b * y.b) (aN x.p y.p)
def Fr.mul(x y:Fr):Fr:=Fr.of (x.t * y.t) (x.b * y.b) (aN x.p y.p)
def Fr.zero:Fr:=⟨0,1,bD,c0s⟩
def Fr.one:Fr:=⟨1,1,bD,dv11⟩
def Fr.sz(n:Nat)(x:Fr):Prop:=x.t.natAbs<=2 ^ n/\x.b.natAbs<=2 ^ n
def a0c(m n:Nat):(2:Nat) ^ (m+n)=2 ^ m * 2 ^ n:=aV 2 m n
def IB{a b:Int}{m n:Nat}(h1:a.natAbs<=2 ^ m)(h2:b.natAbs<=2 ^ n):(a * b).natAbs<=2 ^ (m+n):=by rw[bC,a0c];exact aM h1 h2
def Zy{a b c d:Int}{m n:Nat}(h1:a.natAbs<=2 ^ m)(h2:b.natAbs<=2 ^ n)(h3:c.natAbs<=2 ^ n)(h4:d.natAbs<=2 ^ m):(a * b+c * d).natAbs<=2 ^ (m+n+1):=by have k1:=IB h1 h2;have k2:=IB h3 h4;rw[Nat.add_comm n m]at k2;have k3:(a * b+c * d).natAbs<=(a * b).natAbs+(c * d).natAbs:=Int.natAbs_add_le _ _;have k4:(2:Nat) ^ (m+n+1)=2 ^ (m+n) * 2:=ba ..;omega
def Vr(h1:a.natAbs<=2 ^ m)(h2:b.natAbs<=2 ^ m):(Fr.of a b h).sz m:=
 ⟨af (QW Z) h1,af (Sd Z) h2⟩
def UZ(h:m<=n):(2:Nat) ^ m<=2 ^ n:=cg bD h
def Fr.lv(k c:Nat)(x:Fr):Prop:=∃a:Int,x.t * 12 ^ k=a * x.b/\1024 * a.natAbs<=c * 2 ^ (100 * k)
def Fr.lv_add(h:x.lv k c)(h':y.lv k c'):(Fr.add x y).lv k (c+c'):=by
 obtain⟨a,e,b⟩:=h;obtain⟨a',e',b'⟩:=h';show⟨a+a',?_,?_⟩
 . have hc:=Fr.of_cross (x.t * y.b+y.t * x.b) (x.b * y.b)<|aN x.p y.p;have hn:x.b * y.b≠0:=cR x.nb y.nb;show bz hn ?_;show(Fr.add x y).t * 12 ^ k * (x.b * y.b)=(a+a') * (Fr.add x y).b * (x.b * y.b);have hc:(Fr.add x y).t * (x.b * y.b)=(x.t * y.b+y.t * x.b) * (Fr.add x y).b:=hc;have e1:(Fr.add x y).t * 12 ^ k * (x.b * y.b)=((Fr.add x y).t * (x.b * y.b)) * 12 ^ k:=by rw[aR]
   rw[e1,hc];have e2:(x.t * y.b+y.t * x.b) * (Fr.add x y).b * 12 ^ k=((x.t * 12 ^ k) * y.b+(y.t * 12 ^ k) * x.b) * (Fr.add x y).b:=by rw[aR,Int.add_mul,aR x.t,aR y.t]
   rw[e2,e,e'];have e3:a * x.b * y.b+a' * y.b * x.b=(a+a') * (x.b * y.b):=by rw[Int.add_mul,aH,aH a',aQ y.b x.b]
   rw[e3,aR]
 . have:=Int.natAbs_add_le a a';rw[Nat.add_mul];omega
def Fr.lv_mul(h:x.lv j 32)(h':y.lv k 32):(Fr.mul x y).lv (j+k) 1:=by
 obtain⟨a,e,b⟩:=h;obtain⟨a',e',b'⟩:=h';show⟨a * a',?_,?_⟩
 . have hc:(Fr.mul x y).t * (x.b * y.b)=(x.t * y.t) * (Fr.mul x y).b:=Fr.of_cross (x.t * y.t) (x.b * y.b)<|aN x.p y.p;have hn:x.b * y.b≠0:=cR x.nb y.nb;show bz hn ?_;rw[aR,hc,Int.pow_add];have e2:x.t * y.t * (Fr.mul x y).b * (12 ^ j * 12 ^ k)=(x.t * 12 ^ j) * (y.t * 12 ^ k) * (Fr.mul x y).b:=by rw[aR];congr 1;rw[aH,aH,Int.mul_left_comm y.t]
   rw[e2,e,e'];have e3:a * x.b * (a' * y.b)=a * a' * (x.b * y.b):=by rw[aH,aH,Int.mul_left_comm x.b]
   rw[e3,aR]
 . rw[bC,Nat.mul_add,aV];have h1:=aM b b';have e1:1024 * a.natAbs * (1024 * a'.natAbs)=1024 * (1024 * (a.natAbs * a'.natAbs)):=by rw[bQ,Nat.mul_left_comm a.natAbs]
   have e2:32 * 2 ^ (100 * j) * (32 * 2 ^ (100 * k))=1024 * (2 ^ (100 * j) * 2 ^ (100 * k)):=by rw[bQ,Nat.mul_left_comm<|2 ^ (100 * j),<- bQ]
   rw[e1,e2]at h1;have:=Nat.le_of_mul_le_mul_left h1 bD;omega
def Fr.lv_up{k c:Nat}{x:Fr}(h:x.lv k c):x.lv (k+1) c:=by
 obtain⟨a,e,b⟩:=h;show⟨a * 12,?_,?_⟩
 . rw[bV,<- aH,e,aR]
 . rw[bC,show 100 * (k+1)=100 * k+100 from by omega,aV];have h1:(1024 * a.natAbs) * 12<=(c * 2 ^ (100 * k)) * 2 ^ 100:=aM b bD;have e1:1024 * (a.natAbs * (12:Int).natAbs)=(1024 * a.natAbs) * 12:=by rw[bQ];rfl
   rw[e1,<- bQ];exact h1
def Fr.lv_sz{k c:Nat}{x:Fr}(hc:c<=1024)(h:x.lv k c):x.sz (100 * k):=by
 obtain⟨a,e,b⟩:=h;have cop:Nat.Coprime x.t.natAbs x.b.natAbs:=by
  have l:=x.l;unfold dv at l;have:Int.gcd x.t x.b=1:=by omega
  exact this
 have e':x.t.natAbs * 12 ^ k=a.natAbs * x.b.natAbs:=by have:=congrArg Int.natAbs e;rw[bC,bC,Int.natAbs_pow]at this;exact this
 have hb:a.natAbs<=2 ^ (100 * k):=by have h1:1024 * a.natAbs<=1024 * 2 ^ (100 * k):=af b<|bA _ hc;exact Nat.le_of_mul_le_mul_left h1 bD
 have p12:(12:Nat) ^ k<=2 ^ (100 * k):=by rw[Nat.pow_mul];exact bS bD k
 constructor
 . have d:x.t.natAbs ∣ a.natAbs:=cop.dvd_of_dvd_mul_right ⟨12 ^ k,e'.symm⟩;by_cases z:a.natAbs=0
   . have:x.t.natAbs * 12 ^ k=0:=by rw[e',z,Nat.zero_mul]
     have:x.t.natAbs=0:=by
      rcases Nat.mul_eq_zero.mp this with h | h
      . exact h
      . exact absurd h (bZ<|cf bD)
     omega
   . exact af (cU Z d) hb
 . have d:x.b.natAbs ∣ 12 ^ k:=cop.symm.dvd_of_dvd_mul_left ⟨a.natAbs,by rw[e',bU]⟩;exact af (cU (cf bD) d) p12
def Mb:SR where
 W:=Fr
 add:=Fr.add
 mul:=Fr.mul
 zero:=Fr.zero
 one:=Fr.one
 add_comm x y:=Fr.eq_of Gi.1 Gi.2
 add_assoc x y z:=
  have h:=Py (f:=z.b) (e:=z.t) x.nb y.nb z.nb (Fr.add x y).nb (Fr.add y z).nb (Fr.of_cross _ _<|aN x.p y.p) (Fr.of_cross _ _<|aN y.p z.p)
  Fr.eq_of h.1 h.2
 mul_comm x y:=Fr.eq_of DH.1 DH.2
 mul_assoc x y z:=
  have h:=MH (f:=z.b) (e:=z.t) x.nb y.nb z.nb (Fr.mul x y).nb (Fr.mul y z).nb (Fr.of_cross _ _<|aN x.p y.p) (Fr.of_cross _ _<|aN y.p z.p)
  Fr.eq_of h.1 h.2
 distrib x y z:=
  have h:=distrib (a:=x.t) (f:=z.b) (e:=z.t) x.nb y.nb z.nb (Fr.add y z).nb (Fr.mul x y).nb (Fr.mul x z).nb (Fr.of_cross _ _<|aN y.p z.p) (Fr.of_cross _ _<|aN x.p y.p) (Fr.of_cross _ _<|aN x.p z.p)
  Fr.eq_of h.1 h.2
 add_zero x:=Fr.eq_of (Gh x.p x.l).1 (Gh x.p x.l).2
 mul_one x:=Fr.eq_of (Ka x.p x.l).1 (Ka x.p x.l).2
 mul_zero x:=Fr.eq_of (HQ x.p).1 (HQ x.p).2
 zo h:=by have:(0:Int)=1:=congrArg Fr.t h;omega
 sz:=Fr.sz
 sz_mono m n x h s:=⟨af s.1<|UZ h,af s.2<|UZ h⟩
 sz_add m n x y h1 h2:=Vr (Zy h1.1 h2.2 h2.1 h1.2) (af (IB h1.2 h2.2)<|UZ<|Nat.le_succ _)
 sz_mul m n x y h1 h2:=Vr (IB h1.1 h2.1) (IB h1.2 h2.2)
 sz_zero:=⟨by decide,bD⟩
 sz_one:=⟨by decide,bD⟩
 lv:=Fr.lv
 lv_mono k c c' x h:=λ⟨a,e,b⟩=>⟨a,e,af b<|bA _ h⟩
 lv_add _ _ _ _ _ h h':=Fr.lv_add h h'
 lv_mul _ _ _ _ h h':=Fr.lv_mul h h'
 lv_zero k:=⟨0,by show(0:Int) * 12 ^ k=0 * 1;rw[Int.zero_mul,Int.zero_mul],by show 1024 * 0<=_;omega⟩
 lv_one:=⟨12,bD,bD⟩
 lv_up _ _ _ h:=Fr.lv_up h
 lv_sz _ _ _ hc h:=Fr.lv_sz hc h
 data x:=.tuple [.int x.t,.int x.b]
 sh x:=rfl
 nm x y:=by simp[noMix,noMixAll]
 eq x:=by simp[PySem.Spec.same,PySem.Spec.sameAll]
 ne x y h:=by simp[PySem.Spec.same,PySem.Spec.sameAll];intro h1 h2;exact h (Fr.eq_of h1 h2)
structure Re(p:Int)where
 x:Int
 h0:0<=x
 h1:x < p
def Re.eq_of{p:Int}{a b:Re p}(h:a.x=b.x):a=b:=by cases a;cases b;cases h;rfl
def Re.of(p:Int)(hp:0 < p)(x:Int):Re p:=⟨x.fmod p,(Pu hp).1,(Pu hp).2⟩
def AW(p:Int)(hp:2<=p):SR where
 W:=Re p
 add a b:=Re.of p Z (a.x+b.x)
 mul a b:=Re.of p Z (a.x * b.x)
 zero:=⟨0,Z,Z⟩
 one:=⟨1,Z,Z⟩
 add_comm a b:=Re.eq_of (by show(a.x+b.x).fmod p=(b.x+a.x).fmod p;rw[Int.add_comm])
 add_assoc a b c:=Re.eq_of (r_pa Z)
 mul_comm a b:=Re.eq_of (by show(a.x * b.x).fmod p=(b.x * a.x).fmod p;rw[aQ])
 mul_assoc a b c:=Re.eq_of (r_ta Z)
 distrib a b c:=Re.eq_of (r_d Z)
 add_zero a:=Re.eq_of (by show(a.x+0).fmod p=a.x;rw[Int.add_zero];exact Ie a.h0 a.h1)
 mul_one a:=Re.eq_of (by show(a.x * 1).fmod p=a.x;rw[cB];exact Ie a.h0 a.h1)
 mul_zero a:=Re.eq_of (by show(a.x * 0).fmod p=0;rw[Int.mul_zero];exact Ie Z Z)
 zo h:=by have:(0:Int)=1:=congrArg Re.x h;omega
 sz _ _:=True
 sz_mono _ _ _ _ _:=trivial
 sz_add _ _ _ _ _ _:=trivial
 sz_mul _ _ _ _ _ _:=trivial
 sz_zero:=trivial
 sz_one:=trivial
 lv _ _ _:=True
 lv_mono _ _ _ _ _ _:=trivial
 lv_add _ _ _ _ _ _ _:=trivial
 lv_mul _ _ _ _ _ _:=trivial
 lv_zero _:=trivial
 lv_one:=trivial
 lv_up _ _ _ _:=trivial
 lv_sz _ _ _ _ _:=trivial
 data a:=.int a.x
 sh _:=rfl
 nm _ _:=by simp[noMix]
 eq _:=by simp[PySem.Spec.same]
 ne a b h:=by simp[PySem.Spec.same];intro e;exact h (Re.eq_of e)
end Mine
namespace L2
open PySem PySem.Spec PyProof.Rows
class Plain (P:Program):Prop where
 tree:P.given.tree=none
section
variable{X:Cx}
theorem r8.seer{aS:w1b}{σ:St}{H:Hp}{s:Shared}(I:r8 X aS σ H s):s.heap.NoSeer:=I.ok.mod.seer.keeps I.bk
def Fc{k:Nat}(hr:L9 k X.A)(hk:34<=k)(hP:X.prog.given.tree=none)(kx:X.stack=X.env::X.outer:=by rfl)(tH:X.env.scope.isGenerator=false:=by rfl)(hco:X.env.scope.isCoroutine=false:=by rfl) :
    FI X (binaryOp .FloorDiv) (rI (λ_ j=>j≠0) λi j=>.int<|i.fdiv j):=by
 intro aS s σ H x y v u Q I rx ry h;obtain⟨i,j,rfl,rfl,hc,q⟩:=h;obtain⟨t,rfl⟩:=rx;obtain⟨t',rfl⟩:=ry;show floordiv_int hc ⟨.int _,H,I.tok _,⟨_,U⟩,q⟩ (Or.inr<|PylongRoom.of I.nolimit ?_<|SeerAt.of I.seer hP (by rw[I.ok.frames,kx]) tH hco I.ok.blt I.ok.glob);have:=hr.dp;show X.A.depth+100 < recursionLimit;omega
def GX(i j:Int):Prop:=Builtin.Int.intBits i+Builtin.Int.intBits j<=2 ^ 27
def b0n{a b:Int}(hc:GX a b):IntMulOk a b:=by
 have hc:Builtin.Int.intBits a+Builtin.Int.intBits b<=2 ^ 27:=hc;have e:Builtin.Int.intTooBig (Builtin.Int.intBits a+Builtin.Int.intBits b)=false:=by unfold Builtin.Int.intTooBig bitsLine;exact decide_eq_false Z
 unfold IntMulOk;rw[e];simp
def V3:FI X (binaryOp .Mult) (rI GX λi j=>.int<|i * j):=g0k λ_ _ _ _ _ _ _ hc q=>mul_int q (b0n hc)
end
def d0z(t u:TS):TS:=λD σ H=>∀r,r=u->t { D with nx:=r D } σ H
def l7{X:Cx}{st:Stmt}{R3:List Stmt}{t u:TS}(h1:PS X st t)(h2:Mu X R3 u):Mu X (st::R3) (d0z t u):=λaS s σ H D I h=>c5 h1 h2 aS s σ H D I (h u U)
section
variable{CX:Sj}{P:Program}{w:World}{K:aa}{mg:w1d}{base:Heap}{N:w1f}{qual:Str}{scope:Scope}{f:Addr}{cd:Value}{A:Around}{outer:List Env}{s:Shared}{H:Hp}{E:XK}
def C0:(Hq CX P w K mg base N qual scope f cd A outer s H E).K=K:=rfl
def w9:(Hq CX P w K mg base N qual scope f cd A outer s H E).nox.K=K:=rfl
def B8:(Hq CX P w K mg base N qual scope f cd A outer s H E).w=w:=rfl
def B9:(Hq CX P w K mg base N qual scope f cd A outer s H E).base=base:=rfl
end
def N7(cells:List (Str × Addr)):List (Str × NameKind)->List (Str × Addr)->List (Str × Addr)
 | [],cs=>cs
 | (n,k)::r,cs=>N7 cells r (if(k == .free)=true then(n,(cells.lookup n).getD 0)::cs else cs)
theorem Ml:∀(names:List (Str × NameKind)) (cs:List (Str × Addr)),(∀n,(n,NameKind.free)∈names->∃c,env.cells.lookup n=some c)->
    (forIn names cs λ(x:Str × NameKind) (r:List (Str × Addr))=>(match x with | (name,kind)=>if(kind == NameKind.free)=true then(do let c <- cellOf env name;pure (ForInStep.yield ((name,c)::r)))else pure (ForInStep.yield r):Sem (ForInStep<|List<|Str × Addr)))=pure (N7 env.cells names cs)
 | [],cs,_=>rfl
 | (n,k)::r,cs,h=>by
  rw[List.forIn_cons];by_cases hk:k=.free
  . subst hk;obtain⟨c,hc⟩:=h n ax;have ih:=Ml (env:=env) r ((n,c)::cs) λm hm=>h m<|aA _ hm;have e1:cellOf env n=pure c:=by unfold cellOf;rw[hc]
    simp only[beq_self_eq_true,if_true,e1,pure_bind];rw[ih]
    conv=>rhs;unfold N7
    simp only[beq_self_eq_true,if_true,hc,Option.getD_some]
  . have hb:(k == NameKind.free)=false:=by simpa using hk
    have ih:=Ml (env:=env) r cs λm hm=>h m<|aA _ hm;simp only[hb,Bool.false_eq_true,if_false,pure_bind];rw[ih]
    conv=>rhs;unfold N7
    simp only[hb,Bool.false_eq_true,if_false]
def CS(h:∀n,(n,NameKind.free)∈scope.names->∃c,env.cells.lookup n=some c):closureFor scope env=pure (N7 env.cells scope.names []):=by have e:=Ml (env:=env) scope.names [] h;unfold closureFor;simp only[bind_pure];exact e
theorem Mj:∀{names:List (Str × NameKind)} {cs:List (Str × Addr)},(∀n,(n,NameKind.free)∈names->∃c,cells.lookup n=some c)->∀{y c},(N7 cells names cs).lookup y=some c->cs.lookup y=some c\/cells.lookup y=some c
 | [],cs,_,y,c,e=>.inl e
 | (n,k)::r,cs,h,y,c,e=>by
  unfold N7 at e;have h':∀m,(m,NameKind.free)∈r->∃c,cells.lookup m=some c:=λm hm=>h m<|aA _ hm;rcases Mj h' e with z | z
  . by_cases hk:k=.free
    . subst hk;obtain⟨d,hd⟩:=h n ax;simp only[beq_self_eq_true,if_true,hd,Option.getD_some]at z;rw[cj]at z;cases hy:(y == n)with
      | true=>
       rw[hy]at z;have:y=n:=beq_iff_eq.mp hy;subst this;exact .inr (hd.trans z)
      | false=>rw[hy]at z;exact .inl z
    . have hb:(k == NameKind.free)=false:=by simpa using hk
      simp only[hb,Bool.false_eq_true,if_false]at z;exact .inl z
  . exact .inr z
theorem FH:∀{names:List (Str × NameKind)} {cs:List (Str × Addr)} {y:Str},((∃c,cs.lookup y=some c)\/(y,NameKind.free)∈names)->∃c,(N7 cells names cs).lookup y=some c
 | [],cs,y,h=>by
  rcases h with h | h
  . exact h
  . cases h
 | (n,k)::r,cs,y,h=>by
  unfold N7;show FH ?_;rcases h with ⟨c,h⟩ | h
  . left;split
    . rw[cj];cases hy:(y == n)with
      | true=>exact⟨_,U⟩
      | false=>exact⟨c,h⟩
    . exact⟨c,h⟩
  . rcases au.mp h with e | h
    . cases e;left;simp only[beq_self_eq_true,if_true];rw[cj,beq_self_eq_true];exact⟨_,U⟩
    . exact .inr h
def YD{prog:Program}{w:World}{A:Around}{R:Result->Shared->Prop}{s:Shared}{fq bY iter:Expr}{scope:Scope}{pos:Pos}{it fJ:Value}{env:Env}(I:Nat->Shared->Prop)
    (turn:∀n s,I n s->wpAny (model prog w) A (pyNext it) (λr s₁=>match r with
     | none=>R (.ok .next) s₁
     | some v=>wpAny (model prog w) A (letOwnedTupleGo bY it v) (λ_ iA=>wpAny (model prog w) A (assign bY env v) (λ_ s₂=>wpAny (model prog w) A (eval fq env) (λx s₃=>
         wpAny (model prog w) A (call (.builtin "list.append") [fJ,x]) (λ_ s₄=>∃m,m < n/\I m s₄) (λ_ _=>False) s₃) (λ_ _=>False) s₂) (λ_ _=>False) iA) (λ_ _=>False) s₁) (λ_ _=>False) s)
    (n:Nat) (h:I n s) :
    codeAny (model prog w) A (.compLoop (.ListComp fq [⟨bY,iter,[],0⟩] scope pos) 0 it fJ env) R s:=by
 show codeAny_loop rfl I (λn s hI=>?_) n h;show wpAny _ _ ((compTurn (.ListComp fq [⟨bY,iter,[],0⟩] scope pos) 0 it fJ env).onRaise<|λx=>do noteFrame x env;theTreesLotGoes x) _ _ s;show wpAny_noted ?_;rw[compTurn_list1];show wpAny_bind<|wpAny_standAt<|wpAny_bind<|wpAny_mono (turn n s hI) (λr s₁ h₁=>?_) λ_ _ h'=>h'.elim;cases r with
 | none=>exact wpAny_pure h₁
 | some v=>
  exact wpAny_bind (wpAny_mono h₁ (λ_ fF jS=>wpAny_bind (wpAny_mono jS (λ_ s₂ h₂=>wpAny_bind (wpAny_bind (wpAny_mono h₂ (λx s₃ h₃=>wpAny_bind (wpAny_mono h₃
   (λ_ s₄ h₄=>wpAny_pure<|wpAny_pure ⟨U,h₄⟩) λ_ _ h'=>h'.elim)) λ_ _ h'=>h'.elim))) λ_ _ h'=>h'.elim)) λ_ _ h'=>h'.elim)
def BB.track(x:BB P w H h)(n:H a=none)(new:M6 P w (upd H a o) h a o):BB P w (upd H a o) h:=λb u e=>by
 by_cases hb:b=a
 . subst hb;rw[b9]at e;cases e;exact new
 . rw[l9 hb]at e;exact(x b u e).stay (λ_ _ _ q=>q) (λc q=>by rw[l9<|l8 q n];exact q) λc xs q=>by rw[l9<|l8 q n];exact q
def Un.track(u:Un fs ex H H' h h')(hp:h.objs.size<=a)(n:H' a=none):Un fs ex H (upd H' a o) h h' where
 keep:=u.keep
 slot:=u.slot
 free:=λb ob q m hx=>by rw[l9<|aC<|az (ao q) hp];exact u.free b ob q m hx
 there:=u.there
 tups:=λb xs q=>by have z:=u.tups b xs q;rw[l9<|l8 z n];exact z
 frzs:=λb ob xs q=>by have z:=u.frzs b ob xs q;rw[l9<|l8 z n];exact z
 tbls:=λb ps q=>by obtain⟨m,z⟩:=u.tbls b ps q;exact⟨m,by rw[l9<|l8 z n];exact z⟩
theorem J5:∀(names:List (Str × NameKind)) (n:Nat) (fJ:List (Str × Addr)),cellsFrom n names fJ=cellsFrom n names []++fJ
 | [],_,_=>rfl
 | (x,k)::r,n,fJ=>by
  unfold cellsFrom;split
  . rw[J5 r (n+1) ((x,n)::fJ),J5 r (n+1) [(x,n)],ck];rfl
  . exact J5 r n fJ
theorem IS:∀(names:List (Str × NameKind)) (n:Nat) (y:Str) (c:Addr),(y,c)∈cellsFrom n names []->(y,NameKind.cell)∈names
 | [],_,_,_,h=>by cases h
 | (x,k)::r,n,y,c,h=>by
  unfold cellsFrom at h;split at h
  . rename_i hk;rw[J5]at h;rcases av.mp h with h | h
    . exact aA _ (IS r (n+1) y c h)
    . have e:=ar.mp h;cases e;rw[show k=NameKind.cell by simpa using hk];exact ax
  . exact aA _ (IS r n y c h)
theorem Dk:∀(names:List (Str × NameKind)) (n:Nat) (y:Str),(y,NameKind.cell)∈names->∃c,(y,c)∈cellsFrom n names []
 | [],_,_,h=>by cases h
 | (x,k)::r,n,y,h=>by
  unfold cellsFrom;rcases au.mp h with e | h
  . cases e;rw[if_pos (show(NameKind.cell == NameKind.cell)=true by decide),J5];exact⟨n,aK _ ax⟩
  . split
    . rw[J5];obtain⟨c,hc⟩:=Dk r (n+1) y h;exact⟨c,bc _ hc⟩
    . exact Dk r n y h
theorem Ag:∀(l r:List (Str × α)) (y:Str),(l++r).lookup y=match l.lookup y with | some c=>some c | none=>r.lookup y
 | [],_,_=>rfl
 | (x,c)::l,r,y=>by
  rw[dh,cj,cj];cases (y == x)with
  | true=>rfl
  | false=>exact Ag l r y
theorem Eh:∀{l:List (Str × α)} {y:Str} {c:α},(y,c)∈l->∃c',l.lookup y=some c'
 | (x,d)::l,y,c,h=>by
  rw[cj];cases hb:(y == x)with
  | true=>exact⟨d,U⟩
  | false=>
   rcases au.mp h with e | h
   . cases e;rw[beq_self_eq_true]at hb;cases hb
   . exact Eh h
abbrev Et(env:Env)(scope:Scope)(C:Addr):List (Str × Addr):=cellsFrom (C+1) scope.names (N7 env.cells scope.names [])
def TF(h:(Et env scope C).lookup y=some c):(y,c)∈cellsFrom (C+1) scope.names []\/(N7 env.cells scope.names []).lookup y=some c:=by
 rw[show Et env scope C=_ from J5 _ _ _,Ag]at h;split at h
 . rename_i e;cases h;exact .inl (bg e)
 . exact .inr h
def c0x(k:scope.names.lookup y=some .cell)(h:(Et env scope C).lookup y=some c):(y,c)∈cellsFrom (C+1) scope.names []:=by rw[show Et env scope C=_ from J5 _ _ _,Ag]at h;obtain⟨d,hd⟩:=Dk scope.names (C+1) y<|bg k;obtain⟨d',ir⟩:=Eh hd;rw[ir]at h;cases h;exact bg ir
theorem J9:∀(names:List (Str × NameKind)) (n:Nat) (y:Str) (c:Addr),(y,c)∈cellsFrom n names []->n<=c
 | [],_,_,_,h=>by cases h
 | (x,k)::r,n,y,c,h=>by
  unfold cellsFrom at h;split at h
  . rw[J5]at h;rcases av.mp h with h | h
    . have:=J9 r (n+1) y c h;omega
    . cases ar.mp h;exact ae _
  . exact J9 r n y c h
theorem GB:∀(names:List (Str × NameKind)) (n:Nat) (x y:Str) (c:Addr),(x,c)∈cellsFrom n names []->(y,c)∈cellsFrom n names []->x=y
 | [],_,_,_,_,h,_=>by cases h
 | (z,k)::r,n,x,y,c,h,g=>by
  unfold cellsFrom at h g;split at h
  . rename_i hk;rw[if_pos hk]at g;rw[J5]at h g;rcases av.mp h with h | h <;>rcases av.mp g with g | g
    . exact GB r (n+1) x y c h g
    . cases ar.mp g;have:=J9 r (n+1) x _ h;omega
    . cases ar.mp h;have:=J9 r (n+1) y _ g;omega
    . cases ar.mp h;cases ar.mp g;rfl
  . rename_i hk;rw[if_neg hk]at g;exact GB r n x y c h g
def NH{M:Model}{A:Around}{E:w1c}{s:Shared}{scope:Scope}{globals:Addr}{gY:List (Str × Addr)}{qual:Str}{env:Env}{Q:Env->Shared->Prop}
    (hQ:∀h':Heap,h'.Ns s.heap.objs.size (λ_=>none)->(∀b o,s.heap.get? b=some o->h'.get? b=some o)->CellsOk h' (s.heap.objs.size+1) (cellsFrom (s.heap.objs.size+1) scope.names [])->
     Q (newEnv scope s.heap.objs.size globals (cellsFrom (s.heap.objs.size+1) scope.names gY) qual none .none (some env) builtinsNs) { s with heap:=h',toks:=s.toks+([]:List (Str × Value)).length }) :
    wpAny M A (newFunctionEnv scope globals gY [] qual none .none<|some env) Q E s:=by
 simp only[newFunctionEnv,Option.isSome_some,if_true];show wpAny_bind<|wpAny_alloc ?_;show wpAny_bind (wpAny_layCells _ (λname kind cells=>by cases hkc:kind == NameKind.cell <;>simp[hkc]) _ _ _ _ ?_);have ok:=cellsFrom_ok scope.names (s.heap.push { cls:=.type "dict",data:=.dict #[] }) (s.heap.objs.size+1) [] ⟨λ_ _ hm=>(nomatch hm),List.Pairwise.nil⟩ (by rw[bu];exact ae _);rw[bu]at ok;rw[show({ s with heap:=s.heap.push { cls:=.type "dict",data:=.dict #[] } }:Shared).heap.objs.size=s.heap.objs.size+1 from bu ..];rw[List.forIn_nil];show wpAny_bind<|wpAny_pure<|wpAny_pure ?_;exact hQ _ ((Heap.Ns.new s.heap<|.type "dict").keeps<|pushCells_keeps _ _) (λb o e=>pushCells_keeps _ _ b o<|ak _ e) ok
def F7(X:Cx)(scope:Scope)(xs:w1f)(C:Addr)(s:Shared)(H:Hp)(fp:List Addr)(pn:w1b):Cx:=
 { X with env:=compEnvC scope (Et X.env scope C) C X.env,N:=X.N++xs,s₀:=s,H₀:=H,outer:=X.stack,ex:=fp,fn:=λy=>scope.names.lookup y == some .cell,pn:=pn,xe:=λ_ _=>False }
structure Q0(N:w1f)(S T:Scope):Prop where
 kind:T.kind=.function
 cell:∀y∈N,T.names.lookup y≠some .cell
 names:∀y∈T.names,y.2=.local->T.names.lookup y.1=some .local
 uniq:∀y∈T.names,T.names.lookup y.1=some y.2
 free:∀y∈T.names,y.2=.free->S.names.lookup y.1=some .cell\/S.names.lookup y.1=some .free
 vis:∀y∈N,T.names.lookup y≠some .local
def oC(N:w1f)(S:Scope){T:Scope}(a:T.kind=.function:=by rfl)(b:∀y∈N,T.names.lookup y≠some .cell:=by decide +kernel)(c:∀y∈T.names,y.2=.local->T.names.lookup y.1=some .local:=by decide +kernel)(d:∀y∈T.names,T.names.lookup y.1=some y.2:=by decide +kernel)(e:∀y∈T.names,y.2=.free->S.names.lookup y.1=some .cell\/S.names.lookup y.1=some .free:=by decide +kernel)(f:∀y∈N,T.names.lookup y≠some .local:=by decide +kernel):Q0 N S T:=⟨a,b,c,d,e,f⟩
def rlS(S T:Scope):Scope:={ T with names:=T.names.map λ(n,k)=>if(k == .free && S.kind == .function && S.names.lookup n == some .cell)then(n,.cell)else(n,k) }
def rl(env:Env)(z:Str × NameKind):Str × NameKind:=match z with | (n,k)=>if(k == NameKind.free && env.scope.kind == .function && env.kindOf n == some .cell)then(n,NameKind.cell)else(n,k)
def ZV(env:Env)(n:Str)(k:NameKind):(rl env (n,k)).1=n:=by unfold rl;dsimp only;split <;>rfl
def ZU(env:Env)(n:Str)(k:NameKind):(rl env (n,k)).2=k\/(k=.free/\(rl env (n,k)).2=.cell):=by
 unfold rl;dsimp only;split
 . rename_i h;simp only[Bool.and_eq_true]at h;exact .inr ⟨by simpa using h.1.1,U⟩
 . exact .inl rfl
theorem CZ:∀{names:List (Str × NameKind)} {y:Str} {k:NameKind},(names.map<|rl env).lookup y=some k->names.lookup y=some k\/(names.lookup y=some .free/\k=.cell)
 | [],_,_,h=>by cases h
 | (n,j)::r,y,k,h=>by
  have ih:=@CZ env r y k;rw[aX,show rl env (n,j)=((rl env (n,j)).1,(rl env (n,j)).2)from rfl,ZV,cj]at h;rw[cj];cases hy:(y == n)with
  | true=>
   rw[hy]at h;have h:(rl env (n,j)).2=k:=Option.some.inj h;rcases ZU env n j with z | ⟨z1,z2⟩
   . exact .inl (by rw[<- h,z])
   . exact .inr ⟨by rw[z1],by rw[<- h,z2]⟩
  | false=>
   rw[hy]at h;exact ih h
def EX(h:(relabel scope env).names.lookup y=some .cell\/(relabel scope env).names.lookup y=some .free):scope.names.lookup y=some .free\/scope.names.lookup y=some .cell:=by
 have e:(relabel scope env).names=scope.names.map (rl env):=rfl;rw[e]at h;rcases h with h | h
 . rcases CZ h with z | ⟨z,_⟩
   . exact .inr z
   . exact .inl z
 . rcases CZ h with z | ⟨z,_⟩
   . exact .inl z
   . exact .inl z
def Jx(h:(relabel scope env).names.lookup y=some .local):scope.names.lookup y=some .local:=by
 have e:(relabel scope env).names=scope.names.map (rl env):=rfl;rw[e]at h;rcases CZ h with z | ⟨_,z⟩
 . exact z
 . cases z
section
variable{X:Cx}{aS:w1b}{σ:St}{H:Hp}{s:Shared}{scope:Scope}{xs:w1f}{fp:List Addr}{C:Addr}
def Dj(I:r8 X aS σ H s)(ok:Q0 X.N X.env.scope scope):∀n,(n,NameKind.free)∈scope.names->∃c,X.env.cells.lookup n=some c:=λn hn=>I.ok.has n (ok.free _ hn U)
def Bd(I:r8 X aS σ H s)(ok:Q0 X.N X.env.scope scope)(e:(Et X.env scope C).lookup y=some c):(y,c)∈cellsFrom (C+1) scope.names []\/X.env.cells.lookup y=some c:=by
 rcases TF e with z | z
 . exact .inl z
 . rcases Mj (Dj I ok) z with z | z
   . cases z
   . exact .inr z
def OB(I:r8 X aS σ H s)(e:X.env.cells.lookup y=some c):c < s.heap.objs.size:=let⟨_,h⟩:=I.cell y c e;h.lt
def RV(I:r8 X aS σ H s)(ok:Q0 X.N X.env.scope scope)(hf:∀b∈fp,AK X aS H b)(hx:∀b∈fp,b < s.heap.objs.size)(hC:s.heap.objs.size<=C) :
    (F7 X scope xs C s H fp<|X.pn++aS).Ok where
 mod:=I.mod
 kind:=ok.kind
 glob:=I.ok.glob
 blt:=I.ok.blt
 above:=hC
 inj:=λx y c h1 h2=>by
  rcases Bd I ok h1 with z1 | z1 <;>rcases Bd I ok h2 with z2 | z2
  . exact GB _ _ x y c z1 z2
  . exact absurd (az (OB I z2)<|af hC<|bI<|J9 _ _ _ _ z1) (aO _)
  . exact absurd (az (OB I z1)<|af hC<|bI<|J9 _ _ _ _ z2) (aO _)
  . exact I.ok.inj x y c z1 z2
 has:=λy hy=>by
  show ∃c,(Et X.env scope C).lookup y=some c;rw[show Et X.env scope C=_ from J5 _ _ _,Ag];rcases EX hy with z | z
  . obtain⟨c,hc⟩:=FH (cells:=X.env.cells) (cs:=[])<|.inr<|bg z;split
    . rename_i c' _;exact⟨c',U⟩
    . exact⟨c,hc⟩
  . obtain⟨c,hc⟩:=Dk scope.names (C+1) y<|bg z;obtain⟨c',gO⟩:=Eh hc;rw[gO];exact⟨c',U⟩
 cab:=λx c h e=>af hC (bI<|J9 _ _ _ _<|c0x (by have h:(scope.names.lookup x == some NameKind.cell)=true:=h;simpa using h) e)
 hd:=I.ok.hd
 frames:=I.ok.frames
 stk:=.inl rfl
 exf:=λb hb=>⟨aC<|az (hx b hb) hC,λx c e=>by
  rcases Bd I ok e with z | z
  . exact bZ (az (hx b hb)<|af hC<|bI<|J9 _ _ _ _ z)
  . exact(hf b hb).2.2.2.2.1 x c z⟩
 bs:=I.bs
 bsz:=af I.ok.bsz I.sz
 noex:=λb o e hb=>by
  rcases(hf b hb).2.2.2.1 with z | z
  . exact I.ok.noex b o e z
  . exact absurd (az (ao e)<|af I.ok.bsz z) (aO _)
 exfs:=λb hb z=>by
  rcases au.mp (I.stkSub b z)with q | q
  . exact(hf b hb).2.1 q
  . exact(hf b hb).2.2.1 q
 funs:=I.stack
 frf:=I.stkFree
def QE(I:r8 X aS σ H s)(ok:Q0 X.N X.env.scope scope)(hf:∀b∈fp,AK X aS H b)(hx:∀b∈fp,b < s.heap.objs.size)(hC:s.heap.objs.size<=C){h':Heap}{t':Nat}{m:w1d}
    (hn:h'.Ns C m) (hk:∀b o,s.heap.get? b=some o->h'.get? b=some o) (lL:CellsOk h' (C+1) (cellsFrom (C+1) scope.names [])) :
    r8 (F7 X scope xs C s H fp<|X.pn++aS) [] (σ++List.replicate xs.length none) H { s with heap:=h',toks:=t' }where
 ok:=RV I ok hf hx hC
 os:=rfl
 bare:=I.bare
 base:=Un.kept hk
 loc:=by
  show⟨m,hn,λi x v e1 e2 e3=>?_⟩;have e1:(X.N++xs)[i]? = some x:=e1;have hi:i < σ.length:=by
   by_cases hi:i < σ.length
   . exact hi
   . rw[aZ Z,dQ]at e2;split at e2 <;>cases e2
  rw[aY hi]at e2;rw[aY<|by rw[<- I.len];exact hi]at e1;have vI:x∈X.N:=aL e1;have e4:(relabel scope X.env).names.lookup x=some .cell\/(relabel scope X.env).names.lookup x=some .free:=by
   rcases e3 with z | z
   . exact absurd (Jx z) (ok.vis x vI)
   . exact z
  have e5:scope.names.lookup x=some .free:=by
   rcases EX e4 with z | z
   . exact z
   . exact absurd z (ok.cell x vI)
  have e6:=ok.free _ (bg e5) rfl;obtain⟨m0,_,hl⟩:=I.loc;obtain⟨u,ru,lu⟩:=hl i x v e1 e2<|.inr e6;show⟨u,ru,.inr ⟨e4,?_⟩⟩;rcases lu with ⟨q,_⟩ | ⟨_,c,hc,o,ho,hd⟩
  . have q:X.env.scope.names.lookup x=some .local:=q;rcases e6 with z | z <;>(rw[q]at z;cases z)
  . obtain⟨c',gO⟩:=FH (cells:=X.env.cells) (cs:=[])<|.inr<|bg e5;have no:(cellsFrom (C+1) scope.names []).lookup x=none:=by
     cases e:(cellsFrom (C+1) scope.names []).lookup x with
     | none=>rfl
     | some d=>
      have:=ok.uniq _<|IS _ _ _ _<|bg e;rw[e5]at this;cases this
    have hb:(Et X.env scope C).lookup x=some c':=by rw[show Et X.env scope C=_ from J5 _ _ _,Ag,no];exact gO
    rcases Mj (Dj I ok) gO with z | z
    . cases z
    . rw[hc]at z;cases z;exact⟨c,hb,o,hk _ _ ho,hd⟩
 cell:=λx c e=>by
  rcases Bd I ok e with z | z
  . exact⟨none,(lL.empty x c z).1⟩
  . obtain⟨v,o,ho,hd⟩:=I.cell x c z;exact⟨v,o,hk _ _ ho,hd⟩
 free:=I.hok.fresh hC
 freeC:=λx c e=>by
  rcases Bd I ok e with z | z
  . exact I.hok.fresh (by have:=J9 _ _ _ _ z;omega)
  . exact I.freeC x c z
 pin:=λp hp=>by
  rw[bw]at hp;obtain⟨e,n,ne,nf,d⟩:=I.pin p hp;show⟨hk _ _ e,n,aC<|az (ao e) hC,λz=>?_,d⟩;rcases au.mp (I.stkSub p.1 z)with q | q
  . exact ne q
  . exact nf q
 hok:=I.hok.kept hk
 len:=by show(σ++List.replicate xs.length none).length=(X.N++xs).length;rw[aq,aq,dz,I.len]
end
abbrev Sk(J:It)(k:Nat)(g:TG)(te:TE)(σ:St)(Q:VK)(H1:Hp):Prop:=∃W:Nat->Nat->List V->Hp->Prop,(∃m,W 0 m [] H1)/\∀i m ys H,W i m ys H->
 (J.stop i H/\ys.length<=sizeLine/\∀p,H p=none->Q (.ref p) (upd H p<|.lst ys))\/
 (J.go i H/\ys.length < sizeLine/\∀x H',J.yld i H x H'->g x (σ++List.replicate k none) H' λσ2 H2=>(∃zs,σ2=σ++zs/\zs.length=k)/\te σ2 H2 λv H3=>∃m',m' < m/\W (i+1) m' (ys++[v]) H3)
def Uu(k:Nat)(wi:TI)(g:TG)(te:TE):TE:=λσ H Q=>wi σ H λJ H1=>Sk J k g te σ Q H1
abbrev Jb(J:It)(k:Nat)(g:TG)(tc:TT)(te:TE)(σ:St)(Q:VK)(H1:Hp):Prop:=∃W:Nat->Nat->List V->Hp->Prop,(∃m,W 0 m [] H1)/\∀i m ys H,W i m ys H->
 (J.stop i H/\ys.length<=sizeLine/\∀p,H p=none->Q (.ref p) (upd H p<|.lst ys))\/
 (J.go i H/\ys.length < sizeLine/\∀x H',J.yld i H x H'->g x (σ++List.replicate k none) H' λσ2 H2=>(∃zs,σ2=σ++zs/\zs.length=k)/\tc σ2 H2 λb H3=>if b=true then te σ2 H3 λv H4=>∃m',m' < m/\W (i+1) m' (ys++[v]) H4 else ∃m',m' < m/\W (i+1) m' ys H3)
def Hu(k:Nat)(wi:TI)(g:TG)(tc:TT)(te:TE):TE:=λσ H Q=>wi σ H λJ H1=>Jb J k g tc te σ Q H1
def Xe:TT:=λσ H Q=>Q true H
def Uq:Jb J k g Xe te=Sk J k g te:=by
 funext σ Q H1;unfold Xe;simp only[Sk,Jb,if_true]
def OA:Hu k wi g Xe te=Uu k wi g te:=by
 funext σ H Q;exact congrArg (wi σ H) (funext λJ=>funext λH1=>congrFun (congrFun (congrFun (Uq (J:=J)) σ) Q) H1)
def Tst(X:Cx)(scope:Scope)(xs:w1f)(fL:List Expr)(tc:TT):Prop:=(fL=[]/\tc=Xe)\/∃c,fL=[c]/\∀C s H fp pn,PT (F7 X scope xs C s H fp pn) c tc
def QF{prog:Program}{w:World}{A:Around}{R:Result->Shared->Prop}{s:Shared}{fq bY iter:Expr}{fL:List Expr}{scope:Scope}{pos:Pos}{it fJ:Value}{env:Env}(I:Nat->Shared->Prop){T:(Bool->Shared->Prop)->Shared->Prop}
    (hT:(fL=[]/\T=λΦ s=>Φ true s)\/∃c,fL=[c]/\T=λΦ s=>wpAny (model prog w) A (isTrue c env<|eval c env) Φ (λ_ _=>False) s)
    (turn:∀n s,I n s->wpAny (model prog w) A (pyNext it) (λr s₁=>match r with
     | none=>R (.ok .next) s₁
     | some v=>wpAny (model prog w) A (letOwnedTupleGo bY it v) (λ_ iA=>wpAny (model prog w) A (assign bY env v) (T (λok jF=>
         if ok=true then wpAny (model prog w) A (eval fq env) (λx s₃=>wpAny (model prog w) A (call (.builtin "list.append") [fJ,x]) (λ_ s₄=>∃m,m < n/\I m s₄) (λ_ _=>False) s₃) (λ_ _=>False) jF
         else ∃m,m < n/\I m jF) |> λf=>λ_=>f) (λ_ _=>False) iA) (λ_ _=>False) s₁) (λ_ _=>False) s)
    (n:Nat) (h:I n s) :
    codeAny (model prog w) A (.compLoop (.ListComp fq [⟨bY,iter,fL,0⟩] scope pos) 0 it fJ env) R s:=by
 show codeAny_loop rfl I (λn s hI=>?_) n h;show wpAny _ _ ((compTurn (.ListComp fq [⟨bY,iter,fL,0⟩] scope pos) 0 it fJ env).onRaise<|λx=>do noteFrame x env;theTreesLotGoes x) _ _ s;show wpAny_noted ?_;rcases hT with ⟨rfl,rfl⟩ | ⟨c,rfl,rfl⟩
 . rw[compTurn_list1];show wpAny_bind<|wpAny_standAt<|wpAny_bind<|wpAny_mono (turn n s hI) (λr s₁ h₁=>?_) λ_ _ h'=>h'.elim;cases r with
   | none=>exact wpAny_pure h₁
   | some v=>
    show wpAny_bind<|wpAny_mono h₁ (λ_ fF jS=>wpAny_bind<|wpAny_mono jS (λ_ s₂ h₂=>?_) λ_ _ h'=>h'.elim) λ_ _ h'=>h'.elim;have h₂:wpAny (model prog w) A (eval fq env) (λx s₃=>wpAny (model prog w) A (call (.builtin "list.append") [fJ,x]) (λ_ s₄=>∃m,m < n/\I m s₄) (λ_ _=>False) s₃) (λ_ _=>False) s₂:=h₂;exact wpAny_bind (wpAny_bind<|wpAny_mono h₂ (λx s₃ h₃=>wpAny_bind<|wpAny_mono h₃ (λ_ s₄ h₄=>wpAny_pure<|wpAny_pure ⟨U,h₄⟩) λ_ _ h'=>h'.elim) λ_ _ h'=>h'.elim)
 . rw[compTurn_list];show wpAny_bind<|wpAny_standAt<|wpAny_bind<|wpAny_mono (turn n s hI) (λr s₁ h₁=>?_) λ_ _ h'=>h'.elim;cases r with
   | none=>exact wpAny_pure h₁
   | some v=>
    show wpAny_bind<|wpAny_mono h₁ (λ_ fF jS=>wpAny_bind<|wpAny_mono jS (λ_ s₂ h₂=>wpAny_bind<|wpAny_tests_one<|wpAny_mono h₂ (λok s₃ h₃=>?_) λ_ _ h'=>h'.elim) λ_ _ h'=>h'.elim) λ_ _ h'=>h'.elim;cases ok with
    | false=>exact wpAny_pure ⟨U,h₃⟩
    | true=>
     exact wpAny_bind (wpAny_bind<|wpAny_mono h₃ (λx s₄ h₄=>wpAny_bind<|wpAny_mono h₄ (λ_ s₅ h₅=>wpAny_pure<|wpAny_pure ⟨U,h₅⟩) λ_ _ h'=>h'.elim) λ_ _ h'=>h'.elim)
def Zr{X:Cx}{fq:Expr}{fL:List Expr}{scope:Scope}{tc:TT}{xs:w1f}(ht:Tst X scope xs fL tc){C:Addr}{s0 s6:Shared}{H0 H6:Hp}{fp:List Addr}{pn pl:w1b}{σ6:St}{G:Bool->Hp->Prop}{Φ:Bool->Shared->Prop}
    (I6:r8 (F7 X scope xs C s0 H0 fp pn) pl σ6 H6 s6) (q6:tc σ6 H6 G) (k:∀ok s H,r8 (F7 X scope xs C s0 H0 fp pn) pl σ6 H s->G ok H->Φ ok s) :
    if fL=[]then Φ true s6 else wpAny (model X.prog X.w) X.A (isTrue (fL.headD fq) (compEnvC scope (Et X.env scope C) C X.env)<|eval (fL.headD fq)<|compEnvC scope (Et X.env scope C) C X.env) Φ (λ_ _=>False) s6:=by
 rcases ht with ⟨rfl,rfl⟩ | ⟨c,rfl,ht⟩
 . rw[if_pos rfl];exact k _ _ _ I6 q6
 . rw[if_neg<|by simp];exact K0 (ht _ _ _ _ _ _ s6 σ6 H6 _ I6 q6) λok jH ⟨ot,kZ,oS⟩=>k ok jH ot kZ oS
def Ks{X:Cx}{fq bY iter:Expr}{fL:List Expr}{scope:Scope}{pos:Pos}{g:TG}{tc:TT}{te:TE}{xs:w1f}(hc:X.calm=true)(ok:Q0 X.N X.env.scope scope)
    (hg:∀C s H fp pn,PG (F7 X scope xs C s H fp pn) bY g) (ht:Tst X scope xs fL tc) (he:∀C s H fp pn,PE (F7 X scope xs C s H fp pn) fq te)
    {aS:w1b} {σ:St} {Q:VK} {s2:Shared} {it:Addr} {fp:List Addr} {tn:Nat->Heap->Prop} {J:It} {H2:Hp} (I2:r8 X aS σ H2 s2) (T:Mq X.prog X.w X.K bY J fp it tn) (fS:tn 0 s2.heap) (f2:∀b∈fp,AK X aS H2 b) (h:Jb J xs.length g tc te σ Q H2)
    {PO:Value->Addr->Result->Shared->Prop}
    (iR:∀D C s4 H' ys mm,s4.heap.Ns C mm->r8 X aS σ (upd H' D<|.lst ys) s4->AK X aS H2 C->upd H' D (.lst ys) C=none->Q (.ref D) (upd H' D<|.lst ys)->PO (.ref D) C (.ok .next) s4) :
    wpAny (model X.prog X.w) X.A (newList []) (λfJ s₃=>wpAny (model X.prog X.w) X.A (newFunctionEnv scope X.env.globals (N7 X.env.cells scope.names []) [] X.env.qual none Value.none<|some X.env) (λoh s₄=>codeAny (model X.prog X.w) X.A (.compStart (.ListComp fq [⟨bY,iter,fL,0⟩] scope pos) 0 (.ref it) fJ { oh with scope:=relabel scope X.env }) (PO fJ oh.locals) s₄) X.xe s₃) X.xe s2:=by
 obtain⟨W,⟨m0,w0⟩,turn⟩:=h;show wpAny_newObj_type<|NH λh₁ gJ gH gM=>?_;dsimp only at gJ gH gM ⊢;generalize hD:s2.heap.objs.size=D;generalize uc:s2.heap.push { cls:=.type "list",dict:=none,data:=.seq ([]:w1g).toArray }=h3 at gJ gH gM ⊢;have pq:∀b o,s2.heap.get? b=some o->h3.get? b=some o:=λb o e=>uc▸ak _ e;have hC:h3.objs.size=D+1:=by rw[<- uc,bu,hD]
 have eD3:h3.get? D=some { cls:=.type "list",dict:=none,data:=.seq ([]:w1g).toArray }:=by rw[<- uc,<- hD];exact aF _ rfl
 have I3:r8 X aS σ H2 { s2 with heap:=h3 }:=I2.kept (t':=s2.toks) pq;have fD:AK X aS H2 D:=I2.fpOk Z<|I2.hok.fresh Z;have rL:∀b∈fp,b < D:=λb hb=>by
  obtain⟨o,e,_⟩:=T.obj 0 _ fS b hb;rw[<- hD];exact ao e
 have f3:∀b∈D::fp,AK X aS H2 b:=λb hb=>by
  rcases au.mp hb with rfl | hb
  . exact fD
  . exact f2 b hb
 have lG:∀b∈D::fp,b < ({ s2 with heap:=h3 }:Shared).heap.objs.size:=λb hb=>by
  show b < h3.objs.size;rcases au.mp hb with rfl | hb
  . rw[hC];exact cE _
  . rw[hC];exact Nat.lt_succ_of_lt (rL b hb)
 have pj:∀b o,h3.get? b=some o->h₁.get? b=some o:=gH;have mE:=RV (C:=h3.objs.size) (xs:=xs) I3 ok f3 lG<|ae _;have I4:=QE (C:=h3.objs.size) (xs:=xs) (t':=s2.toks+([]:List (Str × Value)).length) I3 ok f3 lG (ae _) gJ pj gM;have mD:D∈D::fp:=ax;have jt:∀b∈D::fp,b≠h3.objs.size:=λb hb=>(mE.exf b hb).1;have gG:∀{H':Hp} {pl:w1b},(∀b∈fp,H' b=none)->(∀p∈pl,p.1=D)->∀b∈fp,AK (F7 X scope xs h3.objs.size { s2 with heap:=h3 } H2 (D::fp)<|X.pn++aS) pl H' b:=λhn fX b hb=>by
  have gX:b∈D::fp:=aA _ hb;show⟨hn b hb,jt b gX,mE.exfs b gX,.inl gX,(mE.exf b gX).2,λp hp=>?_⟩;rcases av.mp hp with hp | hp
  . exact(f2 b hb).2.2.2.2.2 p hp
  . rw[fX p hp];exact bZ (rL b hb)
 have mM:codeAny (model X.prog X.w) X.A (.compLoop (.ListComp fq [⟨bY,iter,fL,0⟩] scope pos) 0 (.ref it) (.ref D)<|compEnvC scope (Et X.env scope h3.objs.size) h3.objs.size X.env)
     (PO (.ref D) h3.objs.size) { s2 with heap:=h₁,toks:=s2.toks+([]:List (Str × Value)).length }:=by
  show QF (T:=λΦ s=>if fL=[]then Φ true s else wpAny (model X.prog X.w) X.A (isTrue (fL.headD fq) (compEnvC scope (Et X.env scope h3.objs.size) h3.objs.size X.env)<|eval (fL.headD fq)<|compEnvC scope (Et X.env scope h3.objs.size) h3.objs.size X.env) Φ (λ_ _=>False) s) (λn s'=>∃i ys its k H',r8 (F7 X scope xs h3.objs.size { s2 with heap:=h3 } H2 (D::fp)<|X.pn++aS) [] (σ++List.replicate xs.length none) H' s'/\
   s'.heap.get? D=some { cls:=.type "list",data:=.seq (its:w1g).toArray k }/\z9 ys its/\H' D=none/\tn i s'.heap/\(∀b∈fp,H' b=none)/\W i n ys H') ?hT ?_ m0
   ⟨0,[],[],_,H2,I4,pj _ _ eD3,.nil,fD.1,T.keep _ _ _ fS<|λb _ o e=>pj b o<|pq b o e,λb hb=>(f2 b hb).1,w0⟩
  case hT=>
   rcases ht with ⟨rfl,_⟩ | ⟨c,rfl,_⟩
   . exact .inl ⟨U,by funext Φ s;exact if_pos U⟩
   . exact .inr ⟨c,U,by funext Φ s;exact if_neg<|by simp⟩
  rintro n s' ⟨i,ys,its,k,H',I',eD,rv,nD,st,fr,w⟩;have Ip:=I'.pins_of (pins':=[(D,{ cls:=.type "list",data:=.seq its.toArray k })]) λp hp=>by
   rw[ar]at hp;subst hp;exact⟨eD,nD,jt D mD,mE.exfs D mD,λv z=>by cases z⟩
  have one:∀p∈[(D,({ cls:=.type "list",data:=.seq its.toArray k }:Obj))],p.1=D:=λp hp=>by rw[ar]at hp;rw[hp]
  rcases turn i n ys H' w with ⟨stop,hz,q⟩ | ⟨go,hz,step⟩
  . show K0 (T.done (F7 X scope xs h3.objs.size { s2 with heap:=h3 } H2 (D::fp)<|X.pn++aS) U U U hc i _ s' _ H' (λ_ _=>False) Ip (gG fr one) st stop) λr s4 ⟨hr,J4⟩=>?_;subst hr;obtain⟨mm,nh,_⟩:=J4.loc;obtain⟨eD4,rJ,_⟩:=J4.pin (D,{ cls:=.type "list",data:=.seq its.toArray k })<|aK _ ax;have u0:Un (HH X.stack) (D::fp) H2 H' h3 s4.heap:=J4.base;have u:Un (HH X.stack) (D::fp) H2 H' s2.heap s4.heap:=(Un.kept pq).trans u0;have os4:s4.os=s2.os:=J4.os;have nC4:H' h3.objs.size=none:=J4.free;have IX:r8 X aS σ (upd H' D<|.lst ys) s4:=I2.call' (s':=s4) (ch:=D::fp) os4 (u.track Z rJ) (J4.hok.track rJ ⟨hz,its,k,rv,eD4⟩) J4.bare (λb hb=>by
     have z:=f3 b hb;exact⟨z.2.2.2.1,z.2.1,z.2.2.2.2.1,z.2.2.2.2.2⟩)
    have fC:AK X aS H2 h3.objs.size:=I2.fpOk Z<|I2.hok.fresh Z;have mL:upd H' D (.lst ys) h3.objs.size=none:=by rw[l9<|Ne.symm<|jt D mD];exact nC4
    exact iR _ _ _ _ _ _ nh IX fC mL (q D rJ)
  . show K0 (T.item (F7 X scope xs h3.objs.size { s2 with heap:=h3 } H2 (D::fp)<|X.pn++aS) U U U hc i _ s' _ H' (λ_ _=>False) Ip (gG fr one) st go) λr s4 ⟨u,hr,h4⟩=>?_;subst hr;show K0 h4 λ_ s5 ⟨x,H5,I5,r5,y5,ji,fr5⟩=>?_;have uL:=I5.pinned (gG fr5 one)<|T.obj _ _ ji;show K0 (hg _ _ _ _ _ _ s5 _ H5 x u _ uL r5<|step x H5 y5) λ_ s6 ⟨σ6,H6,I6,⟨zs,hz6,hl6⟩,q6⟩=>?_;have jm:∀{s7:Shared} {σ7:St} {H7:Hp},r8 (F7 X scope xs h3.objs.size { s2 with heap:=h3 } H2 (D::fp)<|X.pn++aS) ([(D,{ cls:=.type "list",data:=.seq its.toArray k })]++Ih fp s5.heap) σ7 H7 s7->∀b∈fp,∀o,s5.heap.get? b=some o->s7.heap.get? b=some o/\H7 b=none:=λI7 b hb o e=>
     ⟨(I7.pin (b,o)<|aK _<|aK _<|Bu hb e).1,(I7.pin (b,o)<|aK _<|aK _<|Bu hb e).2.1⟩
    have back:∀{H7:Hp} {s7:Shared},r8 (F7 X scope xs h3.objs.size { s2 with heap:=h3 } H2 (D::fp)<|X.pn++aS) [] σ6 H7 s7->r8 (F7 X scope xs h3.objs.size { s2 with heap:=h3 } H2 (D::fp)<|X.pn++aS) [] (σ++List.replicate xs.length none) H7 s7:=λI8=>
     I8.weak (by rw[hz6,aq,aq,dz,hl6]) (λj v' e=>by
      have hj:j < σ.length:=by
       by_cases hj:j < σ.length
       . exact hj
       . rw[aZ Z,dQ]at e;split at e <;>cases e
      rw[aY hj]at e;rw[hz6,aY hj];exact e)
    show Zr ht I6 q6 λok jH ot kZ oS=>?_;cases ok with
    | false=>
     obtain⟨m',gm,w7⟩:=(show ∃m',m' < n/\W (i+1) m' ys ot from oS);obtain⟨nZ,oZ,_⟩:=kZ.pin (D,{ cls:=.type "list",data:=.seq its.toArray k })<|aK _<|bc _ ax;show⟨m',gm,i+1,ys,its,_,ot,back (kZ.pins_of (pins':=[]) λp hp=>by cases hp),nZ,rv,oZ,T.keep _ _ _ ji<|λb hb o e=>(jm kZ b hb o e).1,λb hb=>?_,w7⟩;obtain⟨o,e,_⟩:=T.obj _ _ ji b hb;exact(jm kZ b hb o e).2
    | true=>
     show K0 (he _ _ _ _ _ _ jH σ6 ot _ kZ oS) λxv s7 ⟨v,H7,I7,r7,m',gm,w7⟩=>?_;obtain⟨nZ,oZ,_⟩:=I7.pin (D,{ cls:=.type "list",data:=.seq its.toArray k })<|aK _<|bc _ ax;have len:=rv.length;show call_meets F.slot_list_append ⟨_,nZ,U⟩ F.entry_list_append (F.args_list_append_2 _ _) (PySem.list_append D its.toArray k xv<|by rw[ay];omega) ⟨nZ,?_⟩;have q:=PySem.IsL.update nZ<|λa=>a.push xv;have jJ:∀b o,b≠D->s7.heap.get? b=some o->(s7.heap.update D<|Obj.mapSeq λa=>a.push xv).get? b=some o:=λb o hb e=>(dW s7.heap _<|Ne.symm hb).trans e;have I7':=I7.pins_of (pins':=[]) λp hp=>by cases hp
     have I8:=I7'.turned (t':=s7.toks) (it:=D) jJ oZ (jt D mD) (.inl mD) (mE.exf D mD).2 (λp hp=>by
      rw[bw]at hp;exact fD.2.2.2.2.2 p hp)
     have e9:its.toArray.push xv=(its++[xv]).toArray:=by simp
     rw[e9]at q;show⟨m',gm,i+1,ys++[v],its++[xv],_,H7,back I8,q,rv.append<|.cons r7 .nil,oZ,T.keep _ _ _ ji<|λb hb o e=>jJ b o (aC<|rL b hb) (jm I7 b hb o e).1,λb hb=>?_,w7⟩;obtain⟨o,e,_⟩:=T.obj _ _ ji b hb;exact(jm I7 b hb o e).2
 exact codeAny_compStart_list mM (T.self _ 0 _ _ _ (T.keep _ _ _ fS λb _ o e=>pj b o<|pq b o e) mM)
def Nr{X:Cx}{fq bY iter:Expr}{fL:List Expr}{scope:Scope}{pos:Pos}{wi:TI}{g:TG}{tc:TT}{te:TE}{xs:w1f}(hc:X.calm=true)(ok:Q0 X.N X.env.scope scope)(hi:PI X bY iter wi)
    (hg:∀C s H fp pn,PG (F7 X scope xs C s H fp pn) bY g) (ht:Tst X scope xs fL tc) (he:∀C s H fp pn,PE (F7 X scope xs C s H fp pn) fq te)
    (hs:∀x,foldedSetIterable iter X.env x=pure x):PE X (.ListComp fq [⟨bY,iter,fL,0⟩] scope pos) (Hu xs.length wi g tc te):=by
 intro aS s σ H Q I h;rw[eval_ListComp];show wpAny_comprehension_free (use:=none) rfl hs (CS<|Dj I ok) ok.kind ok.names<|K0 (hi aS s σ H _ I h) λv s1 h1=>K0 h1 λpB s2 h2=>?_;obtain⟨it,fp,tn,J,H2,rfl,I2,T,fS,f2,h⟩:=h2;show Ks hc ok hg ht he I2 T fS f2 h (PO:=λfJ C=>compPost (model X.prog X.w) X.A X.xe none (EP X aS σ Q) fJ C) λD C s4 H' ys mm nh IX fC mL q=>⟨mm,nh,λh' sb=>?_⟩;exact⟨.ref D,_,IX.turned (t':=s4.toks) (it:=C) (λb o hb e=>sb.extBut b o hb e) mL fC.2.1 fC.2.2.2.1 fC.2.2.2.2.1 fC.2.2.2.2.2,U,q⟩
def x8{X:Cx}{fq bY iter:Expr}{scope:Scope}{pos:Pos}{wi:TI}{g:TG}{te:TE}{xs:w1f}(hc:X.calm=true)(ok:Q0 X.N X.env.scope scope)(hi:PI X bY iter wi)
    (hg:∀{C s H fp pn},PG (F7 X scope xs C s H fp pn) bY g) (he:∀{C s H fp pn},PE (F7 X scope xs C s H fp pn) fq te)
    (hs:∀x,foldedSetIterable iter X.env x=pure x:=by intro _;rfl):PE X (.ListComp fq [⟨bY,iter,[],0⟩] scope pos) (Uu xs.length wi g te):=OA▸Nr hc ok hi (λ_ _ _ _ _=>hg) (.inl ⟨U,U⟩) (λ_ _ _ _ _=>he) hs
abbrev Cx.rn(X:Cx)(i:Nat)(y:Str):Cx:={ X with N:=X.N.set i y }
section
variable{X:Cx}{aS:w1b}{σ:St}{H:Hp}{s:Shared}{i:Nat}{y:Str}
theorem r8.rn(I:r8 X aS σ H s)(h:σ[i]? = some none):r8 (X.rn i y) aS σ H s:=
 ⟨⟨I.ok.mod,I.ok.kind,I.ok.glob,I.ok.blt,I.ok.above,I.ok.inj,I.ok.has,I.ok.cab,I.ok.hd,I.ok.frames,I.ok.stk,I.ok.exf,I.ok.bs,I.ok.bsz,I.ok.noex,I.ok.exfs,I.ok.funs,I.ok.frf⟩,I.os,I.bare,I.base,
  let⟨m,hn,hl⟩:=I.loc;⟨m,hn,λj x v e1 e2 e3=>by
   by_cases z:i=j
   . subst z;rw[h]at e2;cases e2
   . exact hl j x v (by rw[<- e1];exact(bL z).symm) e2 e3⟩,I.cell,I.free,I.freeC,I.pin,I.hok,by rw[I.len];exact bK.symm⟩
def r8.unrn(ok:X.Ok)(I:r8 (X.rn i y) aS σ H s)(h:σ[i]? = some none):r8 X aS σ H s:=
 ⟨ok,I.os,I.bare,I.base,let⟨m,hn,hl⟩:=I.loc;⟨m,hn,λj x v e1 e2 e3=>by
     by_cases z:i=j
     . subst z;rw[h]at e2;cases e2
     . exact hl j x v (by rw[<- e1];exact bL z) e2 e3⟩,I.cell,I.free,I.freeC,I.pin,I.hok,by rw[I.len];exact bK⟩
def Lj(i:Nat)(y:Str)(h:PE (X.rn i y) e t):PE X e (λσ H Q=>σ[i]? = some none/\t σ H Q):=by intro aS s σ H Q I ⟨hi,q⟩;exact K0 (h aS s σ H Q (I.rn hi) q) λv s1 ⟨x,H1,I1,r,q1⟩=>⟨x,H1,I1.unrn I.ok hi,r,q1⟩
end
def SV{X:Cx}{fq bY iter c:Expr}{scope:Scope}{pos:Pos}{wi:TI}{g:TG}{tc:TT}{te:TE}{xs:w1f}(hc:X.calm=true)(ok:Q0 X.N X.env.scope scope)(hi:PI X bY iter wi)
    (hg:∀{C s H fp pn},PG (F7 X scope xs C s H fp pn) bY g) (ht:∀{C s H fp pn},PT (F7 X scope xs C s H fp pn) c tc) (he:∀{C s H fp pn},PE (F7 X scope xs C s H fp pn) fq te)
    (hs:∀x,foldedSetIterable iter X.env x=pure x:=by intro _;rfl):PE X (.ListComp fq [⟨bY,iter,[c],0⟩] scope pos) (Hu xs.length wi g tc te):=Nr hc ok hi (λ_ _ _ _ _=>hg) (.inr ⟨c,U,(λ_ _ _ _ _=>ht)⟩) (λ_ _ _ _ _=>he) hs
def XI{X:Cx}{i₀:Nat}{x₀:Str}{fy fW:Pos}{fq bY iter:Expr}{fL:List Expr}{scope:Scope}{pos:Pos}{wi:TI}{g:TG}{tc:TT}{te:TE}{xs:w1f}(hN:X.N.Nodup)(iN:X.N[i₀]? = some x₀)(iH:d0p X.env.scope x₀)(hc:X.calm=true)(ok:Q0 X.N X.env.scope scope)(hi:PI X bY iter wi)
    (hg:∀C s H fp pn,PG (F7 X scope xs C s H fp pn) bY g) (ht:Tst X scope xs fL tc) (he:∀C s H fp pn,PE (F7 X scope xs C s H fp pn) fq te)
    (hs:∀x,foldedSetIterable iter X.env x=pure x) (hw:swapsWith (.ListComp fq [⟨bY,iter,fL,0⟩] scope pos) (some<|.Name x₀ fy) fW.line X.env=pure true)
    (iP:X.fn x₀=true\/X.env.scope.names.lookup x₀=some .local) :
    PS X (.Assign [.Name x₀ fy] (.ListComp fq [⟨bY,iter,fL,0⟩] scope pos) fW) (MI (Hu xs.length wi g tc te)<|R7 i₀):=by
 intro aS s σ H D₀ I h;rw[exec_Assign_Name_used _ _ _ _ hw];show wpAny_bind<|wpAny_standAt<|wpAny_bind ?_;show wpAny _ _ (comprehension _ _ _ _ _ _ _ _ >>= _) _ _ _;show wpAny_bind<|wpAny_comprehension_free (Q:=λ_ s'=>wpAny (model X.prog X.w) X.A (pure ()) (λ_ iB=>wpAny (model X.prog X.w) X.A (pure Flow.next) (SP X aS D₀) X.xe iB) X.xe s') (use:=some<|assign (.Name x₀ fy) X.env) U hs (CS<|Dj I ok) ok.kind ok.names<|K0 (hi aS s σ H _ I h) λv s1 h1=>K0 h1 λpB s2 h2=>?_;obtain⟨it,fp,tn,J,H2,rfl,I2,T,fS,f2,h⟩:=h2;show Ks hc ok hg ht he I2 T fS f2 h (PO:=λfJ C=>compPost (model X.prog X.w) X.A X.xe (some<|assign (.Name x₀ fy) X.env) (λ_ s'=>wpAny (model X.prog X.w) X.A (pure ()) (λ_ iB=>wpAny (model X.prog X.w) X.A (pure Flow.next) (SP X aS D₀) X.xe iB) X.xe s') fJ C) λD C s4 H' ys mm nh IX fC mL q=>?_;show wpAny_assign_Name (Kd IX hN iN iH (v:=.ref D) U (λs5 I5 ⟨a5,sb5,kR⟩=>⟨mm,?_,λh' sb=>?_⟩) iP)
 . have:C≠a5:=by
    rcases kR with e | e
    . rw[e];exact fC.2.1
    . exact Ne.symm (fC.2.2.2.2.1 x₀ a5 e)
   obtain⟨o,es,ep,e,r⟩:=nh;exact⟨o,es,ep,sb5.extBut _ _ this e,r⟩
 . exact wpAny_pure (wpAny_pure ⟨_,_,I5.turned (t':=s5.toks) (it:=C) (λb o hb e=>sb.extBut b o hb e) mL fC.2.1 fC.2.2.2.1 fC.2.2.2.2.1 fC.2.2.2.2.2,q⟩)
def P5{X:Cx}{i₀:Nat}{x₀:Str}{fy fW:Pos}{fq bY iter:Expr}{scope:Scope}{pos:Pos}{wi:TI}{g:TG}{te:TE}{xs:w1f}(hN:X.N.Nodup)(iN:X.N[i₀]? = some x₀)(iH:d0p X.env.scope x₀)(hc:X.calm=true)(ok:Q0 X.N X.env.scope scope)(hi:PI X bY iter wi)
    (hg:∀{C s H fp pn},PG (F7 X scope xs C s H fp pn) bY g) (he:∀{C s H fp pn},PE (F7 X scope xs C s H fp pn) fq te)
    (hs:∀x,foldedSetIterable iter X.env x=pure x:=by intro _;rfl) (hw:swapsWith (.ListComp fq [⟨bY,iter,[],0⟩] scope pos) (some<|.Name x₀ fy) fW.line X.env=pure true:=by rfl)
    (iP:X.fn x₀=true\/X.env.scope.names.lookup x₀=some .local:=by first | exact .inl rfl | exact .inr rfl | assumption) :
    PS X (.Assign [.Name x₀ fy] (.ListComp fq [⟨bY,iter,[],0⟩] scope pos) fW) (MI (Uu xs.length wi g te)<|R7 i₀):=OA▸XI hN iN iH hc ok hi (λ_ _ _ _ _=>hg) (.inl ⟨U,U⟩) (λ_ _ _ _ _=>he) hs hw iP
def Vb{X:Cx}{st:Stmt}{te:TE}{i₀:Nat}(i:Nat)(y:Str)(hi:i₀≠i)(h:PS (X.rn i y) st (MI te<|R7 i₀)):PS X st (λD σ H=>σ[i]? = some none/\MI te (R7 i₀) D σ H):=by
 intro aS s σ H D I ⟨h0,q⟩;have e:(λv H1=>(σ.set i₀<|some v)[i]? = some none/\D.nx (σ.set i₀<|some v) H1)=λv H1=>D.nx (σ.set i₀<|some v) H1:=by
  funext v H1;exact propext ⟨λz=>z.2,λz=>⟨by rw[bL hi];exact h0,z⟩⟩
 have q':MI te (R7 i₀) { D with nx:=λσ' H'=>σ'[i]? = some none/\D.nx σ' H',rt:=λ_ _=>False,bk:=λ_ _=>False,ct:=λ_ _=>False } σ H:=by show te σ H λv H1=>(σ.set i₀<|some v)[i]? = some none/\D.nx (σ.set i₀<|some v) H1;rw[e];exact q
 show K0 (h aS s σ H _ (I.rn h0) q') λf s1 sp=>?_;cases f with
 | next=>
  obtain⟨σ',H',I',z,n⟩:=sp;exact⟨σ',H',I'.unrn I.ok z,n⟩
 | ret v=>obtain⟨_,_,_,_,_,z⟩:=sp;exact z.elim
 | brk=>obtain⟨_,_,_,z⟩:=sp;exact z.elim
 | cont=>obtain⟨_,_,_,z⟩:=sp;exact z.elim
section
variable{prog:Program}{w:World}{A:Around}{E:w1c}{s:Shared}
def PR{I t:Addr}{i:Nat}{vs:Array Value}{x:Value}{Q:w1c}(hI:s.heap.IsTupleIter I t i)(ht:s.heap.IsTuple t vs)(e:vs[i]? = some x)
    (q:∀h',h'.IsTupleIter I t (i+1)->Heap.SameBut I s.heap h'->Q x { s with heap:=h' }):wpAny (model prog w) A (Builtin.SmallTypes.nextOf<|.ref I) Q E s:=by
 obtain⟨o,eo,co,fo⟩:=id hI;obtain⟨u,eu,_,n,fu⟩:=ht;unfold Builtin.SmallTypes.nextOf;show wpAny_bind<|wpAny_callSpecial?_slot (name:=Str.ofString "__next__") hI.typeIs F.slot_tuple_iterator_next<|wpAny_call_entry F.slot_tuple_iterator_next hI.typeIs F.entry_tuple_iterator_next ?_<|F.args_tuple_iterator_next_1 _;show wpAny _ _ (field (.ref I) 0 >>= _) _ _ s;show wpAny_bind<|wpAny_field eo fo (x:=.ref t) U ?_;show wpAny _ _ (if(Value.ref t == Value.none)=true then _ else _) _ _ s;rw[if_neg<|show ¬((Value.ref t == Value.none)=true)from aI];show wpAny _ _ (field (.ref I) 1 >>= _) _ _ s;show wpAny_bind<|wpAny_field eo fo (x:=.int i 0) U ?_;show wpAny _ _ (seqItems? (.ref t) >>= _) _ _ s;show wpAny_bind<|wpAny_seqItems eu fu ?_;simp only[Int.toNat_natCast,e];show wpAny_bind (wpAny_setField eo fo (by simp)<|wpAny_pure ⟨x,U,wpAny_pure<|q _ ?_<|Heap.SameBut.update ..⟩);exact⟨_,Heap.get?_update_self _ eo<|Obj.isFreed_of_fields<|Obj.data_mapFields fo _,(Obj.cls_mapFields ..).trans co,by rw[Obj.data_mapFields fo];simp[rawInt]⟩
def Tc{I t:Addr}{i:Nat}{vs:Array Value}{Q:w1c}(hh:A.handled=none)(hI:s.heap.IsTupleIter I t i)(ht:s.heap.IsTuple t vs)(e:vs[i]? = none)
    (q:∀h' x,Heap.ExtBut I s.heap h'->(∃o,h'.get? x=some o/\o.cls=.type "StopIteration")->E (.ref x) { s with heap:=h' }):wpAny (model prog w) A (Builtin.SmallTypes.nextOf<|.ref I) Q E s:=by
 obtain⟨o,eo,co,fo⟩:=id hI;obtain⟨u,eu,_,n,fu⟩:=ht;unfold Builtin.SmallTypes.nextOf;show wpAny_bind<|wpAny_callSpecial?_slot (name:=Str.ofString "__next__") hI.typeIs F.slot_tuple_iterator_next<|wpAny_call_entry F.slot_tuple_iterator_next hI.typeIs F.entry_tuple_iterator_next ?_<|F.args_tuple_iterator_next_1 _;show wpAny _ _ (field (.ref I) 0 >>= _) _ _ s;show wpAny_bind<|wpAny_field eo fo (x:=.ref t) U ?_;show wpAny _ _ (if(Value.ref t == Value.none)=true then _ else _) _ _ s;rw[if_neg<|show ¬((Value.ref t == Value.none)=true)from aI];show wpAny _ _ (field (.ref I) 1 >>= _) _ _ s;show wpAny_bind<|wpAny_field eo fo (x:=.int i 0) U ?_;show wpAny _ _ (seqItems? (.ref t) >>= _) _ _ s;show wpAny_bind<|wpAny_seqItems eu fu ?_;simp only[Int.toNat_natCast,e];show wpAny_bind (wpAny_rule<|wpAny_bind<|wpAny_setField eo fo (by simp) ?_);show wpAny _ _ (newExc (.type "StopIteration") [] >>= _) _ _ _;show wpAny_bind ?_;simp only[newExc,newTuple];show wpAny_bind (wpAny_newObj_type ?_<|by size_fits);show wpAny_bind (m:=firstArgMember _ _) (wpAny_of_eq (a:=Value.none) (by first | rfl | (simp only[firstArgMember];rfl)) ?_);show wpAny_newObj_type ?_ (by size_fits);simp only[raiseNew];show wpAny_bind (wpAny_handled ?_)
 first | rw[show A.in1.handled=none from hh] | rw[hh]
 show wpAny_bind<|wpAny_pure<|wpAny_throw ?_;exact q _ _ (((Heap.SameBut.update ..).extBut.push _).push _) ⟨_,aF _ rfl,rfl⟩
end
inductive Sr
 | lst (a:Addr)
 | tup (a:Addr)
 | str (x:Str)
def Sr.it:Sr->Heap->Addr->Nat->Prop
 | .lst a,h,I,i=>h.IsListIter I a i
 | .tup a,h,I,i=>h.IsTupleIter I a i
 | .str x,h,I,i=>∃t,h.IsStrIter I (strIterType x) x t i
def Sr.has:Sr->Heap->Array Value->Prop
 | .lst a,h,vs=>h.IsList a vs
 | .tup a,h,vs=>h.IsTuple a vs
 | .str x,_,vs=>vs.size=x.cps.size
def Sr.is:Sr->Array Value->Nat->Value->Prop
 | .lst _,vs,i,v=>vs[i]? = some v
 | .tup _,vs,i,v=>vs[i]? = some v
 | .str x,_,i,v=>∃c u,x.cps[i]? = some c/\v=.str ⟨#[c]⟩ u
def Sr.fp:Sr->Addr->List Addr
 | .lst a,I=>[I,a]
 | .tup a,I=>[I,a]
 | .str _,I=>[I]
def Sr.off:Sr->Addr->Prop
 | .lst a,I=>a≠I
 | .tup a,I=>a≠I
 | .str _,_=>True
def Sr.fp_off{S:Sr}{I b:Addr}(h:S.off b)(hb:b≠I):b ∉ S.fp I:=by
 cases S <;>simp[Sr.fp,Sr.off]at h ⊢ <;>first | exact⟨hb,Ne.symm h⟩ | exact hb
def Sr.it.mv{S:Sr}{h h':Heap}{I:Addr}{i:Nat}(x:S.it h I i)(k:∀o,h.get? I=some o->h'.get? I=some o):S.it h' I i:=by
 cases S with
 | lst a=>obtain⟨o,e,r⟩:=x;exact⟨o,k o e,r⟩
 | tup a=>obtain⟨o,e,r⟩:=x;exact⟨o,k o e,r⟩
 | str z=>obtain⟨t,o,e,r⟩:=x;exact⟨t,o,k o e,r⟩
def Sr.it.obj{S:Sr}{h:Heap}{I:Addr}{i:Nat}(x:S.it h I i):∃o,h.get? I=some o/\∀v,o.data≠.cell v:=by
 cases S with
 | lst a=>obtain⟨o,e,_,d⟩:=x;exact⟨o,e,λv z=>by rw[d]at z;cases z⟩
 | tup a=>obtain⟨o,e,_,d⟩:=x;exact⟨o,e,λv z=>by rw[d]at z;cases z⟩
 | str z=>obtain⟨t,o,e,_,d⟩:=x;exact⟨o,e,λv z=>by rw[d]at z;cases z⟩
def Sr.has.mv{S:Sr}{h h':Heap}{vs:Array Value}{I:Addr}(x:S.has h vs)(k:∀b o,b≠I->h.get? b=some o->h'.get? b=some o)(off:S.off I):S.has h' vs:=by
 cases S with
 | lst a=>obtain⟨o,e,r⟩:=x;exact⟨o,k a o off e,r⟩
 | tup a=>obtain⟨o,e,r⟩:=x;exact⟨o,k a o off e,r⟩
 | str z=>exact x
def Sr.draws(S:Sr)(hh:A.handled=none)(I:Addr)(off:S.off I)(vs:Array Value) :
    Draws prog w A I (S.fp I) vs.size (S.is vs) (λi h=>S.it h I i/\S.has h vs):=by
 cases S with
 | lst a=>exact Draws.list hh I a off vs
 | tup a=>exact{
     live:=λ_ _ st=>let⟨o,e,_⟩:=st.1;⟨o,e⟩
     frame:=λ_ _ _ st k=>⟨let⟨o,e,r⟩:=st.1;⟨o,k I (by simp[Sr.fp]) o e,r⟩,let⟨o,e,r⟩:=st.2;⟨o,k a (by simp[Sr.fp]) o e,r⟩⟩
     item:=λi s Q E hi st q=>PR st.1 st.2 (x:=vs[i]) (by simp[hi]) λh' a' b'=>q _ h' s.toks (show vs[i]? = some vs[i] by simp[hi]) ⟨a',Heap.IsTuple.extBut st.2 b'.extBut off⟩ b'
     done:=λs Q E st q=>Tc hh st.1 st.2 (by simp) q }
 | str x=>
  cases ha:x.cps.all (· < 128)with
  | true=>
   have e:strIterType x="str_ascii_iterator":=by simp[strIterType,ha]
   exact{
    live:=λ_ _ st=>let⟨_,o,e,_⟩:=st.1;⟨o,e⟩
    frame:=λ_ _ _ st k=>⟨let⟨t,o,e,r⟩:=st.1;⟨t,o,k I (by simp[Sr.fp]) o e,r⟩,st.2⟩
    item:=λi s Q E hi st q=>by
     obtain⟨⟨t,g⟩,z⟩:=st;have hz:vs.size=x.cps.size:=z;rw[e]at g;exact(Draws.strAscii (prog:=prog) (w:=w) hh I x t).item i s Q E Z g λv h' tk p st' sb=>q v h' tk p ⟨⟨t,by rw[e];exact st'⟩,z⟩ sb
    done:=λs Q E st q=>by
     obtain⟨⟨t,g⟩,z⟩:=st;have hz:vs.size=x.cps.size:=z;rw[e,hz]at g;exact(Draws.strAscii (prog:=prog) (w:=w) hh I x t).done s Q E g q }
  | false=>
   have e:strIterType x="str_iterator":=by simp[strIterType,ha]
   exact{
    live:=λ_ _ st=>let⟨_,o,e,_⟩:=st.1;⟨o,e⟩
    frame:=λ_ _ _ st k=>⟨let⟨t,o,e,r⟩:=st.1;⟨t,o,k I (by simp[Sr.fp]) o e,r⟩,st.2⟩
    item:=λi s Q E hi st q=>by
     obtain⟨⟨t,g⟩,z⟩:=st;have hz:vs.size=x.cps.size:=z;rw[e]at g;exact(Draws.strWide (prog:=prog) (w:=w) hh I x t).item i s Q E Z g λv h' tk p st' sb=>q v h' tk p ⟨⟨t,by rw[e];exact st'⟩,z⟩ sb
    done:=λs Q E st q=>by
     obtain⟨⟨t,g⟩,z⟩:=st;have hz:vs.size=x.cps.size:=z;rw[e,hz]at g;exact(Draws.strWide (prog:=prog) (w:=w) hh I x t).done s Q E g q }
structure ZA(S1 S2:Sr)(z TI TO i1 i2:Addr):Prop where
 a:TI≠z
 b:TO≠z
 c:i1≠z
 d:i2≠z
 e:TI≠TO
 f:TI≠i1
 g:TI≠i2
 h:TO≠i1
 i:TO≠i2
 j:i1≠i2
 k:∀x∈[z,TO,i1,i2],S1.off x/\S2.off x
structure ZS(S1 S2:Sr)(v1 v2:Array Value)(z TI TO i1 i2:Addr)(n:Nat)(u:Value)(h:Heap):Prop where
 z:IsZip h z TI TO u
 ti:IsPair h TI (.ref i1) (.ref i2)
 to:∃x y,IsPair h TO x y
 s1:S1.it h i1 n
 s2:S2.it h i2 n
 h1:S1.has h v1
 h2:S2.has h v2
section
variable{prog:Program}{w:World}{A:Around}{E:w1c}{s:Shared}{S1 S2:Sr}{v1 v2:Array Value}{z TI TO i1 i2:Addr}{n:Nat}
def Ua(D:ZA S1 S2 z TI TO i1 i2)(hh:A.handled=none)(a1v:ZS S1 S2 v1 v2 z TI TO i1 i2 n .none s.heap)(l1:n < v1.size)(l2:n < v2.size){Q:w1c}
    (q:∀x y h' tk,S1.is v1 n x->S2.is v2 n y->ZS S1 S2 v1 v2 z TI TO i1 i2 (n+1) (rawInt s.heap.objs.size) h'->IsPair h' s.heap.objs.size x y->h'.objs.size=s.heap.objs.size+1->
     (∀c o,c≠z->c≠TO->c≠i1->c≠i2->s.heap.get? c=some o->h'.get? c=some o)->Q (.ref s.heap.objs.size) { s with heap:=h',toks:=tk }) :
    wpAny (model prog w) A (Builtin.«zip.__next__» ⟨[.ref z],[]⟩) (λfin s'=>∃v,fin=.done (.ret v)/\Q v s') E s:=by
 obtain⟨hp,g0,d0,uX,os0⟩:=s;obtain⟨Zz,Zi,⟨x0,y0,Zo⟩,Z1,Z2,Y1,Y2⟩:=a1v;have oz:=D.k z (by simp);have oT:=D.k TO (by simp);have o1:=D.k i1 (by simp);have o2:=D.k i2 (by simp);show wpAny _ _ (field (.ref z) 2 >>= _) _ _ _;show wpAny_bind<|wpAny_field Zz U (x:=.bool false) U ?_;show wpAny _ _ (field (.ref z) 3 >>= _) _ _ _;show wpAny_bind<|wpAny_field Zz U (x:=.ref TI) U ?_;show wpAny_bind<|wpAny_seqItems Zi U ?_;show wpAny _ _ (Builtin.SmallTypes.ownedTupleIsFree (.ref z) >>= _) _ _ _;show wpAny_bind ?_;unfold Builtin.SmallTypes.ownedTupleIsFree;show wpAny_bind<|wpAny_field Zz U (x:=.none) U<|wpAny_pure ?_;simp only[if_true];show wpAny_bind<|wpAny_rule ?_;show wpAny_bind<|wpAny_field Zz U (x:=.ref TO) U ?_;show wpAny_bind (wpAny_setField_rec Zz (by simp) λg1 Za b1=>?_)
 replace Za:IsZip g1 z TI TO .ellipsis:=Za
 replace b1:Heap.SameBut z hp g1:=b1
 show wpAny_bind ?_;simp only[List.zipIdx_cons,List.zipIdx_nil,List.forIn_cons,List.forIn_nil];show wpAny_bind<|wpAny_bind<|wpAny_onRaise ?_;show wpAny _ _ (Builtin.SmallTypes.nextOf (.ref i1) >>= _) _ _ _;show wpAny_bind ((S1.draws hh i1 o1.1 v1).item n _ _ _ l1 ⟨Z1.mv λo e=>b1.extBut _ _ D.c e,Y1.mv (λb o hb e=>b1.extBut _ _ hb e) oz.1⟩ λx g2 k2 px fS b2=>wpAny_pure ?_)
 replace b2:Heap.SameBut i1 g1 g2:=b2
 have oq:IsPair g2 TO x0 y0:=b2.extBut _ _ D.h<|b1.extBut _ _ D.b Zo;show wpAny_bind<|wpAny_seqItems oq U ?_;show wpAny_bind (wpAny_updateSeq_pair oq λg3 qk b3=>?_)
 replace qk:IsPair g3 TO x y0:=qk
 replace b3:Heap.SameBut TO g2 g3:=b3
 show wpAny_bind<|wpAny_letGo<|wpAny_pure ?_;show wpAny_bind<|wpAny_bind<|wpAny_onRaise ?_;show wpAny _ _ (Builtin.SmallTypes.nextOf (.ref i2) >>= _) _ _ _;show wpAny_bind ((S2.draws hh i2 o2.2 v2).item n _ _ _ l2 ⟨Z2.mv λo e=>b3.extBut _ _ D.i.symm<|b2.extBut _ _ D.j.symm<|b1.extBut _ _ D.d e,
  ((Y2.mv (λb o hb e=>b1.extBut _ _ hb e) oz.2).mv (λb o hb e=>b2.extBut _ _ hb e) o1.2).mv (λb o hb e=>b3.extBut _ _ hb e) oT.2⟩ λy g4 k4 py mn b4=>wpAny_pure ?_)
 replace b4:Heap.SameBut i2 g3 g4:=b4
 have yJ:IsPair g4 TO x y0:=b4.extBut _ _ D.i qk;show wpAny_bind<|wpAny_seqItems yJ U ?_;show wpAny_bind (wpAny_updateSeq_pair yJ λg5 qj b5=>?_)
 replace qj:IsPair g5 TO x y:=qj
 replace b5:Heap.SameBut TO g4 g5:=b5
 show wpAny_bind<|wpAny_letGo<|wpAny_pure<|wpAny_pure ?_;show wpAny_bind<|wpAny_seqItems qj U ?_;show wpAny_bind<|wpAny_newTuple ?_;have sz:g5.objs.size=hp.objs.size:=by rw[b5.1,b4.1,b3.1,b2.1,b1.1]
 have Z5:IsZip g5 z TI TO .ellipsis:=b5.extBut _ _ D.b.symm<|b4.extBut _ _ D.d.symm<|b3.extBut _ _ D.b.symm<|b2.extBut _ _ D.c.symm Za;have uW:∀c o,c≠z->c≠TO->c≠i1->c≠i2->hp.get? c=some o->g5.get? c=some o:=λc o n1 n2 n3 n4 e=>b5.extBut _ _ n2<|b4.extBut _ _ n4<|b3.extBut _ _ n2<|b2.extBut _ _ n3<|b1.extBut _ _ n1 e;have I1:S1.it g5 i1 (n+1):=fS.1.mv λo e=>b5.extBut _ _ D.h.symm<|b4.extBut _ _ D.j<|b3.extBut _ _ D.h.symm e;have I2:S2.it g5 i2 (n+1):=mn.1.mv λo e=>b5.extBut _ _ D.i.symm e;have H1:S1.has g5 v1:=((fS.2.mv (λb o hb e=>b3.extBut _ _ hb e) oT.1).mv (λb o hb e=>b4.extBut _ _ hb e) o2.1).mv (λb o hb e=>b5.extBut _ _ hb e) oT.1;have H2:S2.has g5 v2:=mn.2.mv (λb o hb e=>b5.extBut _ _ hb e) oT.2;have uO:z < g5.objs.size:=ao Z5;show wpAny _ _ (Builtin.SmallTypes.ownedTupleHandOut (.ref z) (.ref g5.objs.size) >>= _) _ _ _;show wpAny_bind ?_;unfold Builtin.SmallTypes.ownedTupleHandOut;have Z6:IsZip (g5.push { cls:=.type "tuple",data:=.seq #[x,y] }) z TI TO .ellipsis:=ak _ Z5;show wpAny_bind (wpAny_setField_rec Z6 (by simp) λg7 Z7 b7=>?_)
 replace Z7:IsZip g7 z TI TO (rawInt g5.objs.size):=Z7
 show wpAny_setField_rec Z7 (by simp) λg8 Z8 b8=>?_
 replace Z8:IsZip g8 z TI TO (rawInt g5.objs.size):=Z8
 have up:∀c o,c≠z->g5.get? c=some o->g8.get? c=some o:=λc o n1 e=>b8.extBut _ _ n1<|b7.extBut _ _ n1<|ak _ e;have T8:IsPair g8 g5.objs.size x y:=b8.extBut _ _ (bZ uO)<|b7.extBut _ _ (bZ uO)<|aF _ U;have uZ:g8.objs.size=g5.objs.size+1:=by rw[b8.1,b7.1,bu]
 rw[sz]at Z8 T8 uZ;show wpAny_pure ⟨_,U,?_⟩;show Q (.ref g5.objs.size) _;rw[sz];exact q x y g8 k4 px py ⟨Z8,up _ _ D.a<|uW _ _ D.a D.e D.f D.g Zi,⟨_,_,up _ _ D.b qj⟩,I1.mv λo e=>up _ o D.c e,I2.mv λo e=>up _ o D.d e,
  H1.mv (λb o hb e=>up b o hb e) oz.1,H2.mv (λb o hb e=>up b o hb e) oz.2⟩ T8 uZ λc o n1 n2 n3 n4 e=>up c o n1 (uW c o n1 n2 n3 n4 e)
def WT(D:ZA S1 S2 z TI TO i1 i2)(hh:A.handled=none)(a1v:ZS S1 S2 v1 v2 z TI TO i1 i2 n .none s.heap)(l:n=v1.size\/(n < v1.size/\n=v2.size)){Q:Fin->Shared->Prop}
    (q:∀h' x tk,(∀c o,c≠z->c≠TO->c≠i1->c≠i2->s.heap.get? c=some o->h'.get? c=some o)->(∃o,h'.get? x=some o/\o.cls=.type "StopIteration")->E (.ref x) { s with heap:=h',toks:=tk }) :
    wpAny (model prog w) A (Builtin.«zip.__next__» ⟨[.ref z],[]⟩) Q E s:=by
 obtain⟨hp,g0,d0,uX,os0⟩:=s;obtain⟨Zz,Zi,⟨x0,y0,Zo⟩,Z1,Z2,Y1,Y2⟩:=a1v;have oz:=D.k z (by simp);have oT:=D.k TO (by simp);have o1:=D.k i1 (by simp);have o2:=D.k i2 (by simp);show wpAny _ _ (field (.ref z) 2 >>= _) _ _ _;show wpAny_bind<|wpAny_field Zz U (x:=.bool false) U ?_;show wpAny _ _ (field (.ref z) 3 >>= _) _ _ _;show wpAny_bind<|wpAny_field Zz U (x:=.ref TI) U ?_;show wpAny_bind<|wpAny_seqItems Zi U ?_;show wpAny _ _ (Builtin.SmallTypes.ownedTupleIsFree (.ref z) >>= _) _ _ _;show wpAny_bind ?_;unfold Builtin.SmallTypes.ownedTupleIsFree;show wpAny_bind<|wpAny_field Zz U (x:=.none) U<|wpAny_pure ?_;simp only[if_true];show wpAny_bind<|wpAny_rule ?_;show wpAny_bind<|wpAny_field Zz U (x:=.ref TO) U ?_;show wpAny_bind (wpAny_setField_rec Zz (by simp) λg1 Za b1=>?_)
 replace Za:IsZip g1 z TI TO .ellipsis:=Za
 replace b1:Heap.SameBut z hp g1:=b1
 show wpAny_bind ?_;simp only[List.zipIdx_cons,List.zipIdx_nil,List.forIn_cons,List.forIn_nil];have W1:S1.it g1 i1 n/\S1.has g1 v1:=⟨Z1.mv λo e=>b1.extBut _ _ D.c e,Y1.mv (λb o hb e=>b1.extBut _ _ hb e) oz.1⟩;show wpAny_bind<|wpAny_bind<|wpAny_onRaise ?_;show wpAny _ _ (Builtin.SmallTypes.nextOf (.ref i1) >>= _) _ _ _;rcases l with l | ⟨l1,l2⟩
 . show wpAny_bind<|(S1.draws hh i1 o1.1 v1).done _ _ _ (l▸W1) λg2 x b2 ⟨ox,ex,cx⟩=>?_;have Zb:IsZip g2 z TI TO .ellipsis:=b2 _ _ D.c.symm Za;have xz:x≠z:=λe=>by subst e;rw[Zb]at ex;cases ex;simp at cx
   show wpAny_setField_rec Zb (by simp) λg3 _ b3=>q g3 x uX (λc o n1 _ n3 _ e=>b3.extBut _ _ n1<|b2 _ _ n3<|b1.extBut _ _ n1 e) ⟨ox,b3.extBut _ _ xz ex,cx⟩
 . show wpAny_bind ((S1.draws hh i1 o1.1 v1).item n _ _ _ l1 W1 λx g2 k2 px fS b2=>wpAny_pure ?_)
   replace b2:Heap.SameBut i1 g1 g2:=b2
   have oq:IsPair g2 TO x0 y0:=b2.extBut _ _ D.h<|b1.extBut _ _ D.b Zo;show wpAny_bind<|wpAny_seqItems oq U ?_;show wpAny_bind (wpAny_updateSeq_pair oq λg3 qk b3=>?_)
   replace b3:Heap.SameBut TO g2 g3:=b3
   show wpAny_bind<|wpAny_letGo<|wpAny_pure ?_;show wpAny_bind<|wpAny_bind<|wpAny_onRaise ?_;show wpAny _ _ (Builtin.SmallTypes.nextOf (.ref i2) >>= _) _ _ _;show wpAny_bind ((S2.draws hh i2 o2.2 v2).done _ _ _ (l2▸⟨Z2.mv λo e=>b3.extBut _ _ D.i.symm<|b2.extBut _ _ D.j.symm<|b1.extBut _ _ D.d e,
    ((Y2.mv (λb o hb e=>b1.extBut _ _ hb e) oz.2).mv (λb o hb e=>b2.extBut _ _ hb e) o1.2).mv (λb o hb e=>b3.extBut _ _ hb e) oT.2⟩) λg4 x' b4 ⟨ox,ex,cx⟩=>?_)
   have Zb:IsZip g4 z TI TO .ellipsis:=b4 _ _ D.d.symm<|b3.extBut _ _ D.b.symm<|b2.extBut _ _ D.c.symm Za;have xz:x'≠z:=λe=>by subst e;rw[Zb]at ex;cases ex;simp at cx
   show wpAny_setField_rec Zb (by simp) λg5 _ b5=>q g5 x' k2 (λc o n1 n2 n3 n4 e=>b5.extBut _ _ n1<|b4 _ _ n4<|b3.extBut _ _ n2<|b2.extBut _ _ n3<|b1.extBut _ _ n1 e) ⟨ox,b5.extBut _ _ xz ex,cx⟩
end
def QP(h:Heap)(v:Value)(o:Obj):Prop:=∀(prog:Program) (w:World) (A:Around) (E:w1c) (s:Shared) (Q:w1c),(∀b u,h.get? b=some u->s.heap.get? b=some u)->
 Q (.ref s.heap.objs.size) { s with heap:=s.heap.push o }->wpAny (model prog w) A (pyIter v) Q E s
def Sr.val:Sr->Value->Prop
 | .lst a,v=>v=.ref a
 | .tup a,v=>v=.ref a
 | .str x,v=>∃t,v=.str x t
def Sr.begins{S:Sr}{h:Heap}{v:Value}{vs:Array Value}(e:S.val v)(x:S.has h vs):∃o:Obj,QP h v o/\o.isFreed=false/\∀(h':Heap) (I:Addr),h'.get? I=some o->S.it h' I 0:=by
 cases S with
 | lst a=>
  cases (show v=.ref a from e);exact⟨_,λ_ _ _ _ s Q k q=>wpAny_pyIter_list (let⟨o,e,r⟩:=x;⟨o,k a o e,r⟩) q,U,λh' I e=>⟨_,e,U,U⟩⟩
 | tup a=>
  cases (show v=.ref a from e);exact⟨_,λ_ _ _ _ s Q k q=>wpAny_pyIter_tuple (let⟨o,e,r⟩:=x;⟨o,k a o e,r⟩) q,U,λh' I e=>⟨_,e,U,U⟩⟩
 | str z=>
  obtain⟨t,rfl⟩:=(show ∃t,v=.str z t from e);exact⟨_,λ_ _ _ _ s Q k q=>wpAny_pyIter_strU q,U,λh' I e=>⟨t,_,e,U,U⟩⟩
abbrev zh2(h:Heap)(o1 o2:Obj):Heap:=(h.push o1).push o2
abbrev zh3(h:Heap)(o1 o2:Obj):Heap:=(zh2 h o1 o2).push { cls:=.type "tuple",data:=.seq #[.ref h.objs.size,.ref (h.push o1).objs.size] }
abbrev zh4(h:Heap)(o1 o2:Obj):Heap:=(zh3 h o1 o2).push { cls:=.type "tuple",data:=.seq #[.none,.none] }
abbrev YK(h:Heap)(o1 o2:Obj):Heap:=(zh4 h o1 o2).push { cls:=.type "zip",data:=.fields #[.none,.bool false,.bool false,.ref (zh2 h o1 o2).objs.size,.ref (zh3 h o1 o2).objs.size] }
def WS(a b:Value)(o1 o2:Obj):Meets (Builtin.«zip.__new__» ⟨[.type "zip",a,b],[]⟩) (λ_ R s=>QP s.heap a o1/\QP s.heap b o2/\
      R (.ok<|.ret<|.ref (zh4 s.heap o1 o2).objs.size) { s with heap:=YK s.heap o1 o2 }):=
 .of_wp λprog w A R s h=>by
  obtain⟨hp,g,d,tk,os⟩:=s;obtain⟨h1,h2,h⟩:=h;have sk:=sub_zip;have k1:∀{A':Around} {E':w1c} {Q:w1c},Q (.ref (Shared.heap ⟨hp,g,d,tk,os⟩).objs.size) ⟨hp.push o1,g,d,tk,os⟩->wpAny (model prog w) A' (pyIter a) Q E' ⟨hp,g,d,tk,os⟩:=λq=>h1 _ _ _ _ _ _ (λ_ _ e=>e) q;have k2:∀{A':Around} {E':w1c} {Q:w1c},Q (.ref (Shared.heap ⟨hp.push o1,g,d,tk,os⟩).objs.size) ⟨(hp.push o1).push o2,g,d,tk,os⟩->wpAny (model prog w) A' (pyIter b) Q E' ⟨hp.push o1,g,d,tk,os⟩:=λq=>h2 _ _ _ _ _ _ (λ_ _ e=>ak _ e) q
  wp_walk using k1,k2
  exact⟨_,U,h⟩
def WE{prog:Program}{w:World}{A:Around}{E:w1c}{s:Shared}{S1 S2:Sr}{v1 v2:Array Value}{a b:Value}{Q:w1c}(e1:S1.val a)(e2:S2.val b)(x1:S1.has s.heap v1)(x2:S2.has s.heap v2)
    (q:∀h',ZS S1 S2 v1 v2 (s.heap.objs.size+4) (s.heap.objs.size+2) (s.heap.objs.size+3) s.heap.objs.size (s.heap.objs.size+1) 0 .none h'->ZA S1 S2 (s.heap.objs.size+4) (s.heap.objs.size+2) (s.heap.objs.size+3) s.heap.objs.size (s.heap.objs.size+1)->
     (∀c o,s.heap.get? c=some o->h'.get? c=some o)->Q (.ref<|s.heap.objs.size+4) { s with heap:=h' }):wpAny (model prog w) A (call (.type "zip") [a,b]) Q E s:=by
 obtain⟨o1,B1,f1,I1⟩:=Sr.begins e1 x1;obtain⟨o2,B2,f2,I2⟩:=Sr.begins e2 x2;show callType_new F.called_zip bD (F.typeCall_zip_2 _ _) (F.newCall_zip_2 _ _) (λobj=>F.args_object_init_3 obj _ _) F.entry_zip_new (WS a b o1 o2) ⟨B1,B2,?_⟩;have y1:(s.heap.push o1).objs.size=s.heap.objs.size+1:=bu ..;have y2:(zh2 s.heap o1 o2).objs.size=s.heap.objs.size+2:=by rw[bu,y1]
 have y3:(zh3 s.heap o1 o2).objs.size=s.heap.objs.size+3:=by rw[bu,y2]
 have y4:(zh4 s.heap o1 o2).objs.size=s.heap.objs.size+4:=by rw[bu,y3]
 have g5:(YK s.heap o1 o2).get? (zh4 s.heap o1 o2).objs.size=some _:=aF _ rfl;have g4:(YK s.heap o1 o2).get? (zh3 s.heap o1 o2).objs.size=some _:=ak _<|aF _ U;have g3:(YK s.heap o1 o2).get? (zh2 s.heap o1 o2).objs.size=some _:=ak _<|ak _<|aF _ U;have g2:(YK s.heap o1 o2).get? (s.heap.push o1).objs.size=some o2:=ak _<|ak _<|ak _<|aF _ f2;have g1:(YK s.heap o1 o2).get? s.heap.objs.size=some o1:=ak _<|ak _<|ak _<|ak _<|aF _ f1;have up:∀c o,s.heap.get? c=some o->(YK s.heap o1 o2).get? c=some o:=λc o x=>ak _<|ak _<|ak _<|ak _<|ak _ x;have off:∀{S:Sr} {vs:Array Value} (k:Nat),S.has s.heap vs->S.off (s.heap.objs.size+k):=λ{S vs} k x=>by
  cases S with
  | lst a=>obtain⟨o,e,_⟩:=x;exact aC (az (ao e)<|bW _ k)
  | tup a=>obtain⟨o,e,_⟩:=x;exact aC (az (ao e)<|bW _ k)
  | str z=>exact trivial
 have keep:∀{S:Sr} {vs:Array Value},S.has s.heap vs->S.has (YK s.heap o1 o2) vs:=λ{S vs} x=>by
  cases S with
  | lst a=>obtain⟨o,e,r⟩:=x;exact⟨o,up _ _ e,r⟩
  | tup a=>obtain⟨o,e,r⟩:=x;exact⟨o,up _ _ e,r⟩
  | str z=>exact x
 show _/\_;rw[y2,y3,y4]at g5;rw[y1,y2]at g3;rw[y3]at g4;rw[y1]at g2;rw[y4];show⟨⟨_,g5,U⟩,q _ ⟨g5,g3,⟨_,_,g4⟩,I1 _ _ g1,I2 _ _ g2,keep x1,keep x2⟩ ?_ up⟩;have ne:∀i j:Nat,i≠j->s.heap.objs.size+i≠s.heap.objs.size+j:=λi j hn h=>hn<|Nat.add_left_cancel h;show⟨ne 2 4 bD,ne 3 4 bD,ne 0 4 bD,ne 1 4 bD,ne 2 3 bD,ne 2 0 bD,ne 2 1 bD,ne 3 0 bD,ne 3 1 bD,ne 0 1 bD,λx hx=>?_⟩;simp only[au,bT,or_false]at hx;rcases hx with rfl | rfl | rfl | rfl
 . exact⟨off 4 x1,off 4 x2⟩
 . exact⟨off 3 x1,off 3 x2⟩
 . exact⟨off 0 x1,off 0 x2⟩
 . exact⟨off 1 x1,off 1 x2⟩
abbrev e0i(l:Addr):Obj:={ cls:=.type "tuple_iterator",data:=.fields #[.ref l,.int 0 0] }
abbrev enO(i:Addr):Obj:={ cls:=.type "enumerate",data:=.fields #[.none,.bool false,.ref i,rawInt 0,.none,.none] }
def Tz(l:Addr)(vs:Array Value)(n:Nat)(uG:Option Addr)(sl:Array (Option Value)) :
    Meets (Builtin.«enumerate.__new__» ⟨[.type "enumerate",.ref l],[]⟩) (λ_ R s=>s.heap.get? l=some { cls:=.type "tuple",dict:=uG,data:=.seq vs n,slots:=sl }/\
     R (.ok<|.ret<|.ref (s.heap.push<|e0i l).objs.size) { s with heap:=(s.heap.push<|e0i l).push (enO s.heap.objs.size) }):=
 .of_wp λprog w A R s h=>by
  obtain⟨hp,g,d,tk,os⟩:=s;obtain⟨hl,h⟩:=h;have sk:=sub_enumerate;have hL:Heap.IsTuple (Shared.heap ⟨hp,g,d,tk,os⟩) l vs:=⟨_,hl,U,n,U⟩
  wp_walk using AutoSeq1.wpAny_loadPart' hl
  show wpAny_stack_any λst=>wpAny_pure ?_;split
  . rename_i c _ _ _ _ _;cases (c == Value.type "enumerate")
    . wp_walk using AutoSeq1.wpAny_loadPart' hl,wpAny_pyIter_tuple hL;exact⟨_,U,h⟩
    . wp_walk using AutoSeq1.wpAny_loadPart' hl,wpAny_pyIter_tuple hL;exact⟨_,U,h⟩
  . wp_walk using AutoSeq1.wpAny_loadPart' hl,wpAny_pyIter_tuple hL;exact⟨_,U,h⟩
def QH{prog:Program}{w:World}{A:Around}{E:w1c}{s:Shared}{l:Addr}{vs:Array Value}{Q:w1c}(hL:s.heap.IsTuple l vs)
    (h:∀h',IsEnum h' (s.heap.objs.size+1) s.heap.objs.size 0 .none->h'.IsTupleIter s.heap.objs.size l 0->(∀b o,s.heap.get? b=some o->h'.get? b=some o)->Q (.ref<|s.heap.objs.size+1) { s with heap:=h' }) :
    wpAny (model prog w) A (call (.type "enumerate") [.ref l]) Q E s:=by
 obtain⟨⟨c,uG,dt,sl⟩,hl,hc,n,hd⟩:=hL
 replace hc:c=.type "tuple":=hc;replace hd:dt=.seq vs n:=hd;subst hc hd
 show callType_new F.called_enumerate bD (F.typeCall_enumerate_1 _) (F.newCall_enumerate_1 _) (λobj=>F.args_object_init_2 obj _) F.entry_enumerate_new (Tz l vs n uG sl) ⟨hl,?_⟩;have hz:(s.heap.push<|e0i l).objs.size=s.heap.objs.size+1:=bu ..;show _/\_;rw[hz];have he:IsEnum ((s.heap.push<|e0i l).push<|enO s.heap.objs.size) (s.heap.objs.size+1) s.heap.objs.size 0 .none:=by have:=aF (s.heap.push<|e0i l) (o:=enO s.heap.objs.size) rfl;rw[hz]at this;exact this
 exact⟨⟨_,he,U⟩,h _ he ⟨_,ak _<|aF _ U,U,U⟩ λb o x=>ak _<|ak _ x⟩
def TJ{prog:Program}{w:World}{A:Around}{E:w1c}{s:Shared}{S:Sr}{vs:Array Value}{v:Value}{Q:w1c}(e:S.val v)(x:S.has s.heap vs)
    (h:∀h',IsEnum h' (s.heap.objs.size+1) s.heap.objs.size 0 .none->S.it h' s.heap.objs.size 0->(∀b o,s.heap.get? b=some o->h'.get? b=some o)->Q (.ref<|s.heap.objs.size+1) { s with heap:=h' }) :
    wpAny (model prog w) A (call (.type "enumerate") [v]) Q E s:=by
 cases S with
 | lst a=>cases (show v=.ref a from e);exact call_enumerate_list x λh' a b _ c=>h h' a b c
 | tup a=>cases (show v=.ref a from e);exact QH x h
 | str z=>obtain⟨t,rfl⟩:=(show ∃t,v=.str z t from e);exact call_enumerate_str λh' a b _ c=>h h' a ⟨t,b⟩ c
section
variable{X:Cx}{aS:w1b}{σ:St}{H:Hp}{s:Shared}{h':Heap}
def r8.turneds{t':Nat}{ch:List Addr}(I:r8 X aS σ H s)(k:∀b o,b ∉ ch->s.heap.get? b=some o->h'.get? b=some o)(hf:∀b∈ch,AK X aS H b):r8 X aS σ H { s with heap:=h',toks:=t' }:=by
 have mI:∀b u,H b=some u->b ∉ ch:=λb u e z=>by rw[(hf b z).1]at e;cases e
 show I.step (g':=s.gens) (d':=s.drawn) (ch:=ch) (λb hb=>?_) (λb o _ _ hc e _=>k b o hc e) (λb o _ _ hc e _=>⟨o.slots,k b o hc e⟩) (λ_ _ _ _ n=>n) (λb o hc e=>⟨o,k b o hc e⟩) (λ_ _ e=>e) (λ_ _ _ e=>e)
  (λb ps e=>⟨#[],by rw[e];simp⟩) (λm hm=>?_) (λb u e=>?_) I.bare
 . obtain⟨f0,f1,f2,f3,f4,f5⟩:=hf b hb;exact⟨f3,f1,f4,f5⟩
 . obtain⟨o,es,ep,ho,r⟩:=hm;exact⟨o,es,ep,k _ o (λz=>(hf _ z).2.1 U) ho,r⟩
 . show(I.hok b u e).stay (λc v hc q=>k c v ?_ q) (λ_ q=>q) λ_ _ q=>q;rcases hc with z | z
   . rw[z];exact mI b u e
   . exact mI c _ z
theorem r8.track(I:r8 X aS σ H s)(hs:X.s₀.heap.objs.size<=a)(f:AK X aS H a)(new:M6 X.prog X.w (upd H a o) s.heap a o):r8 X aS σ (upd H a o) s:=
 ⟨I.ok,I.os,I.bare,I.base.track hs f.1,I.loc,I.cell,by rw[l9<|Ne.symm f.2.1];exact I.free,λx c e=>by rw[l9<|f.2.2.2.2.1 x c e];exact I.freeC x c e,λp hp=>by
  obtain⟨e,n,r⟩:=I.pin p hp;exact⟨e,by rw[l9<|f.2.2.2.2.2 p hp];exact n,r⟩,I.hok.track f.1 new,I.len⟩
end
def EK(x:Str):List V:=x.cps.toList.map λc=>V.str ⟨#[c]⟩
def Sr.vals(K:aa)(H:Hp):Sr->List V->Prop
 | .lst a,xs=>p9 K H a xs
 | .tup a,xs=>o9 K H a xs
 | .str x,xs=>xs=EK x
def Sr.ofV:Sr->V->Prop
 | .lst a,v=>v=.ref a
 | .tup a,v=>v=.ref a
 | .str x,v=>v=.str x
section
variable{X:Cx}{aS:w1b}{σ:St}{H:Hp}{s:Shared}{S:Sr}{xs ys:List V}
theorem Sr.vals.get(I:r8 X aS σ H s)(h:S.vals X.K H xs):∃vs,S.has s.heap vs/\vs.size=xs.length/\∀i x v,xs[i]? = some x->S.is vs i v->E3 x v:=by
 cases S with
 | lst a=>
  obtain⟨its,rv,p,hz⟩:=I.list h;show⟨its.toArray,p.isList,by have:=rv.length;simp;omega,λi x v e1 e2=>?_⟩;obtain⟨u,hu,ru⟩:=rv.get e1;have e2:its.toArray[i]? = some v:=e2;rw[List.getElem?_toArray,hu]at e2;cases e2;exact ru
 | tup a=>
  obtain⟨its,rv,p,hz⟩:=I.tuple h;show⟨its.toArray,(show s.heap.IsTuple a its.toArray from p),by have:=rv.length;simp;omega,λi x v e1 e2=>?_⟩;obtain⟨u,hu,ru⟩:=rv.get e1;have e2:its.toArray[i]? = some v:=e2;rw[List.getElem?_toArray,hu]at e2;cases e2;exact ru
 | str z=>
  cases (show xs=EK z from h);show⟨Array.replicate z.cps.size .none,by show(Array.replicate _ _).size=_;simp,by simp[EK],λi x v e1 e2=>?_⟩;obtain⟨c,u,ec,rfl⟩:=(show ∃c u,z.cps[i]? = some c/\v=.str ⟨#[c]⟩ u from e2);have:(EK z)[i]? = some (V.str ⟨#[c]⟩):=by simp[EK,ec]
  rw[this]at e1;cases e1;exact⟨u,U⟩
def Sr.vals.inj(I:r8 X aS σ H s)(h:S.vals X.K H xs)(h':S.vals X.K H ys):xs=ys:=by
 cases S with
 | lst a=>exact I.list_inj h h'
 | tup a=>exact I.tuple_inj h h'
 | str z=>exact(show xs=EK z from h).trans (show ys=EK z from h').symm
theorem Sr.ofV.val(e:S.ofV x)(r:E3 x u):S.val u:=by
 cases S with
 | lst a=>cases (show x=.ref a from e);exact r
 | tup a=>cases (show x=.ref a from e);exact r
 | str z=>cases (show x=.str z from e);exact r
end
def q0k(K:aa)(S1 S2:Sr):It:=
 ⟨λi H=>∃xs ys x y,S1.vals K H xs/\S2.vals K H ys/\xs[i]? = some x/\ys[i]? = some y,
  λi H v H'=>∃p x y,v=.ref p/\H p=none/\H'=upd H p (.tup [x,y])/\(∀xs,S1.vals K H xs->xs[i]? = some x)/\∀ys,S2.vals K H ys->ys[i]? = some y,
  λi H=>∃xs ys,S1.vals K H xs/\S2.vals K H ys/\(i=xs.length\/(i < xs.length/\i=ys.length))⟩
def Ul{P:Program}{w:World}{K:aa}{es:List Expr}{kk:Nat}{tp:Pos}{S1 S2:Sr}{z TI TO i1 i2:Addr}(D:ZA S1 S2 z TI TO i1 i2) :
    Mq P w K (.Tuple es kk tp) (q0k K S1 S2) [z,TI,TO,i1,i2] z (λi h=>IsZip h z TI TO .none/\IsPair h TI (.ref i1) (.ref i2)/\(∃a b,IsPair h TO a b)/\S1.it h i1 i/\S2.it h i2 i)where
 mem:=by simp
 obj:=λi h st b hb=>by
  obtain⟨hz,hi,⟨a,a',ho⟩,h1,h2⟩:=st;simp only[au,bT,or_false]at hb;rcases hb with rfl | rfl | rfl | rfl | rfl
  . exact⟨_,hz,λv z=>by simp at z⟩
  . exact⟨_,hi,λv z=>by simp at z⟩
  . exact⟨_,ho,λv z=>by simp at z⟩
  . exact h1.obj
  . exact h2.obj
 keep:=λi h h' st k=>by
  obtain⟨hz,hi,⟨a,a',ho⟩,h1,h2⟩:=st;exact⟨k z (by simp) _ hz,k TI (by simp) _ hi,⟨a,a',k TO (by simp) _ ho⟩,h1.mv λo e=>k i1 (by simp) o e,h2.mv λo e=>k i2 (by simp) o e⟩
 item:=by
  intro X hP hw hK hc i aS s σ H E I hf st hg;subst hP hw hK;obtain⟨xs,ys,x,y,hx,hy,ex,ey⟩:=hg;obtain⟨v1,a1,z1,r1⟩:=Sr.vals.get I hx;obtain⟨v2,a2,z2,r2⟩:=Sr.vals.get I hy;obtain⟨hz,hi,ho,h1,h2⟩:=st;have l1:=(aJ.mp ex).1;have l2:=(aJ.mp ey).1;have hT:s.TypeIs (.ref z) "zip":=⟨_,hz,U⟩;have lt:∀b∈[z,TI,TO,i1,i2],b≠s.heap.objs.size:=λb hb=>by
   obtain⟨a,a',ho⟩:=ho;simp only[au,bT,or_false]at hb;rcases hb with rfl | rfl | rfl | rfl | rfl
   . exact aC (ao hz)
   . exact aC (ao hi)
   . exact aC (ao ho)
   . obtain⟨_,e,_⟩:=h1.obj;exact aC (ao e)
   . obtain⟨_,e,_⟩:=h2.obj;exact aC (ao e)
  unfold pyNext;show wpAny_bind (wpAny_attempt (wpAny_callSpecial?_slot (name:=Str.ofString "__next__") hT F.slot_zip_next (wpAny_call_entry F.slot_zip_next hT F.entry_zip_next
   (Ua (A:=X.A.in1) D (show X.A.in1.handled=none from I.ok.hd hc) ⟨hz,hi,ho,h1,h2,a1,a2⟩ Z Z λxv yv h' tk px py a1v hp hs up=>wpAny_pure ?_) (F.args_zip_next_1 _))))
  show⟨_,U,wpAny_letOwnedTupleGo_zip a1v.z λje rX sb=>?_⟩;have sb:Heap.SameBut z h' je:=sb;have kk:∀b o,b ∉ [z,TI,TO,i1,i2]->s.heap.get? b=some o->je.get? b=some o:=λb o hb e=>by
   simp only[au,bT,or_false,not_or]at hb;exact sb.extBut _ _ hb.1 (up b o hb.1 hb.2.2.1 hb.2.2.2.1 hb.2.2.2.2 e)
  have I1:r8 X aS σ H { s with heap:=je,toks:=tk }:=I.turneds (t':=tk) kk hf;have fT:AK X aS H s.heap.objs.size:=I.fpOk (ae _)<|I.hok.fresh<|ae _;have zT:s.heap.objs.size≠z:=Ne.symm (lt z<|by simp);have oT:IsPair je s.heap.objs.size xv yv:=sb.extBut _ _ zT hp;have I2:r8 X aS σ (upd H s.heap.objs.size<|.tup [x,y]) { s with heap:=je,toks:=tk }:=I1.track (af I.sz<|ae _) fT
   ⟨by show 2<=sizeLine;decide,[xv,yv],.cons (r1 i x xv ex px)<|.cons (r2 i y yv ey py) .nil,⟨_,oT,U,_,U⟩,λ_=>⟨_,oT,U⟩⟩
  show⟨.ref s.heap.objs.size,_,I2,U,⟨_,x,y,U,fT.1,U,λxs' h=>by rw[Sr.vals.inj I h hx];exact ex,λfh h=>by rw[Sr.vals.inj I h hy];exact ey⟩,⟨rX,sb.extBut _ _ D.a a1v.ti,?_,a1v.s1.mv λo e=>sb.extBut _ _ D.c e,a1v.s2.mv λo e=>sb.extBut _ _ D.d e⟩,λb hb=>?_⟩
  . obtain⟨a,a',ho⟩:=a1v.to;exact⟨a,a',sb.extBut _ _ D.b ho⟩
  . rw[l9<|lt b hb];exact(hf b hb).1
 done:=by
  intro X hP hw hK hc i aS s σ H E I hf st hg;subst hP hw hK;obtain⟨xs,ys,hx,hy,l⟩:=hg;obtain⟨v1,a1,z1,r1⟩:=Sr.vals.get I hx;obtain⟨v2,a2,z2,r2⟩:=Sr.vals.get I hy;obtain⟨hz,hi,ho,h1,h2⟩:=st;have hT:s.TypeIs (.ref z) "zip":=⟨_,hz,U⟩;unfold pyNext;show wpAny_bind (wpAny_attempt (wpAny_callSpecial?_slot (name:=Str.ofString "__next__") hT F.slot_zip_next (wpAny_call_entry F.slot_zip_next hT F.entry_zip_next
   (WT (A:=X.A.in1) D (show X.A.in1.handled=none from I.ok.hd hc) ⟨hz,hi,ho,h1,h2,a1,a2⟩ Z λh' e tk up ⟨o,eo,co⟩=>?_) (F.args_zip_next_1 _))))
  show wpAny_bind<|wpAny_isInstance (T:="StopIteration") (b:=true) ⟨o,eo,co⟩ isSubtype_stop ?_;show wpAny_pure ⟨U,I.turneds (ch:=[z,TI,TO,i1,i2]) (t':=tk) (λb o hb e=>?_) hf⟩;simp only[au,bT,or_false,not_or]at hb;exact up b o hb.1 hb.2.2.1 hb.2.2.2.1 hb.2.2.2.2 e
 self:=λ_ _ _ _ _ st h=>wpAny_pyIter_zip st.1 h
def iZip(K:aa)(ta:TA):TI:=λσ H R=>ta σ H λvs H1=>∃S1 S2 x y xs ys,vs=[x,y]/\Sr.ofV S1 x/\Sr.ofV S2 y/\S1.vals K H1 xs/\S2.vals K H1 ys/\R (q0k K S1 S2) H1
def DY{X:Cx}{a b:Expr}{ta:TA}{p pos tp:Pos}{es:List Expr}{kk:Nat}(hg:Gl X "zip")(hm:X.mg "zip"=none)(ha:PA X [a,b] ta)(hs:starEach [a,b] X.env=[(false,eval a X.env),(false,eval b X.env)]:=by rfl)
    (mV:starEach [b] X.env=[(false,eval b X.env)]:=by rfl):PI X (.Tuple es kk tp) (.Call (.Name "zip" p) [a,b] [] pos) (iZip X.K ta):=by
 intro aS s σ H R I h;show Call_ (AH I hg hm boot_zip<|cD (K0 (ha pos aS s σ H _ I h) λus s1 ⟨vs,H1,I1,r1,q1⟩=>?_) (by rw[hs,mV])<|by rw[mV];rfl);obtain⟨S1,S2,x,y,xs,ys,e,e1,e2,hx,hy,q⟩:=q1;subst e;cases r1 with
 | cons r rr=>
  cases rr with
  | cons r' rr=>
   cases rr;obtain⟨v1,a1,z1,_⟩:=Sr.vals.get I1 hx;obtain⟨v2,a2,z2,_⟩:=Sr.vals.get I1 hy;show WE (e1.val r) (e2.val r') a1 a2 λh' a1v D up=>wpAny_pyIter_zip a1v.z ⟨_,_,_,_,H1,U,I1.kept (t':=s1.toks) up,Ul D,⟨a1v.z,a1v.ti,a1v.to,a1v.s1,a1v.s2⟩,λb hb=>?_,q⟩;simp only[au,bT,or_false]at hb;have le:s1.heap.objs.size<=b:=by rcases hb with rfl | rfl | rfl | rfl | rfl <;>omega
   exact I1.fpOk le (I1.hok.fresh le)
def Ite(K:aa)(S:Sr):It:=
 ⟨λi H=>∃xs x,S.vals K H xs/\xs[i]? = some x,λi H v H'=>∃p x,v=.ref p/\H p=none/\H'=upd H p (.tup [.int i,x])/\∀xs,S.vals K H xs->xs[i]? = some x,λi H=>∃xs,S.vals K H xs/\i=xs.length⟩
def Sr.fp_it(S:Sr)(I:Addr):I∈S.fp I:=by cases S <;>simp[Sr.fp]
def Sw{P:Program}{w:World}{K:aa}{es:List Expr}{kk:Nat}{tp:Pos}{S:Sr}{e it:Addr}(D:e≠it)(o1:S.off e)(o2:S.off it) :
    Mq P w K (.Tuple es kk tp) (Ite K S) [e,it] e (λi h=>(∃jo,IsEnum h e it i jo)/\S.it h it i)where
 mem:=by simp
 obj:=λi h st b hb=>by
  obtain⟨⟨jo,he⟩,h1⟩:=st;simp only[au,bT,or_false]at hb;rcases hb with rfl | rfl
  . exact⟨_,he,λv z=>by simp at z⟩
  . exact h1.obj
 keep:=λi h h' st k=>by
  obtain⟨⟨jo,he⟩,h1⟩:=st;exact⟨⟨jo,k e (by simp) _ he⟩,h1.mv λo q=>k it (by simp) o q⟩
 item:=by
  intro X hP hw hK hc i aS s σ H E I hf st hg;subst hP hw hK;obtain⟨xs,x,hx,ex⟩:=hg;obtain⟨vs,a1,z1,r1⟩:=Sr.vals.get I hx;obtain⟨⟨jo,he⟩,h1⟩:=st;have l1:=(aJ.mp ex).1;have lt:∀b∈[e,it],b < s.heap.objs.size:=λb hb=>by
   simp only[au,bT,or_false]at hb;rcases hb with rfl | rfl
   . exact ao he
   . obtain⟨_,q,_⟩:=h1.obj;exact ao q
  have hh:X.A.in1.handled=none:=I.ok.hd hc;have W:=WalksT.enumerateD (prog:=X.prog) (w:=X.w) (A:=X.A) (S.draws hh it o2 vs) e D (Sr.fp_off o1 D)<|S.fp_it it;show W.item i s _ E Z ⟨⟨jo,he⟩,h1,a1⟩ λT vals h' tk hP hT ht hM hk=>⟨_,U,W.go es kk tp i T _ _ E hM λje mq nE=>?_⟩;obtain⟨t,xv,px,rfl⟩:=hP;have kk:∀b o,b ∉ [e,it]->s.heap.get? b=some o->je.get? b=some o:=λb o hb q=>nE b o hb<|hk b o hb q;have I1:r8 X aS σ H { s with heap:=je,toks:=tk }:=I.turneds (t':=tk) kk hf;have fT:AK X aS H T:=I.fpOk hT<|I.hok.fresh hT;have nT:T ∉ [e,it]:=W.apart i T _ hM;have oT:je.IsTuple T #[.int i t,xv]:=let⟨o,q,r⟩:=ht;⟨o,nE T o nT q,r⟩
  have I2:r8 X aS σ (upd H T<|.tup [.int i,x]) { s with heap:=je,toks:=tk }:=I1.track (af I.sz hT) fT
   ⟨by show 2<=sizeLine;decide,[.int i t,xv],.cons ⟨t,U⟩<|.cons (r1 i x xv ex px) .nil,oT,λz=>absurd U<|z i x⟩
  show⟨.ref T,_,I2,U,⟨_,x,U,fT.1,U,λxs' h=>by rw[Sr.vals.inj I h hx];exact ex⟩,⟨mq.1,mq.2.1⟩,λb hb=>?_⟩;rw[l9<|aC<|az (lt b hb) hT];exact(hf b hb).1
 done:=by
  intro X hP hw hK hc i aS s σ H E I hf st hg;subst hP hw hK;obtain⟨xs,hx,l⟩:=hg;obtain⟨vs,a1,z1,r1⟩:=Sr.vals.get I hx;obtain⟨⟨jo,he⟩,h1⟩:=st;have hh:X.A.in1.handled=none:=I.ok.hd hc;have W:=WalksT.enumerateD (prog:=X.prog) (w:=X.w) (A:=X.A) (S.draws hh it o2 vs) e D (Sr.fp_off o1 D)<|S.fp_it it;have ei:i=vs.size:=by omega
  subst ei;exact W.done s _ E ⟨⟨jo,he⟩,h1,a1⟩ λh' tk hk=>⟨U,I.turneds (t':=tk) hk hf⟩
 self:=λ_ _ _ _ _ st h=>by
  obtain⟨⟨jo,he⟩,_⟩:=st;exact wpAny_pyIter_enum he h
def p0g(K:aa)(ta:TA):TI:=λσ H R=>ta σ H λvs H1=>∃S x xs,vs=[x]/\Sr.ofV S x/\S.vals K H1 xs/\R (Ite K S) H1
def XN{X:Cx}{a:Expr}{ta:TA}{p pos tp:Pos}{es:List Expr}{kk:Nat}(hg:Gl X "enumerate")(hm:X.mg "enumerate"=none)(ha:PA X [a] ta)(hs:starEach [a] X.env=[(false,eval a X.env)]:=by rfl) :
    PI X (.Tuple es kk tp) (.Call (.Name "enumerate" p) [a] [] pos) (p0g X.K ta):=by
 intro aS s σ H R I h;show Call_<|AH I hg hm boot_enumerate<|cD (K0 (ha pos aS s σ H _ I h) λus s1 ⟨vs,H1,I1,r1,q1⟩=>?_) hs U;obtain⟨S,x,xs,e,e1,hx,q⟩:=q1;subst e;cases r1 with
 | cons r rr=>
  cases rr;obtain⟨v1,a1,z1,_⟩:=Sr.vals.get I1 hx;have off:∀k:Nat,S.off (s1.heap.objs.size+k):=λk=>by
   cases S with
   | lst a=>obtain⟨o,q,_⟩:=a1;exact aC (az (ao q)<|bW _ k)
   | tup a=>obtain⟨o,q,_⟩:=a1;exact aC (az (ao q)<|bW _ k)
   | str z=>exact trivial
  show TJ (e1.val r) a1 λh' he hi up=>wpAny_pyIter_enum he ⟨_,_,_,_,H1,U,I1.kept (t':=s1.toks) up,Sw (Nat.succ_ne_self _) (off 1)<|off 0,⟨⟨_,he⟩,hi⟩,λb hb=>?_,q⟩;simp only[au,bT,or_false]at hb;have le:s1.heap.objs.size<=b:=by rcases hb with rfl | rfl <;>omega
  exact I1.fpOk le (I1.hok.fresh le)
def RM{K:aa}{S1 S2:Sr}{xs ys:List V}{g:TG}{tb:TS}{D:Ja}{σ:St}{H:Hp}(Pv:Nat->St->Hp->Prop)(hll:xs.length=ys.length)(h0:Pv 0 σ H)(hl:∀i σ H,i<=xs.length->Pv i σ H->S1.vals K H xs/\S2.vals K H ys)
    (hs:∀i x y p σ H,xs[i]? = some x->ys[i]? = some y->H p=none->Pv i σ H->g (.ref p) σ (upd H p<|.tup [x,y]) λσ2 H2=>tb { D with nx:=Pv<|i+1,ct:=Pv<|i+1,bk:=D.nx } σ2 H2) (hd:∀σ H,Pv xs.length σ H->D.nx σ H) :
    ∃W:Nat->Nat->St->Hp->Prop,(∃m,W 0 m σ H)/\∀i m σ H,W i m σ H->
     ((q0k K S1 S2).stop i H/\D.nx σ H)\/((q0k K S1 S2).go i H/\∃N:St->Hp->Prop,(∀σ' H',N σ' H'->∃m',m' < m/\W (i+1) m' σ' H')/\∀x H',(q0k K S1 S2).yld i H x H'->g x σ H' λσ2 H2=>tb { D with nx:=N,ct:=N,bk:=D.nx } σ2 H2):=by
 show⟨λi m σ H=>m=xs.length - i/\i<=xs.length/\Pv i σ H,⟨xs.length,by simp,aP _,h0⟩,?_⟩;rintro i m σ H ⟨rfl,hi,p⟩;obtain⟨q1,q2⟩:=hl i σ H hi p;by_cases fB:i < xs.length
 . have hly:i < ys.length:=by omega
   show .inr ⟨⟨xs,ys,xs[i],ys[i],q1,q2,by simp[fB],by simp[hly]⟩,Pv<|i+1,λσ' H' p'=>⟨xs.length - (i+1),Z,U,fB,p'⟩,λx H' y=>?_⟩;obtain⟨pp,x',y',rfl,hn,rfl,y1,y2⟩:=y;exact hs i x' y' pp σ H (y1 xs q1) (y2 ys q2) hn p
 . have e:i=xs.length:=by omega
   subst e;exact .inl ⟨⟨xs,ys,q1,q2,.inl U⟩,hd σ H p⟩
section
variable{X:Cx}
def rSlS:V->Option Int->Option Int->Hp->VK->Prop:=λx lo hi H Q=>∃z,x=.str z/\z.length<=sizeLine/\Q (.str<|Txt.slice z lo hi) H
def UJ:d0o X rSlS:=by
 intro aS s σ H x v vl vu lo hi sl Q I rx hs pl pu h;obtain⟨z,rfl,hz,q⟩:=h;obtain⟨t,rfl⟩:=rx;have fin:∀t' k,EP X aS σ Q (.str (Txt.slice z lo hi) t') { s with toks:=k }:=λt' k=>⟨.str _,H,I.tok _,⟨_,U⟩,q⟩;show⟨"str",_,F.slot_str_getitem.lookup,typeIs_str _ _ _,?_⟩;cases pl with
 | none=>
  cases pu with
  | none=>exact wpAny_getItem_str_slice (l:=none) (u:=none) (st:=none) hs rfl (post_val_or_str ⟨af (Txt.slice_le z _ _) hz,fin⟩)
  | int j uj=>exact wpAny_getItem_str_slice (l:=none) (u:=some (j,uj)) (st:=none) hs rfl (post_val_or_str ⟨af (Txt.slice_le z _ _) hz,fin⟩)
 | int i ui=>
  cases pu with
  | none=>exact wpAny_getItem_str_slice (l:=some (i,ui)) (u:=none) (st:=none) hs rfl (post_val_or_str ⟨af (Txt.slice_le z _ _) hz,fin⟩)
  | int j uj=>exact wpAny_getItem_str_slice (l:=some (i,ui)) (u:=some (j,uj)) (st:=none) hs rfl (post_val_or_str ⟨af (Txt.slice_le z _ _) hz,fin⟩)
def rIndexS:V->List V->Hp->VK->Prop:=λx xs H Q=>∃z y i R3,x=.str z/\xs=[.str y]/\Builtin.Str.occurrences z y 0 z.length 1=i::R3/\Q (.int (i:Nat)) H
def Tg:MtR X "str.index" rIndexS:=by intro aS s σ H x xs v us Q I rx rs h;obtain⟨z,y,i,R3,rfl,rfl,e,q⟩:=h;obtain⟨t,rfl⟩:=rx;obtain⟨u,rfl,ru⟩:=rs.one;obtain⟨t',rfl⟩:=ru;exact call_gives F.slot_str_index (typeIs_str s z t) F.entry_str_index (F.args_str_index_2 _ _) (PySem.gives_str_index z y t t' i R3 e) ⟨.int _,H,I.tok _,⟨_,U⟩,q⟩
def Its(z:Str):It:=⟨λi _=>i < z.cps.size,λi H x H'=>H'=H/\∃c,z.cps[i]? = some c/\x=.str ⟨#[c]⟩,λi _=>z.cps.size<=i⟩
def Um{P:Program}{w:World}{K:aa}{tg:Expr}(z:Str)(t:Tok)(it:Addr):Mq P w K tg (Its z) [it] it (λi h=>h.IsStrIter it "str_ascii_iterator" z t i)where
 mem:=by simp
 obj:=λi h st b hb=>by
  have e:b=it:=by simpa using hb
  subst e;obtain⟨o,e,c,d⟩:=st;exact⟨o,e,λv q=>by rw[d]at q;cases q⟩
 keep:=λi h h' st k=>by
  obtain⟨o,e,r⟩:=st;exact⟨o,k it (by simp) o e,r⟩
 item:=by
  intro X hP hw hK hc i aS s σ H E I hf st hg;subst hP hw hK;have hg:i < z.cps.size:=hg;obtain⟨f0,f1,f2,f3,f4,f5⟩:=hf it (by simp);show wpAny_pyNext_ascii_item st (c:=z.cps[i]) (by simp[hg]) λh' st' sb=>?_;have I1:r8 X aS σ H { s with heap:=h',toks:=s.toks+1 }:=I.turned (t':=s.toks+1) (λb o hb e=>(sb.2 b hb).trans e) f0 f1 f3 f4 f5;obtain⟨o,e,c,d⟩:=id st';exact⟨_,U,Oq (s:={ s with heap:=h',toks:=s.toks+1 }) e c d bD ⟨.str ⟨#[z.cps[i]]⟩,H,I1,⟨_,U⟩,⟨U,_,by simp[hg],U⟩,st',λb hb=>(hf b hb).1⟩⟩
 done:=by intro X hP hw hK hc i aS s σ H E I hf st hg;subst hP hw hK;have hg:z.cps.size<=i:=hg;obtain⟨f0,f1,f2,f3,f4,f5⟩:=hf it (by simp);exact wpAny_pyNext_ascii_end (I.ok.hd hc) st (by simp;omega) λh' eb=>⟨U,I.turned (t':=s.toks) (λb o hb e=>eb b o hb e) f0 f1 f3 f4 f5⟩
 self:=λ_ _ _ _ _ st h=>wpAny_pyIter_striter_ascii st h
def iStr(tl:TE):TI:=λσ H R=>tl σ H λx H1=>∃z,x=.str z/\z.cps.all (· < 128)=true/\R (Its z) H1
def PB{tg l:Expr}{tl:TE}(hl:PE X l tl):PI X tg l (iStr tl):=by
 intro aS s σ H R I h;show K0 (hl aS s σ H _ I h) λv s1 ⟨x,H1,I1,r1,z,e,ha,q⟩=>?_;subst e;obtain⟨t,rfl⟩:=r1;show wpAny_pyIter_ascii ha ?_;have hf:H1 s1.heap.objs.size=none:=I1.hok.fresh<|ae _;show⟨s1.heap.objs.size,[s1.heap.objs.size],_,Its z,H1,U,I1.kept (t':=s1.toks)<|λb ob q=>ak _ q,Um z t _,⟨_,aF _ U,U,U⟩,λb hb=>?_,q⟩;have e:b=s1.heap.objs.size:=by simpa using hb
 subst e;exact I1.fpOk (ae _) hf
end
section
variable{X:Cx}
end
section
variable{prog:Program}{w:World}{A:Around}{E:w1c}{s:Shared}
end
def Mc{J:It}{n:Nat}{g:TG}{tb:TS}{D:Ja}{σ:St}{H:Hp}(Pv:Nat->St->Hp->Prop)(h0:Pv 0 σ H)
    (hs:∀i σ H,i < n->Pv i σ H->J.go i H/\∀x H',J.yld i H x H'->g x σ H' λσ2 H2=>tb { D with nx:=Pv<|i+1,ct:=Pv<|i+1,bk:=D.nx } σ2 H2) (hd:∀σ H,Pv n σ H->J.stop n H/\D.nx σ H) :
    ∃W:Nat->Nat->St->Hp->Prop,(∃m,W 0 m σ H)/\∀i m σ H,W i m σ H->
     (J.stop i H/\D.nx σ H)\/(J.go i H/\∃N:St->Hp->Prop,(∀σ' H',N σ' H'->∃m',m' < m/\W (i+1) m' σ' H')/\∀x H',J.yld i H x H'->g x σ H' λσ2 H2=>tb { D with nx:=N,ct:=N,bk:=D.nx } σ2 H2):=by
 show⟨λi m σ H=>m=n - i/\i<=n/\Pv i σ H,⟨n,by simp,aP _,h0⟩,?_⟩;rintro i m σ H ⟨rfl,hi,p⟩;by_cases fB:i < n
 . obtain⟨a,b⟩:=hs i σ H fB p;exact .inr ⟨a,Pv<|i+1,λσ' H' p'=>⟨n - (i+1),Z,U,fB,p'⟩,b⟩
 . have e:i=n:=by omega
   subst e;exact .inl (hd σ H p)
def MG(l b:Addr)(items kn:Array Value)(n n2:Nat)(dd lV:Option Addr)(sl lr:Array (Option Value))(hc0:items.isEmpty=true) :
    Meets (Builtin.«tuple.__add__» ⟨[.ref l,.ref b],[]⟩) (λ_ R s=>s.heap.get? l=some { cls:=.type "tuple",dict:=dd,data:=.seq items n,slots:=sl }/\s.heap.get? b=some { cls:=.type "tuple",dict:=lV,data:=.seq kn n2,slots:=lr }/\R (.ok<|.ret<|Value.ref b) { s with heap:=s.heap,toks:=s.toks }):=
 .of_wp λprog w A R s h=>by obtain⟨hp,g,d,tk,os⟩:=s;obtain⟨hl,hb,h⟩:=h;have f1:=AutoSeq1.idx_int;have f2:=AutoSeq1.sub_tuple_tuple;wp_walk using AutoSeq1.wpAny_loadPart' hl,AutoSeq1.wpAny_loadPart' hb;exact⟨_,U,h⟩
def rCatA:R2:=λx y H Q=>∃a b xs ys,x=.ref a/\y=.ref b/\H a=some (.tup xs)/\H b=some (.tup ys)/\xs.length+ys.length<=sizeLine/\
 ∀p H',h9 H H'->H' p=some (.tup<|xs++ys)->Q (.ref p) H'
def Y4:FI X (binaryOp .Add) rCatA:=by
 intro aS s σ H x y v u Q I rx ry h;obtain⟨a,b,xs,ys,rfl,rfl,ha,hb,hz,q⟩:=h;cases rx;cases ry;by_cases hx:xs=[]
 . obtain⟨its,r1,p1,_⟩:=I.tuple<|o9.of ha;obtain⟨gb,r2,p2,_⟩:=I.tuple<|o9.of hb;have e0:its=[]:=r1.nil_iff.mpr hx;obtain⟨⟨cls,dd,data,sl⟩,ho,hc,n,hd⟩:=id p1;obtain⟨⟨uJ,lV,data2,lr⟩,iX,kP,n2,kL⟩:=id p2;simp only at hc hd kP kL;subst hc hd kP kL;exact concat_meets ⟨_,ho,U⟩ ⟨_,iX,U⟩ noFill_tuple_add seq_tuple_add dR dS (dU _ _)
    (MG a b its.toArray gb.toArray n n2 dd lV sl lr<|by rw[e0];rfl) ⟨ho,iX,⟨.ref b,H,I,U,q b H (h9.refl _)<|by rw[hx];exact hb⟩⟩
 . exact XW aS s σ H (.ref a) (.ref b) (.ref a) (.ref b) Q I rfl rfl ⟨a,b,xs,ys,U,U,o9.of ha,o9.of hb,hx,hz,λz=>q a H (h9.refl _) (by rw[z,bw];exact ha),λ_ p np=>q p _ (c7 np) b9⟩
def y9(H H':Hp):Prop:=∀p vs,H p=some (.tup vs)->H' p=some (.tup vs)
def y9.refl(H:Hp):y9 H H:=λ_ _ h=>h
def y9.trans(x:y9 H H1)(y:y9 H1 H2):y9 H H2:=λp vs h=>y p vs (x p vs h)
def h9.t(x:h9 H H'):y9 H H':=λp vs h=>x p _ h
def j8(Pd:Nat->V->Hp->Prop)(ys:List V)(n:Nat)(H:Hp):Prop:=ys.length=n/\∀j,j < n->∃u,ys[j]? = some u/\Pd j u H
section
variable{Pd Pe:Nat->V->Hp->Prop}{ys:List V}{n:Nat}{H H':Hp}{v:V}
def j8.nil:j8 Pd [] 0 H:=⟨U,λj h=>absurd h<|cn j⟩
def j8.mono(h:j8 Pd ys n H)(s:∀j u,j < n->Pd j u H->Pe j u H'):j8 Pe ys n H':=⟨h.1,λj hj=>by
 obtain⟨u,e,p⟩:=h.2 j hj;exact⟨u,e,s j u hj p⟩⟩
def j8.snoc(h:j8 Pd ys n H)(p:Pd n v H):j8 Pd (ys++[v]) (n+1) H:=⟨by rw[aq,h.1];rfl,λj hj=>by
 by_cases hn:j < n
 . obtain⟨u,e,q⟩:=h.2 j hn;exact⟨u,by rw[aY<|by rw[h.1];exact hn];exact e,q⟩
 . have e:j=n:=by omega
   subst e;exact⟨v,by rw[aZ (by rw[h.1];exact ae _),h.1,di];rfl,p⟩⟩
theorem j8.at(h:j8 Pd ys n H)(e:ys[j]? = some u):j < n/\Pd j u H:=by
 have hj:j < n:=by rw[<- h.1];exact(aJ.mp e).1
 obtain⟨u',e',p⟩:=h.2 j hj;rw[e]at e';cases e';exact⟨hj,p⟩
end
def N8(Pd:Nat->V->Hp->Prop)(n:Nat)(v:V)(H:Hp):Prop:=∃p vs,v=.ref p/\H p=some (.tup vs)/\j8 Pd vs n H
def BF(K:aa)(Pd:Nat->V->Hp->Prop)(n:Nat)(v:V)(H:Hp):Prop:=∃S vs,Sr.ofV S v/\S.vals K H vs/\(∀H',h9 H H'->S.vals K H' vs/\BA K v H' vs.length)/\j8 Pd vs n H
def N8.seq{K:aa}{Pd:Nat->V->Hp->Prop}{n:Nat}{v:V}{H:Hp}(h:N8 Pd n v H):BF K Pd n v H:=by obtain⟨p,vs,rfl,hp,e⟩:=h;exact⟨.tup p,vs,U,o9.of hp,λH' q=>⟨o9.of<|q _ _ hp,.inr ⟨_,o9.of<|q _ _ hp,U⟩⟩,e⟩
theorem N8.mono(h:N8 Pd n v H)(s:y9 H H')(m:∀j u,j < n->Pd j u H->Pe j u H'):N8 Pe n v H':=by obtain⟨p,vs,rfl,hp,e⟩:=h;exact⟨p,vs,U,s _ _ hp,e.mono m⟩
theorem BF.mono{K:aa}{Pd Pe:Nat->V->Hp->Prop}{n:Nat}{v:V}{H H':Hp}(h:BF K Pd n v H)(s:h9 H H')(m:∀j u,j < n->Pd j u H->Pe j u H'):BF K Pe n v H':=by obtain⟨S,vs,e,hv,hs,he⟩:=h;exact⟨S,vs,e,(hs _ s).1,λH2 q=>hs _<|s.trans q,he.mono m⟩
def BF.list{K:aa}{Pd:Nat->V->Hp->Prop}{n:Nat}{p:Addr}{vs:List V}{H:Hp}(hp:H p=some (.lst vs))(e:j8 Pd vs n H):BF K Pd n (.ref p) H:=
 ⟨.lst p,vs,U,p9.of hp,λH' q=>⟨p9.of<|q _ _ hp,.inl ⟨_,p9.of<|q _ _ hp,U⟩⟩,e⟩
def N8.len{K:aa}{Pd:Nat->V->Hp->Prop}{n:Nat}{v:V}{H:Hp}(h:N8 Pd n v H):BA K v H n:=by obtain⟨p,vs,rfl,hp,e⟩:=h;have e1:=e.1;subst e1;exact .inr ⟨_,o9.of hp,U⟩
def BF.len{K:aa}{Pd:Nat->V->Hp->Prop}{n:Nat}{v:V}{H:Hp}(h:BF K Pd n v H):BA K v H n:=by obtain⟨S,vs,_,_,hs,e⟩:=h;have q:=(hs _<|h9.refl _).2;rw[e.1]at q;exact q
def o4{J:It}{n k:Nat}{g:TG}{te:TE}{σ:St}{Q:VK}{H1:Hp}(Pv:Nat->List V->Hp->Prop)(hn:n<=1000)(h0:Pv 0 [] H1)(hl:∀i ys H,Pv i ys H->ys.length=i)
    (tG:∀i ys H,i < n->Pv i ys H->J.go i H/\∀x H',J.yld i H x H'->g x (σ++List.replicate k none) H' λσ2 H2=>(∃zs,σ2=σ++zs/\zs.length=k)/\te σ2 H2 λv H3=>Pv (i+1) (ys++[v]) H3)
    (iJ:∀ys H,Pv n ys H->J.stop n H) (iR:∀ys H p,Pv n ys H->H p=none->Q (.ref p) (upd H p<|.lst ys)) :
    Sk J k g te σ Q H1:=by
 have z:1000 < sizeLine:=by decide
 show⟨λi m ys H=>m=n - i/\i<=n/\Pv i ys H,⟨n,U,aP _,h0⟩,?_⟩;rintro i m ys H ⟨rfl,hi,p⟩;have yl:=hl i ys H p;by_cases fB:i < n
 . obtain⟨a,b⟩:=tG i ys H fB p;show .inr ⟨a,Z,λx H' y=>?_⟩;have c:=b x H' y;have e:(λσ2 H2=>(∃zs,σ2=σ++zs/\zs.length=k)/\te σ2 H2 λv H3=>∃m',m' < n - i/\m'=n - (i+1)/\i+1<=n/\Pv (i+1) (ys++[v]) H3)=λσ2 H2=>(∃zs,σ2=σ++zs/\zs.length=k)/\te σ2 H2 λv H3=>Pv (i+1) (ys++[v]) H3:=by
    funext σ2 H2;congr 2;funext v H3;exact propext ⟨λ⟨_,_,_,_,q⟩=>q,λq=>⟨_,Z,U,fB,q⟩⟩
   rw[e];exact c
 . have e:i=n:=by omega
   subst e;exact .inl ⟨iJ ys H p,Z,λq nq=>iR ys H q p nq⟩
end L2
namespace Mine
def sm(S:SR)(f:QQ S):QQ S
 | 0=>S.zero
 | n+1=>S.add (sm S f n) (f n)
section
variable{S:SR}
theorem j6:∀{n:Nat},(∀i,i < n->f i=g i)->sm S f n=sm S g n
 | 0,_=>rfl
 | n+1,h=>by
  show S.add _ _=S.add _ _;rw[j6 λi hi=>h i<|Nat.lt_succ_of_lt hi,h n<|cE n]
theorem F2:∀n:Nat,sm S (λ_=>S.zero) n=S.zero
 | 0=>rfl
 | n+1=>by show S.add _ _=_;rw[F2 n,S.add_zero]
theorem X0(f g:QQ S):∀n:Nat,sm S (λi=>S.add (f i)<|g i) n=S.add (sm S f n) (sm S g n)
 | 0=>(S.add_zero S.zero).symm
 | n+1=>by
  show S.add _ _=S.add (S.add _ _) (S.add _ _);rw[X0 f g n,S.add_assoc,S.add_assoc];congr 1;rw[<- S.add_assoc,S.add_comm (sm S g n)<|f n,S.add_assoc]
theorem HS(c:S.W)(f:QQ S):∀n:Nat,S.mul c (sm S f n)=sm S (λi=>S.mul c<|f i) n
 | 0=>S.mul_zero c
 | n+1=>by
  show S.mul c (S.add _ _)=S.add _ _;rw[S.distrib,HS c f n]
def Rc(c:S.W)(f:QQ S)(n:Nat):S.mul (sm S f n) c=sm S (λi=>S.mul (f i) c) n:=by rw[S.mul_comm,HS];exact j6 λi _=>S.mul_comm _ _
theorem Rb(f:F0 S)(k:Nat):∀n:Nat,sm S (λi=>sm S (λj=>f i j) k) n=sm S (λj=>sm S (λi=>f i j) n) k
 | 0=>(F2 k).symm
 | n+1=>by
  show S.add _ _=_;rw[Rb f k n,<- X0];rfl
def EI(r:QQ S)(A:F0 S)(b:QQ S)(h w:Nat) :
    sm S (λj=>S.mul (sm S (λi=>S.mul (r i)<|A i j) h)<|b j) w=sm S (λi=>S.mul (r i)<|sm S (λj=>S.mul (A i j)<|b j) w) h:=by
 have e1:∀j,j < w->S.mul (sm S (λi=>S.mul (r i)<|A i j) h) (b j)=sm S (λi=>S.mul (r i)<|S.mul (A i j)<|b j) h:=λj _=>by
  rw[Rc];exact j6 λi _=>S.mul_assoc _ _ _
 have e2:∀i,i < h->S.mul (r i) (sm S (λj=>S.mul (A i j)<|b j) w)=sm S (λj=>S.mul (r i)<|S.mul (A i j)<|b j) w:=λi _=>HS _ _ _;rw[j6 e1,j6 e2,Rb]
end
structure M0(S:SR)where
 neg:S.W->S.W
 inv:S.W->S.W
 add_neg:∀x,S.add x (neg x)=S.zero
 mul_inv:∀x,x≠S.zero->S.mul x (inv x)=S.one
 sz_neg:∀m x,S.sz m x->S.sz m (neg x)
 sz_inv:∀m x,x≠S.zero->S.sz m x->S.sz m (inv x)
section
variable{S:SR}{F:M0 S}
def CN(x:S.W):S.add S.zero x=x:=by rw[S.add_comm,S.add_zero]
def Bw(x:S.W):S.mul S.zero x=S.zero:=by rw[S.mul_comm,S.mul_zero]
def Ho(x:S.W):S.mul S.one x=x:=by rw[S.mul_comm,S.mul_one]
def Ov(x y z:S.W):S.mul (S.add x y) z=S.add (S.mul x z) (S.mul y z):=by rw[S.mul_comm,S.distrib,S.mul_comm z x,S.mul_comm z y]
def Bx(h:S.add x y=S.zero):y=F.neg x:=by
 have e:S.add (F.neg x) (S.add x y)=y:=by rw[<- S.add_assoc,S.add_comm (F.neg x) x,F.add_neg,CN]
 rw[h,S.add_zero]at e;exact e.symm
def Yz:F.neg S.zero=S.zero:=(Bx (F:=F)<|S.add_zero S.zero).symm
def Wp(x:S.W):F.neg (F.neg x)=x:=(Bx (F:=F)<|by rw[S.add_comm,F.add_neg]).symm
def IL(x y:S.W):S.mul (F.neg x) y=F.neg (S.mul x y):=Bx (by rw[<- Ov,F.add_neg,Bw])
def QA(x y:S.W):S.mul x (F.neg y)=F.neg (S.mul x y):=by rw[S.mul_comm,IL,S.mul_comm]
def Wr(x y:S.W):F.neg (S.add x y)=S.add (F.neg x) (F.neg y):=(Bx (F:=F) (by
 rw[S.add_assoc,<- S.add_assoc y,S.add_comm y,S.add_assoc,F.add_neg,S.add_zero,F.add_neg])).symm
def p0p(h:S.add x (F.neg y)=S.zero):x=y:=by have e:=Bx (F:=F) (show S.add (F.neg y) x=S.zero by rw[S.add_comm];exact h);rw[e,Wp]
def Wq:S.one≠S.zero:=λh=>S.zo h.symm
def Ws(a b c d:S.W):S.add (S.add a b) (S.add c d)=S.add (S.add a c) (S.add b d):=by rw[S.add_assoc,S.add_assoc];congr 1;rw[<- S.add_assoc,S.add_comm b c,S.add_assoc]
theorem W9:∀{n:Nat},i < n->(∀k,k < n->k≠i->f k=S.zero)->sm S f n=f i
 | 0,h,_=>absurd h (cn _)
 | n+1,h,z=>by
  show S.add _ _=_;by_cases e:i=n
  . subst e;rw[j6 (g:=λ_=>S.zero)<|λk hk=>z k Z Z,F2,CN]
  . rw[W9 (i:=i) Z<|λk hk hn=>z k Z hn,z n Z Z,S.add_zero]
def BU(i k:Nat):Nat:=if k < i then k else k+1
theorem KU(f:QQ S):∀(n i:Nat),i < n+1->sm S f (n+1)=S.add (f i) (sm S (λk=>f<|BU i k) n)
 | 0,i,h=>by
  have:i=0:=by omega
  subst this;show S.add S.zero (f 0)=S.add (f 0) S.zero;exact S.add_comm _ _
 | n+1,i,h=>by
  by_cases e:i=n+1
  . subst e;show S.add (sm S f<|n+1) (f<|n+1)=_;rw[S.add_comm];congr 1;exact j6 λk hk=>by unfold BU;rw[if_pos hk]
  . show S.add (sm S f<|n+1) (f<|n+1)=S.add (f i) (S.add (sm S (λk=>f<|BU i k) n)<|f<|BU i n);rw[KU f n i Z,S.add_assoc];congr 3;unfold BU;rw[if_neg Z]
def lin(S:SR)(c:QQ S)(vs:F0 S)(n:Nat):QQ S:=λj=>sm S (λk=>S.mul (c k)<|vs k j) n
def HE(c d:QQ S)(vs:F0 S)(n j:Nat):lin S (λk=>S.add (c k)<|d k) vs n j=S.add (lin S c vs n j) (lin S d vs n j):=by unfold lin;rw[<- X0];exact j6 λk _=>Ov _ _ _
def HC(a:S.W)(c:QQ S)(vs:F0 S)(n j:Nat):lin S (λk=>S.mul a<|c k) vs n j=S.mul a (lin S c vs n j):=by unfold lin;rw[HS];exact j6 λk _=>S.mul_assoc _ _ _
def Oh(vs:F0 S)(n j:Nat):lin S (λ_=>S.zero) vs n j=S.zero:=by unfold lin;rw[j6 (g:=λ_=>S.zero) λk _=>Bw _,F2]
def HB(h:i < n):lin S (λk=>if k=i then S.one else S.zero) vs n j=vs i j:=by unfold lin;rw[W9 (i:=i) h λk _ hk=>by dsimp only;rw[if_neg hk,Bw]];dsimp only;rw[if_pos U,Ho]
def Rw(F:M0 S)(c:QQ S)(vs:F0 S)(n j:Nat):lin S (λk=>F.neg<|c k) vs n j=F.neg (lin S c vs n j):=by show Bx ?_;rw[<- HE];unfold lin;rw[j6 (g:=λ_=>S.zero) λk _=>by dsimp only;rw[F.add_neg,Bw],F2]
def LK(c:QQ S)(A:F0 S)(vs:F0 S)(m n j:Nat):sm S (λi=>S.mul (c i)<|lin S (A i) vs n j) m=lin S (λk=>sm S (λi=>S.mul (c i)<|A i k) m) vs n j:=(EI c A (λk=>vs k j) m n).symm
def M1(S:SR)(w n:Nat)(vs:F0 S)(u:QQ S):Prop:=∃c,∀j,j < w->u j=lin S c vs n j
theorem M1.add(h:M1 S w n vs u)(g:M1 S w n vs v):M1 S w n vs λj=>S.add (u j) (v j):=by obtain⟨c,hc⟩:=h;obtain⟨d,hd⟩:=g;exact⟨λk=>S.add (c k)<|d k,λj hj=>by dsimp only;rw[HE,hc j hj,hd j hj]⟩
theorem M1.mul(a:S.W)(h:M1 S w n vs u):M1 S w n vs λj=>S.mul a (u j):=by obtain⟨c,hc⟩:=h;exact⟨λk=>S.mul a<|c k,λj hj=>by dsimp only;rw[HC,hc j hj]⟩
def M1.gen(h:i < n):M1 S w n vs (vs i):=⟨_,λj _=>(HB h).symm⟩
theorem M1.lin(h:∀i,i < m->M1 S w n vs (us i)):M1 S w n vs (lin S c us m):=by
 have hc:∀i,∃d:QQ S,i < m->∀j,j < w->us i j=Mine.lin S d vs n j:=λi=>by
  by_cases hi:i < m
  . obtain⟨d,hd⟩:=h i hi;exact⟨d,λ_=>hd⟩
  . exact⟨λ_=>S.zero,λz=>absurd z hi⟩
 show⟨λk=>sm S (λi=>S.mul (c i)<|(hc i).choose k) m,λj hj=>?_⟩;rw[<- LK c λi=>(hc i).choose];exact j6 λi hi=>by rw[(hc i).choose_spec hi j hj]
def M1.congr(h:M1 S w n vs u)(e:∀j,j < w->v j=u j):M1 S w n vs v:=by obtain⟨c,hc⟩:=h;exact⟨c,λj hj=>by rw[e j hj,hc j hj]⟩
def JV(S:SR)(w n:Nat)(vs:F0 S):Prop:=∀c,(∀j,j < w->lin S c vs n j=S.zero)->∀k,k < n->c k=S.zero
theorem VZ(F:M0 S):∀(n m:Nat) (A:F0 S),n < m->∃x:QQ S,(∃i,i < m/\x i≠S.zero)/\∀k,k < n->sm S (λi=>S.mul (x i)<|A i k) m=S.zero
 | 0,m,A,h=>⟨λ_=>S.one,⟨0,h,Wq⟩,λk hk=>absurd hk<|cn k⟩
 | n+1,m,A,h=>by
  by_cases z:∀i,i < m->A i n=S.zero
  . obtain⟨x,hx,e⟩:=VZ F n m A Z;show⟨x,hx,λk hk=>?_⟩;by_cases hn:k=n
    . subst hn;rw[j6 (g:=λ_=>S.zero) λi hi=>by rw[z i hi,S.mul_zero],F2]
    . exact e k Z
  . obtain⟨p,hp⟩:=Classical.not_forall.mp z;obtain⟨pm,pn⟩:=Classical.not_imp.mp hp;obtain⟨m',rfl⟩:∃m',m=m'+1:=⟨m - 1,Z⟩;obtain⟨x,⟨i,hi,xi⟩,e⟩:=VZ F n m' (λi k=>S.add (A (BU p i) k)<|F.neg<|S.mul (S.mul (A (BU p i) n)<|F.inv<|A p n)<|A p k) Z
    let y0:S.W:=F.neg (sm S (λi=>S.mul (x i)<|S.mul (A (BU p i) n)<|F.inv<|A p n) m')
    let y:QQ S:=λk=>if k=p then y0 else if k < p then x k else x (k - 1)
    have yp:y p=y0:=if_pos rfl;have ys:∀k,y (BU p k)=x k:=λk=>by
     show(if BU p k=p then y0 else if BU p k < p then x (BU p k)else x<|BU p k - 1)=x k;unfold BU;by_cases hk:k < p
     . rw[if_pos hk,if_neg Z,if_pos hk]
     . rw[if_neg hk,if_neg Z,if_neg Z];rfl
    have eJ:∀k,sm S (λi=>S.mul (y i)<|A i k) (m'+1)=sm S (λi=>S.mul (x i)<|S.add (A (BU p i) k)<|F.neg<|S.mul (S.mul (A (BU p i) n)<|F.inv<|A p n)<|A p k) m':=λk=>by
     rw[KU _ m' p pm,yp];rw[j6 (n:=m') (g:=λi=>S.mul (x i)<|A (BU p i) k) λi _=>by rw[ys]];rw[j6 (n:=m') (g:=λi=>S.add (S.mul (x i)<|A (BU p i) k)<|F.neg<|S.mul (S.mul (x i)<|S.mul (A (BU p i) n)<|F.inv<|A p n)<|A p k) (f:=λi=>S.mul (x i)<|S.add (A (BU p i) k)<|F.neg<|S.mul (S.mul (A (BU p i) n)<|F.inv<|A p n)<|A p k) λi _=>by
      rw[S.distrib,QA,S.mul_assoc<|x i]]
     rw[X0,S.add_comm];congr 1;show S.mul (F.neg _) (A p k)=_;rw[IL,Rc];symm;show Bx ?_;rw[<- X0];rw[j6 (g:=λ_=>S.zero) λi _=>F.add_neg _,F2]
    show⟨y,⟨BU p i,by unfold BU;split <;>omega,by rw[ys];exact xi⟩,λk hk=>?_⟩;rw[eJ];by_cases hn:k=n
    . subst hn;rw[j6 (g:=λ_=>S.zero) λi _=>by rw[S.mul_assoc,S.mul_comm<|F.inv _,F.mul_inv _ pn,S.mul_one,F.add_neg,S.mul_zero],F2]
    . exact e k Z
def BR(F:M0 S)(h:JV S w m us)(g:∀i,i < m->M1 S w n vs (us i)):m<=n:=by
 show Classical.byContradiction λz=>?_;have hc:∀i,∃d:QQ S,i < m->∀j,j < w->us i j=lin S d vs n j:=λi=>by
  by_cases hi:i < m
  . obtain⟨d,hd⟩:=g i hi;exact⟨d,λ_=>hd⟩
  . exact⟨λ_=>S.zero,λz=>absurd z hi⟩
 obtain⟨x,⟨i,hi,xi⟩,e⟩:=VZ F n m (λi k=>(hc i).choose k) Z;show xi<|h x (λj hj=>?_) i hi;show sm S (λk=>S.mul (x k)<|us k j) m=_;rw[j6 (g:=λk=>S.mul (x k)<|lin S ((hc k).choose) vs n j) λk hk=>by rw[(hc k).choose_spec hk j hj],LK x λi=>(hc i).choose];show sm S (λk=>S.mul _ _) n=_;rw[j6 (g:=λ_=>S.zero) λk hk=>by rw[e k hk,Bw],F2]
def c0f(p:Nat->Nat)(hp:∀i,i < n->p i < w)(h1:∀i,i < n->vs i (p i)=S.one)(h0:∀i j,i < j->j < n->vs j (p i)=S.zero):JV S w n vs:=by
 intro c hc;have eJ:∀m k,k < m->k < n->c k=S.zero:=by
  intro m
  induction m with
  | zero=>intro k hk;omega
  | succ m ih=>
   intro k hk hn;have e:=hc (p k)<|hp k hn;unfold lin at e;rw[W9 (i:=k) hn λi hi ne=>?_,h1 k hn,S.mul_one]at e
   . exact e
   . by_cases lt:i < k
     . rw[ih i Z hi,Bw]
     . rw[h0 k i Z hi,S.mul_zero]
 exact λk hk=>eJ (k+1) k (cE k) hk
def stp(F:M0 S)(k:Nat × (QQ S))(r:QQ S):QQ S:=λj=>S.add (r j) (S.mul (F.neg<|r k.1)<|k.2 j)
def clr(F:M0 S)(ks:w1a S)(r:QQ S):QQ S:=ks.foldl (λr k=>stp F k r) r
def N3(k:Nat × (QQ S))(ks:w1a S)(r:QQ S):clr F (k::ks) r=clr F ks (stp F k r):=rfl
def CQ(k:Nat × (QQ S))(ks:w1a S)(r:QQ S):clr F (ks++[k]) r=stp F k (clr F ks r):=by unfold clr;rw[cV];rfl
def ML(h:r k.1=S.zero):stp F k r=r:=by
 funext j;unfold stp;rw[h,Yz,Bw,S.add_zero]
def Xg(k:Nat × (QQ S))(u v:QQ S):stp F k (λj=>S.add (u j)<|v j)=λj=>S.add (stp F k u j) (stp F k v j):=by
 funext j;unfold stp;rw[Wr,Ov,Ws]
def Xf(k:Nat × (QQ S))(a:S.W)(u:QQ S):stp F k (λj=>S.mul a<|u j)=λj=>S.mul a (stp F k u j):=by
 funext j;unfold stp;rw[S.distrib,<- S.mul_assoc,QA]
theorem RY:∀(ks:w1a S) (u v:QQ S),clr F ks (λj=>S.add (u j)<|v j)=λj=>S.add (clr F ks u j) (clr F ks v j)
 | [],_,_=>rfl
 | k::ks,u,v=>by rw[N3,Xg,RY ks];rfl
theorem RX:∀(ks:w1a S) (a:S.W) (u:QQ S),clr F ks (λj=>S.mul a<|u j)=λj=>S.mul a (clr F ks u j)
 | [],_,_=>rfl
 | k::ks,a,u=>by rw[N3,Xf,RX ks];rfl
theorem OC:∀(ks:w1a S),clr F ks (λ_=>S.zero)=λ_=>S.zero
 | []=>rfl
 | k::ks=>by rw[N3,ML U,OC ks]
theorem Mi(ks:w1a S)(c:QQ S)(vs:F0 S):∀n,clr F ks (lin S c vs n)=lin S c (λk=>clr F ks<|vs k) n
 | 0=>OC ks
 | n+1=>by
  have e:lin S c vs (n+1)=λj=>S.add (lin S c vs n j) (S.mul (c n)<|vs n j):=rfl;rw[e,RY,Mi ks c vs n,RX];rfl
theorem FG:∀{ks:w1a S} {u v:QQ S},(∀k∈ks,k.1 < w)->(∀j,j < w->u j=v j)->∀j,j < w->clr F ks u j=clr F ks v j
 | [],_,_,_,e=>e
 | k::ks,u,v,h,e=>by
  rw[N3,N3];show FG (λq hq=>h q<|aA _ hq) λj hj=>?_;unfold stp;rw[e j hj,e k.1<|h k<|ax ..]
structure Kp(S:SR)(w:Nat)(ks:w1a S):Prop where
 lt:∀k∈ks,k.1 < w
 one:∀k∈ks,k.2 k.1=S.one
 tri:ks.Pairwise λa b=>b.2 a.1=S.zero
theorem Kp.nil:Kp S w []:=⟨by simp,by simp,.nil⟩
theorem FE:∀{ks:w1a S} {u:QQ S},(∀k∈ks,k.2 p=S.zero)->clr F ks u p=u p
 | [],_,_=>rfl
 | k::ks,u,h=>by
  rw[N3,FE λq hq=>h q<|aA _ hq];unfold stp;rw[h k<|ax ..,S.mul_zero,S.add_zero]
def Kp.tail(h:Kp S w (k::ks)):Kp S w ks:=⟨λq hq=>h.lt q<|aA _ hq,λq hq=>h.one q<|aA _ hq,(List.pairwise_cons.mp h.tri).2⟩
theorem Kp.clr:∀{ks:w1a S} {u:QQ S},Kp S w ks->∀k∈ks,clr F ks u k.1=S.zero
 | [],_,_,k,hk=>by cases hk
 | q::ks,u,h,k,hk=>by
  rw[N3];rcases au.mp hk with rfl | hk
  . rw[FE λb hb=>(List.pairwise_cons.mp h.tri).1 b hb];unfold stp;rw[h.one k<|ax ..,S.mul_one,F.add_neg]
  . exact Kp.clr h.tail k hk
theorem Qo:∀(w:Nat) (l:w1e),l.Nodup->(∀x∈l,x < w)->l.length<=w
 | 0,l,_,h=>by
  cases l with
  | nil=>exact ae _
  | cons a l=>exact absurd (h a<|ax ..) (cn _)
 | w+1,l,nd,h=>by
  have:=Qo w (l.erase w) (nd.erase w) λx hx=>by
   have h1:=(nd.mem_erase_iff.mp hx);have:=h x h1.2;have:=h1.1;omega
  have e:=List.length_erase (a:=w) (l:=l);split at e <;>omega
def QJ{w:Nat}{l:w1e}(nd:l.Nodup)(h:∀x∈l,x < w)(e:l.length=w){j:Nat}(hj:j < w):j∈l:=by
 show Classical.byContradiction λn=>?_;have:=Qo w (j::l) (cG.mpr ⟨n,nd⟩) λx hx=>by
  rcases au.mp hx with rfl | hx
  . exact hj
  . exact h x hx
 rw[bM]at this;omega
def Kp.places(h:Kp S w ks):(ks.map Prod.fst).Nodup:=by rw[List.nodup_iff_pairwise_ne,cH];show List.Pairwise.imp_of_mem (λ{a b} ha hb e z=>?_) h.tri;have:=h.one b hb;rw[<- z,e]at this;exact S.zo this
def Kp.len(h:Kp S w ks):ks.length<=w:=by
 have:=Qo w _ h.places λx hx=>by
  obtain⟨k,hk,rfl⟩:=aw.mp hx;exact h.lt k hk
 rw[ag]at this;exact this
def Kp.full{w:Nat}{ks:w1a S}{u:QQ S}(h:Kp S w ks)(e:ks.length=w):∀j,j < w->Mine.clr F ks u j=S.zero:=λj hj=>by
 have:=QJ h.places (λx hx=>by
  obtain⟨k,hk,rfl⟩:=aw.mp hx;exact h.lt k hk) (by rw[ag];exact e) hj
 obtain⟨k,hk,rfl⟩:=aw.mp this;exact h.clr k hk
open Classical in
noncomputable def CK(v:QQ S):Nat->Option Nat
 | 0=>none
 | w+1=>match CK v w with
  | some p=>some p
  | none=>if v w=S.zero then none else some w
theorem Y7:∀{w:Nat},CK v w=none->∀j,j < w->v j=S.zero
 | 0,_,j,hj=>absurd hj (cn j)
 | w+1,h,j,hj=>by
  unfold CK at h;split at h
  . cases h
  . rename_i e;split at h
    . rename_i z;by_cases e':j=w
      . rw[e'];exact z
      . exact Y7 e j Z
    . cases h
theorem Q2:∀{w:Nat},CK v w=some p->p < w/\v p≠S.zero/\∀j,j < p->v j=S.zero
 | 0,h=>by cases h
 | w+1,h=>by
  unfold CK at h;split at h
  . rename_i q e;cases h;obtain⟨a,b⟩:=Q2 e;exact⟨Z,b⟩
  . rename_i e;split at h
    . cases h
    . rename_i z;cases h;exact⟨Z,z,Y7 e⟩
def Ft(h:∀j,j < w->v j=S.zero):CK v w=none:=by
 cases e:CK v w with
 | none=>rfl
 | some p=>exact absurd (h p (Q2 e).1) (Q2 e).2.1
open Classical in
noncomputable def X5(F:M0 S)(w:Nat)(ks:w1a S)(r:QQ S):List (Nat × (Nat->S.W)):=
 if ks.length=w then ks else match CK (clr F ks r) w with
  | none=>ks
  | some p=>ks++[(p,λj=>S.mul (F.inv<|clr F ks r p)<|clr F ks r j)]
def Q3(M:List (Nat × (Nat->S.W))->Prop)(h1:ks.length=w->M ks)(h2:(∀j,j < w->clr F ks r j=S.zero)->M ks)(h3:∀p,p < w->clr F ks r p≠S.zero->M (ks++[(p,λj=>S.mul (F.inv<|clr F ks r p)<|clr F ks r j)])):M (X5 F w ks r):=by
 unfold X5;split
 . rename_i e;exact h1 e
 . split
   . rename_i e;exact h2 (Y7 e)
   . rename_i p e;exact h3 p (Q2 e).1 (Q2 e).2.1
def Qp(h:Kp S w ks):Kp S w (X5 F w ks r):=by
 show Q3 (λl=>Kp S w l) (λ_=>h) (λ_=>h) λp hp np=>?_;show⟨λk hk=>?_,λk hk=>?_,dj.mpr ⟨h.tri,dk _ _,λa ha b hb=>?_⟩⟩
 . rcases av.mp hk with hk | hk
   . exact h.lt k hk
   . rw[ar.mp hk];exact hp
 . rcases av.mp hk with hk | hk
   . exact h.one k hk
   . rw[ar.mp hk];show S.mul _ _=_;rw[S.mul_comm,F.mul_inv _ np]
 . rw[ar.mp hb];show S.mul _ (clr F ks r a.1)=_;rw[h.clr a ha,S.mul_zero]
def Rz(z:∀j,j < w->clr F ks u j=S.zero):∀j,j < w->clr F (X5 F w ks r) u j=S.zero:=by show Q3 (λl=>∀j,j < w->clr F l u j=S.zero) (λ_=>z) (λ_=>z) λp hp np j hj=>?_;rw[CQ];unfold stp;rw[z j hj,z p hp,Yz,Bw,S.add_zero]
def LN(h:Kp S w ks):∀j,j < w->clr F (X5 F w ks r) r j=S.zero:=by show Q3 (λl=>∀j,j < w->clr F l r j=S.zero) (λe=>h.full e) (λz=>z) λp hp np j hj=>?_;rw[CQ];show S.add _ (S.mul (F.neg<|clr F ks r p)<|S.mul (F.inv _) _)=_;rw[<- S.mul_assoc,IL,F.mul_inv _ np,IL,Ho,F.add_neg]
noncomputable def kpL(F:M0 S)(w:Nat)(rs:List (QQ S)):List (Nat × (Nat->S.W)):=rs.foldl (X5 F w) []
def Fw:kpL F w (rs++[r])=X5 F w (kpL F w rs) r:=by unfold kpL;rw[cV];rfl
def De(M:List (QQ S)->List (Nat × (Nat->S.W))->Prop)(h0:M [] [])(h1:∀rs ks r,Kp S w ks->M rs ks->M (rs++[r]) (X5 F w ks r))(rs:List (QQ S)):Kp S w (kpL F w rs)/\M rs (kpL F w rs):=by
 have eJ:∀n rs,rs.length=n->Kp S w (kpL F w rs)/\M rs (kpL F w rs):=by
  intro n
  induction n with
  | zero=>
   intro rs e;cases bh.mp e;exact⟨Kp.nil,h0⟩
  | succ n ih=>
   intro rs e;have ne:rs≠[]:=λz=>by rw[z]at e;cases e
   have sp:=cW ne;obtain⟨a,b⟩:=ih rs.dropLast (by rw[cX,e];rfl);rw[<- sp,Fw];exact⟨Qp a,h1 _ _ _ a b⟩
 exact eJ _ rs rfl
def U8(rs:List (QQ S)):Kp S w (kpL F w rs):=(De (λ_ _=>True) trivial (λ_ _ _ _ _=>trivial) rs).1
def Ry(rs:List (QQ S)):∀r∈rs,∀j,j < w->clr F (kpL F w rs) r j=S.zero:=(De (λrs ks=>∀r∈rs,∀j,j < w->clr F ks r j=S.zero) (by simp) (λrs ks r K M q hq=>by
 rcases av.mp hq with hq | hq
 . exact Rz (M q hq)
 . rw[ar.mp hq];exact LN K) rs).2
def kv(ks:w1a S):F0 S:=λi=>(ks.getD i (0,λ_=>S.zero)).2
def kp(ks:w1a S):Nat->Nat:=λi=>(ks.getD i (0,λ_=>S.zero)).1
def CL{ks:w1a S}{i:Nat}(h:i < ks.length):ks.getD i (0,λ_=>S.zero)∈ks:=by rw[aU,ah h];exact aG h
def Kp.ind{w:Nat}{ks:w1a S}(h:Kp S w ks):JV S w ks.length (kv ks):=by show c0f (kp ks) (λi hi=>h.lt _<|CL hi) (λi hi=>h.one _<|CL hi) λi j gK hj=>?_;have:=bX.mp h.tri i j Z hj gK;unfold kv kp;rw[aU,ah hj,aU,ah (by omega:i < ks.length)];exact this
theorem RW:∀{ks:w1a S} {u:QQ S},(∀k∈ks,M1 S w n vs k.2)->M1 S w n vs u->M1 S w n vs (clr F ks u)
 | [],_,_,h=>h
 | k::ks,u,hk,h=>by
  rw[N3];exact RW (λq hq=>hk q<|aA _ hq) (h.add<|(hk k<|ax ..).mul _)
def Yt(h:∀k∈ks,M1 S w n vs k.2)(g:M1 S w n vs r):∀k∈X5 F w ks r,M1 S w n vs k.2:=by
 show Q3 (λl=>∀k∈l,M1 S w n vs k.2) (λ_=>h) (λ_=>h) λp hp np k hk=>?_;rcases av.mp hk with hk | hk
 . exact h k hk
 . rw[ar.mp hk];exact(RW h g).mul _
def Fv(rs:List (QQ S))(h:∀r∈rs,M1 S w n vs r):∀k∈kpL F w rs,M1 S w n vs k.2:=by show(De (F:=F) (w:=w) (λrs ks=>(∀r∈rs,M1 S w n vs r)->∀k∈ks,M1 S w n vs k.2) (λ_=>by simp) (λrs ks r K M h=>?_) rs).2 h;exact Yt (M λq hq=>h q<|bc _ hq) (h r<|aK _<|cK r)
theorem Be:∀{ks:w1a S} {u:QQ S},(∀k∈ks,M1 S w n vs k.2)->M1 S w n vs (λj=>S.add (clr F ks u j)<|F.neg<|u j)
 | [],u,_=>⟨λ_=>S.zero,λj _=>by rw[Oh];exact F.add_neg _⟩
 | k::ks,u,hk=>by
  rw[N3];have h1:=Be (u:=stp F k u) λq hq=>hk q<|aA _ hq;have h2:=(hk k<|ax ..).mul<|F.neg<|u k.1;show(h1.add h2).congr λj _=>?_;show _=S.add (S.add _<|F.neg<|S.add (u j)<|S.mul (F.neg<|u k.1)<|k.2 j) _;rw[Wr,S.add_assoc,S.add_assoc,S.add_comm<|F.neg<|S.mul _ _,F.add_neg,S.add_zero]
def Oj(rs:List (QQ S)):∀r∈rs,M1 S w (kpL F w rs).length (kv<|kpL F w rs) r:=λr hr=>by
 have h:=Be (F:=F) (w:=w) (n:=(kpL F w rs).length) (vs:=kv<|kpL F w rs) (ks:=kpL F w rs) (u:=r) λk hk=>by
  obtain⟨i,hi,e⟩:=List.getElem_of_mem hk;have:=M1.gen (S:=S) (w:=w) (vs:=kv<|kpL F w rs) hi;have e2:kv (kpL F w rs) i=k.2:=by unfold kv;rw[aU,ah hi,<- e];rfl
  rw[e2]at this;exact this
 show(h.mul<|F.neg S.one).congr λj hj=>?_;rw[Ry rs r hr j hj,CN,IL,Ho,Wp]
def Gv{w n:Nat}{vs:F0 S}(rs:List (QQ S))(h:∀r∈rs,M1 S w n vs r)(g:JV S w n vs)(m:∀i,i < n->∃r∈rs,∀j,j < w->vs i j=r j):(kpL F w rs).length=n:=by
 have h1:(kpL F w rs).length<=n:=BR F (U8 (F:=F) rs).ind λi hi=>Fv rs h _<|CL hi;have h2:n<=(kpL F w rs).length:=BR F g λi hi=>by
  obtain⟨r,hr,e⟩:=m i hi;exact(Oj rs r hr).congr e
 omega
def Rl(S:SR)(w n:Nat)(rs:F0 S)(u v:QQ S):Prop:=∀j,j < w->v j=S.add (u j) (lin S (λk=>v<|w+k) rs n j)
theorem Rl.stp(h:Rl S w n rs u v)(g:Rl S w n rs (λ_=>S.zero) k.2):Rl S w n rs u (stp F k v):=λj hj=>by
 show S.add (v j) _=_;rw[h j hj,g j hj,CN,S.add_assoc];congr 1;rw[<- HC,<- HE];rfl
theorem Rl.clr:∀{ks:w1a S} {v:QQ S},Rl S w n rs u v->(∀k∈ks,Rl S w n rs (λ_=>S.zero) k.2)->Rl S w n rs u (clr F ks v)
 | [],_,h,_=>h
 | k::ks,v,h,g=>by
  rw[N3];exact Rl.clr (h.stp<|g k<|ax ..) λq hq=>g q (aA _ hq)
theorem Rl.mul(a:S.W)(h:Rl S w n rs (λ_=>S.zero) v):Rl S w n rs (λ_=>S.zero) λj=>S.mul a (v j):=λj hj=>by
 show S.mul a (v j)=_;rw[h j hj,CN,CN,<- HC]
def b0w(ms:List (QQ S))(h:∀r∈ms,Rl S w n rs (λ_=>S.zero) r):∀k∈kpL F w ms,Rl S w n rs (λ_=>S.zero) k.2:=by
 show(De (F:=F) (w:=w) (λms ks=>(∀r∈ms,Rl S w n rs (λ_=>S.zero) r)->∀k∈ks,Rl S w n rs (λ_=>S.zero) k.2) (λ_=>by simp) (λms ks r K M h=>?_) ms).2 h;have M':=M λq hq=>h q<|bc _ hq;show Q3 (λl=>∀k∈l,Rl S w n rs (λ_=>S.zero) k.2) (λ_=>M') (λ_=>M') λp hp np k hk=>?_;rcases av.mp hk with hk | hk
 . exact M' k hk
 . rw[ar.mp hk];exact((h r<|aK _<|cK r).clr M').mul _
def Rl.parts(F:M0 S)(h:Rl S w n rs u v)(z:∀j,j < w->v j=S.zero):∀j,j < w->u j=lin S (λk=>F.neg<|v<|w+k) rs n j:=λj hj=>by
 have e:=h j hj;rw[z j hj]at e;rw[Rw];exact Bx (by rw[S.add_comm];exact e.symm)
end
structure Cb(S:SR)where
 cb:Nat->Nat->S.W->Prop
 mono:∀b t t' x,t<=t'->cb b t x->cb b t' x
 add:∀b t t' x y,cb b t x->cb b t' y->cb b (t+t') (S.add x y)
 mul:∀b b' t t' x y,cb b t x->cb b' t' y->cb (b * b') (t * t') (S.mul x y)
 up:∀b t k x,0 < k->cb b t x->cb (b * k) (t * k) x
 zero:∀b,0 < b->cb b 0 S.zero
 one:cb 1 1 S.one
 neg:∀b t x y,S.add x y=S.zero->cb b t x->cb b t y
 div:∀b t x z,S.mul x z=S.one->cb b t x->∃c,0 < c/\c<=max 1 t/\∀y t',cb b t' y->cb c t' (S.mul z y)
 sz:∀b t m x,b<=2 ^ m->t<=2 ^ m->cb b t x->S.sz m x
 dr:∀x,S.sz 2 x->cb 12 48 x
def Fr.cb(b t:Nat)(x:Fr):Prop:=0 < b/\∃a:Int,x.t * b=a * x.b/\a.natAbs<=t
def Fr.cb_add{b t t':Nat}{x y:Fr}(h:x.cb b t)(h':y.cb b t'):(Fr.add x y).cb b (t+t'):=by
 obtain⟨hb,a,e,l⟩:=h;obtain⟨_,a',e',l'⟩:=h';show⟨hb,a+a',?_,by have:=Int.natAbs_add_le a a';omega⟩;have hc:(Fr.add x y).t * (x.b * y.b)=(x.t * y.b+y.t * x.b) * (Fr.add x y).b:=Fr.of_cross _ _<|aN x.p y.p;show bz (cR x.nb y.nb) ?_;rw[aR,hc];have e2:(x.t * y.b+y.t * x.b) * (Fr.add x y).b * b=((x.t * b) * y.b+(y.t * b) * x.b) * (Fr.add x y).b:=by rw[aR,Int.add_mul,aR x.t,aR y.t]
 rw[e2,e,e'];have e3:a * x.b * y.b+a' * y.b * x.b=(a+a') * (x.b * y.b):=by rw[Int.add_mul,aH,aH a',aQ y.b x.b]
 rw[e3,aR]
def Fr.cb_mul{b b' t t':Nat}{x y:Fr}(h:x.cb b t)(h':y.cb b' t'):(Fr.mul x y).cb (b * b') (t * t'):=by
 obtain⟨hb,a,e,l⟩:=h;obtain⟨gX,a',e',l'⟩:=h';show⟨bE hb gX,a * a',?_,by rw[bC];exact aM l l'⟩;have hc:(Fr.mul x y).t * (x.b * y.b)=(x.t * y.t) * (Fr.mul x y).b:=Fr.of_cross _ _<|aN x.p y.p;show bz (cR x.nb y.nb) ?_;rw[aR,hc,Int.natCast_mul];have e2:x.t * y.t * (Fr.mul x y).b * ((b:Int) * b')=(x.t * b) * (y.t * b') * (Fr.mul x y).b:=by ac_rfl
 rw[e2,e,e'];ac_rfl
def Fr.cb_up{b t k:Nat}{x:Fr}(hk:0 < k)(h:x.cb b t):x.cb (b * k) (t * k):=by obtain⟨hb,a,e,l⟩:=h;show⟨bE hb hk,a * k,?_,by rw[bC,Int.natAbs_natCast];exact bA _ l⟩;rw[Int.natCast_mul,<- aH,e,aR]
def Fr.cb_neg{b t:Nat}{x y:Fr}(hz:Fr.add x y=Fr.zero)(h:x.cb b t):y.cb b t:=by
 obtain⟨hb,a,e,l⟩:=h;have hc:(Fr.add x y).t * (x.b * y.b)=(x.t * y.b+y.t * x.b) * (Fr.add x y).b:=Fr.of_cross _ _<|aN x.p y.p;rw[hz]at hc;have hc:0 * (x.b * y.b)=(x.t * y.b+y.t * x.b) * 1:=hc;rw[Int.zero_mul,cB]at hc;show⟨hb,-a,?_,by rw[Int.natAbs_neg];exact l⟩;show bz x.nb ?_;have e1:y.t * x.b = -(x.t * y.b):=by omega
 rw[aR,e1,cQ,cQ,cQ,aR,e];congr 1;ac_rfl
def Fr.cb_div{b t:Nat}{x z:Fr}(ho:Fr.mul x z=Fr.one)(h:x.cb b t):∃c,0 < c/\c<=max 1 t/\∀(y:Fr) t',y.cb b t'->(Fr.mul z y).cb c t':=by
 obtain⟨hb,a,e,l⟩:=h;have hc:(Fr.mul x z).t * (x.b * z.b)=(x.t * z.t) * (Fr.mul x z).b:=Fr.of_cross _ _<|aN x.p z.p;rw[ho]at hc;have hc:1 * (x.b * z.b)=(x.t * z.t) * 1:=hc;rw[cS,cB]at hc;have hz:z.t * a=z.b * b:=by
  show bz x.nb ?_;have:z.t * a * x.b=z.t * (x.t * b):=by rw[e];ac_rfl
  rw[this];have:z.t * (x.t * b)=(x.t * z.t) * b:=by ac_rfl
  rw[this,<- hc];ac_rfl
 have ha:a≠0:=λz0=>by
  rw[z0,Int.mul_zero]at hz;rcases Int.mul_eq_zero.mp hz.symm with q | q
  . exact z.nb q
  . omega
 show⟨a.natAbs,Int.natAbs_pos.mpr ha,Z,λy t' hy=>?_⟩;obtain⟨_,a',e',l'⟩:=hy;have eJ:(Fr.mul z y).t * a=a' * (Fr.mul z y).b:=by
  have hc:(Fr.mul z y).t * (z.b * y.b)=(z.t * y.t) * (Fr.mul z y).b:=Fr.of_cross _ _<|aN z.p y.p;show bz (cR z.nb y.nb) ?_;rw[aR,hc];have e1:z.t * y.t * (Fr.mul z y).b * a=(z.t * a) * y.t * (Fr.mul z y).b:=by ac_rfl
  have e2:a' * (Fr.mul z y).b * (z.b * y.b)=(a' * y.b) * z.b * (Fr.mul z y).b:=by ac_rfl
  rw[e1,e2,hz,<- e'];ac_rfl
 show⟨Int.natAbs_pos.mpr ha,?_⟩;rcases Int.natAbs_eq a with q | q
 . exact⟨a',by rw[<- q];exact eJ,l'⟩
 . show⟨-a',?_,by rw[Int.natAbs_neg];exact l'⟩;have:((a.natAbs:Nat):Int) = -a:=by omega
   rw[this,Int.mul_neg,cQ,eJ]
def Fr.cb_sz{b t m:Nat}{x:Fr}(hb:b<=2 ^ m)(ht:t<=2 ^ m)(h:x.cb b t):x.sz m:=by
 obtain⟨pb,a,e,l⟩:=h;have cop:Nat.Coprime x.t.natAbs x.b.natAbs:=by
  have l:=x.l;unfold dv at l;have:Int.gcd x.t x.b=1:=by omega
  exact this
 have e':x.t.natAbs * b=a.natAbs * x.b.natAbs:=by have:=congrArg Int.natAbs e;rw[bC,bC,Int.natAbs_natCast]at this;exact this
 constructor
 . have d:x.t.natAbs ∣ a.natAbs:=cop.dvd_of_dvd_mul_right ⟨b,e'.symm⟩;by_cases z:a.natAbs=0
   . rw[z,Nat.zero_mul]at e';rcases Nat.mul_eq_zero.mp e' with h | h <;>omega
   . exact af (cU Z d) (af l ht)
 . have d:x.b.natAbs ∣ b:=cop.symm.dvd_of_dvd_mul_left ⟨a.natAbs,by rw[e',bU]⟩;exact af (cU pb d) hb
def Fr.cb_dr{x:Fr}(h:x.sz 2):x.cb 12 48:=by
 obtain⟨h1,h2⟩:=h;have p:=x.p;have e:(2:Nat) ^ 2=4:=rfl;rw[e]at h1 h2;have:x.b=1\/x.b=2\/x.b=3\/x.b=4:=by omega
 rcases this with b | b | b | b
 . exact⟨by decide,x.t * 12,by rw[b];omega,Z⟩
 . exact⟨by decide,x.t * 6,by rw[b];omega,Z⟩
 . exact⟨by decide,x.t * 4,by rw[b];omega,Z⟩
 . exact⟨by decide,x.t * 3,by rw[b];omega,Z⟩
def p0n:Cb Mb where
 cb:=Fr.cb
 mono _ _ _ _ h:=λ⟨p,a,e,l⟩=>⟨p,a,e,af l h⟩
 add _ _ _ _ _ h h':=Fr.cb_add h h'
 mul _ _ _ _ _ _ h h':=Fr.cb_mul h h'
 up _ _ _ _ hk h:=Fr.cb_up hk h
 zero b hb:=⟨hb,0,by show(0:Int) * b=0 * 1;simp,ae _⟩
 one:=⟨by decide,1,bD,bD⟩
 neg _ _ _ _ hz h:=Fr.cb_neg hz h
 div _ _ _ _ ho h:=Fr.cb_div ho h
 sz _ _ _ _ hb ht h:=Fr.cb_sz hb ht h
 dr _ h:=Fr.cb_dr h
def g0d(p:Int)(hp:2<=p):Cb (AW p hp)where
 cb _ _ _:=True
 mono _ _ _ _ _ _:=trivial
 add _ _ _ _ _ _ _:=trivial
 mul _ _ _ _ _ _ _ _:=trivial
 up _ _ _ _ _ _:=trivial
 zero _ _:=trivial
 one:=trivial
 neg _ _ _ _ _ _:=trivial
 div _ t _ _ _ _:=⟨1,bD,Z,λ_ _ _=>trivial⟩
 sz _ _ _ _ _ _ _:=trivial
 dr _ _:=trivial
section
variable{S:SR}{F:M0 S}{C:Cb S}
def B7(S:SR)(x y:QQ S)(n:Nat):S.W:=sm S (λi=>S.mul (x i)<|y i) n
def Mr(S:SR)(r n:Nat)(x y:QQ S):Prop:=(∀i,i < n->S.sz r (x i)/\S.sz r (y i))/\∀i,i<=n->S.sz r (B7 S x y i)
def Hs(F:M0 S)(W r:Nat)(ks:w1a S)(x:QQ S):Prop:=(∀i,i<=ks.length->∀j,j < W->S.sz r (clr F (ks.take i) x j))/\∀k∈ks,∀j,j < W->S.sz r (k.2 j)
def L4{α:Type}{l:List α}{i:Nat}{x:α}(h:l[i]? = some x):l.take (i+1)=l.take i++[x]:=by rw[List.take_add_one,h];rfl
def XB(C:Cb S)(W β t:Nat)(x:QQ S):Prop:=∃b,0 < b/\b<=2 ^ β/\∀j,j < W->C.cb b (2 ^ t) (x j)
def As(h:a<=b):2 ^ a<=2 ^ b:=cg bD h
theorem XB.mono(h:XB C W β t x)(hb:β<=β')(ht:t<=t'):XB C W β' t' x:=by obtain⟨b,b0,b1,e⟩:=h;exact⟨b,b0,af b1<|As hb,λj hj=>C.mono _ _ _ _ (As ht)<|e j hj⟩
theorem XB.sz(h:XB C W β t x)(hb:β<=m)(ht:t<=m)(hj:j < W):S.sz m (x j):=by obtain⟨b,b0,b1,e⟩:=h;exact C.sz b (2 ^ t) m _ (af b1<|As hb) (As ht) (e j hj)
theorem XB.stp(h:XB C W β t x)(g:XB C W s s k.2)(hk:k.1 < W):XB C W (β+s) (t+s+1) (stp F k x):=by
 obtain⟨b,b0,b1,e⟩:=h;obtain⟨c,c0,c1,f⟩:=g;show⟨b * c,bE b0 c0,by rw[aV];exact aM b1 c1,λj hj=>?_⟩;have h1:=C.mono _ _ (2 ^ t * 2 ^ s) _ (aD _ c1)<|C.up _ _ c _ c0<|e j hj;have h2:=C.mul _ _ _ _ _ _ (C.neg _ _ _ _ (F.add_neg _)<|e k.1 hk)<|f j hj;have:=C.add _ _ _ _ _ h1 h2;have e2:2 ^ (t+s+1)=2 ^ t * 2 ^ s+2 ^ t * 2 ^ s:=by rw[ba,aV];omega
 rw[e2];exact this
def XB.norm(h:XB C W β t x)(hp:p < W)(np:x p≠S.zero):XB C W t t λj=>S.mul (F.inv<|x p) (x j):=by obtain⟨b,b0,b1,e⟩:=h;obtain⟨c,c0,c1,f⟩:=C.div b _ (x p) _ (F.mul_inv _ np)<|e p hp;have:1<=2 ^ t:=cq;exact⟨c,c0,Z,λj hj=>f _ _<|e j hj⟩
def Kb(C:Cb S)(W r:Nat)(ks:w1a S):Prop:=∀i k,ks[i]? = some k->k.1 < W/\XB C W ((r+1) * 2 ^ i - 1) ((r+1) * 2 ^ i - 1) k.2
def Kb.nil:Kb C W r []:=λi k h=>by simp at h
def Uk(r i:Nat):(r+1) * 2 ^ (i+1)=(r+1) * 2 ^ i+(r+1) * 2 ^ i:=by rw[ba,<- bQ];omega
def Ht(r i:Nat):r+1<=(r+1) * 2 ^ i:=dm _ cq
def KG(h:i<=l):(r+1) * 2 ^ i<=(r+1) * 2 ^ l:=aD _ (As h)
theorem Kb.clr{W β r:Nat}{ks:w1a S}{x:QQ S}(K:Kb C W r ks)(h:XB C W β r x):∀i,i<=ks.length->XB C W (β+((r+1) * 2 ^ i - (r+1))) ((r+1) * 2 ^ i - 1) (Mine.clr F (ks.take i) x)
 | 0,_=>h.mono Z (by simp)
 | i+1,hi=>by
  have e:ks[i]? = some (ks[i]'Z):=ah _;obtain⟨k1,k2⟩:=K i _ e;rw[L4 e,CQ];have:=Uk r i;have:=Ht r i;exact((Kb.clr K h i Z).stp k2 k1).mono Z Z
def Kb.all(K:Kb C W r ks)(h:XB C W β r x):XB C W (β+((r+1) * 2 ^ ks.length - (r+1))) ((r+1) * 2 ^ ks.length - 1) (Mine.clr F ks x):=by have:=K.clr (F:=F) h ks.length<|ae _;rwa [bo]at this
def Kb.clrZ(K:Kb C W r ks)(h:XB C W β r x)(hl:ks.length<=l)(hm:β+(r+1) * 2 ^ l<=m):Hs F W m ks x:=by
 show⟨λi hi j hj=>?_,λk hk j hj=>?_⟩
 . have:=KG (r:=r) (show i<=l by omega);exact(K.clr (F:=F) h i hi).sz Z Z hj
 . obtain⟨i,hi,e⟩:=cM.mp hk;obtain⟨_,q⟩:=K i k (by rw[ah hi,e]);have:=KG (r:=r) (show i<=l by omega);exact q.sz Z Z hj
def Kb.keep(K:Kb C W r ks)(h:XB C W β r x)(hl:l<=W):Kb C W r (X5 F l ks x):=by
 show Q3 (λL=>Kb C W r L) (λ_=>K) (λ_=>K) λp hp np i k e=>?_;by_cases hi:i < ks.length
 . rw[aY hi]at e;exact K i k e
 . rw[aZ Z]at e;have:i=ks.length:=by have:=(aJ.mp e).1;simp at this;omega
   subst this;rw[di]at e;cases Option.some.inj e;exact⟨by show p < W;omega,(K.all h).norm Z np⟩
theorem Kb.kpL(hl:l<=W)(rs:List (QQ S))(h:∀x∈rs,XB C W β r x):Kb C W r (Mine.kpL F l rs):=by show(De (F:=F) (w:=l) (λms ks=>(∀x∈ms,XB C W β r x)->Kb C W r ks) (λ_=>Kb.nil) (λms ks x _ M h=>?_) rs).2 h;exact(M λq hq=>h q<|bc _ hq).keep (h x<|aK _<|cK x) hl
def Kb.mem(K:Kb C W r ks)(hl:ks.length<=l):∀k∈ks,k.1 < W/\XB C W ((r+1) * 2 ^ l - 1) ((r+1) * 2 ^ l - 1) k.2:=λk hk=>by
 obtain⟨i,hi,e⟩:=cM.mp hk;obtain⟨a,q⟩:=K i k (by rw[ah hi,e]);have:=KG (r:=r) (show i<=l by omega);exact⟨a,q.mono Z Z⟩
theorem Es(b0:0 < b)(c0:0 < c)(h:∀i,i < n->C.cb b t (x i))(g:∀i,i < n->C.cb c t' (y i)):∀i,i<=n->C.cb (b * c) (i * (t * t')) (B7 S x y i)
 | 0,_=>by rw[Nat.zero_mul];exact C.zero _ (bE b0 c0)
 | i+1,hi=>by
  rw[bB];exact C.add _ _ _ _ _ (Es b0 c0 h g i Z) (C.mul _ _ _ _ _ _ (h i Z)<|g i Z)
def n_lt(n:Nat):n<=2 ^ n:=bI Nat.lt_two_pow_self
def Mh(h:i<=n):i * (2 ^ t * 2 ^ t')<=2 ^ (t+t'+n):=by rw[aV,aV,bU];exact aD _ (af h<|n_lt n)
def Az(h:XB C n β t x)(g:XB C n β' t' y)(hb:β+β'<=m)(ht:t+t'+n<=m):Mr S m n x y:=by show⟨λi hi=>⟨h.sz Z Z hi,g.sz Z Z hi⟩,λi hi=>?_⟩;obtain⟨b,b0,b1,e⟩:=h;obtain⟨c,c0,c1,f⟩:=g;have:=Es b0 c0 e f i hi;exact C.sz _ _ m _ (af (aM b1 c1)<|by rw[<- aV];exact As hb) (af (Mh hi)<|As ht) this
def TB(C:Cb S)(h n β t:Nat)(A:F0 S):Prop:=∃b,0 < b/\b<=2 ^ β/\∀i,i < h->∀j,j < n->C.cb b (2 ^ t) (A i j)
theorem TB.mono(q:TB C h n β t A)(hb:β<=β')(ht:t<=t'):TB C h n β' t' A:=by obtain⟨b,b0,b1,e⟩:=q;exact⟨b,b0,af b1<|As hb,λi hi j hj=>C.mono _ _ _ _ (As ht)<|e i hi j hj⟩
def TB.col(q:TB C h n β t A)(hj:j < n):XB C h β t λi=>A i j:=by obtain⟨b,b0,b1,e⟩:=q;exact⟨b,b0,b1,λi hi=>e i hi j hj⟩
def TB.swap(q:TB C h n β t A):TB C n h β t λj i=>A i j:=by obtain⟨b,b0,b1,e⟩:=q;exact⟨b,b0,b1,λj hj i hi=>e i hi j hj⟩
theorem XB.by(q:XB C h β t x)(g:TB C h n β' t' A):XB C n (β+β') (t+t'+h) λj=>B7 S x (λi=>A i j) h:=by obtain⟨b,b0,b1,e⟩:=q;obtain⟨c,c0,c1,f⟩:=g;show⟨b * c,bE b0 c0,by rw[aV];exact aM b1 c1,λj hj=>?_⟩;exact C.mono _ _ _ _ (Mh<|ae _) (Es (y:=λi=>A i j) b0 c0 e (λi hi=>f i hi j hj) h<|ae _)
theorem TB.by(g:TB C h n β' t' A)(q:XB C n β t x):XB C h (β'+β) (t'+t+n) λi=>B7 S (A i) x n:=by obtain⟨b,b0,b1,e⟩:=q;obtain⟨c,c0,c1,f⟩:=g;show⟨c * b,bE c0 b0,by rw[aV];exact aM c1 b1,λi hi=>?_⟩;exact C.mono _ _ _ _ (Mh<|ae _) (Es (x:=A i) c0 b0 (λj hj=>f i hi j hj) e n<|ae _)
theorem TB.of:∀{h:Nat},(∀i,i < h->XB C n β t (A i))->TB C h n (h * β) (t+h * β) A
 | 0,_=>⟨1,bD,by simp,λi hi=>absurd hi<|cn i⟩
 | h+1,q=>by
  obtain⟨b,b0,b1,e⟩:=TB.of (h:=h) λi hi=>q i Z;obtain⟨c,c0,c1,f⟩:=q h Z;have e1:(h+1) * β=h * β+β:=bB ..;show⟨b * c,bE b0 c0,by rw[e1,aV];exact aM b1 c1,λi hi j hj=>?_⟩;by_cases z:i=h
  . subst z;have:=C.up _ _ b _ b0<|f j hj;rw[bU c b]at this;show C.mono _ _ _ _ ?_ this;rw[aV];exact aD _ (af b1<|As Z)
  . have:=C.up _ _ c _ c0<|e i Z j hj;show C.mono _ _ _ _ ?_ this;rw[e1,show t+(h * β+β)=(t+h * β)+β by omega,aV _<|t+h * β];exact aD _ c1
def JS(F:M0 S):List (Nat × (Nat->S.W))->List (Nat × (Nat->S.W)):=λks=>ks.reverse.foldl (λtold k=>told++[(k.1,clr F told k.2)]) []
def echI(F:M0 S)(ks:w1a S)(i:Nat):List (Nat × (Nat->S.W)):=(ks.reverse.take i).foldl (λtold k=>told++[(k.1,clr F told k.2)]) []
def Q4{S:SR}{F:M0 S}{ks:w1a S}{i:Nat}{k:Nat × (QQ S)}(hi:i < ks.length)(h:ks[ks.length - 1 - i]? = some k):echI F ks (i+1)=echI F ks i++[(k.1,clr F (echI F ks i) k.2)]:=by unfold echI;rw[L4 (x:=k) (by rw[List.getElem?_reverse hi];exact h),cV];rfl
def W5:echI F ks ks.length=JS F ks:=by unfold echI JS;rw[<- List.length_reverse,bo]
theorem Ah:∀{i:Nat},i<=ks.length->(echI F ks i).length=i
 | 0,_=>rfl
 | i+1,h=>by
  rw[Q4 (k:=ks[ks.length - 1 - i]'Z) Z<|ah _,aq,Ah Z];rfl
theorem Ox:∀{i:Nat},i<=ks.length->∀e∈echI F ks i,∃k∈ks,e.1=k.1
 | 0,_,e,h=>nomatch h
 | i+1,h,e,he=>by
  rw[Q4 (k:=ks[ks.length - 1 - i]'Z) Z<|ah _]at he;rcases av.mp he with he | he
  . exact Ox Z e he
  . rw[ar.mp he];exact⟨_,aG (show ks.length - 1 - i < ks.length by omega),U⟩
theorem Kb.echI(h:∀k∈ks,k.1 < W/\XB C W s s k.2):∀{i:Nat},i<=ks.length->Kb C W s (Mine.echI F ks i)
 | 0,_=>Kb.nil
 | i+1,hi=>by
  have ih:=Kb.echI h (i:=i) Z;have il:=Ah (F:=F) (ks:=ks) (i:=i) Z;rw[Q4 (k:=ks[ks.length - 1 - i]'Z) Z<|ah _];intro q k e;by_cases hq:q < i
  . rw[aY Z]at e;exact ih q k e
  . rw[aZ Z,il]at e;have:q=i:=by have:=(aJ.mp e).1;simp at this;omega
    subst this;rw[di]at e;cases Option.some.inj e;obtain⟨a,b⟩:=h _ (aG<|show ks.length - 1 - q < ks.length by omega);have:=ih.all (F:=F) b;rw[il]at this;have:=Ht s q;exact⟨a,XB.mono (by assumption) Z Z⟩
end
section
variable{S:SR}{F:M0 S}{C:Cb S}
noncomputable def AM(F:M0 S)(l:Nat)(ρ:w1e->Nat->S.W)(ks:w1a S)(ws:List w1e):List (Nat × (Nat->S.W)):=ws.foldl (λks w=>X5 F l ks<|ρ w) ks
def Wi:AM F l ρ ks (ws++[u])=X5 F l (AM F l ρ ks ws) (ρ u):=by unfold AM;rw[cV];rfl
noncomputable def Q6(F:M0 S)(l:Nat)(ρ:w1e->Nat->S.W):List (Nat × (Nat->S.W))->List w1e->List w1e
 | _,[]=>[]
 | ks,u::ws=>(if(X5 F l ks<|ρ u).length≠ks.length then [u]else [])++Q6 F l ρ (X5 F l ks<|ρ u) ws
theorem FA:∀{ks:w1a S} {ws:List w1e} {u:w1e},Q6 F l ρ ks (ws++[u])=Q6 F l ρ ks ws++(if(X5 F l (AM F l ρ ks ws)<|ρ u).length≠(AM F l ρ ks ws).length then [u]else [])
 | ks,[],u=>by
  show(if _ then _ else _)++Q6 F l ρ _ []=[]++_;show(if _ then _ else _)++[]=[]++_;rw[bw,dq];rfl
 | ks,w::ws,u=>by
  rw[dh];show(if _ then _ else _)++Q6 F l ρ (X5 F l ks<|ρ w) (ws++[u])=((if _ then _ else _)++Q6 F l ρ (X5 F l ks<|ρ w) ws)++_;rw[FA,ck];rfl
def LO:(X5 F w ks r).length=ks.length\/(X5 F w ks r).length=ks.length+1:=
 Q3 (λl=>l.length=ks.length\/l.length=ks.length+1) (λ_=>.inl U) (λ_=>.inl U) λ_ _ _=>.inr (by rw[aq];rfl)
theorem Ay:∀{ws:List w1e} {ks:w1a S},(Q6 F l ρ ks ws).length+ks.length=(AM F l ρ ks ws).length
 | [],ks=>by show 0+_=_;rw[Nat.zero_add];rfl
 | u::ws,ks=>by
  show((if _ then _ else _)++Q6 F l ρ (X5 F l ks<|ρ u) ws).length+_=(AM F l ρ (X5 F l ks<|ρ u) ws).length;rw[<- Ay (ws:=ws),aq];rcases LO (F:=F) (w:=l) (ks:=ks) (r:=ρ u)with e | e
  . rw[if_neg Z,e];simp
  . rw[if_pos Z,e];simp;omega
theorem LY:∀{ws:List w1e} {ks:w1a S},Kp S l ks->Kp S l (AM F l ρ ks ws)
 | [],_,h=>h
 | u::ws,ks,h=>LY (ws:=ws) (Qp (F:=F) h)
theorem Qz(hl:l<=W):∀{ws:List w1e} {ks:w1a S},Kb C W r ks->(∀u∈ws,XB C W β r<|ρ u)->Kb C W r (AM F l ρ ks ws)
 | [],_,h,_=>h
 | u::ws,ks,h,g=>Qz hl (ws:=ws) (h.keep (g u<|ax ..) hl) λv hv=>g v (aA _ hv)
theorem R8:∀{ws:List w1e} {ks:w1a S} {u:w1e},u∈Q6 F l ρ ks ws->u∈ws
 | [],_,_,h=>nomatch h
 | v::ws,ks,u,h=>by
  rcases av.mp h with h | h
  . split at h
    . rw[ar.mp h];exact ax ..
    . cases h
  . exact aA _ (R8 h)
structure d0g(S:SR)where
 ks:List (Nat × (Nat->S.W))
 told:List w1e
 last:List w1e
noncomputable def w6(F:M0 S)(l:Nat)(ρ:w1e->Nat->S.W)(g:List w1e->List w1e):Nat->d0g S
 | 0=>⟨[],[],[[]]⟩
 | i+1=>⟨AM F l ρ (w6 F l ρ g i).ks (w6 F l ρ g i).last,(w6 F l ρ g i).told++Q6 F l ρ (w6 F l ρ g i).ks (w6 F l ρ g i).last,g<|Q6 F l ρ (w6 F l ρ g i).ks (w6 F l ρ g i).last⟩
theorem M4:∀i,Kp S l (w6 F l ρ g i).ks
 | 0=>Kp.nil
 | i+1=>LY (M4 i)
theorem Bv:∀i,(w6 F l ρ g i).told.length=(w6 F l ρ g i).ks.length
 | 0=>rfl
 | i+1=>by
  show((w6 F l ρ g i).told++Q6 F l ρ (w6 F l ρ g i).ks (w6 F l ρ g i).last).length=(AM F l ρ (w6 F l ρ g i).ks (w6 F l ρ g i).last).length;rw[aq,Bv i,<- Ay];omega
theorem Wg(hl:l<=W)(h:∀i,∀u∈(w6 F l ρ g i).last,XB C W β r<|ρ u):∀i,Kb C W r (w6 F l ρ g i).ks
 | 0=>Kb.nil
 | i+1=>Qz hl (Wg hl h i) (h i)
def d0k(l:Nat)(s:d0g S):Nat:=if s.last=[]then 0 else l - s.ks.length+1
def Wh(hg:g []=[])(n:(w6 F l ρ g i).last≠[]):d0k l (w6 F l ρ g<|i+1) < d0k l (w6 F l ρ g i):=by
 unfold d0k;rw[if_neg n];have k:=(M4 (F:=F) (l:=l) (ρ:=ρ) (g:=g)<|i+1).len;have e:=Ay (F:=F) (l:=l) (ρ:=ρ) (ws:=(w6 F l ρ g i).last) (ks:=(w6 F l ρ g i).ks);have k':(AM F l ρ (w6 F l ρ g i).ks (w6 F l ρ g i).last).length<=l:=k;split
 . omega
 . rename_i z;show l - (AM F l ρ (w6 F l ρ g i).ks (w6 F l ρ g i).last).length+1 < _;by_cases z2:Q6 F l ρ (w6 F l ρ g i).ks (w6 F l ρ g i).last=[]
   . show absurd ?_ z;show g (Q6 F l ρ (w6 F l ρ g i).ks (w6 F l ρ g i).last)=[];rw[z2,hg]
   . have:=List.length_pos_iff.mpr z2;omega
def Os(hg:g []=[])(h:(w6 F l ρ g i).last=[]):w6 F l ρ g (i+1)=w6 F l ρ g i:=by
 show d0g.mk _ _ _=_;rw[h];show d0g.mk (w6 F l ρ g i).ks ((w6 F l ρ g i).told++[]) (g [])=_;rw[bw,hg];cases e:w6 F l ρ g i with
 | mk a b c=>
  rw[e]at h;cases h;rfl
theorem Qw(hg:g []=[])(h:(w6 F l ρ g i).last=[]):∀j,w6 F l ρ g (i+j)=w6 F l ρ g i
 | 0=>rfl
 | j+1=>by
  have:=Qw hg h j;rw[<- Nat.add_assoc,Os hg (by rw[this];exact h),this]
def HG(hg:g []=[]):(w6 F l ρ g<|l+1).last=[]:=by
 have eJ:∀i,(w6 F l ρ g i).last=[]\/d0k l (w6 F l ρ g i)+i<=l+1:=λi=>by
  induction i with
  | zero=>right;show(if _ then _ else _)+0<=_;split <;>simp <;>omega
  | succ i ih=>
   by_cases z:(w6 F l ρ g i).last=[]
   . left;rw[Os hg z];exact z
   . right;have:=Wh hg z;rcases ih with q | q
     . exact absurd q z
     . omega
 rcases eJ (l+1)with h | h
 . exact h
 . show Classical.byContradiction λz=>?_;unfold d0k at h;rw[if_neg z]at h;omega
noncomputable def S4(F:M0 S)(l:Nat)(ρ:w1e->Nat->S.W)(g:List w1e->List w1e):List w1e:=(w6 F l ρ g<|l+1).told
def Fz(hg:g []=[])(h:(w6 F l ρ g i).last=[]):(w6 F l ρ g i).told=S4 F l ρ g:=by
 unfold S4;rcases Nat.le_total i (l+1)with q | q
 . have:=Qw hg h<|l+1 - i;rw[show i+(l+1 - i)=l+1 by omega]at this;rw[this]
 . have:=Qw hg (HG (F:=F) (l:=l) (ρ:=ρ) hg)<|i - (l+1);rw[show l+1+(i - (l+1))=i by omega]at this;rw[this]
end
section
variable{S:SR}{F:M0 S}{C:Cb S}
def Hx(S:SR)(n:Nat)(A:F0 S)(x:QQ S):QQ S:=λj=>B7 S x (λi=>A i j) n
def p0v(S:SR)(n:Nat)(A:F0 S)(y:QQ S):QQ S:=λi=>B7 S (A i) y n
def w5(l:w1e)(tb:Nat->α)(c:Nat):α:=tb (l.idxOf c)
def h8(S:SR)(n:Nat)(st:QQ S)(tc:FF S)(u:w1e):QQ S:=u.foldl (λx c=>Hx S n (tc c) x) st
def BM(S:SR)(n:Nat)(tc:FF S)(en:QQ S)(u:w1e):QQ S:=u.foldr (λc y=>p0v S n (tc c) y) en
def x4:h8 S n st tc (u++[c])=Hx S n (tc c) (h8 S n st tc u):=by unfold h8;rw[cV];rfl
def gB(l:w1e)(ws:List w1e):List w1e:=ws.flatMap λu=>l.map λc=>u++[c]
def LU:gB l []=[]:=rfl
structure MB(C:Cb S)(n m μ:Nat)(st:QQ S)(tb:FF S)(en:QQ S):Prop where
 st:XB C n μ μ st
 tb:∀a,a < m->TB C n n μ μ (tb a)
 en:XB C n μ μ en
def MB.mirror{n m μ:Nat}{st:QQ S}{tb:FF S}{en:QQ S}(h:MB C n m μ st tb en):MB C n m μ en (λa i j=>tb a j i) st:=⟨h.en,λa ha=>(h.tb a ha).swap,h.st⟩
theorem MB.mono{n m μ μ':Nat}{st:QQ S}{tb:FF S}{en:QQ S}(h:MB C n m μ st tb en)(e:μ<=μ'):MB C n m μ' st tb en:=⟨h.st.mono e e,λa ha=>(h.tb a ha).mono e e,h.en.mono e e⟩
def Yx{l:w1e}{c:Nat}(h:c∈l):l.idxOf c < l.length:=cu.mpr h
def MB.row{n μ:Nat}{l:w1e}{st:QQ S}{tb:FF S}{en:QQ S}(h:MB C n l.length μ st tb en)(u:w1e)(hu:∀c∈u,c∈l):XB C n ((u.length+1) * (μ+n)) ((u.length+1) * (μ+n)) (h8 S n st (w5 l tb) u):=by
 have eJ:∀k,∀u:w1e,u.length=k->(∀c∈u,c∈l)->XB C n ((k+1) * (μ+n)) ((k+1) * (μ+n)) (h8 S n st (w5 l tb) u):=by
  intro k
  induction k with
  | zero=>
   intro u e _;rw[bh.mp e];exact h.st.mono Z Z
  | succ k ih=>
   intro u e hu;have ne:u≠[]:=λz=>by rw[z]at e;cases e
   rw[<- cW ne,x4];have h1:=ih u.dropLast (by rw[cX];omega) λc hc=>hu c<|dE u hc;have h2:=h.tb (l.idxOf<|u.getLast ne)<|Yx<|hu _<|dF ne;have e1:(k+1+1) * (μ+n)=(k+1) * (μ+n)+(μ+n):=bB ..;exact(h1.by h2).mono Z Z
 exact eJ u.length u rfl hu
def M5(h:k<=n):(k+1) * x<=(n+1) * x:=bA _ Z
def Gw(l:w1e)(g:List w1e->List w1e):Prop:=g []=[]/\∀ws i,(∀v∈ws,v.length=i/\∀c∈v,c∈l)->∀u∈g ws,u.length=i+1/\∀c∈u,c∈l
def M9:Gw l (gB l):=⟨U,λws i h u hu=>by
 obtain⟨v,hv,hu⟩:=dH.mp hu;obtain⟨c,hc,rfl⟩:=aw.mp hu;obtain⟨h1,h2⟩:=h v hv;show⟨by rw[aq,h1];rfl,λd hd=>?_⟩;rcases av.mp hd with hd | hd
 . exact h2 d hd
 . rw[ar.mp hd];exact hc⟩
theorem AJ(hg:Gw l g):∀i,∀u∈(w6 F W ρ g i).last,u.length=i/\∀c∈u,c∈l
 | 0,u,hu=>by
  rw[ar.mp hu];exact⟨U,by simp⟩
 | i+1,u,hu=>hg.2 _ i (λv hv=>AJ hg i v<|R8 hv) u hu
theorem Wf(hg:Gw l g):∀i,(w6 F W ρ g i).last≠[]->i<=(w6 F W ρ g i).ks.length
 | 0,_=>aP _
 | i+1,h=>by
  have h1:Q6 F W ρ (w6 F W ρ g i).ks (w6 F W ρ g i).last≠[]:=λz=>h (by show g (Q6 F W ρ (w6 F W ρ g i).ks (w6 F W ρ g i).last)=[];rw[z,hg.1]);have h2:(w6 F W ρ g i).last≠[]:=λz=>h1 (by rw[z];rfl);have:=Wf hg i h2;have e:=Ay (F:=F) (l:=W) (ρ:=ρ) (ws:=(w6 F W ρ g i).last) (ks:=(w6 F W ρ g i).ks);have:=List.length_pos_iff.mpr h1;show i+1<=(AM F W ρ (w6 F W ρ g i).ks (w6 F W ρ g i).last).length;omega
def Qx(hg:Gw l g)(hu:u∈(w6 F W ρ g i).last):u.length<=W/\∀c∈u,c∈l:=by
 have h1:=AJ hg i u hu;have h2:=Wf hg i λz=>by rw[z]at hu;cases hu
 have h3:=(M4 (F:=F) (l:=W) (ρ:=ρ) (g:=g) i).len;exact⟨Z,h1.2⟩
theorem GA(hg:Gw l g):∀i,∀u∈(w6 F W ρ g i).told,u.length<=W/\∀c∈u,c∈l
 | 0,u,hu=>nomatch hu
 | i+1,u,hu=>by
  rcases av.mp hu with hu | hu
  . exact GA hg i u hu
  . exact Qx hg (R8 hu)
end
section
variable{S:SR}{F:M0 S}{C:Cb S}
def Rx(es:w1a S)(j:Nat):Nat:=(es.map Prod.fst).getD j 0
def Vt(es:w1a S)(st:QQ S):QQ S:=λj=>st (Rx es j)
def Hd(n:Nat)(es:w1a S)(tb:FF S):FF S:=λa i j=>B7 S (kv es i) (λk=>tb a k<|Rx es j) n
def Kl(n:Nat)(es:w1a S)(en:QQ S):QQ S:=λi=>B7 S (kv es i) en n
def GQ(h:es[i]? = some k):kv es i=k.2:=by unfold kv;rw[aU,h];rfl
def El(h:es[i]? = some k):Rx es i=k.1:=by unfold Rx;rw[aU,aE,h];rfl
def zF(n μ:Nat):Nat:=2 * (((n+2) * (μ+n)+1) * 2 ^ n)
def zC(n μ:Nat):Nat:=2 * (((n+2) * (μ+n)+1) * 4 ^ n)
def p24(n:Nat):2 ^ n<=4 ^ n:=bS bD n
def p4_1(n:Nat):1<=4 ^ n:=Nat.pos_of_ne_zero (by simp)
def WV:zF n μ<=zC n μ:=aD _ (aD _<|p24 n)
def Zl:(n+2) * (μ+n)<=zF n μ:=by unfold zF;have:=dm ((n+2) * (μ+n)+1) (show 0 < 2 ^ n from cq);omega
def o0u:(n+1) * x<=(n+2) * x:=bA _ Z
def WU:(n+1) * (μ+n)+((n+1) * (μ+n)+1) * 2 ^ n<=zF n μ:=by have h1:=Zl (n:=n) (μ:=μ);have h2:=o0u (n:=n) (x:=μ+n);have h3:((n+1) * (μ+n)+1) * 2 ^ n<=((n+2) * (μ+n)+1) * 2 ^ n:=bA _ Z;have h4:=dm ((n+2) * (μ+n)+1) (show 0 < 2 ^ n from cq);unfold zF;omega
def QR(h:n<=n')(g:μ<=μ'):zF n μ<=zF n' μ':=by unfold zF;exact aD _ (aM (Nat.add_le_add_right (aM Z Z) 1)<|As h)
def zU(n μ:Nat):Nat:=((n+1) * (μ+n)+1) * 4 ^ n
def zN(n μ:Nat):Nat:=(n+1) * (zU n μ+μ+n)
def d0r:zU n μ+μ+n<=zC n μ:=by unfold zU zC;have h1:((n+1) * (μ+n)+1) * 4 ^ n<=((n+2) * (μ+n)+1) * 4 ^ n:=bA _ (by have:=o0u (n:=n) (x:=μ+n);omega);have h2:=dm ((n+2) * (μ+n)+1)<|p4_1 n;have h3:μ+n<=(n+2) * (μ+n):=Nat.le_mul_of_pos_left _ Z;omega
def p0o(r n:Nat):(r+1) * 2 ^ n * 2 ^ n=(r+1) * 4 ^ n:=by rw[bQ,<- Nat.mul_pow]
def d0s:((n+1) * (μ+n)+1) * 2 ^ n+((n+1) * (μ+n)+1) * 4 ^ n<=zC n μ:=by unfold zC;have h1:((n+1) * (μ+n)+1) * 2 ^ n<=((n+1) * (μ+n)+1) * 4 ^ n:=aD _<|p24 n;have h2:((n+1) * (μ+n)+1) * 4 ^ n<=((n+2) * (μ+n)+1) * 4 ^ n:=bA _ (by have:=o0u (n:=n) (x:=μ+n);omega);omega
structure K9(F:M0 S)(n:Nat)(rs:List (QQ S))(es:w1a S):Prop where
 pm:es.Perm (JS F<|kpL F (if rs.length=0 then 0 else n) rs)
 pw:es.Pairwise λp q=>p.1<=q.1
def BP:(if k=0 then 0 else n)<=n:=by split <;>omega
def K9.len(h:K9 F n rs es):es.length=(kpL F (if rs.length=0 then 0 else n) rs).length:=by rw[h.pm.length_eq,<- W5,Ah<|ae _]
def K9.le(h:K9 F n rs es):es.length<=n:=by rw[h.len];exact af (U8 rs).len BP
def K9.xb(h:K9 F n rs es)(hx:∀x∈rs,XB C n r r x):∀k∈es,k.1 < n/\XB C n ((r+1) * 4 ^ n) ((r+1) * 4 ^ n) k.2:=λk hk=>by
 have hk:=h.pm.mem_iff.mp hk;have K1:=Kb.kpL (F:=F) (l:=if rs.length=0 then 0 else n) BP rs hx;have l1:=af (U8 (F:=F) (w:=if rs.length=0 then 0 else n) rs).len<|BP (n:=n);have K2:=Kb.echI (F:=F) (K1.mem l1)<|ae _;rw[W5]at K2;have l2:(JS F<|kpL F (if rs.length=0 then 0 else n) rs).length<=n:=by rw[<- W5,Ah<|ae _];exact l1
 obtain⟨a,b⟩:=K2.mem l2 k hk;have e:=p0o r n;have p:=Ht r n;rw[show(r+1) * 2 ^ n - 1+1=(r+1) * 2 ^ n by omega,e]at b;exact⟨a,b.mono Z Z⟩
def Wx{n r m i:Nat}{rs:List (QQ S)}{x:QQ S}{ms:List (QQ S)}(hx:∀x∈ms,XB C n r r x)(h:XB C n r r x)(hm:r+(r+1) * 2 ^ n<=m):Hs F n m (kpL F (if i=0 then 0 else n) ms) x:=
 (Kb.kpL (F:=F) (l:=if i=0 then 0 else n) BP ms hx).clrZ h (af (U8 ms).len BP) hm
def Ww(hx:∀x∈ms,XB C n r r x)(hj:j<=(kpL F (if i=0 then 0 else n) ms).length)(hk:k∈kpL F (if i=0 then 0 else n) ms)(hm:(r+1) * 2 ^ n+(r+1) * 4 ^ n<=m):Hs F n m (echI F (kpL F (if i=0 then 0 else n) ms) j) k.2:=by
 have K1:=Kb.kpL (F:=F) (l:=if i=0 then 0 else n) BP ms hx;have l1:=af (U8 (F:=F) (w:=if i=0 then 0 else n) ms).len<|BP (n:=n);have K2:=Kb.echI (F:=F) (K1.mem l1) hj;have l2:(echI F (kpL F (if i=0 then 0 else n) ms) j).length<=n:=by rw[Ah hj];omega
 have e:=p0o r n;have p:=Ht r n;show K2.clrZ (K1.mem l1 k hk).2 l2 ?_;rw[show(r+1) * 2 ^ n - 1+1=(r+1) * 2 ^ n by omega,e];omega
def a0t(h:MB C n m μ st tb en)(hx:∀k∈es,k.1 < n/\XB C n u u k.2)(hl:es.length<=n):MB C es.length m ((n+1) * (u+μ+n)) (Vt es st) (Hd n es tb) (Kl n es en):=by
 have hp:∀j,j < es.length->Rx es j < n:=λj hj=>by
  rw[El<|ah hj];exact(hx _<|aG hj).1
 have hk:∀i,i < es.length->XB C n u u (kv es i):=λi hi=>by
  rw[GQ<|ah hi];exact(hx _<|aG hi).2
 have z1:(n+1) * (u+μ+n)=n * (u+μ+n)+(u+μ+n):=bB ..;have z2:es.length * (u+μ)<=n * (u+μ+n):=aM hl Z;show⟨?_,λa ha=>?_,?_⟩
 . obtain⟨b,b0,b1,e⟩:=h.st;exact XB.mono ⟨b,b0,b1,λj hj=>e _<|hp j hj⟩ Z Z
 . have:TB C es.length es.length (es.length * (u+μ)) (u+μ+n+es.length * (u+μ)) (Hd n es tb a):=TB.of λi hi=>by
    obtain⟨b,b0,b1,e⟩:=(hk i hi).by (h.tb a ha)
    exact⟨b,b0,b1,λj hj=>e _<|hp j hj⟩
   exact this.mono Z Z
 . have:TB C es.length 1 (es.length * (u+μ)) (u+μ+n+es.length * (u+μ)) λi _=>Kl n es en i:=TB.of λi hi=>by
    obtain⟨b,b0,b1,e⟩:=hk i hi;obtain⟨c,c0,c1,f⟩:=h.en;show⟨b * c,bE b0 c0,by rw[aV];exact aM b1 c1,λj hj=>?_⟩;exact C.mono _ _ _ _ (Mh<|ae _) (Es b0 c0 e f n<|ae _)
   exact(this.col (j:=0) bD).mono Z Z
def p0l(h:MB C n l.length μ st tb en):∀x∈(S4 F n (h8 S n st<|w5 l tb)<|gB l).map (h8 S n st<|w5 l tb),XB C n ((n+1) * (μ+n)) ((n+1) * (μ+n)) x:=λx hx=>by
 obtain⟨u,hu,rfl⟩:=aw.mp hx;have hw:=GA M9 _ u hu;exact(h.row u hw.2).mono (M5 hw.1) (M5 hw.1)
def Ls(h:MB C n l.length μ st tb en)(E:K9 F n ((S4 F n (h8 S n st<|w5 l tb)<|gB l).map<|h8 S n st<|w5 l tb) es):MB C es.length l.length (zN n μ) (Vt es st) (Hd n es tb) (Kl n es en):=a0t h (E.xb<|p0l h) E.le
def zH(n μ:Nat):Nat:=zC n μ+zF n (zN n μ)
end
section
variable{S:SR}{F:M0 S}{C:Cb S}
def V0(rs:List (QQ S)):F0 S:=λi=>rs.getD i λ_=>S.zero
def CM(h:rs[i]? = some r):V0 rs i=r:=by unfold V0;rw[aU,h];rfl
def FC{rs:List (QQ S)}{r:QQ S}(h:r∈rs):∃i,i < rs.length/\V0 rs i=r:=by obtain⟨i,hi,e⟩:=cM.mp h;exact⟨i,hi,CM<|by rw[ah hi,e]⟩
def IK(h:i < rs.length):V0 rs i∈rs:=by rw[CM<|ah h];exact aG h
def Wl{w:Nat}{rs:List (QQ S)}(h:(kpL F w rs).length=rs.length):JV S w rs.length (V0 rs):=by
 intro c hc k hk;show Classical.byContradiction λne=>?_;obtain⟨n,hn⟩:∃n,rs.length=n+1:=⟨rs.length - 1,Z⟩;rw[hn]at hc;have sp:M1 S w n (λi=>V0 rs<|BU k i) (V0 rs k):=by
  show⟨λi=>S.mul (F.neg<|F.inv<|c k)<|c<|BU k i,λj hj=>?_⟩;have e:=hc j hj;unfold lin at e;rw[KU _ n k Z]at e;have e2:S.mul (c k) (V0 rs k j)=F.neg (sm S (λi=>S.mul (c<|BU k i)<|V0 rs (BU k i) j) n):=Bx (by rw[S.add_comm];exact e);have e3:S.mul (F.inv<|c k) (S.mul (c k)<|V0 rs k j)=V0 rs k j:=by rw[<- S.mul_assoc,S.mul_comm<|F.inv<|c k,F.mul_inv _ ne,Ho]
  rw[e2,QA]at e3;rw[HC (S:=S) (F.neg<|F.inv<|c k)<|λi=>c<|BU k i,IL];exact e3.symm
 have all:∀r∈rs,M1 S w n (λi=>V0 rs<|BU k i) r:=λr hr=>by
  obtain⟨i,hi,rfl⟩:=FC hr;by_cases e:i=k
  . rw[e];exact sp
  . by_cases lt:i < k
    . have:=M1.gen (S:=S) (w:=w) (n:=n) (vs:=λq=>V0 rs<|BU k q) (i:=i) Z;have e2:BU k i=i:=by unfold BU;rw[if_pos lt]
      rwa [e2]at this
    . have:=M1.gen (S:=S) (w:=w) (n:=n) (vs:=λq=>V0 rs<|BU k q) (i:=i - 1) Z;have e2:BU k (i - 1)=i:=by unfold BU;rw[if_neg Z];omega
      rwa [e2]at this
 have:=BR F (U8 (F:=F) (w:=w) rs).ind λi hi=>Fv rs all _<|CL hi;omega
def VY{w:Nat}{rs:List (QQ S)}(h:JV S w rs.length (V0 rs)):(kpL F w rs).length=rs.length:=
 Gv rs (λr hr=>by
  obtain⟨i,hi,rfl⟩:=FC hr;exact M1.gen hi) h λi hi=>⟨V0 rs i,IK hi,λ_ _=>rfl⟩
def d0a(F:M0 S)(A:w1e->Prop)(w w':Nat)(ρ h:w1e->Nat->S.W):Prop:=∀ws:List w1e,(∀u∈ws,A u)->(JV S w ws.length (V0<|ws.map ρ)↔JV S w' ws.length (V0<|ws.map h))
def IJ{w:Nat}{ρ:w1e->Nat->S.W}{ws:List w1e}:(kpL F w<|ws.map ρ).length=ws.length↔JV S w ws.length (V0<|ws.map ρ):=by
 constructor
 . intro e;have:=Wl (F:=F) (rs:=ws.map ρ) (by rw[e,ag]);rwa [ag]at this
 . intro e;have:=VY (F:=F) (rs:=ws.map ρ) (by rw[ag];exact e);rw[this,ag]
def d0a.full(T:d0a F A w w' ρ h)(ws:List w1e)(ha:∀u∈ws,A u):(kpL F w<|ws.map ρ).length=ws.length↔(kpL F w'<|ws.map h).length=ws.length:=by rw[IJ,IJ,T ws ha]
def Ol(h:(X5 F w ks r).length=ks.length):X5 F w ks r=ks:=by
 revert h;show Q3 (λL=>L.length=ks.length->L=ks) (λ_ _=>rfl) (λ_ _=>rfl) λp _ _ e=>?_;rw[aq]at e;simp at e
structure Bf(F:M0 S)(w:Nat)(ρ:w1e->Nat->S.W)(ks:w1a S)(ws:List w1e):Prop where
 is:ks=kpL F w (ws.map ρ)
 fu:ks.length=ws.length
def Bf.nil:Bf F w ρ [] []:=⟨U,U⟩
def Bf.step(h:Bf F w ρ ks ws)(u:w1e):Bf F w ρ (X5 F w ks<|ρ u) (ws++if(X5 F w ks<|ρ u).length≠ks.length then [u]else []):=by
 by_cases e:(X5 F w ks<|ρ u).length=ks.length
 . rw[if_neg<|λz=>z e,bw,Ol e];exact h
 . rw[if_pos e];have e2:(X5 F w ks<|ρ u).length=ks.length+1:=(LO (F:=F)).resolve_left e;show⟨?_,by rw[e2,aq,h.fu];rfl⟩;rw[bb,h.is];exact Fw.symm
def Bf.grow(h:Bf F w ρ ks ws)(u:w1e):(X5 F w ks<|ρ u).length≠ks.length↔(kpL F w<|(ws++[u]).map ρ).length=(ws++[u]).length:=by
 have e:X5 F w ks (ρ u)=kpL F w ((ws++[u]).map ρ):=by rw[bb,h.is];exact Fw.symm
 have e2:=LO (F:=F) (w:=w) (ks:=ks) (r:=ρ u);rw[<- e,aq,<- h.fu];show _↔_=ks.length+1;omega
theorem d0a.grow(T:d0a F A w w' ρ h)(k1:Bf F w ρ ks ws)(k2:Bf F w' h lF ws)(ha:∀u∈ws,A u)(u:w1e)(hu:A u):(X5 F w ks<|ρ u).length≠ks.length↔(X5 F w' lF<|h u).length≠lF.length:=by
 rw[k1.grow,k2.grow,T.full _ λv hv=>by
  rcases av.mp hv with hv | hv
  . exact ha v hv
  . rw[ar.mp hv];exact hu]
structure DuS(S:SR)where
 ks:List (Nat × (Nat->S.W))
 due:List w1e
open Classical in
end
def Hz(l:w1e):Nat->List w1e
 | 0=>[[]]
 | i+1=>gB l (Hz l i)
def J1(l:w1e):Nat->List w1e
 | 0=>[[]]
 | i+1=>J1 l i++Hz l (i+1)
theorem LV:∀{ws:List w1e},(gB l ws).length=ws.length * l.length
 | []=>by rw[LU];simp
 | u::ws=>by
  show((l.map λc=>u++[c])++gB l ws).length=_;rw[aq,ag,LV,bM,bB];omega
def RH{l:w1e}{ws:List w1e}{j:Nat}{u:w1e}(h:ws[j]? = some u):gB l (ws.take<|j+1)=gB l (ws.take j)++l.map λc=>u++[c]:=by rw[L4 h];unfold gB;rw[List.flatMap_append,List.flatMap_singleton]
theorem Fn:∀i,(Hz l i).length=l.length ^ i
 | 0=>rfl
 | i+1=>by
  show(gB l<|Hz l i).length=_;rw[LV,Fn i,ba]
theorem Qb:∀i,∀u∈Hz l i,u.length=i/\∀c∈u,c∈l
 | 0,u,h=>by rw[ar.mp h];exact⟨U,by simp⟩
 | i+1,u,h=>M9.2 _ i (λv hv=>Qb i v hv) u h
def CD(i:Nat)(u:w1e)(h:u∈Hz l i):u.length=i:=(Qb i u h).1
def Su(h:i<=j):(J1 l i).length<=(J1 l j).length:=by
 induction h with
 | refl=>exact ae _
 | step _ ih=>show _<=(J1 l _++Hz l _).length;rw[aq];omega
def Vc{a i j:Nat}(h:i<=j)(h0:0 < i):a ^ i<=a ^ j:=by
 cases a with
 | zero=>rw[Nat.zero_pow h0];exact aP _
 | succ a=>exact cg (Nat.succ_pos a) h
theorem X7:∀n,∀u∈J1 l n,u.length<=n/\∀c∈u,c∈l
 | 0,u,h=>by rw[ar.mp h];exact⟨ae _,by simp⟩
 | n+1,u,h=>by
  rcases av.mp h with h | h
  . have:=X7 n u h;exact⟨Z,this.2⟩
  . have:=Qb (n+1) u h;exact⟨Z,this.2⟩
theorem VJ:∀(n:Nat) (u:w1e),u.length=n->(∀c∈u,c∈l)->u∈Hz l n
 | 0,u,e,_=>by rw[bh.mp e];exact cK _
 | n+1,u,e,h=>by
  have ne:u≠[]:=λz=>by rw[z]at e;cases e
  rw[<- cW ne];have:=VJ n u.dropLast (by rw[cX];omega) λc hc=>h c<|dE u hc;exact dH.mpr ⟨_,this,aw.mpr ⟨_,h _<|dF ne,U⟩⟩
theorem Bh:∀(n:Nat) (u:w1e),u.length<=n->(∀c∈u,c∈l)->u∈J1 l n
 | 0,u,e,_=>by rw[bh.mp<|show u.length=0 by omega];exact cK _
 | n+1,u,e,h=>by
  by_cases z:u.length=n+1
  . exact aK _ (VJ _ u z h)
  . exact bc _ (Bh n u Z h)
section
variable{S:SR}{F:M0 S}{C:Cb S}
theorem Ax:∀{ws:List w1e} {ks:w1a S},(Q6 F w ρ ks ws).Sublist ws
 | [],_=>.slnil
 | u::ws,ks=>by
  show((if _ then _ else _)++Q6 F w ρ _ ws).Sublist _;split
  . exact(Ax (ws:=ws)).cons_cons u
  . exact(Ax (ws:=ws)).cons u
structure Grw(l:w1e)(g:List w1e->List w1e)(rs:w1e->List Nat):Prop where
 nil:g []=[]
 lv:∀i,Hz l (i+1)=g (Hz l i)
 fl:∀L X:List w1e,((g L).filter λu=>decide<|rs u∈X)=g (L.filter λu=>decide<|u∈X)
 ln:∀i u,u.length=i+1->(rs u).length=i
end
section
variable{S:SR}{F:M0 S}{C:Cb S}
theorem Dg:∀i,Bf F w ρ (w6 F w ρ g i).ks (w6 F w ρ g i).told
 | 0=>Bf.nil
 | i+1=>by
  have eJ:∀(ws:List w1e) (ks:w1a S) (td:List w1e),Bf F w ρ ks td->Bf F w ρ (AM F w ρ ks ws) (td++Q6 F w ρ ks ws):=by
   intro ws
   induction ws with
   | nil=>intro ks td h;show Bf F w ρ ks<|td++[];rw[bw];exact h
   | cons u ws ih=>
    intro ks td h;have:=ih _ _<|h.step u;rw[ck]at this;exact this
  exact eJ _ _ _ (Dg i)
def FK(F:M0 S)(w:Nat)(ks:w1a S)(v:QQ S):Prop:=∀j,j < w->clr F ks v j=S.zero
def FK.span(k:Bf F w ρ ks ws)(h:FK F w ks v):M1 S w ws.length (V0<|ws.map ρ) v:=by
 have h1:∀q∈ks,M1 S w ws.length (V0<|ws.map ρ) q.2:=by
  rw[k.is];exact Fv _ λr hr=>by
   obtain⟨i,hi,rfl⟩:=FC hr;rw[ag]at hi;exact M1.gen hi
 have h2:=Be (F:=F) (u:=v) h1;show(h2.mul<|F.neg S.one).congr λj hj=>?_;rw[h j hj,CN,IL,Ho,Wp]
theorem LW:∀{ws:List w1e} {ks:w1a S},FK F w ks v->FK F w (AM F w ρ ks ws) v
 | [],_,h=>h
 | u::ws,ks,h=>LW (ws:=ws) (Rz (F:=F) h)
theorem LX:∀{ws:List w1e} {ks:w1a S},Kp S w ks->∀u∈ws,FK F w (AM F w ρ ks ws) (ρ u)
 | v::ws,ks,h,u,hu=>by
  rcases au.mp hu with rfl | hu
  . exact LW (ws:=ws) (LN h)
  . exact LX (ws:=ws) (Qp h) u hu
theorem Qy(h:FK F w (w6 F w ρ g i).ks v):∀k,FK F w (w6 F w ρ g<|i+k).ks v
 | 0=>h
 | k+1=>LW (Qy h k)
theorem Z0:∀{i:Nat},u∈(w6 F w ρ g i).told->∃k,k < i/\u∈Q6 F w ρ (w6 F w ρ g k).ks (w6 F w ρ g k).last
 | 0,h=>nomatch h
 | i+1,h=>by
  rcases av.mp h with h | h
  . obtain⟨k,hk,e⟩:=Z0 h;exact⟨k,Z,e⟩
  . exact⟨i,Z,h⟩
def P3(hg:Gw l g)(h:u∈S4 F w ρ g):u.length < w/\∀c∈u,c∈l:=by
 obtain⟨k,_,e⟩:=Z0 h;obtain⟨a,b⟩:=AJ hg k u<|R8 e;have h2:=Wf hg k λz=>by rw[z]at e;cases e
 have h3:=Ay (F:=F) (l:=w) (ρ:=ρ) (ws:=(w6 F w ρ g k).last) (ks:=(w6 F w ρ g k).ks);have h4:=List.length_pos_of_mem e;have h5:=(M4 (F:=F) (l:=w) (ρ:=ρ) (g:=g)<|k+1).len;have h5:(AM F w ρ (w6 F w ρ g k).ks (w6 F w ρ g k).last).length<=w:=h5;exact⟨Z,b⟩
structure Lop(S:SR)(w:Nat)(L:(QQ S)->Nat->S.W):Prop where
 co:∀x y,(∀j,j < w->x j=y j)->∀j,j < w->L x j=L y j
 li:∀c vs n,∀j,j < w->L (lin S c vs n) j=lin S c (λk=>L<|vs k) n j
def CF:Lop S n (Hx S n A):=⟨λx y h j _=>j6 λi hi=>by rw[h i hi],λc vs m j _=>by
 show sm S (λi=>S.mul (sm S (λk=>S.mul (c k)<|vs k i) m)<|A i j) n=sm S (λk=>S.mul (c k)<|sm S (λi=>S.mul (vs k i)<|A i j) n) m;exact EI c vs (λi=>A i j) m n⟩
def Bc(x y:QQ S)(n:Nat):B7 S x y n=B7 S y x n:=j6 λi _=>S.mul_comm _ _
def c0u:p0v S n A y=Hx S n (λi j=>A j i) y:=by
 funext i;exact Bc _ _ _
structure Wgr(l:w1e)(g:List w1e->List w1e)(ex:Nat->List Nat->List Nat):Prop where
 gw:Gw l g
 me:∀ws,∀u∈ws,∀c∈l,ex c u∈g ws
 ind:∀P:w1e->Prop,P []->(∀c u,c∈l->(∀d∈u,d∈l)->P u->P (ex c u))->∀u,(∀d∈u,d∈l)->P u
def EB:Wgr l (gB l) λc u=>u++[c]:=⟨M9,λws u hu c hc=>dH.mpr ⟨u,hu,aw.mpr ⟨c,hc,U⟩⟩,λP h0 hs=>by
 have eJ:∀n (u:w1e),u.length=n->(∀d∈u,d∈l)->P u:=by
  intro n
  induction n with
  | zero=>intro u e _;rw[bh.mp e];exact h0
  | succ n ih=>
   intro u e h;have ne:u≠[]:=λz=>by rw[z]at e;cases e
   rw[<- cW ne];have h':∀d∈u.dropLast,d∈l:=λc hc=>h c<|dE u hc;exact hs _ _ (h _<|dF ne) h' (ih _ (by rw[cX];omega) h')
 exact λu h=>eJ _ u U h⟩
def Gz{w:Nat}{l:w1e}{ρ:w1e->Nat->S.W}{g:List w1e->List w1e}{ex:Nat->List Nat->List Nat}{L:Nat->(QQ S)->Nat->S.W}(G:Wgr l g ex)(hL:∀c∈l,Lop S w<|L c)(hρ:∀c u,c∈l->∀j,j < w->ρ (ex c u) j=L c (ρ u) j):∀u,(∀d∈u,d∈l)->M1 S w (S4 F w ρ g).length (V0<|(S4 F w ρ g).map ρ) (ρ u):=by
 have KP:=Dg (F:=F) (w:=w) (ρ:=ρ) (g:=g)<|w+1;have fin:=HG (F:=F) (l:=w) (ρ:=ρ) (g:=g) G.gw.1;have c0:FK F w (w6 F w ρ g<|w+1).ks (ρ []):=by have:FK F w (w6 F w ρ g<|0+1).ks (ρ []):=LX (F:=F) (ρ:=ρ) (M4 (F:=F) (l:=w) (ρ:=ρ) (g:=g) 0) []<|cK _;have:=Qy this w;rwa [show 0+1+w=w+1 by omega]at this
 have cs:∀v∈(w6 F w ρ g<|w+1).told,∀c∈l,FK F w (w6 F w ρ g<|w+1).ks (ρ<|ex c v):=λv hv c hc=>by
  obtain⟨k,hk,e⟩:=Z0 hv;have hm:ex c v∈(w6 F w ρ g<|k+1).last:=G.me _ v e c hc;have k2:k+1≠w+1:=λz=>by rw[z,fin]at hm;cases hm
  have h1:FK F w (w6 F w ρ g<|k+1+1).ks (ρ<|ex c v):=LX (M4<|k+1) _ hm;have:=Qy h1<|w+1 - (k+1+1);rwa [show k+1+1+(w+1 - (k+1+1))=w+1 by omega]at this
 have main:∀u,(∀d∈u,d∈l)->FK F w (w6 F w ρ g<|w+1).ks (ρ u):=G.ind _ c0 λc u hc hu ih=>by
  obtain⟨d,hd⟩:=ih.span KP;intro j hj;have e1:∀j,j < w->ρ (ex c u) j=lin S d (λk=>L c<|V0 ((w6 F w ρ g<|w+1).told.map ρ) k) (w6 F w ρ g<|w+1).told.length j:=λj hj=>by
   rw[hρ c u hc j hj,(hL c hc).co _ _ hd j hj,(hL c hc).li _ _ _ j hj]
  rw[FG (F:=F) (λk hk=>(M4 (F:=F) (l:=w) (ρ:=ρ) (g:=g)<|w+1).lt k hk) e1 j hj,Mi];show sm S _ _=S.zero;rw[j6 (g:=λ_=>S.zero) λk hk=>?_,F2];have iM:k < ((w6 F w ρ g<|w+1).told.map ρ).length:=by rw[ag];exact hk
  have e2:V0 ((w6 F w ρ g<|w+1).told.map ρ) k=ρ ((w6 F w ρ g<|w+1).told[k]):=CM (by rw[aE,ah hk];rfl);have e3:clr F (w6 F w ρ g<|w+1).ks (L c<|V0 ((w6 F w ρ g<|w+1).told.map ρ) k) j=S.zero:=by
   have e4:∀j,j < w->L c (V0 ((w6 F w ρ g<|w+1).told.map ρ) k) j=ρ (ex c (w6 F w ρ g<|w+1).told[k]) j:=λj hj=>by
    rw[e2,hρ c _ hc j hj]
   rw[FG (F:=F) (λk hk=>(M4 (F:=F) (l:=w) (ρ:=ρ) (g:=g)<|w+1).lt k hk) e4 j hj];exact cs _ (aG hk) c hc j hj
  dsimp only;rw[e3,S.mul_zero]
 exact λu hu=>(main u hu).span KP
structure TZ(S:SR)(n:Nat)(es:w1a S):Prop where
 lt:∀e∈es,e.1 < n
 one:∀e∈es,e.2 e.1=S.one
 mu:es.Pairwise λa b=>a.2 b.1=S.zero/\b.2 a.1=S.zero
theorem TZ.Kp(h:TZ S n es):Kp S n es:=⟨h.lt,h.one,h.mu.imp λz=>z.2⟩
def TZ.perm(p:fm.Perm es)(h:TZ S n es):TZ S n fm:=
 ⟨λe he=>h.lt e<|p.mem_iff.mp he,λe he=>h.one e<|p.mem_iff.mp he,(p.pairwise_iff λz=>⟨z.2,z.1⟩).mpr h.mu⟩
theorem RO(K:Kp S n ks):∀i,i<=ks.length->TZ S n (echI F ks i)/\(∀q k,q < ks.length - i->ks[q]? = some k->∀e∈echI F ks i,e.2 k.1=S.zero)
 | 0,_=>⟨⟨(λe he=>nomatch he),(λe he=>nomatch he),.nil⟩,(λq k _ _ e he=>nomatch he)⟩
 | i+1,hi=>by
  obtain⟨E,a1v⟩:=RO K i Z;have hk:ks[ks.length - 1 - i]? = some (ks[ks.length - 1 - i]'Z):=ah _;revert hk;generalize ks[ks.length - 1 - i]'Z=k;intro hk;have km:=aL hk;have zk:∀e∈echI F ks i,e.2 k.1=S.zero:=a1v _ k Z hk;rw[Q4 Z hk];show⟨⟨λe he=>?_,λe he=>?_,?_⟩,λq k' hq iM e he=>?_⟩
  . rcases av.mp he with he | he
    . exact E.lt e he
    . rw[ar.mp he];exact K.lt k km
  . rcases av.mp he with he | he
    . exact E.one e he
    . rw[ar.mp he];show clr F (echI F ks i) k.2 k.1=S.one;rw[FE zk];exact K.one k km
  . rw[dj];show⟨E.mu,dk _ _,λe he b hb=>?_⟩;rw[ar.mp hb];exact⟨zk e he,E.Kp.clr e he⟩
  . have z0:∀e∈echI F ks i,e.2 k'.1=S.zero:=a1v q k' Z iM;rcases av.mp he with he | he
    . exact z0 e he
    . rw[ar.mp he];show clr F (echI F ks i) k.2 k'.1=S.zero;rw[FE z0];have gI:q < ks.length - 1 - i:=by omega
      obtain⟨q1,q2⟩:=aJ.mp iM;obtain⟨r1,r2⟩:=aJ.mp hk;have:=bX.mp K.tri q (ks.length - 1 - i) q1 r1 gI;rwa [q2,r2]at this
def b0u{es:w1a S}{e:Nat × (QQ S)}(h:e∈es):∃i,i < es.length/\kv es i=e.2/\Rx es i=e.1:=by
 obtain⟨i,hi,z⟩:=cM.mp h;have:es[i]? = some e:=by rw[ah hi,z]
 exact⟨i,hi,GQ this,El this⟩
def K9.ech(h:K9 F n rs es):TZ S n es:=by
 have K:Kp S n (kpL F (if rs.length=0 then 0 else n) rs):=by have:=U8 (F:=F) (w:=if rs.length=0 then 0 else n) rs;exact⟨λk hk=>az (this.lt k hk) BP,this.one,this.tri⟩
 have:=(RO (F:=F) K _<|ae _).1;rw[W5]at this;exact this.perm h.pm
def TZ.at(h:TZ S n es)(hi:i < es.length)(hj:j < es.length):kv es i (Rx es j)=if i=j then S.one else S.zero:=by
 rw[GQ<|ah hi,El<|ah hj];by_cases e:i=j
 . subst e;rw[if_pos rfl];exact h.one _ (aG hi)
 . rw[if_neg e];have P:=bX.mp h.mu;by_cases lt:i < j
   . exact(P i j hi hj lt).1
   . exact(P j i hj hi Z).2
def TZ.parts(h:TZ S n es)(s:M1 S n es.length (kv es) v):∀j,j < n->v j=lin S (λi=>v<|Rx es i) (kv es) es.length j:=by
 obtain⟨c,hc⟩:=s;have hp:∀i,i < es.length->Rx es i < n:=λi hi=>by rw[El<|ah hi];exact h.lt _ (aG hi)
 have ec:∀i,i < es.length->v (Rx es i)=c i:=λi hi=>by
  rw[hc _<|hp i hi];unfold lin;rw[W9 (i:=i) hi λk hk ne=>by rw[h.at hk hi,if_neg ne,S.mul_zero],h.at hi hi,if_pos U,S.mul_one]
 intro j hj;rw[hc j hj];exact j6 λi hi=>by dsimp only;rw[ec i hi]
def Wy{n:Nat}{ks es:w1a S}(pm:es.Perm (JS F ks)):(∀k∈ks,M1 S n es.length (kv es) k.2)/\∀m vs,(∀k∈ks,M1 S n m vs k.2)->∀e∈es,M1 S n m vs e.2:=by
 have gen:∀e∈es,M1 S n es.length (kv es) e.2:=λe he=>by
  obtain⟨i,hi,z,_⟩:=b0u he;rw[<- z];exact M1.gen hi
 have eJ:∀i,i<=ks.length->∀e∈echI F ks i,e∈es:=by
  intro i hi e he;rw[pm.mem_iff,<- W5];have pre:∀k,i+k<=ks.length->e∈echI F ks (i+k):=by
   intro k
   induction k with
   | zero=>intro _;exact he
   | succ k ih=>
    intro hk;rw[<- Nat.add_assoc,Q4 Z<|ah<|show ks.length - 1 - (i+k) < ks.length by omega];exact bc _ (ih Z)
  have:=pre (ks.length - i) Z;rwa [show i+(ks.length - i)=ks.length by omega]at this
 constructor
 . intro k hk;obtain⟨q,hq,z⟩:=cM.mp hk;have hs:=Q4 (F:=F) (ks:=ks) (i:=ks.length - 1 - q) (k:=k) Z (by rw[show ks.length - 1 - (ks.length - 1 - q)=q by omega,ah hq,z]);have m1:(k.1,clr F (echI F ks<|ks.length - 1 - q) k.2)∈es:=eJ (ks.length - 1 - q+1) Z _ (by rw[hs];exact aK _<|cK _);have h1:=gen _ m1;have h2:=Be (F:=F) (u:=k.2) λe he=>gen e<|eJ (ks.length - 1 - q) Z e he;show(h1.add<|h2.mul<|F.neg S.one).congr λj hj=>?_;show _=S.add (clr F _ k.2 j) _;rw[IL,Ho,Wr,Wp,<- S.add_assoc,F.add_neg,CN]
 . intro m vs h2 e he;have h3:∀i,i<=ks.length->∀e∈echI F ks i,M1 S n m vs e.2:=by
    intro i
    induction i with
    | zero=>intro _ e he;cases he
    | succ i ih=>
     intro hi e he;rw[Q4 Z<|ah<|show ks.length - 1 - i < ks.length by omega]at he;rcases av.mp he with he | he
     . exact ih Z e he
     . rw[ar.mp he];have a:=h2 _ (aG<|show ks.length - 1 - i < ks.length by omega);have b:=Be (F:=F) (u:=(ks[ks.length - 1 - i]'Z).2)<|ih Z;show(b.add a).congr λj hj=>?_;rw[S.add_assoc,S.add_comm<|F.neg _,F.add_neg,S.add_zero]
   have hm:=pm.mem_iff.mp he;rw[<- W5]at hm;exact h3 _ (ae _) _ hm
def K9.span(h:K9 F n rs es):(∀r∈rs,M1 S n es.length (kv es) r)/\∀i,i < es.length->M1 S n rs.length (V0 rs) (kv es i):=by
 obtain⟨h1,h2⟩:=Wy (n:=n) h.pm;constructor
 . intro r hr;have z:rs.length≠0:=λz=>by rw[bh.mp z]at hr;cases hr
   rw[if_neg z]at h1;obtain⟨c,hc⟩:=Oj (F:=F) (w:=n) rs r hr;have:M1 S n es.length (kv es) (lin S c (kv<|kpL F n rs) (kpL F n rs).length):=M1.lin λi hi=>h1 _<|CL hi;exact this.congr hc
 . intro i hi;rw[GQ<|ah hi];show h2 _ _ (λk hk=>?_) _<|aG hi;have z:rs.length≠0:=λz=>by
    rw[bh.mp z]at hk;cases hk
   rw[if_neg z]at hk;exact Fv _ (λr hr=>by
    obtain⟨q,hq,rfl⟩:=FC hr;exact M1.gen hq) k hk
end
section
variable{S:SR}{F:M0 S}{C:Cb S}
def P6:B7 S (lin S c vs m) y n=sm S (λk=>S.mul (c k)<|B7 S (vs k) y n) m:=EI c vs y m n
def I0(h:∀j,j < n->x j=x' j):B7 S x y n=B7 S x' y n:=j6 λi hi=>by rw[h i hi]
def Er(h:∀j,j < n->y j=y' j):B7 S x y n=B7 S x y' n:=j6 λi hi=>by rw[h i hi]
def Mg:B7 S (Hx S n A x) y n=B7 S x (p0v S n A y) n:=EI x A y n n
def mir:∀u:w1e,h8 S n x (λc i j=>B c j i) u=BM S n B x u.reverse:=by
 have eJ:∀k (u:w1e),u.length=k->h8 S n x (λc i j=>B c j i) u=BM S n B x u.reverse:=by
  intro k
  induction k with
  | zero=>intro u e;rw[bh.mp e];rfl
  | succ k ih=>
   intro u e;have ne:u≠[]:=λz=>by rw[z]at e;cases e
   rw[<- cW ne,x4,ih _ (by rw[cX];omega),List.reverse_append];show _=p0v S n _ (BM S n B x u.dropLast.reverse);rw[c0u]
 exact λu=>eJ _ u rfl
structure BO(F:M0 S)(l:w1e)(n:Nat)(st:QQ S)(tb:FF S)(es:w1a S):Prop where
 ech:TZ S n es
 all:∀u,(∀d∈u,d∈l)->M1 S n es.length (kv es) (h8 S n st (w5 l tb) u)
 few:∀i,i < es.length->M1 S n (J1 l<|n - 1).length (V0<|(J1 l<|n - 1).map<|h8 S n st<|w5 l tb) (kv es i)
 stp:∀i,i < es.length->∀c∈l,M1 S n es.length (kv es) (Hx S n (w5 l tb c)<|kv es i)
def Ef(E:K9 F n ((S4 F n (h8 S n st<|w5 l tb)<|gB l).map<|h8 S n st<|w5 l tb) es):BO F l n st tb es:=by
 obtain⟨s1,s2⟩:=E.span;have fa:=Gz (F:=F) (ρ:=h8 S n st<|w5 l tb) (L:=λc=>Hx S n<|w5 l tb c) (EB (l:=l)) (λc _=>CF) (λc u _ j _=>by rw[x4]);have all:∀u,(∀d∈u,d∈l)->M1 S n es.length (kv es) (h8 S n st (w5 l tb) u):=λu hu=>by
  obtain⟨c,hc⟩:=fa u hu;have:M1 S n es.length (kv es) (lin S c (V0<|(S4 F n (h8 S n st<|w5 l tb)<|gB l).map<|h8 S n st<|w5 l tb) (S4 F n (h8 S n st<|w5 l tb)<|gB l).length):=M1.lin λi hi=>s1 _ (IK<|by rw[ag];exact hi);exact this.congr hc
 show⟨E.ech,all,λi hi=>?_,λi hi c hc=>?_⟩
 . obtain⟨d,hd⟩:=s2 i hi;show(M1.lin (c:=d) λk hk=>?_:M1 S n _ _ (lin S d (V0<|(S4 F n (h8 S n st<|w5 l tb)<|gB l).map<|h8 S n st<|w5 l tb) _)).congr hd;obtain⟨w,hw,e⟩:=aw.mp<|IK hk;rw[<- e];have:=P3 M9 hw;obtain⟨q,hq,eq⟩:=FC<|List.mem_map_of_mem (f:=h8 S n st<|w5 l tb)<|Bh (l:=l) (n - 1) w Z this.2;rw[<- eq];rw[ag]at hq;exact M1.gen hq
 . obtain⟨d,hd⟩:=s2 i hi;have e1:∀j,j < n->Hx S n (w5 l tb c) (kv es i) j=lin S d (λk=>Hx S n (w5 l tb c)<|V0 ((S4 F n (h8 S n st<|w5 l tb)<|gB l).map<|h8 S n st<|w5 l tb) k) ((S4 F n (h8 S n st<|w5 l tb)<|gB l).map<|h8 S n st<|w5 l tb).length j:=λj hj=>by
    rw[CF.co _ _ hd j hj,CF.li _ _ _ j hj]
   show(M1.lin (c:=d) λk hk=>?_:M1 S n es.length (kv es) (lin S d _ _)).congr e1;obtain⟨w,hw,e⟩:=aw.mp<|IK hk;have:=P3 M9 hw;rw[<- e,<- x4];exact all _ λq hq=>by
    rcases av.mp hq with hq | hq
    . exact this.2 q hq
    . rw[ar.mp hq];exact hc
theorem BO.col(N:BO F l n st tb es)(en:QQ S):∀u,(∀d∈u,d∈l)->∀i,i < es.length->BM S es.length (w5 l<|Hd n es tb) (Kl n es en) u i=B7 S (kv es i) (BM S n (w5 l tb) en u) n
 | [],_,i,_=>rfl
 | c::u,hu,i,hi=>by
  have hc:=hu c<|ax ..;have ih:=BO.col N en u λd hd=>hu d<|aA _ hd;show B7 S (λj=>Hx S n (w5 l tb c) (kv es i)<|Rx es j) (BM S es.length (w5 l<|Hd n es tb) (Kl n es en) u) es.length=B7 S (kv es i) (p0v S n (w5 l tb c)<|BM S n (w5 l tb) en u) n;rw[Er ih,<- Mg,I0<|N.ech.parts<|N.stp i hi c hc,P6];rfl
def FD{α:Type}{f:α->Nat->S.W}{ws:List α}{j:Nat}(d:α)(h:j < ws.length):V0 (ws.map f) j=f (ws.getD j d):=by rw[CM (r:=f ws[j]) (by rw[aE,ah h];rfl),aU,ah h];rfl
abbrev AL(l u:w1e):Prop:=∀d∈u,d∈l
def LS(h:j < (J1 l m).length):(J1 l m).getD j []∈J1 l m:=by rw[aU,ah h];exact aG h
abbrev W7(tb:Nat->Nat->Nat->α):Nat->Nat->Nat->α:=λa i j=>tb a j i
def b0p(u:w1e):h8 S n x (w5 l<|W7 tb) u=BM S n (w5 l tb) x u.reverse:=mir (B:=w5 l tb) u
def o0v(u:w1e):BM S n (w5 l<|W7 tb) x u=h8 S n x (w5 l tb) u.reverse:=by have:=mir (S:=S) (n:=n) (x:=x) (B:=w5 l<|W7 tb) u.reverse;rw[List.reverse_reverse]at this;exact this.symm
def QK(h:AL l u):AL l u.reverse:=λd hd=>h d (List.mem_reverse.mp hd)
def BO.rowT(N:BO F l n en (W7 tb) es)(u:w1e)(hu:AL l u)(i:Nat)(hi:i < es.length):h8 S es.length (Kl n es st) (w5 l<|W7<|Hd n es<|W7 tb) u i=B7 S (kv es i) (h8 S n st (w5 l tb) u) n:=by rw[b0p,N.col st _ (QK hu) i hi,o0v,List.reverse_reverse]
def We:JV S w (S4 F w ρ g).length (V0<|(S4 F w ρ g).map ρ):=by have K:=Dg (F:=F) (w:=w) (ρ:=ρ) (g:=g)<|w+1;show(IJ (F:=F)).mp ?_;show(kpL F w<|(w6 F w ρ g<|w+1).told.map ρ).length=(w6 F w ρ g<|w+1).told.length;rw[<- K.is];exact K.fu
end
section
variable{S:SR}{F:M0 S}{C:Cb S}
def Je(l:w1e):w1e->List Nat->Bool
 | x::u,y::v=>if x=y then Je l u v else decide (l.idxOf x < l.idxOf y)
 | _,_=>false
def GV(l u v:w1e):Bool:=if u.length=v.length then Je l u v else decide (u.length < v.length)
theorem Lv{l:w1e}(a b:w1e):∀{u v:w1e},u.length=v.length->Je l u v=true->Je l (u++a) (v++b)=true
 | [],[],_,h=>by simp[Je]at h
 | x::u,y::v,e,h=>by
  simp only[dh,Je]at h ⊢;split
  . next z=>rw[if_pos z]at h;exact Lv a b (by simpa using e) h
  . next z=>rw[if_neg z]at h;exact h
theorem NN{l:w1e}{c d:Nat}(h:l.idxOf c < l.idxOf d):∀u:w1e,Je l (u++[c]) (u++[d])=true
 | []=>by
  simp only[dq,Je];rw[if_neg<|λz=>by rw[z]at h;omega];exact decide_eq_true h
 | x::u=>by
  simp only[dh,Je,if_true];exact NN h u
theorem NO{l:w1e}:∀u:w1e,Je l u u=false
 | []=>rfl
 | x::u=>by unfold Je;rw[if_pos rfl];exact NO u
def c0i{l:w1e}(nd:l.Nodup):l.Pairwise λc d=>l.idxOf c < l.idxOf d:=by show bX.mpr λi j hi hj gK=>?_;rw[nd.idxOf_getElem,nd.idxOf_getElem];exact gK
def YY{l:w1e}(nd:l.Nodup){ws:List w1e}{k:Nat}(hk:∀u∈ws,u.length=k)(h:ws.Pairwise λu v=>Je l u v=true):(gB l ws).Pairwise λu v=>Je l u v=true:=by unfold gB;show List.pairwise_flatMap.mpr ⟨λu _=>cH.mpr<|(c0i nd).imp λz=>NN z u,?_⟩;show(bX.mpr λi j hi hj gK=>?_);intro x hx y hy;obtain⟨c,_,rfl⟩:=aw.mp hx;obtain⟨d,_,rfl⟩:=aw.mp hy;exact Lv _ _ (by rw[hk _<|aG hi,hk _<|aG hj]) (bX.mp h i j hi hj gK)
theorem LM{l:w1e}(nd:l.Nodup){w:Nat}{ρ:w1e->Nat->S.W}:∀i,(w6 F w ρ (gB l) i).last.Pairwise λu v=>Je l u v=true
 | 0=>dk _ _
 | i+1=>YY nd (k:=i) (λu hu=>(AJ M9 i u<|R8 hu).1) ((LM nd i).sublist Ax)
theorem Ma{w:Nat}{ρ:w1e->Nat->S.W}:∀{a b:List w1e} {ks:w1a S},Q6 F w ρ ks (a++b)=Q6 F w ρ ks a++Q6 F w ρ (AM F w ρ ks a) b
 | [],_,_=>rfl
 | u::a,b,ks=>by
  show _++Q6 F w ρ (X5 F w ks<|ρ u) (a++b)=_++Q6 F w ρ (X5 F w ks<|ρ u) a++_;rw[Ma,ck];rfl
theorem RJ{w:Nat}{ρ:w1e->Nat->S.W}:∀(ws:List w1e) {ks:w1a S} {td:List w1e},Bf F w ρ ks td->Bf F w ρ (AM F w ρ ks ws) (td++Q6 F w ρ ks ws)
 | [],ks,td,h=>by show Bf F w ρ ks<|td++[];rw[bw];exact h
 | u::ws,ks,td,h=>by
  have:=RJ ws<|h.step u;rw[ck]at this;exact this
theorem HP{w:Nat}{ρ:w1e->Nat->S.W}{g:List w1e->List w1e}(i:Nat):∀k,∃T,(w6 F w ρ g<|i+k).told=(w6 F w ρ g i).told++T
 | 0=>⟨[],by simp⟩
 | k+1=>by
  obtain⟨T,e⟩:=HP i k;show⟨T++Q6 F w ρ (w6 F w ρ g<|i+k).ks (w6 F w ρ g<|i+k).last,?_⟩;show(w6 F w ρ g<|i+k).told++Q6 F w ρ (w6 F w ρ g<|i+k).ks (w6 F w ρ g<|i+k).last=_;rw[e,ck]
def RI{l:w1e}{w:Nat}{ρ:w1e->Nat->S.W}:S4 F w ρ (gB l)=[]\/∃T,S4 F w ρ (gB l)=[]::T:=by
 have e1:(w6 F w ρ (gB l) 1).told=Q6 F w ρ [] [[]]:=rfl;have e2:Q6 F w ρ [] [[]]=[]\/Q6 F w ρ [] [[]]=[[]]:=by
  have:Q6 F w ρ [] ([]++[[]])=_:=FA (F:=F) (l:=w) (ρ:=ρ) (ks:=[]) (ws:=[]) (u:=[]);rw[dq]at this;rw[this];split
  . exact .inr rfl
  . exact .inl rfl
 rcases e2 with e2 | e2
 . left;have hl:(w6 F w ρ (gB l) 1).last=[]:=by show gB l (Q6 F w ρ [] [[]])=[];rw[e2];rfl
   rw[<- Fz LU hl,e1,e2]
 . right;obtain⟨T,e⟩:=HP (F:=F) (w:=w) (ρ:=ρ) (g:=gB l) 1 w;show⟨T,?_⟩;unfold S4;rw[Nat.add_comm w 1,e,e1,e2];rfl
def c0n{l:w1e}(nd:l.Nodup){w:Nat}{ρ:w1e->Nat->S.W}{v:w1e}{c:Nat}(hv:v∈S4 F w ρ (gB l))(hc:c∈l):(v++[c])∈S4 F w ρ (gB l)\/∃T T',S4 F w ρ (gB l)=T++T'/\(∀x∈T,GV l x (v++[c])=true)/\M1 S w T.length (V0<|T.map ρ) (ρ<|v++[c]):=by
 obtain⟨k,hk,e⟩:=Z0 hv;have hu:(v++[c])∈(w6 F w ρ (gB l)<|k+1).last:=dH.mpr ⟨v,e,aw.mpr ⟨c,hc,U⟩⟩;have iK:k+1<=w:=by
  by_cases z:k+1<=w
  . exact z
  . have:k+1=w+1:=by omega
    rw[this,HG LU]at hu;cases hu
 have lu:=(AJ M9 _ _ hu).1;obtain⟨pre,post,ep⟩:=List.append_of_mem hu;obtain⟨T1,et⟩:=HP (F:=F) (w:=w) (ρ:=ρ) (g:=gB l) (k+2)<|w+1 - (k+2);rw[show k+2+(w+1 - (k+2))=w+1 by omega]at et;have uy:(w6 F w ρ (gB l)<|k+2).told=(w6 F w ρ (gB l)<|k+1).told++Q6 F w ρ (w6 F w ρ (gB l)<|k+1).ks (pre++(v++[c])::post):=by rw[<- ep];rfl
 have KO:=RJ pre<|Dg (F:=F) (w:=w) (ρ:=ρ) (g:=gB l)<|k+1;have KK:Kp S w (AM F w ρ (w6 F w ρ (gB l)<|k+1).ks pre):=LY<|M4 _;have pw:=LM (F:=F) (w:=w) (ρ:=ρ) nd<|k+1;rw[ep]at pw;rw[Ma]at uy;have hf:Q6 F w ρ (AM F w ρ (w6 F w ρ (gB l)<|k+1).ks pre) ((v++[c])::post)=(if(X5 F w (AM F w ρ (w6 F w ρ (gB l)<|k+1).ks pre)<|ρ<|v++[c]).length≠(AM F w ρ (w6 F w ρ (gB l)<|k+1).ks pre).length then [v++[c]]else [])++Q6 F w ρ (X5 F w (AM F w ρ (w6 F w ρ (gB l)<|k+1).ks pre)<|ρ<|v++[c]) post:=by have h1:=Ma (F:=F) (w:=w) (ρ:=ρ) (a:=[v++[c]]) (b:=post) (ks:=AM F w ρ (w6 F w ρ (gB l)<|k+1).ks pre);have h2:=FA (F:=F) (l:=w) (ρ:=ρ) (ks:=AM F w ρ (w6 F w ρ (gB l)<|k+1).ks pre) (ws:=[]) (u:=v++[c]);rw[dq]at h2;rw[h2]at h1;exact h1
 by_cases g:(X5 F w (AM F w ρ (w6 F w ρ (gB l)<|k+1).ks pre)<|ρ<|v++[c]).length≠(AM F w ρ (w6 F w ρ (gB l)<|k+1).ks pre).length
 . left;show _∈(w6 F w ρ (gB l)<|w+1).told;rw[et,uy,hf,if_pos g];simp
 . right;have g:=Classical.not_not.mp g;have cl:FK F w (AM F w ρ (w6 F w ρ (gB l)<|k+1).ks pre) (ρ<|v++[c]):=by have:=LN (F:=F) (r:=ρ<|v++[c]) KK;rw[Ol g]at this;exact this
   show⟨(w6 F w ρ (gB l)<|k+1).told++Q6 F w ρ (w6 F w ρ (gB l)<|k+1).ks pre,Q6 F w ρ (AM F w ρ (w6 F w ρ (gB l)<|k+1).ks pre) ((v++[c])::post)++T1,?_,λx hx=>?_,FK.span KO cl⟩
   . show(w6 F w ρ (gB l)<|w+1).told=_;rw[et,uy];simp only[ck]
   . unfold GV;rcases av.mp hx with hx | hx
     . obtain⟨q,hq,e'⟩:=Z0 hx;have:=(AJ M9 q x<|R8 e').1;rw[if_neg Z];exact decide_eq_true Z
     . have hp:=R8 hx;have:=(AJ M9 (k+1) x<|by rw[ep];exact bc _ hp).1;rw[if_pos Z];exact(dj.mp pw).2.2 x hp _ (ax ..)
def b0q{l:w1e}{w k:Nat}{st e0:QQ S}{tc C:FF S}{r:F0 S}(h0:∀j,j < w->st j=lin S e0 r k j)(hC:∀c∈l,∀i,i < k->∀j,j < w->Hx S w (tc c) (r i) j=lin S (C c i) r k j):∀u,AL l u->∀j,j < w->h8 S w st tc u j=lin S (h8 S k e0 C u) r k j:=by
 have eJ:∀m (u:w1e),u.length=m->AL l u->∀j,j < w->h8 S w st tc u j=lin S (h8 S k e0 C u) r k j:=by
  intro m
  induction m with
  | zero=>intro u e _;rw[bh.mp e];exact h0
  | succ m ih=>
   intro u e al j hj;have ne:u≠[]:=λz=>by rw[z]at e;cases e
   have hc:u.getLast ne∈l:=al _<|dF ne;have ih':=ih u.dropLast (by rw[cX];omega) λd hd=>al d<|dE _ hd;rw[<- cW ne,x4,x4];show B7 S _ _ w=_;rw[I0 ih',P6];show _=lin S (λq=>sm S (λi=>S.mul (h8 S k e0 C u.dropLast i)<|C (u.getLast ne) i q) k) r k j;rw[<- LK];exact j6 λi hi=>by
    rw[<- hC _ hc i hi j hj];rfl
 exact λu=>eJ _ u rfl
def o0w{l:w1e}{w k:Nat}{st e0 en E:QQ S}{tc C:FF S}{r:F0 S}(h0:∀j,j < w->st j=lin S e0 r k j)(hC:∀c∈l,∀i,i < k->∀j,j < w->Hx S w (tc c) (r i) j=lin S (C c i) r k j)(hE:∀i,i < k->E i=B7 S (r i) en w)(u:w1e)(hu:AL l u):B7 S (h8 S k e0 C u) E k=B7 S (h8 S w st tc u) en w:=by rw[I0<|b0q h0 hC u hu,P6];exact j6 λi hi=>by rw[hE i hi]
def PU{l:w1e}{n:Nat}{st:QQ S}{tb:FF S}{en:QQ S}{es:w1a S}(N:BO F l n en (W7 tb) es)(u:w1e)(hu:AL l u):B7 S (h8 S es.length (Kl n es st) (w5 l<|W7<|Hd n es<|W7 tb) u) (Vt es en) es.length=B7 S (h8 S n st (w5 l tb) u) en n:=by
 have hp:=N.ech.parts (N.all [] λd hd=>nomatch hd);have hp:∀j,j < n->en j=lin S (λi=>en<|Rx es i) (kv es) es.length j:=hp;rw[Er hp,Bc<|h8 S n st (w5 l tb) u,P6];exact j6 λi hi=>by
  rw[N.rowT u hu i hi,S.mul_comm];rfl
end
section
variable{S:SR}{F:M0 S}{C:Cb S}
theorem LZ{A:w1e->Prop}{w w':Nat}{ρ h:w1e->Nat->S.W}(T:d0a F A w w' ρ h):∀(ws:List w1e) (ks lF:w1a S) (td:List w1e),(∀u∈ws,A u)->(∀u∈td,A u)->Bf F w ρ ks td->Bf F w' h lF td->Q6 F w ρ ks ws=Q6 F w' h lF ws
 | [],_,_,_,_,_,_,_=>rfl
 | u::ws,ks,lF,td,hw,ht,k1,k2=>by
  have hu:=hw u<|ax ..;have vK:∀v∈ws,A v:=λv hv=>hw v<|aA _ hv;have g:=T.grow k1 k2 ht u hu;have s1:=k1.step u;have s2:=k2.step u;show(if _ then _ else _)++Q6 F w ρ _ ws=(if _ then _ else _)++Q6 F w' h _ ws;by_cases e:(X5 F w ks<|ρ u).length≠ks.length
  . have e':=g.mp e;rw[if_pos e]at s1 ⊢;rw[if_pos e']at s2 ⊢;rw[LZ T ws _ _ _ vK (λv hv=>by
     rcases av.mp hv with hv | hv
     . exact ht v hv
     . rw[ar.mp hv];exact hu) s1 s2]
  . have e':=λz=>e<|g.mpr z;rw[if_neg e]at s1 ⊢;rw[if_neg e']at s2 ⊢;rw[bw]at s1 s2;rw[LZ T ws _ _ _ vK ht s1 s2]
def Wd{l:w1e}{w w':Nat}{ρ h:w1e->Nat->S.W}{g:List w1e->List w1e}(G:Gw l g)(T:d0a F (AL l) w w' ρ h):S4 F w ρ g=S4 F w' h g:=by
 have eJ:∀i,(w6 F w ρ g i).told=(w6 F w' h g i).told/\(w6 F w ρ g i).last=(w6 F w' h g i).last:=by
  intro i
  induction i with
  | zero=>exact⟨U,U⟩
  | succ i ih=>
   have k1:=Dg (F:=F) (w:=w) (ρ:=ρ) (g:=g) i;have k2:=Dg (F:=F) (w:=w') (ρ:=h) (g:=g) i;rw[<- ih.1]at k2;have e:=LZ T (w6 F w ρ g i).last _ _ _ (λu hu=>(AJ G i u hu).2) (λu hu=>(GA G i u hu).2) k1 k2;show _++Q6 F w ρ _ _=_++Q6 F w' h _ _/\g (Q6 F w ρ _ _)=g (Q6 F w' h _ _);rw[e,ih.1,ih.2];exact⟨U,U⟩
 have e:=HG (F:=F) (l:=w) (ρ:=ρ) (g:=g) G.1;have k:=eJ<|w+1;rw[e]at k;exact k.1.trans (Fz G.1 k.2.symm)
def D9(S:SR)(l:w1e)(n:Nat)(st:QQ S)(tb:FF S)(en:QQ S)(u:w1e):S.W:=B7 S (h8 S n st (w5 l tb) u) en n
theorem p0t{n:Nat}{tc:FF S}{en:QQ S}:∀(v:w1e) (x:QQ S),B7 S (h8 S n x tc v) en n=B7 S x (BM S n tc en v) n
 | [],_=>rfl
 | c::v,x=>(p0t v<|Hx S n (tc c) x).trans Mg
def WB{n:Nat}{st:QQ S}{tc:FF S}{en:QQ S}(u v:w1e):B7 S (h8 S n st tc<|u++v) en n=B7 S (h8 S n st tc u) (BM S n tc en v) n:=by have:h8 S n st tc (u++v)=h8 S n (h8 S n st tc u) tc v:=cV;rw[this,p0t]
def Bz{l u v:w1e}(h:AL l u)(g:AL l v):AL l (u++v):=λd hd=>by
 rcases av.mp hd with hd | hd
 . exact h d hd
 . exact g d hd
def F4{ws:List w1e}{k:Nat}(h:k < ws.length):ws.getD k []∈ws:=by rw[aU,ah h];exact aG h
noncomputable abbrev Kj{S:SR}(l:w1e)(n:Nat)(es:w1a S)(st:QQ S)(tb:FF S):w1e->Nat->S.W:=h8 S es.length (Kl n es st) (w5 l<|W7<|Hd n es<|W7 tb)
section
variable{l:w1e}{n:Nat}{st:QQ S}{tb:FF S}{en:QQ S}{es:w1a S}{ws:List w1e}{c:QQ S}
def BO.cutN(N:BO F l n en (W7 tb) es){u v:w1e}(hu:AL l u)(hv:AL l v):D9 S l n st tb en (u++v)=B7 S (Kj l n es st tb u) (BM S es.length (w5 l<|W7<|Hd n es<|W7 tb) (Vt es en) v) es.length:=by rw[<- WB,PU N _<|Bz hu hv];rfl
def BO.smw(N:BO F l n en (W7 tb) es)(hw:∀u∈ws,AL l u){v:w1e}(hv:AL l v):sm S (λk=>S.mul (c k)<|D9 S l n st tb en<|ws.getD k []++v) ws.length=B7 S (lin S c (V0<|ws.map<|Kj l n es st tb) ws.length) (BM S es.length (w5 l<|W7<|Hd n es<|W7 tb) (Vt es en) v) es.length:=by rw[P6];exact j6 λk hk=>by rw[FD [] hk,N.cutN (hw _<|F4 hk) hv]
def BO.fwd(N:BO F l n en (W7 tb) es)(hw:∀u∈ws,AL l u)(h:∀i,i < es.length->lin S c (V0<|ws.map<|Kj l n es st tb) ws.length i=S.zero){v:w1e}(hv:AL l v):sm S (λk=>S.mul (c k)<|D9 S l n st tb en<|ws.getD k []++v) ws.length=S.zero:=by rw[N.smw hw hv,I0 h];unfold B7;rw[j6 (g:=λ_=>S.zero) λi _=>Bw _,F2]
def BO.spread(N:BO F l n en (W7 tb) es)(hw:∀u∈ws,AL l u){u:w1e}(hu:AL l u)(h:∀i,i < es.length->Kj l n es st tb u i=lin S c (V0<|ws.map<|Kj l n es st tb) ws.length i){v:w1e}(hv:AL l v):D9 S l n st tb en (u++v)=sm S (λk=>S.mul (c k)<|D9 S l n st tb en<|ws.getD k []++v) ws.length:=by rw[N.smw hw hv,N.cutN hu hv,I0 h]
def BO.back(N:BO F l n en (W7 tb) es)(hw:∀u∈ws,AL l u)(h:∀v,AL l v->v.length<=n - 1->sm S (λk=>S.mul (c k)<|D9 S l n st tb en<|ws.getD k []++v) ws.length=S.zero):∀i,i < es.length->lin S c (V0<|ws.map<|Kj l n es st tb) ws.length i=S.zero:=λi hi=>by
 have e1:lin S c (V0<|ws.map<|Kj l n es st tb) ws.length i=B7 S (lin S c (λk=>h8 S n st (w5 l tb)<|ws.getD k []) ws.length) (kv es i) n:=by rw[P6];exact j6 λk hk=>by rw[FD [] hk,show Kj l n es st tb (ws.getD k []) i=_ from N.rowT _ (hw _<|F4 hk) i hi,Bc]
 obtain⟨d,hd⟩:=N.few i hi;rw[e1,Er hd,Bc,P6];rw[j6 (g:=λ_=>S.zero) λq hq=>?_,F2];have up:=X7 _ _<|LS hq;have:=h _ (QK up.2) (by rw[List.length_reverse];exact up.1);rw[FD [] hq,b0p,Bc,P6];have e2:sm S (λk=>S.mul (c k)<|B7 S (h8 S n st (w5 l tb)<|ws.getD k []) (BM S n (w5 l tb) en ((J1 l<|n - 1).getD q []).reverse) n) ws.length=S.zero:=by rw[<- this];exact j6 λk hk=>by rw[<- WB];rfl
 rw[e2,S.mul_zero]
end
section
variable{l:w1e}{n n':Nat}{st st':QQ S}{tb tb':FF S}{en en':QQ S}{es fm:w1a S}
def d0w(N:BO F l n en (W7 tb) es)(N':BO F l n' en' (W7 tb') fm)(h:∀u,AL l u->D9 S l n st tb en u=D9 S l n' st' tb' en' u){ws:List w1e}(ha:∀u∈ws,AL l u)(I:JV S es.length ws.length (V0<|ws.map<|Kj l n es st tb)):JV S fm.length ws.length (V0<|ws.map<|Kj l n' fm st' tb'):=λc hc=>I c (N.back ha λv hv _=>by
 rw[<- N'.fwd ha hc hv];exact j6 λk hk=>by rw[h _<|Bz (ha _<|F4 hk) hv])
def Up(N:BO F l n en (W7 tb) es)(N':BO F l n' en' (W7 tb') fm)(h:∀u,AL l u->D9 S l n st tb en u=D9 S l n' st' tb' en' u):d0a F (AL l) es.length fm.length (Kj l n es st tb) (Kj l n' fm st' tb'):=λ_ ha=>⟨d0w N N' h ha,d0w N' N (λu hu=>(h u hu).symm) ha⟩
def YE(N:BO F l n en (W7 tb) es)(N':BO F l n' en' (W7 tb') fm)(h:∀u,AL l u->D9 S l n st tb en u=D9 S l n' st' tb' en' u){ws:List w1e}(ha:∀u∈ws,AL l u)(I:JV S es.length ws.length (V0<|ws.map<|Kj l n es st tb)){u:w1e}(hu:AL l u){c c':QQ S}
    (hc:∀i,i < es.length->Kj l n es st tb u i=lin S c (V0<|ws.map<|Kj l n es st tb) ws.length i) (gO:∀i,i < fm.length->Kj l n' fm st' tb' u i=lin S c' (V0<|ws.map<|Kj l n' fm st' tb') ws.length i):∀k,k < ws.length->c k=c' k:=λk hk=>by
 show p0p (F:=F)<|I (λk=>S.add (c k)<|F.neg<|c' k) (N.back ha λv hv _=>?_) k hk;have e1:=N.spread ha hu hc hv;have e2:=N'.spread ha hu gO hv;have e3:sm S (λk=>S.mul (c' k)<|D9 S l n' st' tb' en'<|ws.getD k []++v) ws.length=sm S (λk=>S.mul (c' k)<|D9 S l n st tb en<|ws.getD k []++v) ws.length:=j6 λk hk=>by rw[h _<|Bz (ha _<|F4 hk) hv]
 have a:=HE (λk=>c k) (λk=>F.neg<|c' k) (λk (_:Nat)=>D9 S l n st tb en<|ws.getD k []++v) ws.length 0;have b:=Rw F c' (λk (_:Nat)=>D9 S l n st tb en<|ws.getD k []++v) ws.length 0;show Eq.trans a ?_;rw[b];show S.add (sm S _ _) (F.neg<|sm S _ _)=_;rw[<- e1,<- e3,<- e2,h _<|Bz hu hv,F.add_neg]
def S6(S:SR)(n:Nat)(x y:QQ S):QQ S:=λj=>if j < n then x j else y (j - n)
end
section
variable{l:w1e}{n:Nat}{st st':QQ S}{tb tb':FF S}{en en':QQ S}
def Mx(e:(∀i,i < n->st' i=st i)/\(∀c,c < l.length->∀i,i < n->∀j,j < n->tb' c i j=tb c i j))
    (g:(∀c,c < l.length->∀j,j < n->tb' c n j=S.zero)\/(st' n=S.zero/\∀c,c < l.length->∀i,i < n->tb' c i n=S.zero)):∀u,AL l u->(∀i,i < n->h8 S (n+1) st' (w5 l tb') u i=h8 S n st (w5 l tb) u i)/\((∀c,c < l.length->∀j,j < n->tb' c n j=S.zero)\/h8 S (n+1) st' (w5 l tb') u n=S.zero):=by
 show(EB (l:=l)).ind _ ⟨e.1,g.imp id And.left⟩ λc u hc hu ih=>?_;have hx:l.idxOf c < l.length:=cu.mpr hc;rw[x4,x4];have eq:∀j,j < n->Hx S (n+1) (w5 l tb' c) (h8 S (n+1) st' (w5 l tb') u) j=S.add (Hx S n (w5 l tb c) (h8 S n st (w5 l tb) u) j) (S.mul (h8 S (n+1) st' (w5 l tb') u n)<|tb' (l.idxOf c) n j):=λj hj=>by
  show S.add (sm S _ n) _=S.add (sm S _ n) _;congr 1;exact j6 λi hi=>by
   rw[ih.1 i hi];show S.mul _ (tb' (l.idxOf c) i j)=S.mul _ (tb (l.idxOf c) i j);rw[e.2 _ hx i hi j hj]
 rcases ih.2 with z | z
 . exact⟨λj hj=>by rw[eq j hj,z _ hx j hj,S.mul_zero,S.add_zero],.inl z⟩
 . show⟨λj hj=>by rw[eq j hj,z,Bw,S.add_zero],?_⟩;rcases g with g | g
   . exact .inl g
   . right;show S.add (sm S (λi=>S.mul (h8 S (n+1) st' (w5 l tb') u i)<|tb' (l.idxOf c) i n) n) (S.mul (h8 S (n+1) st' (w5 l tb') u n) _)=_;rw[z,Bw,S.add_zero,j6 (g:=λ_=>S.zero) λi hi=>by rw[g.2 _ hx i hi,S.mul_zero],F2]
def WW(e:(∀i,i < n->st' i=st i)/\(∀c,c < l.length->∀i,i < n->∀j,j < n->tb' c i j=tb c i j)/\∀i,i < n->en' i=en i)
    (g:(en' n=S.zero/\∀c,c < l.length->∀j,j < n->tb' c n j=S.zero)\/(st' n=S.zero/\∀c,c < l.length->∀i,i < n->tb' c i n=S.zero)) (u:w1e) (hu:AL l u):D9 S l (n+1) st' tb' en' u=D9 S l n st tb en u:=by
 have d:D9 S l (n+1) st' tb' en' u=S.add (B7 S (h8 S (n+1) st' (w5 l tb') u) en' n) (S.mul (h8 S (n+1) st' (w5 l tb') u n)<|en' n):=rfl;have f:(∀i,i < n->h8 S (n+1) st' (w5 l tb') u i=h8 S n st (w5 l tb) u i)->B7 S (h8 S (n+1) st' (w5 l tb') u) en' n=D9 S l n st tb en u:=λa=>j6 λi hi=>by rw[a i hi,e.2.2 i hi]
 rcases g with g | g
 . have a:=(Mx (S:=S) ⟨e.1,e.2.1⟩ (.inl g.2) u hu).1;rw[d,g.1,S.mul_zero,S.add_zero,f a]
 . rcases Mx (S:=S) ⟨e.1,e.2.1⟩ (.inr g) u hu with ⟨a,b | b⟩
   . have r0:h8 S (n+1) st' (w5 l tb') u n=S.zero:=by
      have eJ:∀u,AL l u->h8 S (n+1) st' (w5 l tb') u n=S.zero:=by show(EB (l:=l)).ind _ g.1 λc u hc hu ih=>?_;have hx:l.idxOf c < l.length:=cu.mpr hc;rw[x4];show S.add (sm S (λi=>S.mul (h8 S (n+1) st' (w5 l tb') u i)<|tb' (l.idxOf c) i n) n) (S.mul (h8 S (n+1) st' (w5 l tb') u n) _)=_;rw[ih,Bw,S.add_zero,j6 (g:=λ_=>S.zero) λi hi=>by rw[g.2 _ hx i hi,S.mul_zero],F2]
      exact eJ u hu
     rw[d,r0,Bw,S.add_zero,f a]
   . rw[d,b,Bw,S.add_zero,f a]
end
end
section
variable{S:SR}{F:M0 S}{C:Cb S}
def c0w{l:w1e}{n b m:Nat}{st:QQ S}{tb:FF S}(b0:0 < b)(h1:∀i,i < n->C.cb b m (st i))(h2:∀a,a < l.length->∀i,i < n->∀j,j < n->C.cb b m (tb a i j)):∀u,AL l u->∀j,j < n->C.cb (b ^ (u.length+1)) (n ^ u.length * m ^ (u.length+1)) (h8 S n st (w5 l tb) u j):=by
 show(EB (l:=l)).ind _ (λj hj=>?_) λc u hc hu ih j hj=>?_
 . show C.cb (b ^ (0+1)) (n ^ 0 * m ^ (0+1))<|st j;simpa using h1 j hj
 . have hx:l.idxOf c < l.length:=cu.mpr hc;rw[x4,aq];have:=Es (C:=C) (cf (n:=u.length+1) b0) b0 ih (λi hi=>h2 _ hx i hi j hj) n<|ae _;show C.cb (b ^ (u.length+1+1)) (n ^ (u.length+1) * m ^ (u.length+1+1)) _;rw[ba b,ba n,ba m];show C.mono _ _ _ _ (dc ?_) this;ac_rfl
def p0w{l:w1e}{n b m:Nat}{st:QQ S}{tb:FF S}{en:QQ S}(b0:0 < b)(h1:∀i,i < n->C.cb b m (st i))(h2:∀a,a < l.length->∀i,i < n->∀j,j < n->C.cb b m (tb a i j))(h3:∀i,i < n->C.cb b m (en i))(u:w1e)(hu:AL l u):C.cb (b ^ (u.length+2)) (n ^ (u.length+1) * m ^ (u.length+2)) (D9 S l n st tb en u):=by have:=Es (C:=C) (cf (n:=u.length+1) b0) b0 (c0w b0 h1 h2 u hu) h3 n<|ae _;rw[ba b,ba n,ba m];show C.mono _ _ _ _ (dc ?_) this;ac_rfl
def c0v{l:w1e}{n b m:Nat}{st:QQ S}{tb:FF S}{en:QQ S}(b0:0 < b)(h1:∀i,i < n->C.cb b m (st i))(h2:∀a,a < l.length->∀i,i < n->∀j,j < n->C.cb b m (tb a i j))(h3:∀i,i < n->C.cb b m (en i))(n2:n<=2)(bm:b<=m)(u:w1e)(hu:AL l u)(ul:u.length<=3):C.cb (b ^ 5) (16 * m ^ 5) (D9 S l n st tb en u):=by
 have h:=C.up _ _ (b ^ (3 - u.length)) _ (cf b0)<|p0w b0 h1 h2 h3 u hu;rw[<- aV,show u.length+2+(3 - u.length)=5 by omega]at h;show C.mono _ _ _ _ ?_ h;have e1:n ^ (u.length+1)<=16:=af (bS n2 _) (af (cg bD<|show u.length+1<=4 by omega) bD);have e2:m ^ (u.length+2) * b ^ (3 - u.length)<=m ^ 5:=by have:=aD (m ^ (u.length+2))<|bS bm<|3 - u.length;rwa [<- aV,show u.length+2+(3 - u.length)=5 by omega]at this
 rw[bQ];exact aM e1 e2
def min1{W:Nat}{X:F0 S}(I:JV S W 1 X):∃j,j < W/\X 0 j≠S.zero:=Classical.byContradiction λh=>by
 have:=I (λ_=>S.one) (λj hj=>by
  show S.add S.zero (S.mul S.one<|X 0 j)=_;rw[CN,Ho];exact Classical.byContradiction λz=>h ⟨j,hj,z⟩) 0 bD
 exact Wq this
def min2(F:M0 S){W:Nat}{X:F0 S}(I:JV S W 2 X):∃i j,i < W/\j < W/\S.add (S.mul (X 0 i)<|X 1 j) (F.neg<|S.mul (X 0 j)<|X 1 i)≠S.zero:=Classical.byContradiction λh=>by
 have all:∀i,i < W->X 0 i=S.zero:=λi hi=>by
  have:=I (λk=>if k=0 then F.neg (X 1 i)else X 0 i) (λj hj=>by
   show S.add (S.add S.zero<|S.mul (F.neg<|X 1 i)<|X 0 j) (S.mul (X 0 i)<|X 1 j)=_;rw[CN,IL,S.mul_comm<|X 1 i,S.add_comm];exact Classical.byContradiction λz=>h ⟨i,j,hi,hj,z⟩) 1 bD
  exact this
 have:=I (λk=>if k=0 then S.one else S.zero) (λj hj=>by
  show S.add (S.add S.zero<|S.mul S.one<|X 0 j) (S.mul S.zero<|X 1 j)=_;rw[CN,Ho,Bw,S.add_zero,all j hj]) 0 bD
 exact Wq this
def MK(F:M0 S)(a b c:S.W):S.add (S.add a b) (F.neg<|S.add c b)=S.add a (F.neg c):=by rw[Wr,Ws,F.add_neg,S.add_zero]
def p0u(F:M0 S){k W B t β:Nat}(k2:k<=2)(B0:0 < B){X Y Cf:F0 S}(I:JV S W k X)(cx:∀q,q < k->∀j,j < W->C.cb B t (X q j))(cy:∀i,i < k->∀j,j < W->C.cb B t (Y i j))(hc:∀i,i < k->∀j,j < W->Y i j=lin S (Cf i) X k j)(hβ:t * t+t * t<=2 ^ β):TB C k k β β Cf:=by
 have t2:max 1 (t * t+t * t)<=2 ^ β:=Nat.max_le.mpr ⟨cq,hβ⟩;have t1:t<=t * t+t * t:=by
  rcases Nat.eq_zero_or_pos t with e | e
  . rw[e];exact aP _
  . exact af (dm t e) (bW ..)
 rcases(by omega:k=0\/k=1\/k=2)with rfl | rfl | rfl
 . exact⟨1,bD,cq,λi hi=>absurd hi<|cn _⟩
 . obtain⟨j,hj,nz⟩:=min1 I;obtain⟨d,d0,d1,hd⟩:=C.div B t _ (F.inv<|X 0 j) (F.mul_inv _ nz)<|cx 0 bD j hj;show⟨d,d0,af d1<|af (Nat.max_le.mpr ⟨Nat.le_max_left ..,af t1<|Nat.le_max_right ..⟩) t2,λi hi q hq=>?_⟩;obtain rfl:i=0:=by omega
   obtain rfl:q=0:=by omega
   have e:S.mul (F.inv<|X 0 j) (Y 0 j)=Cf 0 0:=by rw[hc 0 bD j hj];show S.mul _ (S.add S.zero<|S.mul (Cf 0 0)<|X 0 j)=_;rw[CN,S.mul_comm<|Cf 0 0,<- S.mul_assoc,S.mul_comm<|F.inv _,F.mul_inv _ nz,Ho]
   rw[<- e];exact C.mono _ _ _ _ (af t1 hβ) (hd _ _<|cy 0 bD j hj)
 . obtain⟨i,j,hi,hj,nz⟩:=min2 F I;have mm:∀{a b c d:S.W},C.cb B t a->C.cb B t b->C.cb B t c->C.cb B t d->C.cb (B * B) (t * t+t * t) (S.add (S.mul a b)<|F.neg<|S.mul c d):=λha hb hc hd=>C.add _ _ _ _ _ (C.mul _ _ _ _ _ _ ha hb)<|C.neg _ _ _ _ (F.add_neg _)<|C.mul _ _ _ _ _ _ hc hd;have uT:=cx 0 bD i hi;have uS:=cx 0 bD j hj;have uR:=cx 1 bD i hi;have uQ:=cx 1 bD j hj;obtain⟨d,d0,d1,hd⟩:=C.div (B * B) _ _ _ (F.mul_inv _ nz)<|mm uT uQ uS uR;show⟨d,d0,af d1 t2,λr hr q hq=>?_⟩;have yi:=cy r hr i hi;have yj:=cy r hr j hj;have ei:Y r i=S.add (S.mul (Cf r 0)<|X 0 i) (S.mul (Cf r 1)<|X 1 i):=(hc r hr i hi).trans (by show S.add (S.add S.zero _) _=_;rw[CN]);have ej:Y r j=S.add (S.mul (Cf r 0)<|X 0 j) (S.mul (Cf r 1)<|X 1 j):=(hc r hr j hj).trans (by show S.add (S.add S.zero _) _=_;rw[CN]);have yH:∀{D N c:S.W},D≠S.zero->N=S.mul c D->S.mul (F.inv D) N=c:=λ{D N c} nz e=>by
    rw[e,S.mul_comm c,<- S.mul_assoc,S.mul_comm<|F.inv _,F.mul_inv _ nz,Ho]
   rcases(by omega:q=0\/q=1)with rfl | rfl
   . have e:S.add (S.mul (Y r i)<|X 1 j) (F.neg<|S.mul (Y r j)<|X 1 i)=S.mul (Cf r 0) (S.add (S.mul (X 0 i)<|X 1 j)<|F.neg<|S.mul (X 0 j)<|X 1 i):=by rw[ei,ej,Ov,Ov,S.mul_assoc,S.mul_assoc,S.mul_assoc,S.mul_assoc,S.mul_comm (X 1 j)<|X 1 i,MK,S.distrib,QA]
     rw[<- yH nz e];exact C.mono _ _ _ _ hβ (hd _ _<|mm yi uQ yj uR)
   . have e:S.add (S.mul (Y r j)<|X 0 i) (F.neg<|S.mul (Y r i)<|X 0 j)=S.mul (Cf r 1) (S.add (S.mul (X 0 i)<|X 1 j)<|F.neg<|S.mul (X 0 j)<|X 1 i):=by rw[ei,ej,Ov,Ov,S.mul_assoc,S.mul_assoc,S.mul_assoc,S.mul_assoc,S.mul_comm (X 0 j)<|X 0 i,S.add_comm<|S.mul (Cf r 0) _,S.add_comm<|S.mul (Cf r 0) _,MK,S.distrib,QA,S.mul_comm<|X 1 j,S.mul_comm<|X 1 i]
     rw[<- yH nz e];exact C.mono _ _ _ _ hβ (hd _ _<|mm yj uT yi uS)
end
section
variable{S:SR}{F:M0 S}{C:Cb S}
theorem Kn{l:w1e}:∀{u v x:w1e},Je l u v=true->Je l v x=true->Je l u x=true
 | [],_,_,h,_=>by simp[Je]at h
 | _::_,[],_,h,_=>by simp[Je]at h
 | _::_,_::_,[],_,h=>by simp[Je]at h
 | a::u,b::v,c::x,h,g=>by
  unfold Je at h g ⊢;by_cases e1:a=b
  . subst e1;rw[if_pos rfl]at h;by_cases e2:a=c
    . rw[if_pos e2]at g ⊢;exact Kn h g
    . rw[if_neg e2]at g ⊢;exact g
  . rw[if_neg e1]at h;by_cases e2:b=c
    . subst e2;rw[if_neg e1];exact h
    . rw[if_neg e2]at g;have h1:=of_decide_eq_true h;have h2:=of_decide_eq_true g;rw[if_neg<|λz=>by rw[z]at h1;omega];exact decide_eq_true Z
def GD{l u v x:w1e}(h:GV l u v=true)(g:GV l v x=true):GV l u x=true:=by
 unfold GV at h g ⊢;by_cases e1:u.length=v.length
 . rw[if_pos e1]at h;by_cases e2:v.length=x.length
   . rw[if_pos e2]at g;rw[if_pos Z];exact Kn h g
   . rw[if_neg e2]at g;have:=of_decide_eq_true g;rw[if_neg Z];exact decide_eq_true Z
 . rw[if_neg e1]at h;have h1:=of_decide_eq_true h;have g1:v.length<=x.length:=by
    by_cases e2:v.length=x.length
    . omega
    . rw[if_neg e2]at g;have:=of_decide_eq_true g;omega
   rw[if_neg Z];exact decide_eq_true Z
def Se{l u:w1e}:GV l u u=false:=by unfold GV;rw[if_pos U,NO]
def WG{l u v:w1e}{c:Nat}(h:GV l u v=true):GV l (u++[c]) (v++[c])=true:=by
 unfold GV at h ⊢;rw[aq,aq];by_cases e:u.length=v.length
 . rw[if_pos e]at h;rw[if_pos Z];exact Lv _ _ e h
 . rw[if_neg e]at h;have:=of_decide_eq_true h;rw[if_neg Z];exact decide_eq_true Z
def CO{w m:Nat}{vs:F0 S}{u y:QQ S}(h:M1 S w m vs u)(z:∀k,k < m->B7 S (vs k) y w=S.zero):B7 S u y w=S.zero:=by obtain⟨c,hc⟩:=h;rw[I0 hc,P6,j6 (g:=λ_=>S.zero) λk hk=>by rw[z k hk,S.mul_zero],F2]
def Vo{l:w1e}(nd:l.Nodup){n:Nat}{st:QQ S}{tb:FF S}:∀u,AL l u->∀y,(∀w∈S4 F n (h8 S n st<|w5 l tb) (gB l),(w=u\/GV l w u=true)->B7 S (h8 S n st (w5 l tb) w) y n=S.zero)->B7 S (h8 S n st (w5 l tb) u) y n=S.zero:=by
 show(EB (l:=l)).ind _ (λy h=>?_) λc u hc hu ih y h=>?_
 . have sp:=Gz (F:=F) (l:=l) (w:=n) (ρ:=h8 S n st<|w5 l tb) (L:=λc=>Hx S n<|w5 l tb c) EB (λc _=>CF) (λc u _ j _=>by rw[x4]) [] (λd hd=>nomatch hd);rcases RI (F:=F) (l:=l) (w:=n) (ρ:=h8 S n st<|w5 l tb)with e | ⟨T,e⟩
   . rw[e]at sp;exact CO sp λk hk=>absurd hk (cn _)
   . exact h [] (by rw[e];exact ax ..) (.inl U)
 . rw[x4,Mg];show ih _ λw hw hb=>?_;rw[<- Mg,<- x4];have eJ:(w++[c]=u++[c])\/GV l (w++[c]) (u++[c])=true:=by
    rcases hb with rfl | hb
    . exact .inl rfl
    . exact .inr (WG hb)
   rcases c0n nd hw hc with h1 | ⟨T,T',e,hT,sp⟩
   . exact h _ h1 eJ
   . show CO sp λk hk=>?_;have hx:=F4 hk;rw[FD [] hk];show h _ (by rw[e];exact bc _ hx)<|.inr ?_;have b:=hT _ hx;rcases eJ with e' | k'
     . rw[<- e'];exact b
     . exact GD b k'
open Classical in
noncomputable def GJ(D:w1e->S.W)(ws:List w1e):List w1e:=ws.filter λu=>decide (D u≠S.zero)
def Ro{D:w1e->S.W}{ws:List w1e}:(GJ D ws).length<=ws.length:=List.length_filter_le _ _
def EZ{D:w1e->S.W}{ws:List w1e}{u:w1e}:u∈GJ D ws↔u∈ws/\D u≠S.zero:=by unfold GJ;rw[cZ];simp
def EY{D:w1e->S.W}{ws:List w1e}:GJ D ws=[]↔∀u∈ws,D u=S.zero:=by rw[List.eq_nil_iff_forall_not_mem];exact⟨λh u hu=>Classical.byContradiction λn=>h u<|EZ.mpr ⟨hu,n⟩,λh u hu=>(EZ.mp hu).2<|h u (EZ.mp hu).1⟩
def a0h{D:w1e->S.W}{ws:List w1e}{u:w1e}{j:Nat}(h:ws[j]? = some u)(e:D u=S.zero):GJ D (ws.take<|j+1)=GJ D (ws.take j):=by unfold GJ;rw[L4 h,List.filter_append];simp[e]
def XJ{D:w1e->S.W}{ws:List w1e}{u:w1e}{j:Nat}(h:ws[j]? = some u)(e:D u≠S.zero):GJ D (ws.take<|j+1)=GJ D (ws.take j)++[u]:=by unfold GJ;rw[L4 h,List.filter_append];simp[e]
noncomputable def gP(l:w1e)(D:w1e->S.W)(ws:List w1e):List w1e:=if(GJ D ws).length=0 then gB l ws else []
def GR{l:w1e}{D:w1e->S.W}:Gw l (gP l D):=by
 show⟨?_,λws i h u hu=>?_⟩
 . unfold gP;split <;>rfl
 . unfold gP at hu;split at hu
   . exact M9.2 ws i h u hu
   . cases hu
section
variable{l:w1e}{n:Nat}{ρ:w1e->Nat->S.W}{D:w1e->S.W}
theorem HI:∀i,(∀u∈(w6 F n ρ (gP l D) i).told,D u=S.zero)->w6 F n ρ (gP l D) i=w6 F n ρ (gB l) i
 | 0,_=>rfl
 | i+1,h=>by
  have h0:∀u∈(w6 F n ρ (gP l D) i).told,D u=S.zero:=λu hu=>h u<|bc _ hu;have e:=HI i h0;have hf:GJ D (Q6 F n ρ (w6 F n ρ (gP l D) i).ks (w6 F n ρ (gP l D) i).last)=[]:=EY.mpr λu hu=>h u<|aK _ hu;have eg:gP l D (Q6 F n ρ (w6 F n ρ (gP l D) i).ks (w6 F n ρ (gP l D) i).last)=gB l (Q6 F n ρ (w6 F n ρ (gP l D) i).ks (w6 F n ρ (gP l D) i).last):=if_pos (by rw[hf];rfl);show(⟨_,_,gP l D _⟩:d0g S)=⟨_,_,gB l _⟩;rw[eg,e]
theorem QX(nd:l.Nodup):∀i,(w6 F n ρ (gB l) i).told.Pairwise (λu v=>GV l u v=true)/\∀u∈(w6 F n ρ (gB l) i).told,u.length < i
 | 0=>⟨.nil,λu hu=>nomatch hu⟩
 | i+1=>by
  obtain⟨h1,h2⟩:=QX nd i;have fl:∀u∈Q6 F n ρ (w6 F n ρ (gB l) i).ks (w6 F n ρ (gB l) i).last,u.length=i:=λu hu=>(AJ M9 i u<|R8 hu).1;show⟨dj.mpr ⟨h1,?_,λu hu v hv=>?_⟩,λu hu=>?_⟩
  . show((LM nd i).sublist Ax).imp_of_mem λ{u v} hu hv z=>?_;unfold GV;rw[if_pos<|by rw[fl u hu,fl v hv]];exact z
  . have a:=h2 u hu;have b:=fl v hv;unfold GV;rw[if_neg Z];exact decide_eq_true Z
  . rcases av.mp hu with hu | hu
    . have:=h2 u hu;omega
    . have:=fl u hu;omega
theorem JZ:∀i k,∃T,(w6 F n ρ (gB l)<|i+k).told=(w6 F n ρ (gB l) i).told++T/\∀u∈T,i<=u.length
 | i,0=>⟨[],by simp,λu hu=>nomatch hu⟩
 | i,k+1=>by
  obtain⟨T,e,h⟩:=JZ i k;show⟨T++Q6 F n ρ (w6 F n ρ (gB l)<|i+k).ks (w6 F n ρ (gB l)<|i+k).last,?_,λu hu=>?_⟩
  . show(w6 F n ρ (gB l)<|i+k).told++Q6 F n ρ (w6 F n ρ (gB l)<|i+k).ks (w6 F n ρ (gB l)<|i+k).last=_;rw[e,ck]
  . rcases av.mp hu with hu | hu
    . exact h u hu
    . have:=(AJ M9 (i+k) u<|R8 hu).1;omega
end
section
variable{l:w1e}{n:Nat}{st:QQ S}{tb:FF S}{en:QQ S}
def RL(h:GJ (D9 S l n st tb en) (S4 F n (h8 S n st<|w5 l tb)<|gP l<|D9 S l n st tb en)=[]):∀u,AL l u->D9 S l n st tb en u=S.zero:=λu hu=>by
 have h:=EY.mp h;have e:=HI (F:=F) (l:=l) (n:=n) (ρ:=h8 S n st<|w5 l tb) (D:=D9 S l n st tb en) (n+1) h;have e2:S4 F n (h8 S n st<|w5 l tb) (gP l<|D9 S l n st tb en)=S4 F n (h8 S n st<|w5 l tb) (gB l):=congrArg d0g.told e;rw[e2]at h;have sp:=Gz (F:=F) (l:=l) (w:=n) (ρ:=h8 S n st<|w5 l tb) (L:=λc=>Hx S n<|w5 l tb c) EB (λc _=>CF) (λc u _ j _=>by rw[x4]) u hu;show CO sp λk hk=>?_;rw[FD [] hk];exact h _ (F4 hk)
def Wn(nd:l.Nodup){u0:w1e}{T:List w1e}(h:GJ (D9 S l n st tb en) (S4 F n (h8 S n st<|w5 l tb)<|gP l<|D9 S l n st tb en)=u0::T):(u0.length < n/\AL l u0)/\D9 S l n st tb en u0≠S.zero/\∀u,AL l u->GV l u u0=true->D9 S l n st tb en u=S.zero:=by
 have m0:u0∈GJ (D9 S l n st tb en) (S4 F n (h8 S n st<|w5 l tb)<|gP l<|D9 S l n st tb en):=by rw[h];exact ax ..
 obtain⟨m1,m2⟩:=EZ.mp m0;show⟨P3 GR m1,m2,λu hu hb=>Vo (F:=F) nd u hu en λw hw hwu=>?_⟩;have lI:GV l w u0=true:=hwu.elim (λe=>by rw[e];exact hb) λz=>GD z hb;obtain⟨i,hi,hn,hs⟩:∃i,i<=n/\(∀u∈(w6 F n (h8 S n st<|w5 l tb) (gP l<|D9 S l n st tb en) i).told,D9 S l n st tb en u=S.zero)/\¬∀u∈(w6 F n (h8 S n st<|w5 l tb) (gP l<|D9 S l n st tb en)<|i+1).told,D9 S l n st tb en u=S.zero:=by
  show Classical.byContradiction λno=>?_;have all:∀i,i<=n+1->∀u∈(w6 F n (h8 S n st<|w5 l tb) (gP l<|D9 S l n st tb en) i).told,D9 S l n st tb en u=S.zero:=by
   intro i
   induction i with
   | zero=>intro _ u hu;cases hu
   | succ i ih=>intro hi;exact Classical.byContradiction λz=>no ⟨i,Z,ih Z,z⟩
  exact m2 (all (n+1) (ae _) u0 m1)
 have e:=HI (F:=F) i hn;have tp:=QX (F:=F) (l:=l) (n:=n) (ρ:=h8 S n st<|w5 l tb) nd<|i+1;have e1:(w6 F n (h8 S n st<|w5 l tb) (gP l<|D9 S l n st tb en)<|i+1).told=(w6 F n (h8 S n st<|w5 l tb) (gB l)<|i+1).told:=by show(w6 F n _ (gP l _) i).told++Q6 F n _ (w6 F n _ (gP l _) i).ks (w6 F n _ (gP l _) i).last=_;rw[e];rfl
 have mN:(w6 F n (h8 S n st<|w5 l tb) (gP l<|D9 S l n st tb en)<|i+1).last=[]:=by
  show gP l _ (Q6 F n _ (w6 F n _ (gP l _) i).ks (w6 F n _ (gP l _) i).last)=[];unfold gP;rw[if_neg λz=>hs λu hu=>?_];rcases av.mp hu with hu | hu
  . exact hn u hu
  . exact EY.mp (bh.mp z) u hu
 have eE:=Fz GR.1 mN;rw[e1]at eE;have u0i:u0.length < i+1:=tp.2 u0 (by rw[eE];exact m1);have hwE:w∈(w6 F n (h8 S n st<|w5 l tb) (gB l)<|i+1).told:=by
  obtain⟨T2,e2,fH⟩:=JZ (F:=F) (l:=l) (n:=n) (ρ:=h8 S n st<|w5 l tb) (i+1)<|n - i;rw[show i+1+(n - i)=n+1 by omega]at e2;have hw:w∈(w6 F n (h8 S n st<|w5 l tb) (gB l)<|n+1).told:=hw;rw[e2]at hw;rcases av.mp hw with hw | hw
  . exact hw
  . have a:=fH w hw;unfold GV at lI;rw[if_neg Z]at lI;have:=of_decide_eq_true lI;omega
 show Classical.byContradiction λnz=>?_;have mw:w∈GJ (D9 S l n st tb en) (S4 F n (h8 S n st<|w5 l tb)<|gP l<|D9 S l n st tb en):=EZ.mpr ⟨by rw[<- eE];exact hwE,nz⟩;rw[h]at mw;rcases au.mp mw with rfl | mw
 . rw[Se]at lI;cases lI
 . have pw:(u0::T).Pairwise λu v=>GV l u v=true:=by rw[<- h,<- eE];exact tp.1.sublist List.filter_sublist
   have:=GD ((List.pairwise_cons.mp pw).1 w mw) lI;rw[Se]at this;cases this
end
end
end Mine
namespace L2
open PySem Mine
def N9(C:Addr)(fs:List (Str × V))(H:Hp)(k:V):Prop:=∃p dx,k=.ref p/\H p=some (.ins C dx fs)
def N9.same{C:Addr}{fs:List (Str × V)}{H H':Hp}{k:V}(e:h9 H H')(h:N9 C fs H k):N9 C fs H' k:=by obtain⟨p,dx,rfl,h⟩:=h;exact⟨p,dx,U,e _ _ h⟩
def N5(S:SR)(n:Nat):Prop:=n<=60000000\/∀k y,S.sz k y
def N5.le{S:SR}{m n:Nat}(h:N5 S n)(e:m<=n):N5 S m:=h.imp (af e) id
def Kf(C:Addr)(fs:List (Str × V))(S:SR)(is:Hp->V->S.W->Prop)(f:S.W->S.W->S.W):Sp:=λvs H Q _=>∃k x y a b m n,vs=[k,x,y]/\
 (N9 C fs H k/\is H x a/\is H y b/\S.sz m a/\S.sz n b/\N5 S (m+n))/\∀v H',h9 H H'->is H' v (f a b)->Q v H'
def Ke(C:Addr)(fs:List (Str × V))(S:SR)(is:Hp->V->S.W->Prop)(z:S.W):Sp:=λvs H Q _=>∃k,vs=[k]/\N9 C fs H k/\∀v H',h9 H H'->is H' v z->Q v H'
def e0p(b:Bool):Sp:=λvs H Q _=>∃x,vs=[x]/\Q (.bl b) H
def UE(C:Addr)(fs:List (Str × V))(S:SR)(is:Hp->V->S.W->Prop)(f:S.W->S.W):Sp:=λvs H Q _=>∃k x a,vs=[k,x]/\(N9 C fs H k/\is H x a)/\∀v H',h9 H H'->is H' v (f a)->Q v H'
def UF(C:Addr)(fs:List (Str × V))(S:SR)(is:Hp->V->S.W->Prop)(f:S.W->S.W):Sp:=λvs H Q _=>∃k x a,vs=[k,x]/\(N9 C fs H k/\is H x a/\a≠S.zero)/\∀v H',h9 H H'->is H' v (f a)->Q v H'
set_option genInjectivity false in
set_option genSizeOfSpec false in
structure c9(P:Program)(w:World)(K:aa)(mg:w1d)(base:Heap)where
 S:SR
 C:Addr
 fs:List (Str × V)
 cl:QO K C
 is:Hp->V->S.W->Prop
 same:∀{H H':Hp} {v:V} {x:S.W},y9 H H'->is H v x->is H' v x
 isd:∀{H:Hp} {v:V} {x:S.W},is H v x->Is K H v (S.data x)
 F:M0 S
 B:Cb S
 f_minus:Addr
 d_minus:FuncData
 t_minus:Hr K C "minus" f_minus
 b_minus:M8 K d_minus ["self","x"] []
 l_minus:fs.lookup ("minus":Str)=none
 G_minus:∀{base:Heap},w8 P w K mg base F6 40 f_minus d_minus ["self","x"] (UE C fs S is F.neg)
 f_inverse:Addr
 d_inverse:FuncData
 t_inverse:Hr K C "inverse" f_inverse
 b_inverse:M8 K d_inverse ["self","x"] []
 l_inverse:fs.lookup ("inverse":Str)=none
 G_inverse:∀{base:Heap},w8 P w K mg base F6 40 f_inverse d_inverse ["self","x"] (UF C fs S is F.inv)
 f_is_field:Addr
 d_is_field:FuncData
 t_is_field:Hr K C "is_field" f_is_field
 b_is_field:M8 K d_is_field ["self"] []
 l_is_field:fs.lookup ("is_field":Str)=none
 G_is_field:∀{base:Heap},w8 P w K mg base F6 40 f_is_field d_is_field ["self"] (e0p true)
 f_plus:Addr
 d_plus:FuncData
 t_plus:Hr K C "plus" f_plus
 b_plus:M8 K d_plus ["self","x","y"] []
 l_plus:fs.lookup ("plus":Str)=none
 G_plus:∀{base:Heap},w8 P w K mg base F6 40 f_plus d_plus ["self","x","y"] (Kf C fs S is S.add)
 f_times:Addr
 d_times:FuncData
 t_times:Hr K C "times" f_times
 b_times:M8 K d_times ["self","x","y"] []
 l_times:fs.lookup ("times":Str)=none
 G_times:∀{base:Heap},w8 P w K mg base F6 40 f_times d_times ["self","x","y"] (Kf C fs S is S.mul)
 f_nought:Addr
 d_nought:FuncData
 t_nought:Hr K C "nought" f_nought
 b_nought:M8 K d_nought ["self"] []
 l_nought:fs.lookup ("nought":Str)=none
 G_nought:∀{base:Heap},w8 P w K mg base F6 40 f_nought d_nought ["self"] (Ke C fs S is S.zero)
 f_one:Addr
 d_one:FuncData
 t_one:Hr K C "one" f_one
 b_one:M8 K d_one ["self"] []
 l_one:fs.lookup ("one":Str)=none
 G_one:∀{base:Heap},w8 P w K mg base F6 40 f_one d_one ["self"] (Ke C fs S is S.one)
def c9.re{P:Program}{w:World}{K:aa}{mg:w1d}{base:Heap}(R:c9 P w K mg base)(oi:Heap):c9 P w K mg oi:={ R with }
section
variable{P:Program}{w:World}{K:aa}{mg:w1d}{base:Heap}
def c9.neD(R:c9 P w K mg base){H:Hp}{x y:V}{a b:R.S.W}{Q:VK}(hx:R.is H x a)(hy:R.is H y b)(e:a=b)(q:Q (.bl false) H):UY K x y H Q:=
 ⟨_,_,R.isd hx,R.isd hy,R.S.sh _,R.S.sh _,R.S.nm _ _,by subst e;rw[R.S.eq];exact q⟩
def c9.neT(R:c9 P w K mg base){H:Hp}{x y:V}{a b:R.S.W}{Q:VK}(hx:R.is H x a)(hy:R.is H y b)(e:a≠b)(q:Q (.bl true) H):UY K x y H Q:=
 ⟨_,_,R.isd hx,R.isd hy,R.S.sh _,R.S.sh _,R.S.nm _ _,by rw[R.S.ne _ _ e];exact q⟩
end
def Jf(H:Hp)(v:V)(a b:Int):Prop:=∃p,v=.ref p/\H p=some (.tup [.int a,.int b])
def Jf.same{H H':Hp}{v:V}{a b:Int}(e:y9 H H')(h:Jf H v a b):Jf H' v a b:=by obtain⟨p,rfl,h⟩:=h;exact⟨p,U,e _ _ h⟩
def Jf.is{K:aa}{H:Hp}{v:V}{a b:Int}(h:Jf H v a b):Is K H v (.tuple [.int a,.int b]):=by obtain⟨p,rfl,h⟩:=h;exact .tup (o9.of h) (.cons (.int _)<|.cons (.int _) .nil)
def Jf.new{H:Hp}{p:Addr}{a b:Int}:Jf (upd H p<|.tup [.int a,.int b]) (.ref p) a b:=⟨p,U,b9⟩
def Qs(H:Hp)(v:V)(x:Fr):Prop:=Jf H v x.t x.b
def Qr(p:Int)(_:Hp)(v:V)(x:Re p):Prop:=v=.int x.x
def Rp(p:Int):List (Str × V):=Cq "prime" (.int p) []
def Dd(p:Int):(Rp p).lookup ("prime":Str)=some (.int p):=by unfold Rp;rw[Aw,if_pos rfl]
def Ct(p:Int){m:Str}(h:¬m="prime"):(Rp p).lookup m=none:=by unfold Rp;rw[Aw,if_neg h];rfl
def Kg{H:Hp}{C x dx:Addr}{fs:List (Str × V)}(n:H x=none)(m:H dx=none):h9 H (upd (upd H dx<|.own x) x<|.ins C dx fs):=λb o e=>by
 rw[l9<|l8 e n,l9<|l8 e m];exact e
def WA(xs:List V)(k:Nat):BL xs none (some (k:Int))=xs.take k:=by
 unfold BL;rw[HT.Nd,HT.Rj,List.drop_zero,Nat.sub_zero];by_cases h:k<=xs.length
 . rw[Nat.min_eq_left h]
 . rw[Nat.min_eq_right Z,bo,dJ Z]
def MJ{x:Int}{n:Nat}(h:x.natAbs<=2 ^ n):Builtin.Int.intBits x<=n+1:=intBits_le_iff.mpr (Nat.lt_of_le_of_lt h<|Nat.pow_lt_pow_right bD<|cE _)
def JC{x y:Int}{m n:Nat}(h1:x.natAbs<=2 ^ m)(h2:y.natAbs<=2 ^ n)(h:m+n<=60000000):GX x y:=by
 have a:=MJ h1;have b:=MJ h2;show _<=2 ^ 27;have e:(2:Nat) ^ 27=134217728:=by decide
 omega
section
variable{P:Program}{w:World}{K:aa}{mg:w1d}{base:Heap}{R:c9 P w K mg base}{h n m:Nat}{x:QQ R.S}{y:F0 R.S}{v:V}{H H':Hp}
end
end L2
namespace L2
open PySem PySem.Spec PyProof.Rows
def e0h(ta:TA):TE:=λσ H Q=>ta σ H λvs H1=>∃n:Nat,vs=[.int n]/\n<=1000/\∀p,H1 p=none->Q (.ref p) (upd H1 p<|.lst<|(List.range n).map λi=>V.int (i:Nat))
def SU{X:Cx}{a:Expr}{ta:TA}{p p' pos fK:Pos}(hc:X.calm=true)(hg:Gl X "list")(hm:X.mg "list"=none)(hg':Gl X "range")(gm:X.mg "range"=none)(ha:PA X [a] ta)
    (hs:starEach [a] X.env=[(false,eval a X.env)]:=by rfl) (vP:starEach [.Call (.Name "range" p') [a] [] fK] X.env=[(false,eval (.Call (.Name "range" p') [a] [] fK) X.env)]:=by rfl) :
    PE X (.Call (.Name "list" p) [.Call (.Name "range" p') [a] [] fK] [] pos) (e0h ta):=by
 intro aS s σ H Q I h;show wpAny_Call_Name_kw<|AH I hg hm boot_list ?_;show cD ?_ vP rfl;rw[vP];show Calls.spliced_cons ?_;show Call_<|AH I hg' gm boot_range<|cD (K0 (ha fK aS s σ H _ I h) λus s1 ⟨vs,H1,I1,r1,q1⟩=>?_) hs U;obtain⟨n,e,hn,q⟩:=q1;subst e;have line:1000 < sizeLine:=by decide
 cases r1 with
 | cons r rr=>
  cases rr;obtain⟨t,rfl⟩:=r;show call_range_1 ?_;show Calls.spliced_nil ?_;have sz:(s1.heap.push { cls:=.type "range",data:=.fields #[.int 0 s1.toks,.int n t,.int 1<|s1.toks+1] }).objs.size=s1.heap.objs.size+1:=bu ..;show call_list_range (n:=n) (I1.ok.hd hc) (IsRange.new ..) (small_one Z Z Z Z) (by rw[rangeSize_one];split <;>omega) Z λh' tk kY c' hk hS tQ=>?_;have up:∀b o,s1.heap.get? b=some o->h'.get? b=some o:=λb o e=>hk b o<|ak _ e;have vd:s1.heap.objs.size<=(s1.heap.push { cls:=.type "range",data:=.fields #[.int 0 s1.toks,.int n t,.int 1<|s1.toks+1] }).objs.size:=by rw[sz];omega
  obtain⟨ku,nG⟩:=tQ;have vals:z9 ((List.range n).map λi=>V.int (i:Nat)) kY.toList:=by
   have eJ:∀(m k:Nat) (ls:w1g),ls.length=m->(∀i v,ls[i]? = some v->∃t,v=Value.int ((k+i:Nat):Int) t)->z9 ((List.range' k m).map λi=>V.int (i:Nat)) ls:=by
    intro m
    induction m with
    | zero=>intro k ls e _;cases bh.mp e;exact .nil
    | succ m ih=>
     intro k ls e g;cases ls with
     | nil=>cases e
     | cons v ls=>
      rw[List.range'_succ,aX];obtain⟨t,rfl⟩:=g 0 v rfl;exact .cons ⟨t,U⟩ (ih (k+1) ls (by simpa using e) λi v hv=>by
       obtain⟨t,e2⟩:=g (i+1) v (by simpa using hv);exact⟨t,by rw[e2,show k+(i+1)=k+1+i by omega]⟩)
   have:=eJ n 0 kY.toList (by simpa using ku) λi v hv=>by
    obtain⟨t,e2⟩:=nG i v (by rw[<- Array.getElem?_toList];exact hv);exact⟨t,by rw[e2];congr 1;omega⟩
   rw[<- List.range_eq_range']at this;exact this
  exact⟨.ref _,_,I1.laid (t':=tk) up vd (show M6 X.prog X.w _ h' _ (.lst _)from⟨by rw[ag,cJ];omega,kY.toList,c',vals,by rw[Array.toArray_toList];exact hS⟩),U,q _<|I1.hok.fresh vd⟩
end L2
namespace L2
open PySem PySem.Spec PyProof.Rows PySem.Builtin PySem.Builtin.Str
section
variable{X:Cx}
def Gg{st:Stmt}{t:TS}(i:Nat)(h:PS X st t):PS X st (λD σ H=>t D (σ.set i none) H):=by
 intro aS s σ H D I q;show h aS s (σ.set i none) H D (I.weak bK λj v e=>?_) q;by_cases z:i=j
 . subst z;by_cases z2:i < σ.length
   . rw[cA z2]at e;cases e
   . rw[List.getElem?_eq_none<|by rw[bK];omega]at e;cases e
 . rwa [bL z]at e
end
end L2
namespace L2
open PySem PySem.Spec PyProof.Rows
section
variable{P:Program}{w:World}{H H':Hp}{h h':Heap}
def BB.there(x:BB P w H h)(e:H a=some o):∃ob,h.get? a=some ob:=by
 have y:=x a o e;clear e x
 induction o with
 | lst xs=>obtain⟨_,its,n,r,e⟩:=y;exact⟨_,e⟩
 | tup xs=>obtain⟨_,its,r,⟨ob,e,c⟩,_⟩:=y;exact⟨_,e⟩
 | dK fg=>obtain⟨_,_,vs,r,ob,es,ep,e,c⟩:=y;exact⟨_,e⟩
 | dT fg=>obtain⟨_,_,xs,r,ob,es,ep,e,c⟩:=y;exact⟨_,e⟩
 | set S n=>obtain⟨ob,es,ep,t,e,c⟩:=y;exact⟨_,e⟩
 | ins C dx fs=>obtain⟨d,z,ne,e,_⟩:=y;exact⟨_,e⟩
 | own y'=>exact y
 | xd fs=>obtain⟨mA,⟨od,es,ep,e,c⟩,r⟩:=y;exact⟨_,e⟩
 | rng lo hi=>obtain⟨t,u,v,e⟩:=y;exact⟨_,e⟩
 | frz ob u ih=>exact⟨_,y.1⟩
 | tbl ps=>exact⟨_,y⟩
 | met f y'=>exact⟨_,y⟩
 | ext φ=>exact y.2.1
def BB.loose(x:BB P w H h)(k:∀b u,H b≠none->h.get? b=some u->h'.get? b=some u):BB P w H h':=λa o e=>
 (x a o e).stay (λb u hb q=>k b u (by
  rcases hb with z | z
  . rw[z,e];exact nofun
  . rw[z];exact nofun) q) (λ_ q=>q) λ_ _ q=>q
def XT(h:Heap)(a T C:Addr):Prop:=∃oe vs a0 oT ts,h.get? a=some oe/\(oe.cls=.ref C/\vs[0]? = some a0)/\oe.data=.fields vs/\vs[1]? = some (.ref T)/\T≠a/\h.get? T=some oT/\oT.data=.fields ts/\ts[3]? = some .none
structure Fly(P:Program)(w:World)(fs:List Addr)(H H':Hp)(s s':Shared)(a T C:Addr):Prop where
 os:s'.os=s.os
 bare:AllBare s'.gens
 un:Un fs [] H H' s.heap s'.heap
 hok:BB P w H' s'.heap
 xt:XT s'.heap a T C
 na:s.heap.get? a=none
 nT:s.heap.get? T=none
 ha:H' a=none
 hT:H' T=none
def CX1(P:Program)(w:World):Sj:=λouter H s E e s'=>∃a T C H',e=.ref a/\Fly P w (HH outer) H H' s s' a T C/\E (.ref C) none H'
theorem GS:∀{l:List Env},h.FunFrames base l->(∀b∈HH l,eH.get? b=none)->h.FunFrames eH l
 | [],_,_=>trivial
 | env::r,⟨k,⟨L,o,hf,_,ho,hd⟩,t⟩,hb=>⟨k,⟨L,o,hf,hb L (by unfold HH;rw[da,hf];exact ax),ho,hd⟩,
     GS t λb hm=>hb b<|by unfold HH;rw[da,hf];exact aA _ hm⟩
abbrev hid(h:Heap)(a T:Addr)(fs:List Addr):Heap:=PySem.W.hideAll h (a::T::fs)
end
section
variable{P:Program}{w:World}{H H':Hp}{s s':Shared}{a T C:Addr}{l:List Env}{oj:Heap}
def Fly.base(F:Fly P w (HH l) H H' s s' a T C)(ff:s'.heap.FunFrames oj l):∃a0,Heap.FlyingW (hid s'.heap a T<|HH l) l a (.ref C) a0 s'.heap:=by
 obtain⟨oe,vs,a0,oT,ts,e1,e2,e3,e4,e5,e6,e7,e8⟩:=F.xt;exact⟨a0,λb o e=>PySem.W.of_hideAll _ e,dw _ (by simp),GS ff λb hb=>dw _ (by simp[hb]),
  oe,vs,T,oT,ts,e1,e2,e3,e4,dw _ (by simp),e5,e6,e7,e8⟩
end
def XP(X:Cx)(aS:w1b)(σ:St)(E:XK)(e:Value)(s':Shared):Prop:=∃s H,r8 X aS σ H s/\CX1 X.prog X.w X.stack H s E e s'
structure q0e(X:Cx)(E:XK):Prop where
 stk:X.stack=X.env::X.outer
 fr:X.env.frame=some X.env.locals
 ex:X.ex=[]
 xe:X.xe=λe s'=>wpAny (model X.prog X.w) X.A (leaving X.env e) (λ_ iB=>CX1 X.prog X.w X.outer X.H₀ X.s₀ E e iB) (λe' iB=>CX1 X.prog X.w X.outer X.H₀ X.s₀ E e' iB) s'
section
variable{X:Cx}{aS:w1b}{σ:St}{H:Hp}{s s':Shared}{E:XK}{e:Value}
end
abbrev bmV:w1g:=[.type "ValueError",.type "Exception",.type "BaseException",.type "object"]
section
variable{P:Program}{w:World}{K:aa}{mg:w1d}{base:Heap}
def q0e.own(R:q0e X E):PassesOwn (model X.prog X.w) X.A X.env X.xe:=by rw[R.xe];exact PassesOwn.leaving
end
section
variable{X:Cx}{k:Nat}{f C:Addr}{fd:FuncData}{ps:w1f}{sp:Sp}{fZ:List V}{ds:w1g}{E:XK}{x m:Str}{p np gy pos fA:Pos}{e o:Expr}{es:List Expr}{ta:TE}{t:TA}{tx:TX}
end
section
variable{X:Cx}{aS:w1b}{σ:St}{H:Hp}{s:Shared}{a:Addr}
end
section
variable{X:Cx}{e:Expr}{te:TE}{tx:TX}{pos:Pos}{st:Stmt}{t u:TSX}
end
end L2
namespace Mine
open PySem PySem.W PySem.Spec PySem.Calls PyProof.Rows
section
variable{prog:Program}{w:World}{A:Around}{E:w1c}{s:Shared}{K:Frag}{x D:Addr}{o:Obj}{c:Value}
open Builtin Builtin.Getset_descriptor in
end
end Mine
namespace L2
open PySem PySem.Spec PyProof.Rows
structure ExcK(K:aa)(C:Addr):Prop where
 ga:PySem.W.findIn K (.ref C) "__getattribute__"=some (some<|.builtin "BaseException.__getattribute__")
 gt:PySem.W.findIn K (.ref C) "__getattr__"=some none
 cl:PySem.W.findIn K (.ref C) "__class__"=some (some<|.builtin "object.__class__")
 ob:PySem.W.mroIn K C (.type "object")=some true
 be:PySem.W.mroIn K C (.type "BaseException")=some true
 ex:PySem.W.excIn K C bmV "ValueError.__new__"=true
section
variable{X:Cx}
theorem PS.nox{st:Stmt}{t:TS}(h:PS X.nox st t):PS X st t:=λaS s σ H D I hw=>
 wpAny_mono (h aS s σ H D (I.wish _) hw) (λ_ _ q=>q.unwish) λ_ _ z=>False.elim z
end
section
variable{X:Cx}
end
end L2
namespace L2
open PySem PySem.Spec PyProof.Rows PySem.W
structure Tb(mg:w1d)(h:Heap)(c P:Addr):Prop where
 cd:CodeHd h c P
 bl:h.BuiltinsAt mg P
 gl:mainGlobals≠P
section
variable{P:Program}{w:World}{H:Hp}{h h':Heap}{p:Addr}{ps qs:Array Value}
def BB.tab(x:BB P w H h)(hp:H p=some (.tbl ps))(hx:Heap.ExtBut p h h')(e:h'.get? p=some (tabObj qs)):BB P w (upd H p<|.tbl qs) h':=λb u q=>by
 have own:∀c a,H c=some (.own a)->upd H p (.tbl qs) c=some (.own a):=λc a z=>by rw[l9<|Av z hp<|by simp];exact z
 have tup:∀c xs,H c=some (.tup xs)->upd H p (.tbl qs) c=some (.tup xs):=λc xs z=>by rw[l9<|Av z hp<|by simp];exact z
 by_cases hb:b=p
 . subst hb;rw[b9]at q;cases q;exact e
 . rw[l9 hb]at q;show(x b u q).stay (λc o hc z=>hx c o ?_ z) (λc z=>own c b z) tup;rcases hc with rfl | hc
   . exact hb
   . exact Av hc hp (by simp)
def Un.tab(hp:H p=some (.tbl ps))(hx:Heap.ExtBut p h h')(e:h'.get? p=some (tabObj<|ps++qs)):Un fs ex H (upd H p<|.tbl<|ps++qs) h h' where
 keep:=λb o q n _ _=>hx b o (λz=>by rw[z,hp]at n;cases n) q
 slot:=λb o q n _ _=>⟨o.slots,hx b o (λz=>by rw[z,hp]at n;cases n) q⟩
 free:=λb o q n _=>by rw[l9<|λz=>by rw[z,hp]at n;cases n];exact n
 there:=λb o q _=>by
  by_cases hb:b=p
  . exact⟨_,hb▸e⟩
  . exact⟨o,hx b o hb q⟩
 tups:=λb xs z=>by rw[l9<|Av z hp<|by simp];exact z
 frzs:=λb o u z=>by rw[l9<|Av z hp<|by simp];exact z
 tbls:=λb qs' z=>by
  by_cases hb:b=p
  . subst hb;rw[hp]at z;cases z;exact⟨qs,b9⟩
  . exact⟨#[],by rw[l9 hb,z];simp⟩
end
section
variable{X:Cx}{aS:w1b}{σ:St}{H:Hp}{s:Shared}
theorem Tb.keeps(t:Tb mg h c P)(k:∀b o,h.get? b=some o->h'.get? b=some o):Tb mg h' c P:=
 ⟨t.cd.keeps k,let⟨bm,o,a1,a2,a3,a4,a5,r⟩:=t.bl;⟨bm,o,a1,a2,a3,a4,k _ _ a5,r⟩,t.gl⟩
def IM(hx:Heap.ExtBut P h h'):Heap.ExtBut P h (h'.push o):=λb u hb e=>ak _ (hx b u hb e)
end
def Zf(ts:List Addr)(H:Hp):Prop:=∀p∈ts,H p=some (.tbl #[])
def OZ{K:Frag}{x qual:Str}{st:Stmt}{f c P:Addr}{fd:FuncData}{oc:Value}{od:Option Addr}{iq:Array (Option Value)}(ht:tabIn K x=some (c,P))(hn:nsIn K mainGlobals x=some (some<|.ref f))(lk:K.lookup f=some ⟨oc,od,.func fd,iq⟩):fd.code=.ref c:=by
 unfold tabIn at ht;rw[hn]at ht;simp only[lk]at ht;split at ht
 . rename_i c₂ hc;split at ht
   . split at ht
     . cases ht;exact hc
     . cases ht
   . cases ht
 . cases ht
section
variable{P:Program}{w:World}{K:aa}{mg:w1d}{base:Heap}
def Mw.okC{x qual:Str}{st:Stmt}{f c p:Addr}{fd:FuncData}{N ps:w1f}{k:Nat}{sp:Sp}(F:Mw K x qual st f fd)(S:g6 N ps (a8 st))(ht:tabIn K x=some (c,p))(hn:nsIn K mainGlobals x=some (some<|.ref f))(len:∀vs H Q E,sp vs H Q E->vs.length=ps.length)
    (eZ:∀(A:Around) (outer:List Env) (s:Shared) (H:Hp) (vs:List V) (Q:VK) (E:XK),L9 k (A.deeper<|envOfC qual (a8 st) s.heap.objs.size f<|.ref c)->sp vs H Q E->
     ∃t,Mu (Hq F6 P w K mg base N qual (a8 st) f (.ref c) A outer s H E).nox (D8 st) t/\t { nx:=λ_ H'=>Q .non H',rt:=Q } (DB N vs) H):w8 P w K mg base F6 (k+1) f fd ps sp:=by
 obtain⟨oc,od,kV,gg,pm,an,fE,ct,iq,rfl,lk,gk⟩:=F.ex;have hc:fE=.ref c:=OZ (st:=st) (qual:=qual) ht hn lk;subst hc;show Zc lk gk S len λA outer s H vs Q E hr fM=>?_;obtain⟨t,h,q⟩:=eZ A outer s H vs Q E hr fM;exact⟨t,h.nox,q⟩
end
def Tp{P:Program}{w:World}{K:aa}{mg mb:w1d}{CX:Sj}{k:Nat}{fa a:Addr}{fd:FuncData}{x:Str}{sp:Sp}{s₁:Shared}{vs:w1g}{ns:List Int}{tabs:List (Addr × Addr)}
    (KX:K.In s₁.heap) (lJ:s₁.heap.Ns mainGlobals mg) (hb:s₁.heap.Ns builtinsNs mb) (hbb:∀x:Str,x≠"__name__"->mb x=bootBuiltins x) (sR:s₁.heap.NoLimit) (jx:s₁.heap.NoSeer) (hg:s₁.gens=#[])
    (ha:s₁.heap.get? a=some { cls:=.type "list",data:=.seq vs.toArray }) (hi:IntsAre vs ns) (hl:ns.length<=sizeLine) (hr:L9 k callerA)
    (hT:∀q∈tabs,Tb mg s₁.heap q.1 q.2/\s₁.heap.TableAt q.1 q.2 #[]/\K.lookup q.2=none)
    (F:∀base:Heap,K.In base->base.Ns mainGlobals mg->(∀q∈tabs,Tb mg base q.1 q.2)->w8 P w K mg base CX k fa fd [x] sp) (fj:∀(s:Shared) (u:Value),BindsTo s fd ⟨[u],[]⟩ [(x,u)])
    (fM:∀H:Hp,Zf (tabs.map (·.2)) H->p9 K H a (ns.map V.int)->sp [.ref a] H (λv _=>v=.bl true) λ_ _ _=>False)
    (ue:∀H e s',CX [] H s₁ (λ_ _ _=>False) e s'->False) :
    codeAny (model P w) callerA (.call (.ref fa) ⟨[.ref a],[]⟩) (λr s'=>r=.ok (.ret<|.bool true)/\OldK s₁.heap s'.heap/\s'.os=s₁.os/\AllBare s'.gens) s₁:=by
 have rv:=JX hi;have rM:=hi.length;have kS:∀p∈tabs.map (·.2),s₁.heap.get? p=some (tabObj #[])/\K.lookup p=none/\∃c,s₁.heap.TableAt c p #[]:=λp hp=>by
  obtain⟨q,hq,rfl⟩:=aw.mp hp;exact⟨(hT q hq).2.1.2,(hT q hq).2.2,_,(hT q hq).2.1⟩
 have oa:∀H:Hp,(∀b,H b=none\/(∃o xs,H b=some (.frz o<|.lst xs)/\b=a/\K.lookup a=none)\/(H b=some (.tbl #[])/\b∈tabs.map (·.2)))->Zf (tabs.map (·.2)) H->p9 K H a (ns.map V.int)->BB P w H s₁.heap->
     codeAny (model P w) callerA (.call (.ref fa) ⟨[.ref a],[]⟩) (λr s'=>r=.ok (.ret<|.bool true)/\OldK s₁.heap s'.heap/\s'.os=s₁.os/\AllBare s'.gens) s₁:=by
  intro H hO hOT hS hok;have fI:∀{b:Addr} {o:Obj},s₁.heap.get? b=some o->H b=none->(JR s₁.heap H).get? b=some o:=λe n=>Wa e n;have rV:∀{b:Addr} {o:Obj},s₁.heap.get? b=some o->o.cls≠.none->o.cls≠.type "list"->H b=none:=λ{b o} e c1 c2=>by
   rcases hO b with z | ⟨_,_,_,rfl,_⟩ | ⟨_,hm⟩
   . exact z
   . rw[ha]at e;cases e;exact absurd rfl c2
   . rw[(kS _ hm).1]at e;cases e;exact absurd rfl c1
  have jr:∀{b:Addr} {o:Obj} {es:Array DictEntry} {ep:Nat},s₁.heap.get? b=some o->o.data=.dict es ep->H b=none:=λ{b o es ep} e d=>by
   rcases hO b with z | ⟨_,_,_,rfl,_⟩ | ⟨_,hm⟩
   . exact z
   . rw[ha]at e;cases e;cases (show Data.seq vs.toArray _=Data.dict es ep from d)
   . rw[(kS _ hm).1]at e;cases e;cases (show Data.fields #[]=Data.dict es ep from d)
  have jK:∀{b:Addr} {m:w1d},s₁.heap.Ns b m->(JR s₁.heap H).Ns b m:=λ{b m} ⟨o,es,ep,e,d,r⟩=>⟨o,es,ep,fI e<|jr e d,d,r⟩;have wu:K.In (JR s₁.heap H):=λb o e=>fI (KX b o e) (by
   rcases hO b with z | ⟨_,_,_,rfl,hk⟩ | ⟨_,hm⟩
   . exact z
   . rw[hk]at e;cases e
   . rw[(kS _ hm).2.1]at e;cases e)
  have ty:∀{x y:String},x≠y->Value.type x≠Value.type y:=λn z=>by injection z with z;exact n z
  have hM:Mod K mg (JR s₁.heap H):=⟨wu,jK lJ,⟨mb,jK hb,hbb⟩,let⟨mc,h1,h2⟩:=sR;⟨mc,jK h1,h2⟩,⟨let⟨mc,h1,h2⟩:=jx.statics;⟨mc,jK h1,h2⟩,let⟨mc,h1,h2⟩:=jx.mods;⟨mc,jK h1,h2⟩,let⟨mc,h1,h2⟩:=jx.imp;⟨mc,jK h1,h2⟩,by
    obtain⟨mg',bm,ob,n1,n2,n3,n4,n5⟩:=jx.main;exact⟨mg',bm,ob,jK n1,n2,fI n3 (rV n3 (by rw[n4];nofun)<|by rw[n4];exact ty bD),n4,n5⟩⟩⟩
  have e0:JW P w K mg (JR s₁.heap H) callerA [] s₁ H:=⟨U,hM,λb o e=>XY e,dc<|Tu _ _,trivial,λb hb=>absurd (show b∈([]:List Addr)from hb) (by simp),hok,.of_eq hg⟩;have fz:∀q∈tabs,Tb mg (JR s₁.heap H) q.1 q.2:=λq hq=>by
   obtain⟨o,ws,ug,tf,nW,tg,inF,qK,tt,e1,r1,r2⟩:=(hT q hq).1.cd;obtain⟨bm,ob,a1,a2,a3,a4,a5,a6,a7⟩:=(hT q hq).1.bl;exact⟨⟨o,ws,ug,tf,nW,tg,inF,qK,tt,fI e1 (rV e1 (by rw[r1];nofun)<|by rw[r1];exact ty bD),r1,r2⟩,⟨bm,ob,a1,a2,a3,a4,fI a5 (rV a5 (by rw[a6];nofun)<|by rw[a6];exact ty bD),a6,a7⟩,(hT q hq).1.gl⟩
  show codeAny_mono ((F _ wu (jK lJ) fz).run callerA [] s₁ H ⟨[.ref a],[]⟩ [.ref a] [.ref a] _ _ hr e0 (fj s₁<|.ref a) (.cons U .nil)<|fM H hOT hS) λr s' h=>?_;cases r with
  | error e=>exact(ue H e s' h).elim
  | ok fl=>
   cases fl with
   | next=>exact False.elim h
   | brk=>exact False.elim h
   | cont=>exact False.elim h
   | ret u=>
    obtain⟨v,H',os,bare,un,mZ,r',q⟩:=h;have q':v=.bl true:=q;subst q';obtain rfl:u=Value.bool true:=r';show⟨U,⟨λb o e=>?_,λb o e=>un.there b o e<|by simp⟩,os,bare⟩;rcases hO b with z | ⟨ob,xs,z,_,_⟩ | ⟨z,hm⟩
    . exact .inl (un.keep b o e z (by intro z;exact absurd (show b∈([]:List Addr)from z)<|by simp)<|by simp)
    . have z2:=un.frzs b ob _ z;obtain⟨e1,_⟩:=hok b _ z;obtain⟨e2,_⟩:=mZ b _ z2;rw[e]at e1;cases e1;exact .inl e2
    . obtain⟨g1,_,c,g3⟩:=kS b hm;rw[g1]at e;cases e;obtain⟨more,z2⟩:=un.tbls b _ z;exact .inr (.inl ⟨g3.isCodeTable,U,#[],more,U,mZ b _ z2⟩)
 have aT:a ∉ tabs.map (·.2):=λz=>by have e:=(kS a z).1;rw[ha]at e;cases e
 cases hk:K.lookup a with
 | some o=>
  have e:=KX a o hk;rw[ha]at e;cases e;show oa (λb=>if b∈tabs.map (·.2)then some (.tbl #[])else none) (λb=>?_) (λp hp=>if_pos hp) (.inr ⟨_,vs.toArray,_,hk,U,U,U,by rw[ay,rM];exact hl,by simpa using rv⟩) λb u z=>?_
  . by_cases hb:b∈tabs.map (·.2)
    . exact .inr (.inr ⟨if_pos hb,hb⟩)
    . exact .inl (if_neg hb)
  . by_cases hb:b∈tabs.map (·.2)
    . have z':=(if_pos hb).symm.trans z;cases z';exact(kS b hb).1
    . have z':=(if_neg hb).symm.trans z;cases z'
 | none=>
  show oa (λb=>if b=a then some (.frz { cls:=.type "list",data:=.seq vs.toArray }<|.lst<|ns.map V.int)else if b∈tabs.map (·.2)then some (.tbl #[])else none) (λb=>?_) (λp hp=>?_) (.inl<|.inr ⟨{ cls:=.type "list",data:=.seq vs.toArray },if_pos U⟩) λb u z=>?_
  . by_cases hb:b=a
    . exact .inr (.inl<|za ⟨if_pos hb,hb,hk⟩)
    . by_cases gX:b∈tabs.map (·.2)
      . exact .inr (.inr ⟨(if_neg hb).trans<|if_pos gX,gX⟩)
      . exact .inl ((if_neg hb).trans<|if_neg gX)
  . exact(if_neg (λe:p=a=>aT<|by rw[<- e];exact hp)).trans (if_pos hp)
  . by_cases hb:b=a
    . have z':=(if_pos hb).symm.trans z;cases z';subst hb;exact⟨ha,by rw[ag];exact hl,vs,_,rv,ha⟩
    . have z':=(if_neg hb).symm.trans z;by_cases gX:b∈tabs.map (·.2)
      . have z2:=(if_pos gX).symm.trans z';cases z2;exact(kS b gX).1
      . have z2:=(if_neg gX).symm.trans z';cases z2
def JA{K:Frag}(hK:noTabs K=true){P:Addr}{h:Heap}{ps:Array Value}(X:K.In h)(e:h.get? P=some (tabObj ps)):K.lookup P=none:=by
 cases q:K.lookup P with
 | none=>rfl
 | some o=>
  have e2:=X _ _ q;rw[e]at e2;cases e2;have h2:=dD.mp hK (P,tabObj ps)<|mem_of_lookupK q;exact absurd (show false=true from h2) aI
def Ud{l:PySem.W.OpenLaw}{n k:Nat}{q:Program}{loose:w1f}{XP:w1d->Heap->Prop}{YP:World->Heap->Prop}{d:DefRec}{K:Params->aa}{CX:Sj}{sp:aa->Sp}{x:Str}(lA:w1f)
    (hn:l.most=some n) (pJ:n<=sizeLine) (tN:d.params.defaults=[]) (hr:L9 k callerA) (hq:importsNone q=true)
    (hY:∀(w:World) (h:Heap),YP w h->(K w.params).In h)
    (hnt:∀w:World,noTabs (K w.params)=true) (ky:∀y∈lA,((recsOf q).find?<|λe=>e.name == y).isSome=true)
    (F:∀(w:World) (mg:w1d) (fa:Addr) (h:Heap),(K w.params).In h->h.Ns mainGlobals mg->mg d.name=some (.ref fa)->
     ∃fd:FuncData,(∀(s:Shared) (u:Value),BindsTo s fd ⟨[u],[]⟩ [(x,u)])/\
      ∀base:Heap,(K w.params).In base->base.Ns mainGlobals mg->(∀y∈lA,∀c P,tabIn (K w.params) y=some (c,P)->Tb mg base c P)->w8 l.prog w (K w.params) mg base CX k fa fd [x] (sp<|K w.params))
    (fM:∀(K:aa) (H:Hp) (a:Addr) (ns:List Int),ns.length<=n->(∀y∈lA,∀c P,tabIn K y=some (c,P)->H P=some (.tbl #[]))->p9 K H a (ns.map V.int)->sp K [.ref a] H (λv _=>v=.bl true) λ_ _ _=>False)
    (ue:∀(H:Hp) (s:Shared) (e:Value) (s':Shared),CX [] H s (λ_ _ _=>False) e s'->False) :
    PySem.W.WalkO q loose XP YP l.row.toRowW d [] (λf vs=>PySem.call f vs):=by
 show Att.OF hn tN λw s₀ s₁ mg mb fa o pm cd gg a vs ns G Y ho hd gk ni kC iO ed hg=>?_;have KX:=hY w _ Y;obtain⟨fd,hb,hF⟩:=F w mg fa _ KX G.T.g ni;have nj:∀{y c P},y∈lA->tabIn (K w.params) y=some (c,P)->(c,P)∈lA.filterMap (tabIn<|K w.params):=λhy ht=>cz.mpr ⟨_,hy,ht⟩;show Tp (tabs:=lA.filterMap<|tabIn<|K w.params) KX G.T.g G.T.b G.T.builtins G.T.nolimit (G.T.seer hq) hg kC iO (af ed pJ) hr (λt ht=>?_) (λbase kb nb hT=>hF base kb nb λy hy c P e=>hT (c,P)<|nj hy e) hb (λH hO hS=>fM (K w.params) H a ns ed (λy hy c P e=>hO P<|aw.mpr ⟨(c,P),nj hy e,U⟩) hS) λH e s'=>ue H s₁ e s';obtain⟨y,hy,ht⟩:=cz.mp ht;obtain⟨c,P⟩:=t;obtain⟨r,gu⟩:=Option.isSome_iff_exists.mp<|ky y hy;obtain⟨C,e⟩:=tab_of G.T KX gu ht;obtain⟨bm,ob,b1,b2,b3,b4,b5,b6⟩:=G.T.bmain;have gP:mainGlobals≠P:=λz=>by
  obtain⟨o',es,ep,e',ir,_⟩:=G.T.g;rw[z,e]at e';cases e';cases ir
 have bP:bm≠P:=λz=>by
  rw[z,e]at b3;cases b3;cases b4
 have bG:bm≠mainGlobals:=λz=>by
  obtain⟨o',es,ep,e',ir,_⟩:=G.T.g;rw[z,e']at b3;cases b3;rw[b6]at ir;cases ir
 exact⟨⟨C,⟨bm,ob,b1,b2,bG,bP,b3,b4,b5,b6⟩,gP⟩,C.tab e,JA (hnt w) KX e⟩
end L2
namespace L2
open PySem PySem.Spec PyProof.Rows
section
variable{X:Cx}
end
section
variable{prog:Program}{w:World}{A:Around}{E:w1c}{s:Shared}
inductive q0m:Value->Value->Prop
 | int (i j:Int) (t u:Tok):q0m (.int i t) (.int j u)
 | str (x y:Str) (t u:Tok):q0m (.str x t) (.str y u)
variable{R:Result->Shared->Prop}{I l:Addr}
end
section
variable{X:Cx}
theorem HN:∀{cs:List Addr} {its:w1g},z9 (cs.map V.ref) its->its=cs.map Value.ref
 | [],_,.nil=>rfl
 | c::r,_,.cons e t=>by
  cases (show _=Value.ref c from e);rw[HN t];rfl
end
end L2
namespace L2
open PySem PySem.Spec PyProof.Rows PySem.W
section
variable{X:Cx}{aS:w1b}{σ:St}{H:Hp}{R:Result->Shared->Prop}{Iv l S q:Addr}{ps:List Addr}
def Yr(I:r8 X aS σ H s)(hq:p9 X.K H l (ps.map V.ref)):s.heap.IsList l (ps.map Value.ref).toArray:=by obtain⟨its,rv,p,_⟩:=I.list hq;cases HN rv;exact p.isList
end
section
variable{X:Cx}
end
end L2
namespace L2
open PySem PySem.Spec PyProof.Rows
def d0q(K:aa)(a:Addr)(n:Nat):It:=
 ⟨λi H=>i < n/\∃xs x,p9 K H a xs/\xs[n - 1 - i]? = some x,λi H x H'=>H'=H/\∀xs,p9 K H a xs->xs[n - 1 - i]? = some x,λi _=>i=n⟩
def Uo{P:Program}{w:World}{K:aa}{tg:Expr}(a it:Addr)(n:Nat):Mq P w K tg (d0q K a n) [it] it (λi h=>h.IsRevIter it a<|(n:Int) - 1 - (i:Int))where
 mem:=by simp
 obj:=λi h st b hb=>by
  have e:b=it:=by simpa using hb
  subst e;obtain⟨o,e,c,d⟩:=st;exact⟨o,e,λv z=>by rw[d]at z;cases z⟩
 keep:=λi h h' st k=>st.at λo e=>k it (by simp) o e
 item:=by
  intro X hP hw hK hc i aS s σ H E I hf st hg;subst hP hw hK;obtain⟨hi,xs,x,hq,hx⟩:=hg;obtain⟨its,rv,p,hz⟩:=I.list hq;obtain⟨u,hu,ru⟩:=rv.get hx;obtain⟨f0,f1,f2,f3,f4,f5⟩:=hf it (by simp);have e1:((n:Int) - 1 - i)=((n - 1 - i:Nat):Int):=by omega
  rw[e1]at st;show wpAny_pyNext_rev_item st p.isList (x:=u) (by simpa using hu) λh' st' sb=>?_;have I1:r8 X aS σ H { s with heap:=h' }:=I.turned (t':=s.toks) (λb o hb e=>(sb.2 b hb).trans e) f0 f1 f3 f4 f5;obtain⟨o,e,c,d⟩:=id st';have e2:((n - 1 - i:Nat):Int) - 1=(n:Int) - 1 - ((i+1:Nat):Int):=by omega
  rw[e2]at st';exact⟨u,U,Oq (s:={ s with heap:=h' }) e c d bD ⟨x,H,I1,ru,⟨U,λys hy=>by rw[I.list_inj hy hq];exact hx⟩,st',λb hb=>(hf b hb).1⟩⟩
 done:=by
  intro X hP hw hK hc i aS s σ H E I hf st hg;subst hP hw hK;have hg:i=n:=hg;obtain⟨f0,f1,f2,f3,f4,f5⟩:=hf it (by simp);have e:(n:Int) - 1 - i = -1:=by omega
  rw[e]at st;exact wpAny_pyNext_rev_end (I.ok.hd hc) st λh' eb=>⟨U,I.turned (t':=s.toks) (λb o hb e=>eb b o hb e) f0 f1 f3 f4 f5⟩
 self:=λ_ _ _ _ _ st h=>wpAny_pyIter_revIter st h
def p0f(K:aa)(ta:TA):TI:=λσ H R=>ta σ H λvs H1=>∃a xs,vs=[.ref a]/\p9 K H1 a xs/\R (d0q K a xs.length) H1
def XM(hg:Gl X "reversed")(hm:X.mg "reversed"=none)(ha:PA X [a] ta)(hs:starEach [a] X.env=[(false,eval a X.env)]:=by rfl) :
    PI X tg (.Call (.Name "reversed" p) [a] [] pos) (p0f X.K ta):=by
 intro aS s σ H R I h;show Call_<|AH I hg hm boot_reversed<|cD (K0 (ha pos aS s σ H _ I h) λus s1 ⟨vs,H1,I1,r1,q1⟩=>?_) hs U;obtain⟨l,xs,e,hq,q⟩:=q1;subst e;cases r1 with
 | cons r rr=>
  cases rr;cases r;obtain⟨its,rv,pl,hz⟩:=I1.list hq;have len:=rv.length;show call_reversed_list pl.isList ?_;have nG:(s1.heap.push<|revObj l<|(its.toArray.size:Int) - 1).IsRevIter s1.heap.objs.size l ((its.toArray.size:Int) - 1):=⟨_,aF _ U,U,U⟩;show wpAny_pyIter_revIter nG ⟨_,[s1.heap.objs.size],_,d0q X.K l xs.length,H1,U,I1.kept (t':=s1.toks) λb o e=>ak _ e,Uo l _ _,?_,λb hb=>?_,q⟩
  . have e:((its.toArray.size:Int) - 1)=(xs.length:Int) - 1 - ((0:Nat):Int):=by rw[ay,<- len];omega
    rw[e]at nG ⊢;exact nG
  . have e:b=s1.heap.objs.size:=by simpa using hb
    subst e;exact I1.fpOk (ae _) (I1.hok.fresh<|ae _)
def Wo{K:aa}{a:Addr}{xs:List V}{g:TG}{tb:TS}{D:Ja}{σ:St}{H:Hp}(Pv:Nat->St->Hp->Prop)(h0:Pv 0 σ H)(hl:∀i σ H,i<=xs.length->Pv i σ H->p9 K H a xs)
    (hs:∀i x σ H,i < xs.length->xs[xs.length - 1 - i]? = some x->Pv i σ H->g x σ H λσ2 H2=>tb { D with nx:=Pv<|i+1,ct:=Pv<|i+1,bk:=D.nx } σ2 H2) (hd:∀σ H,Pv xs.length σ H->D.nx σ H) :
    ∃W:Nat->Nat->St->Hp->Prop,(∃m,W 0 m σ H)/\∀i m σ H,W i m σ H->
     ((d0q K a xs.length).stop i H/\D.nx σ H)\/((d0q K a xs.length).go i H/\∃N:St->Hp->Prop,(∀σ' H',N σ' H'->∃m',m' < m/\W (i+1) m' σ' H')/\∀x H',(d0q K a xs.length).yld i H x H'->g x σ H' λσ2 H2=>tb { D with nx:=N,ct:=N,bk:=D.nx } σ2 H2):=by
 show⟨λi m σ H=>m=xs.length - i/\i<=xs.length/\Pv i σ H,⟨xs.length,by simp,aP _,h0⟩,?_⟩;rintro i m σ H ⟨rfl,hi,p⟩;have q:=hl i σ H hi p;by_cases fB:i < xs.length
 . show .inr ⟨⟨fB,xs,xs[xs.length - 1 - i],q,ah _⟩,Pv<|i+1,λσ' H' p'=>⟨xs.length - (i+1),Z,U,fB,p'⟩,λx H' y=>?_⟩;obtain⟨e,y⟩:=y;subst e;exact hs i x σ _ fB (y xs q) p
 . have e:i=xs.length:=by omega
   subst e;exact .inl ⟨U,hd σ H p⟩
end L2
namespace L2
open PySem PySem.Spec PyProof.Rows PySem.W
def Tx(qual:Str)(scope:Scope)(L a:Addr)(cd:Value)(fc:List (Str × Addr)):Env:=
 { scope:=scope,locals:=L,globals:=mainGlobals,cells:=fc,qual:=qual++".<locals>.",func:=some a,code:=cd,frame:=some L,builtins:=builtinsNs }
def p0s(P:Program)(w:World)(K:aa)(mg:w1d)(base:Heap)(N:w1f)(qual:Str)(scope:Scope)(f:Addr)(cd:Value)(fc:List (Str × Addr))(A:Around)(outer:List Env)(s:Shared)(H:Hp):Cx where
 prog:=P
 w:=w
 K:=K
 mg:=mg
 base:=base
 A:=A.deeper (Tx qual scope s.heap.objs.size f cd fc)
 N:=N
 s₀:=s
 H₀:=H
 env:=Tx qual scope s.heap.objs.size f cd fc
 outer:=outer
 stack:=Tx qual scope s.heap.objs.size f cd fc::outer
 ex:=[]
 calm:=true
 fn:=λ_=>false
 pn:=[]
 xe:=λ_ _=>False
structure Si(pn:Str)(fr:w1f)(sc:Scope):Prop where
 kind:sc.kind=.function
 co:sc.isCoroutine=false
 gen:sc.isGenerator=false
 nd:(pn::fr).Nodup
 par:sc.names.lookup pn=some .local
 fre:∀x∈fr,sc.names.lookup x=some .free
 nocell:∀y∈sc.names,y.2≠.cell
 all:∀y∈sc.names,y.2=.free->y.1∈fr
def q0l(base:Heap)(f c:Addr)(qual:Str)(params:Arguments)(body:Expr)(scope:Scope)(fr:w1f)(ws:List V):Prop:=
 ∃(fc:List (Str × Addr)) (pm fi:Value),base.get? f=some (kla_obj "<lambda>" qual params body scope fc pm c fi)/\
  (∀x y c,fc.lookup x=some c->fc.lookup y=some c->x=y)/\(∀x c,fc.lookup x=some c->∃v,base.IsCell c v)/\(∀x∈fr,∃c,fc.lookup x=some c)/\
  ∀(i:Nat) x v,fr[i]? = some x->ws[i]? = some v->∃c u,fc.lookup x=some c/\base.IsCell c (some u)/\E3 v u
def IT{h h':Heap}{c:Addr}{v:Option Value}(x:h.IsCell c v)(k:∀b o,h.get? b=some o->h'.get? b=some o):h'.IsCell c v:=let⟨o,e,d⟩:=x;⟨o,k _ _ e,d⟩
section
variable{P:Program}{w:World}{K:aa}{mg:w1d}{base:Heap}{k:Nat}{f c0:Addr}{qual pn:Str}{params:Arguments}{body:Expr}{scope:Scope}{A:Around}{outer:List Env}{s:Shared}{H:Hp}{v:V}{u:Value}{tb:TE}{Q:VK}{fr:w1f}{ws:List V}
def VS(S:Si pn fr scope)(F:q0l base f c0 qual params body scope fr ws)(gk:s.heap.CodeRec (.ref c0) qual)(hw:ws.length=fr.length)
    (eZ:∀cd fc,L9 k (A.deeper<|Tx qual scope s.heap.objs.size f cd fc)->PE (p0s P w K mg base (pn::fr) qual scope f cd fc A outer s H) body tb)
    (fj:∀fc pm cd fi,bindArgs (kla_fn "<lambda>" qual params body scope fc pm cd fi) ⟨[u],[]⟩=pure [(pn,u)])
    (hr:L9 (k+1) A) (e0:JW P w K mg base A outer s H) (rv:E3 v u) (q:tb (some v::ws.map some) H Q) :
    codeAny (model P w) A (.call (.ref f) ⟨[u],[]⟩) (CR F6 outer P w H s Q E0) s:=by
 obtain⟨fc,pm,fi,ho,tE,gx,tF,sd⟩:=F;have bk:∀b o,base.get? b=some o->s.heap.get? b=some o:=λb o e=>(e0.bs b o e).1;have kg:s.heap.NoLimit:=e0.mod.nolimit.keeps bk;show kla_callFunE hr.depth (bk _ _ ho) rfl S.co S.gen rfl gk<|BindsTo.of_eq (s:=s) (fj fc pm (.ref c0) fi) _ _ _ _ ?_;show wpAny_newFunctionEnv S.nocell (λy hy=>by rw[ar.mp hy];exact S.par) (λh' lJ sC=>?_) S.kind;have kp:∀b o,s.heap.get? b=some o->h'.get? b=some o:=λb o e=>sC.extBut b o (aC<|ao e)<|ak _ e;show⟨kg.keeps kp,kla_codeExpr ?_⟩;have jr:∀b:Addr,b ∉ (p0s P w K mg base (pn::fr) qual scope f (.ref c0) fc A outer s H).ex:=λb z=>absurd (show b∈([]:List Addr)from z) (by simp);have I:r8 (p0s P w K mg base (pn::fr) qual scope f (.ref c0) fc A outer s H) [] (some v::ws.map some) H { s with heap:=h',toks:=s.toks+[(pn,u)].length }:=by
  show⟨⟨e0.mod,S.kind,U,U,ae _,tE,λy hy=>?_,λy c z=>(nomatch z),λ_=>hr.hd,Around.frames_deeper e0.frames,.inr ⟨U,U⟩,λb z=>absurd z<|jr b,e0.bs,e0.bsz,λb _ _=>jr b,λb z=>absurd z<|jr b,e0.funs,e0.frf⟩,
   rfl,e0.bare,Un.kept kp,⟨_,lJ,λi y v' h1 h2 h3=>?_⟩,λy c h=>?_,e0.hok.fresh (ae _),λy c h=>?_,λp hp=>absurd (show p∈([]:w1b)from hp) (by simp),e0.hok.kept kp,?_⟩
  . have hy:scope.names.lookup y=some .cell\/scope.names.lookup y=some .free:=hy;rcases hy with hy | hy
    . exact absurd rfl (S.nocell _<|bg hy)
    . exact tF y (S.all _ (bg hy) U)
  . cases i with
    | zero=>
     have e1:pn=y:=Option.some.inj h1;have e2:v=v':=Option.some.inj<|Option.some.inj h2;subst e1 e2;exact⟨u,rv,.inl ⟨S.par,by simp⟩⟩
    | succ i=>
     have h1:fr[i]? = some y:=h1;have h2:(ws.map some)[i]? = some (some v'):=h2;rw[aE]at h2;obtain⟨v2,e2,e3⟩:=cP.mp h2;cases e3;obtain⟨c,u',a1,a2,a3⟩:=sd i y _ h1 e2;exact⟨u',a3,.inr ⟨.inr<|S.fre y<|aL h1,c,a1,IT a2 λb o e=>kp b o<|bk b o e⟩⟩
  . obtain⟨v',a⟩:=gx y c h;exact⟨v',IT a λb o e=>kp b o<|bk b o e⟩
  . obtain⟨v',o,e,_⟩:=gx y c h;exact(e0.bs _ _ e).2
  . show(ws.map some).length+1=fr.length+1;rw[ag,hw]
 show wpAny_mono (eZ (.ref c0) fc (hr.deeper _) [] _ _ H _ I q) (λz s' hs=>?_) λe s' hs=>False.elim hs;obtain⟨v',H',J,oR,q'⟩:=hs;exact⟨v',H',J.os,J.bare,J.base,J.hok,oR,q'⟩
structure IZ(P:Program)(w:World)(K:aa)(mg:w1d)(base:Heap)(k:Nat)(f:Addr)(sp:Sp):Prop where
 fn:∃o fd,base.get? f=some o/\o.data=.func fd
 run:∀(A:Around) (outer:List Env) (s:Shared) (H:Hp) (u:Value) (v:V) (Q:VK),L9 k A->JW P w K mg base A outer s H->E3 v u->sp [v] H Q E0->codeAny (model P w) A (.call (.ref f) ⟨[u],[]⟩) (CR F6 outer P w H s Q E0) s
end
section
variable{X:Cx}{aS:w1b}{σ:St}{H:Hp}{s:Shared}
def Zx(P:Program)(w:World)(K:aa)(mg:w1d)(base:Heap)(i k:Nat)(t:TA):TE:=λσ H Q=>∃f sp,σ[i]? = some (some<|.ref f)/\IZ P w K mg base k f sp/\t σ H λvs H1=>vs.length=1/\sp vs H1 Q E0
def IZ.at{P:Program}{w:World}{K:aa}{mg:w1d}{base h:Heap}{k:Nat}{f:Addr}{sp:Sp}(F:IZ P w K mg base k f sp)(bk:∀b o,base.get? b=some o->h.get? b=some o):FnAt f h:=by obtain⟨⟨oc,od,dt,sl⟩,fd,e,d⟩:=F.fn;cases d;exact⟨oc,od,fd,sl,bk _ _ e⟩
def Vl{i k:Nat}{x:Str}{e:Expr}{t:TA}{p pos:Pos}(hr:L9 k X.A)(ha:PA X [e] t)(hN:X.N[i]? = some x:=by rfl)(hv:Vis X.env.scope x:=by first | exact Or.inl rfl | exact Or.inr (Or.inl rfl) | exact Or.inr<|Or.inr rfl)(hd:(x == ("__debug__":Str))=false:=by decide)(gk:(x == ("__classdict__":Str))=false:=by decide)
    (he:starEach [e] X.env=(false,eval e X.env)::starEach [] X.env:=by rfl):PE X (.Call (.Name x p) [e] [] pos) (Zx X.prog X.w X.K X.mg X.base i k t):=by
 intro aS s σ H Q I h;obtain⟨f,sp,hf,F,h⟩:=h;show wpAny_Call_Name_kw<|wpAny_mono (Vg hN hv hd gk aS s σ H (λv H'=>v=.ref f/\H'=H) I ⟨_,hf,U,U⟩) (λu s1 hu=>?_) λ_ _ z=>z;obtain⟨v,H',I1,rv,rfl,rfl⟩:=hu;obtain rfl:u=Value.ref f:=rv;show callWith_F (F.at I1.bk) (K0 (ha pos aS s1 σ H' _ I1 h) λus s2 ⟨vs,H2,I2,r,hl,q⟩=>⟨F.at I2.bk,?_⟩) he rfl;obtain⟨v,rfl⟩:∃v,vs=[v]:=by
  match vs,hl with
  | [v],_=>exact⟨v,U⟩
 obtain⟨u,rfl,ru⟩:=r.one;show wpAny_call<|codeAny_mono (F.run X.A X.stack s2 H2 u v Q hr I2.env0 ru q) λr s' hq=>?_;cases r with
 | error e=>exact False.elim hq
 | ok fl=>
  cases fl with
  | ret u=>exact I2.after hq
  | next=>exact False.elim hq
  | brk=>exact False.elim hq
  | cont=>exact False.elim hq
def O0(H:Hp)(c:Addr)(qual:Str):Prop:=∃oc vs t,H c=some (.frz oc<|.own 0)/\oc.data=.fields vs/\vs[1]? = some (.str qual t)
def Q5(H:Hp)(P:Addr)(qual:Str):Prop:=∃ps,H P=some (.tbl ps)/\TriplesOk ps.toList/\∀eW v,codeAmong eW ps.toList=some v->∃c,v=.ref c/\O0 H c qual
def TK(l:w1g)(h:TriplesOk l)(e:codeAmong pos (l++[rawInt a,rawInt b,c])=some v):codeAmong pos l=some v\/v=c:=by
 fun_induction TriplesOk l with
 | case1=>
  simp only[dq,codeAmong,rawInt]at e;split at e
  . exact .inr (Option.some.inj e).symm
  . cases e
 | case2 a t b u x R3 ih=>
  simp only[dh,codeAmong]at e ⊢;split at e
  . rename_i hc;rw[if_pos hc];exact .inl e
  . rename_i hc;rw[if_neg hc];exact ih h e
 | case3 l h1 h2=>exact h.elim
def O0.rec(x:O0 H c qual)(hok:BB P w H h):h.CodeRec (.ref c) qual:=by obtain⟨oc,vs,t,e,d,q⟩:=x;exact⟨c,oc,vs,t,U,(hok c _ e).1,d,q⟩
def OH(P:Addr)(H H':Hp):Prop:=∀b o,b≠P->H b=some o->H' b=some o
def Oi{c P:Addr}{params:Arguments}{body:Expr}{scope:Scope}{eW:Pos}{Q:w1c}{E:w1c}(I:r8 X aS σ H s)(tb:Tb X.mg X.base c P)(gc:X.env.code=.ref c)(kN:params.defaults=[])(iL:params.kw_defaults=[])
    (kK:∀y∈scope.names,y.2=.free->X.env.scope.names.lookup y.1=some .cell\/X.env.scope.names.lookup y.1=some .free) (hT:Q5 H P (X.env.qual++"<lambda>"))
    (h:∀f c' pm fi s' H',r8 X aS σ H' s'->OH P H H'->Q5 H' P (X.env.qual++"<lambda>")->O0 H' c' (X.env.qual++"<lambda>")->AK X aS H' f->s'.heap.get? f=some (kla_obj "<lambda>" (X.env.qual++"<lambda>") params body scope (N7 X.env.cells scope.names []) pm c' fi)->Q (.ref f) s') :
    wpAny (model X.prog X.w) X.A (eval (.Lambda params body scope eW) X.env) Q E s:=by
 obtain⟨iT,hP,ht,hc⟩:=hT;rw[arm_eval_Lambda,defaultsOf_eq,kN,iL];show wpAny_bind<|wpAny_pure ?_;show wpAny_bind<|wpAny_holding<|wpAny_pure ?_;have jP:=CS (env:=X.env) (scope:=scope) λn hn=>I.ok.has n<|kK _ hn U;have mj:=tb.keeps I.bk;have tU:s.heap.get? P=some (tabObj iT):=I.hok P _ hP;cases hf:codeAmong eW iT.toList with
 | none=>
  have hnf:=hf;show kla_makeFunction (mg:=X.mg) jP I.ok.glob (I.mod.glob.keeps I.bk) gc mj.cd tU ht hnf mj.gl mj.bl λc' fi h' tk iI ja fB ky htb=>?_;have e:(h'.push<|kla_obj "<lambda>" (X.env.qual++"<lambda>") params body scope (N7 X.env.cells scope.names []) ((X.mg "__name__").getD .none) c' fi).get? P=some (tabObj<|iT++#[rawInt eW.line,rawInt eW.col,.ref c']):=ak _ htb;have I2:=I.un (t':=tk) (Un.tab (fs:=X.fs) (ex:=[]) hP (IM iI) e)<|I.hok.tab hP (IM iI) e;obtain⟨c2,oc,vs,tq,ec,uA,uD,uz⟩:=ky;cases ec;have wH:=ak (kla_obj "<lambda>" (X.env.qual++"<lambda>") params body scope (N7 X.env.cells scope.names []) ((X.mg "__name__").getD .none) c' fi) uA;have gf:(h'.push<|kla_obj "<lambda>" (X.env.qual++"<lambda>") params body scope (N7 X.env.cells scope.names []) ((X.mg "__name__").getD .none) c' fi).get? h'.objs.size=some (kla_obj "<lambda>" (X.env.qual++"<lambda>") params body scope (N7 X.env.cells scope.names []) ((X.mg "__name__").getD .none) c' fi):=aF _ rfl;have vO:s.heap.objs.size<=h'.objs.size:=bI<|Nat.lt_of_le_of_lt ja fB;have pP:P < s.heap.objs.size:=ao tU;have nH:∀b,s.heap.objs.size<=b->upd H P (.tbl<|iT++#[rawInt eW.line,rawInt eW.col,.ref c']) b=none:=λb hb=>by
   rw[l9<|bZ<|az pP hb];exact I.hok.fresh hb
  have I3:r8 X aS σ (upd (upd H P<|.tbl<|iT++#[rawInt eW.line,rawInt eW.col,.ref c']) c'<|.frz oc<|.own 0) { s with heap:=h'.push<|kla_obj "<lambda>" (X.env.qual++"<lambda>") params body scope (N7 X.env.cells scope.names []) ((X.mg "__name__").getD .none) c' fi,toks:=tk }:=by show I.un (t':=tk) ((Un.tab (fs:=X.fs) (ex:=[]) hP (IM iI) e).track ja<|nH _ ja) (I2.hok.track (nH _ ja) ⟨wH,⟨_,wH⟩⟩)
  have ncP:P≠c':=aC<|az pP ja;have nfc:h'.objs.size≠c':=bZ fB;have yF:O0 (upd (upd H P<|.tbl<|iT++#[rawInt eW.line,rawInt eW.col,.ref c']) c'<|.frz oc<|.own 0) c' (X.env.qual++"<lambda>"):=⟨oc,vs,tq,b9,uD,uz⟩;show h _ c' _ fi _ _ I3 (λb o hb q=>?_) ⟨_,(l9 ncP).trans b9,?_,λlp v ev=>?_⟩ yF (I.fpOk vO<|(l9 nfc).trans<|nH _ vO) gf
  . rw[l9 (λz=>by have:=I.hok.fresh ja;rw[<- z,q]at this;cases this),l9 hb];exact q
  . rw[Array.toList_append];exact TriplesOk_snoc _ _ _ _ ht
  . rw[Array.toList_append]at ev;rcases TK _ ht ev with z | z
    . obtain⟨c3,e3,rm,qB,t3,y1,y2⟩:=hc lp v z;have n1:c3≠P:=Av y1 hP (by simp);have n2:c3≠c':=λz=>by have:=I.hok.fresh ja;rw[<- z,y1]at this;cases this
      exact⟨c3,e3,rm,qB,t3,(by rw[l9 n2,l9 n1];exact y1),y2⟩
    . exact⟨c',z,yF⟩
 | some cv=>
  obtain⟨cc,rfl,pM⟩:=hc eW cv hf;show kla_makeFunctionHit (mg:=X.mg) jP I.ok.glob (I.mod.glob.keeps I.bk) gc mj.cd tU ht hf mj.bl λfi h' tk kp ja=>?_;have I2:r8 X aS σ H { s with heap:=h'.push<|kla_obj "<lambda>" (X.env.qual++"<lambda>") params body scope (N7 X.env.cells scope.names []) ((X.mg "__name__").getD .none) cc fi,toks:=tk }:=I.kept (t':=tk) λb u e=>ak _<|kp b u e;exact h _ cc _ fi _ _ I2 (λ_ _ _ q=>q) ⟨iT,hP,ht,hc⟩ pM (I.fpOk ja<|I.hok.fresh ja) (aF _ U)
def By(X:Cx)(H:Hp)(h:Heap):Heap:=hideAll h (Zs h H++HH X.stack)
theorem Mod.keeps{K:aa}{mg:w1d}{h h':Heap}(m:Mod K mg h)(k:∀b o,h.get? b=some o->h'.get? b=some o):Mod K mg h':=
 ⟨m.kin.keeps k,m.glob.keeps k,let⟨mb,a,b⟩:=m.blt;⟨mb,a.keeps k,b⟩,m.nolimit.keeps k,m.seer.keeps k⟩
def Mo(I:r8 X aS σ H s)(e:s.heap.get? b=some o)(n:H b=none)(nf:b ∉ HH X.stack):(By X H s.heap).get? b=some o:=
 hideAll_get _ e λz=>by
  rcases av.mp z with z | z
  . have:=(cZ.mp z).2;rw[n]at this;cases this
  . exact nf z
def QI(I:r8 X aS σ H s):∀b o,X.base.get? b=some o->(By X H s.heap).get? b=some o:=λb o e=>
 Mo I (I.bs b o e).1 (I.bs b o e).2 λz=>by
  have:=(I.stack.mem z).1;rw[e]at this;cases this
def WH(I:r8 X aS σ H s):JW X.prog X.w X.K X.mg (By X H s.heap) X.A X.stack s H:=by
 show⟨I.ok.frames,I.ok.mod.keeps<|QI I,λb o e=>⟨of_hideAll _ e,?_⟩,dc<|hideAll_size _ _,funFrames_hide I.stack<|λenv he a ha=>aK _<|cz.mpr ⟨env,he,ha⟩,I.stkFree,I.hok,I.bare⟩;cases q:H b with
 | none=>rfl
 | some u=>
  have nI:b∈Zs s.heap H++HH X.stack:=bc _ (cZ.mpr ⟨aW.mpr<|ao<|of_hideAll _ e,by rw[q];rfl⟩);have:=hideAll_none _ (h:=s.heap) nI;rw[show hideAll s.heap (Zs s.heap H++HH X.stack)=By X H s.heap from rfl,e]at this;cases this
structure Zg(X:Cx)(pn:Str)(fr:w1f)(js:w1e)(scope:Scope):Prop where
 fn:∀x,X.fn x=true
 sc:Si pn fr scope
 vis:∀x∈fr,X.env.scope.names.lookup x=some .cell\/X.env.scope.names.lookup x=some .free
 all:∀x∈fr,(x,NameKind.free)∈scope.names
 at_:js.map (λj=>X.N[j]?)=fr.map some
def p0m{f c0:Addr}{kf:Nat}{pn:Str}{fr:w1f}{js:w1e}{params:Arguments}{body:Expr}{scope:Scope}{pm fi:Value}{qual:Str}{tb:TE}{ws:List V}(I:r8 X aS σ H s)(S:Zg X pn fr js scope)(ff:AK X aS H f)
    (ho:s.heap.get? f=some (kla_obj "<lambda>" qual params body scope (N7 X.env.cells scope.names []) pm c0 fi))
    (pD:js.map (λj=>σ[j]?)=ws.map λv=>some<|some v)
    (eZ:∀cd fc A outer s0 H0,L9 kf (A.deeper<|Tx qual scope s0.heap.objs.size f cd fc)->PE (p0s X.prog X.w X.K X.mg (By X H s.heap) (pn::fr) qual scope f cd fc A outer s0 H0) body tb)
    (fj:∀fc pm cd fi u,bindArgs (kla_fn "<lambda>" qual params body scope fc pm cd fi) ⟨[u],[]⟩=pure [(pn,u)]) :
    IZ X.prog X.w X.K X.mg (By X H s.heap) (kf+1) f (λvs H Q _=>O0 H c0 qual/\∃v,vs=[v]/\tb (some v::ws.map some) H Q):=by
 have nf:∀b,b≠X.env.locals->b ∉ X.fs->b ∉ HH X.stack:=λb h1 h2 z=>by
  rcases au.mp (I.stkSub b z)with z | z
  . exact h1 z
  . exact h2 z
 have hf:=Mo I ho ff.1<|nf f ff.2.1 ff.2.2.1;have jP:∀n,(n,NameKind.free)∈scope.names->∃c,X.env.cells.lookup n=some c:=λn hn=>I.ok.has n<|S.vis n<|S.sc.all _ hn U;have up:∀{y c},(N7 X.env.cells scope.names []).lookup y=some c->X.env.cells.lookup y=some c:=λe=>by
  rcases Mj jP e with z | z
  . cases z
  . exact z
 have yG:∀{y c v},X.env.cells.lookup y=some c->s.heap.IsCell c v->(By X H s.heap).IsCell c v:=λ{y c v} e ⟨o,h1,h2⟩=>by
  show⟨o,Mo I h1 (I.freeC y c e)<|nf c (I.cne y c e) λz=>?_,h2⟩;obtain⟨_,o',e',_⟩:=I.ok.funs.mem z;exact absurd (az (ao e')<|I.ok.cab y c (S.fn y) e) (aO _)
 have jl:js.length=fr.length:=by have:=congrArg List.length S.at_;rwa [ag,ag]at this
 have wl:ws.length=fr.length:=by have:=congrArg List.length pD;rw[ag,ag,jl]at this;exact this.symm
 have F:q0l (By X H s.heap) f c0 qual params body scope fr ws:=by
  show⟨_,pm,fi,hf,λx y c h1 h2=>I.ok.inj x y c (up h1)<|up h2,λx c h=>?_,λx hx=>FH<|.inr<|S.all x hx,λi x v h1 h2=>?_⟩
  . obtain⟨v,z⟩:=I.cell x c<|up h;exact⟨v,yG (up h) z⟩
  . obtain⟨j,j1⟩:∃j,js[i]? = some j:=⟨_,ah<|by rw[jl];exact(aJ.mp h1).1⟩;have j2:X.N[j]? = some x:=by have:=congrArg (λl=>l[i]?) S.at_;simp only[aE,j1,h1,Option.map_some]at this;exact Option.some.inj this
    have hσ:σ[j]? = some (some v):=by have:=congrArg (λl=>l[i]?) pD;simp only[aE,j1,h2,Option.map_some]at this;exact Option.some.inj this
    obtain⟨m,hn,hl⟩:=I.loc;have hv:=S.vis x<|aL h1;obtain⟨u,rv,lk⟩:=hl j x v j2 hσ<|.inr hv;rcases lk with ⟨z,_⟩ | ⟨_,c,e1,e2⟩
    . have z:X.env.scope.names.lookup x=some .local:=z;rw[z]at hv;rcases hv with hv | hv <;>cases hv
    . obtain⟨c',ec⟩:=FH (cells:=X.env.cells) (names:=scope.names) (cs:=[])<|.inr<|S.all x<|aL h1;have:=up ec;rw[e1]at this;cases this;exact⟨c,u,ec,yG e1 e2,rv⟩
 show⟨za ⟨hf,U⟩,λA outer s0 H0 u v Q hr e0 rv fM=>?_⟩;obtain⟨hc,v',e,q⟩:=fM;cases e;exact VS S.sc F (hc.rec e0.hok) wl (λcd fc gu=>eZ cd fc A outer s0 H0 gu) (λfc pm cd fi=>fj fc pm cd fi u) hr e0 rv q
abbrev TAL:=St->Hp->(List V->Addr->Addr->Hp->Prop)->Prop
def LP(X:Cx)(params:Arguments)(body:Expr)(scope:Scope)(aS:w1b)(σ:St)(R:List V->Addr->Addr->Hp->Prop)(us:w1g)(s':Shared):Prop:=
 ∃jg vs f c' pm fi H',us=jg++[.ref f]/\z9 vs jg/\r8 X aS σ H' s'/\AK X aS H' f/\s'.heap.get? f=some (kla_obj "<lambda>" (X.env.qual++"<lambda>") params body scope (N7 X.env.cells scope.names []) pm c' fi)/\R vs f c' H'
def PAL(X:Cx)(params:Arguments)(body:Expr)(scope:Scope)(es:List Expr)(t:TAL):Prop:=
 ∀(pos:Pos) (aS:w1b) (s:Shared) (σ:St) (H:Hp) (R:List V->Addr->Addr->Hp->Prop),r8 X aS σ H s->t σ H R->wpAny (model X.prog X.w) X.A (spliced<|backTo pos<|starEach es X.env) (LP X params body scope aS σ R) X.xe s
def tLam(P:Addr)(qual:Str):TAL:=λ_ H R=>Q5 H P qual/\∀f c H',OH P H H'->Q5 H' P qual->O0 H' c qual->H' f=none->R [] f c H'
def Rq{c P:Addr}{params:Arguments}{body:Expr}{scope:Scope}{eW:Pos}(tb:Tb X.mg X.base c P)(gc:X.env.code=.ref c)(kN:params.defaults=[])(iL:params.kw_defaults=[])
    (kK:∀y∈scope.names,y.2=.free->X.env.scope.names.lookup y.1=some .cell\/X.env.scope.names.lookup y.1=some .free)
    (hs:starEach [.Lambda params body scope eW] X.env=(false,eval (.Lambda params body scope eW) X.env)::starEach [] X.env:=by rfl):PAL X params body scope [.Lambda params body scope eW] (tLam P<|X.env.qual++"<lambda>"):=by
 intro pos aS s σ H R I h;obtain⟨hT,h⟩:=h;rw[hs];show wpAny _ _ (spliced ((false,eval (.Lambda params body scope eW) X.env)::backTo pos (starEach [] X.env))) _ _ s;show Calls.spliced_cons<|Oi I tb gc kN iL kK hT λf c' pm fi s' H' I' sp hT' hc ff ho=>?_;exact Calls.spliced_nil ⟨[],[],f,c',pm,fi,H',U,.nil,I',ff,ho,h f c' H' sp hT' hc ff.1⟩
def Fb(ha:PE X e te)(hr:PAL X params body scope es t)(hs:starEach (e::es) X.env=(false,eval e X.env)::starEach es X.env:=by rfl) :
    PAL X params body scope (e::es) (λσ H R=>te σ H λx H1=>t σ H1 λvs f c H2=>R (x::vs) f c H2):=by
 intro pos aS s σ H R I h;rw[hs];show wpAny _ _ (spliced ((false,eval e X.env)::backTo pos (starEach es X.env))) _ _ s;show Calls.spliced_cons<|K0 (ha aS s σ H _ I h) λu s1 ⟨x,H1,I1,r1,q1⟩=>?_;show K0 (hr pos aS s1 σ H1 _ I1 q1) λus s2 hζ=>?_;obtain⟨jg,vs,f,c',pm,fi,H2,e2,r2,I2,ff,ho,q2⟩:=hζ;exact⟨u::jg,x::vs,f,c',pm,fi,H2,by rw[e2];rfl,.cons r1 r2,I2,ff,ho,q2⟩
def Uv(P:Program)(w:World)(K:aa)(mg:w1d)(kf:Nat)(qual:Str)(js:w1e)(tb:Heap->TE)(oJ:Heap->Sp)(t:TAL):TE:=λσ H Q=>∃ws:List V,js.map (λj=>σ[j]?)=ws.map (λv=>some<|some v)/\
 t σ H λvs f c H2=>∀eH:Heap,IZ P w K mg eH (kf+1) f (λxs H Q _=>O0 H c qual/\∃v,xs=[v]/\tb eH (some v::ws.map some) H Q)->oJ eH (vs++[.ref f]) H2 Q E0
def Ij{k kf:Nat}{g:Addr}{fd:FuncData}{ps:w1f}{oJ:Heap->Sp}{x pn:Str}{fr:w1f}{js:w1e}{p pos:Pos}{e:Expr}{es:List Expr}{params:Arguments}{body:Expr}{scope:Scope}{t:TAL}{tb:Heap->TE}
    (G:∀eH:Heap,w8 X.prog X.w X.K X.mg eH F6 k g fd ps<|oJ eH) (hr:L9 k X.A) (hg:Gl X x) (hm:X.mg x=some (.ref g)) (hk:PySem.W.keepIn X.K (.ref g)=true) (hb:M8 X.K fd ps []) (hL:PAL X params body scope (e::es) t) (S:Zg X pn fr js scope)
    (eZ:∀eH f cd fc A outer s0 H0,L9 kf (A.deeper<|Tx (X.env.qual++"<lambda>") scope s0.heap.objs.size f cd fc)->PE (p0s X.prog X.w X.K X.mg eH (pn::fr) (X.env.qual++"<lambda>") scope f cd fc A outer s0 H0) body (tb eH))
    (fj:∀fc pm cd fi u,bindArgs (kla_fn "<lambda>" (X.env.qual++"<lambda>") params body scope fc pm cd fi) ⟨[u],[]⟩=pure [(pn,u)])
    (ik:(x == ("__debug__":Str))=false:=by decide) (he:starEach (e::es) X.env=(false,eval e X.env)::starEach es X.env:=by rfl) (fX:(backTo pos<|starEach es X.env).any (·.1)=false:=by rfl) :
    PE X (.Call (.Name x p) (e::es) [] pos) (Uv X.prog X.w X.K X.mg kf (X.env.qual++"<lambda>") js tb oJ t):=by
 intro aS s σ H Q I h;obtain⟨ws,pD,h⟩:=h;show wpAny_Call_Name_kw<|Fu I hg hm ?_ ik;show dy (h₀:=X.base) I.ok.mod.kin hk (K0 (hL pos aS s σ H _ I h) λus s1 hζ=>?_) he fX;obtain⟨jg,vs,f,c',pm,fi,H1,e1,r,I1,ff,ho,q⟩:=hζ;show ⟨I1.kIn,?_⟩;subst e1;have q1:=q _<|p0m I1 S ff ho pD (eZ _ f) fj;have F:=G<|By X H1 s1.heap;have r2:z9 (vs++[.ref f]) (jg++[Value.ref f]):=r.append<|.cons U .nil;have hl:((jg++[Value.ref f])++[]).length=ps.length:=by rw[bw,<- r2.length];exact F.len _ _ _ _ q1
 have pN:=hb s1 (jg++[Value.ref f]) I1.kIn hl;rw[bw]at pN;show wpAny_call<|codeAny_mono (F.run X.A X.stack s1 H1 ⟨jg++[Value.ref f],[]⟩ _ _ Q E0 hr (WH I1) pN r2 q1) λr s' hq=>?_;cases r with
 | error e=>exact False.elim hq
 | ok fl=>
  cases fl with
  | ret u=>exact I1.after hq
  | next=>exact False.elim hq
  | brk=>exact False.elim hq
  | cont=>exact False.elim hq
end
def Tr{P:Program}{w:World}{A:Around}{s:Shared}{q c' a:Addr}{pn qual:Str}{params:Arguments}{scope:Scope}{pm fi:Value}{fc:List (Str × Addr)}{its:Array Value}{n:Int}{t:Tok}{p1 p2 p3:Pos}{j:Nat}
    (mW:A.depth < recursionLimit) (kg:s.heap.NoLimit) (ho:s.heap.get? q=some (kla_obj "<lambda>" qual params (.Subscript (.Name pn p1) (.Constant (.int 0) j p2) p3) scope fc pm c' fi)) (gk:s.heap.CodeRec (.ref c') qual) (Sc:Si pn [] scope)
    (fj:bindArgs (kla_fn "<lambda>" qual params (.Subscript (.Name pn p1) (.Constant (.int 0) j p2) p3) scope fc pm (.ref c') fi) ⟨[.ref a],[]⟩=pure [(pn,.ref a)]) (ht:IsTup s.heap a its) (h0:its[0]? = some (.int n t)) (sI:(pn == ("__debug__":Str))=false) :
    wpAny (model P w) A (call (.ref q) [.ref a]) (λu s'=>∃h' tk t',u=.int n t'/\s'={ s with heap:=h',toks:=tk }/\∀b o,s.heap.get? b=some o->h'.get? b=some o) (λ_ _=>False) s:=by
 show wpAny_call ?_;show kla_callFunE mW ho rfl Sc.co Sc.gen rfl gk<|BindsTo.of_eq (s:=s) fj _ _ _ _ ?_;show wpAny_newFunctionEnv Sc.nocell (λy hy=>by rw[ar.mp hy];exact Sc.par) (λh' lJ sC=>?_) Sc.kind;have kp:∀b o,s.heap.get? b=some o->h'.get? b=some o:=λb o e=>sC.extBut b o (aC<|ao e)<|ak _ e;show⟨kg.keeps kp,kla_codeExpr ?_⟩;have vN:IsTup h' a its:=by obtain⟨o,e,c⟩:=ht;exact⟨o,kp _ _ e,c⟩
 have hz:0 < its.size:=(Array.getElem?_eq_some_iff.mp h0).1;show Subscript_ (wpAny_Name (wpAny_loadName_local Sc.kind (show Env.kindOf _ pn=some .local from Sc.par) lJ (v:=.ref a) (by simp) ?_) sI);show wpAny_Constant_int ?_;show subscriptTail_builtinR (x:=.int n t) (s:={ s with heap:=h',toks:=_ }) vN.typeIs slot_tuple_getitem.lookup (getItem_tuple (j:=0) vN bD bD ?_ h0 ⟨U,?_⟩) bR
 . unfold seqIndex?;simp[hz]
 . exact⟨h',_,t,U,U,kp⟩
def adr:Value->Addr
 | .ref a=>a
 | _=>0
def Vf{kz:List Int}{as:List Addr}{ps:List (Int × Value)}(h:ps.Perm (kz.zip<|as.map Value.ref)):∃zs:List (Int × Addr),zs.Perm (kz.zip as)/\ps=zs.map λz=>(z.1,Value.ref z.2):=by
 have e0:kz.zip (as.map Value.ref)=(kz.zip as).map λz=>(z.1,Value.ref z.2):=by rw[List.zip_map_right];rfl
 show⟨ps.map λp=>(p.1,adr p.2),?_,?_⟩
 . have:=h.map λp:Int × Value=>(p.1,adr p.2);rw[e0,cI]at this;have e1:(kz.zip as).map ((λp:Int × Value=>(p.1,adr p.2)) ∘ λz=>(z.1,Value.ref z.2))=kz.zip as:=by
    conv=>rhs;rw[<- List.map_id (kz.zip as)]
    rfl
   rwa [e1]at this
 . rw[cI]
   conv=>lhs;rw[<- List.map_id ps]
   show List.map_congr_left λp hp=>?_;have:=h.mem_iff.mp hp;rw[e0]at this;obtain⟨z,_,rfl⟩:=aw.mp this;rfl
section
variable{X:Cx}
def Zv(K:aa)(P:Addr)(qual:Str)(ta:TA):TE:=λσ H Q=>ta σ H λvs H1=>∃(l:Addr) (ps:List Addr) (kz:List Int),vs=[.ref l]/\p9 K H1 l (ps.map V.ref)/\kz.length=ps.length/\ps.length < 64/\Q5 H1 P qual/\
 (∀(i:Nat) p n,ps[i]? = some p->kz[i]? = some n->∃r,H1 p=some (.tup (.int n::r)))/\
 ∀(H2:Hp) (d:Addr) (zs:List (Int × Addr)),OH P H1 H2->Q5 H2 P qual->H2 d=some (.lst (zs.map λz:Int × Addr=>V.ref z.2))->zs.Perm (kz.zip ps)->zs.Pairwise (λp q=>p.1<=q.1)->Q (.ref d) H2
def Vi{c P:Addr}{k:Nat}{pn:Str}{p pos eW mP p1 p2 p3:Pos}{jj:Nat}{e:Expr}{params:Arguments}{scope:Scope}{ta:TA}(hr:L9 (k+3) X.A)(tb':Tb X.mg X.base c P)(gc:X.env.code=.ref c)
    (hg:Gl X "sorted") (hm:X.mg "sorted"=none) (ha:PA X [e] ta) (kN:params.defaults=[]) (iL:params.kw_defaults=[]) (Sc:Si pn [] scope)
    (fj:∀fc pm cd fi u,bindArgs (kla_fn "<lambda>" (X.env.qual++"<lambda>") params (.Subscript (.Name pn p1) (.Constant (.int 0) jj p2) p3) scope fc pm cd fi) ⟨[u],[]⟩=pure [(pn,u)])
    (sI:(pn == ("__debug__":Str))=false:=by decide)
    (kx:backTo pos (starEach [e] X.env)=(false,eval e X.env)::backTo pos (starEach [] X.env):=by rfl) (fX:(backTo pos<|starEach [e] X.env).any (·.1)=false:=by rfl) :
    PE X (.Call (.Name "sorted" p) [e] [⟨some "key",.Lambda params (.Subscript (.Name pn p1) (.Constant (.int 0) jj p2) p3) scope eW,mP⟩] pos) (Zv X.K P (X.env.qual++"<lambda>") ta):=by
 intro aS s σ H Q I h;show wpAny_Call_Name_kw (AH I hg hm (show bootBuiltins "sorted"=some (.builtin "sorted") by decide +kernel) ?_);show callWith_kw (K0 (ha pos aS s σ H _ I h) λus s1 ⟨vs,H1,I1,r1,q1⟩=>?_) kx fX;obtain⟨l,ps,kz,rfl,hl,ed,h64,hT,hk,q⟩:=q1;obtain⟨u,rfl,ru⟩:=r1.one;cases (show u=Value.ref l from ru);show wpAny _ _ (evalAll [(eval (.Lambda params (.Subscript (.Name pn p1) (.Constant (.int 0) jj p2) p3) scope eW) X.env >>= λv=>(standAt pos >>= λ_=>pure v))]) _ _ _;unfold evalAll;show wpAny_bind<|wpAny_bind ?_;show Oi I1 tb' gc kN iL (λy hy hf=>nomatch Sc.all y hy hf) hT λf c' pm fi s2 H2 I2 sp fH hc ff ho=>?_;show wpAny_bind<|wpAny_standAt<|wpAny_pure ?_;show wpAny_bind<|wpAny_holding<|wpAny_pure<|wpAny_pure ?_;show wpAny _ _ (call (.builtin "sorted") [.ref l] [(Str.ofString "key",.ref f)]) _ _ _;obtain⟨iT,hP,_⟩:=id hT;have kH:p9 X.K H2 l (ps.map V.ref):=by
  rcases hl with (z | ⟨o,z⟩) | z
  . exact .inl (.inl<|sp _ _ (Av z hP<|by simp) z)
  . exact .inl (.inr ⟨o,sp _ _ (Av z hP<|by simp) z⟩)
  . exact .inr z
 have iK:∀(i:Nat) p n,ps[i]? = some p->kz[i]? = some n->∃r,H2 p=some (.tup (.int n::r)):=λi p n e1 e2=>by
  obtain⟨r,z⟩:=hk i p n e1 e2;exact⟨r,sp _ _ (Av z hP<|by simp) z⟩
 have hL:=Yr I2 kH;obtain⟨m,hF⟩:=I2.fr;have hN:=Vw (g:=X.base) (h:=s2.heap) (L:=X.env.locals);have all:∀{h':Heap} {own:w1b},Fr X.base X.env.locals h' m->News X.base X.env.locals h' (Dn X.base s2.heap X.env.locals++own)->∀b o,b≠X.env.locals->s2.heap.get? b=some o->h'.get? b=some o:=λ{h' own} F N b o hb e=>by
  cases z:X.base.get? b with
  | some u=>
   have:=I2.bk b u z;rw[e]at this;cases this;exact F.keep b _ z
  | none=>exact(N (b,o)<|bc _<|GO hb z e).1
 have lC:∀{b o},H2 b=some o->b≠X.env.locals:=λe z=>by rw[z,I2.free]at e;cases e
 show ksk_sorted (b:=false) (f:=.ref f) (kz:=kz) (vs:=ps.map Value.ref) hF hN hL (by rw[ag];exact ed) (by rw[ag];exact h64) (ksk_s1 _ _) (λx=>ksk_l1 _ _) (λx=>ksk_t1 _ _) ?turn ?fin
 case turn=>
  intro i v n hv hn h' tk own F N;rw[aE]at hv;obtain⟨a,ea,rfl⟩:=cP.mp hv;obtain⟨r,vQ⟩:=iK i a n ea hn;have kp:=all F N;obtain⟨_,its,rv,⟨o,eo,co⟩,_⟩:=(show M6 X.prog X.w H2 s2.heap a (.tup (.int n::r))from I2.hok a _ vQ);have kJ:∃t,its[0]? = some (Value.int n t):=by obtain⟨u,e1,t,e2⟩:=rv.get (i:=0) (x:=.int n) rfl;exact⟨t,by rw[e1,e2]⟩
  obtain⟨t,kJ⟩:=kJ;have hcr:=hc.rec I2.hok;obtain⟨c2,oc,ws,tq,ec,uA,uD,uz⟩:=hcr;cases ec;have ncL:c'≠X.env.locals:=by obtain⟨oc',uU,t',z,_⟩:=hc;exact lC z
  have kg:h'.NoLimit:=I2.ok.mod.nolimit.keeps F.keep;show wpAny_mono (Tr (s:={ s2 with heap:=h',toks:=tk }) (n:=n) (t:=t) (its:=its.toArray) (a:=a) (by have:=hr.depth;exact this) kg (kp f _ ff.2.1 ho) ⟨c',oc,ws,tq,U,kp c' oc ncL uA,uD,uz⟩ Sc (fj _ _ _ _ _) ⟨o,kp a o (lC vQ) eo,co⟩ (by simpa using kJ) sI) (λu s' hu=>?_) λ_ _ z=>z;obtain⟨h2,tk2,t2,rfl,rfl,kk⟩:=hu;exact⟨h2,tk2,t2,U,U,⟨F.ns.keeps kk,λb o e=>kk b o<|F.keep b o e,F.above⟩,λp hp=>⟨kk _ _ (N p hp).1,(N p hp).2⟩⟩
 case fin=>
  intro D h' tk out cc F N lt jZ;have N':News X.base X.env.locals h' (Dn X.base s2.heap X.env.locals++[]):=λp hp=>N p (aA _<|by simpa using hp);have kp:=all F N';obtain⟨gD,nDL,nDB⟩:=N (D,seqObj "list" out cc) ax;have neD:∀b o,s2.heap.get? b=some o->b≠X.env.locals->b≠D:=λb o e hb z=>by
   cases zz:X.base.get? b with
   | some u=>rw[z,show X.base.get? D=none from nDB]at zz;cases zz
   | none=>exact aO _ (z▸lt (b,o) (GO hb zz e))
  have HD:H2 D=none:=by
   cases zz:H2 D with
   | none=>rfl
   | some u=>
    obtain⟨ob,eo⟩:=I2.hok.there zz;exact absurd rfl (neD D ob eo<|lC zz)
  obtain⟨vm,pm1,oV,pm3⟩:=jZ;obtain⟨zs,z1,rfl⟩:=Vf pm1;have zl:zs.length=ps.length:=by rw[z1.length_eq,List.length_zip,ed,Nat.min_self]
  have vz:∀zs:List (Int × Addr),z9 (zs.map λz=>V.ref z.2) ((zs.map λz=>(z.1,Value.ref z.2)).map Prod.snd):=λzs=>by
   induction zs with
   | nil=>exact .nil
   | cons z r ih=>exact .cons rfl ih
  have sO:BB X.prog X.w H2 h':=I2.hok.loose λb u hb e=>kp b u (λz=>hb<|by rw[z];exact I2.free) e;have sN:BB X.prog X.w (upd H2 D<|.lst<|zs.map λz=>V.ref z.2) h':=sO.track HD ⟨by rw[ag,zl,sizeLine_eq];omega,_,cc,vz zs,by
   rw[<- oV];exact gD⟩
  have I3:r8 X aS σ (upd H2 D<|.lst<|zs.map λz=>V.ref z.2) { s2 with heap:=h',toks:=tk }:=by
   show I2.step (g':=s2.gens) (d':=s2.drawn) (t':=tk) (ch:=[]) (λ_ z=>nomatch z) (λb o hL _ _ e _=>kp b o hL e) (λb o hL _ _ e _=>⟨o.slots,kp b o hL e⟩) (λb o _ e n=>?_) (λb o _ e=>?_) (λb xs e=>?_) (λb o u e=>?_) (λb iT e=>⟨#[],?_⟩) (λm' hm=>?_) sN I2.bare
   . by_cases hb:b=D
     . by_cases hbL:b=X.env.locals
       . exact absurd (hb.symm.trans hbL) nDL
       . exact absurd hb (neD b o e hbL)
     . rw[l9 hb];exact n
   . by_cases hb:b=X.env.locals
     . obtain⟨o',_,_,e',_⟩:=F.ns;exact⟨o',by rw[hb];exact e'⟩
     . exact⟨o,kp b o hb e⟩
   . rw[l9<|l8 e HD];exact e
   . rw[l9<|l8 e HD];exact e
   . rw[l9<|l8 e HD];simpa using e
   . have:m'=m:=by obtain⟨o1,es1,ep1,a1,a2,_,a4⟩:=hm;obtain⟨o2,kW,ep2,b1,b2,_,b4⟩:=hF.ns;rw[a1]at b1;cases b1;rw[a2]at b2;cases b2;funext y;rw[<- a4 y,<- b4 y]
     rw[this];exact F.ns
  show⟨.ref D,_,I3,U,q _ D zs (λb o hb e=>?_) ?_ b9 z1 ?_⟩
  . have e2:=sp b o hb e;rw[l9<|l8 e2 HD];exact e2
  . obtain⟨qI,wm,ht2,kP⟩:=fH;show⟨qI,(by rw[l9<|l8 wm HD];exact wm),ht2,?_⟩;intro lp v ev;obtain⟨c3,z,rm,qB,t3,y1,y2⟩:=kP lp v ev;exact⟨c3,z,rm,qB,t3,(by rw[l9<|l8 y1 HD];exact y1),y2⟩
  . have:=cH.mp pm3;exact this.imp λh=>by simpa using h
end
end L2
namespace L2
open PySem PySem.Spec PyProof.Rows PySem.Builtin PySem.Builtin.Str
section
variable{X:Cx}
theorem ME:∀{ls:w1f} {its:w1g},z9 (ls.map V.str) its->∃l:List (Str × Tok),its=strValues l/\l.map (·.1)=ls
 | [],_,.nil=>⟨[],U,U⟩
 | x::ls,_,.cons r rs=>by
  obtain⟨t,rfl⟩:=r;obtain⟨l,rfl,e⟩:=ME rs;exact⟨(x,t)::l,U,by rw[aX,e]⟩
def YR(K:aa):V->List V->Hp->VK->Prop:=λx xs H Q=>∃z a ls,x=.str z/\xs=[.ref a]/\p9 K H a (ls.map V.str)/\JoinOk z ls=true/\Q (.str<|Txt.join z ls) H
def Yi:MtR X "str.join" (YR X.K):=by intro aS s σ H x xs v us Q I rx rs h;obtain⟨z,a,ls,rfl,rfl,hq,ok,q⟩:=h;obtain⟨t,rfl⟩:=rx;obtain⟨u,rfl,ru⟩:=rs.one;cases (show u=Value.ref a from ru);obtain⟨its,rv,p,hz⟩:=I.list hq;obtain⟨l,rfl,e⟩:=ME rv;exact PySem.SC.join (l:=l) p.isList e ok λt' k=>⟨.str _,H,I.tok _,⟨_,U⟩,q⟩
end
end L2
namespace HT
open PySem PyProof.Rows
section
open PySem.SeqAt
open PySem.AutoSeq1 (wpAny_loadPart')
open PySem.MeetsSeq PySem.MeetsSeq2 PySem.MeetsSeq3
end
end HT
namespace L2
open PySem PySem.Spec PyProof.Rows PySem.SeqAt
section
variable{X:Cx}
end
section
variable{X:Cx}
end
end L2
namespace L2
open PySem PySem.Spec PyProof.Rows
end L2
namespace HT
open PySem PySem.Spec PyProof.Rows L2
section
variable{prog:Program}{w:World}{A:Around}{E:w1c}{s:Shared}
def Fy{t sl:Addr}{items:Array Value}{vl vu:Value}{lo hi:Option Int}{Q:w1c}(ht:IsTup s.heap t items)(hs:s.heap.IsSliceOf sl vl vu .none)(pl:IsPart vl lo)(pu:IsPart vu hi)
    (hw:S5 items.size 0 lo=0/\S5 items.size items.size hi=items.size) (h:Q (.ref t) s):wpAny (model prog w) A (getItem (.ref t)<|.ref sl) Q E s:=by
 obtain⟨os,kB,lL,nK⟩:=id hs;have iy:s.TypeIs (.ref sl) "slice":=⟨os,kB,lL⟩;unfold getItem
 try with_reducible show wpAny_holding ?_
 first | show wpAny_bind (wpAny_pure ?_) | skip
 show wpAny_bind<|wpAny_sequenceKey ht.typeIs bD ?_;show wpAny_bind (wpAny_callSpecial?_slot (name:=Str.ofString "__getitem__") ht.typeIs dA
  (wpAny_call_entry dA ht.typeIs entry_tuple_getitem ?_<|args_tuple_getitem _ _))
 show wpAny _ _ (Builtin.Tuple.tupleItemsOf (.ref t) >>= _) _ _ s;show wpAny_bind<|tupleItemsOf_ ht ?_;show wpAny_bind<|wpAny_typeOf iy ?_;rw[if_pos bD];show wpAny_bind<|AQ hs pl pu ?_;rw[hw.1,hw.2];have rZ:((((0:Nat):Int) == 0 && (1:Int) == 1 && (items.size - 0) == items.size)=true):=by simp
 show wpAny _ _ (if((((0:Nat):Int) == 0 && (1:Int) == 1 && (items.size - 0) == items.size)=true)then _ else _) _ _ s;rw[if_pos rZ];show wpAny_bind<|wpAny_bind (m:=typeOf<|.ref t)<|wpAny_typeOf ht.typeIs<|wpAny_pure ?_;rw[if_pos bD];show wpAny_bind<|wpAny_rule ?_;exact wpAny_pure ⟨_,rfl,wpAny_pure h⟩
end
end HT
namespace L2
open PySem PySem.Spec PyProof.Rows
def YQ(K:aa):V->Option Int->Option Int->Hp->VK->Prop:=λx lo hi H Q=>∃a xs,x=.ref a/\o9 K H a xs/\H a=some (.tup xs)/\
 ∀p H',h9 H H'->H' p=some (.tup<|BL xs lo hi)->Q (.ref p) H'
def Rf:d0o X (YQ X.K):=by
 intro aS s σ H x v vl vu lo hi sl Q I rx hs pl pu h;obtain⟨a,xs,rfl,hx,iI,q⟩:=h;by_cases hw:HT.S5 xs.length 0 lo=0/\HT.S5 xs.length xs.length hi=xs.length
 . cases rx;obtain⟨its,r,ht,hz⟩:=I.tuple hx;have ed:its.toArray.size=xs.length:=by rw[ay];exact r.length.symm
   show⟨"tuple",_,PyProof.Rows.slot_tuple_getitem.lookup,ht.typeIs,?_⟩;show HT.Fy ht hs pl pu (by rw[ed];exact hw) ?_;show⟨.ref a,H,I,U,q a H (h9.refl _) ?_⟩;rw[iI];unfold BL;rw[hw.1,hw.2,Nat.sub_zero,List.drop_zero,bo]
 . exact ZF aS s σ H _ v vl vu lo hi sl Q I rx hs pl pu ⟨a,xs,U,hx,hw,λp n=>q p _ (c7 n) b9⟩
section
variable{prog:Program}{w:World}{A:Around}{E:w1c}{s:Shared}
end
section
variable{prog:Program}{w:World}{A:Around}{E:w1c}{s:Shared}
end
end L2
namespace L2
open PySem PySem.W PyProof.Rows PySem.AutoSeq1
section
variable{X:Cx}
end
end L2
set_option maxHeartbeats 0
def PySem.W.Fast.tw12748184944858748183:PySem.Program:=PySem.Challenge.pw_weighwalk_k55_whole_alike_and_least
local macro_rules | `(tactic| trivial)=>`(tactic| ((try rw[Fast.te15667345088766844465]);(try rw[Fast.te14082659384304107361]);(try rw[Fast.te14374325043358763698]);(try rw[Fast.te10110043849684766642]);(try rw[Fast.te14364793385576792824]);(try rw[Fast.te11892475500146522536]);(try rw[Fast.te4187177175401517315]);(try rw[Fast.te5923862056798008813]);(try rw[Fast.te8920871248978507458]);kernel_rfl))
def PySem.W.Fast.te12748184944858748183:PySem.Challenge.pw_weighwalk_k55_whole_alike_and_least=PySem.W.Fast.tw12748184944858748183:=rfl
namespace H55
open PySem PySem.W
noncomputable section
abbrev q0:=SL.s658472552662922059x5
abbrev q1:=SL.s14018661285674007319x4
abbrev q2:=SL.s6070975301684473832x10
abbrev q3:=SL.s11030030927630378310x26
abbrev q4:=SL.s10062305145149207511x16
abbrev q5:=SL.s17162191345867700912x4
abbrev q6:=SL.s5946037652744460706x9
abbrev q7:=SL.s4278001404047624695x13
abbrev q8:=SL.s2742458400755230247x6
abbrev q9:=SL.s4209523147560561109x18
abbrev q10:=SL.s14755015743595814543x17
abbrev q11:=SL.s4290257624100764138x5
abbrev OL:=SL.s4860613602091757760x24
abbrev q13:=SL.s11443829558043349243x14
def i(n:Int):Value:=.int n 0
def r(n:Addr):Value:=.ref n
def tu(a:Array Value)(n:Nat):Obj:=⟨.type SL.s2766695959194262286x5,none,.seq a n,#[]⟩
def co(a:Array Value):Obj:=⟨.type SL.s5856160107412720595x4,none,.fields a,#[]⟩
def fo(n q:Str)(s:Stmt)(m c:Value):Obj:=⟨.type SL.s7174869446012820540x8,none,.func ⟨n,q,L2.F5 s,.stmts<|L2.D8 s,L2.a8 s,3,[],.none,.none,.none,m,none,c,.none,0⟩,#[]⟩
def f0(n q:Str)(s:Stmt):Obj:=⟨.none,none,.func ⟨n,q,L2.F5 s,.stmts<|L2.D8 s,L2.a8 s,0,[],.none,.none,.none,.none,none,.none,.none,0⟩,#[]⟩
abbrev nd:=@BT.node
abbrev nl:=BT.nil
abbrev lf(x:Obj):BT:=.node x .nil .nil
abbrev kh:=@PySem.PyData.keyHash
abbrev pW:=PySem.Challenge.pw_weighwalk_k55_whole_alike_and_least
def g9(i:Nat):Stmt:=pW.main.body.getD i (.Pass ⟨0,0,0,0⟩)
def dN:Nat->Nat->List Nat
 | 0,_=>[]
 | f+1,n=>match n.beq 0 with
  | true=>[]
  | false=>n % 128::dN f (n / 128)
def sn(n:Nat):Str:=⟨⟨dN 99 n⟩⟩
def s0:=sn 35350842279982780
def s1:=sn 2357460733860917196365705647
def s2:=sn 53901867955744735
def s3:=sn 53901559791857631
def s4:=sn 13861483998089835474861304002297624565548020283649648542536810378349219597407613164
def s5:=sn 421105403244511
def s6:=sn 113039760542812094607327
def s7:=sn 883130438894441148383
def s8:=sn 53901488956436447
def s9:=sn 30344151541145318921183520387039
def WQ:=sn 14469218985635115783729119
def TR:=sn 53901559540068319
def Ms:=sn 883122557733039566815
def Jc:=sn 29219126239
def US:=sn 1059527485210603713239
def UR:=sn 3465723181006
def s16:=sn 7268148298414553431
def s17:=sn 65763158886053838
def s18:=sn 3499278153557
def s19:=sn 4018155108302
def s20:=sn 509789213652974
def s21:=sn 245004149
def s22:=sn 8637845807904290036
def s23:=sn 8413708677377898467
def WO:=sn 948836330527398770659
def s25:=sn 1914852
def s26:=sn 4184036210674
def s27:=sn 7988215201394064610
def s28:=sn 57336327856192738
def s29:=sn 31100499954
def s30:=sn 601770825760040032270655173063963374
def s31:=sn 3497399218914
def s32:=sn 938825954143424559856
def s33:=sn 56743145087218925
def SN:=sn 930176747112159081198
def s35:=sn 456806758904556
def s36:=sn 67483170374514288
def s37:=sn 443305791420003
def s38:=sn 236548843
def s39:=sn 8354106484738241259
def s40:=sn 57912370749060343
def s41:=sn 487628251738597
def s42:=sn 3463312093421
def s43:=sn 118998497416701680562923
def s44:=sn 68551248212439280
def Ib:=sn 1067958212234468489574
def ZI:=sn 67036844960590972611422421793785066743
def WN:=sn 929384109007898769766
def d0i:=sn 8343920028383967841
def s49:=sn 56743316885909742
def s50:=sn 492194607364067
def s51:=sn 1078180824080776378356
def s52:=sn 31081394920
def s53:=sn 57912373968138988
def s54:=sn 31381287660
def s55:=sn 243069676
def s56:=sn 456806792737008
def d0h:=sn 528795963481232634269054977774975335
def WM:=sn 57336327837528311
def s59:=sn 27338110561
def s60:=sn 456806780156660
def s61:=sn 57336776418130409
def s62:=sn 505222325449956
def s63:=sn 62416317159340390
def s64:=sn 57340970975885801
def s65:=sn 367430873507014
def s66:=sn 529798632943928514736
def s67:=sn 12624828682026729331812301
def s68:=sn 172336251032527473007704238407
def e0s:=sn 1021914557058473523689
def s70:=sn 939405744834617045746
def s71:=sn 8426683116950221550
def ZH:=sn 211530955
def s73:=sn 27071706310
def s74:=sn 8349039631521052998
def s75:=sn 65187494496105170
def s76:=sn 8426682910831572575
def s77:=sn 939974376926731597407
def UQ:=sn 17359306920133061789644383
def s79:=sn 67482964224144991
def s80:=sn 8352967321978435167
def s81:=sn 1068027428587418711647
def s82:=sn 1069180912801460811359
def s83:=sn 452440427624031
def s84:=sn 8423349363374847583
def s85:=sn 7268149395797341791
def s86:=sn 137915340185300882716255
def s87:=sn 15393529555129685134308959
def s88:=sn 929681940731938764383
def s89:=sn 15231853642127473347425887
def s90:=sn 7342485246647498335
def s91:=sn 15231881530645660210591327
def s92:=sn 65793839485974111
def s93:=sn 8127822628061214303
def s94:=sn 1067958212234506171999
def s95:=sn 929384109007936452191
def s96:=sn 17513836086728843905758815
def s97:=sn 63014823846770271
def s98:=sn 966712182081171519071
def s99:=sn 65187630621947487
def ZR:=sn 491988486485599
def ZQ:=sn 1962220
def s102:=sn 107
def AV:=sn 883123151916293124063
def BJ:=sn 4701359296062669796661670190936823
def Jw:=sn 14469089781839015725264863
def AU:=sn 30344074158132277796980072755167
def AS:=sn 133454983862861831018029446609853876543483871
def XE:=sn 113039831549272488013791
def s109:=sn 4697231691935424025109761959293687
def Ge:=sn 211530987
def SQ:=sn 1964018
def s112:=sn 3809077835747
def s113:=sn 29196367860
def Ic:=sn 120
def UT:=sn 121
def XD:=sn 448010674303213
def s117:=sn 76959527405706993652690204727243862775
def Jv:=sn 1668975
def ZP:=sn 30815173231
def s120:=sn 69030685704087611582940400770510123767
def s121:=sn 36719194879237978350877717197559
def ZO:=sn 28162209015
def XC:=sn 27321202288
def XA:=sn 245117675
def ZN:=sn 245166834
def Xz:=sn 243136498
def Ju:=sn 211498996
def s128:=sn 31381566694
def s129:=sn 29779294567
def g0b:=sn 245166316
def s131:=sn 28160129382
def s132:=sn 240808176
def s133:=sn 37048485259150746188863889896183
def s134:=sn 32275144254994814856296232809207
def s135:=sn 220018658
def ZM:=sn 27881272436
def s137:=sn 4700393738964033752103621815333623
def s138:=sn 65811471622830439
def g0a:=sn 244953836
def f0z:=sn 1849332
def f0y:=sn 3775253002210
def s142:=sn 3463326495859
def f0x:=sn 3944329476846
def s144:=sn 3947051413734
def s145:=sn 36694686467767925459708255302391
def Xy:=sn 245248756
def f0w:=sn 53902072520191967
def Xx:=sn 56773483100109289
def Xw:=sn 31096108272
def Ac:=sn 215692019
def f0v:=sn 249692419271657566055171716294
def f0u:=sn 136762130496189453923526
def Nm:=sn 4013864876014
def Nl:=sn 243103344
def Nk:=sn 31083689204
def Nj:=sn 31117260013
def Ni:=sn 448184882935657
def Nh:=sn 8417684337481742825
def Ng:=sn 29779293299
def Nf:=sn 211317490
def f0t:=sn 249693942900369443720068102470
def f0s:=sn 4738735239314492059302342734412102
def f0r:=sn 1970378332810994856972810566
def f0q:=sn 287005771327406520212613790022
def f0p:=sn 36697143015659284620394997774662
def f0o:=sn 36736776431465389278236685924678
def f0n:=sn 529123317326050987060295870736529734
def f0m:=sn 9937847594675139374987317671213250672966
def f0l:=sn 35157184140118180154008019695942
def s170:=sn 3978691179760
def f0k:=sn 249479658437659509264028825926
def Xv:=sn 53902074141372383
def ZL:=sn 27342305648
def f0j:=sn 497158883364006940381786093148500690
def f0i:=sn 1950733928909096901437878994
def f0h:=sn 37021369057144469173921927459538
def f0g:=sn 15393580725046519694947026
def f0f:=sn 2242232588495324061535892178
def f0e:=sn 286696429809838121719210767058
def f0d:=sn 287006065870823314358598955730
def s181:=sn 513606627883376
def s182:=sn 3501140572403
def f0c:=sn 4133775916609773336369183864976082
def f0b:=sn 77639434333399526367088379928728367826
def f0a:=sn 274665501094673243075562500818
def e0z:=sn 1949059831544175538500072146
def SO:=sn 32292397437976189666475158042207
def e0y:=sn 8781323754941216351
def e0x:=sn 930329895887808525919
def e0w:=sn 137989276334399845594719
def s191:=sn 7263065528908412511
def s192:=sn 7843466381129971295
def ZK:=sn 57345570095265375
def e0v:=sn 1058801290007509759583
def s195:=sn 63542589428102751
def s196:=sn 129716705428967878325855
def s197:=sn 535556634736223
def Hb:=sn 252284354985268781312971929183
def Xu:=sn 4148921136735
def ZJ:=sn 4183280875103
def s201:=sn 135526128861644626359903
def s202:=sn 939474468468921235039
def Xs:=sn 529078639623794880859091104005912159
def s204:=sn 8423912107169838687
def s205:=sn 3702244537951
def s206:=sn 3633525061215
def s207:=sn 3667884799583
def e0u:=sn 67483170382575199
def s209:=sn 130878917859640350373471
def s210:=sn 1003179560991236585055
def e0t:=sn 7270427996206954079
def s212:=sn 135527429768549519357535
def s213:=sn 529078639625915187390690262777362015
def s214:=sn 7346962664154232415
def s215:=sn 68547669436954207
def s216:=sn 252284354984113581345394423391
def s217:=sn 2239817037646047366593672799
def x0:Obj:=⟨.none,none,.fields #[],#[]⟩
def e0:Obj:=tu #[] 0
def dI(P:Params)(l:List (Str × Nat × Value))(n:Nat):Obj:=⟨.type q1,none,.dict ⟨l.map λx=>⟨kh P x.1,.str x.1 x.2.1,x.2.2⟩⟩ n,#[]⟩
def tV:w1e->List Value
 | a::b::c::l=>i a::i b::r c::tV l
 | _=>[]
def tB(l:w1e):Obj:=⟨.none,none,.fields ⟨tV l⟩,#[]⟩
def cC(n:Str)(t l a:Nat):Obj:=co #[.str n t,.str n<|t+1,.str s1<|t+2,i l,i 0,i 0,i 0,i 0,r a,.bool false,i 181,r<|a+1,.none,.none,.none,.none,i<|t+3,i l,.str s1<|t+4]
def pL(a b:Nat)(s:Value):Obj:=⟨.type q0,none,.plain,#[some<|r a,some<|r 3,some<|r b,none,some s,none,some<|r 0]⟩
def cL(n:Str)(b m:w1g)(d:Nat)(s:w1g)(a t u:Nat)(z:String):Obj:=⟨.type q5,none,.cls ⟨n,b,m,d,n,true,[],s,false,none,false⟩,#[some<|r a,none,some<|.str n t,some<|.str n u,some<|.builtin z,some<|.bool true]⟩
def x3(a:Nat):Obj:=⟨.type q11,none,.fields #[r a,r a,r a],#[]⟩
def x2(a:Nat):Obj:=⟨.type q3,none,.fields #[.builtin OL,r a],#[]⟩
def x1:Obj:=⟨.type q3,none,.fields #[.builtin q4,.type q5],#[]⟩
def m0:Value:=.str s2 164
def m1:Value:=.str s109 294
def m2:Value:=.str s117 356
def m3:Value:=.str s120 365
def m4:Value:=.str s121 393
def m5:Value:=.str s133 491
def m6:Value:=.str s134 567
def m7:Value:=.str s137 608
def m8:Value:=.str s145 645
def m9:Value:=.str s4 930
def vr:w1f->Nat->List Value
 | [],_=>[]
 | x::l,t=>.str x t::vr l (t+1)
def cO(n q:Str)(t l k a v:Nat):Obj:=co #[.str n t,.str q<|t+1,.str s1<|t+2,i l,i k,i 0,i 0,i 3,r a,.bool true,i 181,r<|a+1,.none,r<|a+2,r<|a+3,r<|a+4,i<|t+3+v,i l,.str s1<|t+4+v]
def cN(n:Str)(t l k a v:Nat):Obj:=cO n n t l k a v
def fN(n:Str)(j:Nat)(m:Value)(c:Nat):Obj:=fo n n (g9 j) m (r c)
def f1:Obj->Obj
 | ⟨_,_,.func ⟨n,q,a,b,s,_,_,_,_,_,_,_,_,_,_⟩,_⟩=>⟨.none,none,.func ⟨n,q,a,b,s,0,[],.none,.none,.none,.none,none,.none,.none,0⟩,#[]⟩
 | o=>o
def D(t:Nat)(vs:w1f)(c f:Obj)(l:List Obj):List Obj:=e0::x0::tu ⟨vr vs t⟩ 0::e0::f1 f::c::f::l
def oL:List Obj->Nat->BT->BT
 | [],_,t=>t
 | o::l,n,t=>oL l (n+1) (t.ins n o)
def eO(n q:Str)(t l k a:Nat):Obj:=co #[.str n t,.str q<|t+1,.str s1<|t+2,i l,i k,i 0,i 0,i 3,r a,.bool true,i 181,r<|a+1,.none,.none,.none,r<|a+2,i<|t+3,i l,.str s1<|t+4]
def eN(n:Str)(t l k a:Nat):Obj:=eO n n t l k a
def E(c f:Obj)(l:List Obj):List Obj:=e0::x0::f1 f::c::f::l
def a0r:Obj:=e0
def n0t:Obj:=x0
def a0q:Obj:=cC s0 182 1 11
def a0p:Obj:=pL 13 3 m0
def o3(P:Params):Obj:=dI P [(s3,165,m9),(s5,166,.none),(s6,167,.none),(s7,168,.builtin SL.s7097527257260152453x26),(s8,169,.none),(s9,170,r 6),(WQ,171,r 4),(TR,173,.str s1 172),(Ms,174,.none),(Jc,193,r 21),(US,213,r 31),(UR,229,r 44),(s16,245,r 56),(s17,261,r 68),(s18,277,r 80),(s19,293,r 92),(s20,301,r 99),(s21,307,r 104),(s22,313,r 109),(s23,319,r 114),(WO,325,r 119),(s25,337,r 126),(s26,343,r 131),(s27,349,r 136),(s28,355,r 141),(s29,364,r 148),(s30,374,r 155),(s31,380,r 160),(s32,386,r 165),(s33,392,r 170),(SN,401,r 177),(s35,411,r 184),(s36,417,r 189),(s37,429,r 196),(s38,441,r 203),(s39,452,r 210),(s40,459,r 217),(s41,470,r 224),(s42,476,r 229),(s43,484,r 236),(s44,490,r 241),(Ib,506,r 248),(ZI,512,r 253),(WN,522,r 260),(d0i,528,r 265),(s49,534,r 270),(s50,540,r 275),(s51,548,r 282),(s52,554,r 287),(s53,560,r 292),(s54,566,r 297),(s55,574,r 302),(s56,580,r 307),(d0h,589,r 314),(WM,595,r 319),(s59,601,r 324),(s60,607,r 329),(s61,616,r 336),(s62,627,r 343),(s63,636,r 350),(s64,644,r 357),(s65,648,.str s66 647),(s67,650,.int 30 649),(s68,652,.int 1000000 651),(e0s,658,r 362),(s70,665,r 369),(s71,672,r 376),(ZH,692,r 386),(s73,722,r 414),(s74,820,r 496),(s75,929,r 585),(s76,940,r 594),(s77,949,r 601),(UQ,957,r 608),(s79,966,r 615),(s80,975,r 622),(s81,984,r 629),(s82,992,r 636),(s83,1000,r 643),(s84,1008,r 650),(s85,1015,r 657),(s86,1023,r 664),(s87,1029,r 669),(s88,1035,r 674),(s89,1041,r 679),(s90,1047,r 684),(s91,1061,r 691),(s92,1073,r 698),(s93,1079,r 703),(s94,1085,r 708),(s95,1096,r 715),(s96,1102,r 720),(s97,1115,r 727),(s98,1124,r 734),(s99,1130,r 739),(ZR,1136,r 744),(ZQ,1150,r 751)] 97
def o20:=cN Jc 187 1 1 15 1
def o21:=fN Jc 0 m0 20
def o30(P:Params):Obj:=dI P [(AV,203,.str BJ 194),(AU,207,.int 5 206),(AS,208,r 29),(XE,210,r 32),(s5,211,.none)] 3
def o31:Obj:=cL US [.type q2] [r 31,.type q2,.type q6,.type q7,.type q8] 30 [r 44,r 56,r 68,r 80,r 92] 22 196 204 q9
def o43(P:Params):Obj:=dI P [(AV,221,.str BJ 194),(AU,225,.int 7 224),(AS,226,r 42),(s5,227,.none)] 2
def o44:Obj:=cL UR [r 31] [r 44,r 31,.type q2,.type q6,.type q7,.type q8] 43 [] 35 214 222 q9
def o55(P:Params):Obj:=dI P [(AV,237,.str BJ 194),(AU,241,.int 9 240),(AS,242,r 54),(s5,243,.none)] 2
def o56:Obj:=cL s16 [r 31] [r 56,r 31,.type q2,.type q6,.type q7,.type q8] 55 [] 47 230 238 q9
def o67(P:Params):Obj:=dI P [(AV,253,.str BJ 194),(AU,257,.int 11 256),(AS,258,r 66),(s5,259,.none)] 2
def o68:Obj:=cL s17 [r 31] [r 68,r 31,.type q2,.type q6,.type q7,.type q8] 67 [] 59 246 254 q9
def o79(P:Params):Obj:=dI P [(AV,269,.str BJ 194),(AU,273,.int 13 272),(AS,274,r 78),(s5,275,.none)] 2
def o80:Obj:=cL s18 [r 31] [r 80,r 31,.type q2,.type q6,.type q7,.type q8] 79 [] 71 262 270 q9
def o91(P:Params):Obj:=dI P [(AV,285,.str BJ 194),(AU,289,.int 15 288),(AS,290,r 90),(s5,291,.none)] 2
def o92:Obj:=cL s19 [r 31] [r 92,r 31,.type q2,.type q6,.type q7,.type q8] 91 [] 83 278 286 q9
def o98:=eN s20 296 18 2 95
def o99:=fN s20 9 m1 98
def o0d:=eN s21 302 20 3 100
def o0c:=fN s21 10 m1 103
def o0b:=eN s22 308 22 3 105
def o0a:=fN s22 11 m1 108
def n0z:=eN s23 314 24 2 110
def n0y:=fN s23 12 m1 113
def n0x:=eN WO 320 26 1 115
def n0w:=fN WO 13 m1 118
def n0v:=cN s25 326 30 3 120 6
def n0u:=fN s25 14 m1 125
def n0s:=eN s26 338 35 3 127
def n0r:=fN s26 15 m1 130
def n0q:=eN s27 344 37 3 132
def n0p:=fN s27 16 m1 135
def n0o:=eN s28 350 39 3 137
def n0n:=fN s28 17 m1 140
def n0m:=cN s29 358 42 1 142 1
def n0l:=fN s29 19 m2 147
def n0k:=cN s30 367 45 2 149 2
def n0j:=fN s30 21 m3 154
def n0i:=eN s31 375 48 4 156
def n0h:=fN s31 22 m3 159
def n0g:=eN s32 381 52 3 161
def n0f:=fN s32 23 m3 164
def n0e:=eN s33 387 56 1 166
def n0d:=fN s33 24 m3 169
def n0c:=cN SN 395 60 1 171 1
def n0b:=fN SN 26 m4 176
def n0a:=cN s35 402 63 3 178 4
def m0z:=fN s35 27 m4 183
def m0y:=eN s36 412 68 3 185
def m0x:=fN s36 28 m4 188
def m0w:=cN s37 418 70 3 190 6
def m0v:=fN s37 29 m4 195
def m0u:=cN s38 430 76 4 197 6
def m0t:=fN s38 30 m4 202
def m0s:=cN s39 442 85 3 204 5
def m0r:=fN s39 31 m4 209
def m0q:=cN s40 453 90 1 211 1
def m0p:=fN s40 32 m4 216
def m0o:=cN s41 460 92 2 218 5
def m0n:=fN s41 33 m4 223
def m0m:=eN s42 471 97 2 225
def m0l:=fN s42 34 m4 228
def m0k:=cN s43 477 99 2 230 2
def m0j:=fN s43 35 m4 235
def m0i:=eN s44 485 101 4 237
def m0h:=fN s44 36 m4 240
def m0g:=cN Ib 493 108 3 242 8
def m0f:=fN Ib 38 m5 247
def m0e:=eN ZI 507 120 3 249
def m0d:=fN ZI 39 m5 252
def m0c:Obj:=co #[.str WN 513,.str WN 514,.str s1 515,i 125,i 2,i 0,i 0,i 3,r 254,.bool true,i 181,r 255,.none,r 256,r 257,r 258,i 520,i 125,.str s1 521]
def m0b:Obj:=fo WN WN (g9 40) m5 (r 259)
def m0a:=eN d0i 523 127 2 261
def l0z:=fN d0i 41 m5 264
def l0y:=eN s49 529 129 3 266
def l0x:=fN s49 42 m5 269
def l0w:=eN s50 535 136 2 271
def l0v:=fN s50 43 m5 274
def l0u:=cN s51 541 139 2 276 2
def l0t:=fN s51 44 m5 281
def l0s:=eN s52 549 141 2 283
def l0r:=fN s52 45 m5 286
def l0q:=eN s53 555 144 5 288
def l0p:=fN s53 46 m5 291
def l0o:=eN s54 561 150 2 293
def l0n:=fN s54 47 m5 296
def l0m:=eN s55 569 157 3 298
def l0l:=fN s55 49 m6 301
def l0k:=eN s56 575 160 3 303
def l0j:=fN s56 50 m6 306
def l0i:=cN d0h 581 162 3 308 3
def l0h:=fN d0h 51 m6 313
def l0g:=eN WM 590 166 3 315
def l0f:=fN WM 52 m6 318
def l0e:=eN s59 596 171 3 320
def l0d:=fN s59 53 m6 323
def l0c:=eN s60 602 180 3 325
def l0b:=fN s60 54 m6 328
def l0a:=cN s61 610 187 1 330 1
def k0z:=fN s61 56 m7 335
def k0y:=cN s62 617 189 2 337 5
def k0x:=fN s62 57 m7 342
def k0w:=cN s63 628 197 2 344 3
def k0v:=fN s63 58 m7 349
def k0u:=cN s64 637 206 1 351 2
def k0t:=fN s64 59 m7 356
def k0s:=eN e0s 653 219 1 358
def k0r:=fN e0s 64 m8 361
def k0q:=cN s70 659 228 1 363 1
def k0p:=fN s70 65 m8 368
def k0o:=cN s71 666 232 1 370 1
def k0n:=fN s71 66 m8 375
def k0m(P:Params):Obj:=dI P [(AV,680,m8),(AU,684,.int 235 683),(AS,685,r 384),(f0w,687,r 387),(XE,689,r 388),(s5,690,.none)] 4
def k0l:Obj:=⟨.type q5,none,.cls ⟨ZH,[.type q8],[r 386,.type q8],385,ZH,true,[],[r 414],false,none,false⟩,#[none,none,some<|.str ZH 673,some<|.str ZH 681,some<|.builtin q13,some<|.bool true]⟩
def k0k:=cO Xx f0v 705 239 1 398 1
def k0j:=fo Xx f0v (L2.y7 (g9 68) 0) m8 (r 403)
def k0i:=cO Xw f0u 712 242 1 405 1
def k0h:=fo Xw f0u (L2.y7 (g9 68) 1) m8 (r 410)
def k0g(P:Params):Obj:=dI P [(AV,700,m8),(AU,704,.int 237 703),(Xx,711,r 404),(Xw,718,r 411),(AS,719,r 412),(s5,720,.none)] 2
def k0f:Obj:=cL s73 [r 386] [r 414,r 386,.type q8] 413 [r 496,r 585] 391 693 701 q13
def k0e:=cO Ju f0t 735 246 1 424 1
def k0d:=fo Ju f0t (L2.y7 (g9 69) 0) m8 (r 429)
def k0c:=cO Nm f0s 742 249 1 431 1
def k0b:=fo Nm f0s (L2.y7 (g9 69) 1) m8 (r 436)
def k0a:=cO Jv f0r 749 252 1 438 1
def j0z:=fo Jv f0r (L2.y7 (g9 69) 2) m8 (r 443)
def j0y:=cO Nl f0q 756 255 3 445 3
def j0x:=fo Nl f0q (L2.y7 (g9 69) 3) m8 (r 450)
def j0w:=cO Nk f0p 765 258 3 452 3
def j0v:=fo Nk f0p (L2.y7 (g9 69) 4) m8 (r 457)
def j0u:=cO Nj f0o 774 261 2 459 2
def j0t:=fo Nj f0o (L2.y7 (g9 69) 5) m8 (r 464)
def j0s:=cO Ni f0n 782 264 2 466 2
def j0r:=fo Ni f0n (L2.y7 (g9 69) 6) m8 (r 471)
def j0q:=cO Nh f0m 790 267 2 473 2
def j0p:=fo Nh f0m (L2.y7 (g9 69) 7) m8 (r 478)
def j0o:=cO Ng f0l 798 274 2 480 2
def j0n:=fo Ng f0l (L2.y7 (g9 69) 8) m8 (r 485)
def j0m:=cO Nf f0k 806 277 2 487 5
def j0l:=fo Nf f0k (L2.y7 (g9 69) 9) m8 (r 492)
def j0k(P:Params):Obj:=dI P [(AV,730,m8),(AU,734,.int 244 733),(Ju,741,r 430),(Nm,748,r 437),(Jv,755,r 444),(Nl,764,r 451),(Nk,773,r 458),(Nj,781,r 465),(Ni,789,r 472),(Nh,797,r 479),(Ng,805,r 486),(Nf,816,r 493),(AS,817,r 494),(s5,818,.none)] 2
def j0j:Obj:=cL s74 [r 414] [r 496,r 414,r 386,.type q8] 495 [] 417 723 731 q13
def j0i:=cO Xv f0j 833 289 2 506 2
def j0h:=fo Xv f0j (L2.y7 (g9 70) 0) m8 (r 511)
def j0g:=cO Ju f0i 841 294 1 513 2
def j0f:=fo Ju f0i (L2.y7 (g9 70) 1) m8 (r 518)
def j0e:=cO Nm f0h 849 298 1 520 1
def j0d:=fo Nm f0h (L2.y7 (g9 70) 2) m8 (r 525)
def j0c:=cO Jv f0g 856 301 1 527 1
def j0b:=fo Jv f0g (L2.y7 (g9 70) 3) m8 (r 532)
def j0a:=cO Nl f0f 863 304 3 534 3
def i0z:=fo Nl f0f (L2.y7 (g9 70) 4) m8 (r 539)
def i0y:=cO Nk f0e 872 307 3 541 3
def i0x:=fo Nk f0e (L2.y7 (g9 70) 5) m8 (r 546)
def i0w:=cO Nj f0d 881 310 2 548 2
def i0v:=fo Nj f0d (L2.y7 (g9 70) 6) m8 (r 553)
def i0u:=cO Ni f0c 889 313 2 555 5
def i0t:=fo Ni f0c (L2.y7 (g9 70) 7) m8 (r 560)
def i0s:=cO Nh f0b 900 326 2 562 2
def i0r:=fo Nh f0b (L2.y7 (g9 70) 8) m8 (r 567)
def i0q:=cO Ng f0a 908 329 2 569 2
def i0p:=fo Ng f0a (L2.y7 (g9 70) 9) m8 (r 574)
def i0o:=cO Nf e0z 916 332 2 576 3
def i0n:=fo Nf e0z (L2.y7 (g9 70) 10) m8 (r 581)
def i0m(P:Params):Obj:=dI P [(AV,828,m8),(AU,832,.int 287 831),(Xv,840,r 512),(Ju,848,r 519),(Nm,855,r 526),(Jv,862,r 533),(Nl,871,r 540),(Nk,880,r 547),(Nj,888,r 554),(Ni,899,r 561),(Nh,907,r 568),(Ng,915,r 575),(Nf,924,r 582),(AS,926,r 583),(s5,927,.none)] 2
def i0l:Obj:=cL s75 [r 414] [r 585,r 414,r 386,.type q8] 584 [] 499 821 829 q13
def i0k:=cN s76 932 338 2 588 3
def i0j:=fN s76 72 m9 593
def i0i:=cN s77 941 347 1 595 3
def i0h:=fN s77 73 m9 600
def i0g:=cN UQ 950 354 2 602 2
def i0f:=fN UQ 74 m9 607
def i0e:=cN s79 958 358 2 609 3
def i0d:=fN s79 75 m9 614
def i0c:=cN s80 967 361 3 616 3
def i0b:=fN s80 76 m9 621
def i0a:=cN s81 976 365 3 623 3
def h0z:=fN s81 77 m9 628
def h0y:=cN s82 985 369 2 630 2
def h0x:=fN s82 78 m9 635
def h0w:=cN s83 993 373 2 637 2
def h0v:=fN s83 79 m9 642
def h0u:=cN s84 1001 377 1 644 2
def h0t:=fN s84 80 m9 649
def h0s:=cN s85 1009 380 1 651 1
def h0r:=fN s85 81 m9 656
def h0q:=cN s86 1016 384 2 658 2
def h0p:=fN s86 82 m9 663
def h0o:=eN s87 1024 390 4 665
def h0n:=fN s87 83 m9 668
def h0m:=eN s88 1030 399 5 670
def h0l:=fN s88 84 m9 673
def h0k:=eN s89 1036 415 3 675
def h0j:=fN s89 85 m9 678
def h0i:=eN s90 1042 424 4 680
def h0h:=fN s90 86 m9 683
def h0g:=cN s91 1048 441 4 685 8
def h0f:=fN s91 87 m9 690
def h0e:=cN s92 1062 454 3 692 6
def h0d:=fN s92 88 m9 697
def h0c:=eN s93 1074 459 3 699
def h0b:=fN s93 89 m9 702
def h0a:=eN s94 1080 461 2 704
def g0z:=fN s94 90 m9 707
def g0y:=cN s95 1086 471 3 709 5
def g0x:=fN s95 91 m9 714
def g0w:=eN s96 1097 476 1 716
def g0v:=fN s96 92 m9 719
def g0u:=cN s97 1103 481 3 721 7
def g0t:=fN s97 93 m9 726
def g0s:=cN s98 1116 494 3 728 3
def g0r:=fN s98 94 m9 733
def g0q:=eN s99 1125 496 3 735
def g0p:=fN s99 95 m9 738
def g0o:=eN ZR 1131 505 3 740
def g0n:=fN ZR 96 m9 743
def g0m:=cN ZQ 1137 513 1 745 8
def g0l:=fN ZQ 97 m9 750
def c0p:Env:={ scope:=pW.main.scope,locals:=mainNs,globals:=mainNs,cells:=[],code:=(r 13),frame:=some 14 }
def cT:Code:=.body (behindTheImports pW) c0p
def qP:Pos:=⟨0,0,0,0⟩
def Ha(P:Params):Heap:=⟨⟨[boot_o_0 P,boot_o_1 P,boot_o_2 P,boot_o_3 P,boot_o_4 P,boot_o_5 P,boot_o_6 P,boot_o_7 P,boot_o_8 P,boot_o_9 P,boot_o_10 P,a0r,n0t,a0q,a0p]⟩,PySem.Life.mk [] [] [] 0 [] [] false #[] [] 0 false false false 0 [2000,10,10] false 0 true [] [] 0 false⟩
def Sa(w:World)(os:OsState):Shared:=⟨Ha w.params,⟨[]⟩,PySem.Drawn.mk 0 0 0 0,187,os⟩
def Tb(P:Params):BT:=(nd (boot_o_0 P) (nd (boot_o_1 P) (nd (boot_o_3 P) (lf<|boot_o_7 P)<|lf a0r)<|nd (boot_o_5 P) (lf<|boot_o_9 P)<|lf a0q)<|nd (boot_o_2 P) (nd (boot_o_4 P) (lf<|boot_o_8 P)<|lf n0t)<|nd (boot_o_6 P) (lf<|boot_o_10 P)<|lf a0p)
def Sb(w:World)(os:OsState):SharedT:=⟨Tb w.params,15,PySem.Life.mk [] [] [] 0 [] [] false #[] [] 0 false false false 0 [2000,10,10] false 0 true [] [] 0 false,⟨[]⟩,PySem.Drawn.mk 0 0 0 0,187,os⟩
def oA(P:Params):List Obj:=boot_o_0 P::boot_o_1 P::boot_o_2 P::o3 P::boot_o_4 P::boot_o_5 P::boot_o_6 P::boot_o_7 P::boot_o_8 P::boot_o_9 P::boot_o_10 P::a0r::tB [1,0,20,5,0,27,7,0,40,9,0,52,11,0,64,13,0,76,15,0,88,18,0,98,20,0,103,22,0,108,24,0,113,26,0,118,30,0,125,35,0,130,37,0,135,39,0,140,42,0,147,45,0,154,48,0,159,52,0,164,56,0,169,60,0,176,63,0,183,68,0,188,70,0,195,76,0,202,85,0,209,90,0,216,92,0,223,97,0,228,99,0,235,101,0,240,108,0,247,120,0,252,125,0,259,127,0,264,129,0,269,136,0,274,139,0,281,141,0,286,144,0,291,150,0,296,157,0,301,160,0,306,162,0,313,166,0,318,171,0,323,180,0,328,187,0,335,189,0,342,197,0,349,206,0,356,219,0,361,228,0,368,232,0,375,235,0,382,237,0,396,244,0,422,287,0,504,338,0,593,347,0,600,354,0,607,358,0,614,361,0,621,365,0,628,369,0,635,373,0,642,377,0,649,380,0,656,384,0,663,390,0,668,399,0,673,415,0,678,424,0,683,441,0,690,454,0,697,459,0,702,461,0,707,471,0,714,476,0,719,481,0,726,494,0,733,496,0,738,505,0,743,513,0,750]::a0q::a0p::D 190 [s102] o20 o21 (tu #[.type q2] 0::x1::dI P [(AV,203,.str BJ 194),(Jw,205,.str US 204),(AU,207,.int 5 206),(AS,208,r 29)] 4::e0::x0::cC US 198 5 25::pL 27 24 (.str BJ 194)::e0::o30 P::o31::⟨.type q10,none,.fields #[.str XE 209,r 31,.builtin SL.s10220274742760427390x26,.none],#[]⟩::x3 31::x2 31::tu #[r 31] 0::x1::dI P [(AV,221,.str BJ 194),(Jw,223,.str UR 222),(AU,225,.int 7 224),(AS,226,r 42)] 4::e0::x0::cC UR 216 7 38::pL 40 37 (.str BJ 194)::e0::o43 P::o44::x3 44::x2 44::tu #[r 31] 0::x1::dI P [(AV,237,.str BJ 194),(Jw,239,.str s16 238),(AU,241,.int 9 240),(AS,242,r 54)] 4::e0::x0::cC s16 232 9 50::pL 52 49 (.str BJ 194)::e0::o55 P::o56::x3 56::x2 56::tu #[r 31] 0::x1::dI P [(AV,253,.str BJ 194),(Jw,255,.str s17 254),(AU,257,.int 11 256),(AS,258,r 66)] 4::e0::x0::cC s17 248 11 62::pL 64 61 (.str BJ 194)::e0::o67 P::o68::x3 68::x2 68::tu #[r 31] 0::x1::dI P [(AV,269,.str BJ 194),(Jw,271,.str s18 270),(AU,273,.int 13 272),(AS,274,r 78)] 4::e0::x0::cC s18 264 13 74::pL 76 73 (.str BJ 194)::e0::o79 P::o80::x3 80::x2 80::tu #[r 31] 0::x1::dI P [(AV,285,.str BJ 194),(Jw,287,.str s19 286),(AU,289,.int 15 288),(AS,290,r 90)] 4::e0::x0::cC s19 280 15 86::pL 88 85 (.str BJ 194)::e0::o91 P::o92::x3 92::x2 92::E o98 o99 (E o0d o0c<|E o0b o0a<|E n0z n0y<|E n0x n0w<|D 329 [Ge,SQ,s112,s113,Ic,UT] n0v n0u<|E n0s n0r<|E n0q n0p<|E n0o n0n<|D 361 [XD] n0m n0l<|D 370 [Jv,ZP] n0k n0j<|E n0i n0h<|E n0g n0f<|E n0e n0d<|D 398 [Ge] n0c n0b<|D 405 [Ge,SQ,ZO,XC] n0a m0z<|E m0y m0x<|D 421 [Ge,XA,SQ,ZN,XC,ZP] m0w m0v<|D 433 [Ge,XA,SQ,ZO,ZN,XC] m0u m0t<|D 445 [Ge,Xz,ZO,XA,SQ] m0s m0r<|D 456 [Xz] m0q m0p<|D 463 [Ge,Xz,Ju,XC,SQ] m0o m0n<|E m0m m0l<|D 480 [Ge,Xz] m0k m0j<|E m0i m0h<|D 496 [Ge,s128,s129,XA,Ju,g0b,s131,s132] m0g m0f<|E m0e m0d (e0::x0::tu #[.str Ge 516,.str XD 517] 0::tu #[.str Ge 518,.str XD 519] 0::f0 WN WN (g9 40)::m0c::m0b::E m0a l0z (E l0y l0x<|E l0w l0v<|D 544 [Ge,XD] l0u l0t<|E l0s l0r<|E l0q l0p<|E l0o l0n<|E l0m l0l<|E l0k l0j<|D 584 [Ge,s135,g0b] l0i l0h<|E l0g l0f<|E l0e l0d<|E l0c l0b<|D 613 [ZM] l0a k0z<|D 620 [Jv,ZP,s138,ZN,g0a] k0y k0x<|D 631 [f0z,f0y,s142] k0w k0v<|D 640 [f0x,s144] k0u k0t<|E k0s k0r<|D 662 [Xy] k0q k0p<|D 669 [Xy] k0o k0n (e0::x1::dI P [(AV,680,m8),(Jw,682,.str ZH 681),(AU,684,.int 235 683),(AS,685,r 384)] 4::e0::x0::cC ZH 675 235 380::pL 382 379 m8::e0::k0m P::k0l::⟨.type q10,none,.fields #[.str f0w 686,r 386,.builtin SL.s6511155373996960695x17,.builtin SL.s12411053484034534018x21],#[]⟩::⟨.type q10,none,.fields #[.str XE 688,r 386,.builtin SL.s10220274742760427390x26,.none],#[]⟩::x3 386::x2 386::tu #[r 386] 0::x1::dI P [(AV,700,m8),(Jw,702,.str s73 701),(AU,704,.int 237 703),(Xx,711,r 404),(Xw,718,r 411),(AS,719,r 412)] 6::e0::tB [239,4,403,242,4,410]::cC s73 695 237 394::pL 396 393 m8::D 708 [Ac] k0k k0j (D 715 [Ac] k0i k0h (e0::k0g P::k0f::x3 414::x2 414::tu #[r 414] 0::x1::dI P [(AV,730,m8),(Jw,732,.str s74 731),(AU,734,.int 244 733),(Ju,741,r 430),(Nm,748,r 437),(Jv,755,r 444),(Nl,764,r 451),(Nk,773,r 458),(Nj,781,r 465),(Ni,789,r 472),(Nh,797,r 479),(Ng,805,r 486),(Nf,816,r 493),(AS,817,r 494)] 14::e0::tB [246,4,429,249,4,436,252,4,443,255,4,450,258,4,457,261,4,464,264,4,471,267,4,478,274,4,485,277,4,492]::cC s74 725 244 420::pL 422 419 m8::D 738 [Ac] k0e k0d (D 745 [Ac] k0c k0b<|D 752 [Ac] k0a j0z<|D 759 [Ac,Ic,UT] j0y j0x<|D 768 [Ac,Ic,UT] j0w j0v<|D 777 [Ac,Ic] j0u j0t<|D 785 [Ac,Ic] j0s j0r<|D 793 [Ac,ZM] j0q j0p<|D 801 [Ac,Ic] j0o j0n<|D 809 [Ac,Xy,s170,f0z,f0y] j0m j0l (e0::j0k P::j0j::x3 496::x2 496::tu #[r 414] 0::x1::dI P [(AV,828,m8),(Jw,830,.str s75 829),(AU,832,.int 287 831),(Xv,840,r 512),(Ju,848,r 519),(Nm,855,r 526),(Jv,862,r 533),(Nl,871,r 540),(Nk,880,r 547),(Nj,888,r 554),(Ni,899,r 561),(Nh,907,r 568),(Ng,915,r 575),(Nf,924,r 582),(AS,926,r 583)] 15::e0::tB [289,4,511,294,4,518,298,4,525,301,4,532,304,4,539,307,4,546,310,4,553,313,4,560,326,4,567,329,4,574,332,4,581]::cC s75 823 287 502::pL 504 501 m8::D 836 [Ac,ZL] j0i j0h (D 844 [Ac,ZL] j0g j0f<|D 852 [Ac] j0e j0d<|D 859 [Ac] j0c j0b<|D 866 [Ac,Ic,UT] j0a i0z<|D 875 [Ac,Ic,UT] i0y i0x<|D 884 [Ac,Ic] i0w i0v<|D 892 [Ac,Ic,s181,s182,g0a] i0u i0t<|D 903 [Ac,ZM] i0s i0r<|D 911 [Ac,Ic] i0q i0p<|D 919 [Ac,Xy,f0x] i0o i0n (tu #[.str ZL 925] 0::i0m P::i0l::x3 585::x2 585::D 935 [SO,e0y,e0x] i0k i0j (D 944 [e0w,s191,s192] i0i i0h<|D 953 [ZK,e0v] i0g i0f<|D 961 [s195,s196,s197] i0e i0d<|D 970 [Hb,Xu,ZJ] i0c i0b<|D 979 [Hb,Xu,ZJ] i0a h0z<|D 988 [Hb,Xu] h0y h0x<|D 996 [Hb,s201] h0w h0v<|D 1004 [SO,s202] h0u h0t<|D 1012 [Hb] h0s h0r<|D 1019 [SO,Hb] h0q h0p<|E h0o h0n<|E h0m h0l<|E h0k h0j<|E h0i h0h<|D 1051 [SO,Hb,Xs,s204,s205,e0y,s206,s207] h0g h0f<|D 1065 [Hb,e0u,s209,s210,Xu,ZJ] h0e h0d<|E h0c h0b<|E h0a g0z<|D 1089 [Hb,Xs,e0t,e0u,s212] g0y g0x<|E g0w g0v<|D 1106 [SO,Hb,s213,s214,Xs,s215,ZK] g0u g0t<|D 1119 [Hb,Xs,e0t] g0s g0r<|E g0q g0p<|E g0o g0n<|D 1140 [e0w,SO,Hb,s216,ZK,e0v,s217,e0x] g0m g0l<|[]))))))))))))
def T0(P:Params):BT:=oL (oA P) 0 .nil
def S0(w:World)(os:OsState):SharedT:=⟨T0 w.params,752,PySem.Life.mk [] [] [] 0 [] [] false #[] [] 0 false false false 0 [2000,10,10] false 0 true [] [] 0 false,⟨[]⟩,PySem.Drawn.mk 0 0 0 0,1151,os⟩
def Hf(P:Params):Heap:=⟨⟨oA P⟩,PySem.Life.mk [] [] [] 0 [] [] false #[] [] 0 false false false 0 [2000,10,10] false 0 true [] [] 0 false⟩
def Sf(w:World)(os:OsState):Shared:=⟨Hf w.params,⟨[]⟩,PySem.Drawn.mk 0 0 0 0,1151,os⟩
def pre_(w:World)(os:OsState):topGo treeTable pW w 11 ((some<|r 6)) 12 ⟨boot_heap w.params,⟨[]⟩,boot_drawn,boot_toks,os⟩ (topStub pW)=some (Sa w os,⟨denote treeTable cT,cT,⟨0,0,0,0⟩,[topFrame qP]⟩):=by trivial
def c0y(w:World)(os:OsState):segRun treeTable pW w 11 ((some<|r 6)) 1 1 (Sa w os) (blockOf (behindTheImports pW) c0p cT ⟨0,0,0,0⟩ [topFrame qP])=some (.next,(Sb w os).abs,cT,⟨0,0,0,0⟩):=by trivial
def e0m:List Stmt:=[g9 0,g9 1,g9 2,g9 3,g9 4,g9 5,g9 6,g9 7,g9 8,g9 9,g9 10,g9 11,g9 12,g9 13,g9 14,g9 15,g9 16,g9 17,g9 18,g9 19,g9 20,g9 21,g9 22,g9 23,g9 24,g9 25,g9 26,g9 27,g9 28,g9 29,g9 30,g9 31,g9 32,g9 33,g9 34,g9 35,g9 36,g9 37,g9 38,g9 39,g9 40,g9 41,g9 42,g9 43,g9 44,g9 45,g9 46,g9 47,g9 48,g9 49,g9 50,g9 51,g9 52,g9 53,g9 54,g9 55,g9 56,g9 57,g9 58,g9 59,g9 60,g9 61,g9 62,g9 63,g9 64,g9 65,g9 66,g9 67,g9 68,g9 69,g9 70,g9 71,g9 72,g9 73,g9 74,g9 75,g9 76,g9 77,g9 78,g9 79,g9 80,g9 81,g9 82,g9 83,g9 84,g9 85,g9 86,g9 87,g9 88,g9 89,g9 90,g9 91,g9 92,g9 93,g9 94,g9 95,g9 96,g9 97]
def pc0(w:World)(os:OsState):segRunT treeTable pW w 11 ((some<|r 6)) 1 5125 (Sb w os) (piecesOf e0m c0p cT ⟨0,0,0,0⟩ [topFrame qP])=some (.next,S0 w os,cT,⟨513,0,524,125⟩):=by trivial
def fin_(w:World)(os:OsState):topRun treeTable pW w 11 ((some<|r 6)) 2 (S0 w os).abs ⟨doneF .next,cT,⟨513,0,524,125⟩,[topFrame qP]⟩=some (Sf w os):=by trivial
def YG:behindTheImports pW=(e0m++[]):=by kernel_rfl
def run_(w:World)(os:OsState):topRun treeTable pW w 11 ((some<|r 6)) (12+(1+(5125+2))) ⟨boot_heap w.params,⟨[]⟩,boot_drawn,boot_toks,os⟩ (topStub pW)=some (Sf w os):=by have h:=(piece_app (segRun_of<|pc0 w os)<|piece_nil<|fin_ w os);rw[<- YG]at h;exact go_top (pre_ w os) (piece_block (c0y w os) h)
def K(P:Params):Frag:=(nat_lit 2,boot_o_2 P)::(nat_lit 3,o3 P)::(nat_lit 20,o20)::(nat_lit 21,o21)::(nat_lit 30,o30 P)::(nat_lit 31,o31)::(nat_lit 43,o43 P)::(nat_lit 44,o44)::(nat_lit 55,o55 P)::(nat_lit 56,o56)::(nat_lit 67,o67 P)::(nat_lit 68,o68)::(nat_lit 79,o79 P)::(nat_lit 80,o80)::(nat_lit 91,o91 P)::(nat_lit 92,o92)::(nat_lit 98,o98)::(nat_lit 99,o99)::(nat_lit 103,o0d)::(nat_lit 104,o0c)::(nat_lit 108,o0b)::(nat_lit 109,o0a)::(nat_lit 113,n0z)::(nat_lit 114,n0y)::(nat_lit 118,n0x)::(nat_lit 119,n0w)::(nat_lit 125,n0v)::(nat_lit 126,n0u)::(nat_lit 130,n0s)::(nat_lit 131,n0r)::(nat_lit 135,n0q)::(nat_lit 136,n0p)::(nat_lit 140,n0o)::(nat_lit 141,n0n)::(nat_lit 147,n0m)::(nat_lit 148,n0l)::(nat_lit 154,n0k)::(nat_lit 155,n0j)::(nat_lit 159,n0i)::(nat_lit 160,n0h)::(nat_lit 164,n0g)::(nat_lit 165,n0f)::(nat_lit 169,n0e)::(nat_lit 170,n0d)::(nat_lit 176,n0c)::(nat_lit 177,n0b)::(nat_lit 183,n0a)::(nat_lit 184,m0z)::(nat_lit 188,m0y)::(nat_lit 189,m0x)::(nat_lit 195,m0w)::(nat_lit 196,m0v)::(nat_lit 202,m0u)::(nat_lit 203,m0t)::(nat_lit 209,m0s)::(nat_lit 210,m0r)::(nat_lit 216,m0q)::(nat_lit 217,m0p)::(nat_lit 223,m0o)::(nat_lit 224,m0n)::(nat_lit 228,m0m)::(nat_lit 229,m0l)::(nat_lit 235,m0k)::(nat_lit 236,m0j)::(nat_lit 240,m0i)::(nat_lit 241,m0h)::(nat_lit 247,m0g)::(nat_lit 248,m0f)::(nat_lit 252,m0e)::(nat_lit 253,m0d)::(nat_lit 259,m0c)::(nat_lit 260,m0b)::(nat_lit 264,m0a)::(nat_lit 265,l0z)::(nat_lit 269,l0y)::(nat_lit 270,l0x)::(nat_lit 274,l0w)::(nat_lit 275,l0v)::(nat_lit 281,l0u)::(nat_lit 282,l0t)::(nat_lit 286,l0s)::(nat_lit 287,l0r)::(nat_lit 291,l0q)::(nat_lit 292,l0p)::(nat_lit 296,l0o)::(nat_lit 297,l0n)::(nat_lit 301,l0m)::(nat_lit 302,l0l)::(nat_lit 306,l0k)::(nat_lit 307,l0j)::(nat_lit 313,l0i)::(nat_lit 314,l0h)::(nat_lit 318,l0g)::(nat_lit 319,l0f)::(nat_lit 323,l0e)::(nat_lit 324,l0d)::(nat_lit 328,l0c)::(nat_lit 329,l0b)::(nat_lit 335,l0a)::(nat_lit 336,k0z)::(nat_lit 342,k0y)::(nat_lit 343,k0x)::(nat_lit 349,k0w)::(nat_lit 350,k0v)::(nat_lit 356,k0u)::(nat_lit 357,k0t)::(nat_lit 361,k0s)::(nat_lit 362,k0r)::(nat_lit 368,k0q)::(nat_lit 369,k0p)::(nat_lit 375,k0o)::(nat_lit 376,k0n)::(nat_lit 385,k0m P)::(nat_lit 386,k0l)::(nat_lit 403,k0k)::(nat_lit 404,k0j)::(nat_lit 410,k0i)::(nat_lit 411,k0h)::(nat_lit 413,k0g P)::(nat_lit 414,k0f)::(nat_lit 429,k0e)::(nat_lit 430,k0d)::(nat_lit 436,k0c)::(nat_lit 437,k0b)::(nat_lit 443,k0a)::(nat_lit 444,j0z)::(nat_lit 450,j0y)::(nat_lit 451,j0x)::(nat_lit 457,j0w)::(nat_lit 458,j0v)::(nat_lit 464,j0u)::(nat_lit 465,j0t)::(nat_lit 471,j0s)::(nat_lit 472,j0r)::(nat_lit 478,j0q)::(nat_lit 479,j0p)::(nat_lit 485,j0o)::(nat_lit 486,j0n)::(nat_lit 492,j0m)::(nat_lit 493,j0l)::(nat_lit 495,j0k P)::(nat_lit 496,j0j)::(nat_lit 511,j0i)::(nat_lit 512,j0h)::(nat_lit 518,j0g)::(nat_lit 519,j0f)::(nat_lit 525,j0e)::(nat_lit 526,j0d)::(nat_lit 532,j0c)::(nat_lit 533,j0b)::(nat_lit 539,j0a)::(nat_lit 540,i0z)::(nat_lit 546,i0y)::(nat_lit 547,i0x)::(nat_lit 553,i0w)::(nat_lit 554,i0v)::(nat_lit 560,i0u)::(nat_lit 561,i0t)::(nat_lit 567,i0s)::(nat_lit 568,i0r)::(nat_lit 574,i0q)::(nat_lit 575,i0p)::(nat_lit 581,i0o)::(nat_lit 582,i0n)::(nat_lit 584,i0m P)::(nat_lit 585,i0l)::(nat_lit 593,i0k)::(nat_lit 594,i0j)::(nat_lit 600,i0i)::(nat_lit 601,i0h)::(nat_lit 607,i0g)::(nat_lit 608,i0f)::(nat_lit 614,i0e)::(nat_lit 615,i0d)::(nat_lit 621,i0c)::(nat_lit 622,i0b)::(nat_lit 628,i0a)::(nat_lit 629,h0z)::(nat_lit 635,h0y)::(nat_lit 636,h0x)::(nat_lit 642,h0w)::(nat_lit 643,h0v)::(nat_lit 649,h0u)::(nat_lit 650,h0t)::(nat_lit 656,h0s)::(nat_lit 657,h0r)::(nat_lit 663,h0q)::(nat_lit 664,h0p)::(nat_lit 668,h0o)::(nat_lit 669,h0n)::(nat_lit 673,h0m)::(nat_lit 674,h0l)::(nat_lit 678,h0k)::(nat_lit 679,h0j)::(nat_lit 683,h0i)::(nat_lit 684,h0h)::(nat_lit 690,h0g)::(nat_lit 691,h0f)::(nat_lit 697,h0e)::(nat_lit 698,h0d)::(nat_lit 702,h0c)::(nat_lit 703,h0b)::(nat_lit 707,h0a)::(nat_lit 708,g0z)::(nat_lit 714,g0y)::(nat_lit 715,g0x)::(nat_lit 719,g0w)::(nat_lit 720,g0v)::(nat_lit 726,g0u)::(nat_lit 727,g0t)::(nat_lit 733,g0s)::(nat_lit 734,g0r)::(nat_lit 738,g0q)::(nat_lit 739,g0p)::(nat_lit 743,g0o)::(nat_lit 744,g0n)::(nat_lit 750,g0m)::(nat_lit 751,g0l)::[]
def KA:List Addr:=[2,3,20,21,30,31,43,44,55,56,67,68,79,80,91,92,98,99,103,104,108,109,113,114,118,119,125,126,130,131,135,136,140,141,147,148,154,155,159,160,164,165,169,170,176,177,183,184,188,189,195,196,202,203,209,210,216,217,223,224,228,229,235,236,240,241,247,248,252,253,259,260,264,265,269,270,274,275,281,282,286,287,291,292,296,297,301,302,306,307,313,314,318,319,323,324,328,329,335,336,342,343,349,350,356,357,361,362,368,369,375,376,385,386,403,404,410,411,413,414,429,430,436,437,443,444,450,451,457,458,464,465,471,472,478,479,485,486,492,493,495,496,511,512,518,519,525,526,532,533,539,540,546,547,553,554,560,561,567,568,574,575,581,582,584,585,593,594,600,601,607,608,614,615,621,622,628,629,635,636,642,643,649,650,656,657,663,664,668,669,673,674,678,679,683,684,690,691,697,698,702,703,707,708,714,715,719,720,726,727,733,734,738,739,743,744,750,751]
def q0j(P:Params):KA=(K P).map (·.1):=by kernel_rfl
def qT:Program:={ pW with main:={ pW.main with body:=[g9 0,g9 2,g9 3,g9 4,g9 5,g9 6,g9 7,g9 9,g9 10,g9 11,g9 12,g9 13,g9 14,g9 15,g9 16,g9 17,g9 19,g9 21,g9 22,g9 23,g9 24,g9 26,g9 27,g9 28,g9 29,g9 30,g9 31,g9 32,g9 33,g9 34,g9 35,g9 36,g9 38,g9 39,g9 40,g9 41,g9 42,g9 43,g9 44,g9 45,g9 46,g9 47,g9 49,g9 50,g9 51,g9 52,g9 53,g9 54,g9 56,g9 57,g9 58,g9 59,g9 61,g9 62,g9 63,g9 64,g9 65,g9 66,g9 67,g9 68,g9 69,g9 70,g9 72,g9 73,g9 74,g9 75,g9 76,g9 77,g9 78,g9 79,g9 80,g9 81,g9 82,g9 83,g9 84,g9 85,g9 86,g9 87,g9 88,g9 89,g9 90,g9 91,g9 92,g9 93,g9 94,g9 95,g9 96,g9 97] } }
def recs:=RowW.records (OpenRow.toRowW<|OpenLaw.row PySem.Challenge.rw_weighwalk_k55_whole_alike_and_least)
abbrev Xt(q:Program)(s:Shared):Bool:=xlAt q [] s && recOk recs s
abbrev II:Hook:=kHook K KA q0j
def e0q(w:World):((boot_heap w.params).isNs mainGlobals && (⟨[]⟩:Array GenState).size == 0,(boot_heap w.params).objs.size,(boot_heap w.params).nsMap mainGlobals "__annotations__")=(true,11,(some<|r 6)):=by trivial
def g0h:∀w:World,(fencedOpening treeTable pW w 10374).map (λs=>(s.heap,s.gens,s.drawn,s.toks))=some (boot_heap w.params,⟨[]⟩,boot_drawn,boot_toks):=boot_open (by kernel_rfl) bD (λs=>by trivial)
def p0c(w:World)(os:OsState):(staticsOk (importedModules pW.main.body) (boot_heap w.params) (Hf w.params) && namesBound pW (Hf w.params) && gensDone (Sf w os) && laidKept (boot_heap w.params) (Hf w.params))=true:=by trivial
def p0b(w:World)(os:OsState):openSeen qT [] (importedModules pW.main.body) (Xt qT) true (Sf w os)=openGood qT []:=by trivial
def p0a(w:World)(os:OsState):II.obs (Sf w os)=II.val w:=by kernel_rfl
def left:LeftO pW qT [] (Xt qT) II.obs II.val 10374:=LeftO.of_pieces (H₁:=Hf) g0h e0q run_ bD (λw=>funext λos=>looks_pair (p0c w os)<|looks_pair (p0b w os)<|p0a w os)
def dO:DefRec:=⟨PySem.Str.ofString "law",L2.F5<|g9 97,L2.D8<|g9 97,L2.a8<|g9 97,⟨513,0,524,125⟩⟩
def c0m(qS:(OpenLaw.row PySem.Challenge.rw_weighwalk_k55_whole_alike_and_least).wellSaid=true)(hw:(OpenLaw.row PySem.Challenge.rw_weighwalk_k55_whole_alike_and_least).toRowW.promised)(hc:WalkO qT [] (XL qT []) (Hook.says II) (OpenLaw.row PySem.Challenge.rw_weighwalk_k55_whole_alike_and_least).toRowW dO [] (λf vs=>PySem.call f vs)):(OpenLaw.row PySem.Challenge.rw_weighwalk_k55_whole_alike_and_least).Holds:=
 holds_open (r:=(OpenLaw.row PySem.Challenge.rw_weighwalk_k55_whole_alike_and_least)) (q:=qT) (loose:=[]) (Xt:=Xt qT) (XP:=XL qT []) (Yf:=II.obs) (Ya:=II.val) (YP:=II.says) (d:=dO) (kwd:=[]) (N:=10374) left II.of II.keeps (λs e=>xl_of s (Bool.and_eq_true_iff.mp e).1) XL.keeps (by kernel_rfl) (by kernel_rfl) (by kernel_rfl) (λs e=>recFacts_of (Bool.and_eq_true_iff.mp e).2) (by kernel_rfl) qS (by decide +kernel) ⟨U,U,U,U,U,by decide +kernel⟩ hw hc
abbrev fO(n q:String)(s:Stmt)(m c:Value):Obj:=⟨.type SL.s7174869446012820540x8,none,.func<|fnOf (PySem.Str.ofString n) (PySem.Str.ofString q) (L2.F5 s) (L2.D8 s) (L2.a8 s) .none .none .none m none c .none,#[]⟩
def lp P a n j m c(h:(K P).lookup a=some (fO n n (g9 j) m<|r c):=by kernel_rfl):=h
def lc P a n q j k m c(h:(K P).lookup a=some (fO n q (L2.y7 (g9 j) k) m<|r c):=by kernel_rfl):=h
def Qg P:=lp P 99 "noughts" 9 m1 98
def Yo P:=lp P 104 "unit" 10 m1 103
def Ly P:=lp P 109 "times_row" 11 m1 108
def LA P:=lp P 114 "column_at" 12 m1 113
def JJ P:=lp P 119 "columns_of" 13 m1 118
def b0s P:=lp P 126 "dot" 14 m1 125
def Tj P:=lp P 131 "row_by" 15 m1 130
def LB P:=lp P 136 "by_column" 16 m1 135
def Oc P:=lp P 141 "by_table" 17 m1 140
def VO P:=lp P 148 "rooms" 19 m2 147
def CG P:=lp P 155 "need_same_letters" 21 m3 154
def To P:=lp P 160 "beside" 22 m3 159
def JF P:=lp P 165 "put_beside" 23 m3 164
def NX P:=lp P 170 "mirrored" 24 m3 169
def JG P:=lp P 177 "need_field" 26 m4 176
def Qh P:=lp P 184 "leading" 27 m4 183
def NU P:=lp P 189 "plus_row" 28 m4 188
def Ql P:=lp P 196 "cleared" 29 m4 195
def Yq P:=lp P 203 "keep" 30 m4 202
def Lz P:=lp P 210 "kept_rows" 31 m4 209
def NQ P:=lp P 217 "width_of" 32 m4 216
def Qi P:=lp P 224 "echelon" 33 m4 223
def Tn P:=lp P 229 "marked" 34 m4 228
def IE P:=lp P 236 "kept_marked" 35 m4 235
def NV P:=lp P 241 "parts_by" 36 m4 240
def JH P:=lp P 248 "free_words" 38 m5 247
def BK P:=lp P 253 "with_letter_behind" 39 m5 252
def JI P:=lp P 260 "free_ahead" 40 m5 259
def LC P:=lp P 265 "at_places" 41 m5 264
def NW P:=lp P 270 "narrowed" 42 m5 269
def Qk P:=lp P 275 "come_to" 43 m5 274
def JE P:=lp P 282 "told_apart" 44 m5 281
def VQ P:=lp P 287 "heads" 45 m5 286
def NY P:=lp P 292 "least_of" 46 m5 291
def VP P:=lp P 297 "least" 47 m5 296
def Yp P:=lp P 302 "less" 49 m6 301
def Qf P:=lp P 307 "parting" 50 m6 306
def CH P:=lp P 314 "grown_while_alike" 51 m6 313
def NR P:=lp P 319 "walkable" 52 m6 318
def VR P:=lp P 324 "alike" 53 m6 323
def Qe P:=lp P 329 "turning" 54 m6 328
def NZ P:=lp P 336 "is_whole" 56 m7 335
def Qj P:=lp P 343 "divisor" 57 m7 342
def Ob P:=lp P 350 "fraction" 58 m7 349
def Oa P:=lp P 357 "is_prime" 59 m7 356
def Fs P:=lc P 404 "is_field" "Field.is_field" 68 0 m8 403
def Dv P:=lc P 437 "nought" "Fractions.nought" 69 1 m8 436
def Gs P:=lc P 444 "one" "Fractions.one" 69 2 m8 443
def Fq P:=lc P 451 "plus" "Fractions.plus" 69 3 m8 450
def Ej P:=lc P 458 "times" "Fractions.times" 69 4 m8 457
def Ek P:=lc P 465 "minus" "Fractions.minus" 69 5 m8 464
def CJ P:=lc P 472 "inverse" "Fractions.inverse" 69 6 m8 471
def CI P:=lc P 512 "__init__" "Residues.__init__" 70 0 m8 511
def Ei P:=lc P 526 "nought" "Residues.nought" 70 2 m8 525
def Hl P:=lc P 533 "one" "Residues.one" 70 3 m8 532
def Gr P:=lc P 540 "plus" "Residues.plus" 70 4 m8 539
def Fo P:=lc P 547 "times" "Residues.times" 70 5 m8 546
def Fp P:=lc P 554 "minus" "Residues.minus" 70 6 m8 553
def Du P:=lc P 561 "inverse" "Residues.inverse" 70 7 m8 560
def LH P:=lp P 594 "_law_next" 72 m9 593
def JN P:=lp P 601 "_law_state" 73 m9 600
def Hk P:=lp P 608 "_law_divisor" 74 m9 607
def Of P:=lp P 615 "_law_low" 75 m9 614
def LG P:=lp P 622 "_law_plus" 76 m9 621
def JM P:=lp P 629 "_law_times" 77 m9 628
def JP P:=lp P 636 "_law_minus" 78 m9 635
def Qm P:=lp P 643 "_law_of" 79 m9 642
def LF P:=lp P 650 "_law_sort" 80 m9 649
def LJ P:=lp P 657 "_law_kind" 81 m9 656
def IF P:=lp P 664 "_law_weight" 82 m9 663
def Hh P:=lp P 669 "_law_machine" 83 m9 668
def JO P:=lp P 674 "_law_moved" 84 m9 673
def Hg P:=lp P 679 "_law_swapped" 85 m9 678
def LI P:=lp P 684 "_law_more" 86 m9 683
def Hj P:=lp P 691 "_law_dressed" 87 m9 690
def Og P:=lp P 698 "_law_dot" 88 m9 697
def LD P:=lp P 703 "_law_step" 89 m9 702
def JK P:=lp P 708 "_law_words" 90 m9 707
def JQ P:=lp P 715 "_law_ahead" 91 m9 714
def Hi P:=lp P 720 "_law_letters" 92 m9 719
def Oe P:=lp P 727 "_law_two" 93 m9 726
def JL P:=lp P 734 "_law_weigh" 94 m9 733
def Od P:=lp P 739 "_law_yes" 95 m9 738
def Qn P:=lp P 744 "_law_no" 96 m9 743
def b0r P:=lp P 751 "law" 97 m9 750
end
end H55
set_option maxHeartbeats 4000000
abbrev L3:PySem.Str:="_law_sort_here"
abbrev x6:PySem.Str:="kind"
abbrev V7:PySem.Str:="_law_state_here"
abbrev AO:PySem.Str:="_law_machine_here"
abbrev Bg:PySem.Str:="_law_letters_here"
abbrev O9:PySem.Str:="machine"
abbrev C8:PySem.Str:="row"
abbrev BQ:PySem.Str:="_law_table"
abbrev FP:PySem.Str:="_law_tables"
abbrev Ai:PySem.Str:="_law_k"
abbrev FO:PySem.Str:="_law_start"
abbrev O8:PySem.Str:="rows"
abbrev FN:PySem.Str:="_law_many"
abbrev Y9:PySem.Str:="table"
abbrev T4:PySem.Str:="self"
abbrev AA:PySem.Str:="other"
abbrev MD:PySem.Str:="_law_machines"
abbrev AN:PySem.Str:="place"
abbrev X6:PySem.Str:="kept"
abbrev MA:PySem.Str:="_law_script"
abbrev ED:PySem.Str:="_law_j"
abbrev KF:PySem.Str:="_law_ends"
abbrev KD:PySem.Str:="_law_made"
abbrev KC:PySem.Str:="_law_line"
abbrev Kz:PySem.Str:="_law_word"
abbrev OT:PySem.Str:="_law_letter"
abbrev OS:PySem.Str:="_law_first"
abbrev Ug:PySem.Str:="_law_kind_here"
abbrev OR:PySem.Str:="_law_found"
abbrev HM:PySem.Str:="tables"
abbrev Ss:PySem.Str:="longer_rows"
abbrev FM:PySem.Str:="width"
abbrev Do:PySem.Str:="both"
abbrev Sq:PySem.Str:="_law_lines"
abbrev Jh:PySem.Str:="_law_i"
abbrev OQ:PySem.Str:="_law_row"
abbrev Sn:PySem.Str:="_law_last"
abbrev BH:PySem.Str:="one"
abbrev WZ:PySem.Str:="_law_low_here"
abbrev Jg:PySem.Str:="first"
abbrev Mz:PySem.Str:="_law_x"
abbrev GY:PySem.Str:="word"
abbrev My:PySem.Str:="column"
abbrev Ue:PySem.Str:="_law_most"
abbrev WY:PySem.Str:="_law_bottom"
abbrev Sm:PySem.Str:="_law_by"
abbrev OP:PySem.Str:="narrow"
abbrev WX:PySem.Str:="_law_taken"
abbrev n0N:List PySem.Str:=[V7,L3,AO,"_law_seen",Bg,FO,FP,KF,FN,"_law_nought",KD,BQ,Sq,KC,Sn,"_law_begin","_law_end"]
abbrev n1N:List PySem.Str:=[L3,AO,Jh,ED,Sm,Bg,FO,FP,KF,WX,OS,Sn,KD,BQ,Sq,"#1",WZ]
abbrev n2N:List PySem.Str:=[AO,Jh,ED,Bg,FO,FP,KF,"_law_order",KD,BQ,"_law_q"]
abbrev n3N:List PySem.Str:=[AO,Jh,ED,Bg,FO,FP,KF,"_law_order",KD,BQ]
abbrev n4N:List PySem.Str:=[L3,AO,Jh,ED,Sm,Bg,FO,FP,KF,WX,OS,Sn,KD,BQ,Sq,KC,WZ,Mz,"_law_y"]
abbrev n5N:List PySem.Str:=[V7,L3,AO,"_law_seen",Bg,FO,FP,KF,FN,"_law_nought",KD,BQ,Sq,KC,Sn,"_law_begin","_law_end",Ai]
abbrev Jd:List PySem.Str:=[x6,BH,AA]
abbrev n7N:List PySem.Str:=[L3,AO,Jh,ED,Sm,Bg,FO,FP,KF,WX,OS,Sn,KD,BQ,Sq,"#1",WZ,KC]
abbrev n8N:List PySem.Str:=[L3,AO,Jh,ED,Sm,Bg,FO,FP,KF,WX,OS,Sn,KD,BQ,Sq,KC,WZ]
abbrev JB:List PySem.Str:=[x6,O9]
abbrev PX:List PySem.Str:=[L3,AO,Kz]
abbrev Yh:List PySem.Str:=[x6,O9,X6,"places",O8,HM,Y9,AN,C8]
abbrev NI:List PySem.Str:=[L3,Mz,"_law_y"]
abbrev o0t:List PySem.Str:=[V7,L3,Bg,FN,FO,FP,OT,BQ,"#1",Ai]
abbrev Dt:List PySem.Str:=[T4,"x","y"]
abbrev o0s:List PySem.Str:=[V7,L3,Bg,FN,FO,FP,OT,BQ,Ai]
abbrev o0r:List PySem.Str:=[V7,L3,Bg,FN,FO,FP,OT,BQ,"#1"]
abbrev o0q:List PySem.Str:=[Ug,L3,MD,Kz,Mz,AO,FN,"_law_due",Ai]
abbrev Yg:List PySem.Str:=[x6,O9,X6,"places",O8,HM,Y9]
abbrev o0p:List PySem.Str:=[Ug,L3,MD,Kz,Mz,AO,FN,"_law_due"]
abbrev VE:List PySem.Str:=[L3,OQ,BQ]
abbrev b0m:List PySem.Str:=[V7,L3,Bg,FN]
abbrev b0l:List PySem.Str:=[V7,L3,AO,"_law_seen"]
abbrev b0k:List PySem.Str:=[V7,L3,AO,Ue]
abbrev b0j:List PySem.Str:=[L3,AO,Jh,ED,Sm]
abbrev o0o:List PySem.Str:=[Bg,Ue,OR,"_law_level",Ai,"_law_beyond",Kz]
abbrev Eg:List PySem.Str:=[T4,"x"]
abbrev He:List PySem.Str:=[x6,O8]
abbrev b0i:List PySem.Str:=[V7,L3,Bg]
abbrev b0h:List PySem.Str:=[x6,Jg,"second","step","upper","lower"]
abbrev b0g:List PySem.Str:=[Ug,L3,MD]
abbrev o0n:List PySem.Str:=[x6,"letters",O8,Ss,"ends",X6,HM,"others"]
abbrev b0f:List PySem.Str:=[x6,O9,OP,O8,Ss]
abbrev o0m:List PySem.Str:=[L3,MD,OR,Kz,"_law_parted"]
abbrev b0e:List PySem.Str:=[x6,Do,O8,X6,OP,"steps"]
abbrev Tf:List PySem.Str:=[x6,"size",AN]
abbrev b0d:List PySem.Str:=[x6,"letters",O8,Ss,"ends"]
abbrev Ye:List PySem.Str:=[V7,L3]
abbrev b0c:List PySem.Str:=[L3,MD,OR]
abbrev o0l:List PySem.Str:=[x6,O9,"last","told",GY,C8,"letter",Y9]
abbrev o0k:List PySem.Str:=[x6,Jg,"second","step","upper","lower",C8,"extra"]
abbrev VD:List PySem.Str:=[x6,Y9,My]
abbrev b0b:List PySem.Str:=[x6,BH,AA,"no_step",HM]
abbrev b0a:List PySem.Str:=[L3,OQ,"_law_column"]
abbrev o0j:List PySem.Str:=[x6,O9,OP,O8,Ss,GY,C8]
abbrev o0i:List PySem.Str:=[x6,Do,O8,X6,OP,"steps",AN,C8]
abbrev Yd:List PySem.Str:=[L3,"_law_number"]
abbrev o0h:List PySem.Str:=[x6,BH,AA,Do,"found","parted",GY,C8]
abbrev o0g:List PySem.Str:=[x6,BH,AA,"no_step",HM,Jg,"second"]
abbrev VC:List PySem.Str:=[x6,Do,"found"]
abbrev a0z:List PySem.Str:=[AO,Jh,ED]
abbrev VB:List PySem.Str:=[x6,C8,Y9]
abbrev o0f:List PySem.Str:=[x6,Do,O8,X6,OP,"steps",Y9]
abbrev PV:List PySem.Str:=[BH,AA]
abbrev Yc:List PySem.Str:=[L3,Mz]
abbrev Te:List PySem.Str:=[Y9,AN]
abbrev VA:List PySem.Str:=[x6,"by",C8]
abbrev a0y:List PySem.Str:=[x6,Jg,"second","step"]
abbrev Yb:List PySem.Str:=["_law_one","_law_other"]
abbrev a0x:List PySem.Str:=[Bg,Ue]
abbrev a0w:List PySem.Str:=[x6,X6,C8,FM]
abbrev a0v:List PySem.Str:=[x6,X6,"count",C8]
abbrev XZ:List PySem.Str:=[x6,Do,"last"]
abbrev a0u:List PySem.Str:=[V7,FN]
abbrev Vz:List PySem.Str:=[C8,"places"]
abbrev Vy:List PySem.Str:=[x6,"size"]
abbrev Vx:List PySem.Str:=[GY,C8]
namespace L2
open PySem
@[elab_as_elim] def E4{iE:Hp->Prop}{H:Hp}{a:Addr}{o:HO}(n:H a=none)(h:∀G,h9 H G->G a=some o->iE G):iE (upd H a o):=h _ (c7 n) b9
def gL{X:Cx}{x:Str}{pos:Pos}(i:Nat)(L:w1f)(hn:L.Nodup:=by decide +kernel)(hL:X.N=L:=by rfl)(h:X.N[i]? = some x:=by rfl)(hx:X.env.scope.names.lookup x=some .local:=by rfl)(hf:X.fn x=true\/X.env.scope.names.lookup x=some .local:=by first | exact .inl rfl | exact .inr rfl | assumption):PG X (.Name x pos) (R7 i):=r9 (hL ▸ hn) h (Or.inl hx) hf
def D5{X:Cx}{a b:Expr}{ta tb:TE}{pos:Pos}{r:R2}(hr:Kx X r)(ha:PE X a ta)(hb:PE X b tb)(hs:Sg b:=by exact λ_ _=>rfl):PE X (.Subscript a b pos) (e0d r ta tb):=g0g hr ha hb hs
abbrev sr(a:Addr):Option V:=some (.ref a)
abbrev si(i:Nat):Option V:=some (.int i)
def gN{X:Cx}{pos:Pos}(i:Nat){x:Str}(hN:X.N.Nodup)(hi:X.N[i]? = some x:=by rfl)(hx:X.env.scope.names.lookup x=some .local:=by rfl)(hf:X.fn x=true\/X.env.scope.names.lookup x=some .local:=by first | exact .inl rfl | exact .inr rfl | assumption):PG X (.Name x pos) (R7 i):=r9 hN hi (Or.inl hx) hf
def sT{X:Cx}{pos fK:Pos}(i:Nat){x:Str}{e:Expr}{te:TE}(hN:X.N.Nodup)(he:PE X e te)(hi:X.N[i]? = some x:=by rfl)(hx:X.env.scope.names.lookup x=some .local:=by rfl)(hs:swapsWith e (some<|.Name x fK) pos.line X.env=pure false:=by rfl)(hf:X.fn x=true\/X.env.scope.names.lookup x=some .local:=by first | exact .inl rfl | exact .inr rfl | assumption):PS X (.Assign [.Name x fK] e pos) (MI te<|R7 i):=U7 hN hi (Or.inl hx) he hs hf
end L2
namespace K55
open PySem L2 Mine PyProof.Rows PySem.SeqAt
abbrev Pr:Program:=PySem.Challenge.pw_weighwalk_k55_whole_alike_and_least
def QV:Pr.given.tree=none:=rfl
def top(i:Nat):Stmt:=PySem.Challenge.pw_weighwalk_k55_whole_alike_and_least.main.body.getD i (.Pass ⟨0,0,0,0⟩)
abbrev DS:Stmt:=top 56
abbrev Gb:Stmt:=top 57
abbrev DV:Stmt:=top 58
abbrev DU:Stmt:=top 59
abbrev P9:Stmt:=y7 (top 69) 1
abbrev X2:Stmt:=y7 (top 69) 2
abbrev U5:Stmt:=y7 (top 69) 3
abbrev R0:Stmt:=y7 (top 69) 4
abbrev O5:Stmt:=y7 (top 70) 0
abbrev Q9:Stmt:=y7 (top 70) 2
abbrev Ab:Stmt:=y7 (top 70) 3
abbrev X1:Stmt:=y7 (top 70) 4
abbrev U2:Stmt:=y7 (top 70) 5
abbrev U6:Stmt:=y7 (top 68) 0
abbrev R1:Stmt:=y7 (top 69) 5
abbrev O6:Stmt:=y7 (top 69) 6
abbrev U3:Stmt:=y7 (top 70) 6
abbrev P8:Stmt:=y7 (top 70) 7
abbrev Am:Stmt:=top 11
abbrev CW:Stmt:=top 9
abbrev Lg:Stmt:=top 10
abbrev Ao:Stmt:=top 12
abbrev Y0:Stmt:=top 13
abbrev UP:Stmt:=top 14
abbrev ET:Stmt:=top 15
abbrev Ap:Stmt:=top 16
abbrev Bt:Stmt:=top 17
abbrev Bp:Stmt:=top 24
abbrev Lh:Stmt:=top 19
abbrev O3:Stmt:=top 21
abbrev Co:Stmt:=top 22
abbrev Q8:Stmt:=top 23
abbrev Bo:Stmt:=top 26
abbrev FV:Stmt:=top 27
abbrev Bm:Stmt:=top 28
abbrev Gc:Stmt:=top 29
abbrev Pq:Stmt:=top 30
abbrev Cn:Stmt:=top 31
abbrev DN:Stmt:=top 32
abbrev EU:Stmt:=top 34
abbrev AE:Stmt:=top 35
abbrev Bn:Stmt:=top 36
abbrev Ga:Stmt:=top 33
abbrev Bs:Stmt:=top 38
abbrev J6:Stmt:=top 39
abbrev L7:Stmt:=top 40
abbrev Aq:Stmt:=top 41
abbrev U1:Stmt:=top 42
abbrev CY:Stmt:=top 43
abbrev Bl:Stmt:=top 44
abbrev Hv:Stmt:=top 45
abbrev Bq:Stmt:=top 46
abbrev EV:Stmt:=top 47
abbrev Li:Stmt:=top 49
abbrev CV:Stmt:=top 50
abbrev O4:Stmt:=top 51
abbrev U0:Stmt:=top 52
abbrev Ar:Stmt:=top 53
abbrev CU:Stmt:=top 54
abbrev DQ:Stmt:=top 72
abbrev Cj:Stmt:=top 73
abbrev AD:Stmt:=top 74
abbrev FY:Stmt:=top 75
abbrev DP:Stmt:=top 76
abbrev Ci:Stmt:=top 77
abbrev Ck:Stmt:=top 78
abbrev Ia:Stmt:=top 79
abbrev DO:Stmt:=top 80
abbrev DR:Stmt:=top 81
abbrev Br:Stmt:=top 82
abbrev M3:Stmt:=top 83
abbrev Q1:Stmt:=top 84
abbrev K5:Stmt:=top 85
abbrev Aa:Stmt:=top 86
abbrev AC:Stmt:=top 87
abbrev An:Stmt:=top 90
abbrev FZ:Stmt:=top 88
abbrev Z9:Stmt:=top 89
abbrev Cm:Stmt:=top 91
abbrev V1:Stmt:=top 92
abbrev Cg:Stmt:=top 94
abbrev FW:Stmt:=top 93
abbrev AR:Stmt:=top 95
abbrev EW:Stmt:=top 96
abbrev UO:Stmt:=top 97
def _root_.L2.L9.m{j k:Nat}{A:Around}(r:L9 k A)(h:j<=k:=by decide):L9 j A:=r.mono h
def o5{N P:w1f}{s:Scope}(a:s.kind=.function:=by rfl)(b:s.isCoroutine=false:=by rfl)(c:s.isGenerator=false:=by rfl)(d:N.Nodup:=by decide +kernel)(e:N.take P.length=P:=by rfl)(f:∀x∈P,s.names.lookup x=some .local\/s.names.lookup x=some .cell:=by decide +kernel)(g:∀y∈s.names,y.2≠.free:=by decide +kernel):g6 N P s:=⟨a,b,c,d,e,f,g⟩
def Nb:g6 ["thing"] ["thing"] (a8 DS):=o5
def T7:g6 [BH,AA,"greatest","rest","left"] PV (a8 Gb):=o5
def Cc:g6 ["top","bottom","shared"] ["top","bottom"] (a8 DV):=o5
def BZ:g6 ["number","factor"] ["number"] (a8 DU):=o5
def Dp:g6 [T4] [T4] (a8 P9):=o5
def FU:g6 [T4] [T4] (a8 X2):=o5
def ER:g6 Dt Dt (a8 U5):=o5
def DK:g6 Dt Dt (a8 R0):=o5
def Cd:g6 [T4,"prime"] [T4,"prime"] (a8 O5):=o5
def DJ:g6 [T4] [T4] (a8 Q9):=o5
def GZ:g6 [T4] [T4] (a8 Ab):=o5
def FT:g6 Dt Dt (a8 X1):=o5
def EN:g6 Dt Dt (a8 U2):=o5
def ES:g6 [T4] [T4] (a8 U6):=o5
def DL:g6 Eg Eg (a8 R1):=o5
def Ce:g6 Eg Eg (a8 O6):=o5
def EO:g6 Eg Eg (a8 U3):=o5
def C4:g6 [T4,"x","product","square","left"] Eg (a8 P8):=o5
def KY:g6 VA VA (a8 Am):=o5
def Pp:g6 Vy Vy (a8 CW):=o5
def Xr:g6 Tf Tf (a8 Lg):=o5
def Ld:g6 Te Te (a8 Ao):=o5
def Jt:g6 [Y9] [Y9] (a8 Y0):=o5
def HY:g6 [x6,C8,My,"total","x","y"] [x6,C8,My] (a8 UP):=o5
def SJ:g6 VB VB (a8 ET):=o5
def Le:g6 VD VD (a8 Ap):=o5
def Nc:g6 Jd Jd (a8 Bt):=o5
def GG:g6 [O9,HM] [O9] (a8 Bp):=o5
def UM:g6 [O9] [O9] (a8 Lh):=o5
def BW:g6 PV PV (a8 O3):=o5
def FS:g6 b0h a0y (a8 Co):=o5
def AB:g6 b0b Jd (a8 Q8):=o5
def Jq:g6 [x6] [x6] (a8 Bo):=o5
def HV:g6 [x6,C8,FM,AN] [x6,C8,FM] (a8 FV):=o5
def MX:g6 Jd Jd (a8 Bm):=o5
def Z4:g6 [x6,X6,C8,"rest",AN,AA] [x6,X6,C8] (a8 Gc):=o5
def Lc:g6 [x6,X6,C8,FM,"rest",AN] a0w (a8 Pq):=o5
def Bj:g6 [x6,O8,FM,X6,C8] [x6,O8,FM] (a8 Cn):=o5
def MW:g6 [O8] [O8] (a8 DN):=o5
def SK:g6 He He (a8 EU):=o5
def HX:g6 He He (a8 AE):=o5
def BV:g6 [x6,X6,"count",C8,FM,"rest"] a0v (a8 Bn):=o5
def Bk:g6 [x6,O8,"told",AN,C8] He (a8 Ga):=o5
def K4:g6 [x6,Jg,"grown",X6,"told","last","fresh","pair"] [x6,Jg,"grown"] (a8 Bs):=o5
def J0:g6 [x6,O9,"last","told",GY,C8] [x6,O9,"last"] (a8 J6):=o5
def Js:g6 JB JB (a8 L7):=o5
def Lf:g6 Vz Vz (a8 Aq):=o5
def V9:g6 Yg [x6,O9,X6] (a8 U1):=o5
def HZ:g6 [x6,O9,O8] JB (a8 CY):=o5
def Jp:g6 JB JB (a8 Bl):=o5
def UN:g6 JB JB (a8 Hv):=o5
def Ak:g6 o0n b0d (a8 Bq):=o5
def EL:g6 b0f JB (a8 EV):=o5
def Ri:g6 [x6,BH,AA,"minus_ends"] Jd (a8 Li):=o5
def Pn:g6 VC VC (a8 CV):=o5
def Ca:g6 XZ XZ (a8 O4):=o5
def Aj:g6 b0e [x6,Do,O8] (a8 U0):=o5
def EM:g6 [x6,BH,AA,Do,"found","parted"] Jd (a8 Ar):=o5
def DI:g6 [x6,BH,AA,"told","size"] Jd (a8 CU):=o5
def GI:g6 [V7,FN,OR] a0u (a8 DQ):=o5
def X8:g6 [MA,"_law_seed","_law_cell"] [MA] (a8 Cj):=o5
def BX:g6 Yb Yb (a8 AD):=o5
def HW:g6 ["_law_top",WY,Sm] ["_law_top",WY] (a8 FY):=o5
def MZ:g6 NI NI (a8 DP):=o5
def La:g6 NI NI (a8 Ci):=o5
def Lb:g6 Yc Yc (a8 Ck):=o5
def SM:g6 Yd Yd (a8 Ia):=o5
def GH:g6 [V7,"_law_prime"] [V7] (a8 DO):=o5
def Na:g6 [L3] [L3] (a8 DR):=o5
def Jr:g6 Ye Ye (a8 Br):=o5
def L5:g6 o0s b0m (a8 M3):=o5
def C9:g6 n8N b0j (a8 Q1):=o5
def E8:g6 n3N a0z (a8 K5):=o5
def C2:g6 n0N b0l (a8 Aa):=o5
def D6:g6 [V7,L3,AO,Ue,Ai,FN,Jh,ED] b0k (a8 AC):=o5
def F8:g6 o0o a0x (a8 An):=o5
def Z3:g6 [L3,OQ,"_law_column","_law_total",Mz,"_law_y"] b0a (a8 FZ):=o5
def MY:g6 VE VE (a8 Z9):=o5
def X9:g6 [L3,AO,Kz,OQ,OT] PX (a8 Cm):=o5
def Q7:g6 [V7,"_law_size",OS,"_law_far"] [V7] (a8 V1):=o5
def KZ:g6 PX PX (a8 Cg):=o5
def P7:g6 [V7,L3,Bg,"_law_size",AO,"_law_way","_law_one"] b0i (a8 FW):=o5
def T6:g6 o0p b0g (a8 AR):=o5
def FR:g6 o0m b0c (a8 EW):=o5
def BY:g6 [MA,V7,L3,Ug,"_law_one","_law_other",MD,OR] [MA] (a8 UO):=o5
def sp_whole:Sp:=λvs H Q _=>∃i,vs=[.int i]/\Q (.bl true) H
def sp_divisor:Sp:=λvs H Q _=>∃a b,vs=[.int a,.int b]/\Q (.int<|dv a b) H
def sp_fraction:Sp:=λvs H Q _=>∃a b,vs=[.int a,.int b]/\b≠0/\∀v H',h9 H H'->Jf H' v (tp a b) (bt a b)->Q v H'
def sp_prime:Sp:=λvs H Q _=>∃n,vs=[.int n]/\(2<=n/\n<=1000000/\Mt n=true)/\Q (.bl true) H
def Xp(C:Addr):Sp:=λvs H Q _=>∃x dx n,vs=[.ref x,.int n]/\(2<=n/\n<=1000000/\Mt n=true)/\H x=some (.ins C dx [])/\Q .non (upd H x<|.ins C dx<|Rp n)
set_option genInjectivity false in
set_option genSizeOfSpec false in
structure ON where
 c_alike:Addr
 P_alike:Addr
 c_free_ahead:Addr
 P_free_ahead:Addr
 c_echelon:Addr
 P_echelon:Addr
 z0c:Addr
 v0a:FuncData
 z0e:Addr
 x0m:FuncData
 y0p:Addr
 u0w:FuncData
 y0a:Addr
 v0l:FuncData
 r0m:Addr
 q0y:FuncData
 s0l:Addr
 r0x:FuncData
 s0h:Addr
 r0t:FuncData
 s0c:Addr
 r0k:FuncData
 r0l:Addr
 q0t:FuncData
 s0b:Addr
 r0h:FuncData
 t0f:Addr
 s0f:FuncData
 s0x:Addr
 s0a:FuncData
 s0d:Addr
 r0q:FuncData
 s0e:Addr
 r0p:FuncData
 r0w:Addr
 r0f:FuncData
 r0c:Addr
 q0p:FuncData
 s0g:Addr
 r0o:FuncData
 r0n:Addr
 q0x:FuncData
 w0v:Addr
 t0s:FuncData
 z0v:Addr
 x0h:FuncData
 a1s:Addr
 a1g:FuncData
 x0l:Addr
 u0t:FuncData
 w0a:Addr
 t0c:FuncData
 dot:Addr
 a1k:FuncData
 a1b:Addr
 y0l:FuncData
 x0n:Addr
 t0p:FuncData
 y0z:Addr
 u0y:FuncData
 y0k:Addr
 v0p:FuncData
 a1q:Addr
 z0u:FuncData
 r0i:Addr
 q0u:FuncData
 a1i:Addr
 y0e:FuncData
 w0h:Addr
 t0a:FuncData
 w0g:Addr
 t0h:FuncData
 z0o:Addr
 x0r:FuncData
 y0r:Addr
 v0n:FuncData
 z0s:Addr
 x0z:FuncData
 keep:Addr
 a1h:FuncData
 x0t:Addr
 t0o:FuncData
 y0t:Addr
 v0v:FuncData
 a1e:Addr
 y0h:FuncData
 t0n:Addr
 s0j:FuncData
 y0w:Addr
 v0f:FuncData
 echelon:Addr
 x0u:FuncData
 u0x:Addr
 t0e:FuncData
 r0a:Addr
 q0o:FuncData
 free_ahead:Addr
 t0k:FuncData
 x0y:Addr
 t0w:FuncData
 y0y:Addr
 w0l:FuncData
 z0i:Addr
 w0w:FuncData
 w0b:Addr
 s0y:FuncData
 a1m:Addr
 z0w:FuncData
 y0c:Addr
 v0b:FuncData
 a1j:Addr
 z0q:FuncData
 a1r:Addr
 d_less:FuncData
 z0d:Addr
 x0s:FuncData
 r0g:Addr
 q0v:FuncData
 y0v:Addr
 u0z:FuncData
 alike:Addr
 z0l:FuncData
 z0r:Addr
 w0z:FuncData
 y0s:Addr
 w0m:FuncData
 x0x:Addr
 u0n:FuncData
 t0u:Addr
 s0q:FuncData
 z0m:Addr
 w0t:FuncData
 y0j:Addr
 w0c:FuncData
 x0v:Addr
 u0s:FuncData
 w0s:Addr
 t0y:FuncData
 a1f:Addr
 z0a:FuncData
 y0m:Addr
 v0z:FuncData
 y0d:Addr
 w0i:FuncData
 v0u:Addr
 t0l:FuncData
 u0g:Addr
 s0u:FuncData
 x0q:Addr
 t0x:FuncData
 t0r:Addr
 s0r:FuncData
 y0x:Addr
 w0d:FuncData
 u0r:Addr
 s0k:FuncData
 x0b:Addr
 u0b:FuncData
 z0g:Addr
 w0x:FuncData
 y0u:Addr
 v0e:FuncData
 x0k:Addr
 u0e:FuncData
 u0j:Addr
 s0m:FuncData
 x0c:Addr
 u0m:FuncData
 z0j:Addr
 x0a:FuncData
 z0x:Addr
 x0f:FuncData
 a1c:Addr
 y0b:FuncData
 law:Addr
 a1p:FuncData
 w0y:Addr
 y0f:Addr
 a1o:Addr
def B3{X:Cx}{e0:Expr}{t0:TE}(h0:PE X e0 t0)(s0:starEach [e0] X.env=(false,eval e0 X.env)::starEach [] X.env:=by rfl):PA X [e0] (BC t0 tNil):=(J7 h0 K6 s0)
def F1{X:Cx}{e0:Expr}{t0:TE}{e1:Expr}{t1:TE}(h0:PE X e0 t0)(h1:PE X e1 t1)(s0:starEach [e0,e1] X.env=(false,eval e0 X.env)::starEach [e1] X.env:=by rfl)(s1:starEach [e1] X.env=(false,eval e1 X.env)::starEach [] X.env:=by rfl):PA X [e0,e1] (BC t0<|BC t1 tNil):=(J7 h0 (J7 h1 K6 s1) s0)
def S3{X:Cx}{e0:Expr}{t0:TE}{e1:Expr}{t1:TE}{e2:Expr}{t2:TE}(h0:PE X e0 t0)(h1:PE X e1 t1)(h2:PE X e2 t2)(s0:starEach [e0,e1,e2] X.env=(false,eval e0 X.env)::starEach [e1,e2] X.env:=by rfl)(s1:starEach [e1,e2] X.env=(false,eval e1 X.env)::starEach [e2] X.env:=by rfl)(s2:starEach [e2] X.env=(false,eval e2 X.env)::starEach [] X.env:=by rfl):PA X [e0,e1,e2] (BC t0<|BC t1<|BC t2 tNil):=(J7 h0 (J7 h1 (J7 h2 K6 s2) s1) s0)
def Ik{X:Cx}{e0:Expr}{t0:TE}{e1:Expr}{t1:TE}{e2:Expr}{t2:TE}{e3:Expr}{t3:TE}(h0:PE X e0 t0)(h1:PE X e1 t1)(h2:PE X e2 t2)(h3:PE X e3 t3)(s0:starEach [e0,e1,e2,e3] X.env=(false,eval e0 X.env)::starEach [e1,e2,e3] X.env:=by rfl)(s1:starEach [e1,e2,e3] X.env=(false,eval e1 X.env)::starEach [e2,e3] X.env:=by rfl)(s2:starEach [e2,e3] X.env=(false,eval e2 X.env)::starEach [e3] X.env:=by rfl)(s3:starEach [e3] X.env=(false,eval e3 X.env)::starEach [] X.env:=by rfl):PA X [e0,e1,e2,e3] (BC t0<|BC t1<|BC t2<|BC t3 tNil):=(J7 h0 (J7 h1 (J7 h2 (J7 h3 K6 s3) s2) s1) s0)
structure Df(K:aa)(mg:w1d)(n:Str)(s:Stmt)(ps:w1f)(a:Addr)(d:FuncData):Prop where
 F:Mw K n n s a d
 b:M8 K d ps []
 m:mg n=some (.ref a)
structure Dm(K:aa)(C:Addr)(n q:Str)(s:Stmt)(ps:w1f)(a:Addr)(d:FuncData):Prop where
 F:Mw K n q s a d
 b:M8 K d ps []
 t:Hr K C n a
def D2{X:Cx}{x:Str}{p pos:Pos}{k:Nat}{f:Addr}{fd:FuncData}{ps:w1f}{sp:Sp}{s:Stmt}{e:Expr}{es:List Expr}{t:TA}(F:w8 X.prog X.w X.K X.mg X.base F6 k f fd ps sp)(hr:L9 k X.A)(D:Df X.K X.mg x s ps f fd)(ha:PA X (e::es) t)(hg:Gl X x:=by rfl)(ik:(x==("__debug__":Str))=false:=by decide)(he:starEach (e::es) X.env=(false,eval e X.env)::starEach es X.env:=by rfl)(fX:(backTo pos<|starEach es X.env).any (·.1)=false:=by rfl):PE X (.Call (.Name x p) (e::es) [] pos) (YM sp [] E0 t):=C1 F hr hg D.m D.F.kp D.b .nil C3 ha ik he fX
structure Txt(K:aa)(mg:w1d)(t:ON):Prop where
 v0m:Df K mg "is_whole" DS ["thing"] t.z0c t.v0a
 w0n:Df K mg "divisor" Gb PV t.z0e t.x0m
 v0q:Df K mg "fraction" DV ["top","bottom"] t.y0p t.u0w
 w0k:Df K mg "is_prime" DU ["number"] t.y0a t.v0l
 q0z:Dm K t.w0y "nought" "Fractions.nought" P9 [T4] t.r0m t.q0y
 r0y:Dm K t.w0y "one" "Fractions.one" X2 [T4] t.s0l t.r0x
 r0u:Dm K t.w0y "plus" "Fractions.plus" U5 Dt t.s0h t.r0t
 r0e:Dm K t.w0y "times" "Fractions.times" R0 Dt t.s0c t.r0k
 q0q:Dm K t.y0f "__init__" "Residues.__init__" O5 [T4,"prime"] t.r0l t.q0t
 r0d:Dm K t.y0f "nought" "Residues.nought" Q9 [T4] t.s0b t.r0h
 s0i:Dm K t.y0f "one" "Residues.one" Ab [T4] t.t0f t.s0f
 r0z:Dm K t.y0f "plus" "Residues.plus" X1 Dt t.s0x t.s0a
 r0s:Dm K t.y0f "times" "Residues.times" U2 Dt t.s0d t.r0q
 r0r:Dm K t.a1o "is_field" "Field.is_field" U6 [T4] t.s0e t.r0p
 r0j:Dm K t.w0y "minus" "Fractions.minus" R1 Eg t.r0w t.r0f
 q0s:Dm K t.w0y "inverse" "Fractions.inverse" O6 Eg t.r0c t.q0p
 r0v:Dm K t.y0f "minus" "Residues.minus" U3 Eg t.s0g t.r0o
 r0b:Dm K t.y0f "inverse" "Residues.inverse" P8 Eg t.r0n t.q0x
 u0k:Df K mg "times_row" Am VA t.w0v t.t0s
 x0e:Df K mg "noughts" CW Vy t.z0v t.x0h
 a1a:Df K mg "unit" Lg Tf t.a1s t.a1g
 t0q:Df K mg "column_at" Ao Te t.x0l t.u0t
 s0z:Df K mg "columns_of" Y0 [Y9] t.w0a t.t0c
 a1l:Df K mg "dot" UP [x6,C8,My] t.dot t.a1k
 y0n:Df K mg "row_by" ET VB t.a1b t.y0l
 t0z:Df K mg "by_column" Ap VD t.x0n t.t0p
 v0x:Df K mg "by_table" Bt Jd t.y0z t.u0y
 w0f:Df K mg "mirrored" Bp [O9] t.y0k t.v0p
 z0p:Df K mg "rooms" Lh [O9] t.a1q t.z0u
 q0r:Df K mg "need_same_letters" O3 PV t.r0i t.q0u
 y0i:Df K mg "beside" Co a0y t.a1i t.y0e
 t0g:Df K mg "put_beside" Q8 Jd t.w0h t.t0a
 t0b:Df K mg "need_field" Bo [x6] t.w0g t.t0h
 x0p:Df K mg "leading" FV [x6,C8,FM] t.z0o t.x0r
 v0d:Df K mg "plus_row" Bm Jd t.y0r t.v0n
 w0p:Df K mg "cleared" Gc [x6,X6,C8] t.z0s t.x0z
 z0z:Df K mg "keep" Pq a0w t.keep t.a1h
 t0t:Df K mg "kept_rows" Cn [x6,O8,FM] t.x0t t.t0o
 u0v:Df K mg "width_of" DN [O8] t.y0t t.v0v
 y0o:Df K mg "marked" EU He t.a1e t.y0h
 s0w:Df K mg "kept_marked" AE He t.t0n t.s0j
 v0t:Df K mg "parts_by" Bn a0v t.y0w t.v0f
 w0o:Df K mg "echelon" Ga He t.echelon t.x0u
 t0i:Df K mg "free_words" Bs [x6,Jg,"grown"] t.u0x t.t0e
 q0n:Df K mg "with_letter_behind" J6 [x6,O9,"last"] t.r0a t.q0o
 t0m:Df K mg "free_ahead" L7 JB t.free_ahead t.t0k
 u0a:Df K mg "at_places" Aq Vz t.x0y t.t0w
 v0c:Df K mg "narrowed" U1 [x6,O9,X6] t.y0y t.w0l
 x0d:Df K mg "come_to" CY JB t.z0i t.w0w
 t0j:Df K mg "told_apart" Bl JB t.w0b t.s0y
 z0k:Df K mg "heads" Hv JB t.a1m t.z0w
 w0j:Df K mg "least_of" Bq b0d t.y0c t.v0b
 z0h:Df K mg "least" EV JB t.a1j t.z0q
 a1d:Df K mg "less" Li Jd t.a1r t.d_less
 w0u:Df K mg "parting" CV VC t.z0d t.x0s
 q0w:Df K mg "grown_while_alike" O4 XZ t.r0g t.q0v
 v0j:Df K mg "walkable" U0 [x6,Do,O8] t.y0v t.u0z
 z0n:Df K mg "alike" Ar Jd t.alike t.z0l
 x0g:Df K mg "turning" CU Jd t.z0r t.w0z
 v0w:Df K mg "_law_next" DQ a0u t.y0s t.w0m
 u0u:Df K mg "_law_state" Cj [MA] t.x0x t.u0n
 s0v:Df K mg "_law_divisor" AD Yb t.t0u t.s0q
 w0q:Df K mg "_law_low" FY ["_law_top",WY] t.z0m t.w0t
 v0y:Df K mg "_law_plus" DP NI t.y0j t.w0c
 u0l:Df K mg "_law_times" Ci NI t.x0v t.u0s
 t0v:Df K mg "_law_minus" Ck Yc t.w0s t.t0y
 z0b:Df K mg "_law_of" Ia Yd t.a1f t.z0a
 v0s:Df K mg "_law_sort" DO [V7] t.y0m t.v0z
 v0r:Df K mg "_law_kind" DR [L3] t.y0d t.w0i
 t0d:Df K mg "_law_weight" Br Ye t.v0u t.t0l
 s0p:Df K mg "_law_machine" M3 b0m t.u0g t.s0u
 u0c:Df K mg "_law_moved" Q1 b0j t.x0q t.t0x
 s0s:Df K mg "_law_swapped" K5 a0z t.t0r t.s0r
 v0g:Df K mg "_law_more" Aa b0l t.y0x t.w0d
 s0n:Df K mg "_law_dressed" AC b0k t.u0r t.s0k
 u0f:Df K mg "_law_words" An a0x t.x0b t.u0b
 x0o:Df K mg "_law_dot" FZ b0a t.z0g t.w0x
 w0e:Df K mg "_law_step" Z9 VE t.y0u t.v0e
 u0o:Df K mg "_law_ahead" Cm PX t.x0k t.u0e
 s0t:Df K mg "_law_letters" V1 [V7] t.u0j t.s0m
 u0q:Df K mg "_law_weigh" Cg PX t.x0c t.u0m
 x0w:Df K mg "_law_two" FW b0i t.z0j t.x0a
 w0r:Df K mg "_law_yes" AR b0g t.z0x t.x0f
 y0q:Df K mg "_law_no" EW b0c t.a1c t.y0b
 a1n:Df K mg "law" UO [MA] t.law t.a1p
 u0d:QO K t.w0y
 u0p:mg "Fractions"=some (.ref t.w0y)
 u0h:MkO K t.w0y
 v0i:QO K t.y0f
 v0o:mg "Residues"=some (.ref t.y0f)
 v0k:Mk K t.y0f t.r0l
 z0t:QO K t.a1o
 z0y:mg "Field"=some (.ref t.a1o)
 z0f:MkO K t.a1o
 z_isinstance:mg "isinstance"=none
 z_int:mg "int"=none
 z_bool:mg "bool"=none
 z_abs:mg "abs"=none
 c_GREATEST_PRIME:∃tk,mg "GREATEST_PRIME"=some (Value.int 1000000 tk)
 z_tuple:mg "tuple"=none
 z_range:mg "range"=none
 z_len:mg "len"=none
 z_zip:mg "zip"=none
 z_enumerate:mg "enumerate"=none
 z_reversed:mg "reversed"=none
 z_sorted:mg "sorted"=none
 z_list:mg "list"=none
 z_max:mg "max"=none
 z_str:mg "str"=none
 k_ii:PySem.W.kitOne K (.type "int") (.type "int")=some true
 k_ib:PySem.W.kitOne K (.type "int") (.type "bool")=some false
 k_tt:PySem.W.kitOne K (.type "tuple") (.type "tuple")=some true
 k_bb:PySem.W.kitOne K (.type "bool") (.type "bool")=some true
 nP:Ez K t.y0f "prime"
 iF_is_field:PySem.W.findIn K (.ref t.w0y) "is_field"=some (some<|.ref t.s0e)
 iR_is_field:PySem.W.findIn K (.ref t.y0f) "is_field"=some (some<|.ref t.s0e)
 k_ll:PySem.W.kitOne K (.type "list") (.type "list")=some true
 d_tabs:([t.P_echelon,t.P_free_ahead,t.P_alike]:List Addr).Nodup
 k_ss:PySem.W.kitOne K (.type "str") (.type "str")=some true
 tb_echelon:PySem.W.tabIn K "echelon"=some (t.c_echelon,t.P_echelon)
 v0h:PySem.W.nsIn K mainGlobals "echelon"=some (some<|.ref t.echelon)
 tb_free_ahead:PySem.W.tabIn K "free_ahead"=some (t.c_free_ahead,t.P_free_ahead)
 s0o:PySem.W.nsIn K mainGlobals "free_ahead"=some (some<|.ref t.free_ahead)
 tb_alike:PySem.W.tabIn K "alike"=some (t.c_alike,t.P_alike)
 y0g:PySem.W.nsIn K mainGlobals "alike"=some (some<|.ref t.alike)
structure WI(mg:w1d)(base:Heap)(t:ON):Prop where
 echelon:Tb mg base t.c_echelon t.P_echelon
 free_ahead:Tb mg base t.c_free_ahead t.P_free_ahead
 alike:Tb mg base t.c_alike t.P_alike
def Dy{K:aa}{a:Addr}{xs:List V}{u:V}{i:Nat}{G:Hp}{M:V->Hp->Prop}(h:o9 K G a xs)(e:xs[i]?=some u)(m:M u G):(d0e K a).go i G/\∀x H',(d0e K a).yld i G x H'->M x H':=⟨za ⟨h,e⟩,λx H' y=>by
 obtain⟨rfl,y⟩:=y;have:=y _ h;rw[e]at this;cases this;exact m⟩
def Hm{K:aa}{a:Addr}{xs:List V}{u:V}{i:Nat}{G:Hp}{M:V->Hp->Prop}(h:p9 K G a xs)(e:xs[i]?=some u)(m:M u G):(d0f K a).go i G/\∀x H',(d0f K a).yld i G x H'->M x H':=⟨za ⟨h,e⟩,λx H' y=>by
 obtain⟨rfl,y⟩:=y;have:=y _ h;rw[e]at this;cases this;exact m⟩
def IG{lo:Int}{n i:Nat}{G:Hp}{M:V->Hp->Prop}(h:i<n)(m:M (.int<|lo+i) G):(Zh lo n).go i G/\∀x H',(Zh lo n).yld i G x H'->M x H':=⟨h,λx H' y=>by
 obtain⟨rfl,rfl⟩:=y;exact m⟩
seal L2.Mu L2.PS L2.PE L2.PT L2.PW L2.PA L2.PG L2.q0h L2.PI
local macro_rules | `(tactic| fail)=>`(tactic| (first | apply Exists.intro | show And.intro rfl ?_ | show And.intro (by with_reducible assumption) ?_ | show And.intro (o9.of (by assumption)) ?_ | show And.intro (p9.of (by assumption)) ?_ | show And.intro (Ew.int _) ?_ | show And.intro (Ew.tup (by assumption)) ?_ | show And.intro (‹Txt _ _ _›.k_ii) ?_ | show And.intro (‹Txt _ _ _›.k_ib) ?_ | show And.intro (‹Txt _ _ _›.k_tt) ?_ | show And.intro (‹Txt _ _ _›.k_bb) ?_ | show And.intro (‹Txt _ _ _›.nP) ?_ | show And.intro (‹Txt _ _ _›.iF_is_field) ?_ | show And.intro (‹Txt _ _ _›.iR_is_field) ?_ | show And.intro (‹Txt _ _ _›.k_ll) ?_ | show And.intro (‹Txt _ _ _›.d_tabs) ?_ | show And.intro (‹Txt _ _ _›.k_ss) ?_))
section
variable{w:World}{K:aa}{mg:w1d}{base:Heap}{t:ON}
local macro_rules|`(tactic|norm_cast)=>`(tactic|dsimp only[C0,w9,B8,B9])
variable(T:Txt K mg t)
def Cw:w8 Pr w K mg base F6 1 t.z0c t.v0a ["thing"] sp_whole:=by
 show T.v0m.F.okA Nb λ_ _ _ _ _ _ _ _ hr h=>?_;obtain⟨i,rfl,k⟩:=h;show⟨_,(c6<|h7<|PF (x9 IU bR T.z_isinstance boot_isinstance<|F1 (O 0)<|Ll (v:=.ty "int") U T.z_int boot_int U)<|PD<|Vj<|x9 IU bR T.z_isinstance boot_isinstance<|F1 (O 0)<|Ll (v:=.ty "bool") U T.z_bool boot_bool U),?_⟩;norm_cast
 (repeat fail)
 (try show Om ?_)
 (repeat fail)
 exact k
def PN:w8 Pr w K mg base F6 1 t.z0e t.x0m PV sp_divisor:=by
 show T.w0n.F.okA T7 λ_ _ _ _ H _ _ _ hr h=>?_;obtain⟨a,b,rfl,k⟩:=h;show⟨_,(c5 (sT 2 T7.nd<|x9 IV bR T.z_abs boot_abs<|B3<|O 0)<|c5 (sT 3 T7.nd<|x9 IV bR T.z_abs boot_abs<|B3<|O 1)<|c5 (Cr aB (o6 AZ (O 3) c4<|o7 _)<|c5 (sT 4 T7.nd<|o8 F9 (O 2)<|O 3)<|c5 (sT 2 T7.nd<|O 3)<|c6<|sT 3 T7.nd<|O 4)<|c6<|h7<|O 2),?_⟩;show vc U U U<|va U ?_;show⟨λm σ H'=>∃g r l,σ=[some<|.int a,some<|.int b,some<|.int g,some<|.int r,l]/\m=r.toNat/\(0<=g/\0<=r/\dv g r=dv a b)/\H'=H,zf ⟨U,U,ZC a b,U⟩,?_⟩;rintro m σ H' ⟨g,r,l,rfl,rfl,⟨g0,r0,e⟩,rfl⟩
 (repeat fail)
 show Dw (λpH=>?_) (λpH=>?_)
 . show⟨λσ' gF=>∃g' r' l',σ'=[some<|.int a,some<|.int b,some<|.int g',some<|.int r',l']/\r'.toNat < r.toNat/\(0<=g'/\0<=r'/\dv g' r'=dv a b)/\gF=H',λσ' gF ⟨g',r',l',e1,e2,e3,e4⟩=>⟨_,e2,g',r',l',e1,U,e3,e4⟩,?_⟩;show vb U U (za ⟨U,U,(show r≠0 by omega),vb U U ?_⟩);exact zd ⟨U,d_less pH,c0t e pH,U⟩
 . show va U ?_
   (try dsimp only)
   rw[p0r e g0 r0 pH];exact k
def RK{a b:Int}(pb:0 < b):a.fdiv (dv a b)=tp a b/\b.fdiv (dv a b)=bt a b:=by unfold tp bt;rw[UK Z];exact⟨U,U⟩
def Wm{a b:Int}(nb:b < 0):a.fdiv (-(dv a b))=tp a b/\b.fdiv (-(dv a b))=bt a b:=by unfold tp bt;rw[UL nb];exact⟨U,U⟩
def Cz:w8 Pr w K mg base F6 36 t.y0p t.u0w ["top","bottom"] sp_fraction:=by
 show T.v0q.F.okA Cc λ_ _ _ _ _ _ _ _ hr h=>?_;obtain⟨a,b,rfl,nb,k⟩:=h;have hd:dv a b≠0:=df<|IQ nb;show⟨_,(c5 (D3 (PW.pt<|Nn (Gf<|DW<|D2 (Cw T) hr.m T.v0m<|B3<|O 0)<|Pw<|Gf<|DW<|D2 (Cw T) hr.m T.v0m<|B3<|O 1) (c6 AX) x5)<|c5 (D3 (o6 K8 (O 1) c4<|o7 _) (c6 AX) x5)<|c5 (sT 2 Cc.nd<|D2 (PN T) hr.m T.w0n<|F1 (O 0)<|O 1)<|c5 (D3 (o6 Vp (O 1) c4<|o7 _) (c6<|sT 2 Cc.nd<|Vh OU<|O 2) x5)<|c6<|h7<|D0<|F1 (o8 (Fc hr bD QV) (O 0)<|O 2)<|o8 (Fc hr bD QV) (O 1)<|O 2),?_⟩
 (repeat fail)
 (try show Em ?_)
 (repeat fail)
 (try show Em ?_)
 (repeat fail)
 show Dx (λh0=>absurd h0 nb) (λ_=>?_)
 (repeat fail)
 show Dw (λh0=>?_) (λh0=>?_)
 . have ir:-(dv a b)≠0:=by omega
   (repeat fail)
   show⟨sL,λp hp=>?_⟩;show k _ _ (c7 hp) ?_
   (try dsimp only)
   rw[(Wm h0).1,(Wm h0).2];exact Jf.new
 . (repeat fail)
   show⟨sL,λp hp=>?_⟩;show k _ _ (c7 hp) ?_
   (try dsimp only)
   rw[(RK Z).1,(RK Z).2];exact Jf.new
def ND:w8 Pr w K mg base F6 1 t.y0a t.v0l ["number"] sp_prime:=by
 show T.w0k.F.okA BZ λ_ _ _ _ H _ _ _ hr h=>?_;obtain⟨n,rfl,⟨n2,n6,hp⟩,k⟩:=h;have PP:=On hp;show⟨_,(c5 (D3 (o6 Vp (O 0) c4<|o7 _) (c6<|h7 Ae) x5)<|c5 (sT 1 BZ.nd c4)<|c5 (Cr aB (o6 g0i (o8 Gm (O 1)<|O 1) (O 0)<|o7 _)<|c5 (D3 (o6 K8 (o8 F9 (O 0)<|O 1) c4<|o7 _) (c6<|h7 Ae) x5)<|c6<|sT 1 BZ.nd<|o8 O7 (O 1) c4)<|c6<|h7 Ae),?_⟩;show va U<|za ⟨U,U,va U ?_⟩;show Dw (λh0=>absurd h0 Z)<|λ_=>?_;show⟨λm σ H'=>∃f:Int,σ=[some<|.int n,some<|.int f]/\m=(n+2 - f).toNat/\(2<=f/\f<=n+1)/\H'=H,za ⟨U,U,⟨Z,Z⟩,U⟩,?_⟩;rintro m σ H' ⟨f,rfl,rfl,⟨f2,fn⟩,rfl⟩;have cm:TQ f f:=.inl ⟨Z,Z⟩;show vb U U<|za ⟨U,U,cm,va U<|za ⟨U,U,va U ?_⟩⟩;show Dw (λh0=>?_) (λh0=>?_)
 . show⟨λσ' gF=>∃f':Int,σ'=[some<|.int n,some<|.int f']/\(n+2 - f').toNat < (n+2 - f).toNat/\(2<=f'/\f'<=n+1)/\gF=H',λσ' gF ⟨f',e1,e2,e3,e4⟩=>⟨_,e2,f',e1,U,e3,e4⟩,?_⟩;show vb U U (za ⟨U,U,(show f≠0 by omega),U,va U ?_⟩);have hs:=e0o f2 h0;show Dx (λh1=>absurd h1<|PP.2 f f2 h0)<|λ_=>?_;show va U<|za ⟨U,U,?_⟩;exact va U ⟨Z,⟨Z,Z⟩,U⟩
 . exact k
def CA:w8 Pr w K mg base F6 2 t.r0l t.q0t [T4,"prime"] (Xp t.y0f):=by
 show T.q0q.F.okA Cd λ_ _ _ _ _ _ _ _ hr h=>?_;obtain⟨x,dx,n,rfl,hn,hx,k⟩:=h;show⟨_,(c5 (D3 (PW.pt<|Nn (Gf<|DW<|D2 (Cw T) hr.m T.v0m<|B3<|O 1)<|Nn (o6 AZ (O 1) (XQ (v:=.int 1000000) U T.c_GREATEST_PRIME.choose_spec ⟨_,U⟩)<|o7 _)<|Pw<|Gf<|DW<|D2 (ND T) hr.m T.w0k<|B3<|O 1) (c6 AX) x5)<|c6<|a0f (O 0) (O 1) U),?_⟩;norm_cast;show vc U U U ?_
 (try show Em ?_)
 show va U<|za ⟨U,U,va U ?_⟩;show Dw (λh0=>absurd h0 (by have:=hn.2.1;omega))<|λ_=>?_;show vb U U ⟨hn,va U ?_⟩
 (try show Em ?_)
 show vb U U ⟨x,_,dx,va U ⟨hx,T.v0i,T.nP,(by show 0 < 1000;decide),?_⟩⟩;exact k
def KS{n:Nat}(h:N5 Mb n):n<=60000000:=by
 rcases h with h | h
 . exact h
 . have:=h 0 (⟨2,1,bD,by unfold dv;decide⟩:Fr);exact absurd this.1 bD
def Ds:w8 Pr w K mg base F6 1 t.r0m t.q0y [T4] (Ke t.w0y [] Mb Qs Fr.zero):=by show T.q0z.F.okA Dp λ_ _ _ _ _ _ _ _ hr h=>?_;obtain⟨x,rfl,_,k⟩:=h;show⟨_,(c6<|h7<|D0<|F1 c4 c4),?_⟩;exact⟨sL,λp hp=>k _ _ (c7 hp) Jf.new⟩
def Fl:w8 Pr w K mg base F6 38 t.s0h t.r0t Dt (Kf t.w0y [] Mb Qs Fr.add):=by
 show T.r0u.F.okA ER λ_ _ _ _ _ _ _ _ hr h=>?_;obtain⟨k0,x,y,a,b,m,n,rfl,⟨_,⟨px,rfl,hx⟩,⟨py,rfl,hy⟩,sa,sb,ib⟩,k⟩:=h;have sa:a.sz m:=sa;have sb:b.sz n:=sb;have ib:=KS ib;have m1:GX a.t b.b:=JC (n:=n) sa.1 sb.2 Z;have m2:GX b.t a.b:=JC (n:=m) sb.1 sa.2 Z;have m3:GX a.b b.b:=JC (n:=n) sa.2 sb.2 Z;show⟨_,(c6<|h7<|D2 (Cz T) hr.m T.v0q<|F1 (o8 O7 (o8 V3 (D5 j7 (O 1) c4)<|D5 j7 (O 2) c4)<|o8 V3 (D5 j7 (O 2) c4)<|D5 j7 (O 1) c4)<|o8 V3 (D5 j7 (O 1) c4)<|D5 j7 (O 2) c4),?_⟩;norm_cast
 (repeat fail)
 exact⟨df<|aN a.p b.p,k⟩
def Ed:w8 Pr w K mg base F6 38 t.s0c t.r0k Dt (Kf t.w0y [] Mb Qs Fr.mul):=by
 show T.r0e.F.okA DK λ_ _ _ _ _ _ _ _ hr h=>?_;obtain⟨k0,x,y,a,b,m,n,rfl,⟨_,⟨px,rfl,hx⟩,⟨py,rfl,hy⟩,sa,sb,ib⟩,k⟩:=h;have sa:a.sz m:=sa;have sb:b.sz n:=sb;have ib:=KS ib;have m1:GX a.t b.t:=JC (n:=n) sa.1 sb.1 Z;have m3:GX a.b b.b:=JC (n:=n) sa.2 sb.2 Z;show⟨_,(c6<|h7<|D2 (Cz T) hr.m T.v0q<|F1 (o8 V3 (D5 j7 (O 1) c4)<|D5 j7 (O 2) c4)<|o8 V3 (D5 j7 (O 1) c4)<|D5 j7 (O 2) c4),?_⟩;norm_cast
 (repeat fail)
 exact⟨df<|aN a.p b.p,k⟩
def Ec(p:Int)(hp:2<=p):w8 Pr w K mg base F6 1 t.s0b t.r0h [T4] (Ke t.y0f (Rp p) (AW p hp) (Qr p) (AW p hp).zero):=by show T.r0d.F.okA DJ λ_ _ _ _ _ _ _ _ hr h=>?_;obtain⟨x,rfl,_,k⟩:=h;show⟨_,(c6<|h7 c4),?_⟩;exact k _ _ (h9.refl _) rfl
def Gn(p:Int)(hp:2<=p):w8 Pr w K mg base F6 1 t.s0x t.s0a Dt (Kf t.y0f (Rp p) (AW p hp) (Qr p) (AW p hp).add):=by show T.r0z.F.okA FT λ_ _ _ _ _ _ _ _ hr h=>?_;obtain⟨k0,x,y,a,b,m,n,rfl,⟨⟨q,dx,rfl,hq⟩,rfl,rfl,sa,sb,ib⟩,k⟩:=h;show⟨_,(c6<|h7<|o8 F9 (o8 O7 (O 1)<|O 2)<|Lk (O 0) U),?_⟩;norm_cast;show vb U U (za ⟨U,U,va U ⟨q,_,dx,za ⟨U,hq,T.v0i,T.nP,Dd p,za ⟨U,U,(show p≠0 by omega),?_⟩⟩⟩⟩);exact k _ _ (h9.refl _) rfl
def R6(p:Int)(hp:2<=p)(hq:p<=1000000):w8 Pr w K mg base F6 1 t.s0d t.r0q Dt (Kf t.y0f (Rp p) (AW p hp) (Qr p) (AW p hp).mul):=by show T.r0s.F.okA EN λ_ _ _ _ _ _ _ _ hr h=>?_;obtain⟨k0,x,y,a,b,m,n,rfl,⟨⟨q,dx,rfl,hk⟩,rfl,rfl,sa,sb,ib⟩,k⟩:=h;have cm:TQ a.x b.x:=.inl ⟨by have:=a.h0;omega,by have:=a.h1;omega⟩;show⟨_,(c6<|h7<|o8 F9 (o8 Gm (O 1)<|O 2)<|Lk (O 0) U),?_⟩;norm_cast;show vb U U (za ⟨U,U,cm,va U ⟨q,_,dx,za ⟨U,hk,T.v0i,T.nP,Dd p,za ⟨U,U,(show p≠0 by omega),?_⟩⟩⟩⟩);exact k _ _ (h9.refl _) rfl
def Gp:w8 Pr w K mg base F6 1 t.s0l t.r0x [T4] (Ke t.w0y [] Mb Qs Fr.one):=by show T.r0y.F.okA FU λ_ _ _ _ _ _ _ _ hr h=>?_;obtain⟨x,rfl,_,k⟩:=h;show⟨_,(c6<|h7<|D0<|F1 c4 c4),?_⟩;exact⟨sL,λp hp=>k _ _ (c7 hp) Jf.new⟩
def Hc(p:Int)(hp:2<=p):w8 Pr w K mg base F6 1 t.t0f t.s0f [T4] (Ke t.y0f (Rp p) (AW p hp) (Qr p) (AW p hp).one):=by show T.s0i.F.okA GZ λ_ _ _ _ _ _ _ _ hr h=>?_;obtain⟨x,rfl,_,k⟩:=h;show⟨_,(c6<|h7 c4),?_⟩;exact k _ _ (h9.refl _) rfl
def Au:w8 Pr w K mg base F6 1 t.s0e t.r0p [T4] (e0p true):=by show T.r0r.F.okA ES λ_ _ _ _ _ _ _ _ hr h=>?_;obtain⟨x,rfl,k⟩:=h;exact⟨_,(c6<|h7 Ae),k⟩
def Zj(x:Fr):Fr:=⟨-x.t,x.b,x.p,by rw[c0q];exact x.l⟩
def BG(x:Fr):Fr:=if h:x.t≠0 then⟨tp x.b x.t,bt x.b x.t,Eu h,o0z h⟩else x
def CT{x:Fr}(h:x≠Fr.zero):x.t≠0:=λe=>by
 show h<|Fr.eq_of e ?_;have h1:=x.l;rw[e]at h1;have h2:dv 0 x.b=x.b:=by rw[YB,Mf];have:=x.p;omega
 rw[h2]at h1;exact h1
def OJ{x:Fr}(h:x.t≠0):BG x=⟨tp x.b x.t,bt x.b x.t,Eu h,o0z h⟩:=by unfold BG;rw[dif_pos h]
def HK{x:Fr}(h:x.t≠0):(BG x).t=tp x.b x.t:=by rw[OJ h]
def HL{x:Fr}(h:x.t≠0):(BG x).b=bt x.b x.t:=by rw[OJ h]
def Ee:w8 Pr w K mg base F6 1 t.r0w t.r0f Eg (UE t.w0y [] Mb Qs Zj):=by
 show T.r0j.F.okA DL λ_ _ _ _ _ _ _ _ hr h=>?_;obtain⟨k0,x,a,rfl,⟨_,⟨px,rfl,hx⟩⟩,k⟩:=h;show⟨_,(c6<|h7<|D0<|F1 (Vh OU<|D5 j7 (O 1) c4)<|D5 j7 (O 1) c4),?_⟩;norm_cast
 (repeat fail)
 exact⟨sL,λp hp=>k _ _ (c7 hp) Jf.new⟩
def CB:w8 Pr w K mg base F6 37 t.r0c t.q0p Eg (UF t.w0y [] Mb Qs BG):=by
 show T.q0s.F.okA Ce λ_ _ _ _ _ _ _ _ hr h=>?_;obtain⟨k0,x,a,rfl,⟨_,⟨px,rfl,hx⟩,na⟩,k⟩:=h;have h0:=CT (x:=a) na;show⟨_,(c6<|h7<|D2 (Cz T) hr.m T.v0q<|F1 (D5 j7 (O 1) c4)<|D5 j7 (O 1) c4),?_⟩;norm_cast
 (repeat fail)
 show λv H' q f=>k v H' q ?_;show Jf H' v (BG a).t (BG a).b;rw[HK h0,HL h0];exact f
def Zd(p:Int)(hp:2<=p)(a:Re p):Re p:=Re.of p Z (-a.x)
def Ze(p:Int)(hp:2<=p)(a:Re p):Re p:=⟨ri p a.x,(YO Z).1,(YO Z).2⟩
def Fk(p:Int)(hp:2<=p):w8 Pr w K mg base F6 1 t.s0g t.r0o Eg (UE t.y0f (Rp p) (AW p hp) (Qr p)<|Zd p hp):=by show T.r0v.F.okA EO λ_ _ _ _ _ _ _ _ hr h=>?_;obtain⟨k0,x,a,rfl,⟨⟨q,dx,rfl,hq⟩,rfl⟩,k⟩:=h;show⟨_,(c6<|h7<|o8 F9 (Vh OU<|O 1)<|Lk (O 0) U),?_⟩;norm_cast;show vc U U U ⟨q,_,dx,za ⟨U,hq,T.v0i,T.nP,Dd p,za ⟨U,U,(show p≠0 by omega),?_⟩⟩⟩;exact k _ _ (h9.refl _) rfl
def half{l:Int}(h:0 < l):0<=l.fdiv 2/\(l.fdiv 2).toNat < l.toNat:=by rw[dZ l bD];omega
def Dq(p:Int)(hp:2<=p)(hq:p<=1000000):w8 Pr w K mg base F6 3 t.r0n t.q0x Eg (UF t.y0f (Rp p) (AW p hp) (Qr p)<|Ze p hp):=by
 show T.r0b.F.okA C4 λ_ _ _ _ H _ _ _ hr h=>?_;obtain⟨k0,x,a,rfl,⟨⟨q,dx,rfl,iL⟩,rfl,na⟩,k⟩:=h;have hk:∀{H':Hp},h9 H H'->H' q=some (.ins t.y0f dx<|Rp p):=λe=>e _ _ iL;have nt:(Rp p).lookup ("times":Str)=none:=Ct p dK;show⟨_,(c5 (D3 (o6 K8 (O 1) c4<|o7 _) (c6 AX) x5)<|c5 (sT 2 C4.nd c4)<|c5 (sT 3 C4.nd<|O 1)<|c5 (sT 4 C4.nd<|o8 Gj (Lk (O 0) U) c4)<|c5 (Cr aB (o6 AZ (O 4) c4<|o7 _)<|c5 (D3 (o6 K8 (o8 F9 (O 4) c4) c4<|o7 _) (c6<|sT 2 C4.nd<|V2 (O 0) T.v0i T.r0s.t (R6 T p hp hq) hr.m T.r0s.b .nil C3<|F1 (O 2)<|O 3) x5)<|c5 (sT 3 C4.nd<|V2 (O 0) T.v0i T.r0s.t (R6 T p hp hq) hr.m T.r0s.b .nil C3<|F1 (O 3)<|O 3)<|c6<|sT 4 C4.nd<|o8 Fd (O 4) c4)<|c6<|h7<|O 2),?_⟩;norm_cast;show va U ⟨U,va U ?_⟩;show Dx (λh0=>absurd (Re.eq_of h0) na)<|λh0=>?_;show vb U U ⟨q,_,dx,za ⟨U,iL,T.v0i,T.nP,Dd p,za ⟨U,U,?_⟩⟩⟩;show⟨λm σ H'=>∃l pr sq:Int,σ=[sr q,some<|.int a.x,some<|.int pr,some<|.int sq,some<|.int l]/\m=l.toNat/\(0<=l/\0<=sq/\sq < p/\OI p a.x l pr sq)/\h9 H H',zf ⟨U,U,⟨Z,a.h0,a.h1,UW hp⟩,h9.refl _⟩,?_⟩;rintro m σ H' ⟨l,pr,sq,rfl,rfl,⟨l0,s0,s1,ri⟩,qq⟩;show va U<|za ⟨U,U,va U ?_⟩;show Dw (λhl=>?_) (λhl=>?_)
 . show⟨λσ' gF=>∃l' oU ll:Int,σ'=[sr q,some<|.int a.x,some<|.int oU,some<|.int ll,some<|.int l']/\l'.toNat < l.toNat/\(0<=l'/\0<=ll/\ll < p/\OI p a.x l' oU ll)/\h9 H gF,λσ' gF ⟨l',oU,ll,e1,e2,e3,e4⟩=>⟨_,e2,l',oU,ll,e1,U,e3,e4⟩,?_⟩;have fd:=half hl;have m0:∀S:SR,N5 S (0+0):=λ_=>.inl bD;show va U (za ⟨U,U,(show(2:Int)≠0 by decide),U,va U ?_⟩);show Dx (λho=>?_) (λho=>?_)
   . show va U<|zd ⟨U,hk qq,nt,vb U U<|zd ⟨(⟨pr,ri.2.1,ri.2.2⟩:Re p),(⟨sq,s0,s1⟩:Re p),0,0,U,⟨za ⟨U,hk qq⟩,U,U,trivial,trivial,m0 _⟩,λv1 H1 q1 f1=>?_⟩⟩;obtain rfl:v1=.int ((pr * sq).fmod p):=f1;have s2:=qq.trans q1;show va U<|zd ⟨U,hk s2,nt,vb U U<|zd ⟨(⟨sq,s0,s1⟩:Re p),(⟨sq,s0,s1⟩:Re p),0,0,U,⟨za ⟨U,hk s2⟩,U,U,trivial,trivial,m0 _⟩,λv2 H2 q2 f2=>?_⟩⟩;obtain rfl:v2=.int ((sq * sq).fmod p):=f2;show va U (za ⟨U,U,⟨by decide,bD⟩,?_⟩);exact zd ⟨U,fd.2,⟨fd.1,(Pu Z).1,(Pu Z).2,ZY Z ri hl<|by rw[<- fe bD];exact ho⟩,s2.trans q2⟩
   . show va U<|zd ⟨U,hk qq,nt,vb U U<|zd ⟨(⟨sq,s0,s1⟩:Re p),(⟨sq,s0,s1⟩:Re p),0,0,U,⟨za ⟨U,hk qq⟩,U,U,trivial,trivial,m0 _⟩,λv2 H2 q2 f2=>?_⟩⟩;obtain rfl:v2=.int ((sq * sq).fmod p):=f2;show va U (za ⟨U,U,⟨by decide,bD⟩,?_⟩);exact zd ⟨U,fd.2,⟨fd.1,(Pu Z).1,(Pu Z).2,XG Z ri hl<|by rw[<- fe bD];exact ho⟩,qq.trans q2⟩
 . show va U ?_;have e:=ZW ri hl;show k _ _ qq ?_;show V.int pr=.int (Mine.ri p a.x);rw[e]
def d0d{p:Int}{hp:2<=p}{x:Re p}(h:x≠(AW p hp).zero):0 < x.x:=by
 have h0:=x.h0;by_cases e:x.x=0
 . exact absurd (Re.eq_of e) h
 . omega
def R_fr:c9 Pr w K mg base where
 S:=Mb
 C:=t.w0y
 fs:=[]
 cl:=T.u0d
 is:=Qs
 same e h:=Jf.same e h
 isd h:=Jf.is h
 F:={
  neg:=Zj
  inv:=BG
  add_neg:=λx=>Fr.eq_of (Ig x.p).1 (Ig x.p).2
  mul_inv:=λx h=>Fr.eq_of (by show tp (x.t * (BG x).t) (x.b * (BG x).b)=1;rw[HK<|CT h,HL<|CT h];exact(Kc (CT h) x.nb).1) (by show bt (x.t * (BG x).t) (x.b * (BG x).b)=1;rw[HK<|CT h,HL<|CT h];exact(Kc (CT h) x.nb).2)
  sz_neg:=λm x h=>⟨by show(-x.t).natAbs<=_;rw[Int.natAbs_neg];exact h.1,h.2⟩
  sz_inv:=λm x h s=>⟨by rw[HK<|CT h];exact af (QW<|CT h) s.2,by rw[HL<|CT h];exact af (Sd<|CT h) s.1⟩ }
 B:=p0n
 f_plus:=_
 d_plus:=_
 t_plus:=T.r0u.t
 b_plus:=T.r0u.b
 l_plus:=rfl
 G_plus:=(Fl T).mono bD
 f_times:=_
 d_times:=_
 t_times:=T.r0e.t
 b_times:=T.r0e.b
 l_times:=rfl
 G_times:=(Ed T).mono bD
 f_nought:=_
 d_nought:=_
 t_nought:=T.q0z.t
 b_nought:=T.q0z.b
 l_nought:=rfl
 G_nought:=(Ds T).mono bD
 f_one:=_
 d_one:=_
 t_one:=T.r0y.t
 b_one:=T.r0y.b
 l_one:=rfl
 G_one:=(Gp T).mono bD
 f_minus:=_
 d_minus:=_
 t_minus:=T.r0j.t
 b_minus:=T.r0j.b
 l_minus:=rfl
 G_minus:=(Ee T).mono bD
 f_inverse:=_
 d_inverse:=_
 t_inverse:=T.q0s.t
 b_inverse:=T.q0s.b
 l_inverse:=rfl
 G_inverse:=(CB T).mono bD
 f_is_field:=_
 d_is_field:=_
 t_is_field:=⟨T.iF_is_field,T.r0r.t.2,T.r0r.t.3⟩
 b_is_field:=T.r0r.b
 l_is_field:=rfl
 G_is_field:=(Au T).mono bD
def R_re(p:Int)(hp:2<=p)(hq:p<=1000000)(hP:Mt p=true):c9 Pr w K mg base where
 S:=AW p hp
 C:=t.y0f
 fs:=Rp p
 cl:=T.v0i
 is:=Qr p
 same _ h:=h
 isd {H v x} h:=by cases (show v=.int x.x from h);exact .int _
 F:={
  neg:=Zd p hp
  inv:=Ze p hp
  add_neg:=λx=>Re.eq_of (r_pm Z)
  mul_inv:=λx h=>Re.eq_of (ZX (On hP).nat (d0d (hp:=hp) h) x.h1)
  sz_neg:=λ_ _ _=>trivial
  sz_inv:=λ_ _ _ _=>trivial }
 B:=g0d p hp
 f_plus:=_
 d_plus:=_
 t_plus:=T.r0z.t
 b_plus:=T.r0z.b
 l_plus:=Ct p dK
 G_plus:=(Gn T p hp).mono bD
 f_times:=_
 d_times:=_
 t_times:=T.r0s.t
 b_times:=T.r0s.b
 l_times:=Ct p dK
 G_times:=(R6 T p hp hq).mono bD
 f_nought:=_
 d_nought:=_
 t_nought:=T.r0d.t
 b_nought:=T.r0d.b
 l_nought:=Ct p dK
 G_nought:=(Ec T p hp).mono bD
 f_one:=_
 d_one:=_
 t_one:=T.s0i.t
 b_one:=T.s0i.b
 l_one:=Ct p dK
 G_one:=(Hc T p hp).mono bD
 f_minus:=_
 d_minus:=_
 t_minus:=T.r0v.t
 b_minus:=T.r0v.b
 l_minus:=Ct p dK
 G_minus:=(Fk T p hp).mono bD
 f_inverse:=_
 d_inverse:=_
 t_inverse:=T.r0b.t
 b_inverse:=T.r0b.b
 l_inverse:=Ct p dK
 G_inverse:=(Dq T p hp hq).mono bD
 f_is_field:=_
 d_is_field:=_
 t_is_field:=⟨T.iR_is_field,T.r0r.t.2,T.r0r.t.3⟩
 b_is_field:=T.r0r.b
 l_is_field:=Ct p dK
 G_is_field:=(Au T).mono bD
inductive So(T:Txt K mg t):c9 Pr w K mg base->Str->Int->Prop
 | fr:So T (R_fr T) "fractions" 0
 | re (p:Int) (hp:2<=p) (hq:p<=1000000) (hi:Mt p=true):So T (R_re T p hp hq hi) "residues" p
def K7(_:Hp)(v:V)(_:Str)(p:Int):Prop:=v=.int p
def K7.same{H H':Hp}{v:V}{nm:Str}{p:Int}(_:y9 H H')(h:K7 H v nm p):K7 H' v nm p:=h
def Dr(H:Hp)(a:Addr):Prop:=∃x:Int,H a=some (.lst [.int x])\/∃d:Int,H a=some (.lst [.int d,.int x])
def l6(a:Addr)(H H':Hp):Prop:=∀b o,b≠a->H b=some o->H' b=some o
def l6.refl(a:Addr)(H:Hp):l6 a H H:=λ_ _ _ h=>h
def l6.trans{a:Addr}{H H1 H2:Hp}(x:l6 a H H1)(y:l6 a H1 H2):l6 a H H2:=λb o n h=>y b o n (x b o n h)
theorem l6.upd{a:Addr}{H:Hp}{o:HO}:l6 a H (upd H a o):=λb u n h=>by rw[l9 n];exact h
def l6.of{a:Addr}{H H':Hp}(x:h9 H H'):l6 a H H':=λb o _ h=>x b o h
def sp_next:Sp:=λvs H Q _=>∃(a:Addr) (m:Int),vs=[.ref a,.int m]/\(Dr H a/\0 < m/\m<=1000000000000000)/\∀(r:Int) H',l6 a H H'->Dr H' a->0<=r->r < m->Q (.int r) H'
def Uw(K:aa):Sp:=λvs H Q _=>∃(a:Addr) (ns:List Int),vs=[.ref a]/\p9 K H a (ns.map V.int)/\ns.length<=63/\∀b H',H b=none->h9 H H'->Dr H' b->Q (.ref b) H'
def SH{m:Int}(h:0 < m)(h':m<=1000000000000000)(x:Int):Zk x m:=by
 show⟨Z,?_⟩;have:m.natAbs<=2 ^ 50:=by
  have e:(2:Nat) ^ 50=1125899906842624:=by decide
  omega
 by_cases e:m.natAbs=0
 . rw[e];decide
 . rw[Nat.log2_lt e];exact Nat.lt_of_le_of_lt this (Nat.pow_lt_pow_right bD bD)
def y6:w8 Pr w K mg base F6 1 t.y0s t.w0m a0u sp_next:=by
 show T.v0w.F.okA GI λ_ _ _ _ H _ _ _ hr h=>?_;obtain⟨a,m,rfl,⟨⟨x,hD⟩,m0,m1⟩,k⟩:=h;show⟨_,(c5 (D3 (o6 K8 (x9 B4 bR T.z_len PySem.boot_len<|B3<|O 0) c4<|o7 _) (c5 (sT 2 GI.nd<|o8 F9 (D5 y8 (O 0) c4)<|O 1)<|c5 (X3 (o8 Fd (D5 y8 (O 0) c4)<|O 1)<|Cs (O 0) c4 V8)<|c5 (D3 (o6 K8 (D5 y8 (O 0) c4) c4<|o7 _) (c6<|F3<|W2 bq PySem.F.slot_list_pop PySem.F.type_list_pop VF (O 0)<|B3 c4) x5)<|c6<|h7<|O 2) x5)<|c5 (X3 (o8 F9 (o8 O7 (o8 Gm (D5 y8 (O 0) c4) c4) c4) c4)<|Cs (O 0) c4 V8)<|c6<|h7<|o8 F9 (o8 Fd (D5 y8 (O 0) c4) c4)<|O 1),?_⟩;norm_cast;rcases hD with hD | ⟨d,hD⟩
 . have lc:BA K (.ref a) H 1:=.inl ⟨_,p9.of hD,U⟩;show va U<|za ⟨U,lc,U,va U ?_⟩;show Dx (λh=>absurd h bD)<|λ_=>?_;show va U (zf ⟨U,U,p9.of hD,U,za ⟨U,U,.inr ⟨by decide,bD⟩,za ⟨U,U,za ⟨U,U,(show(2305843009213693951:Int)≠0 by decide),?_⟩⟩⟩⟩);show va U<|zf ⟨U,U,hD,U,?_⟩;show va U (zf ⟨U,U,p9.of b9,U,za ⟨U,U,⟨by decide,bD⟩,va U<|za ⟨U,U,(show m≠0 by omega),?_⟩⟩⟩);exact k _ _ l6.upd ⟨_,.inl b9⟩ (bN _ m0) (bO _ m0)
 . have lc:BA K (.ref a) H 2:=.inl ⟨_,p9.of hD,U⟩;show va U<|za ⟨U,lc,U,va U ?_⟩;show Dx (λ_=>?_)<|λh=>absurd U h;show va U (zf ⟨U,U,p9.of hD,U,va U<|za ⟨U,U,(show m≠0 by omega),?_⟩⟩);show va U<|zf ⟨U,U,p9.of hD,U,va U<|za ⟨U,U,SH m0 m1 _,?_⟩⟩;show va U<|zf ⟨U,U,hD,U,?_⟩;show va U<|zf ⟨U,U,p9.of b9,U,U,va U ?_⟩;show Dx (λ_=>?_) (λ_=>?_)
   . show va U ⟨.inl ⟨U,_,p9.of b9⟩,zg ⟨U,U,b9,bD,bD,U,U,?_⟩⟩;show va U ?_;exact k _ _ (l6.upd.trans l6.upd) ⟨x,.inl b9⟩ (bN _ m0) (bO _ m0)
   . show va U ?_;exact k _ _ l6.upd ⟨x,.inr ⟨_,b9⟩⟩ (bN _ m0) (bO _ m0)
def Ln:w8 Pr w K mg base F6 1 t.x0x t.u0n [MA] (Uw K):=by
 show T.u0u.F.okA X8 λ_ _ _ _ H _ Q _ hr h=>?_;obtain⟨a,ns,rfl,hS,ed,k⟩:=h;show⟨_,(c5 (sT 1 X8.nd c4)<|c5 (E9 aB U (C5<|AY Rg (O 0) Dc<|Da c4) (gN 2 X8.nd)<|c6<|sT 1 X8.nd<|o8 F9 (o8 O7 (o8 O7 (o8 Gm (O 1) c4)<|o8 F9 (O 2)<|o8 a0k c4 c4) c4) c4)<|c5 (D3 (PW.pt<|Px (o6 AZ (x9 B4 bR T.z_len PySem.boot_len<|B3<|O 0) c4<|o7 _)<|Px (o6 AZ (D5 y8 (O 0) c4) c4<|o7 _)<|Rn<|o6 K8 (o8 F9 (D5 y8 (O 0) c4) c4) c4<|o7 _) (c6<|h7<|D1<|F1 (o8 Fd (D5 y8 (O 0) c4) c4)<|O 1) x5)<|c6<|h7<|D1<|B3<|O 1),?_⟩;norm_cast;show vb U U<|za ⟨U,hS,λc1 wa=>?_⟩;have ec:BL (ns.map V.int) none (some 200)=(ns.take 200).map V.int:=by rw[show(200:Int)=((200:Nat):Int)from rfl,WA,List.map_take]
 have s1:=c7 (o:=.lst<|BL (ns.map V.int) none<|some 200) wa;have k1:=b9 (H:=H) (a:=c1) (o:=.lst<|BL (ns.map V.int) none<|some 200);have jQ:=s1.seq hS;clear wa;revert s1 k1 jQ;generalize upd H c1 (.lst<|BL (ns.map V.int) none<|some 200)=H1;intro s1 k1 jQ;rw[ec]at k1;show⟨c1,U,⟨_,p9.of k1⟩,P2 (K:=K) (a:=c1) (xs:=(ns.take 200).map V.int) (λi σ H'=>∃(x:Int) (v:Option V),σ=[sr a,some<|.int x,v]/\H'=H1) ⟨_,va U U⟩ (λi σ H' _ ⟨_,_,_,e⟩=>e▸p9.of k1) ?_ ?_⟩
 . rintro i y σ H' hi ⟨x,v,rfl,rfl⟩;obtain⟨z,rfl⟩:∃z,y=V.int z:=by
    rw[aE]at hi;cases e:(ns.take 200)[i]? with
    | none=>rw[e]at hi;cases hi
    | some z=>rw[e]at hi;exact⟨z,(Option.some.inj hi).symm⟩
   show va U (za ⟨U,U,.inr ⟨by decide,bD⟩,va U<|za ⟨U,U,⟨by decide,bD,bD⟩,za ⟨U,U,(show((10:Int) ^ (30:Int).toNat)≠0 by decide),za ⟨U,U,za ⟨U,U,za ⟨U,U,(show(2305843009213693951:Int)≠0 by decide),?_⟩⟩⟩⟩⟩⟩);exact za ⟨U,U⟩
 . rintro σ H' ⟨x,v,rfl,rfl⟩;have lc:BA K (.ref a) H' (ns.map V.int).length:=.inl ⟨_,jQ,U⟩;rw[ag]at lc;have last:e0a tNext (e0b<|e0g<|BC (Zu 1) tNil) { nx:=λ_ gF=>Q .non gF,rt:=Q } [sr a,some<|.int x,v] H':=by show va U ⟨sL,λb hb=>?_⟩;exact k b _ (s1.free hb) (s1.trans<|c7 hb) ⟨x,.inl b9⟩
   show va U<|za ⟨U,lc,za ⟨U,U,va U ?_⟩⟩;show Dw (λh0=>?_) (λ_=>?_)
   . obtain⟨n0,g0⟩:∃n,ns[0]? = some n:=⟨ns[0]'Z,by simp⟩;have a0:OM (ns.map V.int) 0=some (V.int n0):=E7 (j:=0) (by rw[aE,g0];rfl);show va U<|zf ⟨U,U,jQ,a0,za ⟨U,U,va U ?_⟩⟩;show Dw (λ_=>?_) (λ_=>?_)
     . show va U (zf ⟨U,U,jQ,a0,za ⟨U,U,(show(2:Int)≠0 by decide),U,va U ?_⟩⟩);show Dx (λ_=>?_) (λ_=>?_)
       . show va U (zf ⟨U,U,jQ,a0,za ⟨U,U,⟨by decide,bD⟩,va U ⟨sL,λb hb=>?_⟩⟩⟩);exact k b _ (s1.free hb) (s1.trans<|c7 hb) ⟨x,.inr ⟨_,b9⟩⟩
       . exact last
     . exact last
   . exact last
def Dr.same{H H':Hp}{a:Addr}(e:h9 H H')(h:Dr H a):Dr H' a:=by
 obtain⟨x,h | ⟨d,h⟩⟩:=h
 . exact⟨x,.inl<|e _ _ h⟩
 . exact⟨x,.inr ⟨d,e _ _ h⟩⟩
theorem Dr.lst{H:Hp}{a:Addr}(h:Dr H a):∃xs,H a=some (.lst xs):=by
 obtain⟨x,h | ⟨d,h⟩⟩:=h
 . exact⟨_,h⟩
 . exact⟨_,h⟩
def l6.tt{a:Addr}{H H':Hp}(s:l6 a H H')(d:Dr H a):y9 H H':=λp vs h=>s p _ (by
 rintro rfl;obtain⟨xs,e⟩:=d.lst;rw[h]at e;cases e) h
def l6.tup{a p:Addr}{H:Hp}{o:HO}(n:H p=none)(d:Dr H a):l6 a H (L2.upd H p o)/\Dr (L2.upd H p o) a:=⟨.of<|c7 n,d.same<|c7 n⟩
def B6{H:Hp}{a:Addr}{xs:List V}{o:HO}(h:H a=some (.lst xs)):y9 H (upd H a o):=λb vs hb=>by
 rw[l9<|by rintro rfl;rw[h]at hb;cases hb];exact hb
def Al{H H1:Hp}{a:Addr}{o:HO}(s:h9 H H1)(n:H a=none):h9 H (upd H1 a o):=λb u hb=>by
 rw[l9<|l8 hb n];exact s _ _ hb
def l6.put{a b:Addr}{H H1:Hp}{o:HO}(s:l6 a H H1)(n:H b=none):l6 a H (L2.upd H1 b o):=λc u hc hu=>by
 rw[l9<|l8 hu n];exact s c u hc hu
def Dr.put{a b:Addr}{H:Hp}{o:HO}(d:Dr H a)(n:b≠a):Dr (L2.upd H b o) a:=by
 obtain⟨x,h | ⟨y,h⟩⟩:=d
 . exact⟨x,.inl<|by rw[l9<|Ne.symm n];exact h⟩
 . exact⟨x,.inr ⟨y,by rw[l9<|Ne.symm n];exact h⟩⟩
def Ru{H:Hp}{a p:Addr}(d:Dr H a)(n:H p=none):p≠a:=λe=>by
 obtain⟨xs,z⟩:=d.lst;rw[<- e,n]at z;cases z
def tx(l:w1e):Str:=⟨l.toArray⟩
def vT(l:w1e):V:=.str (tx l)
def Uj(a b:w1e):tx a++tx b=tx (a++b):=by show(⟨a.toArray++b.toArray⟩:Str)=⟨(a++b).toArray⟩;simp
def T5(a:w1e):(tx a).length=a.length:=by show a.toArray.size=a.length;simp
def Uh{l:w1e}{i c:Nat}(h:(tx l).cps[i]? = some c):l[i]? = some c:=by simpa [tx] using h
def Wu:(Str.ofString "")=tx []:=by decide +kernel
def Ui{l:w1e}(h:∀c∈l,c < 128):(tx l).cps.all (· < 128)=true:=by show l.toArray.all (· < 128)=true;simp only[List.all_toArray,dD,decide_eq_true_eq];exact h
def EJ(l:w1e):L2.EK (tx l)=l.map λc=>vT [c]:=by unfold L2.EK tx;simp only[List.map_inj_left];intro c _;rfl
abbrev j5(R:c9 Pr w K mg base)(n:Nat)(x:QQ R.S):V->Hp->Prop:=N8 (λj u H=>R.is H u<|x j) n
theorem j5.same{R:c9 Pr w K mg base}{n:Nat}{x:QQ R.S}{v:V}{H H':Hp}(s:y9 H H')(e:j5 R n x v H):j5 R n x v H':=e.mono s λ_ _ _ q=>R.same s q
def j5.congr{R:c9 Pr w K mg base}{n:Nat}{x y:QQ R.S}{v:V}{H:Hp}(h:∀i,i < n->x i=y i)(r:j5 R n x v H):j5 R n y v H:=
 r.mono (y9.refl _) λj _ hj q=>by rw[<- h j hj];exact q
def j5.at{R:c9 Pr w K mg base}{n:Nat}{x:QQ R.S}{v:V}{H:Hp}(r:j5 R n x v H){j:Nat}(hj:j < n):∃p vs u,v=.ref p/\o9 K H p vs/\OM vs (j:Int)=some u/\R.is H u (x j):=by obtain⟨p,vs,rfl,hp,e⟩:=r;obtain⟨u,eu,q⟩:=e.2 j hj;exact⟨p,vs,u,U,o9.of hp,E7 eu,q⟩
variable(w K mg base)in def KL:Sp:=λvs H Q _=>∃(R:c9 Pr w K mg base),∃kv bv row n b x r,vs=[kv,bv,row]/\(N9 R.C R.fs H kv/\R.is H bv b/\R.S.sz r b/\j5 R n x row H/\(∀i,i < n->R.S.sz r (x i))/\n<=1000/\N5 R.S (r+r))/\
 ∀v H',h9 H H'->j5 R n (λi=>R.S.mul b<|x i) v H'->Q v H'
def Fe:w8 Pr w K mg base F6 41 t.w0v t.t0s VA (KL w K mg base):=by
 show T.u0k.F.okA KY λ_ _ _ _ H _ _ _ hr h=>?_;obtain⟨R,kv,bv,row,n,b,x,r,rfl,⟨⟨kp,dx,rfl,hk⟩,hb,lb,⟨p,us,rfl,hp,fY⟩,lx,hn,hz⟩,k⟩:=h;show⟨_,(c6<|h7<|i3 c8 bR T.z_tuple boot_tuple<|B3<|x8 (xs:=["x"]) U (oC VA<|a8 Am) (J2<|O 2) (r9 (i:=3) (by show List.Nodup ([x6,"by",C8,"x"]:w1f);decide +kernel) U<|Or.inl U)<|V2 (O 0) R.cl R.t_times R.G_times hr.m R.b_times .nil C3<|F1 (O 1)<|O 3),?_⟩;norm_cast;show va U ⟨p,U,⟨_,o9.of hp⟩,o4 (n:=n) (λj ys H2=>h9 H H2/\j8 (λi u H=>R.is H u<|R.S.mul b<|x i) ys j H2) hn ⟨h9.refl _,j8.nil⟩ (λj ys H2 q=>q.2.1) ?_ ?_ ?_⟩
 . rintro j ys H2 hj ⟨q,e⟩;obtain⟨u,eu,pu⟩:=fY.2 j hj;show Dy (o9.of<|q _ _ hp) eu ?_;show⟨⟨[some _],U,U⟩,va U<|zd ⟨U,q _ _ hk,R.l_times,vb U U<|zg ⟨r,r,U,⟨za ⟨U,q _ _ hk⟩,R.same q.t hb,R.same q.t pu,lb,lx j hj,hz⟩,λv H3 s3 f3=>?_⟩⟩⟩;exact⟨q.trans s3,(e.mono λ_ _ _ z=>R.same s3.t z).snoc f3⟩
 . rintro ys H2 ⟨q,e⟩;exact⟨_,o9.of<|q _ _ hp,by rw[fY.1];exact ae _⟩
 . rintro ys H2 l ⟨q,e⟩ nl;have fF:=c7 (o:=.lst ys) nl;show⟨l,ys,U,.inl ⟨p9.of b9,λl2 n2=>?_⟩⟩;have s2:=c7 (o:=.tup ys) n2;exact k _ _ (q.trans<|fF.trans s2) ⟨l2,ys,U,b9,e.mono λ_ _ _ z=>R.same (fF.trans s2).t z⟩
variable(w K mg base)in def Jk:Sp:=λvs H Q _=>∃(R:c9 Pr w K mg base),∃kv,vs=[kv]/\N9 R.C R.fs H kv/\Q .non H
def AF:w8 Pr w K mg base F6 41 t.w0g t.t0h [x6] (Jk w K mg base):=by
 show T.t0b.F.okA Jq λ_ _ _ _ _ _ _ _ hr h=>?_;obtain⟨R,kv,rfl,⟨kp,dx,rfl,hk⟩,k⟩:=h;show⟨_,(c6<|D3 (Gf<|DW<|W0 (O 0) R.cl R.t_is_field R.G_is_field hr.m R.b_is_field .nil C3) (c6 AX) x5),?_⟩;show va U (zd ⟨U,hk,R.l_is_field,vb U U ?_⟩)
 (try show Em ?_)
 exact k
def YV:Option Nat->V
 | none=>.non
 | some p=>.int (p:Nat)
def Ys{S:SR}{x:QQ S}{i w:Nat}(h:CK x i=none)(n:x i≠S.zero)(hi:i < w):CK x w=some i:=by
 cases e:CK x w with
 | none=>exact absurd (Y7 e i hi) n
 | some p=>
  obtain⟨a,b,c⟩:=Q2 e;by_cases h1:p < i
  . exact absurd (Y7 h p h1) b
  . by_cases h2:i < p
    . exact absurd (c i h2) n
    . rw[show p=i by omega]
variable(w K mg base)in def Ph:Sp:=λvs H Q _=>∃(R:c9 Pr w K mg base),∃kv rv,∃(n l:Nat),∃x,vs=[kv,rv,.int (l:Nat)]/\(N9 R.C R.fs H kv/\j5 R n x rv H/\l<=n/\n<=1000)/\∀H',h9 H H'->Q (YV<|CK x l) H'
def Io:w8 Pr w K mg base F6 41 t.z0o t.x0r [x6,C8,FM] (Ph w K mg base):=by
 show T.x0p.F.okA HV λ_ _ _ _ H _ _ _ hr h=>?_;obtain⟨R,kv,rv,n,l,x,rfl,⟨⟨kp,dx,rfl,hk⟩,gu,hl,hn⟩,k⟩:=h;show⟨_,(c5 (E9 aB U (C6 U T.z_range<|B3<|O 2) (gN 3 HV.nd)<|c6<|D3 (o6 (Gk hr.units) (D5 j7 (O 1)<|O 3) (W0 (O 0) R.cl R.t_nought R.G_nought hr.m R.b_nought .nil C3)<|o7 _) (c6<|h7<|O 3) x5)<|c6<|h7 Ii),?_⟩;norm_cast;show vb U U ⟨Z,Z,Dh (lo:=0) (n:=(l:Int).toNat) (λi σ H2=>∃v3,σ=[sr kp,some rv,si l,v3]/\h9 H H2/\CK x i=none) (va U ⟨h9.refl _,U⟩) ?_ ?_⟩
 . rintro i σ H2 hi ⟨v3,rfl,q,z⟩;have hi:i < l:=by omega
   obtain⟨p,us,u,rfl,hp,hu,iu⟩:=j5.at (j5.same q.t gu) (show i < n by omega);rw[show(i:Int)=0+(i:Int) by omega]at hu;show vb U U<|zf ⟨U,U,hp,hu,va U<|zd ⟨U,q _ _ hk,R.l_nought,va U ⟨za ⟨U,q _ _ hk⟩,λzv H3 s3 f3=>?_⟩⟩⟩;by_cases e:x i=R.S.zero
   . show R.neD (R.same s3.t iu) f3 e (va U ?_)
     (try show Em ?_)
     show va U ⟨q.trans s3,?_⟩;exact Ft λj hj=>by
      by_cases ej:j=i
      . rw[ej];exact e
      . exact Y7 z j Z
   . show R.neT (R.same s3.t iu) f3 e (va U ?_)
     (try show Om ?_)
     have:=k _<|q.trans s3;rw[Ys z e hi]at this;show va U ?_;rw[show(0:Int)+(i:Int)=((i:Nat):Int) by omega];exact this
 . rintro σ H2 ⟨v3,rfl,q,z⟩;rw[show(l:Int).toNat=l by omega]at z;have:=k _ q;rw[z]at this;exact this
variable(w K mg base)in def MO:Sp:=λvs H Q _=>∃(R:c9 Pr w K mg base),∃kv ov hv,∃(n m m':Nat),∃x y,vs=[kv,ov,hv]/\(N9 R.C R.fs H kv/\j5 R n x ov H/\j5 R n y hv H/\(∀i,i < n->R.S.sz m (x i)/\R.S.sz m' (y i))/\n<=1000/\N5 R.S (m+m'))/\
 ∀v H',h9 H H'->j5 R n (λi=>R.S.add (x i)<|y i) v H'->Q v H'
def Nv:w8 Pr w K mg base F6 41 t.y0r t.v0n Jd (MO w K mg base):=by
 show T.v0d.F.okA MX λ_ _ _ _ H _ _ _ hr h=>?_;obtain⟨R,kv,ov,hv,n,m,m',x,y,rfl,⟨⟨kp,dx,rfl,hk⟩,⟨fp,fs,rfl,hf,ef⟩,⟨gp,gs,rfl,hg,eg⟩,lx,hn,hz⟩,k⟩:=h;show⟨_,(c6<|h7<|i3 c8 bR T.z_tuple boot_tuple<|B3<|x8 (xs:=["x","y"]) U (oC Jd<|a8 Bm) (DY U T.z_zip<|F1 (O 1)<|O 2) (show PG _ _ (Ep K 2 _)from(I9 U<|l5 (r9 (i:=3) (by show List.Nodup ([x6,BH,AA,"x","y"]:w1f);decide +kernel) U<|Or.inl U)<|l5 (r9 (i:=4) (by show List.Nodup ([x6,BH,AA,"x","y"]:w1f);decide +kernel) U<|Or.inl U) D7))<|V2 (O 0) R.cl R.t_plus R.G_plus hr.m R.b_plus .nil C3<|F1 (O 3)<|O 4),?_⟩;norm_cast;show vb U U ⟨.tup fp,.tup gp,za ⟨fs,gs,U,U,U,o9.of hf,o9.of hg,o4 (n:=n) (λj ys H2=>h9 H H2/\j8 (λi u H=>R.is H u<|R.S.add (x i)<|y i) ys j H2) Z ⟨h9.refl _,j8.nil⟩ (λj ys H2 q=>q.2.1) ?_ ?_ ?_⟩⟩
 . rintro j ys H2 hj ⟨q,e⟩;obtain⟨u,eu,pu⟩:=ef.2 j hj;obtain⟨v,ev,O⟩:=eg.2 j hj;show⟨⟨fs,gs,u,v,o9.of<|q _ _ hf,o9.of<|q _ _ hg,eu,ev⟩,λy' H' hy=>?_⟩;obtain⟨pp,x',y',rfl,np,rfl,f1,f2⟩:=hy;have e1:=f1 _<|o9.of<|q _ _ hf;rw[eu]at e1;cases e1;have e2:=f2 _<|o9.of<|q _ _ hg;rw[ev]at e2;cases e2;have s3:=c7 (o:=.tup [u,v]) np;have q3:=q.trans s3;show⟨pp,va U ⟨o9.of b9,U,za ⟨U,za ⟨U,U,⟨[some _,some _],U,U⟩,va U<|zd ⟨U,q3 _ _ hk,R.l_plus,vb U U<|zg ⟨m,m',U,⟨za ⟨U,q3 _ _ hk⟩,R.same q3.t pu,R.same q3.t O,(lx j hj).1,(lx j hj).2,hz⟩,λv4 H4 s4 f4=>?_⟩⟩⟩⟩⟩⟩;exact⟨q3.trans s4,(e.mono λ_ _ _ z=>R.same (s3.trans s4).t z).snoc f4⟩
 . rintro ys H2 ⟨q,e⟩;exact⟨fs,gs,o9.of<|q _ _ hf,o9.of<|q _ _ hg,.inl ef.1.symm⟩
 . rintro ys H2 l ⟨q,e⟩ nl;have fF:=c7 (o:=.lst ys) nl;show⟨l,ys,U,.inl ⟨p9.of b9,λl2 n2=>?_⟩⟩;have s2:=c7 (o:=.tup ys) n2;exact k _ _ (q.trans<|fF.trans s2) ⟨l2,ys,U,b9,e.mono λ_ _ _ z=>R.same (fF.trans s2).t z⟩
def FJ(R:c9 Pr w K mg base)(W:Nat)(ks:w1a R.S):Nat->V->Hp->Prop:=λi u H=>∃k q rv,ks[i]? = some k/\u=.ref q/\H q=some (.tup [.int (k.1:Nat),rv])/\j5 R W k.2 rv H
theorem FJ.same{R:c9 Pr w K mg base}{W i:Nat}{ks:w1a R.S}{u:V}{H H':Hp}(s:y9 H H')(h:FJ R W ks i u H):FJ R W ks i u H':=by obtain⟨k,q,rv,e,rfl,hq,r⟩:=h;exact⟨k,q,rv,e,U,s _ _ hq,j5.same s r⟩
def M7(R:c9 Pr w K mg base)(W:Nat)(ks:w1a R.S)(a:Addr)(H:Hp):Prop:=∃us,H a=some (.lst us)/\j8 (FJ R W ks) us ks.length H
theorem M7.same{R:c9 Pr w K mg base}{W:Nat}{ks:w1a R.S}{a:Addr}{H H':Hp}(s:h9 H H')(h:M7 R W ks a H):M7 R W ks a H':=by obtain⟨us,ha,e⟩:=h;exact⟨us,s _ _ ha,e.mono λ_ _ _ q=>q.same s.t⟩
variable(w K mg base)in def Pl:Sp:=λvs H Q _=>∃(R:c9 Pr w K mg base),∃kv a rv,∃(W r:Nat),∃ks x,vs=[kv,.ref a,rv]/\(N9 R.C R.fs H kv/\M7 R W ks a H/\(∀k∈ks,k.1 < W)/\j5 R W x rv H/\W<=1000/\Hs R.F W r ks x/\N5 R.S (3 * r))/\
 ∀v H',h9 H H'->j5 R W (clr R.F ks x) v H'->Q v H'
def Eb:w8 Pr w K mg base F6 42 t.z0s t.x0z [x6,X6,C8] (Pl w K mg base):=by
 show T.w0p.F.okA Z4 λ_ _ _ _ H _ _ _ hr h=>?_;obtain⟨R,kv,a,rv,W,r,ks,x,rfl,⟨⟨kp,dx,rfl,hk⟩,⟨us,ha,eK⟩,fB,hR,hW,⟨zc,zr⟩,hS⟩,k⟩:=h;show⟨_,(c5 (sT 3 Z4.nd<|O 2)<|c5 (E9 aB U (C5<|O 1) (I9 U<|l5 (gN 4 Z4.nd)<|l5 (gN 5 Z4.nd) D7)<|c6<|D3 (o6 (Gk hr.units) (D5 j7 (O 3)<|O 4) (W0 (O 0) R.cl R.t_nought R.G_nought hr.m R.b_nought .nil C3)<|o7 _) (c6<|sT 3 Z4.nd<|D2 (Nv T) hr.m T.v0d<|S3 (O 0) (O 3)<|D2 (Fe T) hr.m T.u0k<|S3 (O 0) (V2 (O 0) R.cl R.t_minus R.G_minus hr.m R.b_minus .nil C3<|B3<|D5 j7 (O 3)<|O 4)<|O 5) x5)<|c6<|h7<|O 3),?_⟩;norm_cast;show va U ?_;show va U ⟨a,U,⟨_,p9.of ha⟩,P2 (K:=K) (a:=a) (xs:=us) (λi σ H2=>∃v3 v4 v5,σ=[sr kp,sr a,some rv,some v3,v4,v5]/\h9 H H2/\j5 R W (clr R.F (ks.take i) x) v3 H2) ⟨_,_,va U ⟨h9.refl _,hR⟩⟩ (λi σ H2 _ ⟨_,_,_,_,q,_⟩=>p9.of<|q _ _ ha) ?_ ?_⟩
 . rintro i y σ H2 hi ⟨v3,v4,v5,rfl,q,iW⟩;obtain⟨il,kq,qa,ov,ek,rfl,hq,ro⟩:=eK.at hi;have gE:kq.1 < W:=fB kq<|aL ek;have z0:=zc i Z;have ts:ks.take (i+1)=ks.take i++[kq]:=L4 ek;show⟨qa,va U ⟨o9.of<|q _ _ hq,U,za ⟨U,za ⟨U,U,?_⟩⟩⟩⟩;obtain⟨p,fR,u,rfl,hp,hu,iu⟩:=j5.at iW gE;show vb U U<|zf ⟨U,U,hp,hu,va U<|zd ⟨U,q _ _ hk,R.l_nought,va U ⟨za ⟨U,q _ _ hk⟩,λzv H3 s3 f3=>?_⟩⟩⟩;have q3:=q.trans s3;by_cases e:clr R.F (ks.take i) x kq.1=R.S.zero
   . show R.neD (R.same s3.t iu) f3 e (va U ?_)
     (try show Em ?_)
     show zd ⟨U,q3,?_⟩;rw[ts,CQ,ML e];exact j5.same s3.t iW
   . show R.neT (R.same s3.t iu) f3 e (va U ?_)
     (try show Om ?_)
     obtain⟨p',us2,u2,e',sM,hu2,iu2⟩:=j5.at (j5.same s3.t iW) gE;cases e';show vc U U U<|va U<|zd ⟨U,q3 _ _ hk,R.l_minus,vb U U<|zf ⟨U,U,sM,hu2,zd ⟨U,⟨za ⟨U,q3 _ _ hk⟩,iu2⟩,λmv H4 s4 f4=>?_⟩⟩⟩;have q4:=q3.trans s4;show va U ⟨R,zw _ _ _ W _ kq.2 r ⟨U,⟨za ⟨U,q4 _ _ hk⟩,f4,R.F.sz_neg _ _<|z0 kq.1 gE,j5.same q4.t ro,zr kq<|aL ek,hW,hS.le Z⟩,λtv H5 s5 r5=>?_⟩⟩;have q5:=q4.trans s5;show⟨R,zB _ _ _ W r (r+r) _ _ ⟨U,⟨za ⟨U,q5 _ _ hk⟩,j5.same (s3.trans<|s4.trans s5).t iW,r5,λj hj=>⟨z0 j hj,R.S.sz_mul _ _ _ _ (R.F.sz_neg _ _<|z0 kq.1 gE)<|zr kq (aL ek) j hj⟩,hW,hS.le Z⟩,λO H6 s6 r6=>?_⟩⟩;show zd ⟨U,q5.trans s6,?_⟩;rw[ts,CQ];exact r6
 . rintro σ H2 ⟨v3,v4,v5,rfl,q,r3⟩;have e1:=eK.1;show va U ?_;rw[e1,bo]at r3;exact k _ _ q r3
def VV{S:SR}{F:M0 S}{w:Nat}{ks:w1a S}{r:QQ S}(h:ks.length=w):X5 F w ks r=ks:=by unfold X5;rw[if_pos h]
def VU{S:SR}{F:M0 S}{w:Nat}{ks:w1a S}{r:QQ S}(h:CK (clr F ks r) w=none):X5 F w ks r=ks:=by
 unfold X5;split
 . rfl
 . rw[h]
def VT{S:SR}{F:M0 S}{w p:Nat}{ks:w1a S}{r:QQ S}(n:ks.length≠w)(h:CK (clr F ks r) w=some p):X5 F w ks r=ks++[(p,λj=>S.mul (F.inv<|clr F ks r p)<|clr F ks r j)]:=by unfold X5;rw[if_neg n,h]
def FJ.app{R:c9 Pr w K mg base}{W i:Nat}{ks:w1a R.S}{k:Nat × (QQ R.S)}{u:V}{H:Hp}(hi:i < ks.length)(h:FJ R W ks i u H):FJ R W (ks++[k]) i u H:=by obtain⟨k',q,rv,e,r⟩:=h;exact⟨k',q,rv,by rw[aY hi];exact e,r⟩
variable(w K mg base)in def Xo:Sp:=λvs H Q _=>∃(R:c9 Pr w K mg base),∃kv a rv,∃(W l r:Nat),∃ks x,vs=[kv,.ref a,rv,.int (l:Nat)]/\(N9 R.C R.fs H kv/\M7 R W ks a H/\Kp R.S l ks/\j5 R W x rv H/\l<=W/\W<=1000/\(ks.length≠l->Hs R.F W r ks x)/\N5 R.S (3 * r))/\
 ∀H',l6 a H H'->M7 R W (X5 R.F l ks x) a H'->Q (.bl<|decide<|(X5 R.F l ks x).length≠ks.length) H'
def Rt:w8 Pr w K mg base F6 43 t.keep t.a1h a0w (Xo w K mg base):=by
 show T.z0z.F.okA Lc λ_ _ _ _ H _ Q _ hr h=>?_;obtain⟨R,kv,a,rv,W,l,r,ks,x,rfl,⟨⟨kp,dx,rfl,hk⟩,hK,KP,hR,hl,hW,hz,hS⟩,k⟩:=h;have wz:=hK;obtain⟨us,ha,eK⟩:=hK;have e0:=eK.1;have kl:=KP.len;have sl:1000 < sizeLine:=by decide
 have kf:∀H',h9 H H'->X5 R.F l ks x=ks->Q (.bl false) H':=λH' s' e=>by
  have:=k H' (.of s') (by rw[e];exact wz.same s');rw[e,decide_eq_false<|λz=>z U]at this;exact this
 show⟨_,(c5 (D3 (o6 K8 (x9 B4 bR T.z_len PySem.boot_len<|B3<|O 1) (O 3)<|o7 _) (c6<|h7 Ae) x5)<|c5 (sT 4 Lc.nd<|D2 (Eb T) hr.m T.w0p<|S3 (O 0) (O 1)<|O 2)<|c5 (sT 5 Lc.nd<|D2 (Io T) hr.m T.x0p<|S3 (O 0) (O 4)<|O 3)<|c5 (D3 (o6 a0l (O 5) Ii<|o7 _) (c6<|h7 Ae) x5)<|c5 (F3<|W2 bq bF bH J3 (O 1)<|B3<|D0<|F1 (O 5)<|D2 (Fe T) hr.m T.u0k<|S3 (O 0) (V2 (O 0) R.cl R.t_inverse R.G_inverse hr.m R.b_inverse .nil C3<|B3<|D5 j7 (O 4)<|O 5)<|O 4)<|c6<|h7 Ae),?_⟩;norm_cast;show va U (za ⟨U,(show BA K (.ref a) H ks.length from .inl ⟨_,p9.of ha,e0.symm⟩),va U ⟨U,va U ?_⟩⟩);show Dx (λe=>?_) (λne=>?_)
 . exact kf _ (h9.refl _) (VV Z)
 have nl:ks.length≠l:=λe=>ne (by rw[e]);show vc U U U ⟨R,zw _ a rv W r ks x ⟨U,⟨za ⟨U,hk⟩,wz,λq hq=>az (KP.lt q hq) hl,hR,hW,hz nl,hS⟩,λR3 H1 s1 r1=>?_⟩⟩;show R7 4 R3 [sr kp,sr a,some rv,si l,none,none] H1 _;show vc U U U ⟨R,zt _ _ W l _ ⟨U,⟨za ⟨U,s1 _ _ hk⟩,r1,hl,hW⟩,λH2 s2=>?_⟩⟩;show R7 5 (YV<|CK (clr R.F ks x) l) [sr kp,sr a,some rv,si l,some R3,none] H2 _;have Ms:=s1.trans s2;cases e:CK (clr R.F ks x) l with
 | none=>
  show va U ⟨U,va U ?_⟩;show Om ?_;exact kf _ Ms (VU e)
 | some p=>
  obtain⟨pl,pn,_⟩:=Q2 e;show R7 5 (V.int (p:Nat)) [sr kp,sr a,some rv,si l,some R3,none] H2 _;have z0:=(hz nl).1 ks.length<|ae _;rw[bo]at z0;obtain⟨q,fR,u,rfl,hq,hu,iu⟩:=j5.at (j5.same s2.t r1) (show p < W by omega);show va U ⟨U,va U ?_⟩;show Em ?_;show va U ⟨.inl ⟨U,_,p9.of<|Ms _ _ ha⟩,vc U U U<|zd ⟨U,Ms _ _ hk,R.l_inverse,vb U U<|zf ⟨U,U,hq,hu,zd ⟨U,⟨za ⟨U,Ms _ _ hk⟩,iu,pn⟩,λiv H3 s3 f3=>?_⟩⟩⟩⟩;have Jc:=Ms.trans s3;show va U ⟨R,zw _ _ _ W _ _ r ⟨U,⟨za ⟨U,Jc _ _ hk⟩,f3,R.F.sz_inv _ _ pn<|z0 p Z,j5.same (s2.trans s3).t r1,z0,hW,hS.le Z⟩,λtv H4 s4 r4=>?_⟩⟩;have US:=Jc.trans s4;show⟨sL,λp5 n5=>?_⟩;have t5:=c7 (o:=.tup [V.int (p:Nat),tv]) n5;have k5:upd H4 p5 (.tup [V.int (p:Nat),tv]) p5=some (.tup [V.int (p:Nat),tv]):=b9;revert t5 k5;generalize upd H4 p5 (.tup [V.int (p:Nat),tv])=H5;intro t5 k5;have UR:=US.trans t5;have kR:=UR _ _ ha;show⟨a,us,V.ref p5,U,U,kR,Z,?_⟩;have st:=B6 (o:=.lst<|us++[V.ref p5]) kR;have ek:=VT (F:=R.F) nl e;have:=k (upd H5 a<|.lst<|us++[V.ref p5]) ((l6.of UR).trans l6.upd) (by
   rw[ek];show⟨_,b9,?_⟩;rw[aq];show j8.snoc (eK.mono λi w' hi q=>(FJ.app hi<|q.same UR.t).same st) ⟨(p,λj=>R.S.mul (R.F.inv<|clr R.F ks x p)<|clr R.F ks x j),p5,tv,?_,U,st _ _ k5,?_⟩
   . rw[aZ<|ae _,di];rfl
   . exact j5.same st<|j5.same t5.t r4)
  rw[ek,aq,decide_eq_true<|show ks.length+[_].length≠ks.length by show ks.length+1≠_;omega]at this;exact this
def DF(R:c9 Pr w K mg base)(W n:Nat)(rs:F0 R.S)(v:V)(H:Hp):Prop:=∃a us,v=.ref a/\H a=some (.lst us)/\j8 (λi u H=>j5 R W (rs i) u H) us n H
theorem DF.same{R:c9 Pr w K mg base}{W n:Nat}{rs:F0 R.S}{v:V}{H H':Hp}(s:h9 H H')(h:DF R W n rs v H):DF R W n rs v H':=by obtain⟨a,us,rfl,ha,e⟩:=h;exact⟨a,us,U,s _ _ ha,e.mono λ_ _ _ q=>j5.same s.t q⟩
def Cp{α:Type}(rs:Nat->α)(n:Nat):List α:=(List.range n).map rs
def UU{α:Type}(rs:Nat->α)(n:Nat):Cp rs (n+1)=Cp rs n++[rs n]:=by unfold Cp;rw[List.range_succ,bb];rfl
def Hw{α:Type}{rs:Nat->α}{n:Nat}{r:α}(h:r∈Cp rs n):∃i,i < n/\r=rs i:=by obtain⟨i,hi,rfl⟩:=aw.mp h;exact⟨i,aW.mp hi,U⟩
def ZT{α:Type}{rs:Nat->α}{n i:Nat}(h:i < n):rs i∈Cp rs n:=aw.mpr ⟨i,aW.mpr h,U⟩
def XF{α:Type}{rs:Nat->α}{n:Nat}:(Cp rs n).length=n:=by unfold Cp;rw[ag,cJ]
variable(w K mg base)in def KM:Sp:=λvs H Q _=>∃(R:c9 Pr w K mg base),∃kv rv,∃(W l r n:Nat),∃rs,vs=[kv,rv,.int (l:Nat)]/\(N9 R.C R.fs H kv/\DF R W n rs rv H/\l<=W/\W<=1000/\(∀i,i < n->(kpL R.F l<|Cp rs i).length≠l->Hs R.F W r (kpL R.F l<|Cp rs i) (rs i))/\N5 R.S (3 * r))/\
 ∀a H',H a=none->h9 H H'->M7 R W (kpL R.F l<|Cp rs n) a H'->Q (.ref a) H'
def Fh:w8 Pr w K mg base F6 44 t.x0t t.t0o [x6,O8,FM] (KM w K mg base):=by
 show T.t0t.F.okA Bj λ_ _ _ _ H _ _ _ hr h=>?_;obtain⟨R,kv,rv,W,l,r,n,rs,rfl,⟨hk,⟨b,us,rfl,hb,eR⟩,hl,hW,hz,hS⟩,k⟩:=h;show⟨_,(c5 (sT 3 Bj.nd<|D1 K6)<|c5 (E9 aB U (C5<|O 1) (gN 4 Bj.nd)<|c6<|F3<|D2 (Rt T) hr.m T.z0z<|Ik (O 0) (O 3) (O 4)<|O 2)<|c6<|h7<|O 3),?_⟩;norm_cast;show⟨sL,λa na=>?_⟩;have s1:=c7 (o:=.lst []) na;have k1:upd H a (.lst []) a=some (.lst []):=b9;show va U ⟨b,U,⟨_,p9.of<|s1 _ _ hb⟩,P2 (K:=K) (a:=b) (xs:=us) (λi σ H2=>∃v4,σ=[some kv,sr b,si l,sr a,v4]/\h9 H H2/\M7 R W (kpL R.F l<|Cp rs i) a H2) (va U ⟨s1,⟨_,k1,j8.nil⟩⟩) (λi σ H2 _ ⟨_,_,q,_⟩=>p9.of<|q _ _ hb) ?_ ?_⟩
 . rintro i y σ H2 hi ⟨v4,rfl,q,hK⟩;obtain⟨iZ,ry⟩:=eR.at hi;show vc U U U<|va U ⟨R,zB kv a y W l r _ _ ⟨U,⟨hk.same q,hK,U8 _,j5.same q.t ry,hl,hW,hz i iZ,hS⟩,λH3 s3 K3=>?_⟩⟩;show va U ⟨λc o hc=>?_,?_⟩
   . exact s3 c o (l8 hc na) (q _ _ hc)
   . rw[UU,Fw];exact K3
 . rintro σ H2 ⟨v4,rfl,q,hK⟩;rw[eR.1]at hK;exact va U (k _ _ na q hK)
def GW(R:c9 Pr w K mg base)(W n:Nat)(rs:F0 R.S)(v:V)(H:Hp):Prop:=DF R W n rs v H\/N8 (λi u H=>j5 R W (rs i) u H) n v H
theorem GW.same{R:c9 Pr w K mg base}{W n:Nat}{rs:F0 R.S}{v:V}{H H':Hp}(s:h9 H H')(h:GW R W n rs v H):GW R W n rs v H':=h.imp (DF.same s) λe=>e.mono s.t λ_ _ _ q=>j5.same s.t q
variable(w K mg base)in def MM:Sp:=λvs H Q _=>∃(R:c9 Pr w K mg base),∃rv,∃(W n:Nat),∃rs,vs=[rv]/\GW R W n rs rv H/\Q (.int ((if n=0 then 0 else W):Nat)) H
def GK:w8 Pr w K mg base F6 1 t.y0t t.v0v [O8] (MM w K mg base):=by
 show T.u0v.F.okA MW λ_ _ _ _ H _ _ _ hr h=>?_;obtain⟨R,rv,W,n,rs,rfl,hR,k⟩:=h;show⟨_,(c6<|h7<|Nq (o6 AZ (x9 B4 bR T.z_len PySem.boot_len<|B3<|O 0) c4<|o7 _) (x9 B4 bR T.z_len PySem.boot_len<|B3<|D5 c0d (O 0) c4) c4),?_⟩;norm_cast;have ed:BA K rv H n:=by
  rcases hR with ⟨b,us,rfl,hb,eR⟩ | hR
  . exact .inl ⟨_,p9.of hb,eR.1.symm⟩
  . exact hR.len
 show va U<|za ⟨U,ed,za ⟨U,U,va U ?_⟩⟩;show Dw (λh0=>?_) (λh0=>?_)
 . rw[if_neg Z]at k;rcases hR with ⟨b,us,rfl,hb,eR⟩ | ⟨b,us,rfl,hb,eR⟩
   . obtain⟨u,eu,ru⟩:=eR.2 0 Z;exact va U (.inl<|zf ⟨U,U,p9.of hb,E7 (j:=0) eu,za ⟨U,ru.len,k⟩⟩)
   . obtain⟨u,eu,ru⟩:=eR.2 0 Z;exact va U (.inr<|.inl<|zf ⟨U,U,o9.of hb,E7 (j:=0) eu,za ⟨U,ru.len,k⟩⟩)
 . rw[if_pos Z]at k;exact k
def Q5.same{H H':Hp}{P:Addr}{q:Str}(s:h9 H H')(h:Q5 H P q):Q5 H' P q:=by obtain⟨ps,h1,h2,h3⟩:=h;show⟨ps,s _ _ h1,h2,λlp v e=>?_⟩;obtain⟨c,e1,oc,vs,t,y1,y2⟩:=h3 lp v e;exact⟨c,e1,oc,vs,t,s _ _ y1,y2⟩
def Np{α β:Type}{f:α->β}{zs ys:List β}(h:zs.Perm ys):∀L0:List α,ys=L0.map f->∃L:List α,L.Perm L0/\zs=L.map f:=by
 induction h with
 | nil=>intro L0 e;exact⟨L0,.refl _,e⟩
 | cons x _ ih=>
  intro L0 e
  match L0,e with
  | y::L1,e=>
   rw[aX]at e;injection e with e1 e2;obtain⟨L,h1,h2⟩:=ih L1 e2;exact⟨y::L,h1.cons y,by rw[aX,e1,h2]⟩
 | swap x y l=>
  intro L0 e
  match L0,e with
  | a::b::L1,e=>
   rw[aX,aX]at e;injection e with e1 e;injection e with e2 e3;exact⟨b::a::L1,.swap _ _ _,by rw[aX,aX,e1,e2,e3]⟩
 | trans _ _ i1 i2=>
  intro L0 e;obtain⟨L,h1,h2⟩:=i2 L0 e;obtain⟨L',h3,h4⟩:=i1 L h2;exact⟨L',h3.trans h1,h4⟩
def adV:V->Addr
 | .ref a=>a
 | _=>0
def M7.refs{R:c9 Pr w K mg base}{W:Nat}{es:w1a R.S}{a:Addr}{H:Hp}(h:M7 R W es a H):∃ps:List Addr,H a=some (.lst<|ps.map V.ref)/\ps.length=es.length/\
    ∀(i:Nat) p e,ps[i]? = some p->es[i]? = some e->∃rv,H p=some (.tup [.int (e.1:Nat),rv])/\j5 R W e.2 rv H:=by
 obtain⟨us,ha,en⟩:=h;have el:=en.1;have hu:us=(us.map adV).map V.ref:=by
  apply List.ext_getElem?;intro i;rw[aE,aE];cases hi:us[i]? with
  | none=>rfl
  | some u=>
   obtain⟨_,k,q,rv,_,rfl,_⟩:=en.at hi;rfl
 show⟨us.map adV,by rw[<- hu];exact ha,by rw[ag,el],λi p e h1 h2=>?_⟩;rw[aE]at h1;obtain⟨u,hu',rfl⟩:=cP.mp h1;obtain⟨_,k,q,rv,e1,rfl,hq,ro⟩:=en.at hu';rw[h2]at e1;cases e1;exact⟨rv,hq,ro⟩
def qE:Str:=(("echelon":Str)++".<locals>.")++"<lambda>"
variable(w K mg base)in def Pj(t:ON):Sp:=λvs H Q _=>∃(R:c9 Pr w K mg base),∃kv rv,∃(W r n:Nat),∃rs,vs=[kv,rv]/\(N9 R.C R.fs H kv/\DF R W n rs rv H/\W < 64/\
 (∀i,i < n->(kpL R.F (if n=0 then 0 else W)<|Cp rs i).length≠(if n=0 then 0 else W)->Hs R.F W r (kpL R.F (if n=0 then 0 else W)<|Cp rs i) (rs i))/\
 (∀i k,i < (kpL R.F (if n=0 then 0 else W)<|Cp rs n).length->(kpL R.F (if n=0 then 0 else W)<|Cp rs n)[(kpL R.F (if n=0 then 0 else W)<|Cp rs n).length - 1 - i]? = some k->Hs R.F W r (echI R.F (kpL R.F (if n=0 then 0 else W)<|Cp rs n) i) k.2)/\
 N5 R.S (3 * r)/\Q5 H t.P_echelon qE)/\
 ∀es a H',OH t.P_echelon H H'->Q5 H' t.P_echelon qE->M7 R W es a H'->es.Perm (JS R.F<|kpL R.F (if n=0 then 0 else W)<|Cp rs n)->es.Pairwise (λp q=>p.1<=q.1)->Q (.ref a) H'
def Iz(fz:WI mg base t):w8 Pr w K mg base F6 46 t.echelon t.x0u He (Pj w K mg base t):=by
 show T.w0o.F.okC Bk T.tb_echelon T.v0h (by rintro _ _ _ _ ⟨_,_,_,_,_,_,_,rfl,_⟩;rfl) λA outer s H vs Q E hr h=>?_;obtain⟨R,kv,rv,W,r,n,rs,rfl,⟨hk,hR,hW,hz,he,hS,hT⟩,k⟩:=h;have zl:=sZ;have lP:Kp R.S (if n=0 then 0 else W) (kpL R.F (if n=0 then 0 else W)<|Cp rs n):=U8 _;have lW:(if n=0 then 0 else W)<=W:=by split <;>omega
 show⟨_,(c5 (sT 2 Bk.nd<|D1 K6)<|c5 (E9 aB U (XM U T.z_reversed<|B3<|D2 (Fh T) hr.m T.t0t<|S3 (O 0) (O 1)<|D2 (GK T) hr.m T.u0v<|B3<|O 1) (I9 U<|l5 (gN 3 Bk.nd)<|l5 (gN 4 Bk.nd) D7)<|c6<|F3<|W2 bq bF bH J3 (O 2)<|B3<|D0<|F1 (O 3)<|D2 (Eb T) hr.m T.w0p<|S3 (O 0) (O 2)<|O 4)<|c6<|h7<|Vi (k:=0) (pn:="pair") hr.m fz.echelon U bR T.z_sorted (B3<|O 2) U U (by exact⟨U,U,U,dK,U,dK,dK,dK⟩)<|λ_ _ _ _ _=>rfl),?_⟩;norm_cast;show⟨(by show 0<=sizeLine;omega),λa na=>?_⟩;show E4 (o:=.lst []) na λH1 s1 k1=>?_;have lO:=hR.same s1;show vc U U U ⟨R,zm rv W n rs ⟨U,.inl lO,?_⟩⟩;revert hz he lP k lW;generalize (if n=0 then 0 else W)=l;intro k hz he lP lW;show⟨R,zw kv rv W l r n rs ⟨U,⟨hk.same s1,lO,lW,Z,hz,hS⟩,λb H2 nb s2 hK=>?_⟩⟩;revert he lP k hK;generalize kpL R.F l (Cp rs n)=ks;intro k he lP hK;have ksl:=lP.len;obtain⟨us,hb,eK⟩:=hK;have ul:=eK.1;have ab:b≠a:=λz=>by rw[z,k1]at nb;cases nb
 have up:∀{G},l6 a H2 G->h9 H G:=λsG c o hc=>sG c o (l8 hc na)<|s2 _ _<|s1 _ _ hc;have uV:∀{G},l6 a H2 G->y9 H2 G:=λsG p vs hp=>sG p _ (λz=>by
  have z2:=s2 _ _ k1;rw[<- z,hp]at z2;cases z2) hp
 show⟨b,us,U,p9.of hb,Wo (a:=b) (xs:=us) (λi σ G=>∃v3 v4:Option V,σ=[some kv,some rv,sr a,v3,v4]/\l6 a H2 G/\M7 R W (echI R.F ks i) a G) ⟨none,none,U,l6.refl _ _,⟨[],s2 _ _ k1,j8.nil⟩⟩ (λi σ G _ ⟨_,_,_,sG,_⟩=>p9.of<|sG _ _ ab hb) ?_ ?_⟩
 . rintro i x σ G hi hx ⟨v3,v4,rfl,sG,kT⟩;obtain⟨_,kq,qa,ov,ek,rfl,hq,ro⟩:=eK.at hx;rw[ul]at ek;have hqG:=uV sG _ _ hq;show⟨qa,va U ⟨o9.of hqG,U,za ⟨U,za ⟨U,U,?_⟩⟩⟩⟩;have tY:=kT;obtain⟨ts,vM,fY⟩:=kT;have tl:=fY.1;rw[Ah Z]at tl;show va U ⟨.inl ⟨U,_,p9.of vM⟩,vc U U U<|va U ⟨R,zw kv a ov W r (echI R.F ks i) kq.2 ⟨U,⟨hk.same<|up sG,tY,λe he'=>?_,j5.same (uV sG) ro,Z,he i kq Z ek,hS⟩,λR3 G1 t1 r1=>?_⟩⟩⟩
   . obtain⟨k',iM,e1⟩:=Ox Z e he';rw[e1];exact az (lP.lt k' iM) lW
   show⟨(by show 2<=sizeLine;omega),λp5 n5=>?_⟩;show E4 (o:=.tup [V.int (kq.1:Nat),R3]) n5 λG5 t5 k5=>?_;have qM:=t1.trans t5;have kR:=qM _ _ vM;show⟨a,ts,V.ref p5,U,U,kR,Z,?_⟩;have st:=B6 (o:=.lst<|ts++[V.ref p5]) kR;show za ⟨U,sG.trans<|(l6.of qM).trans l6.upd,?_⟩;rw[Q4 Z ek];show⟨_,b9,?_⟩;rw[aq];show j8.snoc (fY.mono λj w' hj q=>(FJ.app hj<|q.same qM.t).same st) ⟨(kq.1,clr R.F (echI R.F ks i) kq.2),p5,R3,?_,U,st _ _ k5,?_⟩
   . rw[aZ<|ae _,di];rfl
   . exact j5.same st (j5.same t5.t r1)
 . rintro σ G ⟨v3,v4,rfl,sG,kT⟩;rw[ul,W5]at kT;have vY:(JS R.F ks).length=ks.length:=by rw[<- W5,Ah<|ae _]
   revert kT vY k;generalize JS R.F ks=kX;intro k kT vY;obtain⟨ps,hpa,pl,mX⟩:=kT.refs;have wg:=Q5.same (up sG) hT;show va U ⟨a,ps,kX.map λe=>((e.1:Nat):Int),U,p9.of hpa,by rw[ag,pl],Z,wg,λi p m h1 h2=>?_,λH5 d zs sp lN hd pm pw=>?_⟩
   . rw[aE]at h2;obtain⟨e,e1,rfl⟩:=cP.mp h2;obtain⟨oR,z,_⟩:=mX i p e h1 e1;exact⟨_,z⟩
   . obtain⟨iT,hP,_⟩:=id wg;have sT:y9 G H5:=λp vs hp=>sp p _ (Av hp hP<|by simp) hp;have ez:(kX.map λe=>((e.1:Nat):Int)).zip ps=(kX.zip ps).map λx=>(((x.1.1:Nat):Int),x.2):=by rw[List.zip_map_left];rfl
     rw[ez]at pm;obtain⟨L,l1,rfl⟩:=Np pm _ rfl;have pe:(L.map Prod.fst).Perm kX:=by have:=l1.map Prod.fst;rwa [List.map_fst_zip Z]at this
     show k (L.map Prod.fst) d H5 (λc o hc e=>sp c o hc<|up sG c o e) lN ⟨_,hd,?_⟩ pe ?_
     . show⟨by simp,λj hj=>?_⟩;rw[ag]at hj;have hm:L[j]∈kX.zip ps:=l1.mem_iff.mp<|aG hj;obtain⟨i,hi,ei⟩:=cM.mp hm;have iZ:i < kX.length/\i < ps.length:=by rw[List.length_zip]at hi;omega
       rw[List.getElem_zip]at ei;obtain⟨oR,z1,z2⟩:=mX i ps[i] kX[i] (ah iZ.2)<|ah iZ.1;show⟨V.ref L[j].2,by rw[cI,aE,ah hj];rfl,L[j].1,L[j].2,oR,by rw[aE,ah hj];rfl,U,?_,?_⟩
       . rw[<- ei];exact sT _ _ z1
       . rw[<- ei];exact j5.same sT z2
     . have:=cH.mp pw;exact cH.mpr (this.imp λh=>by
        have h:((_:Nat):Int)<=((_:Nat):Int):=h;exact Int.ofNat_le.mp h)
variable(w K mg base)in def ZE:Sp:=λvs H Q _=>∃(R:c9 Pr w K mg base),∃kv row col n x y r,vs=[kv,row,col]/\(N9 R.C R.fs H kv/\j5 R n x row H/\j5 R n y col H/\Mr R.S r n x y/\N5 R.S (3 * r))/\
 ∀v H',h9 H H'->R.is H' v (B7 R.S x y n)->Q v H'
def PM:w8 Pr w K mg base F6 41 t.dot t.a1k [x6,C8,My] (ZE w K mg base):=by
 show T.a1l.F.okA HY λ_ _ _ _ H _ _ _ hr h=>?_;obtain⟨R,kv,row,col,n,x,y,r,rfl,⟨⟨kp,dx,rfl,hk⟩,⟨fp,xs,rfl,hf,e1⟩,⟨gp,ys,rfl,hg,e2⟩,⟨z1,z2⟩,hz⟩,k⟩:=h;show⟨_,(c5 (sT 3 HY.nd<|W0 (O 0) R.cl R.t_nought R.G_nought hr.m R.b_nought .nil C3)<|c5 (E9 aB U (DY U T.z_zip<|F1 (O 1)<|O 2) (I9 U<|l5 (gN 4 HY.nd)<|l5 (gN 5 HY.nd) D7)<|c6<|sT 3 HY.nd<|V2 (O 0) R.cl R.t_plus R.G_plus hr.m R.b_plus .nil C3<|F1 (O 3)<|V2 (O 0) R.cl R.t_times R.G_times hr.m R.b_times .nil C3<|F1 (O 4)<|O 5)<|c6<|h7<|O 3),?_⟩;norm_cast;show va U<|zd ⟨U,hk,R.l_nought,va U ⟨za ⟨U,hk⟩,λz H1 s1 f1=>?_⟩⟩;show vb U U ⟨.tup fp,.tup gp,za ⟨xs,ys,U,U,U,o9.of<|s1 _ _ hf,o9.of<|s1 _ _ hg,RM (K:=K) (xs:=xs) (ys:=ys) (λi σ H2=>∃jh v4 v5,σ=[sr kp,sr fp,sr gp,some jh,v4,v5]/\h9 H H2/\R.is H2 jh (B7 R.S x y i)) (by rw[e1.1,e2.1]) ⟨_,_,va U ⟨s1,f1⟩⟩ (λi σ H2 _ ⟨_,_,_,_,q,_⟩=>⟨o9.of<|q _ _ hf,o9.of<|q _ _ hg⟩) ?_ ?_⟩⟩
 . rintro i u v p σ H2 hu hv np ⟨jh,v4,v5,rfl,q,f⟩;obtain⟨hi,pu⟩:=e1.at hu;obtain⟨_,O⟩:=e2.at hv;have sp:=c7 (o:=.tup [u,v]) np;have q2:=q.trans sp;show⟨p,va U ⟨o9.of b9,U,za ⟨U,za ⟨U,U,?_⟩⟩⟩⟩;show va U<|zd ⟨U,q2 _ _ hk,R.l_plus,vb U U<|zd ⟨U,q2 _ _ hk,R.l_times,vb U U<|zg ⟨r,r,U,⟨za ⟨U,q2 _ _ hk⟩,R.same q2.t pu,R.same q2.t O,(z1 i hi).1,(z1 i hi).2,hz.le Z⟩,λpr H3 s3 f3=>?_⟩⟩⟩;have q3:=q2.trans s3;show zg ⟨r,r+r,U,⟨za ⟨U,q3 _ _ hk⟩,R.same (sp.trans s3).t f,f3,z2 i Z,R.S.sz_mul _ _ _ _ (z1 i hi).1 (z1 i hi).2,hz.le Z⟩,λtt H4 s4 f4=>?_⟩;exact zd ⟨U,q3.trans s4,f4⟩
 . rintro σ H2 ⟨jh,v4,v5,rfl,q,f⟩;rw[e1.1]at f;exact va U (k _ _ q f)
abbrev B5(R:c9 Pr w K mg base)(h n:Nat)(x:F0 R.S):V->Hp->Prop:=N8 (λi u H=>j5 R n (x i) u H) h
theorem B5.same{R:c9 Pr w K mg base}{h n:Nat}{x:F0 R.S}{v:V}{H H':Hp}(s:y9 H H')(e:B5 R h n x v H):B5 R h n x v H':=e.mono s λ_ _ _ q=>j5.same s q
variable(w K mg base)in def KN:Sp:=λvs H Q _=>∃(R:c9 Pr w K mg base),∃tb,∃(z:Int),∃(i:Nat),∃h n x,vs=[tb,.int z]/\(B5 R h n x tb H/\i < n/\h<=1000/\z=i)/\
 ∀v H',h9 H H'->j5 R h (λj=>x j i) v H'->Q v H'
def Lr:w8 Pr w K mg base F6 1 t.x0l t.u0t Te (KN w K mg base):=by
 show T.t0q.F.okA Ld λ_ _ _ _ H _ _ _ hr h=>?_;obtain⟨R,tb,z,i,h,n,x,rfl,⟨⟨p,rows,rfl,hp,fY⟩,hi,hh,rfl⟩,k⟩:=h;show⟨_,(c6<|h7<|i3 c8 bR T.z_tuple boot_tuple<|B3<|x8 (xs:=[C8]) U (oC Te<|a8 Ao) (J2<|O 0) (r9 (i:=2) (by show List.Nodup ([Y9,AN,C8]:w1f);decide +kernel) U<|Or.inl U)<|D5 (show Kx _ (Jy K)from j7) (O 2)<|O 1),?_⟩;norm_cast;show va U ⟨p,U,⟨_,o9.of hp⟩,o4 (n:=h) (λj ys H2=>j8 (λj u H=>R.is H u<|x j i) ys j H/\H2=H) hh ⟨j8.nil,U⟩ (λj ys H2 q=>q.1.1) ?_ ?_ ?_⟩
 . rintro j ys H2 hj ⟨e,rfl⟩;obtain⟨u,eu,pu⟩:=fY.2 j hj;show Dy (o9.of hp) eu ?_;obtain⟨q,cs,rfl,hq,ec⟩:=pu;obtain⟨z,ez,pz⟩:=ec.2 i hi;show⟨⟨[sr q],U,U⟩,vb U U<|zf ⟨U,U,o9.of hq,E7 ez,?_⟩⟩;exact⟨e.snoc pz,U⟩
 . rintro ys H2 ⟨e,rfl⟩;exact⟨_,o9.of hp,by rw[fY.1];exact ae _⟩
 . rintro ys H2 l ⟨e,rfl⟩ nl;have s1:=c7 (o:=.lst ys) nl;show⟨l,ys,U,.inl ⟨p9.of b9,λl2 n2=>?_⟩⟩;have s2:=c7 (o:=.tup ys) n2;exact k _ _ (s1.trans s2) ⟨l2,ys,U,b9,e.mono λ_ _ _ q=>R.same (s1.trans s2).t q⟩
variable(w K mg base)in def Jn:Sp:=λvs H Q _=>∃(R:c9 Pr w K mg base),∃tb h n x,vs=[tb]/\(B5 R h n x tb H/\h<=1000/\n<=1000)/\
 ∀v H',h9 H H'->B5 R (if h=0 then 0 else n) h (λj i=>x i j) v H'->Q v H'
def DE:w8 Pr w K mg base F6 2 t.w0a t.t0c [Y9] (Jn w K mg base):=by
 show T.s0z.F.okA Jt λ_ _ _ _ H _ _ _ hr h=>?_;obtain⟨R,tb,h,n,x,rfl,⟨ht,hh,hn⟩,k⟩:=h;show⟨_,(c5 (D3 (o6 K8 (x9 B4 bR T.z_len PySem.boot_len<|B3<|O 0) c4<|o7 _) (c6<|h7<|D0 K6) x5)<|c6<|h7<|i3 c8 bR T.z_tuple boot_tuple<|B3<|x8 (xs:=[AN]) U (oC [Y9]<|a8 Y0) (C6 U T.z_range<|B3<|x9 B4 bR T.z_len PySem.boot_len<|B3<|D5 j7 (O 0) c4) (gL 1 Te)<|C1 (Lr (w:=w) (base:=base) T) hr.m U T.t0q.m T.t0q.F.kp T.t0q.b .nil C3<|F1 (O 0)<|O 1),?_⟩;norm_cast;show va U<|za ⟨U,ht.len,U,va U ?_⟩;show Dx (λe0=>?_) (λe0=>?_)
 . have e:h=0:=by omega
   subst e;show⟨sL,λp np=>k _ _ (c7 np) ⟨p,[],U,b9,j8.nil⟩⟩
 . obtain⟨p,rows,rfl,hp,fY⟩:=ht;obtain⟨u,eu,pu⟩:=fY.2 0 Z;have e0:h≠0:=by omega
   rw[if_neg e0]at k;show va U (zf ⟨U,U,o9.of hp,E7 (j:=0) eu,za ⟨U,pu.len,va U ⟨Z,Z,o4 (n:=n) (λj ys H2=>h9 H H2/\j8 (λj u H=>j5 R h (λi=>x i j) u H) ys j H2) hn ⟨h9.refl _,j8.nil⟩ (λj ys H2 q=>q.2.1) ?_ ?_ ?_⟩⟩⟩)
   . rintro j ys H2 hj ⟨q,e⟩;show IG (by omega) ?_;show⟨⟨[some<|.int<|0+(j:Int)],U,U⟩,vb U U ⟨R,zu _ _ j h n x ⟨U,⟨B5.same q.t ⟨p,rows,U,hp,fY⟩,hj,hh,Z⟩,λv H3 s3 r3=>?_⟩⟩⟩;exact⟨q.trans s3,(e.mono λ_ _ _ z=>j5.same s3.t z).snoc r3⟩
   . rintro ys H2 ⟨q,e⟩;show(n:Int).toNat<=n;omega
   . rintro ys H2 l ⟨q,e⟩ nl;have s1:=c7 (o:=.lst ys) nl;show⟨l,ys,U,.inl ⟨p9.of b9,λl2 n2=>?_⟩⟩;have s2:=c7 (o:=.tup ys) n2;exact k _ _ (q.trans<|s1.trans s2) ⟨l2,ys,U,b9,e.mono λ_ _ _ z=>j5.same (s1.trans s2).t z⟩
variable(w K mg base)in def Sx:Sp:=λvs H Q _=>∃(R:c9 Pr w K mg base),∃kv row tb h n x A r,vs=[kv,row,tb]/\(N9 R.C R.fs H kv/\j5 R h x row H/\B5 R h n A tb H/\h<=1000/\n<=1000/\(∀j,j < n->Mr R.S r h x (λi=>A i j))/\N5 R.S (3 * r))/\
 ∀v H',h9 H H'->j5 R (if h=0 then 0 else n) (λj=>B7 R.S x (λi=>A i j) h) v H'->Q v H'
def Ki:w8 Pr w K mg base F6 42 t.a1b t.y0l VB (Sx w K mg base):=by
 show T.y0n.F.okA SJ λ_ _ _ _ H _ _ _ hr h=>?_;obtain⟨R,kv,row,tb,h,n,x,B,r,rfl,⟨hk,hx,ht,hh,hn,hz,hS⟩,k⟩:=h;show⟨_,(c6<|h7<|i3 c8 bR T.z_tuple boot_tuple<|B3<|x8 (xs:=[My]) U (oC VB<|a8 ET) (J2<|D2 (DE T) hr.m T.s0z<|B3<|O 2) (r9 (i:=3) (by show List.Nodup ([x6,C8,Y9,My]:w1f);decide +kernel) U<|Or.inl U)<|C1 (PM (w:=w) (base:=base) T) hr.m U T.a1l.m T.a1l.F.kp T.a1l.b .nil C3<|S3 (O 0) (O 1)<|O 3),?_⟩;norm_cast;show va U ⟨R,zm _ h n B ⟨U,⟨ht,hh,hn⟩,?_⟩⟩;rintro cv H1 s1 ⟨p,cols,rfl,hp,fY⟩;show⟨p,U,⟨_,o9.of hp⟩,o4 (n:=if h=0 then 0 else n) (λj ys H2=>h9 H1 H2/\j8 (λj u H=>R.is H u<|B7 R.S x (λi=>B i j) h) ys j H2) (by split <;>omega) ⟨h9.refl _,j8.nil⟩ (λj ys H2 q=>q.2.1) ?_ ?_ ?_⟩
 . rintro j ys H2 hj ⟨q,e⟩;obtain⟨u,eu,pu⟩:=fY.2 j hj;show Dy (o9.of<|q _ _ hp) eu ?_;show⟨⟨[some _],U,U⟩,vc U U U ⟨R,zw _ _ _ h x (λi=>B i j) r ⟨U,⟨hk.same<|s1.trans q,j5.same (s1.trans q).t hx,j5.same q.t pu,hz j (by split at hj <;>omega),hS⟩,λv H3 s3 f3=>?_⟩⟩⟩;exact⟨q.trans s3,(e.mono λ_ _ _ z=>R.same s3.t z).snoc f3⟩
 . rintro ys H2 ⟨q,e⟩;exact⟨_,o9.of<|q _ _ hp,by rw[fY.1];exact ae _⟩
 . rintro ys H2 l ⟨q,e⟩ nl;have fF:=c7 (o:=.lst ys) nl;show⟨l,ys,U,.inl ⟨p9.of b9,λl2 n2=>?_⟩⟩;have s2:=c7 (o:=.tup ys) n2;exact k _ _ ((s1.trans q).trans<|fF.trans s2) ⟨l2,ys,U,b9,e.mono λ_ _ _ z=>R.same (fF.trans s2).t z⟩
variable(w K mg base)in def KQ:Sp:=λvs H Q _=>∃(R:c9 Pr w K mg base),∃kv tb col h n A y r,vs=[kv,tb,col]/\(N9 R.C R.fs H kv/\B5 R h n A tb H/\j5 R n y col H/\h<=1000/\(∀i,i < h->Mr R.S r n (A i) y)/\N5 R.S (3 * r))/\
 ∀v H',h9 H H'->j5 R h (λi=>B7 R.S (A i) y n) v H'->Q v H'
def Fi:w8 Pr w K mg base F6 42 t.x0n t.t0p VD (KQ w K mg base):=by
 show T.t0z.F.okA Le λ_ _ _ _ H _ _ _ hr h=>?_;obtain⟨R,kv,tb,col,h,n,B,y,r,rfl,⟨hk,⟨p,rows,rfl,hp,fY⟩,hy,hh,hz,hS⟩,k⟩:=h;show⟨_,(c6<|h7<|i3 c8 bR T.z_tuple boot_tuple<|B3<|x8 (xs:=[C8]) U (oC VD<|a8 Ap) (J2<|O 1) (r9 (i:=3) (by show List.Nodup ([x6,Y9,My,C8]:w1f);decide +kernel) U<|Or.inl U)<|C1 (PM (w:=w) (base:=base) T) hr.m U T.a1l.m T.a1l.F.kp T.a1l.b .nil C3<|S3 (O 0) (O 3)<|O 2),?_⟩;norm_cast;show va U ⟨p,U,⟨_,o9.of hp⟩,o4 (n:=h) (λj ys H2=>h9 H H2/\j8 (λi u H=>R.is H u<|B7 R.S (B i) y n) ys j H2) hh ⟨h9.refl _,j8.nil⟩ (λj ys H2 q=>q.2.1) ?_ ?_ ?_⟩
 . rintro j ys H2 hj ⟨q,e⟩;obtain⟨u,eu,pu⟩:=fY.2 j hj;show Dy (o9.of<|q _ _ hp) eu ?_;show⟨⟨[some _],U,U⟩,vc U U U ⟨R,zw _ _ _ n (B j) y r ⟨U,⟨hk.same q,j5.same q.t pu,j5.same q.t hy,hz j hj,hS⟩,λv H3 s3 f3=>?_⟩⟩⟩;exact⟨q.trans s3,(e.mono λ_ _ _ z=>R.same s3.t z).snoc f3⟩
 . rintro ys H2 ⟨q,e⟩;exact⟨_,o9.of<|q _ _ hp,by rw[fY.1];exact ae _⟩
 . rintro ys H2 l ⟨q,e⟩ nl;have fF:=c7 (o:=.lst ys) nl;show⟨l,ys,U,.inl ⟨p9.of b9,λl2 n2=>?_⟩⟩;have s2:=c7 (o:=.tup ys) n2;exact k _ _ (q.trans<|fF.trans s2) ⟨l2,ys,U,b9,e.mono λ_ _ _ z=>R.same (fF.trans s2).t z⟩
variable(w K mg base)in def MV:Sp:=λvs H Q _=>∃(R:c9 Pr w K mg base),∃kv ov tb h n A B r,vs=[kv,ov,tb]/\(N9 R.C R.fs H kv/\B5 R h n A ov H/\B5 R n n B tb H/\h<=1000/\n<=1000/\(∀i,i < h->∀j,j < n->Mr R.S r n (A i) (λk=>B k j))/\N5 R.S (3 * r))/\
 ∀v H',h9 H H'->B5 R h n (λi j=>B7 R.S (A i) (λk=>B k j) n) v H'->Q v H'
def GN:w8 Pr w K mg base F6 43 t.y0z t.u0y Jd (MV w K mg base):=by
 show T.v0x.F.okA Nc λ_ _ _ _ H _ _ _ hr h=>?_;obtain⟨R,kv,ov,tb,h,n,A',B,r,rfl,⟨hk,⟨p,rows,rfl,hp,fY⟩,ht,hh,hn,hz,hS⟩,k⟩:=h;show⟨_,(c6<|h7<|i3 c8 bR T.z_tuple boot_tuple<|B3<|x8 (xs:=[C8]) U (oC Jd<|a8 Bt) (J2<|O 1) (r9 (i:=3) (by show List.Nodup ([x6,BH,AA,C8]:w1f);decide +kernel) U<|Or.inl U)<|C1 (Ki (w:=w) (base:=base) T) hr.m U T.y0n.m T.y0n.F.kp T.y0n.b .nil C3<|S3 (O 0) (O 3)<|O 2),?_⟩;norm_cast;show va U ⟨p,U,⟨_,o9.of hp⟩,o4 (n:=h) (λj ys H2=>h9 H H2/\j8 (λi u H=>j5 R n (λj=>B7 R.S (A' i) (λk=>B k j) n) u H) ys j H2) hh ⟨h9.refl _,j8.nil⟩ (λj ys H2 q=>q.2.1) ?_ ?_ ?_⟩
 . rintro j ys H2 hj ⟨q,e⟩;obtain⟨u,eu,pu⟩:=fY.2 j hj;show Dy (o9.of<|q _ _ hp) eu ?_;show⟨⟨[some _],U,U⟩,vc U U U ⟨R,zB _ _ _ n n (A' j) B r ⟨U,⟨hk.same q,j5.same q.t pu,B5.same q.t ht,hn,hn,hz j hj,hS⟩,λv H3 s3 f3=>?_⟩⟩⟩;rw[show(if n=0 then 0 else n)=n by split <;>omega]at f3;exact⟨q.trans s3,(e.mono λ_ _ _ z=>j5.same s3.t z).snoc f3⟩
 . rintro ys H2 ⟨q,e⟩;exact⟨_,o9.of<|q _ _ hp,by rw[fY.1];exact ae _⟩
 . rintro ys H2 l ⟨q,e⟩ nl;have fF:=c7 (o:=.lst ys) nl;show⟨l,ys,U,.inl ⟨p9.of b9,λl2 n2=>?_⟩⟩;have s2:=c7 (o:=.tup ys) n2;exact k _ _ (q.trans<|fF.trans s2) ⟨l2,ys,U,b9,e.mono λ_ _ _ z=>j5.same (fF.trans s2).t z⟩
abbrev IW(R:c9 Pr w K mg base)(m n:Nat)(tb:FF R.S):V->Hp->Prop:=N8 (λj u H=>B5 R n n (tb j) u H) m
theorem IW.same{R:c9 Pr w K mg base}{m n:Nat}{tb:FF R.S}{v:V}{H H':Hp}(s:y9 H H')(h:IW R m n tb v H):IW R m n tb v H':=h.mono s λ_ _ _ q=>B5.same s q
def j9(R:c9 Pr w K mg base)(l:w1e)(n:Nat)(st:QQ R.S)(tb:FF R.S)(en:QQ R.S)(v:V)(H:Hp):Prop:=
 ∃p sv tv ev,v=.ref p/\H p=some (.tup [vT l,sv,tv,ev])/\j5 R n st sv H/\IW R l.length n tb tv H/\j5 R n en ev H
theorem j9.same{R:c9 Pr w K mg base}{l:w1e}{n:Nat}{st:QQ R.S}{tb:FF R.S}{en:QQ R.S}{v:V}{H H':Hp}(s:y9 H H')(h:j9 R l n st tb en v H):j9 R l n st tb en v H':=by obtain⟨p,sv,tv,ev,rfl,hp,h1,h2,h3⟩:=h;exact⟨p,sv,tv,ev,U,s _ _ hp,j5.same s h1,IW.same s h2,j5.same s h3⟩
variable(w K mg base)in def MR:Sp:=λvs H Q _=>∃(R:c9 Pr w K mg base),∃mv l n st tb en,vs=[mv]/\(j9 R l n st tb en mv H/\l.length<=1000/\n<=1000)/\
 ∀v H',h9 H H'->j9 R l n en (λa i j=>tb a j i) st v H'->Q v H'
def GM:w8 Pr w K mg base F6 3 t.y0k t.v0p [O9] (MR w K mg base):=by
 show T.w0f.F.okA GG λ_ _ _ _ H _ _ _ hr h=>?_;obtain⟨R,mv,l,n,st,tb,en,rfl,⟨⟨mp,sv,tv,ev,rfl,hm,h1,⟨p,tabs,rfl,hp,fY⟩,h3⟩,hl,hn⟩,k⟩:=h;show⟨_,(c5 (P5 (i₀:=1) (xs:=[Y9]) GG.nd U (Or.inl U) U (oC [O9,HM]<|a8 Bp) (J2<|D5 j7 (O 0) c4) (r9 (i:=2) (by show List.Nodup ([O9,HM,Y9]:w1f);decide +kernel) U<|Or.inl U)<|C1 (DE (w:=w) (base:=base) T) hr.m U T.s0z.m T.s0z.F.kp T.s0z.b .nil C3<|B3<|O 2)<|c6<|h7<|D0<|Ik (D5 j7 (O 0) c4) (D5 j7 (O 0) c4) (i3 c8 bR T.z_tuple boot_tuple<|B3<|O 1)<|D5 j7 (O 0) c4),?_⟩;norm_cast;show va U (zf ⟨U,U,o9.of hm,U,p,U,⟨_,o9.of hp⟩,o4 (n:=l.length) (λj ys H2=>h9 H H2/\j8 (λa u H=>B5 R n n (λi j=>tb a j i) u H) ys j H2) hl ⟨h9.refl _,j8.nil⟩ (λj ys H2 q=>q.2.1) ?_ ?_ ?_⟩)
 . rintro j ys H2 hj ⟨q,e⟩;obtain⟨u,eu,pu⟩:=fY.2 j hj;show Dy (o9.of<|q _ _ hp) eu ?_;show⟨⟨[some _],U,U⟩,va U ⟨R,zm _ n n (tb j) ⟨U,⟨B5.same q.t pu,hn,hn⟩,λv H3 s3 f3=>?_⟩⟩⟩;rw[show(if n=0 then 0 else n)=n by split <;>omega]at f3;exact⟨q.trans s3,(e.mono λ_ _ _ z=>B5.same s3.t z).snoc f3⟩
 . rintro ys H2 ⟨q,e⟩;exact⟨_,o9.of<|q _ _ hp,by rw[fY.1];exact ae _⟩
 . rintro ys H2 z ⟨q,e⟩ nl;show E4 (o:=.lst ys) nl λH3 fF k1=>?_;have q3:=q.trans fF;show va U<|zf ⟨U,U,o9.of<|q3 _ _ hm,U,va U<|zf ⟨U,U,o9.of<|q3 _ _ hm,U,va U ⟨z,ys,U,.inl ⟨p9.of k1,λl2 n2=>?_⟩⟩⟩⟩;show E4 (o:=.tup ys) n2 λH4 s2 k2=>?_;have q4:=q3.trans s2;show va U<|zf ⟨U,U,o9.of<|q4 _ _ hm,U,sL,λl3 n3=>?_⟩;have s3:=c7 (o:=.tup [vT l,ev,V.ref l2,sv]) n3;show k _ _ (q4.trans s3) ⟨l3,ev,.ref l2,sv,U,b9,j5.same (q4.trans s3).t h3,⟨l2,ys,U,s3 _ _ k2,e.mono λ_ _ _ x=>B5.same (fF.trans<|s2.trans s3).t x⟩,j5.same (q4.trans s3).t h1⟩
def DA(R:c9 Pr w K mg base)(W:Nat)(ρ:w1e->Nat->R.S.W)(ws:List w1e):Nat->V->Hp->Prop:=λi u H=>∃wd q rv,ws[i]? = some wd/\u=.ref q/\H q=some (.tup [vT wd,rv])/\j5 R W (ρ wd) rv H
theorem DA.same{R:c9 Pr w K mg base}{W i:Nat}{ρ:w1e->Nat->R.S.W}{ws:List w1e}{u:V}{H H':Hp}(s:y9 H H')(h:DA R W ρ ws i u H):DA R W ρ ws i u H':=by obtain⟨wd,q,rv,e,rfl,hq,r⟩:=h;exact⟨wd,q,rv,e,U,s _ _ hq,j5.same s r⟩
def L6(R:c9 Pr w K mg base)(W:Nat)(ρ:w1e->Nat->R.S.W)(ws:List w1e)(a:Addr)(H:Hp):Prop:=∃us,H a=some (.lst us)/\j8 (DA R W ρ ws) us ws.length H
theorem L6.same{R:c9 Pr w K mg base}{W:Nat}{ρ:w1e->Nat->R.S.W}{ws:List w1e}{a:Addr}{H H':Hp}(s:h9 H H')(h:L6 R W ρ ws a H):L6 R W ρ ws a H':=by obtain⟨us,ha,e⟩:=h;exact⟨us,s _ _ ha,e.mono λ_ _ _ q=>q.same s.t⟩
def DA.up{R:c9 Pr w K mg base}{W i:Nat}{ρ:w1e->Nat->R.S.W}{ws vs:List w1e}{u:V}{H:Hp}(hi:i < ws.length)(h:DA R W ρ ws i u H):DA R W ρ (ws++vs) i u H:=by obtain⟨wd,q,rv,e,r⟩:=h;exact⟨wd,q,rv,by rw[aY hi];exact e,r⟩
def DA.lift{R:c9 Pr w K mg base}{W i:Nat}{ρ:w1e->Nat->R.S.W}{ws vs:List w1e}{u:V}{H:Hp}(h:DA R W ρ vs i u H):DA R W ρ (ws++vs) (ws.length+i) u H:=by obtain⟨wd,q,rv,e,r⟩:=h;exact⟨wd,q,rv,by rw[aZ Z,show ws.length+i - ws.length=i by omega];exact e,r⟩
def IP{R:c9 Pr w K mg base}{W:Nat}{ρ:w1e->Nat->R.S.W}{ws vs:List w1e}{us xs:List V}{H:Hp}(h:j8 (DA R W ρ ws) us ws.length H)(g:j8 (DA R W ρ vs) xs vs.length H):j8 (DA R W ρ<|ws++vs) (us++xs) (ws++vs).length H:=by
 show⟨by rw[aq,aq,h.1,g.1],λj hj=>?_⟩;rw[aq]at hj;by_cases z:j < ws.length
 . obtain⟨u,e,p⟩:=h.2 j z;exact⟨u,by rw[aY<|by rw[h.1];exact z];exact e,p.up z⟩
 . obtain⟨u,e,p⟩:=g.2 (j - ws.length) Z;show⟨u,by rw[aZ (by rw[h.1];omega),h.1];exact e,?_⟩;have:=p.lift (ws:=ws);rwa [show ws.length+(j - ws.length)=j by omega]at this
def E5(D:Addr->Prop)(H H':Hp):Prop:=∀b o,¬D b->H b=some o->H' b=some o
def E5.of{D:Addr->Prop}{H H':Hp}(s:h9 H H'):E5 D H H':=λb o _ h=>s b o h
def E5.trans{D:Addr->Prop}{H H1 H2:Hp}(s:E5 D H H1)(s':E5 D H1 H2):E5 D H H2:=λb o n h=>s' b o n (s b o n h)
def spG(R:c9 Pr w K mg base)(W:Nat)(ρ:w1e->Nat->R.S.W)(g:List w1e->List w1e)(Ok:List w1e->Prop)(D:Addr->Prop)(J:Hp->Prop):Sp:=λvs H Q _=>∃a ws,vs=[.ref a]/\(L6 R W ρ ws a H/\Ok ws/\J H)/\
 ∀b H',E5 D H H'->J H'->H b=none->L6 R W ρ (g ws) b H'->Q (.ref b) H'
theorem E5.tup{D:Addr->Prop}{H H':Hp}(s:E5 D H H')(h:∀b,D b->∃o,H b=some o/\(∀ts,o≠.tup ts)/\∀C dx fs,o≠.ins C dx fs):y9 H H':=λp ts e=>s p _ (λd=>by
 obtain⟨o,h1,h2,_⟩:=h p d;rw[e]at h1;exact h2 ts (Option.some.inj h1).symm) e
def N9.sameD{D:Addr->Prop}{H H':Hp}{C:Addr}{fs:List (Str × V)}{v:V}(s:E5 D H H')(h:∀b,D b->∃o,H b=some o/\(∀ts,o≠.tup ts)/\∀C dx fs,o≠.ins C dx fs)(k:N9 C fs H v):N9 C fs H' v:=by obtain⟨p,dx,rfl,e⟩:=k;show⟨p,dx,U,s p _ (λd=>?_) e⟩;obtain⟨o,h1,_,h2⟩:=h p d;rw[e]at h1;exact h2 _ _ _ (Option.some.inj h1).symm
def l6.lt{a:Addr}{xs:List V}{H H':Hp}(s:l6 a H H')(h:H a=some (.lst xs)):y9 H H':=λp ts e=>s p _ (λz=>by rw[z,h]at e;cases e) e
def L6.sameX{R:c9 Pr w K mg base}{W:Nat}{ρ:w1e->Nat->R.S.W}{ws:List w1e}{a b:Addr}{xs:List V}{H H':Hp}(s:l6 b H H')(hb:H b=some (.lst xs))(n:a≠b)(h:L6 R W ρ ws a H):L6 R W ρ ws a H':=by obtain⟨us,ha,e⟩:=h;exact⟨us,s _ _ n ha,e.mono λ_ _ _ q=>q.same<|s.lt hb⟩
def M7.sameX{R:c9 Pr w K mg base}{W:Nat}{ks:w1a R.S}{a b:Addr}{xs:List V}{H H':Hp}(s:l6 b H H')(hb:H b=some (.lst xs))(n:a≠b)(h:M7 R W ks a H):M7 R W ks a H':=by obtain⟨us,ha,e⟩:=h;exact⟨us,s _ _ n ha,e.mono λ_ _ _ q=>q.same<|s.lt hb⟩
def L6.sameD{R:c9 Pr w K mg base}{W:Nat}{ρ:w1e->Nat->R.S.W}{ws:List w1e}{a:Addr}{D:Addr->Prop}{H H':Hp}(s:E5 D H H')(t:y9 H H')(n:¬D a)(h:L6 R W ρ ws a H):L6 R W ρ ws a H':=by obtain⟨us,ha,e⟩:=h;exact⟨us,s _ _ n ha,e.mono λ_ _ _ q=>q.same t⟩
def M7.sameD{R:c9 Pr w K mg base}{W:Nat}{ks:w1a R.S}{a:Addr}{D:Addr->Prop}{H H':Hp}(s:E5 D H H')(t:y9 H H')(n:¬D a)(h:M7 R W ks a H):M7 R W ks a H':=by obtain⟨us,ha,e⟩:=h;exact⟨us,s _ _ n ha,e.mono λ_ _ _ q=>q.same t⟩
def IZ.imp{P:Program}{w:World}{K:aa}{mg:w1d}{base:Heap}{k:Nat}{f:Addr}{sp qQ:Sp}(F:IZ P w K mg base k f sp)(h:∀v H Q,qQ [v] H Q E0->sp [v] H Q E0):IZ P w K mg base k f qQ:=
 ⟨F.fn,λA outer s H u v Q hr e rv q=>F.run A outer s H u v Q hr e rv<|h v H Q q⟩
variable(w K mg base)in def Jl:Sp:=λvs H Q _=>∃(R:c9 Pr w K mg base),∃kv fv f,∃(W β r:Nat),∃ρ g Ok D J,vs=[kv,fv,.ref f]/\(N9 R.C R.fs H kv/\j5 R W (ρ []) fv H/\W<=60/\IZ Pr w K mg base 48 f (spG R W ρ g Ok D J)/\(J H/\(∀G G',h9 G G'->J G->J G')/\∀a xs G G',H a=none->G a=some (.lst xs)->l6 a G G'->J G->J G')/\(∀G,J G->∀b,D b->∃o,G b=some o/\(∀ts,o≠.tup ts)/\∀C dx fs,o≠.ins C dx fs)/\g []=[]/\
    (∀i,(w6 R.F W ρ g i).last≠[]->Ok (Q6 R.F W ρ (w6 R.F W ρ g i).ks (w6 R.F W ρ g i).last))/\(∀i,∀u∈(w6 R.F W ρ g i).last,XB R.B W β r<|ρ u)/\N5 R.S (3 * (β+(r+1) * 2 ^ W)))/\
 ∀b H',E5 D H H'->J H'->H b=none->L6 R W ρ (S4 R.F W ρ g) b H'->Q (.ref b) H'
def DD:w8 Pr w K mg base F6 51 t.u0x t.t0e [x6,Jg,"grown"] (Jl w K mg base):=by
 show T.t0i.F.okA K4 λ_ _ _ _ H _ _ _ hr h=>?_;obtain⟨R,kv,fv,f,W,β,r,ρ,g,Ok,D,J,rfl,⟨hk,hf,hW,hG,⟨hJ,wA,tZ⟩,hD,vX,hOk,hX,hS⟩,k⟩:=h;show⟨_,(c5 (sT 3 K4.nd<|D1 K6)<|c5 (sT 4 K4.nd<|D1 K6)<|c5 (sT 5 K4.nd<|D1<|B3<|D0<|F1 Ad<|O 1)<|c5 (Cr aB (o6 AZ (x9 B4 bR T.z_len PySem.boot_len<|B3<|O 5) c4<|o7 _)<|c5 (sT 6 K4.nd<|D1 K6)<|c5 (E9 aB U (C5<|O 5) (gN 7 K4.nd)<|c6<|D3 (DW<|D2 (Rt T) hr.m T.z0z<|Ik (O 0) (O 3) (D5 j7 (O 7) c4)<|x9 B4 bR T.z_len PySem.boot_len<|B3<|O 1) (c6<|F3<|W2 bq bF bH J3 (O 6)<|B3<|O 7) x5)<|c5 (F3<|W2 bq PySem.F.slot_list_extend PySem.F.type_list_extend Km (O 4)<|B3<|O 6)<|c6<|sT 5 K4.nd<|Vl (i:=2) (k:=48) hr.m<|B3<|O 6)<|c6<|h7<|O 4),?_⟩;norm_cast;show⟨sL,λka nk=>?_⟩;show E4 (o:=.lst []) nk λH1 s1 k1=>?_;show⟨sL,λta nt=>?_⟩;show E4 (o:=.lst []) nt λH2 s2 k2=>?_;have tk:ta≠ka:=λz=>by rw[z,k1]at nt;cases nt
 show va U ⟨sL,λtp kc=>?_⟩;rw[Wu];show E4 (o:=.tup [V.str<|tx [],fv]) kc λH3 s3 k3=>?_;show⟨sL,λla nl=>?_⟩;show E4 (o:=.lst [V.ref tp]) nl λH4 s4 k4=>?_;have q2:=s1.trans s2;have q3:=q2.trans s3;have q4:=q3.trans s4;have oW:H ta=none:=by
  cases e:H ta with
  | none=>rfl
  | some o=>rw[s1 _ _ e]at nt;cases nt
 have rD:H la=none:=by
  cases e:H la with
  | none=>rfl
  | some o=>rw[q3 _ _ e]at nl;cases nl
 have lk:la≠ka:=λz=>by rw[z,s3 _ _<|s2 _ _ k1]at nl;cases nl
 have lt:la≠ta:=λz=>by rw[z,s3 _ _ k2]at nl;cases nl
 show⟨λm σ G=>∃(i:Nat) (la:Addr) (v6 v7:Option V),σ=[some kv,some fv,sr f,sr ka,sr ta,sr la,v6,v7]/\m=d0k W (w6 R.F W ρ g i)/\E5 D H G/\J G/\M7 R W (w6 R.F W ρ g i).ks ka G/\L6 R W ρ (w6 R.F W ρ g i).told ta G/\L6 R W ρ (w6 R.F W ρ g i).last la G/\H la=none/\la≠ka/\la≠ta,⟨_,0,la,za ⟨U,U,E5.of q4,wA _ _ q4 hJ,⟨_,(s2.trans<|s3.trans s4) _ _ k1,j8.nil⟩,⟨_,(s3.trans s4) _ _ k2,j8.nil⟩,⟨_,k4,j8.snoc j8.nil ⟨[],tp,fv,U,U,s4 _ _ k3,j5.same q4.t hf⟩⟩,rD,lk,lt⟩⟩,?_⟩
 rintro m σ G ⟨i,la,v6,v7,rfl,rfl,sD,jG,hK,hT,hL,rD,lk,lt⟩;have hL0:=hL;obtain⟨us,jN,eL⟩:=hL;have ed:BA K (.ref la) G (w6 R.F W ρ g i).last.length:=.inl ⟨_,p9.of jN,eL.1.symm⟩;show va U<|za ⟨U,ed,za ⟨U,U,va U ?_⟩⟩;show Dw (λh0=>?_) (λh0=>?_)
 . have ne:(w6 R.F W ρ g i).last≠[]:=λz=>by rw[z]at h0;exact absurd h0 bD
   show⟨λσ' G'=>∃(la:Addr) (v6 v7:Option V),σ'=[some kv,some fv,sr f,sr ka,sr ta,sr la,v6,v7]/\E5 D H G'/\J G'/\M7 R W (w6 R.F W ρ g<|i+1).ks ka G'/\L6 R W ρ (w6 R.F W ρ g<|i+1).told ta G'/\L6 R W ρ (w6 R.F W ρ g<|i+1).last la G'/\H la=none/\la≠ka/\la≠ta,
    λσ' G' ⟨la,v6,v7,e1,e2,e3,e4,e5,e6,e7,e8,e9⟩=>⟨_,Wh vX ne,i+1,la,v6,v7,e1,U,e2,e3,e4,e5,e6,e7,e8,e9⟩,?_⟩
   have dG:=hD _ jG;have nd:∀{b:Addr},H b=none->¬D b:=λ{b} e d=>by
    obtain⟨o,h1,_⟩:=hD _ hJ b d;rw[e]at h1;cases h1
   have nn:∀{b:Addr} {G:Hp},E5 D H G->J G->G b=none->H b=none:=λ{b G} sG jG e=>by
    cases e':H b with
    | none=>rfl
    | some o=>
     by_cases d:D b
     . obtain⟨o,h1,_⟩:=hD _ jG b d;rw[e]at h1;cases h1
     . rw[sG b o d e']at e;cases e
   show⟨sL,λfa nf=>?_⟩;have t1:=c7 (o:=.lst ([]:List V)) nf;have f1:=b9 (H:=G) (a:=fa) (o:=.lst []);have vy:=nn sD jG nf;have fk:fa≠ka:=λz=>by obtain⟨_,e,_⟩:=hK;rw[<- z,nf]at e;cases e
   have ft:fa≠ta:=λz=>by obtain⟨_,e,_⟩:=hT;rw[<- z,nf]at e;cases e
   have fl:fa≠la:=λz=>by rw[<- z,nf]at jN;cases jN
   revert t1 f1;generalize upd G fa (.lst [])=G1;intro t1 f1;have KP:∀j,Kp R.S W (AM R.F W ρ (w6 R.F W ρ g i).ks<|(w6 R.F W ρ g i).last.take j):=λj=>LY<|M4 i;have KB:∀j,Kb R.B W r (AM R.F W ρ (w6 R.F W ρ g i).ks<|(w6 R.F W ρ g i).last.take j):=λj=>Qz (β:=β) (ae _) (Wg (β:=β) (ae _) hX i) λu hu=>hX i u<|List.mem_of_mem_take hu;have FL:∀j,(Q6 R.F W ρ (w6 R.F W ρ g i).ks<|(w6 R.F W ρ g i).last.take j).length<=W:=λj=>by
    have:=Ay (F:=R.F) (l:=W) (ρ:=ρ) (ws:=(w6 R.F W ρ g i).last.take j) (ks:=(w6 R.F W ρ g i).ks);have:=(KP j).len;omega
   have zl:=sZ;show va U ⟨la,U,⟨_,p9.of<|t1 _ _ jN⟩,P2 (K:=K) (a:=la) (xs:=us) (λj σ G2=>∃v7,σ=[some kv,some fv,sr f,sr ka,sr ta,sr la,sr fa,v7]/\E5 D H G2/\J G2/\M7 R W (AM R.F W ρ (w6 R.F W ρ g i).ks<|(w6 R.F W ρ g i).last.take j) ka G2/\L6 R W ρ (w6 R.F W ρ g i).told ta G2/\(G2 la=some (.lst us)/\j8 (DA R W ρ (w6 R.F W ρ g i).last) us (w6 R.F W ρ g i).last.length G2)/\L6 R W ρ (Q6 R.F W ρ (w6 R.F W ρ g i).ks<|(w6 R.F W ρ g i).last.take j) fa G2)
    (va U ⟨sD.trans<|.of t1,wA _ _ t1 jG,hK.same t1,hT.same t1,⟨t1 _ _ jN,eL.mono λ_ _ _ q=>q.same t1.t⟩,⟨_,f1,j8.nil⟩⟩) (λj σ G2 _ ⟨_,_,_,_,_,_,e,_⟩=>p9.of e.1) ?_ ?_⟩
   . rintro j y σ G2 hj ⟨v7,rfl,fV,pA,nU,fH,⟨nB,qh⟩,nV⟩;obtain⟨jl,wd,q,rv,ew,rfl,hq,ro⟩:=qh.at hj;have jU:=hD _ pA;have fS:y9 H G2:=fV.tup<|hD _ hJ;have iK:N9 R.C R.fs G2 kv:=N9.sameD fV (hD _ hJ) hk;have ts:(w6 R.F W ρ g i).last.take (j+1)=(w6 R.F W ρ g i).last.take j++[wd]:=L4 ew;have ek:AM R.F W ρ (w6 R.F W ρ g i).ks ((w6 R.F W ρ g i).last.take<|j+1)=X5 R.F W (AM R.F W ρ (w6 R.F W ρ g i).ks<|(w6 R.F W ρ g i).last.take j) (ρ wd):=by rw[ts,Wi]
     have ef:Q6 R.F W ρ (w6 R.F W ρ g i).ks ((w6 R.F W ρ g i).last.take<|j+1)=Q6 R.F W ρ (w6 R.F W ρ g i).ks ((w6 R.F W ρ g i).last.take j)++(if(X5 R.F W (AM R.F W ρ (w6 R.F W ρ g i).ks<|(w6 R.F W ρ g i).last.take j)<|ρ wd).length≠(AM R.F W ρ (w6 R.F W ρ g i).ks<|(w6 R.F W ρ g i).last.take j).length then [wd]else []):=by rw[ts,FA]
     show vc U U U<|zf ⟨U,U,o9.of hq,U,va U<|za ⟨U,(j5.same fS hf).len,R,zB kv ka rv W W (β+(r+1) * 2 ^ W) _ (ρ wd) ⟨U,⟨iK,nU,KP j,ro,ae _,Z,λ_=>(KB j).clrZ (hX i wd<|aL ew) (KP j).len<|ae _,hS⟩,λG3 s3 K3=>?_⟩⟩⟩;obtain⟨kus,jz,_⟩:=id nU;have lQ:=nV.sameX s3 jz fk;have gn:=fH.sameX s3 jz tk;have ip:=s3.lt jz;have gh:E5 D H G3:=λb o d e=>s3 b o (l8 e nk)<|fV b o d e;have jM:=tZ ka _ _ _ nk jz s3 pA;have nA:=s3 _ _ lk nB;have yA:=qh.mono λ_ _ _ (q:DA R W ρ (w6 R.F W ρ g i).last _ _ _)=>q.same ip;by_cases hc:(X5 R.F W (AM R.F W ρ (w6 R.F W ρ g i).ks<|(w6 R.F W ρ g i).last.take j)<|ρ wd).length≠(AM R.F W ρ (w6 R.F W ρ g i).ks<|(w6 R.F W ρ g i).last.take j).length
     . rw[if_pos hc]at ef;rw[decide_eq_true hc];show va U ?_;show Om ?_;obtain⟨jf,ig,yB⟩:=lQ;have:=FL j;show va U ⟨.inl ⟨U,_,p9.of ig⟩,va U ⟨fa,jf,V.ref q,U,U,ig,(by rw[yB.1];omega),?_⟩⟩;have sx:l6 fa G3 (upd G3 fa<|.lst<|jf++[V.ref q]):=l6.upd;have sl:=B6 (o:=.lst<|jf++[V.ref q]) ig;show va U ⟨λb o d e=>sx b o (l8 e vy)<|gh b o d e,tZ fa _ _ _ vy ig sx jM,?_,gn.sameX sx ig<|Ne.symm ft,⟨sx _ _ (Ne.symm fl) nA,yA.mono λ_ _ _ q=>q.same sl⟩,?_⟩
       . rw[ek];exact K3.sameX sx ig (Ne.symm fk)
       . rw[ef];show⟨_,b9,IP (yB.mono λ_ _ _ q=>q.same sl)<|j8.snoc j8.nil ⟨wd,q,rv,U,U,sl _ _<|ip _ _ hq,j5.same sl<|j5.same ip ro⟩⟩
     . rw[if_neg hc,bw]at ef;rw[decide_eq_false hc];show va U ?_;show Em ?_;show va U ⟨gh,jM,?_,gn,⟨nA,yA⟩,?_⟩
       . rw[ek];exact K3
       . rw[ef];exact lQ
   . rintro σ G2 ⟨v7,rfl,fV,pA,nU,fH,⟨nB,qh⟩,nV⟩;rw[qh.1,bo]at nU nV;have FL:=FL (w6 R.F W ρ g i).last.length;rw[bo]at FL;obtain⟨jf,tK,yC⟩:=id nV;obtain⟨lj,ia,yy⟩:=id fH;have tl:=Bv (F:=R.F) (l:=W) (ρ:=ρ) (g:=g) i;have tl2:=(M4 (F:=R.F) (l:=W) (ρ:=ρ) (g:=g) i).len;show va U ⟨.inl ⟨U,_,p9.of ia⟩,va U ⟨ta,fa,lj,jf,U,U,ia,tK,(by rw[yC.1,yy.1];omega),?_⟩⟩;have sx:l6 ta G2 (upd G2 ta<|.lst<|lj++jf):=l6.upd;have sl:=B6 (o:=.lst<|lj++jf) ia;have gh:E5 D H (upd G2 ta<|.lst<|lj++jf):=λb o d e=>sx b o (l8 e oW)<|fV b o d e;have jM:=tZ ta _ _ _ oW ia sx pA;have pR:=nU.sameX sx ia<|Ne.symm tk;have lQ:=nV.sameX sx ia ft;have gn:L6 R W ρ (w6 R.F W ρ g<|i+1).told ta (upd G2 ta<|.lst<|lj++jf):=⟨_,b9,IP (yy.mono λ_ _ _ q=>q.same sl)<|yC.mono λ_ _ _ q=>q.same sl⟩;revert gh jM pR lQ gn;generalize upd G2 ta (.lst<|lj++jf)=G3;intro gh jM pR lQ gn;show⟨f,va U ⟨hG,va U ⟨U,fa,va U ⟨⟨lQ,hOk i ne,jM⟩,λb G4 s4 j4 n4 P4=>?_⟩⟩⟩⟩;have mn:=s4.tup<|hD _ jM;obtain⟨_,e1,_⟩:=id pR;obtain⟨_,e2,_⟩:=id gn;exact⟨b,za ⟨U,gh.trans s4,j4,pR.sameD s4 mn<|nd nk,gn.sameD s4 mn<|nd oW,P4,nn gh jM n4,(λz=>by rw[<- z,n4]at e1;cases e1),(λz=>by rw[<- z,n4]at e2;cases e2)⟩⟩
 . have ne:(w6 R.F W ρ g i).last=[]:=by
    cases e:(w6 R.F W ρ g i).last with
    | nil=>rfl
    | cons a b=>rw[e]at h0;exact absurd (by simp) h0
   show va U ?_;rw[Fz vX ne]at hT;exact k _ _ sD jG oW hT
variable(w K mg base)in def KR:Sp:=λvs H Q _=>∃(R:c9 Pr w K mg base),∃rv,∃a,∃(n:Nat),∃x,∃(ps:w1e),vs=[rv,.ref a]/\(j5 R n x rv H/\H a=some (.lst (ps.map λp:Nat=>V.int (p:Int)))/\(∀p∈ps,p < n)/\ps.length<=1000)/\
 ∀v H',h9 H H'->j5 R ps.length (λj=>x<|ps.getD j 0) v H'->Q v H'
def Fj:w8 Pr w K mg base F6 1 t.x0y t.t0w Vz (KR w K mg base):=by
 show T.u0a.F.okA Lf λ_ _ _ _ H _ _ _ hr h=>?_;obtain⟨R,rv,a,n,x,ps,rfl,⟨hx,ha,hp,hn⟩,k⟩:=h;show⟨_,(c6<|h7<|i3 c8 bR T.z_tuple boot_tuple<|B3<|x8 (xs:=[AN]) U (oC Vz<|a8 Aq) (C5<|O 1) (r9 (i:=2) (by show List.Nodup ([C8,"places",AN]:w1f);decide +kernel) U<|Or.inl U)<|D5 (show Kx _ (Jy K)from j7) (O 0)<|O 2),?_⟩;norm_cast;show va U ⟨a,U,⟨_,p9.of ha⟩,o4 (n:=ps.length) (λj ys H2=>j8 (λj u H=>R.is H u<|x<|ps.getD j 0) ys j H/\H2=H) hn ⟨j8.nil,U⟩ (λj ys H2 q=>q.1.1) ?_ ?_ ?_⟩
 . rintro j ys H2 hj ⟨e,rfl⟩;have ej:(ps.map λp:Nat=>V.int (p:Int))[j]? = some (V.int ((ps[j]:Nat):Int)):=by rw[aE,ah hj];rfl
   show Hm (p9.of ha) ej ?_;obtain⟨p,us,u,rfl,h1,h2,h3⟩:=j5.at hx<|hp _<|aG hj;show⟨⟨[some _],U,U⟩,vb U U<|zf ⟨U,U,h1,h2,?_⟩⟩;have eg:ps.getD j 0=ps[j]:=by rw[aU,ah hj];rfl
   exact⟨e.snoc (by rw[eg];exact h3),U⟩
 . rintro ys H2 ⟨e,rfl⟩;exact⟨_,p9.of ha,by rw[ag];exact ae _⟩
 . rintro ys H2 l ⟨e,rfl⟩ nl;have s1:=c7 (o:=.lst ys) nl;show⟨l,ys,U,.inl ⟨p9.of b9,λl2 n2=>?_⟩⟩;have s2:=c7 (o:=.tup ys) n2;exact k _ _ (s1.trans s2) ⟨l2,ys,U,b9,e.mono λ_ _ _ q=>R.same (s1.trans s2).t q⟩
structure N4(l:w1e):Prop where
 nd:l.Nodup
 as:∀c∈l,c < 128
 h3:l.length<=3
def N4.asc{l:w1e}(L:N4 l):(tx l).cps.all (· < 128)=true:=Ui L.as
def c0j{l:w1e}(nd:l.Nodup){j c:Nat}(h:l[j]? = some c):l.idxOf c=j:=by obtain⟨hj,e⟩:=aJ.mp h;have h1:l.idxOf c < l.length:=cu.mpr (by rw[<- e];exact aG hj);have h2:=List.getElem_idxOf h1;exact(List.getElem_inj nd).mp (h2.trans e.symm)
variable(w K mg base)in def BI:Sp:=λvs H Q _=>∃(R:c9 Pr w K mg base),∃kv mv a l,∃(n μ:Nat),∃st tb en ws,vs=[kv,mv,.ref a]/\(N9 R.C R.fs H kv/\j9 R l n st tb en mv H/\MB R.B n l.length μ st tb en/\N4 l/\n<=60/\L6 R n (h8 R.S n st<|w5 l tb) ws a H/\(∀u∈ws,u.length<=n/\∀c∈u,c∈l)/\ws.length<=1000/\N5 R.S (3 * ((n+2) * (μ+n))))/\
 ∀b H',h9 H H'->H b=none->L6 R n (h8 R.S n st<|w5 l tb) (gB l ws) b H'->Q (.ref b) H'
def S7:w8 Pr w K mg base F6 45 t.r0a t.q0o [x6,O9,"last"] (BI w K mg base):=by
 show T.q0n.F.okA J0 λ_ _ _ _ H _ _ _ hr h=>?_;obtain⟨R,kv,mv,a,l,n,μ,st,tb,en,ws,rfl,⟨hk,hM,hB,L,hn,⟨us,ha,eP⟩,hw,kr,hS⟩,k⟩:=h;obtain⟨mp,sv,tv,ev,rfl,hm,_,hT,_⟩:=id hM;have zl:=sZ;show⟨_,(c5 (sT 3 J0.nd<|D1 K6)<|c5 (E9 aB U (C5<|O 2) (I9 U<|l5 (r9 (i:=4) J0.nd U<|Or.inr U)<|l5 (r9 (i:=5) J0.nd U<|Or.inr U) D7)<|c6<|F3<|W2 bq PySem.F.slot_list_extend PySem.F.type_list_extend Km (O 3)<|B3<|x8 (xs:=["letter",Y9]) U (oC [x6,O9,"last","told",GY,C8]<|a8 J6) (DY U T.z_zip<|F1 (D5 j7 (O 1) c4)<|D5 j7 (O 1) c4) (show PG _ _ (Ep K 2 _)from(I9 U<|l5 (gL 6 o0l)<|l5 (gL 7 o0l) D7))<|D0<|F1 (o8 Il (O 4)<|O 6)<|C1 (Ki (w:=w) (base:=base) T) hr.m U T.y0n.m T.y0n.F.kp T.y0n.b .nil C3<|S3 (O 0) (O 5)<|O 7)<|c6<|h7<|O 3),?_⟩;norm_cast;show⟨sL,λb nb=>?_⟩;show E4 (o:=.lst []) nb λH1 s1 k1=>?_;have ab:a≠b:=λz=>by rw[z,nb]at ha;cases ha
 show va U ⟨a,U,⟨_,p9.of<|s1 _ _ ha⟩,P2 (K:=K) (a:=a) (xs:=us) (λj σ G=>∃v4 v5,σ=[some kv,sr mp,sr a,sr b,v4,v5]/\h9 H G/\L6 R n (h8 R.S n st<|w5 l tb) (gB l<|ws.take j) b G) ⟨_,va U ⟨s1,⟨_,k1,j8.nil⟩⟩⟩ (λj σ G _ ⟨_,_,_,q,_⟩=>p9.of<|q _ _ ha) ?_ ?_⟩
 . rintro j y σ G hj ⟨v4,v5,rfl,q,hP⟩;obtain⟨jl,wd,p,rv,ew,rfl,hp,ro⟩:=eP.at hj;obtain⟨wl,wc⟩:=hw wd<|aL ew;show⟨p,va U ⟨o9.of<|q _ _ hp,U,za ⟨U,za ⟨U,U,?_⟩⟩⟩⟩;obtain⟨tp,tabs,rfl,fw,eT⟩:=id hT;obtain⟨uK,hb,eB⟩:=id hP;have bl:=eB.1;rw[LV]at bl;have wt:(ws.take j).length * l.length<=1000 * 3:=aM (by rw[bx];omega) L.h3;have zx:XB R.B n ((n+1) * (μ+n)) ((n+1) * (μ+n)) (h8 R.S n st (w5 l tb) wd):=(hB.row wd wc).mono (M5 wl)<|M5 wl;have e2:(n+2) * (μ+n)=(n+1) * (μ+n)+(μ+n):=bB ..;show va U ⟨.inl ⟨U,_,p9.of hb⟩,va U<|zf ⟨U,U,o9.of<|q _ _ hm,U,va U<|zf ⟨U,U,o9.of<|q _ _ hm,U,.str<|tx l,.tup tp,za ⟨l.map<|λc=>vT [c],tabs,U,U,U,(EJ l).symm,o9.of<|q _ _ fw,o4 (n:=l.length) (λi ys G2=>h9 G G2/\j8 (DA R n (h8 R.S n st<|w5 l tb)<|l.map λc=>wd++[c]) ys i G2) (by have:=L.h3;omega) ⟨h9.refl _,j8.nil⟩ (λj ys H2 q=>q.2.1) ?_ ?_ ?_⟩⟩⟩⟩
   . rintro i ys G2 hi ⟨q2,e⟩;obtain⟨u,eu,pu⟩:=eT.2 i hi;have ec:(l.map λc=>vT [c])[i]? = some (vT [l[i]]):=by rw[aE,ah hi];rfl
     have rd:=q.trans q2;show⟨⟨_,tabs,_,u,(EJ l).symm,o9.of<|rd _ _ fw,ec,eu⟩,λy' H' hy=>?_⟩;obtain⟨pp,x',y',rfl,np,rfl,f1,f2⟩:=hy;have e1:=f1 _ (EJ l).symm;rw[ec]at e1;cases e1;have yD:=f2 _<|o9.of<|rd _ _ fw;rw[eu]at yD;cases yD;have s3:=c7 (o:=.tup [vT [l[i]],u]) np;have q3:=rd.trans s3;show⟨pp,va U ⟨o9.of b9,U,za ⟨U,za ⟨U,U,⟨[some _,some _],U,U⟩,vb U U<|za ⟨U,U,(by show(tx wd).length+(tx [l[i]]).length<=_;rw[T5,T5];simp;omega),?_⟩⟩⟩⟩⟩;show vc U U U ⟨R,zB _ _ _ n n (h8 R.S n st (w5 l tb) wd) (tb i) ((n+2) * (μ+n)) ⟨U,⟨hk.same q3,j5.same q3.t ro,B5.same q3.t pu,Z,Z,λj hj=>Az zx ((hB.tb i hi).col hj) Z Z,hS⟩,λv H3 vk f3=>?_⟩⟩;rw[show(if n=0 then 0 else n)=n by split <;>omega]at f3;show⟨sL,λp5 n5=>?_⟩;rw[Uj];have s5:=c7 (o:=.tup [V.str<|tx<|wd++[l[i]],v]) n5;show⟨q2.trans<|s3.trans<|vk.trans s5,(e.mono λ_ _ _ z=>z.same (s3.trans<|vk.trans s5).t).snoc ⟨wd++[l[i]],p5,v,by rw[aE,ah hi];rfl,U,b9,j5.same s5.t ?_⟩⟩;have ei:w5 l tb l[i]=tb i:=by unfold w5;rw[c0j L.nd<|ah hi]
     rw[x4,ei];exact f3
   . rintro ys G2 ⟨q2,e⟩;exact⟨_,tabs,(EJ l).symm,o9.of<|(q.trans q2) _ _ fw,.inl<|by rw[ag]⟩
   . rintro ys G2 z ⟨q2,e⟩ nl;show E4 (o:=.lst ys) nl λG3 s3 k3=>?_;have q3:=q2.trans s3;have tP:=q3 _ _ hb;have l3:=L.h3;show⟨b,z,uK,ys,U,U,tP,k3,(by rw[bl,e.1];omega),?_⟩;have sx:l6 b G3 (upd G3 b<|.lst<|uK++ys):=l6.upd;have sl:=B6 (o:=.lst<|uK++ys) tP;show za ⟨U,λc o hc=>sx c o (l8 hc nb)<|(q.trans q3) c o hc,?_⟩;rw[RH ew];have el:l.length=(l.map λc=>wd++[c]).length:=by rw[ag]
     rw[el]at e;exact⟨_,b9,IP (eB.mono λ_ _ _ z=>(z.same q3.t).same sl)<|e.mono λ_ _ _ z=>(z.same s3.t).same sl⟩
 . rintro σ G ⟨v4,v5,rfl,q,hP⟩;rw[eP.1,bo]at hP;exact va U (k _ _ q nb hP)
def qFA:Str:=(("free_ahead":Str)++".<locals>.")++"<lambda>"
def qAL:Str:=(("alike":Str)++".<locals>.")++"<lambda>"
def tabs(t:ON):List (Addr × Str):=[(t.P_echelon,qE),(t.P_free_ahead,qFA),(t.P_alike,qAL)]
def Xd:((tabs t).map Prod.fst).Nodup:=T.d_tabs
def QY:(t.P_echelon,qE)∈tabs t:=by simp[tabs]
def Ur:(t.P_free_ahead,qFA)∈tabs t:=by simp[tabs]
def Us:(t.P_alike,qAL)∈tabs t:=by simp[tabs]
def DT(t:ON)(b:Addr):Prop:=∃q,(b,q)∈tabs t
def E6(t:ON)(H:Hp):Prop:=∀p∈tabs t,Q5 H p.1 p.2
theorem E6.same{H H':Hp}(s:h9 H H')(h:E6 t H):E6 t H':=λp hp=>Q5.same s (h p hp)
def Q5.sameX{a P:Addr}{q:Str}{xs:List V}{H H':Hp}(s:l6 a H H')(ha:H a=some (.lst xs))(h:Q5 H P q):Q5 H' P q:=by obtain⟨ps,h1,h2,h3⟩:=h;show⟨ps,s _ _ (Av h1 ha<|by simp) h1,h2,λlp v e=>?_⟩;obtain⟨c,e1,oc,vs,t,y1,y2⟩:=h3 lp v e;exact⟨c,e1,oc,vs,t,s _ _ (Av y1 ha<|by simp) y1,y2⟩
theorem E6.sameX{a:Addr}{xs:List V}{H H':Hp}(s:l6 a H H')(ha:H a=some (.lst xs))(h:E6 t H):E6 t H':=λp hp=>Q5.sameX s ha (h p hp)
def O0.sameX{a c:Addr}{q:Str}{xs:List V}{H H':Hp}(s:l6 a H H')(ha:H a=some (.lst xs))(h:O0 H c q):O0 H' c q:=by obtain⟨oc,vs,t,y1,y2⟩:=h;exact⟨oc,vs,t,s _ _ (Av y1 ha<|by simp) y1,y2⟩
def O0.same0{c:Addr}{q:Str}{H H':Hp}(s:h9 H H')(h:O0 H c q):O0 H' c q:=by obtain⟨oc,vs,t,y1,y2⟩:=h;exact⟨oc,vs,t,s _ _ y1,y2⟩
def E6.not{H:Hp}(h:E6 t H):∀b,DT t b->∃o,H b=some o/\(∀ts,o≠.tup ts)/\∀C dx fs,o≠.ins C dx fs:=λb ⟨q,hq⟩=>by
 obtain⟨ps,h1,_⟩:=h _ hq;exact⟨_,h1,λ_=>by simp,λ_ _ _=>by simp⟩
theorem E6.lst{H:Hp}{b:Addr}{xs:List V}(h:E6 t H)(e:H b=some (.lst xs)):¬DT t b:=λ⟨q,hq⟩=>by
 obtain⟨ps,h1,_⟩:=h _ hq;rw[e]at h1;cases h1
theorem E6.none{H:Hp}{b:Addr}(h:E6 t H)(e:H b=none):¬DT t b:=λ⟨q,hq⟩=>by
 obtain⟨ps,h1,_⟩:=h _ hq;rw[e]at h1;cases h1
theorem Kk{α β:Type}:∀{l:List (α × β)},(l.map Prod.fst).Nodup->∀{p q},p∈l->q∈l->p.1=q.1->p=q
 | [],_,_,_,h,_,_=>nomatch h
 | a::l,nd,p,q,hp,hq,e=>by
  rw[aX,cG]at nd;rcases au.mp hp with e1 | h1
  . rcases au.mp hq with e2 | h2
    . rw[e1,e2]
    . exact absurd (aw.mpr ⟨q,h2,by rw[<- e,e1]⟩) nd.1
  . rcases au.mp hq with e2 | h2
    . exact absurd (aw.mpr ⟨p,h1,by rw[e,e2]⟩) nd.1
    . exact Kk nd.2 h1 h2 e
def E6.step{P:Addr}{q:Str}{H H':Hp}(h:E6 t H)(m:(P,q)∈tabs t)(s:OH P H H')(g:Q5 H' P q):E6 t H'/\E5 (DT t) H H':=by
 show⟨λp hp=>?_,λb o d e=>s b o (λz=>d<|by rw[z];exact⟨q,m⟩) e⟩;by_cases z:p.1=P
 . cases Kk (Xd T) hp m z;exact g
 . obtain⟨pp,hP,_⟩:=h _ m;obtain⟨ps,h1,h2,h3⟩:=h p hp;show⟨ps,s _ _ z h1,h2,λlp v e=>?_⟩;obtain⟨c,e1,oc,vs,t,y1,y2⟩:=h3 lp v e;exact⟨c,e1,oc,vs,t,s _ _ (Av y1 hP<|by simp) y1,y2⟩
variable(w K mg base)in def MQ:Sp:=λvs H Q _=>∃(R:c9 Pr w K mg base),∃kd mv a l,∃(n μ u:Nat),∃st tb en es,vs=[kd,mv,.ref a]/\(N9 R.C R.fs H kd/\j9 R l n st tb en mv H/\MB R.B n l.length μ st tb en/\M7 R n es a H/\(∀k∈es,k.1 < n/\XB R.B n u u k.2)/\n<=60/\es.length<=60/\l.length<=1000/\N5 R.S (3 * (u+μ+n)))/\
 ∀v H',h9 H H'->j9 R l es.length (Vt es st) (Hd n es tb) (Kl n es en) v H'->Q v H'
def GL:w8 Pr w K mg base F6 46 t.y0y t.w0l [x6,O9,X6] (MQ w K mg base):=by
 show T.v0c.F.okA V9 λ_ _ _ _ H _ _ _ hr h=>?_;obtain⟨R,kd,mv,a,l,n,μ,u,st,tb,en,es,rfl,⟨hk,hM,hB,⟨us,ha,eK⟩,hX,hn,he,hl,hS⟩,k⟩:=h;obtain⟨mp,sv,tv,ev,rfl,hm,h1,⟨tp,tabs,rfl,fw,eT⟩,h3⟩:=id hM;have zl:=sZ;show⟨_,(c5 (U7 (i:=3) V9.nd U (Or.inr U)<|x8 (xs:=[AN,C8]) U (oC Yg<|a8 U1) (C5<|O 2) (show PG _ _ (Ep K 2 _)from(I9 U<|l5 (gL 7 Yh)<|l5 (gL 8 Yh) D7))<|O 7)<|c5 (sT 4 V9.nd<|i3 c8 bR T.z_tuple boot_tuple<|B3<|x8 (xs:=[AN,C8]) U (oC Yg<|a8 U1) (C5<|O 2) (show PG _ _ (Ep K 2 _)from(I9 U<|l5 (gL 7 Yh)<|l5 (gL 8 Yh) D7))<|O 8)<|c5 (sT 5 V9.nd<|D1 K6)<|c5 (E9 aB U (J2<|D5 j7 (O 1) c4) (gN 6 V9.nd)<|c6<|F3<|W2 bq bF bH J3 (O 5)<|B3<|i3 c8 bR T.z_tuple boot_tuple<|B3<|x8 (xs:=[C8]) U (oC Yg<|a8 U1) (J2<|D2 (GN T) hr.m T.v0x<|S3 (O 0) (O 4)<|O 6) (r9 (i:=7) (by show List.Nodup ([x6,O9,X6,"places",O8,HM,Y9,C8]:w1f);decide +kernel) U<|Or.inl U)<|C1 (Fj (w:=w) (base:=base) T) hr.m U T.u0a.m T.u0a.F.kp T.u0a.b .nil C3<|F1 (O 7)<|O 3)<|c6<|h7<|D0<|Ik (D5 j7 (O 1) c4) (D2 (Fj T) hr.m T.u0a<|F1 (D5 j7 (O 1) c4)<|O 3) (i3 c8 bR T.z_tuple boot_tuple<|B3<|O 5)<|D2 (Fi T) hr.m T.t0z<|S3 (O 0) (O 4)<|D5 j7 (O 1) c4),?_⟩;norm_cast;show va U ⟨a,U,⟨_,p9.of ha⟩,o4 (n:=es.length) (λj ys H2=>ys.length=j/\ys=((es.take j).map Prod.fst).map (λp:Nat=>V.int (p:Int))/\H2=H) Z ⟨U,U,U⟩ (λj ys H2 q=>q.1) ?_ ?_ ?_⟩
 . rintro j ys H2 hj ⟨e0,e1,rfl⟩;obtain⟨y,ey,k',q,rv,ek,rfl,hq,ro⟩:=eK.2 j hj;show Hm (p9.of ha) ey ?_;show⟨q,va U ⟨o9.of hq,U,za ⟨U,za ⟨U,U,⟨[some _,some _],U,U⟩,va U ⟨by rw[aq,e0];rfl,?_,U⟩⟩⟩⟩⟩;rw[L4 ek,bb,bb,<- e1];rfl
 . rintro ys H2 ⟨e0,e1,rfl⟩;exact⟨_,p9.of ha,by rw[eK.1];exact ae _⟩
 . rintro ys H2 pa ⟨e0,e1,rfl⟩ npa;rw[bo]at e1;subst e1;show E4 (o:=.lst<|(es.map Prod.fst).map (λp:Nat=>V.int (p:Int))) npa λH1 s1 k1=>?_;show va U ⟨a,U,⟨_,p9.of<|s1 _ _ ha⟩,o4 (n:=es.length) (λj ys H3=>j8 (λi u H=>j5 R n (kv es i) u H) ys j H1/\H3=H1) Z ⟨j8.nil,U⟩ (λj ys H3 q=>q.1.1) ?_ ?_ ?_⟩
   . rintro j ys H3 hj ⟨e,rfl⟩;obtain⟨y,ey,k',q,rv,ek,rfl,hq,ro⟩:=eK.2 j hj;show Hm (p9.of<|s1 _ _ ha) ey ?_;show⟨q,va U ⟨o9.of<|s1 _ _ hq,U,za ⟨U,za ⟨U,U,⟨[some _,some _],U,U⟩,va U ⟨e.snoc ?_,U⟩⟩⟩⟩⟩;rw[GQ ek];exact j5.same s1.t ro
   . rintro ys H3 ⟨e,rfl⟩;exact⟨_,p9.of<|s1 _ _ ha,by rw[eK.1];exact ae _⟩
   . rintro ys H3 z ⟨e,rfl⟩ nz;have s2:=c7 (o:=.lst ys) nz;show⟨z,ys,U,.inl ⟨p9.of b9,λz2 n2=>?_⟩⟩;have s3:=c7 (o:=.tup ys) n2;have Jc:=s2.trans s3;have hR:B5 R es.length n (kv es) (.ref z2) (upd (upd H3 z<|.lst ys) z2<|.tup ys):=⟨z2,ys,U,b9,e.mono λ_ _ _ q=>j5.same Jc.t q⟩;revert Jc hR;generalize upd (upd H3 z<|.lst ys) z2 (.tup ys)=H4;intro Jc hR;have q4:=s1.trans Jc;show⟨sL,λb nb=>?_⟩;show E4 (o:=.lst []) nb λH5 s5 k5=>?_;have hb0:∀{c o},H2 c=some o->c≠b:=λ{c o} e z=>by rw[z]at e;rw[q4 _ _ e]at nb;cases nb
     have q5:=q4.trans s5;have pk:=λi (hi:i < es.length)=>hX _<|aG hi;have vE:∀i,i < es.length->XB R.B n u u (kv es i):=λi hi=>by rw[GQ<|ah hi];exact(pk i hi).2
     have mX:∀p∈es.map Prod.fst,p < n:=λp hp=>by
      obtain⟨k',iM,rfl⟩:=aw.mp hp;exact(hX k' iM).1
     have fX:(es.map Prod.fst).length=es.length:=ag ..;show va U (zf ⟨U,U,o9.of<|q5 _ _ hm,U,tp,U,⟨_,o9.of<|q5 _ _ fw⟩,FB (K:=K) (a:=tp) (xs:=tabs) (λi σ G=>∃v6,σ=[some kd,sr mp,sr a,sr pa,sr z2,sr b,v6]/\h9 H4 G/\∃ts,G b=some (.lst ts)/\j8 (λa u H=>B5 R es.length es.length (Hd n es tb a) u H) ts i G) (va U ⟨s5,[],k5,j8.nil⟩) (λi σ G _ ⟨_,_,q,_⟩=>o9.of<|q _ _<|q4 _ _ fw) ?_ ?_⟩)
     . rintro i y σ G hi ⟨v6,rfl,q,ts,pF,eB⟩;obtain⟨il,O⟩:=eT.at hi;have q0:=q4.trans q;show va U ⟨.inl ⟨U,_,p9.of pF⟩,vc U U U ⟨R,zB kd (.ref z2) y es.length n (kv es) (tb i) (u+μ+n) ⟨U,⟨hk.same q0,B5.same q.t hR,B5.same q0.t O,Z,Z,λi' iZ j hj=>Az (vE i' iZ) ((hB.tb i il).col hj) Z Z,hS⟩,?_⟩⟩⟩;rintro bv G1 t1 ⟨bp,brs,rfl,nL,eR⟩;show⟨bp,U,⟨_,o9.of nL⟩,o4 (n:=es.length) (λj ys G2=>h9 G1 G2/\j8 (λi' u H=>j5 R es.length (Hd n es tb i i') u H) ys j G2) Z ⟨h9.refl _,j8.nil⟩ (λj ys H2 q=>q.2.1) ?_ ?_ ?_⟩
       . rintro j ys G2 hj ⟨q2,e⟩;obtain⟨y2,ey,py⟩:=eR.2 j hj;show Dy (o9.of<|q2 _ _ nL) ey ?_;show⟨⟨[some _],U,U⟩,vb U U ⟨R,zt _ pa n _ (es.map Prod.fst) ⟨U,⟨j5.same q2.t py,(Jc.trans<|q.trans<|t1.trans q2) _ _ k1,mX,by rw[fX];omega⟩,λv G3 t3 f3=>?_⟩⟩⟩;rw[fX]at f3;exact⟨q2.trans t3,(e.mono λ_ _ _ z=>j5.same t3.t z).snoc f3⟩
       . rintro ys G2 ⟨q2,e⟩;exact⟨_,o9.of<|q2 _ _ nL,by rw[eR.1];exact ae _⟩
       . rintro ys G2 z3 ⟨q2,e⟩ nz3;have t3:=c7 (o:=.lst ys) nz3;show⟨z3,ys,U,.inl ⟨p9.of b9,λz4 n4=>?_⟩⟩;have t4:=c7 (o:=.tup ys) n4;have qL:=q2.trans<|t3.trans t4;have tS:B5 R es.length es.length (Hd n es tb i) (.ref z4) (upd (upd G2 z3<|.lst ys) z4<|.tup ys):=⟨z4,ys,U,b9,e.mono λ_ _ _ z=>j5.same (t3.trans t4).t z⟩;revert qL tS;generalize upd (upd G2 z3<|.lst ys) z4 (.tup ys)=G4;intro qL tS;have jE:=t1.trans qL;have mU:=jE _ _ pF;have tl:=eB.1;show⟨b,ts,V.ref z4,U,U,mU,Z,?_⟩;have sx:l6 b G4 (upd G4 b<|.lst<|ts++[V.ref z4]):=l6.upd;have sl:=B6 (o:=.lst<|ts++[V.ref z4]) mU;show va U ⟨λc o e=>sx c o (l8 e nb)<|(q.trans jE) c o e,_,b9,j8.snoc (eB.mono λ_ _ _ z=>B5.same sl<|B5.same jE.t z)<|B5.same sl tS⟩
     . rintro σ G ⟨v6,rfl,q,ts,pF,eB⟩;rw[eT.1]at eB;have q0:=q4.trans q;show va U (zf ⟨U,U,o9.of<|q0 _ _ hm,U,va U<|zf ⟨U,U,o9.of<|q0 _ _ hm,U,va U ⟨R,zt sv pa n st (es.map Prod.fst) ⟨U,⟨j5.same q0.t h1,(Jc.trans q) _ _ k1,mX,by rw[fX];omega⟩,λv1 G1 t1 r1=>?_⟩⟩⟩⟩);rw[fX]at r1;show va U ⟨b,ts,U,.inl ⟨p9.of<|t1 _ _ pF,λz6 n6=>?_⟩⟩;show E4 (o:=.tup ts) n6 λG2 t2 k6=>?_;have iz:=t1.trans t2;have q2:=q0.trans iz;show vc U U U<|zf ⟨U,U,o9.of<|q2 _ _ hm,U,R,zB kd (.ref z2) ev es.length n (kv es) en (u+μ+n) ⟨U,⟨hk.same q2,B5.same (q.trans iz).t hR,j5.same q2.t h3,Z,λi hi=>Az (vE i hi) hB.en Z Z,hS⟩,λv3 G3 t3 r3=>?_⟩⟩;show⟨sL,λz7 n7=>?_⟩;have t4:=c7 (o:=.tup [vT l,v1,V.ref z6,v3]) n7;have uY:=t2.trans<|t3.trans t4;show k _ _ (q2.trans<|t3.trans t4) ⟨z7,v1,.ref z6,v3,U,b9,j5.same uY.t r1,⟨z6,ts,U,(t3.trans t4) _ _ k6,eB.mono λ_ _ _ z=>B5.same (t1.trans uY).t z⟩,j5.same t4.t r3⟩
variable(w K mg base)in def Jm(t:ON):Sp:=λvs H Q _=>∃(R:c9 Pr w K mg base),∃kv mv l,∃(n μ:Nat),∃st tb en,vs=[kv,mv]/\(N9 R.C R.fs H kv/\j9 R l n st tb en mv H/\MB R.B n l.length μ st tb en/\N4 l/\n<=60/\N5 R.S (3 * zF n μ)/\E6 t H)/\
 ∀b H',E5 (DT t) H H'->E6 t H'->H b=none->L6 R n (h8 R.S n st<|w5 l tb) (S4 R.F n (h8 R.S n st<|w5 l tb)<|gB l) b H'->Q (.ref b) H'
def AG(fz:WI mg base t):w8 Pr w K mg base F6 52 t.free_ahead t.t0k JB (Jm w K mg base t):=by
 show T.t0m.F.okC Js T.tb_free_ahead T.s0o (by rintro _ _ _ _ ⟨_,_,_,_,_,_,_,_,_,rfl,_⟩;rfl) λA outer s H vs Q E hr h=>?_;obtain⟨R,kv,mv,l,n,μ,st,tb,en,rfl,⟨hk,hM,hB,L,hn,hS,hT⟩,k⟩:=h;obtain⟨mp,sv,tv,ev,rfl,hm,h1,h2,h3⟩:=id hM;show⟨_,(c6<|h7<|Ij (kf:=47) (pn:="last") (fr:=JB) (js:=[0,1]) (λbase=>DD (w:=w) (base:=base) T) hr.m U T.t0i.m T.t0i.F.kp T.t0i.b (Fb (O 0)<|Fb (D5 j7 (O 1) c4)<|Rq fz.free_ahead U U U (show ∀y:Str × NameKind,y∈_->y.2=.free->(a8 L7).names.lookup y.1=some .cell\/(a8 L7).names.lookup y.1=some .free from by decide +kernel)) (by exact⟨λ_=>rfl,⟨U,U,U,dK,U,dK,dK,dK⟩,(show ∀y:Str,y∈(JB)->(a8 L7).names.lookup y=some .cell\/(a8 L7).names.lookup y=some .free from by decide +kernel),dK,U⟩) (λbase _ _ _ _ _ _ _ hr=>(C1 (S7 (w:=w) (base:=base) T) hr.m U T.q0n.m T.q0n.F.kp T.q0n.b .nil C3<|S3 (O 1) (O 2)<|O 0))<|λ_ _ _ _ _=>rfl),?_⟩;norm_cast;show⟨[kv,.ref mp],U,vb U U<|zf ⟨U,U,o9.of hm,U,hT _ Ur,λf c H1 sP fP hC nf eH hF=>?_⟩⟩;obtain⟨iy,sD⟩:=hT.step T Ur sP fP;have gT:y9 H H1:=sD.tup hT.not;have jA:N9 R.C R.fs H1 kv:=N9.sameD sD hT.not hk;have fU:=j9.same gT hM;have zl:∀i,∀u∈(w6 R.F n (h8 R.S n st<|w5 l tb) (gB l) i).last,u.length<=n/\∀c∈u,c∈l:=λi u hu=>Qx M9 hu;show⟨R.re eH,kv,sv,f,n,(n+1) * (μ+n),(n+1) * (μ+n),h8 R.S n st<|w5 l tb,gB l,λws=>(∀u∈ws,u.length<=n/\∀c∈u,c∈l)/\ws.length<=1000,λ_=>False,λG=>O0 G c qFA/\N9 R.C R.fs G kv/\j9 R l n st tb en (.ref mp) G/\E6 t G,U,⟨jA,j5.same gT h1,hn,?_,⟨⟨hC,jA,fU,iy⟩,λG G' s' j=>⟨O0.same0 s' j.1,j.2.1.same s',j9.same s'.t j.2.2.1,j.2.2.2.same s'⟩,λa xs G G' _ ha s' j=>⟨O0.sameX s' ha j.1,?_,j9.same (s'.lt ha) j.2.2.1,j.2.2.2.sameX s' ha⟩⟩,λG j b d=>d.elim,LU,λi ne=>?_,λi u hu=>(hB.row u (zl i u hu).2).mono (M5 (zl i u hu).1)<|M5 (zl i u hu).1,hS.le<|aD _ WU⟩,λb H2 s2 j2 nb hP=>?_⟩
 . show IZ.imp hF λv G Q' h=>?_;obtain⟨a,ws,e,⟨hL,⟨o1,o2⟩,j1,j2,j3,j4⟩,k'⟩:=h;cases e;show⟨j1,vc U U U<|va U ⟨R.re eH,kv,.ref mp,a,l,n,μ,st,tb,en,ws,U,⟨j2,j3,hB,L,hn,hL,o1,o2,hS.le<|aD _ Zl⟩,λb G' s' nb hP=>?_⟩⟩;exact k' b G' (.of s') ⟨O0.same0 s' j1,j2.same s',j9.same s'.t j3,j4.same s'⟩ nb hP
 . obtain⟨kp,dx,rfl,gE⟩:=j.2.1;exact⟨kp,dx,U,s' _ _ (λz=>by rw[z,ha]at gE;cases gE) gE⟩
 . show⟨λu hu=>zl i u<|R8 hu,?_⟩;have e:=Ay (F:=R.F) (l:=n) (ρ:=h8 R.S n st<|w5 l tb) (ws:=(w6 R.F n (h8 R.S n st<|w5 l tb) (gB l) i).last) (ks:=(w6 R.F n (h8 R.S n st<|w5 l tb) (gB l) i).ks);have k':=(M4 (F:=R.F) (l:=n) (ρ:=h8 R.S n st<|w5 l tb) (g:=gB l)<|i+1).len;have k':(AM R.F n (h8 R.S n st<|w5 l tb) (w6 R.F n (h8 R.S n st<|w5 l tb) (gB l) i).ks (w6 R.F n (h8 R.S n st<|w5 l tb) (gB l) i).last).length<=n:=k';show(Q6 R.F n (h8 R.S n st<|w5 l tb) (w6 R.F n (h8 R.S n st<|w5 l tb) (gB l) i).ks (w6 R.F n (h8 R.S n st<|w5 l tb) (gB l) i).last).length<=1000;omega
 . show k b H2 (sD.trans λc o _ e=>s2 c o (λz=>z) e) j2.2.2.2 ?_ hP;cases e:H b with
   | none=>rfl
   | some o=>
    by_cases d:DT t b
    . obtain⟨o',h',_⟩:=iy.not b d;rw[h']at nb;cases nb
    . rw[sD b o d e]at nb;cases nb
def Rk{α β:Type}{f:α->β}{ws:List α}{d:α}:Cp (λi=>f<|ws.getD i d) ws.length=ws.map f:=by unfold Cp;apply List.ext_getElem (by simp);intro i h1 h2;simp at h1;rw[List.getElem_map,List.getElem_map,List.getElem_range];congr 1;rw[aU,ah h1];rfl
def F4{α:Type}{ws:List α}{d:α}{i:Nat}(h:i < ws.length):ws.getD i d∈ws:=by rw[aU,ah h];exact aG h
variable(w K mg base)in def Pk(t:ON):Sp:=λvs H Q _=>∃(R:c9 Pr w K mg base),∃kv mv l,∃(n μ:Nat),∃st tb en,vs=[kv,mv]/\(N9 R.C R.fs H kv/\j9 R l n st tb en mv H/\MB R.B n l.length μ st tb en/\N4 l/\n<=60/\N5 R.S (3 * zC n μ)/\E6 t H)/\
 ∀es v H',K9 R.F n ((S4 R.F n (h8 R.S n st<|w5 l tb)<|gB l).map<|h8 R.S n st<|w5 l tb) es->E5 (DT t) H H'->E6 t H'->j9 R l es.length (Vt es st) (Hd n es tb) (Kl n es en) v H'->Q v H'
def PQ(fz:WI mg base t):w8 Pr w K mg base F6 54 t.z0i t.w0w JB (Pk w K mg base t):=by
 show T.x0d.F.okA HZ λ_ _ _ _ H _ _ _ hr h=>?_;obtain⟨R,kv,mv,l,n,μ,st,tb,en,rfl,⟨hk,hM,hB,L,hn,hS,hT⟩,k⟩:=h;show⟨_,(c5 (P5 (i₀:=2) (xs:=Vx) HZ.nd U (Or.inl U) U (oC [x6,O9,O8]<|a8 CY) (C5<|D2 (AG T fz) hr.m T.t0m<|F1 (O 0)<|O 1) (show PG _ _ (Ep K 2 _)from(I9 U<|l5 (r9 (i:=3) (by show List.Nodup ([x6,O9,O8,GY,C8]:w1f);decide +kernel) U<|Or.inl U)<|l5 (r9 (i:=4) (by show List.Nodup ([x6,O9,O8,GY,C8]:w1f);decide +kernel) U<|Or.inl U) D7))<|O 4)<|c6<|h7<|D2 (GL T) hr.m T.v0c<|S3 (O 0) (O 1)<|D2 (Iz T fz) hr.m T.w0o<|F1 (O 0)<|O 2),?_⟩;norm_cast;show vb U U ⟨R,zB kv mv l n μ st tb en ⟨U,⟨hk,hM,hB,L,hn,hS.le<|aD _ WV,hT⟩,λb H1 gA fP nb hP=>?_⟩⟩;have hw:∀u∈S4 R.F n (h8 R.S n st<|w5 l tb) (gB l),u.length<=n/\∀c∈u,c∈l:=λu hu=>GA M9 _ u hu;have kr:(S4 R.F n (h8 R.S n st<|w5 l tb)<|gB l).length<=n:=by unfold S4;rw[Bv];exact(M4 _).len
 have hx:∀x∈(S4 R.F n (h8 R.S n st<|w5 l tb)<|gB l).map (h8 R.S n st<|w5 l tb),XB R.B n ((n+1) * (μ+n)) ((n+1) * (μ+n)) x:=λx hx=>by
  obtain⟨u,hu,rfl⟩:=aw.mp hx;exact(hB.row u (hw u hu).2).mono (M5 (hw u hu).1) (M5 (hw u hu).1)
 revert hP hw kr hx k;generalize S4 R.F n (h8 R.S n st<|w5 l tb) (gB l)=ws;generalize h8 R.S n st (w5 l tb)=ρ;intro k hP hw kr hx;obtain⟨us,hb,eP⟩:=hP;have gT:y9 H H1:=gA.tup hT.not;show⟨b,U,⟨_,p9.of hb⟩,o4 (n:=ws.length) (λj ys G=>j8 (λi u H=>j5 R n (ρ<|ws.getD i []) u H) ys j H1/\G=H1) Z ⟨j8.nil,U⟩ (λj ys H3 q=>q.1.1) ?_ ?_ ?_⟩
 . rintro j ys G hj ⟨e,rfl⟩;obtain⟨y,ey,wd,q,rv,ew,rfl,hq,ro⟩:=eP.2 j hj;show Hm (p9.of hb) ey ?_;show⟨q,va U ⟨o9.of hq,U,za ⟨U,za ⟨U,U,⟨[some _,some _],U,U⟩,va U ⟨e.snoc ?_,U⟩⟩⟩⟩⟩;rw[aU,ew];exact ro
 . rintro ys G ⟨e,rfl⟩;exact⟨_,p9.of hb,by rw[eP.1];exact ae _⟩
 . rintro ys G z ⟨e,rfl⟩ nz;show E4 (o:=.lst ys) nz λH2 s2 k2=>?_;have fH:=fP.same s2;have fV:E5 (DT t) H H2:=gA.trans<|.of s2;have fS:y9 H H2:=fV.tup hT.not;have iK:N9 R.C R.fs H2 kv:=N9.sameD fV hT.not hk;have hR:DF R n ws.length (λi=>ρ<|ws.getD i []) (.ref z) H2:=⟨z,ys,U,k2,e.mono λ_ _ _ q=>j5.same s2.t q⟩;have lH:∀i,i<=ws.length->∀x∈Cp (λi=>ρ<|ws.getD i []) i,XB R.B n ((n+1) * (μ+n)) ((n+1) * (μ+n)) x:=λi hi x iI=>by
    obtain⟨j,hj,rfl⟩:=Hw iI;exact hx _ (List.mem_map_of_mem<|F4 Z)
   have zb:=WU (n:=n) (μ:=μ);have zc:=WV (n:=n) (μ:=μ);show vc U U U<|va U ⟨R,zu kv (.ref z) n (zC n μ) ws.length (λi=>ρ<|ws.getD i []) ⟨U,⟨iK,hR,Z,λi hi _=>Wx (rs:=[]) (lH i Z) (hx _<|List.mem_map_of_mem<|F4 hi) Z,λi k' hi ek=>Ww (lH _<|ae _) Z (aL ek) d0s,hS,fH _ QY⟩,λes a H3 sP gn hK pm pw=>?_⟩⟩;obtain⟨iy,gh⟩:=fH.step T QY sP gn;have ly:=fV.trans gh;have ip:y9 H H3:=ly.tup hT.not;rw[Rk]at pm;have EC:K9 R.F n (ws.map ρ) es:=⟨by rw[ag];exact pm,pw⟩;have el:=EC.le;show⟨R,zG kv mv a l n μ (zU n μ) st tb en es ⟨U,⟨N9.sameD ly hT.not hk,j9.same ip hM,hB,hK,EC.xb hx,hn,Z,by have:=L.h3;omega,hS.le<|aD _ d0r⟩,λv H4 s4 hN=>?_⟩⟩;exact k es v H4 EC (ly.trans<|.of s4) (iy.same s4) hN
variable(w K mg base)in def Ji(t:ON):Sp:=λvs H Q _=>∃(R:c9 Pr w K mg base),∃kv mv l,∃(n μ:Nat),∃st tb en,vs=[kv,mv]/\(N9 R.C R.fs H kv/\j9 R l n st tb en mv H/\MB R.B n l.length μ st tb en/\N4 l/\n<=60/\N5 R.S (3 * zC n μ)/\E6 t H)/\
 ∀es v H',K9 R.F n ((S4 R.F n (h8 R.S n en<|w5 l λa i j=>tb a j i)<|gB l).map<|h8 R.S n en<|w5 l λa i j=>tb a j i) es->E5 (DT t) H H'->E6 t H'->j9 R l es.length (Kl n es st) (λa i j=>Hd n es (λa i j=>tb a j i) a j i) (Vt es en) v H'->Q v H'
def DC(fz:WI mg base t):w8 Pr w K mg base F6 56 t.w0b t.s0y JB (Ji w K mg base t):=by show T.t0j.F.okA Jp λ_ _ _ _ _ _ _ _ hr h=>?_;obtain⟨R,kv,mv,l,n,μ,st,tb,en,rfl,⟨hk,hM,hB,L,hn,hS,hT⟩,k⟩:=h;have l3:=L.h3;show⟨_,(c6<|h7<|D2 (GM T) hr.m T.w0f<|B3<|D2 (PQ T fz) hr.m T.x0d<|F1 (O 0)<|D2 (GM T) hr.m T.w0f<|B3<|O 1),?_⟩;norm_cast;show vb U U ⟨R,zu mv l n st tb en ⟨U,⟨hM,Z,Z⟩,λv1 H1 s1 fU=>?_⟩⟩;show⟨R,zB kv v1 l n μ en _ st ⟨U,⟨hk.same s1,fU,hB.mirror,L,hn,hS,hT.same s1⟩,λes v2 H2 EC fV fH nR=>?_⟩⟩;have:=EC.le;show⟨R,zu v2 l es.length _ _ _ ⟨U,⟨nR,Z,Z⟩,λv3 H3 s3 jC=>?_⟩⟩;exact k es v3 H3 EC ((E5.of s1).trans<|fV.trans<|.of s3) (fH.same s3) jC
noncomputable def OO{R:c9 Pr w K mg base}(l:w1e)(m:Nat)(st:QQ R.S)(tb:FF R.S):List w1e:=S4 R.F m (h8 R.S m st<|w5 l tb) (gB l)
variable(w K mg base)in def UC(t:ON):Sp:=λvs H Q _=>∃(R:c9 Pr w K mg base),∃kv mv l,∃(n μ:Nat),∃st tb en,vs=[kv,mv]/\(N9 R.C R.fs H kv/\j9 R l n st tb en mv H/\MB R.B n l.length μ st tb en/\N4 l/\n<=60/\N5 R.S (3 * zH n μ)/\E6 t H)/\
 ∀es b H',K9 R.F n ((S4 R.F n (h8 R.S n en<|w5 l λa i j=>tb a j i)<|gB l).map<|h8 R.S n en<|w5 l λa i j=>tb a j i) es->E5 (DT t) H H'->E6 t H'->H b=none->H' b=some (.lst<|(OO (R:=R) l es.length (Kl n es st)<|λa i j=>Hd n es (λa i j=>tb a j i) a j i).map vT)->Q (.ref b) H'
def YZ{R:c9 Pr w K mg base}{m:Nat}{ρ:w1e->Nat->R.S.W}{g:List w1e->List w1e}:(S4 R.F m ρ g).length<=m:=by unfold S4;rw[Bv];exact(M4 _).len
def none_of{H H':Hp}{b:Addr}(s:E5 (DT t) H H')(h:E6 t H')(n:H' b=none):H b=none:=by
 cases e:H b with
 | none=>rfl
 | some o=>
  by_cases d:DT t b
  . obtain⟨o',h',_⟩:=h.not b d;rw[h']at n;cases n
  . rw[s b o d e]at n;cases n
def Vq(fz:WI mg base t):w8 Pr w K mg base F6 58 t.a1m t.z0w JB (UC w K mg base t):=by
 show T.z0k.F.okA UN λ_ _ _ _ _ _ _ _ hr h=>?_;obtain⟨R,kv,mv,l,n,μ,st,tb,en,rfl,⟨hk,hM,hB,L,hn,hS,hT⟩,k⟩:=h;show⟨_,(c5 (F3<|D2 (AF T) hr.m T.t0b<|B3<|O 0)<|c6<|h7<|x8 (xs:=Vx) U (oC JB<|a8 Hv) (C5<|D2 (AG T fz) hr.m T.t0m<|F1 (O 0)<|D2 (DC T fz) hr.m T.t0j<|F1 (O 0)<|O 1) (show PG _ _ (Ep K 2 _)from(I9 U<|l5 (r9 (i:=2) (by show List.Nodup ([x6,O9,GY,C8]:w1f);decide +kernel) U<|Or.inl U)<|l5 (r9 (i:=3) (by show List.Nodup ([x6,O9,GY,C8]:w1f);decide +kernel) U<|Or.inl U) D7))<|O 2),?_⟩;norm_cast;show va U ⟨R,kv,U,hk,?_⟩;show vc U U U ⟨R,zB kv mv l n μ st tb en ⟨U,⟨hk,hM,hB,L,hn,hS.le<|aD _<|bW ..,hT⟩,λes v1 H1 EC gA fP fU=>?_⟩⟩;have el:=EC.le;have lR:=(Ls hB.mirror EC).mirror;show⟨R,zB kv v1 l es.length (zN n μ) _ _ _ ⟨U,⟨N9.sameD gA hT.not hk,fU,lR,L,Z,hS.le<|aD _<|af (QR el<|ae _)<|Nat.le_add_left ..,fP⟩,λb H2 fV fH nb hP=>?_⟩⟩;have ly:=gA.trans fV;have k':=k es;have fl:=YZ (R:=R) (m:=es.length) (ρ:=h8 R.S es.length (Kl n es st)<|w5 l<|λa i j=>Hd n es (λa i j=>tb a j i) a j i) (g:=gB l);unfold OO at k';revert hP k' fl;generalize S4 R.F es.length (h8 R.S es.length (Kl n es st)<|w5 l<|λa i j=>Hd n es (λa i j=>tb a j i) a j i) (gB l)=ws;generalize h8 R.S es.length (Kl n es st) (w5 l<|λa i j=>Hd n es (λa i j=>tb a j i) a j i)=ρ;intro hP k' fl;obtain⟨us,hb,eP⟩:=hP;show⟨b,U,⟨_,p9.of hb⟩,o4 (n:=ws.length) (λj ys G=>ys.length=j/\ys=(ws.take j).map vT/\G=H2) Z ⟨U,U,U⟩ (λj ys H3 q=>q.1) ?_ ?_ ?_⟩
 . rintro j ys G hj ⟨e0,e1,rfl⟩;obtain⟨y,ey,wd,q,rv,ew,rfl,hq,ro⟩:=eP.2 j hj;show Hm (p9.of hb) ey ?_;show⟨q,va U ⟨o9.of hq,U,za ⟨U,za ⟨U,U,⟨[some _,some _],U,U⟩,va U ⟨by rw[aq,e0];rfl,?_,U⟩⟩⟩⟩⟩;rw[L4 ew,bb,<- e1];rfl
 . rintro ys G ⟨e0,e1,rfl⟩;exact⟨_,p9.of hb,by rw[eP.1];exact ae _⟩
 . rintro ys G z ⟨e0,e1,rfl⟩ nz;rw[bo]at e1;subst e1;have s3:=c7 (o:=.lst<|ws.map vT) nz;exact k' z _ EC (ly.trans<|.of s3) (fH.same s3) (none_of ly fH nz) b9
def j8.app{Pd:Nat->V->Hp->Prop}{xs ys:List V}{n k:Nat}{H:Hp}(h1:j8 Pd xs n H)(h2:j8 (λj=>Pd<|n+j) ys k H):j8 Pd (xs++ys) (n+k) H:=
 ⟨by rw[aq,h1.1,h2.1],λj hj=>by
  by_cases hn:j < n
  . obtain⟨u,e,q⟩:=h1.2 j hn;exact⟨u,by rw[aY<|by rw[h1.1];exact hn];exact e,q⟩
  . obtain⟨u,e,q⟩:=h2.2 (j - n) Z;rw[show n+(j - n)=j by omega]at q;exact⟨u,by rw[aZ (by rw[h1.1];omega),h1.1];exact e,q⟩⟩
def Oz{xs:List V}{k:Nat}(h:k<=xs.length):BL xs (some (k:Int)) none=xs.drop k:=by unfold BL;rw[HT.Nd,HT.Rj,Nat.min_eq_left h];exact dJ (by rw[de];exact ae _)
variable(w K mg base)in def Pf:Sp:=λvs H Q _=>∃(R:c9 Pr w K mg base),∃kv,∃(z:Int),∃(n:Nat),vs=[kv,.int z]/\(N9 R.C R.fs H kv/\n<=1000/\z=n)/\
 ∀v H',h9 H H'->j5 R n (λ_=>R.S.zero) v H'->Q v H'
def DZ:w8 Pr w K mg base F6 41 t.z0v t.x0h Vy (Pf w K mg base):=by
 show T.x0e.F.okA Pp λ_ _ _ _ H _ _ _ hr h=>?_;obtain⟨R,kv,z,n,rfl,⟨⟨kp,dx,rfl,hk⟩,hn,rfl⟩,k⟩:=h;show⟨_,(c6<|h7<|i3 c8 bR T.z_tuple boot_tuple<|B3<|x8 (xs:=[AN]) U (oC Vy<|a8 CW) (C6 U T.z_range<|B3<|O 1) (gL 2 Tf)<|W0 (O 0) R.cl R.t_nought R.G_nought hr.m R.b_nought .nil C3),?_⟩;norm_cast;show vb U U ⟨Z,Z,o4 (n:=n) (λj ys H2=>h9 H H2/\j8 (λ_ u H=>R.is H u R.S.zero) ys j H2) hn ⟨h9.refl _,j8.nil⟩ (λj ys H2 q=>q.2.1) ?_ ?_ ?_⟩
 . rintro j ys H2 hj ⟨q,e⟩;show IG (by omega) ?_;show⟨⟨[some _],U,U⟩,va U<|zd ⟨U,q _ _ hk,R.l_nought,va U ⟨za ⟨U,q _ _ hk⟩,λv H3 s3 f3=>?_⟩⟩⟩;exact⟨q.trans s3,(e.mono λ_ _ _ z=>R.same s3.t z).snoc f3⟩
 . rintro ys H2 ⟨q,e⟩;show(n:Int).toNat<=n;omega
 . rintro ys H2 l ⟨q,e⟩ nl;have fF:=c7 (o:=.lst ys) nl;show⟨l,ys,U,.inl ⟨p9.of b9,λl2 n2=>?_⟩⟩;have s2:=c7 (o:=.tup ys) n2;exact k _ _ (q.trans<|fF.trans s2) ⟨l2,ys,U,b9,e.mono λ_ _ _ z=>R.same (fF.trans s2).t z⟩
def P0(S:SR)(p:Nat):QQ S:=λi=>if i=p then S.one else S.zero
variable(w K mg base)in def Xh:Sp:=λvs H Q _=>∃(R:c9 Pr w K mg base),∃kv,∃(z zp:Int),∃(n p:Nat),vs=[kv,.int z,.int zp]/\(N9 R.C R.fs H kv/\n<=1000/\z=n/\zp=p)/\
 ∀v H',h9 H H'->j5 R n (P0 R.S p) v H'->Q v H'
def Rr:w8 Pr w K mg base F6 41 t.a1s t.a1g Tf (Xh w K mg base):=by
 show T.a1a.F.okA Xr λ_ _ _ _ H _ _ _ hr h=>?_;obtain⟨R,kv,z,zp,n,p,rfl,⟨⟨kp,dx,rfl,hk⟩,hn,rfl,rfl⟩,k⟩:=h;show⟨_,(c6<|h7<|i3 c8 bR T.z_tuple boot_tuple<|B3<|x8 (xs:=[AA]) U (oC Tf<|a8 Lg) (C6 U T.z_range<|B3<|O 1) (r9 (i:=3) (by show List.Nodup ([x6,"size",AN,AA]:w1f);decide +kernel) U<|Or.inl U)<|Nq (o6 K8 (O 3) (O 2)<|o7 _) (W0 (O 0) R.cl R.t_one R.G_one hr.m R.b_one .nil C3)<|W0 (O 0) R.cl R.t_nought R.G_nought hr.m R.b_nought .nil C3),?_⟩;norm_cast;show vb U U ⟨Z,Z,o4 (n:=n) (λj ys H2=>h9 H H2/\j8 (λi u H=>R.is H u<|P0 R.S p i) ys j H2) hn ⟨h9.refl _,j8.nil⟩ (λj ys H2 q=>q.2.1) ?_ ?_ ?_⟩
 . rintro j ys H2 hj ⟨q,e⟩;show IG (by omega) ?_;show⟨⟨[some _],U,U⟩,vb U U ⟨U,va U ?_⟩⟩;show Dx (λe0=>?_) (λe0=>?_)
   . have e1:P0 R.S p j=R.S.one:=if_pos Z;show va U<|zd ⟨U,q _ _ hk,R.l_one,va U ⟨za ⟨U,q _ _ hk⟩,λv H3 s3 f3=>?_⟩⟩;exact⟨q.trans s3,(e.mono λ_ _ _ z=>R.same s3.t z).snoc<|by rw[e1];exact f3⟩
   . have e1:P0 R.S p j=R.S.zero:=if_neg Z;show va U<|zd ⟨U,q _ _ hk,R.l_nought,va U ⟨za ⟨U,q _ _ hk⟩,λv H3 s3 f3=>?_⟩⟩;exact⟨q.trans s3,(e.mono λ_ _ _ z=>R.same s3.t z).snoc<|by rw[e1];exact f3⟩
 . rintro ys H2 ⟨q,e⟩;show(n:Int).toNat<=n;omega
 . rintro ys H2 l ⟨q,e⟩ nl;have fF:=c7 (o:=.lst ys) nl;show⟨l,ys,U,.inl ⟨p9.of b9,λl2 n2=>?_⟩⟩;have s2:=c7 (o:=.tup ys) n2;exact k _ _ (q.trans<|fF.trans s2) ⟨l2,ys,U,b9,e.mono λ_ _ _ z=>R.same (fF.trans s2).t z⟩
def OE(S:SR)(n:Nat)(x y:QQ S):QQ S:=λi=>if i < n then x i else y (i - n)
def GC{S:SR}{n i:Nat}{x y:QQ S}(h:i < n):OE S n x y i=x i:=if_pos h
def QG{S:SR}{n i:Nat}{x y:QQ S}:OE S n x y (n+i)=y i:=by unfold OE;rw[if_neg Z,dM]
def Ow{R:c9 Pr w K mg base}{n l:Nat}{x y:QQ R.S}{xs ys:List V}{H:Hp}(a:j8 (λj u H=>R.is H u<|x j) xs n H)(b:j8 (λj u H=>R.is H u<|y j) ys l H):j8 (λj u H=>R.is H u<|OE R.S n x y j) (xs++ys) (n+l) H:=
 j8.app (a.mono λj _ hj q=>by rw[GC hj];exact q) (b.mono λj _ _ q=>by rw[QG];exact q)
def NL(S:SR)(W:Nat)(rs:F0 S):F0 S:=λk=>OE S W (rs k) (P0 S k)
def b0o{S:SR}{W n k:Nat}{rs:F0 S}(h:k < n):Rl S W n rs (λ_=>S.zero) (NL S W rs k):=λj hj=>by
 unfold NL;rw[GC hj,CN];have:(λq=>OE S W (rs k) (P0 S k)<|W+q)=λq=>if q=k then S.one else S.zero:=by
  funext q;rw[QG];rfl
 rw[this,HB h]
abbrev SqN(R:c9 Pr w K mg base)(W n:Nat)(rs:F0 R.S):V->Hp->Prop:=BF K (λi u H=>j5 R W (rs i) u H) n
def GW.sq{R:c9 Pr w K mg base}{W n:Nat}{rs:F0 R.S}{v:V}{H:Hp}(h:GW R W n rs v H):SqN R W n rs v H:=by
 rcases h with ⟨a,us,rfl,ha,e⟩ | h
 . exact BF.list ha e
 . exact h.seq
variable(w K mg base)in def SA:Sp:=λvs H Q _=>∃(R:c9 Pr w K mg base),∃kv rv,∃(W n:Nat),∃rs,vs=[kv,rv]/\(N9 R.C R.fs H kv/\SqN R W n rs rv H/\n<=400/\W<=400)/\
 ∀v H',h9 H H'->DF R (W+n) n (NL R.S W rs) v H'->Q v H'
def SX:w8 Pr w K mg base F6 42 t.a1e t.y0h He (SA w K mg base):=by
 show T.y0o.F.okA SK λ_ _ _ _ H _ Q _ hr h=>?_;obtain⟨R,kv,rv,W,n,rs,rfl,⟨hk,hR,hn,hW⟩,k⟩:=h;have sl:1000 < sizeLine:=by decide
 obtain⟨S1,us,o1,v1,w1,eR⟩:=hR;show⟨_,(c6<|h7<|x8 (xs:=[AN,C8]) U (oC He<|a8 EU) (XN U T.z_enumerate<|B3<|O 1) (show PG _ _ (Ep K 2 _)from(I9 U<|l5 (r9 (i:=2) (by show List.Nodup ([x6,O8,AN,C8]:w1f);decide +kernel) U<|Or.inl U)<|l5 (r9 (i:=3) (by show List.Nodup ([x6,O8,AN,C8]:w1f);decide +kernel) U<|Or.inl U) D7))<|o8 Y4 (O 3)<|C1 (Rr (w:=w) (base:=base) T) hr.m U T.a1a.m T.a1a.F.kp T.a1a.b .nil C3<|S3 (O 0) (x9 (show T3 _ (.builtin "len") (λxs H Q=>∃x n,xs=[x]/\BA K x H n/\Q (V.int (n:Nat)) H)from B4) bR T.z_len PySem.boot_len<|B3<|O 1)<|O 2),?_⟩;norm_cast;show va U ⟨S1,_,us,U,o1,v1,o4 (n:=n) (λj ys H2=>h9 H H2/\j8 (λi u H=>j5 R (W+n) (NL R.S W rs i) u H) ys j H2) Z ⟨h9.refl _,j8.nil⟩ (λj ys H2 q=>q.2.1) ?_ ?_ ?_⟩
 . rintro j ys H2 hj ⟨q,e⟩;obtain⟨u,eu,pu⟩:=eR.2 j hj;show⟨⟨us,u,(w1 _ q).1,eu⟩,λy' H' hy=>?_⟩;obtain⟨pp,x',rfl,np,rfl,f1⟩:=hy;have e1:=f1 _ (w1 _ q).1;rw[eu]at e1;cases e1;have s3:=c7 (o:=.tup [V.int (j:Nat),u]) np;have q3:=q.trans s3;have k3:upd H2 pp (.tup [V.int (j:Nat),u]) pp=some (.tup [V.int (j:Nat),u]):=b9;revert s3 q3 k3;generalize upd H2 pp (.tup [V.int (j:Nat),u])=H3;intro s3 q3 k3;have hl3:BA K rv H3 n:=by have:=(w1 _ q3).2;rw[eR.1]at this;exact this
   show⟨pp,va U ⟨o9.of k3,U,za ⟨U,za ⟨U,U,⟨[some _,some _],U,U⟩,vc U U U<|za ⟨U,hl3,va U ⟨R,zt _ _ _ n j ⟨U,⟨hk.same q3,Z,U,U⟩,λuv H4 s4 r4=>?_⟩⟩⟩⟩⟩⟩⟩;obtain⟨a,as,rfl,ha,ea⟩:=j5.same (q3.trans s4).t pu;obtain⟨b,bs,rfl,hb,eb⟩:=r4;show za ⟨as,bs,U,U,ha,hb,(by rw[ea.1,eb.1];omega),λp5 H5 s5 h5=>?_⟩;exact⟨q3.trans<|s4.trans s5,(e.mono λ_ _ _ z=>j5.same (s3.trans<|s4.trans s5).t z).snoc ⟨p5,va U ⟨h5,(Ow ea eb).mono λ_ _ _ z=>R.same s5.t z⟩⟩⟩
 . rintro ys H2 ⟨q,e⟩;exact⟨us,(w1 _ q).1,eR.1.symm⟩
 . rintro ys H2 l ⟨q,e⟩ nl;have fF:=c7 (o:=.lst ys) nl;exact k _ _ (q.trans fF) ⟨l,ys,U,b9,e.mono λ_ _ _ z=>j5.same fF.t z⟩
abbrev WL(n W:Nat):Nat:=if n=0 then 0 else W
def LR(n W:Nat):WL n W<=W:=by unfold WL;split <;>omega
noncomputable abbrev WR{S:SR}(F:M0 S)(W n:Nat)(rs:F0 S):List (Nat × (Nat->S.W)):=kpL F (WL n W) (Cp (NL S W rs) n)
variable(w K mg base)in def Pi:Sp:=λvs H Q _=>∃(R:c9 Pr w K mg base),∃kv rv,∃(W r n:Nat),∃rs,vs=[kv,rv]/\(N9 R.C R.fs H kv/\GW R W n rs rv H/\n<=400/\W<=400/\(∀i,i < n->Hs R.F (W+n) r (kpL R.F (WL n W)<|Cp (NL R.S W rs) i) (NL R.S W rs i))/\N5 R.S (3 * r))/\
 ∀a H',H a=none->h9 H H'->M7 R (W+n) (WR R.F W n rs) a H'->Q (.ref a) H'
def Iy:w8 Pr w K mg base F6 45 t.t0n t.s0j He (Pi w K mg base):=by
 show T.s0w.F.okA HX λ_ _ _ _ H _ _ _ hr h=>?_;obtain⟨R,kv,rv,W,r,n,rs,rfl,⟨hk,hR,hn,hW,hz,hS⟩,k⟩:=h;show⟨_,(c6<|h7<|D2 (Fh T) hr.m T.t0t<|S3 (O 0) (D2 (SX T) hr.m T.y0o<|F1 (O 0)<|O 1)<|D2 (GK T) hr.m T.u0v<|B3<|O 1),?_⟩;norm_cast;show vc U U U ⟨R,zt kv rv W n rs ⟨U,⟨hk,hR.sq,hn,hW⟩,λmv H1 s1 r1=>?_⟩⟩;show va U ⟨R,zm rv W n rs ⟨U,hR.same s1,?_⟩⟩;show⟨R,zw kv mv (W+n) _ r n _ ⟨U,⟨hk.same s1,r1,by have:=LR n W;exact af this Z,Z,λi hi _=>hz i hi,hS⟩,λa H2 na s2 r2=>?_⟩⟩;show k _ _ ?_ (s1.trans s2) r2;cases e:H a with
 | none=>rfl
 | some o=>rw[s1 _ _ e]at na;cases na
def Kh{S:SR}{F:M0 S}{W n:Nat}{rs:F0 S}{y:QQ S}(h:M1 S W n rs y):∀j,j < W->clr F (WR F W n rs) (OE S W y λ_=>S.zero) j=S.zero:=by
 obtain⟨c,hc⟩:=h;by_cases e:n=0
 . subst e;intro j hj;show OE S W y (λ_=>S.zero) j=S.zero;rw[GC hj,hc j hj];rfl
 . have e0:WL n W=W:=if_neg e;unfold WR;rw[e0];have KP:=U8 (F:=F) (w:=W)<|Cp (NL S W rs) n;intro j hj;rw[FG (v:=lin S c (NL S W rs) n) (λk hk=>KP.lt k hk) (λi hi=>?_) j hj,Mi]
   . show sm S (λk=>S.mul (c k)<|clr F _ (NL S W rs k) j) n=_;rw[j6 (g:=λ_=>S.zero) λk hk=>by rw[Ry _ _ (ZT hk) j hj,S.mul_zero],F2]
   . rw[GC hi,hc i hi];exact j6 λk _=>by unfold NL;rw[GC hi]
def Yj{S:SR}{F:M0 S}{W n:Nat}{rs:F0 S}:∀k∈WR F W n rs,Rl S W n rs (λ_=>S.zero) k.2:=by
 by_cases e:n=0
 . subst e;intro k hk;cases hk
 . unfold WR;rw[show WL n W=W from if_neg e];show b0w _ λr hr=>?_;obtain⟨i,hi,rfl⟩:=Hw hr;exact b0o hi
noncomputable def YT{S:SR}(F:M0 S)(W n:Nat)(rs:F0 S)(y:QQ S):QQ S:=λq=>F.neg (clr F (WR F W n rs) (OE S W y λ_=>S.zero)<|W+q)
def Va{S:SR}{F:M0 S}{W n:Nat}{rs:F0 S}{y:QQ S}(h:M1 S W n rs y):∀j,j < W->y j=lin S (YT F W n rs y) rs n j:=by
 show Rl.parts F (Rl.clr (λj hj=>?_) Yj)<|Kh h;rw[GC hj];have:(λq=>OE S W y (λ_=>S.zero)<|W+q)=λ_=>S.zero:=by
  funext q;rw[QG]
 rw[this,Oh,S.add_zero]
variable(w K mg base)in def MP:Sp:=λvs H Q _=>∃(R:c9 Pr w K mg base),∃kv a yv,∃(W r n:Nat),∃rs y,vs=[kv,.ref a,.int (n:Nat),yv]/\(N9 R.C R.fs H kv/\M7 R (W+n) (WR R.F W n rs) a H/\j5 R W y yv H/\n<=400/\W<=400/\Hs R.F (W+n) r (WR R.F W n rs) (OE R.S W y λ_=>R.S.zero)/\N5 R.S (3 * r)/\M1 R.S W n rs y)/\
 ∀lp us H',h9 H H'->H' lp=some (.lst us)->j8 (λj u H=>R.is H u<|YT R.F W n rs y j) us n H'->Q (.ref lp) H'
def Nw:w8 Pr w K mg base F6 43 t.y0w t.v0f a0v (MP w K mg base):=by
 show T.v0t.F.okA BV λ_ _ _ _ H _ _ _ hr h=>?_;obtain⟨R,kv,a,yv,W,r,n,rs,y,rfl,⟨hk,hK,hy,hn,hW,hz,hS,sp⟩,k1⟩:=h;have sl:1000 < sizeLine:=by decide
 have KP:=U8 (F:=R.F) (w:=WL n W)<|Cp (NL R.S W rs) n;have i0:=LR n W;show⟨_,(c5 (sT 4 BV.nd<|x9 B4 bR T.z_len PySem.boot_len<|B3<|O 3)<|c5 (sT 5 BV.nd<|D2 (Eb T) hr.m T.w0p<|S3 (O 0) (O 1)<|o8 Y4 (O 3)<|D2 (DZ T) hr.m T.x0e<|F1 (O 0)<|O 2)<|c5 (D3 (o6 XU (D2 (Io T) hr.m T.x0p<|S3 (O 0) (O 5)<|O 4) Ii<|o7 _) (c6<|h7 Ii) x5)<|c6<|h7<|x8 (xs:=["x"]) U (oC [x6,X6,"count",C8,FM,"rest"]<|a8 Bn) (J2<|AY Rf (O 5) (Da<|O 4) Dc) (r9 (i:=6) (by show List.Nodup ([x6,X6,"count",C8,FM,"rest","x"]:w1f);decide +kernel) U<|Or.inl U)<|V2 (O 0) R.cl R.t_minus R.G_minus hr.m R.b_minus .nil C3<|B3<|O 6),?_⟩;norm_cast;show va U<|za ⟨U,hy.len,?_⟩;show vc U U U<|vb U U ⟨R,zj kv _ n ⟨U,⟨hk,Z,U⟩,λnv H1 s1 r1=>?_⟩⟩;obtain⟨ap,as,rfl,ha,ea⟩:=j5.same s1.t hy;obtain⟨bp,bs,rfl,hb,eb⟩:=r1;show za ⟨as,bs,U,U,ha,hb,(by rw[ea.1,eb.1];omega),λp2 H2 s2 h2=>?_⟩;have Ms:=s1.trans s2;have r2:j5 R (W+n) (OE R.S W y λ_=>R.S.zero) (.ref p2) H2:=⟨p2,va U ⟨h2,(Ow ea eb).mono λ_ _ _ z=>R.same s2.t z⟩⟩;show⟨R,zw kv a _ (W+n) r _ _ ⟨U,⟨hk.same Ms,hK.same Ms,λq hq=>by have:=KP.lt q hq;omega,r2,Z,hz,hS⟩,λrv H3 s3 r3=>?_⟩⟩;have Jc:=Ms.trans s3;show vc U U U ⟨R,zt kv rv (W+n) W _ ⟨U,⟨hk.same Jc,r3,Z,Z⟩,λH4 s4=>?_⟩⟩;have US:=Jc.trans s4;rw[Ft<|Kh sp];show⟨U,va U ?_⟩
 (try show Em ?_)
 have r4:=j5.same s4.t r3;obtain⟨rp,oQ,rfl,pG,er⟩:=r4;show vc U U U ⟨rp,oQ,U,o9.of pG,pG,λp5 H5 s5 h5=>?_⟩;have ce:BL oQ (some (W:Int)) none=oQ.drop W:=Oz (by rw[er.1];omega);rw[ce]at h5;have e5:j8 (λq u H=>R.is H u<|clr R.F (WR R.F W n rs) (OE R.S W y λ_=>R.S.zero)<|W+q) (oQ.drop W) n H5:=by show⟨by rw[de,er.1];omega,λj hj=>?_⟩;obtain⟨u,eu,pu⟩:=er.2 (W+j) Z;exact⟨u,by rw[List.getElem?_drop];exact eu,R.same s5.t pu⟩
 have UR:=US.trans s5;obtain⟨kp,dx,rfl,iL⟩:=id hk;show⟨p5,U,⟨_,o9.of h5⟩,o4 (n:=n) (λj ys H2=>h9 H5 H2/\j8 (λj u H=>R.is H u<|YT R.F W n rs y j) ys j H2) Z ⟨h9.refl _,j8.nil⟩ (λj ys H2 q=>q.2.1) ?_ ?_ ?_⟩
 . rintro j ys H6 hj ⟨q,e6⟩;obtain⟨u,eu,pu⟩:=e5.2 j hj;show Dy (o9.of<|q _ _ h5) eu ?_;have q6:=(UR.trans q) _ _ iL;show⟨⟨[some _],U,U⟩,va U<|zd ⟨U,q6,R.l_minus,va U<|zd ⟨U,⟨za ⟨U,q6⟩,R.same q.t pu⟩,λv H7 s7 f7=>?_⟩⟩⟩;exact⟨q.trans s7,(e6.mono λ_ _ _ z=>R.same s7.t z).snoc f7⟩
 . rintro ys H6 ⟨q,e6⟩;exact⟨_,o9.of<|q _ _ h5,by rw[e5.1];exact ae _⟩
 . rintro ys H6 l ⟨q,e6⟩ nl;have s7:=c7 (o:=.lst ys) nl;exact k1 l ys _ (UR.trans<|q.trans s7) b9 (e6.mono λ_ _ _ z=>R.same s7.t z)
def QS{S:SR}{C:Cb S}{W p r:Nat}:XB C W r r (P0 S p):=⟨1,bD,cq,λj _=>by
 unfold P0;split
 . exact C.mono _ _ _ _ cq C.one
 . exact C.mono _ _ _ _ (aP _)<|C.zero 1 bD⟩
def Uc{S:SR}{C:Cb S}{W n r b:Nat}{x y:QQ S}(b0:0 < b)(b1:b<=2 ^ r)(h:∀j,j < W->C.cb b (2 ^ r) (x j))(g:∀j,y j=S.one\/y j=S.zero):XB C (W+n) r r (OE S W x y):=⟨b,b0,b1,λj _=>by
 unfold OE;split
 . next z=>exact h j z
 . rcases g (j - W)with e | e <;>rw[e]
   . have:=C.up 1 1 b _ b0 C.one;rw[Nat.one_mul]at this;exact C.mono _ _ _ _ b1 this
   . exact C.mono _ _ _ _ (aP _)<|C.zero b b0⟩
def Ub{S:SR}{C:Cb S}{W n r k:Nat}{rs:F0 S}(h:XB C W r r (rs k)):XB C (W+n) r r (NL S W rs k):=by obtain⟨b,b0,b1,e⟩:=h;exact Uc b0 b1 e λj=>by unfold P0;split <;>simp
def QT{S:SR}{C:Cb S}{W n r:Nat}{y:QQ S}(h:XB C W r r y):XB C (W+n) r r (OE S W y λ_=>S.zero):=by obtain⟨b,b0,b1,e⟩:=h;exact Uc b0 b1 e λj=>.inr rfl
def Qq{S:SR}{F:M0 S}{C:Cb S}{W n r i:Nat}{rs:F0 S}(h:∀i,i < n->XB C W r r (rs i))(hi:i<=n):Kb C (W+n) r (kpL F (WL n W)<|Cp (NL S W rs) i):=by show Kb.kpL (β:=r) (af (LR n W) Z) _ λx hx=>?_;obtain⟨j,hj,rfl⟩:=Hw hx;exact Ub (h j Z)
def LQ{S:SR}{F:M0 S}{W n i:Nat}{rs:F0 S}:(kpL F (WL n W)<|Cp (NL S W rs) i).length<=W:=af (U8 _).len (LR n W)
def zQ(r n:Nat):Nat:=r+(r+1) * 2 ^ n
def Ky{r n n':Nat}(h:n<=n'):zQ r n<=zQ r n':=Nat.add_le_add_left (aD _<|As h) _
def b0y{S:SR}{F:M0 S}{C:Cb S}{W n r:Nat}{rs:F0 S}(h:∀i,i < n->XB C W r r (rs i)):∀i,i < n->Hs F (W+n) (zQ r W) (kpL F (WL n W)<|Cp (NL S W rs) i) (NL S W rs i):=λi hi=>(Qq h Z).clrZ (Ub<|h i hi) LQ (ae _)
def b0x{S:SR}{F:M0 S}{C:Cb S}{W n r:Nat}{rs:F0 S}{y:QQ S}(h:∀i,i < n->XB C W r r (rs i))(g:XB C W r r y):Hs F (W+n) (zQ r W) (WR F W n rs) (OE S W y λ_=>S.zero):=(Qq h<|ae _).clrZ (QT g) LQ (ae _)
def a0d{S:SR}{F:M0 S}{C:Cb S}{W n r:Nat}{rs:F0 S}{y:QQ S}(h:∀i,i < n->XB C W r r (rs i))(g:XB C W r r y):XB C n (zQ r W) (zQ r W) (YT F W n rs y):=by obtain⟨b,b0,b1,e⟩:=(Qq (F:=F) h<|ae _).all (F:=F)<|QT g;have l1:=KG (r:=r)<|LQ (F:=F) (W:=W) (n:=n) (i:=n) (rs:=rs);show⟨b,b0,af b1 (As<|by unfold zQ;omega),λj hj=>?_⟩;show C.neg _ _ _ _ (F.add_neg _)<|C.mono _ _ _ _ (As ?_)<|e (W+j) Z;unfold zQ;omega
variable(w K mg base)in def MU:Sp:=λvs H Q _=>∃(R:c9 Pr w K mg base),∃kv l rv ov ev,∃(W r k:Nat),∃(rs:F0 R.S) (y:FF R.S) (E:QQ R.S),vs=[kv,vT l,rv,.ref ov,ev]/\(N9 R.C R.fs H kv/\GW R W k rs rv H/\(∃us,H ov=some (.lst us)/\j8 (λa u H=>B5 R k W (y a) u H) us l.length H)/\j5 R k E ev H/\(k<=400/\W<=400/\l.length<=400)/\(∀i,i < k->XB R.B W r r (rs i))/\(∀a,a < l.length->∀i,i < k->XB R.B W r r (y a i)/\M1 R.S W k rs (y a i))/\N5 R.S (3 * zQ r W))/\
 ∀v H',h9 H H'->j9 R l k (P0 R.S 0) (λa i=>YT R.F W k rs<|y a i) E v H'->Q v H'
def Nx:w8 Pr w K mg base F6 47 t.y0c t.v0b b0d (MU w K mg base):=by
 show T.w0j.F.okA Ak λ_ _ _ _ H _ Q _ hr h=>?_;obtain⟨R,kv,l,rv,ov,ev,W,r,k,rs,y,En,rfl,⟨hk,hR,⟨us,ho,eo⟩,hE,⟨k4,w4,l4⟩,zr,zy,hS⟩,kQ⟩:=h;have sl:1000 < sizeLine:=by decide
 have ul:=eo.1;show⟨_,(c5 (U7 (i:=5) Ak.nd U (Or.inr U)<|D2 (Iy T) hr.m T.s0w<|F1 (O 0)<|O 2)<|c5 (sT 6 Ak.nd<|D1 K6)<|c5 (E9 aB U (C5<|O 3) (gN 7 Ak.nd)<|c6<|F3<|W2 bq bF bH J3 (O 6)<|B3<|i3 c8 bR T.z_tuple boot_tuple<|B3<|x8 (xs:=[C8]) U (oC o0n<|a8 Bq) (J2<|O 7) (r9 (i:=8) (by show List.Nodup ([x6,"letters",O8,Ss,"ends",X6,HM,"others",C8]:w1f);decide +kernel) U<|Or.inl U)<|i3 (show T3 _ (.type "tuple") (λxs H Q=>∃p ys,xs=[.ref p]/\((p9 K H p ys/\∀l,H l=none->Q (.ref l) (upd H l<|.tup ys))\/(o9 K H p ys/\Q (.ref p) H)))from c8) bR T.z_tuple boot_tuple<|B3<|C1 (Nw (w:=w) (base:=base) T) hr.m U T.v0t.m T.v0t.F.kp T.v0t.b .nil C3<|Ik (O 0) (O 5) (x9 (show T3 _ (.builtin "len") (λxs H Q=>∃x n,xs=[x]/\BA K x H n/\Q (V.int (n:Nat)) H)from B4) bR T.z_len PySem.boot_len<|B3<|O 2)<|O 8)<|c6<|h7<|D0<|Ik (O 1) (D2 (Rr T) hr.m T.a1a<|S3 (O 0) (x9 B4 bR T.z_len PySem.boot_len<|B3<|O 2) c4) (i3 c8 bR T.z_tuple boot_tuple<|B3<|O 6)<|O 4),?_⟩;norm_cast;show vb U U ⟨R,zu kv rv W (zQ r W) k rs ⟨U,⟨hk,hR,k4,w4,b0y zr,hS⟩,λa H1 na s1 hK=>?_⟩⟩;show⟨sL,λtp nt=>?_⟩;show E4 (o:=.lst []) nt λH2 s2 k2=>?_;have up:∀{G},l6 tp H2 G->h9 H1 G:=λsG c o hc=>sG c o (l8 hc nt)<|s2 _ _ hc;have iX:∀{G},l6 tp H2 G->G ov=some (.lst us):=λsG=>up sG _ _<|s1 _ _ ho;show va U ⟨ov,U,⟨_,p9.of<|iX<|l6.refl _ _⟩,P2 (K:=K) (a:=ov) (xs:=us) (λi σ G=>∃v7 ts,σ=[some kv,some<|vT l,some rv,sr ov,some ev,sr a,sr tp,v7]/\l6 tp H2 G/\G tp=some (.lst ts)/\j8 (λa u H=>B5 R k k (λi=>YT R.F W k rs<|y a i) u H) ts i G) ⟨_,va U ⟨l6.refl _ _,k2,j8.nil⟩⟩ (λi σ G _ ⟨_,_,_,sG,_⟩=>p9.of<|iX sG) ?_ ?_⟩
 . rintro i x σ G hi ⟨v7,ts,rfl,sG,ht,et⟩;obtain⟨il,hx⟩:=eo.at hi;have tl:=et.1;have sH:h9 H G:=s1.trans<|up sG;obtain⟨xp,xs,rfl,ko,ex⟩:=B5.same sH.t hx;show va U ⟨.inl ⟨U,_,p9.of ht⟩,va U ⟨xp,U,⟨_,o9.of ko⟩,o4 (n:=k) (λj ys G2=>h9 G G2/\j8 (λi' u H=>j5 R k (YT R.F W k rs<|y i i') u H) ys j G2) Z ⟨h9.refl _,j8.nil⟩ (λj ys G2 q=>q.2.1) ?_ ?_ ?_⟩⟩
   . rintro j ys G2 hj ⟨q,e⟩;obtain⟨u,eu,pu⟩:=ex.2 j hj;show Dy (o9.of<|q _ _ ko) eu ?_;have sq:=sH.trans q;show⟨⟨[some _],U,U⟩,vc U U U<|za ⟨U,(hR.same sq).sq.len,va U ⟨R,zB kv a u W (zQ r W) k rs (y i j) ⟨U,⟨hk.same sq,hK.same<|(up sG).trans q,j5.same q.t pu,k4,w4,b0x zr (zy i il j hj).1,hS,(zy i il j hj).2⟩,λlp fR G3 s3 hl e3=>?_⟩⟩⟩⟩;show⟨lp,fR,U,.inl ⟨p9.of hl,λl2 n2=>?_⟩⟩;have s4:=c7 (o:=.tup fR) n2;exact⟨q.trans<|s3.trans s4,(e.mono λ_ _ _ z=>j5.same (s3.trans s4).t z).snoc ⟨l2,fR,U,b9,e3.mono λ_ _ _ z=>R.same s4.t z⟩⟩
   . rintro ys G2 ⟨q,e⟩;exact⟨_,o9.of<|q _ _ ko,by rw[ex.1];exact ae _⟩
   . rintro ys G2 lp ⟨q,e⟩ nl;have s3:=c7 (o:=.lst ys) nl;show⟨lp,ys,U,.inl ⟨p9.of b9,λl2 n2=>?_⟩⟩;have s4:=c7 (o:=.tup ys) n2;have rS:=b9 (H:=upd G2 lp<|.lst ys) (a:=l2) (o:=.tup ys);revert s3 s4 rS;generalize upd (upd G2 lp<|.lst ys) l2 (.tup ys)=G4;intro s3 s4 rS;have sq:h9 G G4:=q.trans<|s3.trans s4;show⟨tp,ts,va U ⟨U,sq _ _ ht,Z,?_⟩⟩;have sx:l6 tp H2 (upd G4 tp<|.lst<|ts++[V.ref l2]):=sG.trans<|(l6.of sq).trans l6.upd;have st:=B6 (o:=.lst<|ts++[V.ref l2])<|sq _ _ ht;exact za ⟨U,sx,b9,(et.mono λ_ _ _ z=>B5.same st<|B5.same sq.t z).snoc ⟨l2,ys,U,st _ _ rS,e.mono λ_ _ _ z=>j5.same st<|j5.same (s3.trans s4).t z⟩⟩
 . rintro σ G ⟨v7,ts,rfl,sG,ht,et⟩;rw[ul]at et;have sH:h9 H G:=s1.trans<|up sG;show vc U U U<|za ⟨U,(hR.same sH).sq.len,R,zt kv _ _ k 0 ⟨U,⟨hk.same sH,Z,U,U⟩,λuv G1 g1 ru=>?_⟩⟩;show va U ⟨tp,ts,U,.inl ⟨p9.of<|g1 _ _ ht,λt2 n2=>?_⟩⟩;show E4 (o:=.tup ts) n2 λG2 g2 h2=>?_;show va U ⟨sL,λp np=>?_⟩;have g3:=c7 (o:=.tup [vT l,uv,V.ref t2,ev]) np;have wI:=g1.trans g2;have sA:=sH.trans<|wI.trans g3;exact kQ _ _ sA ⟨p,uv,_,ev,U,b9,j5.same (g2.trans g3).t ru,⟨t2,ts,U,g3 _ _ h2,et.mono λ_ _ _ z=>B5.same (wI.trans g3).t z⟩,j5.same sA.t hE⟩
abbrev TU{S:SR}(n:Nat)(es:w1a S)(tb:FF S):FF S:=λa i j=>Hd n es (λa i j=>tb a j i) a j i
noncomputable abbrev Yn{S:SR}(l:w1e)(n:Nat)(es:w1a S)(st:QQ S)(tb:FF S):w1e->Nat->S.W:=h8 S es.length (Kl n es st) (w5 l<|TU n es tb)
noncomputable def N6{S:SR}(F:M0 S)(l:w1e)(n:Nat)(es:w1a S)(st:QQ S)(tb:FF S):List w1e:=S4 F es.length (Yn l n es st tb) (gB l)
noncomputable def JD{S:SR}(F:M0 S)(l:w1e)(n:Nat)(es:w1a S)(st:QQ S)(tb:FF S):F0 S:=V0 ((N6 F l n es st tb).map<|Yn l n es st tb)
noncomputable def Qd{S:SR}(F:M0 S)(l:w1e)(n:Nat)(es:w1a S)(st:QQ S)(tb:FF S):FF S:=λa i=>YT F es.length (N6 F l n es st tb).length (JD F l n es st tb) (λj=>B7 S (JD F l n es st tb i) (λq=>TU n es tb a q j) es.length)
noncomputable def NP{S:SR}(F:M0 S)(l:w1e)(n:Nat)(es:w1a S)(st:QQ S)(tb:FF S)(en:QQ S):QQ S:=λi=>B7 S (JD F l n es st tb i) (Vt es en) es.length
def zR(n μ:Nat):Nat:=(n+1) * (zN n μ+n)+zN n μ+n
def zL(n μ:Nat):Nat:=zH n μ+zQ (zR n μ) n
def zR_Q{n μ:Nat}:zR n μ<=zQ (zR n μ) n:=bW ..
def zH_L{n μ:Nat}:zH n μ<=zL n μ:=bW ..
def zQ_L{n μ:Nat}:zQ (zR n μ) n<=zL n μ:=Nat.le_add_left ..
structure Sh{S:SR}(C:Cb S)(l:w1e)(n μ:Nat)(es:w1a S)(st:QQ S)(tb:FF S)(en:QQ S):Prop where
 mb:MB C es.length l.length (zN n μ) (Kl n es st) (TU n es tb) (Vt es en)
 le:es.length<=n
section
variable{S:SR}{F:M0 S}{C:Cb S}{l:w1e}{n μ:Nat}{es:w1a S}{st:QQ S}{tb:FF S}{en:QQ S}
def Lx:(N6 F l n es st tb).length<=es.length:=by unfold N6 S4;rw[Bv];exact(M4 _).len
def IC:∀u∈N6 F l n es st tb,u.length<=es.length/\∀c∈u,c∈l:=λu hu=>GA M9 _ u hu
def Sh.row0(h:Sh C l n μ es st tb en){i:Nat}(hi:i < (N6 F l n es st tb).length):XB C es.length ((n+1) * (zN n μ+n)) ((n+1) * (zN n μ+n)) (JD F l n es st tb i):=by have hm:JD F l n es st tb i∈(N6 F l n es st tb).map (Yn l n es st tb):=IK (by rw[ag];exact hi);obtain⟨u,hu,e⟩:=aw.mp hm;rw[<- e];obtain⟨a,b⟩:=IC u hu;have le:=h.le;have:=aM (show u.length+1<=n+1 by omega) (show zN n μ+es.length<=zN n μ+n by omega);exact(h.mb.row u b).mono this this
def Sh.row(h:Sh C l n μ es st tb en){i:Nat}(hi:i < (N6 F l n es st tb).length):XB C es.length (zR n μ) (zR n μ) (JD F l n es st tb i):=(h.row0 hi).mono (by unfold zR;omega) (by unfold zR;omega)
def Sh.long(h:Sh C l n μ es st tb en){i a:Nat}(hi:i < (N6 F l n es st tb).length)(ha:a < l.length):XB C es.length (zR n μ) (zR n μ) (λj=>B7 S (JD F l n es st tb i) (λq=>TU n es tb a q j) es.length):=by have le:=h.le;exact((h.row0 hi).by (h.mb.tb a ha)).mono (by unfold zR;omega) (by unfold zR;omega)
def Sh.dot(h:Sh C l n μ es st tb en){i a j:Nat}(hi:i < (N6 F l n es st tb).length)(ha:a < l.length)(hj:j < es.length):Mr S (zR n μ) es.length (JD F l n es st tb i) (λq=>TU n es tb a q j):=by have le:=h.le;exact Az (h.row0 hi) ((h.mb.tb a ha).col hj) (by unfold zR;omega) (by unfold zR;omega)
def Sh.dotE(h:Sh C l n μ es st tb en){i:Nat}(hi:i < (N6 F l n es st tb).length):Mr S (zR n μ) es.length (JD F l n es st tb i) (Vt es en):=by have le:=h.le;exact Az (h.row0 hi) h.mb.en (by unfold zR;omega) (by unfold zR;omega)
def VN{a:Nat}(nd:l.Nodup)(ha:a < l.length):∃c,l[a]? = some c/\c∈l/\l.idxOf c=a:=⟨l[a],ah ha,aG ha,nd.idxOf_getElem a ha⟩
def ID{i:Nat}{u:w1e}(h:(N6 F l n es st tb)[i]? = some u):JD F l n es st tb i=Yn l n es st tb u:=CM (by rw[aE,h];rfl)
def Lw(nd:l.Nodup){i a:Nat}(hi:i < (N6 F l n es st tb).length)(ha:a < l.length):M1 S es.length (N6 F l n es st tb).length (JD F l n es st tb) (λj=>B7 S (JD F l n es st tb i) (λq=>TU n es tb a q j) es.length):=by
 obtain⟨c,_,hc,ic⟩:=VN nd ha;have e:=ah hi;obtain⟨_,al⟩:=IC _<|aG hi;have:=Gz (F:=F) (w:=es.length) (ρ:=Yn l n es st tb) (L:=λc=>Hx S es.length<|w5 l (TU n es tb) c) EB (λc _=>CF) (λc u _ j _=>by show h8 S _ _ _ (u++[c]) j=_;rw[x4]) ((N6 F l n es st tb)[i]++[c]) (λd hd=>by
  rcases av.mp hd with hd | hd
  . exact al d hd
  . rw[ar.mp hd];exact hc)
 show this.congr λj _=>?_;show _=h8 S _ _ _ _ j;rw[x4,ID e];show _=B7 S _ (λq=>TU n es tb (l.idxOf c) q j) _;rw[ic]
end
variable(w K mg base)in def UA(t:ON):Sp:=λvs H Q _=>∃(R:c9 Pr w K mg base),∃kv mv l,∃(n μ:Nat),∃st tb en,vs=[kv,mv]/\(N9 R.C R.fs H kv/\j9 R l n st tb en mv H/\MB R.B n l.length μ st tb en/\N4 l/\n<=60/\N5 R.S (3 * zL n μ)/\E6 t H)/\
 ∀es v H',K9 R.F n ((S4 R.F n (h8 R.S n en<|w5 l λa i j=>tb a j i)<|gB l).map<|h8 R.S n en<|w5 l λa i j=>tb a j i) es->E5 (DT t) H H'->E6 t H'->j9 R l (N6 R.F l n es st tb).length (P0 R.S 0) (Qd R.F l n es st tb) (NP R.F l n es st tb en) v H'->Q v H'
def Ny(fz:WI mg base t):w8 Pr w K mg base F6 58 t.a1j t.z0q JB (UA w K mg base t):=by
 show T.z0h.F.okA EL λ_ _ _ _ H _ _ _ hr h=>?_;obtain⟨R,kv,mv,l,n,μ,st,tb,en,rfl,⟨hk,hM,hB,L,hn,hS,hT⟩,k⟩:=h;have sl:1000 < sizeLine:=by decide
 have l3:=L.h3;have uP:=zH_L (n:=n) (μ:=μ);have zQL:=zQ_L (n:=n) (μ:=μ);have zRQ:=zR_Q (n:=n) (μ:=μ);show⟨_,(c5 (F3<|D2 (AF T) hr.m T.t0b<|B3<|O 0)<|c5 (sT 2 EL.nd<|D2 (DC T fz) hr.m T.t0j<|F1 (O 0)<|O 1)<|c5 (U7 (i:=3) EL.nd U (Or.inr U)<|i3 c8 bR T.z_tuple boot_tuple<|B3<|x8 (xs:=Vx) U (oC b0f<|a8 EV) (C5<|D2 (AG T fz) hr.m T.t0m<|F1 (O 0)<|O 2) (show PG _ _ (Ep K 2 _)from(I9 U<|l5 (gL 5 o0j)<|l5 (gL 6 o0j) D7))<|O 6)<|c5 (P5 (i₀:=4) (xs:=[Y9]) EL.nd U (Or.inl U) U (oC b0f<|a8 EV) (J2<|D5 j7 (O 2) c4) (r9 (i:=5) (by show List.Nodup ([x6,O9,OP,O8,Ss,Y9]:w1f);decide +kernel) U<|Or.inl U)<|C1 (GN (w:=w) (base:=base) T) hr.m U T.v0x.m T.v0x.F.kp T.v0x.b .nil C3<|S3 (O 0) (O 3)<|O 5)<|c6<|h7<|D2 (Nx T) hr.m T.w0j<|J7 (O 0)<|Ik (D5 j7 (O 1) c4) (O 3) (O 4)<|D2 (Fi T) hr.m T.t0z<|S3 (O 0) (O 3)<|D5 j7 (O 2) c4),?_⟩;norm_cast;show va U ⟨R,kv,U,hk,?_⟩;show vb U U ⟨R,zB kv mv l n μ st tb en ⟨U,⟨hk,hM,hB,L,hn,hS.le<|aD _<|af (bW ..) uP,hT⟩,λes v1 H1 EC gA fP fU=>?_⟩⟩;have el:=EC.le;have lR:=(Ls hB.mirror EC).mirror;have X:Sh R.B l n μ es st tb en:=⟨lR,el⟩;have jA:=N9.sameD gA hT.not hk;show vb U U ⟨R,zB kv v1 l es.length (zN n μ) _ _ _ ⟨U,⟨jA,fU,lR,L,Z,hS.le<|aD _<|af (af (QR el<|ae _)<|Nat.le_add_left ..) uP,fP⟩,λb H2 fV fH nb hP=>?_⟩⟩;have k':=k es;have wl:=Lx (F:=R.F) (l:=l) (n:=n) (es:=es) (st:=st) (tb:=tb);obtain⟨us,hb,eP⟩:=hP;have eP:j8 _ us (N6 R.F l n es st tb).length H2:=eP;have fS:y9 H1 H2:=fV.tup fP.not;show⟨b,U,⟨_,p9.of hb⟩,o4 (n:=(N6 R.F l n es st tb).length) (λj ys G=>j8 (λi u H=>j5 R es.length (JD R.F l n es st tb i) u H) ys j H2/\G=H2) Z ⟨j8.nil,U⟩ (λj ys H3 q=>q.1.1) ?_ ?_ ?_⟩
 . rintro j ys G hj ⟨e,rfl⟩;obtain⟨y,ey,wd,q,rv,ew,rfl,hq,ro⟩:=eP.2 j hj;show Hm (p9.of hb) ey ?_;show⟨q,va U ⟨o9.of hq,U,za ⟨U,za ⟨U,U,⟨[some _,some _],U,U⟩,va U ⟨e.snoc ?_,U⟩⟩⟩⟩⟩;rw[ID ew];exact ro
 . rintro ys G ⟨e,rfl⟩;exact⟨_,p9.of hb,by rw[eP.1];exact ae _⟩
 . rintro ys G z ⟨e,rfl⟩ nz;have s3:=c7 (o:=.lst ys) nz;show⟨z,ys,U,.inl ⟨p9.of b9,λrp nrp=>?_⟩⟩;have s4:=c7 (o:=.tup ys) nrp;have k4:=b9 (H:=upd G z<|.lst ys) (a:=rp) (o:=.tup ys);revert s3 s4 k4;generalize upd (upd G z<|.lst ys) rp (.tup ys)=H4;intro s3 s4 k4;have SN:=s3.trans s4;have tR:B5 R (N6 R.F l n es st tb).length es.length (JD R.F l n es st tb) (.ref rp) H4:=⟨rp,ys,U,k4,e.mono λ_ _ _ q=>j5.same SN.t q⟩;obtain⟨mp,sv,tv,ev,rfl,hm,h1,⟨tp,tabs,rfl,fw,eT⟩,h3⟩:=j9.same (fS.trans SN.t) fU;have hT4:=fH.same SN;have oP:=fV.trans<|E5.of SN;have tm:N9 R.C R.fs H4 kv:=N9.sameD oP fP.not jA;show va U (zf ⟨U,U,o9.of hm,U,tp,U,⟨_,o9.of fw⟩,o4 (n:=l.length) (λj ys G=>h9 H4 G/\j8 (λa u H=>B5 R (N6 R.F l n es st tb).length es.length (λi j=>B7 R.S (JD R.F l n es st tb i) (λq=>TU n es tb a q j) es.length) u H) ys j G) Z ⟨h9.refl _,j8.nil⟩ (λj ys H3 q=>q.2.1) ?_ ?_ ?_⟩)
   . rintro j ys G hj ⟨q,e⟩;obtain⟨u,eu,pu⟩:=eT.2 j hj;show Dy (o9.of<|q _ _ fw) eu ?_;show⟨⟨[some _],U,U⟩,vc U U U ⟨R,zB kv _ _ _ _ _ _ (zR n μ) ⟨U,⟨tm.same q,B5.same q.t tR,B5.same q.t pu,Z,Z,λi hi j' tD=>X.dot hi hj tD,hS.le<|aD _ Z⟩,λv5 G5 s5 t5=>?_⟩⟩⟩;exact⟨q.trans s5,(e.mono λ_ _ _ z=>B5.same s5.t z).snoc t5⟩
   . rintro ys G ⟨q,e⟩;exact⟨_,o9.of<|q _ _ fw,by rw[eT.1];exact ae _⟩
   . rintro ys G z2 ⟨q,e⟩ jq;show E4 (o:=.lst ys) jq λH5 s5 k5=>?_;have Ib:=q.trans s5;show R7 4 (V.ref z2) [some kv,some mv,sr mp,sr rp,none] H5 _;obtain⟨mp0,sv0,tv0,ev0,rfl,hm0,_,_,_⟩:=j9.same ((gA.tup hT.not).trans<|fS.trans<|SN.t.trans Ib.t) hM;show vb U U<|zf ⟨U,U,o9.of hm0,U,vc U U U<|vb U U<|zf ⟨U,U,o9.of<|Ib _ _ hm,U,R,zB kv _ _ _ _ _ _ (zR n μ) ⟨U,⟨tm.same Ib,B5.same Ib.t tR,j5.same Ib.t h3,Z,λi hi=>X.dotE hi,hS.le<|aD _ Z⟩,λve H6 s6 rE=>?_⟩⟩⟩;have ZI:=Ib.trans s6;show⟨R,zG kv l _ z2 ve es.length (zR n μ) ((N6 R.F l n es st tb).length) (JD R.F l n es st tb) (λa i j=>B7 R.S (JD R.F l n es st tb i) (λq=>TU n es tb a q j) es.length) (NP R.F l n es st tb en) ⟨U,⟨tm.same ZI,.inr<|B5.same ZI.t tR,⟨ys,s6 _ _ k5,e.mono λ_ _ _ z=>B5.same (s5.trans s6).t z⟩,rE,⟨Z,Z,Z⟩,λi hi=>X.row hi,λa ha i hi=>⟨X.long hi ha,Lw L.nd hi ha⟩,hS.le<|aD _<|af (Ky el) zQL⟩,λv7 H7 s7 nQ=>?_⟩⟩;have WN:=ZI.trans s7;exact k' v7 H7 EC (gA.trans<|oP.trans<|.of WN) (hT4.same WN) nQ
section
variable{S:SR}{F:M0 S}{C:Cb S}{l:w1e}{n μ:Nat}{es:w1a S}{st:QQ S}{tb:FF S}{en:QQ S}
def zM(n μ:Nat):Nat:=(n+1) * zQ (zR n μ) n+(n+1) * zR n μ
def Sh.found(h:Sh C l n μ es st tb en):MB C (N6 F l n es st tb).length l.length (zM n μ) (P0 S 0) (Qd F l n es st tb) (NP F l n es st tb en):=by
 have le:=h.le;have wl:=Lx (F:=F) (l:=l) (n:=n) (es:=es) (st:=st) (tb:=tb);have m1:(N6 F l n es st tb).length * zQ (zR n μ) es.length<=n * zQ (zR n μ) n:=aM Z<|Ky le;have m2:=Ky (r:=zR n μ) le;have m3:(n+1) * zQ (zR n μ) n=n * zQ (zR n μ) n+zQ (zR n μ) n:=bB ..;have m4:(n+1) * zR n μ=n * zR n μ+zR n μ:=bB ..;have m5:(N6 F l n es st tb).length * ((n+1) * (zN n μ+n))<=n * zR n μ:=aM Z (by unfold zR;omega);have m6:(n+1) * (zN n μ+n)+zN n μ+n=zR n μ:=rfl;show⟨QS,λa ha=>?_,?_⟩
 . show(TB.of (β:=zQ (zR n μ) es.length) (t:=zQ (zR n μ) es.length) λi hi=>a0d (λi hi=>h.row hi)<|h.long hi ha).mono ?_ ?_
   . unfold zM;omega
   . unfold zM;omega
 . show((TB.of λi hi=>h.row0 (F:=F) hi).by h.mb.en).mono ?_ ?_
   . unfold zM;omega
   . unfold zM;omega
end
section
variable{S:SR}{F:M0 S}{C:Cb S}{l:w1e}{n μ:Nat}{es:w1a S}{st:QQ S}{tb:FF S}{en:QQ S}
def Gq(nd:l.Nodup){i a c:Nat}{v:w1e}(hv:(N6 F l n es st tb)[i]? = some v)(hc:l[a]? = some c):∀j,j < es.length->Yn l n es st tb (v++[c]) j=lin S (Qd F l n es st tb a i) (JD F l n es st tb) (N6 F l n es st tb).length j:=λj hj=>by
 obtain⟨hi,_⟩:=aJ.mp hv;obtain⟨ha,ec⟩:=aJ.mp hc;have:=Va (F:=F) (Lw (F:=F) (n:=n) (es:=es) (st:=st) (tb:=tb) nd hi ha) j hj;show h8 S _ _ _ (v++[c]) j=_;rw[x4];show Eq.trans ?_ this;rw[ID hv];show B7 S _ (λq=>TU n es tb (l.idxOf c) q j) _=_;rw[<- ec,nd.idxOf_getElem]
def Yl:∀j,j < es.length->Kl n es st j=lin S (P0 S 0) (JD F l n es st tb) (N6 F l n es st tb).length j:=λj hj=>by
 have sp:=Gz (F:=F) (l:=l) (w:=es.length) (ρ:=Yn l n es st tb) (L:=λc=>Hx S es.length<|w5 l (TU n es tb) c) EB (λc _=>CF) (λc u _ j _=>by show h8 S _ _ _ (u++[c]) j=_;rw[x4]) [] (λd hd=>nomatch hd);rcases RI (F:=F) (l:=l) (w:=es.length) (ρ:=Yn l n es st tb)with e | ⟨T,e⟩
 . obtain⟨c,hc⟩:=sp;have e:N6 F l n es st tb=[]:=e;have hc:Yn l n es st tb [] j=lin S c _ (N6 F l n es st tb).length j:=hc j hj;rw[e]at hc ⊢;exact hc
 . have e:N6 F l n es st tb=[]::T:=e;have e0:(N6 F l n es st tb)[0]? = some []:=by rw[e];rfl
   have:P0 S 0=λk=>if k=0 then S.one else S.zero:=rfl
   rw[this,HB (by rw[e];simp),ID e0];rfl
def Bb(N:BO F l n en (W7 tb) es)(nd:l.Nodup)(u:w1e)(hu:AL l u):B7 S (h8 S (N6 F l n es st tb).length (P0 S 0) (w5 l<|Qd F l n es st tb) u) (NP F l n es st tb en) (N6 F l n es st tb).length=B7 S (h8 S n st (w5 l tb) u) en n:=by rw[<- PU N u hu];show o0w (tc:=w5 l<|W7<|Hd n es<|W7 tb) (r:=JD F l n es st tb) Yl (λc hc i hi j hj=>?_) (λi hi=>rfl) u hu;have hx:l.idxOf c < l.length:=cu.mpr hc;exact Va (F:=F) (Lw (F:=F) (n:=n) (es:=es) (st:=st) (tb:=tb) nd hi hx) j hj
def Qc(N:BO F l n en (W7 tb) es){i:Nat}{u:w1e}(h:(N6 F l n es st tb)[i]? = some u):NP F l n es st tb en i=B7 S (h8 S n st (w5 l tb) u) en n:=by rw[<- PU N u (IC u<|aL h).2];unfold NP;rw[ID h]
end
def RG{α:Type}{ws:List α}{i:Nat}{d:α}(h:i < ws.length):ws[i]? = some (ws.getD i d):=by rw[aU,ah h];rfl
section
variable{S:SR}{F:M0 S}{C:Cb S}{l:w1e}{n n':Nat}{es fm:w1a S}{st st':QQ S}{tb tb':FF S}{en en':QQ S}
def VM:JV S es.length (N6 F l n es st tb).length (V0<|(N6 F l n es st tb).map<|Kj l n es st tb):=We
def Ym(N:BO F l n en (W7 tb) es)(N':BO F l n' en' (W7 tb') fm)(nd:l.Nodup)(h:∀u,AL l u->D9 S l n st tb en u=D9 S l n' st' tb' en' u):N6 F l n es st tb=N6 F l n' fm st' tb'/\(∀a,a < l.length->∀i,i < (N6 F l n es st tb).length->∀q,q < (N6 F l n es st tb).length->Qd F l n es st tb a i q=Qd F l n' fm st' tb' a i q)/\∀i,i < (N6 F l n es st tb).length->NP F l n es st tb en i=NP F l n' fm st' tb' en' i:=by
 have e:N6 F l n es st tb=N6 F l n' fm st' tb':=Wd M9<|Up N N' h;have al:=λu (hu:u∈N6 F l n es st tb)=>(IC u hu).2;show⟨e,λa ha i hi q hq=>?_,λi hi=>?_⟩
 . obtain⟨c,hc,jP,_⟩:=VN nd ha;have hv:=ah hi;have r1:=Gq (F:=F) nd hv hc;have r2:=Gq (F:=F) (n:=n') (es:=fm) (st:=st') (tb:=tb') nd (by rw[<- e];exact hv) hc;have hu:AL l ((N6 F l n es st tb)[i]++[c]):=Bz (al _<|aG hi) λd hd=>by rw[ar.mp hd];exact jP
   show YE N N' h al VM hu r1 (λj hj=>?_) q hq;have:=r2 j hj;unfold JD at this;rwa [<- e]at this
 . have hv:=ah hi;rw[Qc N hv,Qc N'<|by rw[<- e];exact hv];exact h _ (al _<|aG hi)
def VL(N:BO F l n en (W7 tb) es)(le:es.length<=n)(nd:l.Nodup){b m β:Nat}(b0:0 < b)(h1:∀i,i < n->C.cb b m (st i))(h2:∀a,a < l.length->∀i,i < n->∀j,j < n->C.cb b m (tb a i j))(h3:∀i,i < n->C.cb b m (en i))(n2:n<=2)(bm:b<=m)(hb:b ^ 5<=2 ^ β)(hβ:16 * m ^ 5 * (16 * m ^ 5)+16 * m ^ 5 * (16 * m ^ 5)<=2 ^ β)(ht:16 * m ^ 5<=2 ^ β):MB C (N6 F l n es st tb).length l.length β (P0 S 0) (Qd F l n es st tb) (NP F l n es st tb en):=by
 have al:=λu (hu:u∈N6 F l n es st tb)=>(IC u hu).2;have wl:=Lx (F:=F) (l:=l) (n:=n) (es:=es) (st:=st) (tb:=tb);have ul:∀u∈N6 F l n es st tb,u.length<=1:=λu hu=>by have:=(P3 M9 hu).1;omega
 have vl:∀j,j < (J1 l<|n - 1).length->((J1 l<|n - 1).getD j []).length<=1/\AL l ((J1 l<|n - 1).getD j []):=λj hj=>by
  obtain⟨a,b⟩:=X7 _ _<|LS hj;exact⟨Z,b⟩
 have cw:=c0v (C:=C) b0 h1 h2 h3 n2 bm;show⟨QS,λa ha=>?_,⟨b ^ 5,cf b0,hb,λi hi=>?_⟩⟩
 . obtain⟨c,hc,jP,_⟩:=VN nd ha;have yI:∀i,i < (N6 F l n es st tb).length->AL l ((N6 F l n es st tb).getD i []++[c]):=λi hi=>Bz (al _<|Mine.F4 hi) λd hd=>by rw[ar.mp hd];exact jP
   show p0u F (W:=(J1 l<|n - 1).length) (B:=b ^ 5) (t:=16 * m ^ 5) (X:=λq j=>D9 S l n st tb en<|(N6 F l n es st tb).getD q []++(J1 l<|n - 1).getD j []) (Y:=λi j=>D9 S l n st tb en<|((N6 F l n es st tb).getD i []++[c])++(J1 l<|n - 1).getD j []) Z (cf b0) (λd hd=>?_) (λq hq j hj=>?_) (λi hi j hj=>?_) (λi hi j hj=>?_) hβ
   . show VM (F:=F) d<|N.back al λv hv vn=>?_;obtain⟨j,hj,e⟩:=cM.mp<|Bh (l:=l) (n - 1) v vn hv;have:=hd j hj;have eg:(J1 l<|n - 1).getD j []=v:=by rw[aU,ah hj,e];rfl
     show Eq.trans (j6 λk _=>?_) this;dsimp only;rw[eg]
   . have:=ul _<|Mine.F4 hq;obtain⟨v1,v2⟩:=vl j hj;exact cw ((N6 F l n es st tb).getD q []++(J1 l<|n - 1).getD j []) (Bz (al _<|Mine.F4 hq) v2) (by rw[aq];omega)
   . have:=ul _<|Mine.F4 hi;obtain⟨v1,v2⟩:=vl j hj;exact cw ((N6 F l n es st tb).getD i []++[c]++(J1 l<|n - 1).getD j []) (Bz (yI i hi) v2) (by rw[aq,aq];show _+1+_<=_;omega)
   . have hv:(N6 F l n es st tb)[i]? = some ((N6 F l n es st tb).getD i []):=RG (d:=[]) hi;exact N.spread al (yI i hi) (Gq (F:=F) nd hv hc) (vl j hj).2
 . have hv:(N6 F l n es st tb)[i]? = some ((N6 F l n es st tb).getD i []):=RG (d:=[]) hi;have:=ul _<|Mine.F4 hi;rw[Qc N hv];exact C.mono _ _ _ _ ht (cw _ (al _<|Mine.F4 hi) Z)
end
def V4{S:SR}{n i:Nat}{x y:QQ S}(h:i < n):S6 S n x y i=x i:=if_pos h
def Y6{S:SR}{n i:Nat}{x y:QQ S}:S6 S n x y (n+i)=y i:=by unfold S6;rw[if_neg Z,dM]
def Di{R:c9 Pr w K mg base}{n l:Nat}{x y:QQ R.S}{xs ys:List V}{H:Hp}(a:j8 (λj u H=>R.is H u<|x j) xs n H)(b:j8 (λj u H=>R.is H u<|y j) ys l H):j8 (λj u H=>R.is H u<|S6 R.S n x y j) (xs++ys) (n+l) H:=
 j8.app (a.mono λj _ hj q=>by rw[V4 hj];exact q) (b.mono λj _ _ q=>by rw[Y6];exact q)
def Mn(S:SR)(n:Nat)(A B:F0 S):F0 S:=λi=>if i < n then S6 S n (A i) λ_=>S.zero else S6 S n (λ_=>S.zero) (B<|i - n)
variable(w K mg base)in def Ux:Sp:=λvs H Q _=>∃(R:c9 Pr w K mg base),∃mv l,∃(n:Nat),∃st tb en,vs=[mv]/\j9 R l n st tb en mv H/\Q (.int (n:Nat)) H
def Ff:w8 Pr w K mg base F6 1 t.a1q t.z0u [O9] (Ux w K mg base):=by show T.z0p.F.okA UM λ_ _ _ _ _ _ _ _ hr h=>?_;obtain⟨R,mv,l,n,st,tb,en,rfl,hM,k⟩:=h;obtain⟨mp,sv,tv,ev,rfl,hm,h1,h2,h3⟩:=hM;show⟨_,(c6<|h7<|x9 B4 bR T.z_len PySem.boot_len<|B3<|D5 j7 (O 0) c4),?_⟩;norm_cast;exact va U (zf ⟨U,U,o9.of hm,U,za ⟨U,h1.len,k⟩⟩)
variable(w K mg base)in def Sz:Sp:=λvs H Q _=>∃(R:c9 Pr w K mg base),∃mv ov l,∃(n n':Nat),∃st tb en st' tb' en',vs=[mv,ov]/\(j9 R l n st tb en mv H/\j9 R l n' st' tb' en' ov H)/\Q .non H
def Cu:w8 Pr w K mg base F6 1 t.r0i t.q0u PV (Sz w K mg base):=by show T.q0r.F.okA BW λ_ _ _ _ _ _ _ _ hr h=>?_;obtain⟨R,mv,ov,l,n,n',st,tb,en,st',tb',en',rfl,⟨hM,fQ⟩,k⟩:=h;obtain⟨mp,sv,tv,ev,rfl,hm,h1,h2,h3⟩:=hM;obtain⟨rK,oI,oG,uw,rfl,gm,jS,wD,h3'⟩:=fQ;show⟨_,(c6<|D3 (o6 Nt (D5 j7 (O 0) c4) (D5 j7 (O 1) c4)<|o7 _) (c6 AX) x5),?_⟩;norm_cast;show va U<|zf ⟨U,U,o9.of hm,U,va U<|zf ⟨U,U,o9.of gm,U,U,va U ?_⟩⟩;show BE (by rw[decide_eq_true rfl];rfl) ?_;exact k
variable(w K mg base)in def SG:Sp:=λvs H Q _=>∃(R:c9 Pr w K mg base),∃kv fv sv ep,∃(n n':Nat),∃A B us,vs=[kv,fv,sv,.ref ep]/\(N9 R.C R.fs H kv/\B5 R n n A fv H/\B5 R n' n' B sv H/\H ep=some (.lst us)/\j8 (λ_ u H=>j5 R n' (λ_=>R.S.zero) u H) us n H/\n<=60/\n'<=60)/\
 ∀v H',h9 H H'->B5 R (n+n') (n+n') (Mn R.S n A B) v H'->Q v H'
def SZ:w8 Pr w K mg base F6 42 t.a1i t.y0e a0y (SG w K mg base):=by
 show T.y0i.F.okA FS λ_ _ _ _ H _ Q _ hr h=>?_;obtain⟨R,kv,fv,sv,ep,n,n',X,Y,us,rfl,⟨hk,⟨fp,fs,rfl,nJ,eF⟩,⟨sp,ss,rfl,fM,eS⟩,jb,eE,hn,kE⟩,k⟩:=h;have zl:=sZ;show⟨_,(c5 (P5 (i₀:=4) (xs:=[C8,"extra"]) FS.nd U (Or.inl U) U (oC b0h<|a8 Co) (DY U T.z_zip<|F1 (O 1)<|O 3) (show PG _ _ (Ep K 2 _)from(I9 U<|l5 (gL 6 o0k)<|l5 (gL 7 o0k) D7))<|o8 Y4 (O 6)<|O 7)<|c5 (P5 (i₀:=5) (xs:=[C8]) FS.nd U (Or.inl U) U (oC b0h<|a8 Co) (J2<|O 2) (r9 (i:=6) (by show List.Nodup ([x6,Jg,"second","step","upper","lower",C8]:w1f);decide +kernel) U<|Or.inl U)<|o8 Y4 (C1 (DZ (w:=w) (base:=base) T) hr.m U T.x0e.m T.x0e.F.kp T.x0e.b .nil C3<|F1 (O 0)<|x9 (show T3 _ (.builtin "len") (λxs H Q=>∃x n,xs=[x]/\BA K x H n/\Q (V.int (n:Nat)) H)from B4) bR T.z_len PySem.boot_len<|B3<|O 1)<|O 6)<|c6<|h7<|i3 c8 bR T.z_tuple boot_tuple<|B3<|o8 Lm (O 4)<|O 5),?_⟩;norm_cast;show vb U U ⟨.tup fp,.lst ep,za ⟨fs,us,U,U,U,o9.of nJ,p9.of jb,o4 (n:=n) (λi ys G=>h9 H G/\j8 (λi u H=>j5 R (n+n') (S6 R.S n (X i) λ_=>R.S.zero) u H) ys i G) Z ⟨h9.refl _,j8.nil⟩ (λj ys G q=>q.2.1) ?_ ?_ ?_⟩⟩
 . rintro i ys G hi ⟨q,e⟩;obtain⟨u,eu,pu⟩:=eF.2 i hi;obtain⟨x,ex,px⟩:=eE.2 i hi;show⟨⟨fs,us,u,x,o9.of<|q _ _ nJ,p9.of<|q _ _ jb,eu,ex⟩,λy' H' hy=>?_⟩;obtain⟨pp,x',y',rfl,np,rfl,f1,f2⟩:=hy;have e1:=f1 _<|o9.of<|q _ _ nJ;rw[eu]at e1;cases e1;have e2:=f2 _<|p9.of<|q _ _ jb;rw[ex]at e2;cases e2;show E4 (o:=.tup [u,x]) np λG1 s3 k3=>?_;have q3:=q.trans s3;obtain⟨up,mh,rfl,gU,eU⟩:=j5.same q3.t pu;obtain⟨xp,xvs,rfl,ko,eX⟩:=j5.same q3.t px;have ul:=eU.1;have xl:=eX.1;show⟨pp,va U ⟨o9.of k3,U,za ⟨U,za ⟨U,U,⟨[some _,some _],U,U⟩,vb U U<|zf ⟨U,U,gU,ko,Z,λp4 G4 s4 h4=>?_⟩⟩⟩⟩⟩;exact⟨q3.trans s4,(e.mono λ_ _ _ z=>j5.same (s3.trans s4).t z).snoc ⟨p4,va U ⟨h4,(Di eU eX).mono λ_ _ _ z=>R.same s4.t z⟩⟩⟩
 . rintro ys G ⟨q,e⟩;exact⟨fs,us,o9.of<|q _ _ nJ,p9.of<|q _ _ jb,.inl<|by rw[eF.1]⟩
 . rintro ys G z ⟨q,e⟩ nz;show E4 (o:=.lst ys) nz λH1 s1 k1=>?_;have q1:=q.trans s1;have e1:=e.mono (H':=H1) λ_ _ _ z=>j5.same s1.t z;show va U ⟨sp,U,⟨_,o9.of<|q1 _ _ fM⟩,o4 (n:=n') (λi ys G=>h9 H1 G/\j8 (λi u H=>j5 R (n+n') (S6 R.S n (λ_=>R.S.zero)<|Y i) u H) ys i G) Z ⟨h9.refl _,j8.nil⟩ (λj ys G q=>q.2.1) ?_ ?_ ?_⟩
   . rintro i zs G2 hi ⟨q2,e2⟩;obtain⟨u,eu,pu⟩:=eS.2 i hi;have OL:=q1.trans q2;show Dy (o9.of<|OL _ _ fM) eu ?_;have hl:BA K (.ref fp) G2 n:=.inr ⟨_,o9.of<|OL _ _ nJ,eF.1.symm⟩;show⟨⟨[some _],U,U⟩,vb U U<|za ⟨U,hl,R,zj kv _ n ⟨U,⟨hk.same OL,Z,U⟩,λv G3 s3 r3=>?_⟩⟩⟩;obtain⟨vp,vvs,rfl,hvp,eV⟩:=r3;obtain⟨up,mh,rfl,gU,eU⟩:=j5.same (OL.trans s3).t pu;have vl:=eV.1;have ul:=eU.1;show va U<|zf ⟨U,U,hvp,gU,Z,λp4 G4 s4 h4=>?_⟩;exact⟨q2.trans<|s3.trans s4,(e2.mono λ_ _ _ z=>j5.same (s3.trans s4).t z).snoc ⟨p4,va U ⟨h4,(Di eV eU).mono λ_ _ _ z=>R.same s4.t z⟩⟩⟩
   . rintro zs G2 ⟨q2,e2⟩;exact⟨_,o9.of<|(q1.trans q2) _ _ fM,by rw[eS.1];exact ae _⟩
   . rintro zs G2 z2 ⟨q2,e2⟩ jq;show E4 (o:=.lst zs) jq λH2 s2 k2=>?_;have OL:=q2.trans s2;have yl:=e1.1;have lh:=e2.1;show vb U U ⟨z,z2,ys,zs,U,U,OL _ _ k1,k2,Z,λp3 n3=>?_⟩;show E4 (o:=.lst<|ys++zs) n3 λH3 s3 k3=>?_;show⟨p3,va U<|.inl ⟨p9.of k3,λp4 n4=>?_⟩⟩;have s4:=c7 (o:=.tup<|ys++zs) n4;have SN:=s3.trans s4;show k _ _ (q1.trans<|OL.trans SN) ⟨p4,va U ⟨b9,j8.app (e1.mono λi _ hi z=>?_)<|e2.mono λi _ hi z=>?_⟩⟩
     . show j5 R (n+n') (Mn R.S n X Y i) _ _;unfold Mn;rw[if_pos hi];exact j5.same (OL.trans SN).t z
     . show j5 R (n+n') (Mn R.S n X Y<|n+i) _ _;unfold Mn;rw[if_neg Z,dM];exact j5.same (s2.trans SN).t z
variable(w K mg base)in def Jj:Sp:=λvs H Q _=>∃(R:c9 Pr w K mg base),∃kv mv ov l,∃(n n':Nat),∃st tb en st' tb' en',vs=[kv,mv,ov]/\(N9 R.C R.fs H kv/\j9 R l n st tb en mv H/\j9 R l n' st' tb' en' ov H/\N4 l/\n<=60/\n'<=60)/\
 ∀v H',h9 H H'->j9 R l (n+n') (S6 R.S n st st') (λa=>Mn R.S n (tb a)<|tb' a) (S6 R.S n en en') v H'->Q v H'
def Jz:w8 Pr w K mg base F6 43 t.w0h t.t0a Jd (Jj w K mg base):=by
 show T.t0g.F.okA AB λ_ _ _ _ H _ _ _ hr h=>?_;obtain⟨R,kv,mv,ov,l,n,n',st,tb,en,st',tb',en',rfl,⟨hk,hM,fQ,L,hn,kE⟩,k⟩:=h;have zl:=sZ;have l3:=L.h3;obtain⟨mp,sv,tv,ev,rfl,hm,⟨sp,ss,rfl,fM,eS⟩,⟨tp,ts,rfl,fw,eT⟩,⟨ep,es,rfl,jb,eE⟩⟩:=id hM;obtain⟨rK,oI,oG,uw,rfl,gm,⟨qQ,ss',rfl,su,yz⟩,⟨tp',qH,rfl,jw,eT'⟩,⟨lT,fm,rfl,iQ,nY⟩⟩:=id fQ;have lS:=eS.1;have lS':=yz.1;have lE:=eE.1;have lE':=nY.1;show⟨_,(c5 (U7 (i:=3) AB.nd U (Or.inr U)<|x8 (xs:=["room"]) U (oC b0b<|a8 Q8) (C6 U T.z_range<|B3<|D2 (Ff T) hr.m T.z0p<|B3<|O 1) (r9 (i:=5) (by show List.Nodup ([x6,BH,AA,"no_step",HM,"room"]:w1f);decide +kernel) U<|Or.inl U)<|C1 (DZ (w:=w) (base:=base) T) hr.m U T.x0e.m T.x0e.F.kp T.x0e.b .nil C3<|F1 (O 0)<|C1 (Ff (w:=w) (base:=base) T) hr.m U T.z0p.m T.z0p.F.kp T.z0p.b .nil C3<|B3<|O 2)<|c5 (P5 (i₀:=4) (xs:=[Jg,"second"]) AB.nd U (Or.inl U) U (oC b0b<|a8 Q8) (DY U T.z_zip<|F1 (D5 j7 (O 1) c4)<|D5 j7 (O 2) c4) (show PG _ _ (Ep K 2 _)from(I9 U<|l5 (gL 5 o0g)<|l5 (gL 6 o0g) D7))<|C1 (SZ (w:=w) (base:=base) T) hr.m U T.y0i.m T.y0i.F.kp T.y0i.b .nil C3<|Ik (O 0) (O 5) (O 6)<|O 3)<|c6<|h7<|D0<|Ik (D5 j7 (O 1) c4) (o8 Y4 (D5 j7 (O 1) c4)<|D5 j7 (O 2) c4) (i3 c8 bR T.z_tuple boot_tuple<|B3<|O 4)<|o8 Y4 (D5 j7 (O 1) c4)<|D5 j7 (O 2) c4),?_⟩;norm_cast;show va U ⟨R,zu (.ref mp) l n st tb en ⟨U,hM,?_⟩⟩;show va U ⟨Z,Z,o4 (n:=n) (λi ys G=>h9 H G/\j8 (λi u H=>j5 R n' (λ_=>R.S.zero) u H) ys i G) Z ⟨h9.refl _,j8.nil⟩ (λj ys G q=>q.2.1) ?_ ?_ ?_⟩
 . rintro i ys G hi ⟨q,e⟩;show IG (by omega) ?_;show⟨⟨[some _],U,U⟩,vb U U ⟨R,zu (.ref rK) l n' st' tb' en' ⟨U,j9.same q.t fQ,R,zj kv _ n' ⟨U,⟨hk.same q,Z,U⟩,λv G3 s3 r3=>?_⟩⟩⟩⟩;exact⟨q.trans s3,(e.mono λ_ _ _ z=>j5.same s3.t z).snoc r3⟩
 . rintro ys G ⟨q,e⟩;show(n:Int).toNat<=n;omega
 . rintro us G up ⟨q,e⟩ nup;show E4 (o:=.lst us) nup λH1 s1 k1=>?_;have q1:=q.trans s1;have e1:=e.mono (H':=H1) λ_ _ _ z=>j5.same s1.t z;show va U (zf ⟨U,U,o9.of<|q1 _ _ hm,U,va U<|zf ⟨U,U,o9.of<|q1 _ _ gm,U,.tup tp,.tup tp',za ⟨ts,qH,U,U,U,o9.of<|q1 _ _ fw,o9.of<|q1 _ _ jw,o4 (n:=l.length) (λi ys G=>h9 H1 G/\j8 (λa u H=>B5 R (n+n') (n+n') (Mn R.S n (tb a)<|tb' a) u H) ys i G) Z ⟨h9.refl _,j8.nil⟩ (λj ys G q=>q.2.1) ?_ ?_ ?_⟩⟩⟩)
   . rintro i ys G2 hi ⟨q2,e2⟩;have OL:=q1.trans q2;obtain⟨u,eu,pu⟩:=eT.2 i hi;obtain⟨x,ex,px⟩:=eT'.2 i hi;show⟨⟨ts,qH,u,x,o9.of<|OL _ _ fw,o9.of<|OL _ _ jw,eu,ex⟩,λy' H' hy=>?_⟩;obtain⟨pp,x',y',rfl,np,rfl,f1,f2⟩:=hy;have g1:=f1 _<|o9.of<|OL _ _ fw;rw[eu]at g1;cases g1;have g2:=f2 _<|o9.of<|OL _ _ jw;rw[ex]at g2;cases g2;show E4 (o:=.tup [u,x]) np λG3 s3 k3=>?_;have q3:=OL.trans s3;have qZ:=q2.trans s3;show⟨pp,va U ⟨o9.of k3,U,za ⟨U,za ⟨U,U,⟨[some _,some _],U,U⟩,vc U U U<|va U ⟨R,zD kv u x up n n' (tb i) (tb' i) us ⟨U,⟨hk.same q3,B5.same q3.t pu,B5.same q3.t px,qZ _ _ k1,e1.mono λ_ _ _ z=>j5.same qZ.t z,hn,kE⟩,λv G4 s4 r4=>?_⟩⟩⟩⟩⟩⟩;exact⟨qZ.trans s4,(e2.mono λ_ _ _ z=>B5.same (s3.trans s4).t z).snoc r4⟩
   . rintro ys G2 ⟨q2,e2⟩;exact⟨ts,qH,o9.of<|(q1.trans q2) _ _ fw,o9.of<|(q1.trans q2) _ _ jw,.inl<|by rw[eT.1]⟩
   . rintro ys G2 bp ⟨q2,e2⟩ lD;show E4 (o:=.lst ys) lD λH2 s2 k2=>?_;have u2:=q1.trans<|q2.trans s2;show va U<|zf ⟨U,U,o9.of<|u2 _ _ hm,U,?_⟩;show va U<|zf ⟨U,U,o9.of<|u2 _ _ hm,U,va U<|zf ⟨U,U,o9.of<|u2 _ _ gm,U,zf ⟨U,U,u2 _ _ fM,u2 _ _ su,Z,λp3 H3 s3 h3=>?_⟩⟩⟩;show va U ⟨bp,ys,U,.inl ⟨p9.of<|s3 _ _ k2,λp4 n4=>?_⟩⟩;show E4 (o:=.tup ys) n4 λH4 s4 k4=>?_;have u4:=u2.trans<|s3.trans s4;show va U<|zf ⟨U,U,o9.of<|u4 _ _ hm,U,va U<|zf ⟨U,U,o9.of<|u4 _ _ gm,U,zf ⟨U,U,u4 _ _ jb,u4 _ _ iQ,Z,λp5 H5 s5 h5=>?_⟩⟩⟩;show⟨sL,λp6 n6=>?_⟩;have s6:=c7 (o:=.tup [vT l,V.ref p3,V.ref p4,V.ref p5]) n6;have u6:=u4.trans<|s5.trans s6;exact k _ _ u6 ⟨p6,_,_,va U ⟨b9,⟨p3,va U ⟨(s4.trans<|s5.trans s6) _ _ h3,(Di eS yz).mono λ_ _ _ z=>R.same u6.t z⟩⟩,⟨p4,ys,U,(s5.trans s6) _ _ k4,e2.mono λ_ _ _ z=>B5.same (s2.trans<|s3.trans<|s4.trans<|s5.trans s6).t z⟩,⟨p5,va U ⟨s6 _ _ h5,(Di eE nY).mono λ_ _ _ z=>R.same u6.t z⟩⟩⟩⟩
def WC{J:It}{n k:Nat}{g:TG}{tc:TT}{te:TE}{σ:L2.St}{Q:VK}{H1:Hp}(Pv:Nat->List V->Hp->Prop)(hn:n<=10000)(h0:Pv 0 [] H1)(hl:∀i ys H,Pv i ys H->ys.length<=i)
    (tG:∀i ys H,i < n->Pv i ys H->J.go i H/\∀x H',J.yld i H x H'->g x (σ++List.replicate k none) H' λσ2 H2=>(∃zs,σ2=σ++zs/\zs.length=k)/\tc σ2 H2 λb H3=>if b=true then te σ2 H3 λv H4=>Pv (i+1) (ys++[v]) H4 else Pv (i+1) ys H3)
    (iJ:∀ys H,Pv n ys H->J.stop n H) (iR:∀ys H p,Pv n ys H->H p=none->Q (.ref p) (upd H p<|.lst ys)) :
    Jb J k g tc te σ Q H1:=by
 have z:=sZ;show⟨λi m ys H=>m=n - i/\i<=n/\Pv i ys H,⟨n,U,aP _,h0⟩,?_⟩;rintro i m ys H ⟨rfl,hi,p⟩;have yl:=hl i ys H p;by_cases fB:i < n
 . obtain⟨a,b⟩:=tG i ys H fB p;show .inr ⟨a,Z,λx H' y=>?_⟩;have c:=b x H' y;have e1:∀ys H3,(∃m',m' < n - i/\m'=n - (i+1)/\i+1<=n/\Pv (i+1) ys H3)=Pv (i+1) ys H3:=λys H3=>propext ⟨λ⟨_,_,_,_,q⟩=>q,λq=>⟨_,Z,U,fB,q⟩⟩;simp only[e1];exact c
 . have e:i=n:=by omega
   subst e;exact .inl ⟨iJ ys H p,Z,λq nq=>iR ys H q p nq⟩
variable(w K mg base)in def Xl:Sp:=λvs H Q _=>∃(R:c9 Pr w K mg base),∃kv mv ov l,∃(n n':Nat),∃st tb en st' tb' en',vs=[kv,mv,ov]/\(N9 R.C R.fs H kv/\j9 R l n st tb en mv H/\j9 R l n' st' tb' en' ov H/\N4 l/\n<=60/\n'<=60)/\
 ∀v H',h9 H H'->j9 R l (n+n') (S6 R.S n st st') (λa=>Mn R.S n (tb a)<|tb' a) (S6 R.S n en λi=>R.F.neg<|en' i) v H'->Q v H'
def XX:w8 Pr w K mg base F6 44 t.a1r t.d_less Jd (Xl w K mg base):=by
 show T.a1d.F.okA Ri λ_ _ _ _ H _ _ _ hr h=>?_;obtain⟨R,kv,mv,ov,l,n,n',st,tb,en,st',tb',en',rfl,⟨⟨kp,dx,rfl,hk⟩,hM,fQ,L,hn,kE⟩,k⟩:=h;obtain⟨rK,oI,oG,uw,rfl,gm,jS,wD,⟨lT,fm,rfl,iQ,nY⟩⟩:=id fQ;show⟨_,(c5 (sT 3 Ri.nd<|i3 c8 bR T.z_tuple boot_tuple<|B3<|x8 (xs:=["x"]) U (oC [x6,BH,AA,"minus_ends"]<|a8 Li) (J2<|D5 j7 (O 2) c4) (r9 (i:=4) (by show List.Nodup ([x6,BH,AA,"minus_ends","x"]:w1f);decide +kernel) U<|Or.inl U)<|V2 (O 0) R.cl R.t_minus R.G_minus hr.m R.b_minus .nil C3<|B3<|O 4)<|c6<|h7<|D2 (Jz T) hr.m T.t0g<|S3 (O 0) (O 1)<|D0<|Ik (D5 j7 (O 2) c4) (D5 j7 (O 2) c4) (D5 j7 (O 2) c4)<|O 3),?_⟩;norm_cast;show va U (zf ⟨U,U,o9.of gm,U,lT,U,⟨_,o9.of iQ⟩,o4 (n:=n') (λi ys G=>h9 H G/\j8 (λi u H=>R.is H u<|R.F.neg<|en' i) ys i G) Z ⟨h9.refl _,j8.nil⟩ (λj ys G q=>q.2.1) ?_ ?_ ?_⟩)
 . rintro i ys G hi ⟨q,e⟩;obtain⟨u,eu,pu⟩:=nY.2 i hi;show Dy (o9.of<|q _ _ iQ) eu ?_;show⟨⟨[some _],U,U⟩,va U<|zd ⟨U,q _ _ hk,R.l_minus,va U<|zd ⟨U,⟨za ⟨U,q _ _ hk⟩,R.same q.t pu⟩,λv G3 s3 r3=>?_⟩⟩⟩;exact⟨q.trans s3,(e.mono λ_ _ _ z=>R.same s3.t z).snoc r3⟩
 . rintro ys G ⟨q,e⟩;exact⟨_,o9.of<|q _ _ iQ,by rw[nY.1];exact ae _⟩
 . rintro ys G lp ⟨q,e⟩ nl;have s1:=c7 (o:=.lst ys) nl;show⟨lp,ys,U,.inl ⟨p9.of b9,λp2 n2=>?_⟩⟩;have s2:=c7 (o:=.tup ys) n2;have k2:=b9 (H:=upd G lp<|.lst ys) (a:=p2) (o:=.tup ys);revert s1 s2 k2;generalize upd (upd G lp<|.lst ys) p2 (.tup ys)=H2;intro s1 s2 k2;have u2:=q.trans<|s1.trans s2;show vc U U U<|zf ⟨U,U,o9.of<|u2 _ _ gm,U,va U<|zf ⟨U,U,o9.of<|u2 _ _ gm,U,va U<|zf ⟨U,U,o9.of<|u2 _ _ gm,U,va U ⟨sL,λp3 n3=>?_⟩⟩⟩⟩;show E4 (o:=.tup [vT l,oI,oG,V.ref p2]) n3 λH3 s3 k3=>?_;have u3:=u2.trans s3;show⟨R,zI (.ref kp) mv (.ref p3) l n n' st tb en st' tb' _ ⟨U,⟨za ⟨U,u3 _ _ hk⟩,j9.same u3.t hM,⟨p3,zd ⟨U,k3,j5.same u3.t jS,IW.same u3.t wD,⟨p2,ys,U,s3 _ _ k2,e.mono λ_ _ _ z=>R.same (s1.trans<|s2.trans s3).t z⟩⟩⟩,L,hn,kE⟩,λv H4 s4 r4=>?_⟩⟩;exact k _ _ (u3.trans s4) r4
structure WJ(R:c9 Pr w K mg base)(l:w1e)(n μ:Nat)(st:QQ R.S)(tb:FF R.S)(en:QQ R.S)(ws:List w1e):Prop where
 mb:MB R.B n l.length μ st tb en
 L:N4 l
 hn:n<=60
 al:∀u∈ws,u.length<=n/\∀c∈u,c∈l
 wl:ws.length<=1000
 sm:N5 R.S (3 * ((n+2) * (μ+n)))
variable(w K mg base)in def Pc:Sp:=λvs H Q _=>∃(R:c9 Pr w K mg base),∃kv mv a l,∃(n μ:Nat),∃st tb en ws,vs=[kv,mv,.ref a]/\(N9 R.C R.fs H kv/\j9 R l n st tb en mv H/\L6 R n (h8 R.S n st<|w5 l tb) ws a H/\WJ R l n μ st tb en ws)/\
 ∀b H',h9 H H'->H b=none->H' b=some (.lst<|(GJ (D9 R.S l n st tb en) ws).map vT)->Q (.ref b) H'
def Im:w8 Pr w K mg base F6 42 t.z0d t.x0s VC (Pc w K mg base):=by
 show T.w0u.F.okA Pn λ_ _ _ _ H _ _ _ hr h=>?_;obtain⟨R,kv,mv,a,l,n,μ,st,tb,en,ws,rfl,⟨⟨kp,dx,rfl,hk⟩,hM,⟨us,ha,eP⟩,P⟩,k⟩:=h;obtain⟨mp,sv,tv,ev,rfl,hm,h1,h2,h3⟩:=id hM;have hn:=P.hn;have wl:=P.wl;show⟨_,(c6<|h7<|SV (xs:=Vx) U (oC VC<|a8 CV) (C5<|O 2) (show PG _ _ (Ep K 2 _)from(I9 U<|l5 (r9 (i:=3) (by show List.Nodup ([x6,Do,"found",GY,C8]:w1f);decide +kernel) U<|Or.inl U)<|l5 (r9 (i:=4) (by show List.Nodup ([x6,Do,"found",GY,C8]:w1f);decide +kernel) U<|Or.inl U) D7)) (o6 (show FI _ (compareOp .NotEq) (UY K)from Gk hr.units) (C1 (PM (w:=w) (base:=base) T) hr.m U T.a1l.m T.a1l.F.kp T.a1l.b .nil C3<|S3 (O 0) (O 4)<|D5 (show Kx _ (Jy K)from j7) (O 1) c4) (W0 (O 0) R.cl R.t_nought R.G_nought hr.m R.b_nought .nil C3)<|o7 _)<|O 3),?_⟩;norm_cast;show va U ⟨a,U,⟨_,p9.of ha⟩,WC (n:=ws.length) (λj ys G=>h9 H G/\ys=(GJ (D9 R.S l n st tb en)<|ws.take j).map vT) Z ⟨h9.refl _,U⟩ (λj ys G q=>by rw[q.2,ag];exact af Ro<|by rw[bx];omega) ?_ ?_ ?_⟩
 . rintro j ys G hj ⟨q,rfl⟩;obtain⟨y,ey,wd,pp,rv,ew,rfl,hq,ro⟩:=eP.2 j hj;obtain⟨a1,a2⟩:=P.al wd<|aL ew;show Hm (p9.of<|q _ _ ha) ey ?_;have zx:=(P.mb.row wd a2).mono (M5 a1)<|M5 a1;have e2:(n+2) * (μ+n)=(n+1) * (μ+n)+(μ+n):=bB ..;show⟨pp,va U ⟨o9.of<|q _ _ hq,U,za ⟨U,za ⟨U,U,⟨[some _,some _],U,U⟩,?_⟩⟩⟩⟩;show vc U U U<|zf ⟨U,U,o9.of<|q _ _ hm,U,R,zw _ rv ev n _ en ((n+2) * (μ+n)) ⟨U,⟨za ⟨U,q _ _ hk⟩,j5.same q.t ro,j5.same q.t h3,Az zx P.mb.en Z Z,P.sm⟩,λv G1 s1 f1=>?_⟩⟩;have q1:=q.trans s1;show va U<|zd ⟨U,q1 _ _ hk,R.l_nought,va U ⟨za ⟨U,q1 _ _ hk⟩,λzv G2 s2 f2=>?_⟩⟩;by_cases e:D9 R.S l n st tb en wd=R.S.zero
   . show R.neD (R.same s2.t f1) f2 e (va U ?_)
     (try show Em ?_)
     exact⟨q1.trans s2,by rw[a0h ew e]⟩
   . show R.neT (R.same s2.t f1) f2 e (va U ?_)
     (try show Om ?_)
     exact va U ⟨q1.trans s2,by rw[XJ ew e,bb];rfl⟩
 . rintro ys G ⟨q,rfl⟩;exact⟨_,p9.of<|q _ _ ha,by rw[eP.1];exact ae _⟩
 . rintro ys G z ⟨q,rfl⟩ nz;rw[bo];show k z _ (q.trans<|c7 nz) ?_ b9;cases e:H z with
   | none=>rfl
   | some o=>rw[q _ _ e]at nz;cases nz
variable(w K mg base)in def BS:Sp:=λvs H Q _=>∃(R:c9 Pr w K mg base),∃kv mv a l,∃(n μ:Nat),∃st tb en ws,vs=[kv,mv,.ref a]/\(N9 R.C R.fs H kv/\j9 R l n st tb en mv H/\L6 R n (h8 R.S n st<|w5 l tb) ws a H/\WJ R l n μ st tb en ws)/\
 ∀b H',h9 H H'->H b=none->L6 R n (h8 R.S n st<|w5 l tb) (gP l (D9 R.S l n st tb en) ws) b H'->Q (.ref b) H'
def Cy:w8 Pr w K mg base F6 46 t.r0g t.q0v XZ (BS w K mg base):=by
 show T.q0w.F.okA Ca λ_ _ _ _ H _ _ _ hr h=>?_;obtain⟨R,kv,mv,a,l,n,μ,st,tb,en,ws,rfl,⟨hk,hM,hP,P⟩,k⟩:=h;show⟨_,(c5 (D3 (o6 AZ (x9 B4 bR T.z_len PySem.boot_len<|B3<|D2 (Im T) hr.m T.w0u<|S3 (O 0) (O 1)<|O 2) c4<|o7 _) (c6<|h7<|D1 K6) x5)<|c6<|h7<|D2 (S7 T) hr.m T.q0n<|S3 (O 0) (O 1)<|O 2),?_⟩;norm_cast;show vc U U U ⟨R,zE kv mv a l n μ st tb en ws ⟨U,⟨hk,hM,hP,P⟩,λb H1 s1 nb hb=>?_⟩⟩;have hl:BA K (.ref b) H1 (GJ (D9 R.S l n st tb en) ws).length:=.inl ⟨_,p9.of hb,by rw[ag]⟩;show za ⟨U,hl,za ⟨U,U,va U ?_⟩⟩;have bn:∀{z:Addr},H1 z=none->H z=none:=λ{z} nz=>by
  cases e:H z with
  | none=>rfl
  | some o=>rw[s1 _ _ e]at nz;cases nz
 show Dw (λgt=>?_) (λgt=>?_)
 . show⟨sL,λz nz=>?_⟩;show k z _ (s1.trans<|c7 nz) (bn nz) ?_;unfold gP;rw[if_neg Z];exact⟨[],b9,j8.nil⟩
 . show vc U U U ⟨R,zE kv mv a l n μ st tb en ws ⟨U,⟨hk.same s1,j9.same s1.t hM,P.mb,P.L,P.hn,hP.same s1,P.al,P.wl,P.sm⟩,λz H2 s2 nz hz=>?_⟩⟩;show k z _ (s1.trans s2) (bn nz) ?_;unfold gP;rw[if_pos Z];exact hz
def OG(R:c9 Pr w K mg base)(n:Nat)(es:w1a R.S)(v:V)(H:Hp):Prop:=∃q z x y us,v=.ref q/\H q=some (.tup [.ref z,x,y])/\H z=some (.lst us)/\j8 (λi u H=>j5 R n (Mine.kv es i) u H) us es.length H
theorem OG.same{R:c9 Pr w K mg base}{n:Nat}{es:w1a R.S}{v:V}{H H':Hp}(s:h9 H H')(h:OG R n es v H):OG R n es v H':=by obtain⟨q,z,x,y,us,rfl,h1,h2,h3⟩:=h;exact⟨q,z,x,y,us,U,s _ _ h1,s _ _ h2,h3.mono λ_ _ _ g=>j5.same s.t g⟩
variable(w K mg base)in def MN(t:ON):Sp:=λvs H Q _=>∃(R:c9 Pr w K mg base),∃kv mv rv l,∃(n μ k:Nat),∃st tb en rs,vs=[kv,mv,rv]/\(N9 R.C R.fs H kv/\j9 R l n st tb en mv H/\MB R.B n l.length μ st tb en/\N4 l/\n<=60/\k<=60/\DF R n k rs rv H/\(∀i,i < k->XB R.B n ((n+1) * (μ+n)) ((n+1) * (μ+n)) (rs i))/\N5 R.S (3 * zC n μ)/\E6 t H)/\
 ∀es v H',K9 R.F n (Cp rs k) es->OG R n es v H'->E5 (DT t) H H'->E6 t H'->Q v H'
def Nu(fz:WI mg base t):w8 Pr w K mg base F6 54 t.y0v t.u0z [x6,Do,O8] (MN w K mg base t):=by
 show T.v0j.F.okA Aj λ_ _ _ _ H _ Q _ hr h=>?_;obtain⟨R,kv,mv,rv,l,n,μ,k0,st,tb,en,rs,rfl,⟨hk,hM,hB,L,hn,iL,hR,hx,hS,hT⟩,k⟩:=h;have l3:=L.h3;have sl:=sZ;show⟨_,(c5 (sT 3 Aj.nd<|D2 (Iz T fz) hr.m T.w0o<|F1 (O 0)<|O 2)<|c5 (sT 4 Aj.nd<|D2 (GL T) hr.m T.v0c<|S3 (O 0) (O 1)<|O 3)<|c5 (P5 (i₀:=5) (xs:=[Y9]) Aj.nd U (Or.inl U) U (oC b0e<|a8 U0) (J2<|D5 j7 (O 4) c4) (gL 6 o0f)<|x8 (xs:=[C8]) U (show Q0 o0f (rlS (a8 U0) _) _ from⟨U,dK,dK,dK,dK,dK⟩) (show PI _ _ _ (c0k K _)from J2<|O 6) (r9 (i:=7) (by show List.Nodup ([x6,Do,O8,X6,OP,"steps",Y9,C8]:w1f);decide +kernel) U<|Or.inl U)<|i3 (show T3 _ (.type "list") (λxs H Q=>∃p ys,xs=[.ref p]/\(p9 K H p ys\/o9 K H p ys)/\∀l,H l=none->Q (.ref l) (upd H l<|.lst ys))from R9) bR T.z_list boot_list<|B3<|O 7)<|c6<|h7<|D0<|S3 (x8 (xs:=[AN,C8]) U (oC b0e<|a8 U0) (C5<|O 3) (show PG _ _ (Ep K 2 _)from(I9 U<|l5 (gL 6 o0i)<|l5 (gL 7 o0i) D7))<|O 7) (i3 R9 bR T.z_list boot_list<|B3<|D5 j7 (O 4) c4)<|O 5),?_⟩;norm_cast;have lH:∀i,i<=k0->∀x∈Cp rs i,XB R.B n ((n+1) * (μ+n)) ((n+1) * (μ+n)) x:=λi hi x iI=>by
  obtain⟨j,hj,rfl⟩:=Hw iI;exact hx j Z
 have zb:=WU (n:=n) (μ:=μ);have zc:=WV (n:=n) (μ:=μ);show vb U U ⟨R,zu kv rv n (zC n μ) k0 rs ⟨U,⟨hk,hR,Z,λi hi _=>Wx (rs:=[]) (lH i Z) (hx i hi) Z,λi k' hi ek=>Ww (lH _<|ae _) Z (aL ek) d0s,hS,hT _ QY⟩,λes a H3 sP gn hK pm pw=>?_⟩⟩;obtain⟨iy,gh⟩:=hT.step T QY sP gn;have ip:y9 H H3:=gh.tup hT.not;have EC:K9 R.F n (Cp rs k0) es:=⟨by rw[XF];exact pm,pw⟩;have el:=EC.le;have pK:=N9.sameD gh hT.not hk;show vc U U U ⟨R,zG kv mv a l n μ (zU n μ) st tb en es ⟨U,⟨pK,j9.same ip hM,hB,hK,EC.xb<|lH _<|ae _,hn,Z,Z,hS.le<|aD _ d0r⟩,λv H4 s4 hN=>?_⟩⟩;obtain⟨mp,sv,tv,ev,rfl,hm,⟨sp,ss,rfl,fM,eS⟩,⟨tp,ts,rfl,fw,eT⟩,h3⟩:=hN;show va U (zf ⟨U,U,o9.of hm,U,tp,U,⟨_,o9.of fw⟩,o4 (n:=l.length) (λi ys G=>h9 H4 G/\ys.length=i) Z ⟨h9.refl _,U⟩ (λj ys G q=>q.2) ?_ ?_ ?_⟩)
 . rintro i ys G hi ⟨q,e⟩;obtain⟨u,eu,pu⟩:=eT.2 i hi;show Dy (o9.of<|q _ _ fw) eu ?_;obtain⟨up,us,rfl,gU,eU⟩:=B5.same q.t pu;show⟨⟨[some _],U,U⟩,va U ⟨up,U,⟨_,o9.of gU⟩,o4 (n:=es.length) (λj zs G2=>h9 G G2/\zs.length=j) Z ⟨h9.refl _,U⟩ (λj ys G q=>q.2) ?_ ?_ ?_⟩⟩
   . rintro j zs G2 hj ⟨q2,e2⟩;obtain⟨x,ex,px⟩:=eU.2 j hj;show Dy (o9.of<|q2 _ _ gU) ex ?_;obtain⟨xp,xs,rfl,ko,eX⟩:=j5.same q2.t px;show⟨⟨[some _],U,U⟩,va U ⟨xp,xs,U,.inr<|o9.of ko,λlp nl=>?_⟩⟩;exact⟨q2.trans<|c7 nl,by rw[aq,e2];rfl⟩
   . rintro zs G2 ⟨q2,e2⟩;exact⟨_,o9.of<|q2 _ _ gU,by rw[eU.1];exact ae _⟩
   . rintro zs G2 z ⟨q2,e2⟩ nz;exact⟨(q.trans q2).trans<|c7 nz,by rw[aq,e];rfl⟩
 . rintro ys G ⟨q,e⟩;exact⟨_,o9.of<|q _ _ fw,by rw[eT.1];exact ae _⟩
 . rintro ys G z ⟨q,e⟩ nz;show E4 (o:=.lst ys) nz λH5 s5 k5=>?_;have q5:=q.trans s5;obtain⟨kus,sW,eK⟩:=hK.same<|s4.trans q5;show va U ⟨a,U,⟨_,p9.of sW⟩,o4 (n:=es.length) (λi zs G=>h9 H5 G/\j8 (λi u H=>j5 R n (Mine.kv es i) u H) zs i G) Z ⟨h9.refl _,j8.nil⟩ (λj ys G q=>q.2.1) ?_ ?_ ?_⟩
   . rintro i zs G2 hi ⟨q2,e2⟩;obtain⟨u,eu,kq,qa,ov,ek,rfl,hq,ro⟩:=eK.2 i hi;show Hm (p9.of<|q2 _ _ sW) eu ?_;show⟨qa,va U ⟨o9.of<|q2 _ _ hq,U,za ⟨U,za ⟨U,U,⟨[some _,some _],U,U⟩,va U ⟨q2,e2.snoc ?_⟩⟩⟩⟩⟩;rw[show Mine.kv es i=kq.2 from GQ ek];exact j5.same q2.t ro
   . rintro zs G2 ⟨q2,e2⟩;exact⟨_,p9.of<|q2 _ _ sW,by rw[eK.1];exact ae _⟩
   . rintro zs G2 z2 ⟨q2,e2⟩ jq;show E4 (o:=.lst zs) jq λH6 s6 k6=>?_;have q6:=q5.trans<|q2.trans s6;show va U<|zf ⟨U,U,o9.of<|q6 _ _ hm,U,sp,ss,U,.inr<|o9.of<|q6 _ _ fM,λp7 n7=>?_⟩;have s7:=c7 (o:=.lst ss) n7;show va U ⟨sL,λp8 n8=>?_⟩;have s8:=s7.trans<|c7 (o:=.tup [V.ref z2,V.ref p7,V.ref z]) n8;have d0i:=s4.trans<|q6.trans s8;exact k es _ _ EC ⟨p8,z2,_,_,zs,U,b9,s8 _ _ k6,e2.mono λ_ _ _ g=>j5.same (s6.trans s8).t g⟩ (gh.trans<|.of d0i) (iy.same d0i)
noncomputable abbrev V6{S:SR}(n:Nat)(st st':QQ S):QQ S:=S6 S n st st'
noncomputable abbrev V5{S:SR}(n:Nat)(tb tb':FF S):FF S:=λa=>Mn S n (tb a) (tb' a)
noncomputable abbrev Dz{S:SR}(F:M0 S)(n:Nat)(en en':QQ S):QQ S:=S6 S n en λi=>F.neg (en' i)
noncomputable def Md{S:SR}(F:M0 S)(l:w1e)(m:Nat)(st:QQ S)(tb:FF S)(en:QQ S):List w1e:=S4 F m (h8 S m st<|w5 l tb) (gP l<|D9 S l m st tb en)
variable(w K mg base)in def UD(t:ON):Sp:=λvs H Q _=>∃(R:c9 Pr w K mg base),∃kv mv ov l,∃(n n' μ:Nat),∃st tb en st' tb' en',vs=[kv,mv,ov]/\(N9 R.C R.fs H kv/\j9 R l n st tb en mv H/\j9 R l n' st' tb' en' ov H/\MB R.B (n+n') l.length μ (V6 n st st') (V5 n tb tb') (Dz R.F n en en')/\N4 l/\n+n'<=60/\N5 R.S (3 * zC (n+n') μ)/\E6 t H)/\
 ∀p v H',E5 (DT t) H H'->E6 t H'->(∀ws,GJ (D9 R.S l (n+n') (V6 n st st') (V5 n tb tb')<|Dz R.F n en en') (Md R.F l (n+n') (V6 n st st') (V5 n tb tb')<|Dz R.F n en en')=ws->(ws=[]/\H' p=some (.tup [.str<|Str.ofString "yes",v])/\∃es,K9 R.F (n+n') ((Md R.F l (n+n') (V6 n st st') (V5 n tb tb')<|Dz R.F n en en').map<|h8 R.S (n+n') (V6 n st st')<|w5 l<|V5 n tb tb') es/\OG R (n+n') es v H')\/∃u T,ws=u::T/\H' p=some (.tup [.str<|Str.ofString "no",vT u]))->Q (.ref p) H'
def NF(fz:WI mg base t):w8 Pr w K mg base F6 56 t.alike t.z0l Jd (UD w K mg base t):=by
 show T.z0n.F.okC EM T.tb_alike T.y0g (by rintro _ _ _ _ ⟨_,_,_,_,_,_,_,_,_,_,_,_,_,_,rfl,_⟩;rfl) λA outer s H vs Q E hr h=>?_;obtain⟨R,kv,mv,ov,l,n,n',μ,st,tb,en,st',tb',en',rfl,⟨hk,hM,fQ,hB,L,hn,hS,hT⟩,k⟩:=h;show⟨_,(c5 (F3<|D2 (AF T) hr.m T.t0b<|B3<|O 0)<|c5 (F3<|D2 (Cu T) hr.m T.q0r<|F1 (O 1)<|O 2)<|c5 (U7 (i:=3) EM.nd U (Or.inr U)<|D2 (XX T) hr.m T.a1d<|S3 (O 0) (O 1)<|O 2)<|c5 (sT 4 EM.nd<|Ij (kf:=47) (pn:="last") (fr:=[x6,Do]) (js:=[0,3]) (λbase=>DD (w:=w) (base:=base) T) hr.m U T.t0i.m T.t0i.F.kp T.t0i.b (Fb (O 0)<|Fb (D5 j7 (O 3) c4)<|Rq fz.alike U U U (show ∀y:Str × NameKind,y∈_->y.2=.free->(a8 Ar).names.lookup y.1=some .cell\/(a8 Ar).names.lookup y.1=some .free from by decide +kernel)) (by exact⟨λ_=>rfl,⟨U,U,U,dK,U,dK,dK,dK⟩,(show ∀y:Str,y∈([x6,Do]:w1f)->(a8 Ar).names.lookup y=some .cell\/(a8 Ar).names.lookup y=some .free from by decide +kernel),dK,U⟩) (λbase _ _ _ _ _ _ _ hr=>(C1 (Cy (w:=w) (base:=base) T) hr.m U T.q0w.m T.q0w.F.kp T.q0w.b .nil C3<|S3 (O 1) (O 2)<|O 0))<|λ_ _ _ _ _=>rfl)<|c5 (sT 5 EM.nd<|D2 (Im T) hr.m T.w0u<|S3 (O 0) (O 3)<|O 4)<|c5 (D3 (o6 AZ (x9 B4 bR T.z_len PySem.boot_len<|B3<|O 5) c4<|o7 _) (c6<|h7<|D0<|F1 Ad<|D5 y8 (O 5) c4) x5)<|c6<|h7<|D0<|F1 Ad<|D2 (Nu T fz) hr.m T.v0j<|S3 (O 0) (O 3)<|x8 (xs:=Vx) U (oC [x6,BH,AA,Do,"found","parted"]<|a8 Ar) (C5<|O 4) (show PG _ _ (Ep K 2 _)from(I9 U<|l5 (gL 6 o0h)<|l5 (gL 7 o0h) D7))<|O 7),?_⟩;norm_cast;show va U ⟨R,kv,U,hk,?_⟩;show vb U U ⟨R,zG mv ov l n n' st tb en st' tb' en' ⟨U,⟨hM,fQ⟩,?_⟩⟩;show vc U U U ⟨R,zI kv mv ov l n n' st tb en st' tb' en' ⟨U,⟨hk,hM,fQ,L,Z,Z⟩,λbv H1 s1 fU=>?_⟩⟩;have fP:=hT.same s1;have jA:=hk.same s1;have fd:∀u∈Md R.F l (n+n') (V6 n st st') (V5 n tb tb') (Dz R.F n en en'),u.length<=n+n'/\∀c∈u,c∈l:=λu hu=>GA GR _ u hu;have fl:(Md R.F l (n+n') (V6 n st st') (V5 n tb tb')<|Dz R.F n en en').length<=n+n':=by unfold Md S4;rw[Bv];exact(M4 _).len
 have fU:j9 R l (n+n') (V6 n st st') (V5 n tb tb') (Dz R.F n en en') bv H1:=fU;have k':=k;unfold Md at k' fd fl;revert fU hB k' fd fl;generalize V6 n st st'=bs;generalize V5 n tb tb'=bt;generalize Dz R.F n en en'=be;generalize n+n'=m at *;intro hB fd fl fU k';obtain⟨mp,sv,tv,ev,rfl,hm,h1,h2,h3⟩:=id fU;have zl:∀i,∀u∈(w6 R.F m (h8 R.S m bs<|w5 l bt) (gP l<|D9 R.S l m bs bt be) i).last,u.length<=m/\∀c∈u,c∈l:=λi u hu=>Qx GR hu;have zFC:=WV (n:=m) (μ:=μ);have vg:=hS.le<|aD 3 zFC;have vh:N5 R.S (3 * ((m+2) * (μ+m))):=vg.le<|aD _ Zl;have tM:∀ws:List w1e,(∀u∈ws,u.length<=m/\∀c∈u,c∈l)->ws.length<=1000->WJ R l m μ bs bt be ws:=λws h1 h2=>⟨hB,L,hn,h1,h2,vh⟩;show⟨[kv,.ref mp],U,vb U U<|zf ⟨U,U,o9.of hm,U,fP _ Us,λf c H2 sP fH hC nf eH hF=>?_⟩⟩;obtain⟨iy,sD⟩:=fP.step T Us sP fH;have fS:y9 H1 H2:=sD.tup fP.not;have iK:N9 R.C R.fs H2 kv:=N9.sameD sD fP.not jA;have nR:=j9.same fS fU;show⟨R.re eH,kv,sv,f,m,(m+1) * (μ+m),(m+1) * (μ+m),h8 R.S m bs<|w5 l bt,gP l<|D9 R.S l m bs bt be,λws=>(∀u∈ws,u.length<=m/\∀c∈u,c∈l)/\ws.length<=1000,λ_=>False,λG=>O0 G c qAL/\N9 R.C R.fs G kv/\j9 R l m bs bt be (.ref mp) G/\E6 t G,U,⟨iK,j5.same fS h1,hn,?_,⟨⟨hC,iK,nR,iy⟩,λG G' s' j=>⟨O0.same0 s' j.1,j.2.1.same s',j9.same s'.t j.2.2.1,j.2.2.2.same s'⟩,λa xs G G' _ ha s' j=>⟨O0.sameX s' ha j.1,?_,j9.same (s'.lt ha) j.2.2.1,j.2.2.2.sameX s' ha⟩⟩,λG j b d=>d.elim,GR.1,λi ne=>?_,λi u hu=>(hB.row u (zl i u hu).2).mono (M5 (zl i u hu).1)<|M5 (zl i u hu).1,vg.le<|aD _ WU⟩,λb H3 s3 j3 nb hP=>?_⟩
 . show IZ.imp hF λv G Q' h=>?_;obtain⟨a,ws,e,⟨hL,⟨o1,o2⟩,j1,j2,j3,j4⟩,k'⟩:=h;cases e;show⟨j1,vc U U U<|va U ⟨R.re eH,kv,.ref mp,a,l,m,μ,bs,bt,be,ws,U,⟨j2,j3,hL,⟨hB,L,hn,o1,o2,vh⟩⟩,λb G' s' nb hP=>?_⟩⟩;exact k' b G' (.of s') ⟨O0.same0 s' j1,j2.same s',j9.same s'.t j3,j4.same s'⟩ nb hP
 . obtain⟨kp,dx,rfl,gE⟩:=j.2.1;exact⟨kp,dx,U,s' _ _ (λz=>by rw[z,ha]at gE;cases gE) gE⟩
 . show⟨λu hu=>zl i u<|R8 hu,?_⟩;have e:=Ay (F:=R.F) (l:=m) (ρ:=h8 R.S m bs<|w5 l bt) (ws:=(w6 R.F m (h8 R.S m bs<|w5 l bt) (gP l<|D9 R.S l m bs bt be) i).last) (ks:=(w6 R.F m (h8 R.S m bs<|w5 l bt) (gP l<|D9 R.S l m bs bt be) i).ks);have k2:=(M4 (F:=R.F) (l:=m) (ρ:=h8 R.S m bs<|w5 l bt) (g:=gP l<|D9 R.S l m bs bt be)<|i+1).len;have k2:(AM R.F m (h8 R.S m bs<|w5 l bt) (w6 R.F m (h8 R.S m bs<|w5 l bt) (gP l<|D9 R.S l m bs bt be) i).ks (w6 R.F m (h8 R.S m bs<|w5 l bt) (gP l<|D9 R.S l m bs bt be) i).last).length<=m:=k2;show(Q6 R.F m (h8 R.S m bs<|w5 l bt) (w6 R.F m (h8 R.S m bs<|w5 l bt) (gP l<|D9 R.S l m bs bt be) i).ks (w6 R.F m (h8 R.S m bs<|w5 l bt) (gP l<|D9 R.S l m bs bt be) i).last).length<=1000;omega
 . have hP:L6 R m (h8 R.S m bs<|w5 l bt) (S4 R.F m (h8 R.S m bs<|w5 l bt)<|gP l<|D9 R.S l m bs bt be) b H3:=hP;have gn:=j3.2.2.2;have pK:N9 R.C R.fs H3 kv:=j3.2.1;have jC:=j3.2.2.1;have gh:E5 (DT t) H1 H3:=sD.trans λc o _ e=>s3 c o (λz=>z) e;have hx:∀u∈S4 R.F m (h8 R.S m bs<|w5 l bt) (gP l<|D9 R.S l m bs bt be),XB R.B m ((m+1) * (μ+m)) ((m+1) * (μ+m)) (h8 R.S m bs (w5 l bt) u):=λu hu=>(hB.row u (fd u hu).2).mono (M5 (fd u hu).1)<|M5 (fd u hu).1;revert hP k' fd fl hx;generalize S4 R.F m (h8 R.S m bs<|w5 l bt) (gP l<|D9 R.S l m bs bt be)=ws;intro fd fl k' hP hx;have hd:=tM ws fd Z;show vc U U U ⟨R,zE kv (.ref mp) b l m μ bs bt be ws ⟨U,⟨pK,jC,hP,hd⟩,λpb H4 s4 npb sJ=>?_⟩⟩;have pl:=Ro (D:=D9 R.S l m bs bt be) (ws:=ws);have hl:BA K (.ref pb) H4 (GJ (D9 R.S l m bs bt be) ws).length:=.inl ⟨_,p9.of sJ,by rw[ag]⟩;have oP:=gh.trans<|.of s4;show va U<|za ⟨U,hl,za ⟨U,U,va U ?_⟩⟩;cases ep:GJ (D9 R.S l m bs bt be) ws with
   | cons u Tl=>
    show Dw (λgt=>?_) (λgt=>absurd (show(0:Int) < ((u::Tl).length:Nat) by rw[bM];omega) gt);rw[ep]at sJ;show va U (zf ⟨U,U,p9.of sJ,(show OM ((u::Tl).map vT) 0=some (vT u)from E7 (j:=0) U),sL,λp np=>?_⟩);have s5:=c7 (o:=.tup [V.str<|Str.ofString "no",vT u]) np;show k' p .non _ ((E5.of s1).trans<|oP.trans<|.of s5) ((gn.same s4).same s5) λws' e'=>.inr ⟨u,Tl,?_,b9⟩;rw[<- e',ep]
   | nil=>
    show Dw (λgt=>absurd gt<|by simp)<|λgt=>?_;obtain⟨us,hb,eP⟩:=hP.same s4;show vc U U U ⟨b,U,⟨_,p9.of hb⟩,o4 (n:=ws.length) (λj ys G=>j8 (λi u H=>j5 R m (h8 R.S m bs (w5 l bt)<|ws.getD i []) u H) ys j H4/\G=H4) Z ⟨j8.nil,U⟩ (λj ys H3 q=>q.1.1) ?_ ?_ ?_⟩
    . rintro j ys G hj ⟨e,rfl⟩;obtain⟨y,ey,wd,q,rv,ew,rfl,hq,ro⟩:=eP.2 j hj;show Hm (p9.of hb) ey ?_;show⟨q,va U ⟨o9.of hq,U,za ⟨U,za ⟨U,U,⟨[some _,some _],U,U⟩,va U ⟨e.snoc ?_,U⟩⟩⟩⟩⟩;rw[aU,ew];exact ro
    . rintro ys G ⟨e,rfl⟩;exact⟨_,p9.of hb,by rw[eP.1];exact ae _⟩
    . rintro ys G z ⟨e,rfl⟩ nz;show E4 (o:=.lst ys) nz λH5 s5 k5=>?_;have Ib:=s4.trans s5;show⟨R,zG kv (.ref mp) (.ref z) l m μ ws.length bs bt be (λi=>h8 R.S m bs (w5 l bt)<|ws.getD i []) ⟨U,⟨pK.same Ib,j9.same Ib.t jC,hB,L,hn,Z,⟨z,ys,U,k5,e.mono λ_ _ _ q=>j5.same s5.t q⟩,λi hi=>hx _<|Mine.F4 hi,hS,gn.same Ib⟩,λes v H6 EC hW my lM=>?_⟩⟩;show⟨sL,λp np=>?_⟩;have s7:=c7 (o:=.tup [V.str<|Str.ofString "yes",v]) np;show k' p v _ ((E5.of s1).trans<|gh.trans<|(E5.of Ib).trans<|my.trans<|.of s7) (lM.same s7) λws' e'=>.inl ⟨by rw[<- e',ep],b9,es,?_,hW.same s7⟩;rw[Rk]at EC;exact EC
def YJ(R:c9 Pr w K mg base)(l:w1e)(n:Nat)(st:QQ R.S)(tb:FF R.S)(en:QQ R.S)(m:Nat):Prop:=∃es,K9 R.F n ((S4 R.F n (h8 R.S n en<|w5 l λa i j=>tb a j i)<|gB l).map<|h8 R.S n en<|w5 l λa i j=>tb a j i) es/\(OO (R:=R) l es.length (Kl n es st)<|λa i j=>Hd n es (λa i j=>tb a j i) a j i).length=m
def q0d(R:c9 Pr w K mg base)(l:w1e)(n n':Nat)(st:QQ R.S)(tb:FF R.S)(en:QQ R.S)(st':QQ R.S)(tb':FF R.S)(en':QQ R.S)(v:V)(H:Hp):Prop:=
 (v=.non/\(GJ (D9 R.S l (n+n') (V6 n st st') (V5 n tb tb')<|Dz R.F n en en') (Md R.F l (n+n') (V6 n st st') (V5 n tb tb')<|Dz R.F n en en')≠[]\/n'≠n\/∃m,YJ R l n st tb en m/\m≠n))\/
 (GJ (D9 R.S l (n+n') (V6 n st st') (V5 n tb tb')<|Dz R.F n en en') (Md R.F l (n+n') (V6 n st st') (V5 n tb tb')<|Dz R.F n en en')=[]/\n'=n/\YJ R l n st tb en n/\∃es,K9 R.F (n+n') ((Md R.F l (n+n') (V6 n st st') (V5 n tb tb')<|Dz R.F n en en').map<|h8 R.S (n+n') (V6 n st st')<|w5 l<|V5 n tb tb') es/\N8 (λi u H=>j5 R n' (λj=>Mine.kv es i<|n+j) u H) es.length v H)
def TC{P:Nat->V->Hp->Prop}{us:List V}{n m:Nat}{H:Hp}(h:j8 P us (n+m) H):j8 (λj=>P<|n+j) (us.drop n) m H:=⟨by rw[de,h.1];omega,λj hj=>by
 obtain⟨u,e,q⟩:=h.2 (n+j) Z;exact⟨u,by rw[List.getElem?_drop];exact e,q⟩⟩
variable(w K mg base)in def Pb(t:ON):Sp:=λvs H Q _=>∃(R:c9 Pr w K mg base),∃kv mv ov l,∃(n n' μ:Nat),∃st tb en st' tb' en',vs=[kv,mv,ov]/\(N9 R.C R.fs H kv/\j9 R l n st tb en mv H/\j9 R l n' st' tb' en' ov H/\MB R.B (n+n') l.length μ (V6 n st st') (V5 n tb tb') (Dz R.F n en en')/\MB R.B n l.length μ st tb en/\N4 l/\n+n'<=60/\N5 R.S (3 * zC (n+n') μ)/\N5 R.S (3 * zH n μ)/\E6 t H)/\
 ∀v H',E5 (DT t) H H'->E6 t H'->q0d R l n n' st tb en st' tb' en' v H'->Q v H'
def PJ(fz:WI mg base t):w8 Pr w K mg base F6 60 t.z0r t.w0z Jd (Pb w K mg base t):=by
 show T.x0g.F.okA DI λ_ _ _ _ H _ _ _ hr h=>?_;obtain⟨R,kv,mv,ov,l,n,n',μ,st,tb,en,st',tb',en',rfl,⟨hk,hM,fQ,hB,lR,L,hn,hS,jQ,hT⟩,k⟩:=h;have zl:=sZ;show⟨_,(l7 (sT 3 DI.nd<|D2 (NF T fz) hr.m T.z0n<|S3 (O 0) (O 1)<|O 2)<|l7 (U7 (i:=4) DI.nd U (Or.inr U)<|D2 (Ff T) hr.m T.z0p<|B3<|O 1)<|l7 (D3 (PW.pt<|Nn (o6 K8 (D5 j7 (O 3) c4) Ad<|o7 _)<|Nn (o6 Nt (D2 (Ff T) hr.m T.z0p<|B3<|O 2) (O 4)<|o7 _)<|Pw<|o6 Nt (x9 B4 bR T.z_len PySem.boot_len<|B3<|D2 (Vq T fz) hr.m T.z0k<|F1 (O 0)<|O 1) (O 4)<|o7 _) (c6<|h7 Ii) x5)<|c6<|h7<|i3 c8 bR T.z_tuple boot_tuple<|B3<|x8 (xs:=[C8]) U (oC [x6,BH,AA,"told","size"]<|a8 CU) (C5<|D5 j7 (D5 j7 (O 3) c4) c4) (r9 (i:=5) (by show List.Nodup ([x6,BH,AA,"told","size",C8]:w1f);decide +kernel) U<|Or.inl U)<|AY (show d0o _ (YQ K)from Rf) (O 5) (Da<|O 4) Dc),?_⟩;norm_cast;intro xR xE;show vc U U U ⟨R,kv,mv,ov,l,n,n',μ,st,tb,en,st',tb',en',U,⟨hk,hM,fQ,hB,L,hn,hS,hT⟩,λp x H1 gA fP a1=>?_⟩;have u1:y9 H H1:=gA.tup hT.not;have fU:=j9.same u1 hM;have hN1:=j9.same u1 fQ;have jA:=N9.sameD gA hT.not hk;subst xE;intro xR xE;show va U ⟨R,zu mv l n st tb en ⟨U,fU,?_⟩⟩;show R7 4 (.int (n:Nat)) [some kv,some mv,some ov,sr p,none] H1 _;rcases a1 _ rfl with ⟨e0,hp,es,EC,hW⟩ | ⟨u,Tl,e0,hp⟩
 . subst xE;intro xR xE;show va U<|zf ⟨U,U,o9.of hp,U,U,va U ?_⟩;show BE (decide_eq_false (λz=>by have:=V.str.inj z;revert this;decide +kernel)) ?_;show va U ⟨R,zu ov l n' st' tb' en' ⟨U,hN1,va U ⟨U,va U ?_⟩⟩⟩;show VX (λne=>?_) (λee=>?_)
   . exact k _ _ gA fP (.inl ⟨U,.inr<|.inl λz=>ne<|by rw[z]⟩)
   show vb U U ⟨R,zB kv mv l n μ st tb en ⟨U,⟨jA,fU,lR,L,Z,jQ,fP⟩,λkW b2 H2 uN fV fH nb2 we=>?_⟩⟩;have wl:=YZ (R:=R) (m:=kW.length) (ρ:=h8 R.S kW.length (Kl n kW st)<|w5 l<|λa i j=>Hd n kW (λa i j=>tb a j i) a j i) (g:=gB l);have el:=uN.le;have sM:=fV.tup fP.not _ _ hp;show za ⟨U,.inl ⟨_,p9.of we,U⟩,va U ⟨U,va U ?_⟩⟩;show VX (λne=>?_) (λeh=>?_)
   . exact k _ _ (gA.trans fV) fH (.inl ⟨U,.inr<|.inr ⟨_,⟨kW,uN,U⟩,λz=>ne<|congrArg (λm:Nat=>(m:Int))<|(ag ..).trans z⟩⟩)
   obtain⟨q,z,x2,y2,us,rfl,hq,hz,eR⟩:=hW;have hq2:=fV.tup fP.not _ _ hq;have rW:H2 z=some (.lst us):=fV _ _ (fP.lst hz) hz;have u2:y9 H1 H2:=fV.tup fP.not;subst xE;show va U (zf ⟨U,U,o9.of sM,U,zf ⟨U,U,o9.of hq2,U,z,U,⟨_,p9.of rW⟩,o4 (n:=es.length) (λj ys G=>h9 H2 G/\j8 (λi u H=>j5 R n' (λj=>Mine.kv es i<|n+j) u H) ys j G) (by have:=EC.le;omega) ⟨h9.refl _,j8.nil⟩ (λj ys H3 q=>q.2.1) ?_ ?_ ?_⟩⟩)
   . rintro j ys G hj ⟨q,e0⟩;obtain⟨u,eu,pu⟩:=eR.2 j hj;show Hm (p9.of<|q _ _ rW) eu ?_;obtain⟨up,qC,rfl,gU,eU⟩:=j5.same (u2.trans q.t) pu;show⟨⟨[some _],U,U⟩,vc U U U ⟨up,qC,U,o9.of gU,gU,λp5 G5 s5 h5=>?_⟩⟩;rw[Oz<|by rw[eU.1];omega]at h5;exact⟨q.trans s5,(e0.mono λ_ _ _ z=>j5.same s5.t z).snoc ⟨p5,va U ⟨h5,(TC eU).mono λ_ _ _ z=>R.same s5.t z⟩⟩⟩
   . rintro ys G ⟨q,e0⟩;exact⟨_,p9.of<|q _ _ rW,by rw[eR.1];exact ae _⟩
   . rintro ys G z ⟨q,e1⟩ nz;have s3:=c7 (o:=.lst ys) nz;show⟨z,ys,U,.inl ⟨p9.of b9,λl2 n2=>?_⟩⟩;have s4:=s3.trans<|c7 (o:=.tup ys) n2;show k _ _ (gA.trans<|fV.trans<|.of<|q.trans s4) (fH.same<|q.trans s4) (.inr ⟨e0,?_,⟨kW,uN,?_⟩,es,EC,l2,ys,U,b9,e1.mono λ_ _ _ z=>j5.same s4.t z⟩)
     . exact Int.ofNat.inj ee
     . rw[ag]at eh;exact Int.ofNat.inj eh
 . subst xE;intro xR xE;show va U<|zf ⟨U,U,o9.of hp,U,U,va U ?_⟩;show AI (decide_eq_true U) ?_;exact k _ _ gA fP (.inl ⟨U,.inl<|by rw[e0];simp⟩)
def Iw:w8 Pr w K mg base F6 1 t.t0u t.s0q Yb sp_divisor:=by
 show T.s0v.F.okA BX λ_ _ _ _ H _ _ _ hr h=>?_;obtain⟨a,b,rfl,k⟩:=h;show⟨_,(c5 (Cr aB (o6 Nt (O 1) c4<|o7 _)<|c6<|a0e (i:=0) (j:=1) U BX.nd U U bD U U (F1 (O 1)<|o8 F9 (O 0)<|O 1) U)<|c6<|h7<|x9 IV bR T.z_abs boot_abs<|B3<|O 0),?_⟩;show⟨λm σ H'=>∃x y,σ=[some<|.int x,some<|.int y]/\m=y.natAbs/\dv x y=dv a b/\H'=H,zd ⟨U,U,U,U⟩,?_⟩;rintro m σ H' ⟨x,y,rfl,rfl,e,rfl⟩
 (repeat fail)
 show VX (λh0=>?_) (λh0=>?_)
 . show⟨λσ' gF=>∃x' y',σ'=[some<|.int x',some<|.int y']/\y'.natAbs < y.natAbs/\dv x' y'=dv a b/\gF=H',λσ' gF ⟨x',y',e1,e2,e3,e4⟩=>⟨_,e2,x',y',e1,U,e3,e4⟩,?_⟩;show vc U U U<|za ⟨U,U,h0,za ⟨U,?_⟩⟩;exact za ⟨U,Ot _ _ h0,b0t e,U⟩
 . show vb U U ?_
   (try dsimp only)
   rw[out2 e h0];exact k
def sp_low:Sp:=λvs H Q _=>∃a b,vs=[.int a,.int b]/\0 < b/\∀v H',h9 H H'->Jf H' v (tp a b) (bt a b)->Q v H'
def Ea:w8 Pr w K mg base F6 36 t.z0m t.w0t ["_law_top",WY] sp_low:=by
 show T.w0q.F.okA HW λ_ _ _ _ _ _ _ _ hr h=>?_;obtain⟨a,b,rfl,pb,k⟩:=h;have hd:dv a b≠0:=df<|IQ Z;show⟨_,(c5 (sT 2 HW.nd<|D2 (Iw T) hr.m T.s0v<|F1 (O 0)<|O 1)<|c6<|h7<|D0<|F1 (o8 (Fc hr bD QV) (O 0)<|O 2)<|o8 (Fc hr bD QV) (O 1)<|O 2),?_⟩
 (repeat fail)
 show⟨sL,λp hp=>?_⟩;show k _ _ (c7 hp) ?_
 (try dsimp only)
 rw[(RK pb).1,(RK pb).2];exact Jf.new
def QZ(f:∀S:SR,S.W->S.W->S.W):Sp:=λvs H Q _=>∃(R:c9 Pr w K mg base),∃nm p so x y a b m n,So T R nm p/\vs=[so,x,y]/\
 (K7 H so nm p/\R.is H x a/\R.is H y b/\R.S.sz m a/\R.S.sz n b/\N5 R.S (m+n))/\∀v H',h9 H H'->R.is H' v (f R.S a b)->Q v H'
def W3:w8 Pr w K mg base F6 37 t.y0j t.w0c NI (QZ (w:=w) (base:=base) T λS=>S.add):=by
 show T.v0y.F.okA MZ λ_ _ _ _ _ _ _ _ hr h=>?_;obtain⟨R,nm,p,so,x,y,a,b,m,n,hS,rfl,⟨rfl,hx,hy,sa,sb,ib⟩,k⟩:=h;show⟨_,(c5 (D3 (o6 K8 (O 0) c4<|o7 _) (c6<|h7<|D2 (Ea T) hr.m T.w0q<|F1 (o8 O7 (o8 V3 (D5 j7 (O 1) c4)<|D5 j7 (O 2) c4)<|o8 V3 (D5 j7 (O 2) c4)<|D5 j7 (O 1) c4)<|o8 V3 (D5 j7 (O 1) c4)<|D5 j7 (O 2) c4) x5)<|c6<|h7<|o8 F9 (o8 O7 (O 1)<|O 2)<|O 0),?_⟩;norm_cast;cases hS with
 | fr=>
  obtain⟨px,rfl,hx⟩:=hx;obtain⟨py,rfl,hy⟩:=hy;have sa:a.sz m:=sa;have sb:b.sz n:=sb;have ib:=KS ib;show va U ⟨U,va U ?_⟩;show AI (decide_eq_true U) ?_;show va U<|zf ⟨U,U,o9.of hx,U,va U<|zf ⟨U,U,o9.of hy,U,za ⟨U,U,JC (n:=n) sa.1 sb.2 Z,va U<|zf ⟨U,U,o9.of hy,U,va U<|zf ⟨U,U,o9.of hx,U,za ⟨U,U,JC (n:=m) sb.1 sa.2 Z,za ⟨U,U,?_⟩⟩⟩⟩⟩⟩⟩;show va U (zf ⟨U,U,o9.of hx,U,va U<|zf ⟨U,U,o9.of hy,U,za ⟨U,U,JC (n:=n) sa.2 sb.2 Z,za ⟨U,aN a.p b.p,λv H' s' f'=>k v H' s' f'⟩⟩⟩⟩)
 | re p hp gI hi=>
  cases (show x=.int a.x from hx);cases (show y=.int b.x from hy);show va U ⟨U,va U ?_⟩;show BE (decide_eq_false λz=>by injection z with z;omega) ?_;show vb U U (za ⟨U,U,va U<|za ⟨U,U,(show p≠0 by omega),?_⟩⟩);exact k _ _ (h9.refl _) rfl
def R5:w8 Pr w K mg base F6 37 t.x0v t.u0s NI (QZ (w:=w) (base:=base) T λS=>S.mul):=by
 show T.u0l.F.okA La λ_ _ _ _ _ _ _ _ hr h=>?_;obtain⟨R,nm,p,so,x,y,a,b,m,n,hS,rfl,⟨rfl,hx,hy,sa,sb,ib⟩,k⟩:=h;show⟨_,(c5 (D3 (o6 K8 (O 0) c4<|o7 _) (c6<|h7<|D2 (Ea T) hr.m T.w0q<|F1 (o8 V3 (D5 j7 (O 1) c4)<|D5 j7 (O 2) c4)<|o8 V3 (D5 j7 (O 1) c4)<|D5 j7 (O 2) c4) x5)<|c6<|h7<|o8 F9 (o8 Gm (O 1)<|O 2)<|O 0),?_⟩;norm_cast;cases hS with
 | fr=>
  obtain⟨px,rfl,hx⟩:=hx;obtain⟨py,rfl,hy⟩:=hy;have sa:a.sz m:=sa;have sb:b.sz n:=sb;have ib:=KS ib;show va U ⟨U,va U ?_⟩;show AI (decide_eq_true U) ?_;show va U<|zf ⟨U,U,o9.of hx,U,va U<|zf ⟨U,U,o9.of hy,U,za ⟨U,U,JC (n:=n) sa.1 sb.1 Z,?_⟩⟩⟩;show va U (zf ⟨U,U,o9.of hx,U,va U<|zf ⟨U,U,o9.of hy,U,za ⟨U,U,JC (n:=n) sa.2 sb.2 Z,za ⟨U,aN a.p b.p,λv H' s' f'=>k v H' s' f'⟩⟩⟩⟩)
 | re p hp gI hi=>
  cases (show x=.int a.x from hx);cases (show y=.int b.x from hy);show va U ⟨U,va U ?_⟩;show BE (decide_eq_false λz=>by injection z with z;omega) ?_;have cm:TQ a.x b.x:=.inl ⟨by have:=a.h0;omega,by have:=a.h1;omega⟩;show vb U U (za ⟨U,U,cm,va U<|za ⟨U,U,(show p≠0 by omega),?_⟩⟩);exact k _ _ (h9.refl _) rfl
def Sy:Sp:=λvs H Q _=>∃(R:c9 Pr w K mg base),∃nm p so,∃(n:Int),So T R nm p/\vs=[so,.int n]/\(K7 H so nm p/\-2<=n/\n<=2)/\∀v H' x,h9 H H'->R.is H' v x->(n=0->x=R.S.zero)->(n=1->x=R.S.one)->R.S.sz 1 x->R.B.cb 1 2 x->Q v H'
def Ba:w8 Pr w K mg base F6 1 t.a1f t.z0a Yd (Sy (w:=w) (base:=base) T):=by
 show T.z0b.F.okA SM λ_ _ _ _ _ _ _ _ hr h=>?_;obtain⟨R,nm,p,so,n,hS,rfl,⟨rfl,n0,n1⟩,k⟩:=h;show⟨_,(c5 (D3 (o6 K8 (O 0) c4<|o7 _) (c6<|h7<|D0<|F1 (O 1) c4) x5)<|c6<|h7<|o8 F9 (O 1)<|O 0),?_⟩;cases hS with
 | fr=>
  show va U ⟨U,va U ?_⟩;show AI (decide_eq_true U) ?_;show va U ⟨sL,λp1 np=>?_⟩;show k _ _ (⟨n,1,bD,by unfold dv;rw[Int.gcd_one_right];rfl⟩:Fr) (c7 np) Jf.new (λe=>Fr.eq_of e U) (λe=>Fr.eq_of e U) ⟨?_,by show(1:Int).natAbs<=2 ^ 1;decide⟩ ?_
  . show n.natAbs<=2 ^ 1;rw[Nat.pow_one];omega
  . exact⟨by decide,n,U,by show n.natAbs<=2;omega⟩
 | re p hp gI hi=>
  show va U ⟨U,va U ?_⟩;show BE (decide_eq_false λz=>by injection z with z;omega) ?_;show vb U U (za ⟨U,U,(show p≠0 by omega),?_⟩);show k _ _ (Re.of p Z n) (h9.refl _) rfl (λe=>?_) (λe=>?_) trivial trivial
  . subst e;exact Re.eq_of (by show(0:Int).fmod p=0;exact Ie Z Z)
  . subst e;exact Re.eq_of (by show(1:Int).fmod p=1;exact Ie Z Z)
def p13':Mt 13=true:=p13
def o0e{r:Int}(h0:0<=r)(h1:r < 9):∃p:Int,OM ([2,3,5,7,11,13,101,65537,999983].map V.int) r=some (V.int p)/\2<=p/\p<=1000000/\Mt p=true:=by
 rcases(by omega:r=0\/r=1\/r=2\/r=3\/r=4\/r=5\/r=6\/r=7\/r=8)with rfl | rfl | rfl | rfl | rfl | rfl | rfl | rfl | rfl
 . exact⟨2,U,bD,bD,p2⟩
 . exact⟨3,U,bD,bD,p3⟩
 . exact⟨5,U,bD,bD,p5⟩
 . exact⟨7,U,bD,bD,p7⟩
 . exact⟨11,U,bD,bD,p11⟩
 . exact⟨13,U,bD,bD,p13'⟩
 . exact⟨101,U,bD,bD,p101⟩
 . exact⟨65537,U,bD,bD,a0j⟩
 . exact⟨999983,U,bD,bD,XS⟩
def Xi:Sp:=λvs H Q _=>∃(a:Addr),vs=[.ref a]/\Dr H a/\∀(R:c9 Pr w K mg base) nm p v H',So T R nm p->K7 H' v nm p->l6 a H H'->Dr H' a->Q v H'
def NA:w8 Pr w K mg base F6 2 t.y0m t.v0z [V7] (Xi (w:=w) (base:=base) T):=by
 show T.v0s.F.okA GH λ_ _ _ _ H _ _ _ hr h=>?_;obtain⟨a,rfl,hD,k⟩:=h;show⟨_,(c5 (sT 1 GH.nd<|D5 y8 (D1<|J7 c4<|J7 c4<|J7 c4<|J7 c4<|J7 c4<|Ik c4 c4 c4 c4)<|D2 (y6 T) hr.m T.v0w<|F1 (O 0) c4)<|c6<|h7<|D5 y8 (D1<|S3 c4 (O 1)<|O 1)<|D2 (y6 T) hr.m T.v0w<|F1 (O 0) c4),?_⟩;norm_cast;show⟨sL,λp1 n1=>?_⟩;have t1:=c7 (o:=.lst [V.int 2,V.int 3,V.int 5,V.int 7,V.int 11,V.int 13,V.int 101,V.int 65537,V.int 999983]) n1;have k1:upd H p1 (.lst [V.int 2,V.int 3,V.int 5,V.int 7,V.int 11,V.int 13,V.int 101,V.int 65537,V.int 999983]) p1=some (.lst [V.int 2,V.int 3,V.int 5,V.int 7,V.int 11,V.int 13,V.int 101,V.int 65537,V.int 999983]):=b9;have b1:p1≠a:=Ru hD n1;revert t1 k1;generalize upd H p1 (.lst [V.int 2,V.int 3,V.int 5,V.int 7,V.int 11,V.int 13,V.int 101,V.int 65537,V.int 999983])=H1;intro t1 k1;have d1:=hD.same t1;show va U ⟨a,9,U,⟨d1,bD,bD⟩,λr2 H2 s2 d2 a2 b2=>?_⟩;obtain⟨p,ep,p2,p3,p4⟩:=o0e a2 b2;show zf ⟨U,U,p9.of<|s2 _ _ b1 k1,ep,?_⟩;show vb U U ⟨sL,λp5 n5=>?_⟩;have t5:=c7 (o:=.lst [V.int 0,V.int p,V.int p]) n5;have k5:=b9 (H:=H2) (a:=p5) (o:=.lst [V.int 0,V.int p,V.int p]);have b5:p5≠a:=Ru d2 n5;revert t5 k5;generalize upd H2 p5 (.lst [V.int 0,V.int p,V.int p])=H5;intro t5 k5;show va U ⟨a,3,U,⟨d2.same t5,bD,bD⟩,λr6 H6 s6 d6 a6 b6=>?_⟩;have sA:l6 a H H6:=((l6.of t1).trans s2).trans<|(l6.of t5).trans s6;rcases(by omega:r6=0\/r6=1\/r6=2)with rfl | rfl | rfl
 . exact zf ⟨U,U,p9.of<|s6 _ _ b5 k5,U,k _ _ _ _ _ .fr U sA d6⟩
 . exact zf ⟨U,U,p9.of<|s6 _ _ b5 k5,U,k _ _ _ _ _ (.re p p2 p3 p4) U sA d6⟩
 . exact zf ⟨U,U,p9.of<|s6 _ _ b5 k5,U,k _ _ _ _ _ (.re p p2 p3 p4) U sA d6⟩
def Xn:Sp:=λvs H Q _=>∃(R:c9 Pr w K mg base),∃nm p so,So T R nm p/\vs=[so]/\K7 H so nm p/\∀v H',h9 H H'->N9 R.C R.fs H' v->Q v H'
def NC:w8 Pr w K mg base F6 4 t.y0d t.w0i [L3] (Xn (w:=w) (base:=base) T):=by
 show T.v0r.F.okA Na λ_ _ _ _ _ _ _ _ hr h=>?_;obtain⟨R,nm,p,so,hS,rfl,rfl,k⟩:=h;show⟨_,(c5 (D3 (o6 K8 (O 0) c4<|o7 _) (c6<|h7<|Vk T.u0h U T.u0p) x5)<|c6<|h7<|XO T.v0k (CA T) hr.m U T.v0o T.q0q.b .nil C3<|B3<|O 0),?_⟩;cases hS with
 | fr=>
  show va U ⟨U,va U ?_⟩;show AI (decide_eq_true U) ?_;intro x dx nx rH nex;exact k _ _ (Kg nx rH) ⟨x,dx,U,b9⟩
 | re p hp gI hi=>
  show va U ⟨U,va U ?_⟩;show BE (decide_eq_false λz=>by injection z with z;omega) ?_;show va U<|λx dx nx rH nex=>?_;show⟨x,dx,p,U,⟨hp,gI,hi⟩,b9,?_⟩;show⟨U,k _ _ (λb o e=>?_) ⟨x,dx,U,b9⟩⟩;rw[l9<|l8 e nx];exact Kg nx rH b o e
def Pg:Sp:=λvs H Q _=>∃(R:c9 Pr w K mg base),∃nm p,∃(a:Addr),∃so,So T R nm p/\vs=[.ref a,so]/\(Dr H a/\K7 H so nm p)/\∀v H' x,l6 a H H'->Dr H' a->R.is H' v x->R.B.cb 12 48 x->Q v H'
def G0:w8 Pr w K mg base F6 37 t.v0u t.t0l Ye (Pg (w:=w) (base:=base) T):=by
 show T.t0d.F.okA Jr λ_ _ _ _ _ _ _ _ hr h=>?_;obtain⟨R,nm,p,a,so,hS,rfl,⟨hD,rfl⟩,k⟩:=h;show⟨_,(c5 (D3 (o6 K8 (D2 (y6 T) hr.m T.v0w<|F1 (O 0) c4) c4<|o7 _) (c6<|h7<|D2 (Ba T) hr.m T.z0b<|F1 (O 1) c4) x5)<|c5 (D3 (o6 K8 (O 1) c4<|o7 _) (c6<|h7<|D2 (Ea T) hr.m T.w0q<|F1 (o8 Gj (D2 (y6 T) hr.m T.v0w<|F1 (O 0) c4) c4)<|o8 O7 c4<|D2 (y6 T) hr.m T.v0w<|F1 (O 0) c4) x5)<|c6<|h7<|D2 (y6 T) hr.m T.v0w<|F1 (O 0)<|O 1),?_⟩;norm_cast;show va U ⟨a,4,U,⟨hD,bD,bD⟩,λr0 H0 s0 d0 a0 b0=>⟨U,va U ?_⟩⟩;show Dx (λ_=>?_) (λ_=>?_)
 . show va U ⟨R,zm nm p _ 0 ⟨hS,U,⟨U,bD,bD⟩,λv H' x s' f' _ _ z _=>?_⟩⟩;exact k v H' x (s0.trans<|.of s') (d0.same s') f' (R.B.dr _<|R.S.sz_mono _ _ _ bD z)
 . cases hS with
   | fr=>
    show va U ⟨U,va U ?_⟩;show AI (decide_eq_true U) ?_;show va U ⟨a,9,U,⟨d0,bD,bD⟩,λr2 H2 s2 d2 a2 b2=>?_⟩;show za ⟨U,U,va U ⟨a,3,U,⟨d2,bD,bD⟩,λr3 H3 s3 d3 a3 b3=>?_⟩⟩;show za ⟨U,U,za ⟨U,(show(0:Int) < 1+r3 by omega),λv H4 s4 f4=>?_⟩⟩;have e:(2:Nat) ^ 2=4:=rfl;exact k v H4 (Fr.of _ _<|show(0:Int) < 1+r3 by omega) (((s0.trans s2).trans s3).trans<|.of s4) (d3.same s4) f4 (p0n.dr _<|Vr (by rw[e];omega)<|by rw[e];omega)
   | re p hp gI hi=>
    show va U ⟨U,va U ?_⟩;show BE (decide_eq_false λz=>by injection z with z;omega) ?_;show vb U U ⟨a,va U ⟨⟨d0,Z,Z⟩,λr2 H2 s2 d2 a2 b2=>?_⟩⟩;exact k _ _ ⟨r2,a2,b2⟩ (s0.trans s2) d2 rfl trivial
def HJ{α:Type}(d:α){P:Nat->α->V->Hp->Prop}{us:List V}{n:Nat}{H:Hp}(h:j8 (λi u H=>∃x,P i x u H) us n H):∃f:Nat->α,j8 (λi u H=>P i (f i) u H) us n H:=by
 have h2:∀i,∃x,i < n->∃u,us[i]? = some u/\P i x u H:=λi=>by
  by_cases hi:i < n
  . obtain⟨u,e,x,p⟩:=h.2 i hi;exact⟨x,λ_=>⟨u,e,p⟩⟩
  . exact⟨d,λz=>absurd z hi⟩
 exact⟨λi=>(h2 i).choose,h.1,λj hj=>(h2 j).choose_spec hj⟩
def OX{α:Type}(d:α){P:Nat->α->V->Hp->Prop}{v:V}{n:Nat}{H:Hp}(h:N8 (λi u H=>∃x,P i x u H) n v H):∃f:Nat->α,N8 (λi u H=>P i (f i) u H) n v H:=by obtain⟨p,vs,rfl,hp,e⟩:=h;obtain⟨f,hf⟩:=HJ d e;exact⟨f,p,vs,U,hp,hf⟩
def KH{P:Nat->V->Hp->Prop}{a1v:Nat->Prop}{v:V}{n:Nat}{H:Hp}(h:N8 P n v H)(g:∀i u,P i u H->a1v i):∀i,i < n->a1v i:=λi hi=>by
 obtain⟨p,vs,rfl,hp,e⟩:=h;obtain⟨u,_,q⟩:=e.2 i hi;exact g i u q
abbrev BN(R:c9 Pr w K mg base)(b m n:Nat):V->Hp->Prop:=N8 (λ_ u H=>∃x,R.is H u x/\R.B.cb b m x) n
theorem BN.same{R:c9 Pr w K mg base}{b m n:Nat}{v:V}{H H':Hp}(s:y9 H H')(h:BN R b m n v H):BN R b m n v H':=h.mono s λ_ _ _ ⟨x,q,z⟩=>⟨x,R.same s q,z⟩
def BN.ch{R:c9 Pr w K mg base}{b m n:Nat}{v:V}{H:Hp}(h:BN R b m n v H):∃x,j5 R n x v H/\∀i,i < n->R.B.cb b m (x i):=by obtain⟨f,hf⟩:=OX R.S.zero h;exact⟨f,hf.mono (y9.refl _) λ_ _ _ q=>q.1,KH hf λi u q=>q.2⟩
abbrev Ex(R:c9 Pr w K mg base)(b m n:Nat):V->Hp->Prop:=N8 (λ_ u H=>BN R b m n u H) n
theorem Ex.same{R:c9 Pr w K mg base}{b m n:Nat}{v:V}{H H':Hp}(s:y9 H H')(h:Ex R b m n v H):Ex R b m n v H':=h.mono s λ_ _ _ q=>BN.same s q
theorem Ex.ch{R:c9 Pr w K mg base}{b m n:Nat}{v:V}{H:Hp}(h:Ex R b m n v H):∃A,B5 R n n A v H/\∀i,i < n->∀j,j < n->R.B.cb b m (A i j):=by have h2:N8 (λ_ u H=>∃x,j5 R n x u H/\∀i,i < n->R.B.cb b m (x i)) n v H:=h.mono (y9.refl _) λ_ _ _ q=>BN.ch q;obtain⟨f,hf⟩:=OX (λ_=>R.S.zero) h2;exact⟨f,hf.mono (y9.refl _) λ_ _ _ q=>q.1,KH hf λi u q=>q.2⟩
theorem TabsE.ch{R:c9 Pr w K mg base}{b m n k:Nat}{v:V}{H:Hp}(h:N8 (λ_ u H=>Ex R b m n u H) k v H):∃A,IW R k n A v H/\∀a,a < k->∀i,i < n->∀j,j < n->R.B.cb b m (A a i j):=by have h2:N8 (λ_ u H=>∃x,B5 R n n x u H/\∀i,i < n->∀j,j < n->R.B.cb b m (x i j)) k v H:=h.mono (y9.refl _) λ_ _ _ q=>Ex.ch q;obtain⟨f,hf⟩:=OX (λ_ _=>R.S.zero) h2;exact⟨f,hf.mono (y9.refl _) λ_ _ _ q=>q.1,KH hf λi u q=>q.2⟩
structure MC(R:c9 Pr w K mg base)(b m n k:Nat)(st:QQ R.S)(tb:FF R.S)(en:QQ R.S):Prop where
 st:∀i,i < n->R.B.cb b m (st i)
 tb:∀a,a < k->∀i,i < n->∀j,j < n->R.B.cb b m (tb a i j)
 en:∀i,i < n->R.B.cb b m (en i)
def MC.mb{R:c9 Pr w K mg base}{b m n k μ:Nat}{st:QQ R.S}{tb:FF R.S}{en:QQ R.S}(h:MC R b m n k st tb en)(b0:0 < b)(b1:b<=2 ^ μ)(m1:m<=2 ^ μ):MB R.B n k μ st tb en:=
 ⟨⟨b,b0,b1,λj hj=>R.B.mono _ _ _ _ m1<|h.st j hj⟩,λa ha=>⟨b,b0,b1,λi hi j hj=>R.B.mono _ _ _ _ m1<|h.tb a ha i hi j hj⟩,⟨b,b0,b1,λj hj=>R.B.mono _ _ _ _ m1<|h.en j hj⟩⟩
theorem MC.up{R:c9 Pr w K mg base}{b m n k:Nat}{st:QQ R.S}{tb:FF R.S}{en:QQ R.S}(c:Nat)(c0:0 < c)(h:MC R b m n k st tb en):MC R (b * c) (m * c) n k st tb en:=
 ⟨λi hi=>R.B.up _ _ c _ c0<|h.st i hi,λa ha i hi j hj=>R.B.up _ _ c _ c0<|h.tb a ha i hi j hj,λi hi=>R.B.up _ _ c _ c0<|h.en i hi⟩
theorem MC.mono{R:c9 Pr w K mg base}{b m m' n k:Nat}{st:QQ R.S}{tb:FF R.S}{en:QQ R.S}(h:MC R b m n k st tb en)(e:m<=m'):MC R b m' n k st tb en:=
 ⟨λi hi=>R.B.mono _ _ _ _ e<|h.st i hi,λa ha i hi j hj=>R.B.mono _ _ _ _ e<|h.tb a ha i hi j hj,λi hi=>R.B.mono _ _ _ _ e<|h.en i hi⟩
def Dr.ne{H:Hp}{a p:Addr}(d:Dr H a)(n:H p=none):p≠a:=Ru d n
def MT:Sp:=λvs H Q _=>∃(R:c9 Pr w K mg base),∃nm p,∃(a:Addr),∃so l,∃(n:Nat),∃(z:Int),So T R nm p/\vs=[.ref a,so,vT l,.int z]/\(Dr H a/\K7 H so nm p/\N4 l/\n<=60/\z=n)/\∀v H' st tb en,l6 a H H'->Dr H' a->j9 R l n st tb en v H'->MC R 12 48 n l.length st tb en->Q v H'
def Af:w8 Pr w K mg base F6 40 t.u0g t.s0u b0m (MT (w:=w) (base:=base) T):=by
 show T.s0p.F.okA L5 λ_ _ _ _ H _ _ _ hr h=>?_;obtain⟨R,nm,p,a,so,l,n,z,hS,rfl,⟨hD,eQ,L,hn,rfl⟩,k⟩:=h;have l3:=L.h3;have z20:1000 < sizeLine:=by decide
 show⟨_,(l7 (sT 4 L5.nd<|i3 c8 bR T.z_tuple boot_tuple<|B3<|Lj 8 "#1"<|x8 (xs:=[Ai]) U (oC o0r<|a8 M3) (C6 U T.z_range<|B3<|O 3) (gL 9 o0t)<|C1 (G0 (w:=w) (base:=base) T) hr.m U T.t0d.m T.t0d.F.kp T.t0d.b .nil C3<|F1 (O 0)<|O 1)<|l7 (sT 5 L5.nd<|D1 K6)<|l7 (E9 aB U (PB<|O 2) (gN 6 L5.nd)<|l7 (sT 7 L5.nd<|D1 K6)<|l7 (E9 aB U (C6 U T.z_range<|B3<|O 3) (gN 8 L5.nd)<|c6<|F3<|W2 bq bF bH J3 (O 7)<|B3<|i3 c8 bR T.z_tuple boot_tuple<|B3<|x8 (xs:=[ED]) U (oC o0s<|a8 M3) (C6 U T.z_range<|B3<|O 3) (r9 (i:=9) (by show List.Nodup ([V7,L3,Bg,FN,FO,FP,OT,BQ,Ai,ED]:w1f);decide +kernel) U<|Or.inl U)<|C1 (G0 (w:=w) (base:=base) T) hr.m U T.t0d.m T.t0d.F.kp T.t0d.b .nil C3<|F1 (O 0)<|O 1)<|c6<|F3<|W2 bq bF bH J3 (O 5)<|B3<|i3 c8 bR T.z_tuple boot_tuple<|B3<|O 7)<|c6<|Gg 8<|h7<|D0<|Ik (O 2) (O 4) (i3 c8 bR T.z_tuple boot_tuple<|B3<|O 5)<|i3 c8 bR T.z_tuple boot_tuple<|B3<|Lj 8 "#1"<|x8 (xs:=[Ai]) U (oC o0r<|a8 M3) (C6 U T.z_range<|B3<|O 3) (gL 9 o0t)<|C1 (G0 (w:=w) (base:=base) T) hr.m U T.t0d.m T.t0d.F.kp T.t0d.b .nil C3<|F1 (O 0)<|O 1),?_⟩;norm_cast;intro xR xE;show⟨U,vb U U ⟨Z,Z,o4 (n:=n) (λj ys H2=>l6 a H H2/\Dr H2 a/\j8 (λ_ u H=>∃x,R.is H u x/\R.B.cb 12 48 x) ys j H2) Z ⟨l6.refl _ _,hD,j8.nil⟩ (λj ys H2 q=>q.2.2.1) ?_ ?_ ?_⟩⟩
 . rintro j ys H2 hj ⟨q,d2,e2⟩;show IG (by omega) ?_;show⟨⟨[some _],U,U⟩,vb U U ⟨R,zm nm p a so ⟨hS,U,⟨d2,eQ.same<|q.tt hD⟩,λv H3 x s3 d3 iv cv=>?_⟩⟩⟩;exact⟨q.trans s3,d3,(e2.mono λ_ _ _ ⟨x,z1,z2⟩=>⟨x,R.same (s3.tt d2) z1,z2⟩).snoc ⟨x,iv,cv⟩⟩
 . rintro ys H2 ⟨q,d2,e2⟩;show(n:Int).toNat<=n;omega
 rintro gq H0 l0 ⟨q0,d0,e0⟩ vx;have t1:=c7 (o:=.lst gq) vx;show⟨l0,va U<|.inl ⟨p9.of b9,λsp vv=>?_⟩⟩;have t2:=t1.trans<|c7 (o:=.tup gq) vv;have r1:BN R 12 48 n (.ref sp) (upd (upd H0 l0<|.lst gq) sp<|.tup gq):=⟨sp,gq,U,b9,e0.mono λ_ _ _ ⟨x,z1,z2⟩=>⟨x,R.same t2.t z1,z2⟩⟩;have s1:l6 a H (upd (upd H0 l0<|.lst gq) sp<|.tup gq):=q0.trans<|.of t2;have d1:=d0.same t2;clear t1 t2 vx vv;revert r1 s1 d1;generalize upd (upd H0 l0<|.lst gq) sp (.tup gq)=H1;intro r1 s1 d1;subst xE;intro xR xE;show⟨aP _,λtp kc=>?_⟩;have s2:=c7 (o:=.lst []) kc;have k2:=b9 (H:=H1) (a:=tp) (o:=.lst []);have d2:=d1.same s2;have na:tp≠a:=d1.ne kc;revert s2 k2 d2;generalize upd H1 tp (.lst [])=H2;intro s2 k2 d2;subst xE;intro xR xE;show vb U U ⟨L.asc,Mc (n:=l.length) (λi σ H3=>∃v6 v7 v8 ys,σ=[sr a,some so,some<|vT l,some<|.int n,sr sp,sr tp,v6,v7,v8]/\l6 a H1 H3/\Dr H3 a/\H3 tp=some (.lst ys)/\
  j8 (λ_ u H=>Ex R 12 48 n u H) ys i H3) ⟨_,_,_,[],U,.of s2,d2,k2,j8.nil⟩ ?_ ?_⟩
 . rintro i σ H3 hi ⟨v6,v7,v8,ys,rfl,s3,d3,k3,e3⟩;show⟨(by show i < l.toArray.size;simpa using hi),λy G3 hy=>?_⟩;obtain⟨rfl,c,hc,rfl⟩:=hy;intro xR xE;show⟨aP _,λbp lD=>?_⟩;have s4:=c7 (o:=.lst []) lD;have k4:=b9 (H:=G3) (a:=bp) (o:=.lst []);have d4:=d3.same s4;have nb:bp≠a:=d3.ne lD;have nt:tp≠bp:=λz=>by rw[z,lD]at k3;cases k3
   revert s4 k4 d4;generalize upd G3 bp (.lst [])=H4;intro s4 k4 d4;subst xE;intro xR xE;show vb U U ⟨Z,Z,Mc (n:=n) (λj σ H5=>∃v8 zs,σ=[sr a,some so,some<|vT l,some<|.int n,sr sp,sr tp,some<|.str ⟨#[c]⟩,sr bp,v8]/\l6 a G3 H5/\Dr H5 a/\H5 bp=some (.lst zs)/\
    j8 (λ_ u H=>BN R 12 48 n u H) zs j H5) ⟨_,[],U,.of s4,d4,k4,j8.nil⟩ ?_ ?_⟩
   . rintro j σ H5 hj ⟨v8,zs,rfl,s5,d5,k5,e5⟩;show⟨(show j < (n:Int).toNat by omega),λy G5 hy=>?_⟩;obtain⟨rfl,rfl⟩:=hy;show va U ⟨.inl ⟨U,_,p9.of k5⟩,?_⟩;show vb U U ⟨Z,Z,o4 (n:=n) (λj ys H2=>l6 a G5 H2/\Dr H2 a/\j8 (λ_ u H=>∃x,R.is H u x/\R.B.cb 12 48 x) ys j H2) Z ⟨l6.refl _ _,d5,j8.nil⟩ (λj ys H2 q=>q.2.2.1) ?_ ?_ ?_⟩
     . rintro j' fh H2 tD ⟨q,d2,e2⟩;show IG (by omega) ?_;have u1:=((((s1.trans s3).trans s5).trans q).tt hD);show⟨⟨[some _],U,U⟩,vb U U ⟨R,zm nm p a so ⟨hS,U,⟨d2,eQ.same u1⟩,λv H3 x s3 d3 iv cv=>?_⟩⟩⟩;exact⟨q.trans s3,d3,(e2.mono λ_ _ _ ⟨x,z1,z2⟩=>⟨x,R.same (s3.tt d2) z1,z2⟩).snoc ⟨x,iv,cv⟩⟩
     . rintro fh H2 ⟨q,d2,e2⟩;show(n:Int).toNat<=n;omega
     . rintro fh H6 lp ⟨s6,d6,e6⟩ nl;have t1:=c7 (o:=.lst fh) nl;show⟨lp,va U<|.inl ⟨p9.of b9,λl2 n2=>?_⟩⟩;have t2:=c7 (o:=.tup fh) n2;have iz:=t1.trans t2;have k6:=iz _ _<|s6 bp _ nb k5;have sF:BN R 12 48 n (.ref l2) (upd (upd H6 lp<|.lst fh) l2<|.tup fh):=⟨l2,fh,U,b9,e6.mono λ_ _ _ ⟨x,z1,z2⟩=>⟨x,R.same iz.t z1,z2⟩⟩;have uI:=d6.same iz;have jH:l6 a G5 (upd (upd H6 lp<|.lst fh) l2<|.tup fh):=s6.trans<|.of iz;clear t1 t2 iz nl n2;revert k6 sF uI jH;generalize upd (upd H6 lp<|.lst fh) l2 (.tup fh)=H7;intro k6 sF uI jH;show⟨bp,zs,va U ⟨U,k6,(by rw[e5.1];omega),?_⟩⟩;have nx:=B6 (o:=.lst<|zs++[.ref l2]) k6;show⟨_,zs++[.ref l2],U,λc' o nc gO=>?_,?_,b9,(e5.mono λ_ _ _ h=>BN.same nx<|BN.same (jH.tt d5) h).snoc<|BN.same nx sF⟩
       . rw[l9<|l8 gO lD];exact jH c' o nc (s5 c' o nc gO)
       . exact uI.put nb
   . rintro σ H5 ⟨v8,zs,rfl,s5,d5,k5,e5⟩;show⟨(by show(n:Int).toNat<=n;omega),?_⟩;have vH:=s5 tp _ na k3;subst xE;show va U ⟨.inl ⟨U,_,p9.of vH⟩,va U ⟨bp,zs,U,.inl ⟨p9.of k5,λl2 n2=>?_⟩⟩⟩;have t2:=c7 (o:=.tup zs) n2;have k6:=t2 _ _ vH;have sf:Ex R 12 48 n (.ref l2) (upd H5 l2<|.tup zs):=⟨l2,zs,U,b9,e5.mono λ_ _ _ q=>BN.same t2.t q⟩;have d6:=d5.same t2;have s6:l6 a G3 (upd H5 l2<|.tup zs):=s5.trans<|.of t2;clear t2 n2;revert k6 sf d6 s6;generalize upd H5 l2 (.tup zs)=H7;intro k6 sf d6 s6;show⟨tp,ys,va U ⟨U,k6,(by rw[e3.1];omega),?_⟩⟩;have nx:=B6 (o:=.lst<|ys++[.ref l2]) k6;show zd ⟨ys++[.ref l2],U,λc' o nc gO=>?_,?_,b9,(e3.mono λ_ _ _ h=>Ex.same nx<|Ex.same (s6.tt d3) h).snoc<|Ex.same nx sf⟩
     . rw[l9<|l8 gO kc];exact s6 c' o nc (s3 c' o nc gO)
     . exact d6.put na
 . rintro σ H3 ⟨v6,v7,v8,ys,rfl,s3,d3,k3,e3⟩;show⟨(by show l.toArray.size<=_;simp),?_⟩;subst xE;show vc U U U ⟨tp,ys,U,.inl ⟨p9.of k3,λl2 n2=>?_⟩⟩;have t1:=c7 (o:=.tup ys) n2;have ht:N8 (λ_ u H=>Ex R 12 48 n u H) l.length (.ref l2) (upd H3 l2<|.tup ys):=⟨l2,ys,U,b9,e3.mono λ_ _ _ q=>Ex.same t1.t q⟩;have d4:=d3.same t1;have s4:l6 a H1 (upd H3 l2<|.tup ys):=s3.trans<|.of t1;clear t1 n2;revert ht d4 s4;generalize upd H3 l2 (.tup ys)=H4;intro ht d4 s4;show⟨U,vb U U ⟨Z,Z,o4 (n:=n) (λj ys H2=>l6 a H4 H2/\Dr H2 a/\j8 (λ_ u H=>∃x,R.is H u x/\R.B.cb 12 48 x) ys j H2) Z ⟨l6.refl _ _,d4,j8.nil⟩ (λj ys H2 q=>q.2.2.1) ?_ ?_ ?_⟩⟩
   . rintro j' fh H2 tD ⟨q,d2,e2⟩;show IG (by omega) ?_;show⟨⟨[some _],U,U⟩,vb U U ⟨R,zm nm p a so ⟨hS,U,⟨d2,eQ.same<|((s1.trans s4).trans q).tt hD⟩,λv H3 x s3 d3 iv cv=>?_⟩⟩⟩;exact⟨q.trans s3,d3,(e2.mono λ_ _ _ ⟨x,z1,z2⟩=>⟨x,R.same (s3.tt d2) z1,z2⟩).snoc ⟨x,iv,cv⟩⟩
   . rintro fh H2 ⟨q,d2,e2⟩;show(n:Int).toNat<=n;omega
   . rintro fh H5 lp ⟨s5,d5,e5⟩ nl;have t1:=c7 (o:=.lst fh) nl;show⟨lp,va U<|.inl ⟨p9.of b9,λl3 n3=>?_⟩⟩;have t2:=t1.trans<|c7 (o:=.tup fh) n3;have re:BN R 12 48 n (.ref l3) (upd (upd H5 lp<|.lst fh) l3<|.tup fh):=⟨l3,fh,U,b9,e5.mono λ_ _ _ ⟨x,z1,z2⟩=>⟨x,R.same t2.t z1,z2⟩⟩;show⟨sL,λp6 n6=>?_⟩;have t7:=c7 (o:=.tup [vT l,.ref sp,.ref l2,.ref l3]) n6;have t6:=t2.trans t7;have u5:y9 H4 _:=(s5.tt d4).trans t6.t;obtain⟨st,q1,c1⟩:=BN.ch<|(r1.same<|s4.tt d1).same u5;obtain⟨en,q3,c3⟩:=BN.ch<|re.same t7.t;obtain⟨tb,q2,c2⟩:=TabsE.ch<|ht.mono u5 λ_ _ _ q=>Ex.same u5 q;exact k _ _ st tb en (((s1.trans s4).trans s5).trans<|.of t6) (d5.same t6) ⟨p6,_,_,va U ⟨b9,q1,q2,q3⟩⟩ ⟨c1,c2,c3⟩
theorem HR{S:SR}(f:QQ S)(n:Nat):∀m,sm S f (n+m)=S.add (sm S f n) (sm S (λi=>f<|n+i) m)
 | 0=>(S.add_zero _).symm
 | m+1=>by
  show S.add (sm S f<|n+m) (f<|n+m)=_;rw[HR f n m,S.add_assoc];rfl
theorem UH{S:SR}{F:M0 S}(f:QQ S):∀m,sm S (λi=>F.neg<|f i) m=F.neg (sm S f m)
 | 0=>(Yz (F:=F)).symm
 | m+1=>by
  show S.add (sm S (λi=>F.neg<|f i) m) (F.neg<|f m)=F.neg (S.add (sm S f m)<|f m);rw[UH f m,Wr]
section
variable{S:SR}{F:M0 S}{l:w1e}{n n':Nat}{st st':QQ S}{tb tb':FF S}{en en':QQ S}
def Dl:∀u,AL l u->∀j,j < n+n'->h8 S (n+n') (V6 n st st') (w5 l<|V5 n tb tb') u j=S6 S n (h8 S n st (w5 l tb) u) (h8 S n' st' (w5 l tb') u) j:=by
 show(EB (l:=l)).ind _ (λj _=>rfl) λc u hc hu ih j hj=>?_;rw[x4,x4,x4];show sm S (λi=>S.mul (h8 S (n+n') (V6 n st st') (w5 l<|V5 n tb tb') u i)<|Mn S n (tb<|l.idxOf c) (tb'<|l.idxOf c) i j) (n+n')=_;rw[HR];have b1:∀i,i < n->Mn S n (tb<|l.idxOf c) (tb'<|l.idxOf c) i=S6 S n (tb (l.idxOf c) i) λ_=>S.zero:=λi hi=>if_pos hi;have b2:∀i,Mn S n (tb<|l.idxOf c) (tb'<|l.idxOf c) (n+i)=S6 S n (λ_=>S.zero) (tb' (l.idxOf c) i):=λi=>by
  unfold Mn;rw[if_neg Z,dM]
 by_cases z:j < n
 . rw[V4 z,j6 (f:=λi=>S.mul (h8 S (n+n') (V6 n st st') (w5 l<|V5 n tb tb') u<|n+i)<|Mn S n (tb<|l.idxOf c) (tb'<|l.idxOf c) (n+i) j) (g:=λ_=>S.zero) λi hi=>by rw[b2,V4 z,S.mul_zero],F2,S.add_zero];exact j6 λi hi=>by rw[ih i Z,V4 hi,b1 i hi,V4 z];rfl
 . obtain⟨q,rfl⟩:∃q,j=n+q:=⟨j - n,Z⟩;rw[Y6,j6 (f:=λi=>S.mul (h8 S (n+n') (V6 n st st') (w5 l<|V5 n tb tb') u i)<|Mn S n (tb<|l.idxOf c) (tb'<|l.idxOf c) i<|n+q) (g:=λ_=>S.zero) λi hi=>by rw[b1 i hi,Y6,S.mul_zero],F2,CN];exact j6 λi hi=>by rw[ih (n+i) Z,Y6,b2,Y6];rfl
def YC(u:w1e)(hu:AL l u):D9 S l (n+n') (V6 n st st') (V5 n tb tb') (Dz F n en en') u=S.add (D9 S l n st tb en u) (F.neg<|D9 S l n' st' tb' en' u):=by
 show sm S _ (n+n')=_;rw[HR];congr 1
 . exact j6 λi hi=>by rw[Dl u hu i Z,V4 hi,show Dz F n en en' i=en i from V4 hi]
 . rw[j6 (g:=λi=>F.neg<|S.mul (h8 S n' st' (w5 l tb') u i)<|en' i) λi hi=>by rw[Dl u hu (n+i) Z,Y6,show Dz F n en en' (n+i)=F.neg (en' i)from Y6,QA],UH];rfl
def CP(u:w1e)(hu:AL l u):D9 S l (n+n') (V6 n st st') (V5 n tb tb') (Dz F n en en') u=S.zero↔D9 S l n st tb en u=D9 S l n' st' tb' en' u:=by rw[YC u hu];exact⟨λh=>p0p (F:=F) h,λh=>by rw[h,F.add_neg]⟩
end
def MC.both{R:c9 Pr w K mg base}{b m n n' k:Nat}{st:QQ R.S}{tb:FF R.S}{en:QQ R.S}{st':QQ R.S}{tb':FF R.S}{en':QQ R.S}(b0:0 < b)(h:MC R b m n k st tb en)(h':MC R b m n' k st' tb' en'):MC R b m (n+n') k (V6 n st st') (V5 n tb tb') (Dz R.F n en en'):=by
 have z0:R.B.cb b m R.S.zero:=R.B.mono _ _ _ _ (aP _)<|R.B.zero b b0;show⟨λi hi=>?_,λa ha i hi j hj=>?_,λi hi=>?_⟩
 . show R.B.cb b m<|S6 R.S n st st' i;unfold S6;split
   . exact h.st i (by assumption)
   . exact h'.st _ Z
 . show R.B.cb b m<|Mn R.S n (tb a) (tb' a) i j;unfold Mn S6;split
   . (try dsimp only)
     split
     . exact h.tb a ha i (by assumption) j (by assumption)
     . exact z0
   . (try dsimp only)
     split
     . exact z0
     . exact h'.tb a ha _ Z _ Z
 . show R.B.cb b m<|S6 R.S n en (λi=>R.F.neg<|en' i) i;unfold S6;split
   . exact h.en i (by assumption)
   . exact R.B.neg _ _ _ _ (R.F.add_neg _) (h'.en _ Z)
theorem WD{S:SR}{F:M0 S}{p:Nat}:∀{ks:w1a S} {r:QQ S},(∀k∈ks,∀j,j < k.1->k.2 j=S.zero)->(∀j,j < p->r j=S.zero)->∀j,j < p->clr F ks r j=S.zero
 | [],_,_,h=>h
 | k::ks,r,hk,h=>by
  rw[N3];show WD (λq hq=>hk q<|aA _ hq) λj hj=>?_;show S.add (r j) (S.mul (F.neg<|r k.1)<|k.2 j)=S.zero;by_cases e:k.1 < p
  . rw[h j hj,h k.1 e,Yz,Bw,S.add_zero]
  . rw[h j hj,hk k (ax ..) j Z,S.mul_zero,S.add_zero]
def b0v{S:SR}{F:M0 S}{w:Nat}(rs:List (QQ S)):∀k∈kpL F w rs,∀j,j < k.1->k.2 j=S.zero:=(De (F:=F) (w:=w) (λ_ ks=>∀k∈ks,∀j,j < k.1->k.2 j=S.zero) (by simp) (λrs ks r K M k hk j hj=>by
 unfold X5 at hk;split at hk
 . exact M k hk j hj
 . split at hk
   . exact M k hk j hj
   . rename_i p e;rcases av.mp hk with hk | hk
     . exact M k hk j hj
     . rw[ar.mp hk]at hj ⊢;show S.mul _ (clr F ks r j)=S.zero;rw[(Q2 e).2.2 j hj,S.mul_zero]) rs).2
def YA{S:SR}{F:M0 S}{ks:w1a S}(h:∀k∈ks,∀j,j < k.1->k.2 j=S.zero):∀k∈JS F ks,∀j,j < k.1->k.2 j=S.zero:=by
 have eJ:∀(qs told:w1a S),(∀k∈qs,∀j,j < k.1->k.2 j=S.zero)->(∀k∈told,∀j,j < k.1->k.2 j=S.zero)->∀k∈qs.foldl (λtold k=>told++[(k.1,clr F told k.2)]) told,∀j,j < k.1->k.2 j=S.zero:=by
  intro qs
  induction qs with
  | nil=>intro told _ ht;exact ht
  | cons q qs ih=>
   intro told hq ht;show ih _ (λk hk=>hq k<|aA _ hk) λk hk j hj=>?_;rcases av.mp hk with hk | hk
   . exact ht k hk j hj
   . rw[ar.mp hk]at hj ⊢;exact WD ht (hq q<|ax ..) j hj
 exact eJ _ _ (λk hk=>h k<|List.mem_reverse.mp hk) λk hk=>nomatch hk
def K9.ld{S:SR}{F:M0 S}{n:Nat}{rs:List (QQ S)}{es:w1a S}(E:K9 F n rs es):∀k∈es,∀j,j < k.1->k.2 j=S.zero:=λk hk=>YA (b0v rs) k (E.pm.mem_iff.mp hk)
section
variable{S:SR}{F:M0 S}{l:w1e}{n:Nat}{st st':QQ S}{tb tb':FF S}{en en':QQ S}{es:w1a S}
noncomputable def hW(F:M0 S)(l:w1e)(n:Nat)(es:w1a S)(st:QQ S)(tb:FF S):List w1e:=S4 F es.length (Kj l n es st tb) (gB l)
def p0i{u:w1e}(le:es.length<=n)(h:u∈hW F l n es st tb):u.length<=n - 1/\AL l u:=by obtain⟨a,b⟩:=P3 M9 h;exact⟨Z,b⟩
def p0h(N:BO F l n en (W7 tb) es){c:QQ S}(h:∀v,AL l v->v.length<=n - 1->sm S (λk=>S.mul (c k)<|D9 S l n st tb en<|(hW F l n es st tb).getD k []++v) (hW F l n es st tb).length=S.zero):∀k,k < (hW F l n es st tb).length->c k=S.zero:=
 We (F:=F) c (N.back (λu hu=>(P3 M9 hu).2) h)
def hd_S(N:BO F l n en (W7 tb) es){u:w1e}(hu:AL l u):∃c:QQ S,∀v,AL l v->D9 S l n st tb en (u++v)=sm S (λk=>S.mul (c k)<|D9 S l n st tb en<|(hW F l n es st tb).getD k []++v) (hW F l n es st tb).length:=by obtain⟨c,hc⟩:=Gz (F:=F) (w:=es.length) (ρ:=Kj l n es st tb) (L:=λc=>Hx S es.length<|w5 l (W7<|Hd n es<|W7 tb) c) (EB (l:=l)) (λc _=>CF) (λc u _ j _=>by show h8 S _ _ _ (u++[c]) j=_;rw[x4]) u hu;exact⟨c,λv hv=>N.spread (λu hu=>(P3 M9 hu).2) hu hc hv⟩
noncomputable def p0j(S:SR)(l:w1e)(n:Nat)(st:QQ S)(tb:FF S)(en:QQ S)(u:w1e):QQ S:=λj=>D9 S l n st tb en (u++(J1 l<|n - 1).getD j [])
noncomputable def d0j(F:M0 S)(l:w1e)(n:Nat)(st:QQ S)(tb:FF S)(en:QQ S):Nat:=(kpL F (J1 l<|n - 1).length<|(J1 l<|n - 1).map<|p0j S l n st tb en).length
def RF{α:Type}{ws:List α}{v d:α}{j:Nat}(hj:j < ws.length)(e:ws[j]=v):ws.getD j d=v:=by rw[aU,ah hj,e];rfl
def Rm(N:BO F l n en (W7 tb) es)(le:es.length<=n):d0j F l n st tb en=(hW F l n es st tb).length:=by
 show Gv (vs:=λk=>p0j S l n st tb en<|(hW F l n es st tb).getD k []) _ (λr hr=>?_) (λc h=>p0h N λv hv vn=>?_) (λi hi=>?_)
 . obtain⟨u,hu,rfl⟩:=aw.mp hr;obtain⟨c,hc⟩:=hd_S (st:=st) N (X7 _ _ hu).2;exact⟨c,λj hj=>hc _ (X7 _ _<|LS hj).2⟩
 . obtain⟨j,hj,e⟩:=List.getElem_of_mem<|Bh (n - 1) v vn hv;have:sm S (λk=>S.mul (c k)<|D9 S l n st tb en<|(hW F l n es st tb).getD k []++(J1 l<|n - 1).getD j []) (hW F l n es st tb).length=S.zero:=h j hj;rw[RF hj e]at this;exact this
 . obtain⟨a,b⟩:=p0i (F:=F) (st:=st) (tb:=tb) le<|Mine.F4 hi;exact⟨_,aw.mpr ⟨_,Bh (n - 1) _ a b,U⟩,λj _=>rfl⟩
def Wk{vs:F0 S}(F:M0 S)(I:JV S n n vs)(x:QQ S):M1 S n n vs x:=by
 have hl:(kpL F n<|(List.range n).map vs).length=n:=Gv _ (λr hr=>by
  obtain⟨i,hi,rfl⟩:=aw.mp hr;exact M1.gen<|aW.mp hi) I λi hi=>⟨_,aw.mpr ⟨i,aW.mpr hi,U⟩,λ_ _=>rfl⟩
 have sp:∀k∈kpL F n ((List.range n).map vs),M1 S n n vs k.2:=Fv _ λr hr=>by
  obtain⟨i,hi,rfl⟩:=aw.mp hr;exact M1.gen (aW.mp hi)
 have z:=Kp.full (F:=F) (u:=x) (U8 (F:=F)<|(List.range n).map vs) hl;show((Be (F:=F) (u:=x) sp).mul<|F.neg S.one).congr λj hj=>?_;rw[z j hj,CN,IL,Ho,Wp]
end
def c0h{n:Nat}{f:Nat->Nat}(lt:∀i,i < n->f i < n)(mo:∀i j,i < j->j < n->f i < f j):∀i,i < n->f i=i:=by
 have lo:∀i,i < n->i<=f i:=λi=>by
  induction i with
  | zero=>intro _;omega
  | succ i ih=>intro h;have:=mo i (i+1) Z h;have:=ih Z;omega
 have up:∀k i,i+k+1=n->f i<=i:=λk=>by
  induction k with
  | zero=>intro i h;have:=lt i Z;omega
  | succ k ih=>intro i h;have:=mo i (i+1) Z Z;have:=ih (i+1) Z;omega
 exact λi hi=>Nat.le_antisymm (up (n - 1 - i) i Z) (lo i hi)
section
variable{S:SR}{F:M0 S}{l:w1e}{n:Nat}{st st':QQ S}{tb tb':FF S}{en en':QQ S}{es fm:w1a S}
def c0g(F:M0 S){w m:Nat}{us:F0 S}(h:JV S w m us):m<=w:=BR F (vs:=λi k=>if k=i then S.one else S.zero) h λi _=>⟨us i,λj hj=>by
 unfold lin;rw[W9 (i:=j) hj λk hk ne=>by dsimp only;rw[if_neg<|λz=>ne z.symm,S.mul_zero]];dsimp only;rw[if_pos U,S.mul_one]⟩
def QB(F:M0 S)(n:Nat)(rs:List (QQ S)):∃es,K9 F n rs es:=⟨(JS F<|kpL F (if rs.length=0 then 0 else n) rs).mergeSort λp q=>decide<|p.1<=q.1,List.mergeSort_perm _ _,(List.pairwise_mergeSort (le:=λ(p q:Nat × (QQ S))=>decide<|p.1<=q.1) (λa b c h g=>decide_eq_true<|af (of_decide_eq_true h)<|of_decide_eq_true g) (λa b=>by rcases Nat.le_total a.1 b.1 with h | h <;>simp[h]) _).imp λh=>of_decide_eq_true h⟩
def Vs(N:BO F l n en (W7 tb) es)(he:es.length=n){x:QQ S}(h:∀v,AL l v->B7 S x (BM S n (w5 l tb) en v) n=S.zero):∀j,j < n->x j=S.zero:=λj hj=>by
 have h1:∀i,i < es.length->B7 S (kv es i) x n=S.zero:=λi hi=>CO (N.few i hi) λk hk=>by
  have e:V0 ((J1 l<|n - 1).map<|h8 S n en<|w5 l<|W7 tb) k=h8 S n en (w5 l<|W7 tb) (J1 l<|n - 1)[k]:=CM (by rw[aE,ah hk];rfl);rw[e,b0p,Bc];exact h _ (QK (X7 _ _<|aG hk).2)
 have I:JV S n n (kv es):=by have:=N.ech.Kp.ind;rwa [he]at this
 have h2:=CO (y:=x) (Wk F I λk=>if k=j then S.one else S.zero) λk hk=>h1 k Z;unfold B7 at h2;rw[W9 (i:=j) hj λk hk ne=>by dsimp only;rw[if_neg ne,Bw]]at h2;dsimp only at h2;rw[if_pos U,Ho]at h2;exact h2
def RE(N:BO F l n en (W7 tb) es)(le:es.length<=n)(h:(hW F l n es st tb).length=n):es.length=n:=by
 have:(hW F l n es st tb).length<=es.length:=by show(w6 F es.length _ (gB l)<|es.length+1).told.length<=_;rw[Bv];exact(M4 _).len
 omega
def Xa(qA:∀u,AL l u->D9 S l n st tb en u=D9 S l n st' tb' en' u){ws:List w1e}(hw:∀u∈ws,AL l u){x:QQ S}(hx:M1 S (n+n) ws.length (V0<|ws.map<|h8 S (n+n) (V6 n st st')<|w5 l<|V5 n tb tb') x){v:w1e}(hv:AL l v):B7 S x (BM S n (w5 l tb) en v) n=B7 S (λj=>x<|n+j) (BM S n (w5 l tb') en' v) n:=by
 obtain⟨c,hc⟩:=hx;have fk:∀k,k < ws.length->AL l (ws.getD k [])/\∀j,j < n+n->V0 (ws.map<|h8 S (n+n) (V6 n st st')<|w5 l<|V5 n tb tb') k j=S6 S n (h8 S n st (w5 l tb)<|ws.getD k []) (h8 S n st' (w5 l tb')<|ws.getD k []) j:=λk hk=>by
  have ha:=hw _<|Mine.F4 hk;have e:V0 (ws.map<|h8 S (n+n) (V6 n st st')<|w5 l<|V5 n tb tb') k=h8 S (n+n) (V6 n st st') (w5 l<|V5 n tb tb') (ws.getD k []):=by rw[CM (r:=h8 S (n+n) (V6 n st st') (w5 l<|V5 n tb tb') ws[k]) (by rw[aE,ah hk];rfl),RF hk rfl]
  exact⟨ha,λj hj=>by rw[e,Dl _ ha j hj]⟩
 rw[I0 (x':=lin S c (V0<|ws.map<|h8 S (n+n) (V6 n st st')<|w5 l<|V5 n tb tb') ws.length) λj hj=>hc j Z,P6];rw[I0 (x:=λj=>x<|n+j) (x':=lin S c (λk j=>V0 (ws.map<|h8 S (n+n) (V6 n st st')<|w5 l<|V5 n tb tb') k<|n+j) ws.length) λj hj=>hc (n+j) Z,P6];show j6 λk hk=>?_;obtain⟨ha,hj⟩:=fk k hk;rw[I0 (x':=h8 S n st (w5 l tb)<|ws.getD k []) λj h=>by rw[hj j Z,V4 h],I0 (x:=λj=>V0 (ws.map<|h8 S (n+n) (V6 n st st')<|w5 l<|V5 n tb tb') k<|n+j) (x':=h8 S n st' (w5 l tb')<|ws.getD k []) λj h=>by rw[hj (n+j) Z,Y6],<- WB,<- WB];have:=qA _<|Bz ha hv;unfold D9 at this;rw[this]
def Xb(nd:l.Nodup)(E:K9 F (n+n) ((Md F l (n+n) (V6 n st st') (V5 n tb tb')<|Dz F n en en').map<|h8 S (n+n) (V6 n st st')<|w5 l<|V5 n tb tb') es)(h:GJ (D9 S l (n+n) (V6 n st st') (V5 n tb tb')<|Dz F n en en') (Md F l (n+n) (V6 n st st') (V5 n tb tb')<|Dz F n en en')=[])(hr:d0j F l n st tb en=n)(gu:d0j F l n st' tb' en'=n):es.length=n/\∀i,i < n->∀j,j < n->kv es i j=if i=j then S.one else S.zero:=by
 have qA:∀u,AL l u->D9 S l n st tb en u=D9 S l n st' tb' en' u:=λu hu=>(CP (F:=F) u hu).mp<|RL h u hu;obtain⟨e1,E1⟩:=QB F n<|(S4 F n (h8 S n en<|w5 l<|W7 tb)<|gB l).map<|h8 S n en<|w5 l<|W7 tb;obtain⟨e2,E2⟩:=QB F n<|(S4 F n (h8 S n en'<|w5 l<|W7 tb')<|gB l).map<|h8 S n en'<|w5 l<|W7 tb';have N1:=Ef E1;have N2:=Ef E2;rw[Rm N1 E1.le]at hr;rw[Rm N2 E2.le]at gu;have O1:=λx=>Vs (x:=x) N1<|RE N1 E1.le hr;have O2:=λx=>Vs (x:=x) N2<|RE N2 E2.le gu;have fal:∀u∈Md F l (n+n) (V6 n st st') (V5 n tb tb') (Dz F n en en'),AL l u:=λu hu=>(P3 GR hu).2;have sE:∀c,M1 S (n+n) (Md F l (n+n) (V6 n st st') (V5 n tb tb')<|Dz F n en en').length (V0<|(Md F l (n+n) (V6 n st st') (V5 n tb tb')<|Dz F n en en').map<|h8 S (n+n) (V6 n st st')<|w5 l<|V5 n tb tb') (lin S c (kv es) es.length):=λc=>M1.lin λi hi=>by
  have:=E.span.2 i hi;rwa [ag]at this
 have toR:∀c,(∀j,j < n->lin S c (kv es) es.length j=S.zero)->∀j,j < n->lin S c (kv es) es.length (n+j)=S.zero:=λc hz=>O2 (λj=>lin S c (kv es) es.length<|n+j) λv hv=>by
  rw[<- Xa qA fal (sE c) hv,I0 hz];exact(j6 λi _=>Bw _).trans (F2 _)
 have zz:∀c,(∀j,j < n->lin S c (kv es) es.length j=S.zero)->(∀j,j < n->lin S c (kv es) es.length (n+j)=S.zero)->∀k,k < es.length->c k=S.zero:=λc h1 h2=>E.ech.Kp.ind c λj hj=>by
  by_cases z:j < n
  . exact h1 j z
  . have:=h2 (j - n) Z;rwa [show n+(j - n)=j by omega]at this
 have I1:JV S n es.length (kv es):=λc hc=>zz c hc<|toR c hc;have le:=c0g F I1;have ge:n<=es.length:=by
  have fs:=HI (F:=F) (l:=l) (n:=n+n) (ρ:=h8 S (n+n) (V6 n st st')<|w5 l<|V5 n tb tb') (D:=D9 S l (n+n) (V6 n st st') (V5 n tb tb')<|Dz F n en en') (n+n+1)<|EY.mp h;have uB:Md F l (n+n) (V6 n st st') (V5 n tb tb') (Dz F n en en')=S4 F (n+n) (h8 S (n+n) (V6 n st st')<|w5 l<|V5 n tb tb') (gB l):=congrArg d0g.told fs;rw[uB]at E;have NJ:=Ef E;have:=BR F (w:=n+n) (m:=(hW F l n e1 st tb).length) (us:=λk=>h8 S (n+n) (V6 n st st') (w5 l<|V5 n tb tb')<|(hW F l n e1 st tb).getD k []) (n:=es.length) (vs:=kv es) (λc hc=>p0h N1 λv hv _=>?_) λk hk=>NJ.all _ (P3 M9<|Mine.F4 hk).2
  . omega
  . have hd:B7 S (lin S c (λk=>h8 S (n+n) (V6 n st st') (w5 l<|V5 n tb tb')<|(hW F l n e1 st tb).getD k []) (hW F l n e1 st tb).length) (BM S n (w5 l tb) en v) n=S.zero:=by rw[I0 λj hj=>hc j Z];exact(j6 λi _=>Bw _).trans (F2 _)
    rw[P6]at hd;rw[<- hd];show j6 λk hk=>?_;have ha:AL l ((hW F l n e1 st tb).getD k []):=(P3 M9<|Mine.F4 hk).2;rw[I0 (x:=h8 S (n+n) _ _ _) (x':=h8 S n st (w5 l tb)<|(hW F l n e1 st tb).getD k []) λj hj=>by rw[Dl _ ha j Z,V4 hj],<- WB];rfl
 have el:es.length=n:=by omega
 have kl:∀i,i < n->es[i]? = some (es.getD i (0,λ_=>S.zero)):=λi hi=>by rw[aU,ah Z];rfl
 have ap:∀i,i < n->Rx es i < n:=λi hi=>by
  have ei:=kl i hi;have mi:=aL ei;show Nat.lt_of_not_le λge'=>?_;have z1:∀j,j < n->kv es i j=S.zero:=λj hj=>by
   rw[GQ ei];rw[El ei]at ge';exact K9.ld E _ mi j Z
  have:=I1 (λk=>if k=i then S.one else S.zero) (λj hj=>by rw[HB Z];exact z1 j hj) i Z;rw[if_pos rfl]at this;exact S.zo this.symm
 have ki:∀i,i < n->Rx es i=i:=c0h ap λi j gK hj=>by
  have a:=bX.mp E.pw i j Z Z gK;have b:=bX.mp E.ech.mu i j Z Z gK;have c:=E.ech.one es[j]<|aG Z;rw[El<|ah Z,El<|ah Z];show Nat.lt_of_le_of_ne a λz=>?_;rw[<- z,b.2]at c;exact S.zo c
 have at':∀i,i < n->∀j,j < n->kv es i j=if i=j then S.one else S.zero:=λi hi j hj=>by
  have:=E.ech.at (show i < es.length by omega) (show j < es.length by omega);rwa [ki j hj]at this
 exact⟨el,at'⟩
end
def jn(sep:w1e):List w1e->List Nat
 | []=>[]
 | [p]=>p
 | p::q::r=>p++sep++jn sep (q::r)
theorem Kq(sep:w1e):∀(ls:List w1e) (fJ:w1e),(ls.map tx).foldl (λa p=>a++(tx sep).cps++p.cps) fJ.toArray=(ls.foldl (λa p=>a++sep++p) fJ).toArray
 | [],fJ=>rfl
 | p::ls,fJ=>by
  rw[aX,List.foldl_cons,List.foldl_cons];have:fJ.toArray++(tx sep).cps++(tx p).cps=(fJ++sep++p).toArray:=by simp[tx]
  rw[this];exact Kq sep ls _
theorem RB(sep:w1e):∀(ls:List w1e) (p:w1e),ls.foldl (λa p=>a++sep++p) p=jn sep (p::ls)
 | [],p=>rfl
 | q::ls,p=>by
  rw[List.foldl_cons,RB sep ls];cases ls with
  | nil=>rfl
  | cons r ls=>simp[jn]
def Yu(sep:w1e):∀ls:List w1e,Txt.join (tx sep) (ls.map tx)=tx (jn sep ls)
 | []=>rfl
 | p::ls=>by
  show(⟨_⟩:Str)=⟨_⟩;rw[aX,List.drop_succ_cons,List.drop_zero,List.headD_cons];have:=Kq sep ls p;rw[show(tx p).cps=p.toArray from rfl,this,RB]
def YN{p:w1e}{q:Int}(h0:0<=q)(h1:q<=p.length):Txt.slice (tx p) none (some q)=tx (p.take q.toNat):=by have e:=PyProof.Rows.slice_closes_toL (x:=tx p) (j:=q) h0 (by rw[T5];exact h1);rw[beq_iff_eq]at e;rw[e];show(⟨_⟩:Str)=⟨_⟩;simp[tx]
theorem RN{sep:Str}{k:Nat}:∀{ls:w1f} {a:Nat},(∀p∈ls,p.length<=k)->ls.foldl (λx y=>x+y.length+sep.length) a<=a+ls.length * (k+sep.length)
 | [],a,_=>by simp
 | p::ls,a,h=>by
  have h1:=h p (by simp);have h2:=RN (sep:=sep) (k:=k) (ls:=ls) (a:=a+p.length+sep.length)<|λx hx=>h x<|aA _ hx;rw[List.foldl_cons,bM,bB];omega
def ZZ{sep:w1e}{sz:Str}(hz:sz=tx sep){a:Addr}{ls:List w1e}{k:Nat}{H:Hp}{Q:VK}(hk:∀p∈ls,p.length<=k)(hl:ls.length * (k+sep.length)<=16777216)(hq:p9 K H a (ls.map vT))(q:Q (vT<|jn sep ls) H) :
    YR K (.str sz) [.ref a] H Q:=by
 subst hz;show⟨tx sep,a,ls.map tx,U,U,by rw[cI];exact hq,?_,by rw[Yu];exact q⟩;unfold PySem.JoinOk Builtin.Str.tooLong;have:=RN (sep:=tx sep) (k:=k) (ls:=ls.map tx) (a:=0) (λp hp=>by
  obtain⟨x,hx,rfl⟩:=aw.mp hp;rw[T5];exact hk x hx)
 have vU:ls.length * (k+(tx sep).length)<=16777216:=by rw[T5];exact hl
 rw[ag]at this;have z:sizeLine=16777216:=by decide
 rw[List.foldl_toArray];simp only[Bool.not_eq_true',decide_eq_false_iff_not];omega
def Yv{sep p:w1e}{ls:List w1e}(h:ls≠[]):jn sep (p::ls)=p++sep++jn sep ls:=by
 cases ls with
 | nil=>exact absurd rfl h
 | cons q ls=>simp[jn]
def a0s:(Str.ofString "")=tx []:=Wu
def iteN{b:Bool}{A B:Prop}(h:b=false)(q:B):if b=true then A else B:=by subst h;exact Em q
def iteY{b:Bool}{A B:Prop}(h:b=true)(q:A):if b=true then A else B:=by subst h;exact Om q
def azs:w1e:=[97,98,99,100,101,102,103,104,105,106,107,108,109,110,111,112,113,114,115,116,117,118,119,120,121,122]
def q0b:(Str.ofString "abcdefghijklmnopqrstuvwxyz")=tx azs:=by decide +kernel
theorem RA:∀ls:w1e,jn [] (ls.map λc=>[c])=ls
 | []=>rfl
 | [a]=>rfl
 | a::b::ls=>by
  have:=RA (b::ls);rw[aX,Yv (by simp),this];rfl
def q0a{i:Nat}(h:i < 26):azs[i]? = some (97+i):=by
 have:∀i,i < 26->azs[i]? = some (97+i):=by decide
 exact this i h
def cL(a b:Int)(k:Nat):Nat:=97+((a+b * (k:Int)).fmod 26).toNat
def p0y{a b:Int}{k:Nat}:OM (tx azs).cps.toList ((a+b * (k:Int)).fmod 26)=some (cL a b k):=by
 have m0:0<=(a+b * (k:Int)).fmod 26:=bN _ bD;have m1:(a+b * (k:Int)).fmod 26 < 26:=bO _ bD;unfold cL;revert m0 m1;generalize (a+b * (k:Int)).fmod 26=r;intro m0 m1;obtain⟨i,rfl⟩:∃i:Nat,r=(i:Int):=⟨r.toNat,Z⟩;have e:(tx azs).cps.toList=azs:=by simp[tx]
 rw[e];exact E7 (q0a Z)
def p0x{a b:Int}(a0:0<=a)(a1:a < 26)(b0:1<=b)(b1:b<=8){n:Nat}(hn:n<=3):N4 ((List.range n).map<|cL a b):=by
 have lt:∀k,cL a b k < 128:=λk=>by
  have m1:(a+b * (k:Int)).fmod 26 < 26:=bO _ bD;unfold cL;omega
 show⟨?_,λc hc=>?_,by rw[ag,cJ];exact hn⟩
 . show cH.mpr<|(List.pairwise_lt_range).imp_of_mem λ{i j} hi hj gK e=>?_;have hi:=aW.mp hi;have hj:=aW.mp hj;unfold cL at e;have f:∀k:Nat,(a+b * (k:Int)).fmod 26=(a+b * (k:Int)) % 26:=λk=>dY _ bD;rw[f i,f j]at e;rcases(by omega:(i=0/\j=1)\/(i=0/\j=2)\/(i=1/\j=2))with ⟨rfl,rfl⟩ | ⟨rfl,rfl⟩ | ⟨rfl,rfl⟩ <;>simp at e <;>omega
 . obtain⟨k,_,rfl⟩:=aw.mp hc;exact lt k
def sp_lletters:Sp:=λvs H Q _=>∃(a:Addr),vs=[.ref a]/\Dr H a/\∀l H',l6 a H H'->Dr H' a->N4 l->1<=l.length->Q (vT l) H'
def Ir:w8 Pr w K mg base F6 2 t.u0j t.s0m [V7] sp_lletters:=by
 show T.s0t.F.okA Q7 λ_ _ _ _ _ _ _ _ hr h=>?_;obtain⟨a,rfl,hD,k⟩:=h;have zl:=sZ;show⟨_,(c5 (sT 1 Q7.nd<|o8 O7 c4<|D2 (y6 T) hr.m T.v0w<|F1 (O 0) c4)<|c5 (U7 (i:=2) Q7.nd U (Or.inr U)<|D2 (y6 T) hr.m T.v0w<|F1 (O 0) c4)<|c5 (U7 (i:=3) Q7.nd U (Or.inr U)<|o8 O7 c4<|D2 (y6 T) hr.m T.v0w<|F1 (O 0) c4)<|c6<|h7<|W2 PySem.F.plainAttrs_str PySem.F.slot_str_join PySem.F.type_str_join Yi Ad<|B3<|x8 (xs:=[Ai]) U (oC [V7,"_law_size",OS,"_law_far"]<|a8 V1) (C6 U T.z_range<|B3<|O 1) (r9 (i:=4) (by show List.Nodup ([V7,"_law_size",OS,"_law_far",Ai]:w1f);decide +kernel) U<|Or.inl U)<|D5 VW Ad<|o8 F9 (o8 O7 (O 2)<|o8 Gm (O 3)<|O 4) c4),?_⟩;norm_cast;rw[q0b];show va U ⟨a,3,U,⟨hD,bD,bD⟩,λr1 H1 s1 d1 a1 b1=>za ⟨U,U,?_⟩⟩;show va U ⟨a,26,U,⟨d1,bD,bD⟩,λr2 H2 s2 d2 a2 b2=>?_⟩;show va U ⟨a,8,U,⟨d2,bD,bD⟩,λr3 H3 s3 d3 a3 b3=>za ⟨U,U,?_⟩⟩;have Jc:=(s1.trans s2).trans s3;obtain⟨n,en⟩:∃n:Nat,1+r1=(n:Int):=⟨(1+r1).toNat,Z⟩;show⟨U,vb U U ⟨Z,Z,o4 (n:=n) (λj ys G=>G=H3/\ys=(((List.range j).map<|cL r2<|1+r3).map λc=>[c]).map vT) Z ⟨U,U⟩ (λj ys G q=>by rw[q.2];simp) ?_ ?_ ?_⟩⟩
 . rintro j ys G hj ⟨rfl,rfl⟩;show⟨(show j < (1+r1).toNat by omega),λy H' hy=>?_⟩;obtain⟨rfl,rfl⟩:=hy;have ec:=p0y (a:=r2) (b:=1+r3) (k:=j);rw[show((j:Nat):Int)=0+(j:Int) by omega]at ec;show⟨⟨[some _],U,U⟩,vc U U U<|za ⟨U,U,.inl ⟨Z,Z⟩,za ⟨U,U,za ⟨U,U,(by show(26:Int)≠0;decide),zd ⟨U,U,(by rw[T5];show 26<=_;omega),ec,U,?_⟩⟩⟩⟩⟩;rw[List.range_succ,bb,bb,bb];rfl
 . rintro ys G ⟨rfl,rfl⟩;show(1+r1).toNat<=n;omega
 . rintro ys G p ⟨rfl,rfl⟩ np;have e2:=c7 (o:=.lst<|(((List.range n).map<|cL r2<|1+r3).map λc=>[c]).map vT) np;show ZZ (sep:=[]) (k:=1) a0s ?_ ?_ (p9.of b9) ?_
   . intro x hx;obtain⟨c,_,rfl⟩:=aw.mp hx;exact ae _
   . rw[ag,ag,cJ];show n * (1+0)<=_;omega
   . rw[RA];exact k _ _ (Jc.trans<|.of e2) (d3.same e2) (p0x a2 b2 Z Z Z) (by rw[ag,cJ];omega)
def SE:Sp:=λvs H Q _=>∃(R:c9 Pr w K mg base),∃nm p so x a,So T R nm p/\vs=[so,x]/\(K7 H so nm p/\R.is H x a)/\∀v H',h9 H H'->R.is H' v (R.F.neg a)->Q v H'
def Lp:w8 Pr w K mg base F6 1 t.w0s t.t0y Yc (SE (w:=w) (base:=base) T):=by
 show T.t0v.F.okA Lb λ_ _ _ _ H _ _ _ hr h=>?_;obtain⟨R,nm,p,so,x,a,hS,rfl,⟨rfl,ha⟩,k⟩:=h;show⟨_,(c5 (D3 (o6 K8 (O 0) c4<|o7 _) (c6<|h7<|D0<|F1 (o8 Gj c4<|D5 j7 (O 1) c4)<|D5 j7 (O 1) c4) x5)<|c6<|h7<|o8 F9 (o8 Gj c4<|O 1)<|O 0),?_⟩;norm_cast;cases hS with
 | fr=>
  obtain⟨px,rfl,hx⟩:=ha;show va U ⟨U,va U ?_⟩;show AI (decide_eq_true U) ?_;show va U<|zf ⟨U,U,o9.of hx,U,za ⟨U,U,va U<|zf ⟨U,U,o9.of hx,U,sL,λp1 np=>?_⟩⟩⟩;show k _ _ (c7 np) ?_;show Jf (upd H p1<|.tup [V.int<|0 - a.t,V.int a.b]) (.ref p1) (-a.t) a.b;rw[Int.zero_sub];exact Jf.new
 | re p hp gI hi=>
  cases (show x=.int a.x from ha);show va U ⟨U,va U ?_⟩;show BE (decide_eq_false λz=>by injection z with z;omega) ?_;show va U (za ⟨U,U,va U<|za ⟨U,U,(show p≠0 by omega),?_⟩⟩);show k _ _ (h9.refl _) ?_;show V.int ((0 - a.x).fmod p)=V.int ((-a.x).fmod p);rw[Int.zero_sub]
def W8{S:SR}(i j:Nat)(b:S.W)(x:QQ S):QQ S:=λk=>if k=j then S.add (x j) (S.mul b<|x i)else x k
def OK{S:SR}(i j:Nat)(b c:S.W)(A:F0 S):F0 S:=λr=>if r=i then λk=>S.add (W8 i j b (A i) k) (S.mul c<|W8 i j b (A j) k)else W8 i j b (A r)
def Gy{n j:Nat}(h:j < n):Yw n (j:Int)=some j:=by unfold Yw;rw[if_pos Z,if_pos Z];congr 1
def LL(R:c9 Pr w K mg base)(n:Nat)(H0:Hp)(x:F0 R.S)(rs:List Addr)(G:Hp):Prop:=rs.Nodup/\∀q r,rs[q]? = some r->H0 r=none/\∃vs,G r=some (.lst vs)/\j8 (λk u H=>R.is H u<|x q k) vs n G
section
variable{R:c9 Pr w K mg base}{n:Nat}{H0 G G':Hp}{x:F0 R.S}{rs:List Addr}{r:Addr}
theorem LL.same(s:h9 G G')(h:LL R n H0 x rs G):LL R n H0 x rs G':=⟨h.1,λq r e=>let⟨z,vs,a,b⟩:=h.2 q r e;⟨z,vs,s _ _ a,b.mono λ_ _ _ z=>R.same s.t z⟩⟩
def LL.not(h:LL R n H0 x rs G)(hr:G r=none):r ∉ rs:=λm=>by
 obtain⟨q,hq,e⟩:=List.getElem_of_mem m;obtain⟨_,vs,a,_⟩:=h.2 q r (by rw[ah hq,e]);rw[hr]at a;cases a
def LL.snoc{vs:List V}(h:LL R n H0 x rs G)(s:h9 H0 G)(hr:G r=none)(e:j8 (λk u H=>R.is H u<|x rs.length k) vs n G):LL R n H0 x (rs++[r]) (upd G r<|.lst vs):=by
 have s1:=c7 (o:=.lst vs) hr;show⟨List.nodup_append.mpr ⟨h.1,cG.mpr ⟨bT,List.nodup_nil⟩,λa ha b hb=>?_⟩,λq r' hq=>?_⟩
 . rw[ar.mp hb];exact λz=>h.not hr (z▸ha)
 . by_cases z:q < rs.length
   . rw[aY z]at hq;exact(h.same s1).2 q r' hq
   . rw[aZ Z]at hq;have z0:q - rs.length=0:=by
      by_cases y:q - rs.length=0
      . exact y
      . rw[List.getElem?_eq_none<|by simp;omega]at hq;cases hq
     rw[z0]at hq;cases hq;show⟨?_,vs,b9,?_⟩
     . cases e0:H0 r with
       | none=>rfl
       | some o=>rw[s _ _ e0]at hr;cases hr
     . rw[show q=rs.length by omega];exact e.mono λ_ _ _ z=>R.same s1.t z
def LL.put{vs:List V}{q:Nat}{y:QQ R.S}{vs0:List V}(h:LL R n H0 x rs G)(hq:rs[q]? = some r)(h0:G r=some (.lst vs0))(e:j8 (λk u H=>R.is H u<|y k) vs n (upd G r<|.lst vs)):LL R n H0 (λq'=>if q'=q then y else x q') rs (upd G r<|.lst vs):=by
 have t1:=B6 (o:=.lst vs) h0;show⟨h.1,λq' r' e'=>?_⟩;obtain⟨z,uU,a,b⟩:=h.2 q' r' e';by_cases eq:q'=q
 . subst eq;rw[hq]at e';cases e';exact⟨z,vs,b9,by dsimp only;rw[if_pos rfl];exact e⟩
 . have ne:r'≠r:=λw=>by
    rw[w]at e';have h1:=(aJ.mp e').1;exact eq ((List.getElem?_inj h1 h.1).mp<|e'.trans hq.symm)
   exact⟨z,uU,by rw[l9 ne];exact a,by dsimp only;rw[if_neg eq];exact b.mono λ_ _ _ z=>R.same t1 z⟩
end
def Me{R:c9 Pr w K mg base}{n i j:Nat}{b:R.S.W}{x:QQ R.S}{us:List V}{O:V}{G:Hp}(e:j8 (λk u H=>R.is H u<|x k) us n G)(f:R.is G O (R.S.add (x j)<|R.S.mul b<|x i)):j8 (λk u H=>R.is H u<|W8 i j b x k) (us.set j O) n G:=by
 show⟨by rw[bK,e.1],λq hq=>?_⟩;by_cases z:q=j
 . subst z;show⟨O,cA (by rw[e.1];exact hq),?_⟩;dsimp only;rw[show W8 (S:=R.S) i q b x q=R.S.add (x q) (R.S.mul b<|x i)from if_pos rfl];exact f
 . obtain⟨uq,euq,puq⟩:=e.2 q hq;show⟨uq,by rw[bL<|Ne.symm z];exact euq,?_⟩;dsimp only;rw[show W8 (S:=R.S) i j b x q=x q from if_neg z];exact puq
def QM(R:c9 Pr w K mg base)(n:Nat)(x:QQ R.S)(v:V)(H:Hp):Prop:=∃p us,v=.ref p/\H p=some (.lst us)/\j8 (λk u H=>R.is H u<|x k) us n H
theorem QM.same{R:c9 Pr w K mg base}{n:Nat}{x:QQ R.S}{v:V}{H H':Hp}(s:h9 H H')(h:QM R n x v H):QM R n x v H':=by obtain⟨p,us,rfl,hp,e⟩:=h;exact⟨p,us,U,s _ _ hp,e.mono λ_ _ _ q=>R.same s.t q⟩
def LL.rows{R:c9 Pr w K mg base}{n:Nat}{H0 G:Hp}{x:F0 R.S}{rs:List Addr}(h:LL R n H0 x rs G):j8 (λr u H=>QM R n (x r) u H) (rs.map V.ref) rs.length G:=⟨by rw[ag],λq hq=>by
 have e:=ah hq;obtain⟨_,vs,a,b⟩:=h.2 q _ e;exact⟨V.ref rs[q],by rw[aE,e];rfl,_,vs,U,a,b⟩⟩
def e0l{R:c9 Pr w K mg base}{i j n m:Nat}{b:R.S.W}{x:QQ R.S}(hi:i < n)(hj:j < n)(hb:R.S.sz m b)(h:∀k,k < n->R.S.sz m (x k)):∀k,k < n->R.S.sz (m+(m+m)+1) (W8 i j b x k):=λk hk=>by
 unfold W8;split
 . exact R.S.sz_add _ _ _ _ (h j hj) (R.S.sz_mul _ _ _ _ hb<|h i hi)
 . exact R.S.sz_mono _ _ _ Z (h k hk)
def g0c{T:Txt K mg t}{R:c9 Pr w K mg base}{nm:Str}{p:Int}(hS:So T R nm p){n:Nat}{G:Hp}{r q r1 i:Nat}{x:QQ R.S}{us xs ys:List V}(n0:i < n)(hq:G q=some (.lst us))(e:us[i]? = some (.ref r1))(h1:G r1=some (.lst xs))(h:G r=some (.lst ys))(b:j8 (λk u H=>R.is H u<|x k) ys n G):r≠q:=λz=>by
 rw[z,hq]at h;cases h;obtain⟨u,eu,ix⟩:=b.2 i n0;rw[e]at eu;cases eu;cases hS with
 | fr=>
  obtain⟨px,ep,hx⟩:=ix;cases ep;rw[h1]at hx;cases hx
 | re p hp gI hi=>cases (show V.ref r1=.int (x i).x from ix)
structure SzM(R:c9 Pr w K mg base)(n k m:Nat)(st:QQ R.S)(tb:FF R.S)(en:QQ R.S):Prop where
 st:∀i,i < n->R.S.sz m (st i)
 tb:∀a,a < k->∀i,i < n->∀j,j < n->R.S.sz m (tb a i j)
 en:∀i,i < n->R.S.sz m (en i)
def SD:Sp:=λvs H Q _=>∃(R:c9 Pr w K mg base),∃nm p so mv bv l,∃(n i j m:Nat),∃st tb en b,So T R nm p/\vs=[so,mv,.int (i:Nat),.int (j:Nat),bv]/\(K7 H so nm p/\j9 R l n st tb en mv H/\N4 l/\R.is H bv b/\R.S.sz m b/\i < n/\j < n/\n<=60/\SzM R n l.length m st tb en/\N5 R.S (10 * m+10))/\
 ∀v H',h9 H H'->j9 R l n (W8 i j b st) (λa=>OK i j b (R.F.neg b)<|tb a) (W8 j i (R.F.neg b) en) v H'->Q v H'
def Lo:w8 Pr w K mg base F6 40 t.x0q t.t0x b0j (SD (w:=w) (base:=base) T):=by
 show T.u0c.F.okA C9 λ_ _ _ _ H _ Q _ hr h=>?_;obtain⟨R,nm,p,so,mv,bv,l,n,i,j,m,st,tb,en,b,hS,rfl,⟨eQ,hM,L,hb,zb,hi,hj,hn,a1v,hz⟩,k⟩:=h;obtain⟨mp,sv,tv,ev,rfl,hm,⟨sp,ss,rfl,fM,eS⟩,⟨tp,tabs,rfl,fw,eT⟩,⟨ep,es,rfl,jb,eE⟩⟩:=id hM;have l3:=L.h3;have sl:=sZ;show⟨_,(l7 (X3 (O 1)<|I9 U<|l5 (gN 5 C9.nd)<|l5 (gN 6 C9.nd)<|l5 (gN 7 C9.nd)<|l5 (gN 8 C9.nd) D7)<|l7 (U7 (i:=9) C9.nd U (Or.inr U)<|D2 (Lp T) hr.m T.t0v<|F1 (O 0)<|O 4)<|l7 (sT 10 C9.nd<|i3 R9 bR T.z_list boot_list<|B3<|O 6)<|l7 (X3 (D2 (W3 T) hr.m T.v0y<|S3 (O 0) (D5 y8 (O 10)<|O 3)<|D2 (R5 T) hr.m T.u0l<|S3 (O 0) (O 4)<|D5 y8 (O 10)<|O 2)<|Cs (O 10) (O 3) V8)<|l7 (sT 11 C9.nd<|i3 R9 bR T.z_list boot_list<|B3<|O 8)<|l7 (X3 (D2 (W3 T) hr.m T.v0y<|S3 (O 0) (D5 y8 (O 11)<|O 2)<|D2 (R5 T) hr.m T.u0l<|S3 (O 0) (O 9)<|D5 y8 (O 11)<|O 3)<|Cs (O 11) (O 2) V8)<|l7 (sT 12 C9.nd<|D1 K6)<|l7 (E9 aB U (J2<|O 7) (gN 13 C9.nd)<|l7 (Gg 15<|Vb 15 "#1" bD<|P5 (i₀:=14) (xs:=[KC]) (by show List.Nodup<|n1N;decide +kernel) U (Or.inl U) U (oC n1N<|a8 Q1) (J2<|O 13) (gL 17 n7N)<|i3 (show T3 _ (.type "list") (λxs H Q=>∃p ys,xs=[.ref p]/\(p9 K H p ys\/o9 K H p ys)/\∀l,H l=none->Q (.ref l) (upd H l<|.lst ys))from R9) bR T.z_list boot_list<|B3<|O 17)<|l7 (E9 aB U (C5<|O 14) (gN 15 C9.nd)<|c6<|X3 (D2 (W3 T) hr.m T.v0y<|S3 (O 0) (D5 y8 (O 15)<|O 3)<|D2 (R5 T) hr.m T.u0l<|S3 (O 0) (O 4)<|D5 y8 (O 15)<|O 2)<|Cs (O 15) (O 3) V8)<|l7 (sT 16 C9.nd<|D5 y8 (O 14)<|O 3)<|l7 (X3 (x8 (xs:=[Mz,"_law_y"]) U (oC n8N<|a8 Q1) (DY U T.z_zip<|F1 (D5 y8 (O 14)<|O 2)<|O 16) (show PG _ _ (Ep K 2 _)from(I9 U<|l5 (gL 17 n4N)<|l5 (gL 18 n4N) D7))<|C1 (W3 (w:=w) (base:=base) T) hr.m U T.v0y.m T.v0y.F.kp T.v0y.b .nil C3<|S3 (O 0) (O 17)<|C1 (R5 (w:=w) (base:=base) T) hr.m U T.u0l.m T.u0l.F.kp T.u0l.b .nil C3<|S3 (O 0) (O 9)<|O 18)<|Cs (O 14) (O 2) V8)<|c6<|Gg 15<|F3<|W2 bq bF bH J3 (O 12)<|B3<|i3 c8 bR T.z_tuple boot_tuple<|B3<|Lj 15 "#1"<|x8 (xs:=[KC]) U (oC n1N<|a8 Q1) (C5<|O 14) (gL 17 n7N)<|i3 (show T3 _ (.type "tuple") (λxs H Q=>∃p ys,xs=[.ref p]/\((p9 K H p ys/\∀l,H l=none->Q (.ref l) (upd H l<|.tup ys))\/(o9 K H p ys/\Q (.ref p) H)))from c8) bR T.z_tuple boot_tuple<|B3<|O 17)<|c6<|h7<|D0<|Ik (O 5) (i3 c8 bR T.z_tuple boot_tuple<|B3<|O 10) (i3 c8 bR T.z_tuple boot_tuple<|B3<|O 12)<|i3 c8 bR T.z_tuple boot_tuple<|B3<|O 11),?_⟩;norm_cast;intro xR xE;show va U ⟨mp,va U ⟨o9.of hm,U,za ⟨U,za ⟨U,za ⟨U,za ⟨U,U,?_⟩⟩⟩⟩⟩⟩;subst xE;intro xR xE;show vb U U ⟨R,zt nm p so bv b ⟨hS,U,⟨eQ,hb⟩,λcv H1 s1 f1=>?_⟩⟩;have zc:R.S.sz m (R.F.neg b):=R.F.sz_neg _ _ zb;subst xE;intro xR xE;show va U ⟨sp,ss,U,.inr<|o9.of<|s1 _ _ fM,λfp lB=>?_⟩;show E4 (o:=.lst ss) lB λH2 s2 k2=>?_;have t2:=s1.trans s2;obtain⟨ui,eui,pui⟩:=eS.2 i hi;obtain⟨uj,euj,puj⟩:=eS.2 j hj;subst xE;intro xR xE;show vc U U U<|zf ⟨U,U,p9.of k2,E7 euj,vc U U U<|va U<|zf ⟨U,U,p9.of k2,E7 eui,R,zD nm p so bv ui b (st i) m m ⟨hS,U,⟨eQ.same t2.t,R.same t2.t hb,R.same t2.t pui,zb,a1v.st i hi,hz.le Z⟩,λtv3 H3 s3 f3=>?_⟩⟩⟩;show⟨R,zD nm p so uj tv3 (st j) _ m (m+m) ⟨hS,U,⟨eQ.same (t2.trans s3).t,R.same (t2.trans s3).t puj,f3,a1v.st j hj,R.S.sz_mul _ _ _ _ zb<|a1v.st i hi,hz.le Z⟩,λiC H4 s4 f4=>?_⟩⟩;have WO:=s3.trans s4;show vb U U ⟨fp,ss,(j:Int),j,U,U,WO _ _ k2,(by rw[eS.1];exact Gy hj),?_⟩;have rG:H fp=none:=by
  cases e:H fp with
  | none=>rfl
  | some o=>rw[s1 _ _ e]at lB;cases lB
 have s5:h9 H (upd H4 fp<|.lst<|ss.set j iC):=Al (t2.trans WO) rG;have eF:j8 (λk u H=>R.is H u<|W8 i j b st k) (ss.set j iC) n (upd H4 fp<|.lst<|ss.set j iC):=Me (eS.mono λ_ _ _ z=>R.same s5.t z)<|R.same (B6 (o:=.lst<|ss.set j iC)<|WO _ _ k2) f4;have kF:=b9 (H:=H4) (a:=fp) (o:=.lst<|ss.set j iC);have f1:=R.same ((s2.trans WO).t.trans<|B6 (o:=.lst<|ss.set j iC)<|WO _ _ k2) f1;clear s1 s2 t2 s3 s4 WO f3 f4 k2 lB;revert s5 eF kF f1;generalize upd H4 fp (.lst<|ss.set j iC)=H5;intro s5 eF kF f1;subst xE;intro xR xE;show va U ⟨ep,es,U,.inr<|o9.of<|s5 _ _ jb,λgp mJ=>?_⟩;have s6:=c7 (o:=.lst es) mJ;have k6:=b9 (H:=H5) (a:=gp) (o:=.lst es);have nfg:fp≠gp:=λz=>by rw[z,mJ]at kF;cases kF
 revert s6 k6;generalize upd H5 gp (.lst es)=H6;intro s6 k6;have t6:=s5.trans s6;have kF:=s6 _ _ kF;have eF:j8 (λk u H=>R.is H u<|W8 i j b st k) (ss.set j iC) n H6:=eF.mono λ_ _ _ z=>R.same s6.t z;obtain⟨vi,evi,pvi⟩:=eE.2 i hi;obtain⟨vj,evj,pvj⟩:=eE.2 j hj;subst xE;intro xR xE;show vc U U U<|zf ⟨U,U,p9.of k6,E7 evi,vc U U U<|va U<|zf ⟨U,U,p9.of k6,E7 evj,R,zD nm p so cv vj (R.F.neg b) (en j) m m ⟨hS,U,⟨eQ.same t6.t,R.same s6.t f1,R.same t6.t pvj,zc,a1v.en j hj,hz.le Z⟩,λtv7 H7 s7 f7=>?_⟩⟩⟩;show⟨R,zD nm p so vi tv7 (en i) _ m (m+m) ⟨hS,U,⟨eQ.same (t6.trans s7).t,R.same (t6.trans s7).t pvi,f7,a1v.en i hi,R.S.sz_mul _ _ _ _ zc<|a1v.en j hj,hz.le Z⟩,λjk H8 s8 f8=>?_⟩⟩;have UQ:=s7.trans s8;show vb U U ⟨gp,es,(i:Int),i,U,U,UQ _ _ k6,(by rw[eE.1];exact Gy hi),?_⟩;have rF:H gp=none:=by
  cases e:H gp with
  | none=>rfl
  | some o=>rw[s5 _ _ e]at mJ;cases mJ
 have tl:=B6 (o:=.lst<|es.set i jk)<|UQ _ _ k6;have s9:h9 H (upd H8 gp<|.lst<|es.set i jk):=Al (t6.trans UQ) rF;have eG:j8 (λk u H=>R.is H u<|W8 j i (R.F.neg b) en k) (es.set i jk) n (upd H8 gp<|.lst<|es.set i jk):=Me (eE.mono λ_ _ _ z=>R.same s9.t z)<|R.same tl f8;have kG:=b9 (H:=H8) (a:=gp) (o:=.lst<|es.set i jk);have rR:upd H8 gp (.lst<|es.set i jk) fp=some (.lst<|ss.set j iC):=by rw[l9 nfg];exact UQ _ _ kF
 have uF:j8 (λk u H=>R.is H u<|W8 i j b st k) (ss.set j iC) n (upd H8 gp<|.lst<|es.set i jk):=eF.mono λ_ _ _ z=>R.same (UQ.t.trans tl) z;have f9:=R.same (s6.t.trans<|UQ.t.trans tl) f1;clear s5 s6 s7 s8 UQ t6 eF kF f1 f7 f8 k6 mJ tl;revert s9 eG kG rR uF f9;generalize upd H8 gp (.lst<|es.set i jk)=H9;intro s9 eG kG rR uF f9;subst xE;intro xR xE;show⟨sL,λma iV=>?_⟩;show E4 (o:=.lst []) iV λyK WQ mS=>?_;subst xE;intro xR xE;show va U ⟨tp,U,⟨_,o9.of<|WQ _ _<|s9 _ _ fw⟩,FB (K:=K) (a:=tp) (xs:=tabs) (λc σ G=>∃gR iS jX oB us,σ=[some so,sr mp,si i,si j,some bv,some<|vT l,sr sp,sr tp,sr ep,some cv,sr fp,sr gp,sr ma,gR,iS,jX,oB]/\h9 H9 G/\G ma=some (.lst us)/\j8 (λc u H=>B5 R n n (OK i j b (R.F.neg b)<|tb c) u H) us c G) ⟨_,_,_,_,[],U,WQ,mS,j8.nil⟩ (λi' σ G _ ⟨_,_,_,_,_,_,q,_⟩=>o9.of<|q _ _<|s9 _ _ fw) ?_ ?_⟩
 . rintro c y σ G hc ⟨gR,iS,jX,oB,us,rfl,sG,kM,eM⟩;obtain⟨cl,O⟩:=eT.at hc;obtain⟨yp,Cp,rfl,mT,eY⟩:=O;have ju:=sG _ _<|s9 _ _ mT;intro xR xE;show⟨U,va U ⟨yp,U,⟨_,o9.of ju⟩,o4 (n:=n) (λq ys G1=>h9 G G1/\∃rs,ys=rs.map V.ref/\rs.length=q/\LL R n G (tb c) rs G1) Z ⟨h9.refl _,[],U,U,List.nodup_nil,λq r e=>by simp at e⟩ (λq ys G1 h=>by obtain⟨_,rs,e,el,_⟩:=h;rw[e,ag,el]) ?_ ?_ ?_⟩⟩
   . rintro q ys G1 hq ⟨s1,rs,rfl,el,hL⟩;obtain⟨u,eu,pu⟩:=eY.2 q hq;show⟨za ⟨o9.of<|s1 _ _ ju,eu⟩,λy' H' gj=>?_⟩;obtain⟨rfl,gj⟩:=gj;have:=gj _<|o9.of<|s1 _ _ ju;rw[eu]at this;cases this;have u9:y9 H H':=(s9.trans<|sG.trans s1).t;obtain⟨up,qC,rfl,gU,eU⟩:=j5.same u9 pu;show⟨⟨[some _],U,U⟩,va U ⟨up,qC,U,.inr<|o9.of gU,λr nr=>?_⟩⟩;show⟨s1.trans<|c7 nr,rs++[r],by rw[bb];rfl,by rw[aq,el];rfl,hL.snoc s1 nr ?_⟩;rw[el];exact eU
   . rintro ys G1 ⟨s1,_⟩;exact⟨_,o9.of<|s1 _ _ ju,by rw[eY.1];exact ae _⟩
   . rintro ys G1 lp ⟨s1,rs,rfl,el,hL⟩ gC;have s2:=c7 (o:=.lst<|rs.map V.ref) gC;have k2:=b9 (H:=G1) (a:=lp) (o:=.lst<|rs.map V.ref);have nlG:G lp=none:=by
      cases e:G lp with
      | none=>rfl
      | some o=>rw[s1 _ _ e]at gC;cases gC
     have pQ:=hL.same s2;have vw:lp ∉ rs:=hL.not gC;have s2:=s1.trans s2;clear s1 hL gC;revert s2 k2 pQ;generalize upd G1 lp (.lst<|rs.map V.ref)=G2;intro k2 pQ s2;have zA:=a1v.tb c cl;subst xE;intro xR xE;show va U ⟨lp,U,⟨_,p9.of k2⟩,Mc (n:=n) (λq σ G3=>∃jX,σ=[some so,sr mp,si i,si j,some bv,some<|vT l,sr sp,sr tp,sr ep,some cv,sr fp,sr gp,sr ma,sr yp,sr lp,jX,oB]/\h9 G G3/\G3 lp=some (.lst<|rs.map V.ref)/\LL R n G (λq'=>if q' < q then W8 i j b (tb c q')else tb c q') rs G3) (va U ⟨s2,k2,pQ⟩) ?_ ?_⟩
     . rintro q σ G3 hq ⟨jX,rfl,s3,k3,nS⟩;have er:=ah (show q < rs.length by omega);obtain⟨z0,oF,iW,e3⟩:=nS.2 q _ er;have ey:(rs.map V.ref)[q]? = some (V.ref rs[q]):=by rw[aE,er];rfl
       show Hm (p9.of k3) ey ?_
       (try dsimp only at e3)
       rw[if_neg<|aO q]at e3;obtain⟨xi,exi,pxi⟩:=e3.2 i hi;obtain⟨xj,exj,pxj⟩:=e3.2 j hj;have t3:=s9.trans<|sG.trans s3;have zq:=zA q hq;show vc U U U<|zf ⟨U,U,p9.of iW,E7 exj,vc U U U<|va U<|zf ⟨U,U,p9.of iW,E7 exi,R,zD nm p so bv xi b (tb c q i) m m ⟨hS,U,⟨eQ.same t3.t,R.same t3.t hb,pxi,zb,zq i hi,hz.le Z⟩,λtv4 G4 s4 f4=>?_⟩⟩⟩;show⟨R,zD nm p so xj tv4 (tb c q j) _ m (m+m) ⟨hS,U,⟨eQ.same (t3.trans s4).t,R.same s4.t pxj,f4,zq j hj,R.S.sz_mul _ _ _ _ zb<|zq i hi,hz.le Z⟩,λrf G5 s5 f5=>?_⟩⟩;have Ib:=s4.trans s5;show vb U U ⟨rs[q],oF,(j:Int),j,U,U,Ib _ _ iW,(by rw[e3.1];exact Gy hj),?_⟩;have tl:=B6 (o:=.lst<|oF.set j rf)<|Ib _ _ iW;have e6:j8 (λk u H=>R.is H u<|W8 i j b (tb c q) k) (oF.set j rf) n (upd G5 rs[q]<|.lst<|oF.set j rf):=Me (e3.mono λ_ _ _ z=>R.same (Ib.t.trans tl) z)<|R.same tl f5;show va U ⟨Al (s3.trans Ib) z0,?_,?_⟩
       . rw[l9<|λz=>vw<|by rw[z];exact aG _];exact Ib _ _ k3
       . have h6:=(nS.same Ib).put er (Ib _ _ iW) e6;have ef:(λq'=>if q' < q+1 then W8 i j b (tb c q')else tb c q')=λq'=>if q'=q then W8 i j b (tb c q)else if q' < q then W8 i j b (tb c q')else tb c q':=by
          funext q';by_cases z:q'=q
          . rw[if_pos z,z,if_pos Z]
          . by_cases z2:q' < q
            . rw[if_neg z,if_pos z2,if_pos Z]
            . rw[if_neg z,if_neg z2,if_neg Z]
         rw[ef];exact h6
     . rintro σ G3 ⟨jX,rfl,s3,k3,nS⟩;show⟨⟨_,p9.of k3,by rw[ag];omega⟩,?_⟩;subst xE;intro xR xE;have e:=nS.rows;rw[el]at e;have e:j8 (λr u H=>QM R n (W8 i j b<|tb c r) u H) (rs.map V.ref) n G3:=⟨e.1,λr hr=>by
        obtain⟨u,a,b⟩:=e.2 r hr
        (try dsimp only at b)
        rw[if_pos hr]at b;exact⟨u,a,b⟩⟩
       clear nS pQ k2 s2 vw;revert k3 e;generalize rs.map V.ref=ys;intro k3 e;have yl:=e.1;obtain⟨ui',nX,rh,qF,rfl,mY,ei⟩:=e.2 i hi;obtain⟨uj',ux,rg,qD,rfl,pI,ej⟩:=e.2 j hj;show vb U U<|zf ⟨U,U,p9.of k3,E7 ux,?_⟩;subst xE;intro xR xE;show vb U U (zf ⟨U,U,p9.of k3,E7 nX,va U ⟨.lst rh,.lst rg,za ⟨qF,qD,U,U,U,p9.of mY,p9.of pI,o4 (n:=n) (λk fh G4=>h9 G3 G4/\j8 (λk u H=>R.is H u<|R.S.add (W8 i j b (tb c i) k)<|R.S.mul (R.F.neg b)<|W8 i j b (tb c j) k) fh k G4) Z ⟨h9.refl _,j8.nil⟩ (λj ys G q=>q.2.1) ?_ ?_ ?_⟩⟩⟩)
       . rintro k' fh G4 iM ⟨q4,e4⟩;obtain⟨xu,yw,pxu⟩:=ei.2 k' iM;obtain⟨yu,yt,pyu⟩:=ej.2 k' iM;show⟨⟨qF,qD,xu,yu,p9.of<|q4 _ _ mY,p9.of<|q4 _ _ pI,yw,yt⟩,λy' H' hy=>?_⟩;obtain⟨pp,x',y',rfl,np,rfl,f1,f2⟩:=hy;have e1:=f1 _<|p9.of<|q4 _ _ mY;rw[yw]at e1;cases e1;have e2:=f2 _<|p9.of<|q4 _ _ pI;rw[yt]at e2;cases e2;have t5:=c7 (o:=.tup [xu,yu]) np;have qY:=q4.trans t5;have u9:=(sG.trans<|s3.trans qY).t;have uq:=s9.t.trans u9;have z1:∀r,r < n->R.S.sz (m+(m+m)+1) (W8 i j b (tb c r) k'):=λr hr=>e0l hi hj zb (zA r hr) k' iM;show⟨pp,va U ⟨o9.of b9,U,za ⟨U,za ⟨U,U,⟨[some _,some _],U,U⟩,vc U U U<|vb U U ⟨R,zD nm p so cv yu (R.F.neg b) _ m (m+(m+m)+1) ⟨hS,U,⟨eQ.same uq,R.same u9 f9,R.same qY.t pyu,zc,z1 j hj,hz.le Z⟩,λtv G6 s7 f7=>?_⟩⟩⟩⟩⟩⟩;show⟨R,zD nm p so xu tv _ _ (m+(m+m)+1) (m+(m+(m+m)+1)) ⟨hS,U,⟨eQ.same<|uq.trans s7.t,R.same (qY.trans s7).t pxu,f7,z1 i hi,R.S.sz_mul _ _ _ _ zc<|z1 j hj,hz.le Z⟩,λav G7 s8 f8=>?_⟩⟩;exact⟨q4.trans<|t5.trans<|s7.trans s8,(e4.mono λ_ _ _ z=>R.same (t5.trans<|s7.trans s8).t z).snoc f8⟩
       . rintro fh G4 ⟨q4,e4⟩;exact⟨qF,qD,p9.of<|q4 _ _ mY,p9.of<|q4 _ _ pI,.inl ei.1.symm⟩
       . rintro fh G4 z2 ⟨q4,e4⟩ jq;have t5:=c7 (o:=.lst fh) jq;have k5:=b9 (H:=G4) (a:=z2) (o:=.lst fh);have e5:j8 (λk u H=>R.is H u<|R.S.add (W8 i j b (tb c i) k)<|R.S.mul (R.F.neg b)<|W8 i j b (tb c j) k) fh n (upd G4 z2<|.lst fh):=e4.mono λ_ _ _ z=>R.same t5.t z;have nzz:z2≠lp:=λe=>by rw[e,q4 _ _ k3]at jq;cases jq
         revert t5 k5 e5;generalize upd G4 z2 (.lst fh)=G5;intro t5 k5 e5;have mC:=q4.trans t5;have rN:=mC _ _ k3;show vb U U ⟨lp,ys,(i:Int),i,U,U,rN,(by rw[yl];exact Gy hi),?_⟩;have tl:=B6 (o:=.lst<|ys.set i<|.ref z2) rN;have t6:h9 G (upd G5 lp<|.lst<|ys.set i<|.ref z2):=Al (s3.trans mC) nlG;have mR:=b9 (H:=G5) (a:=lp) (o:=.lst<|ys.set i<|.ref z2);have vD:upd G5 lp (.lst<|ys.set i<|.ref z2) z2=some (.lst fh):=by rw[l9 nzz];exact k5
         have e6:j8 (λk u H=>R.is H u<|R.S.add (W8 i j b (tb c i) k)<|R.S.mul (R.F.neg b)<|W8 i j b (tb c j) k) fh n (upd G5 lp<|.lst<|ys.set i<|.ref z2):=e5.mono λ_ _ _ x=>R.same tl x;have eR:j8 (λr u H=>QM R n (OK i j b (R.F.neg b) (tb c) r) u H) (ys.set i<|.ref z2) n (upd G5 lp<|.lst<|ys.set i<|.ref z2):=by
          show⟨by rw[bK,yl],λr gu=>?_⟩;by_cases er:r=i
          . subst er;show⟨.ref z2,cA (by rw[yl];exact gu),?_⟩;dsimp only;rw[show OK r j b (R.F.neg b) (tb c) r=λk=>R.S.add (W8 r j b (tb c r) k) (R.S.mul (R.F.neg b)<|W8 r j b (tb c j) k)from if_pos rfl];exact⟨z2,fh,U,vD,e6⟩
          . obtain⟨u,eu,pu⟩:=e.2 r gu;show⟨u,by rw[bL<|Ne.symm er];exact eu,?_⟩;dsimp only;rw[show OK i j b (R.F.neg b) (tb c) r=W8 i j b (tb c r)from if_neg er];obtain⟨r1,us1,rfl,h1,h2⟩:=pu;exact⟨r1,us1,U,by rw[l9<|g0c hS Z k3 nX mY h1 h2];exact mC _ _ h1,h2.mono λ_ _ _ x=>R.same (mC.t.trans tl) x⟩
         clear q4 t5 k5 e5 rN mC tl vD e6 e k3 e4;revert t6 mR eR;generalize upd G5 lp (.lst<|ys.set i<|.ref z2)=G6;intro t6 mR eR;have kma:=t6 _ _ kM;subst xE;show va U ⟨.inl ⟨U,_,p9.of kma⟩,U,va U ⟨lp,U,⟨_,p9.of mR⟩,o4 (n:=n) (λr zs G7=>h9 G6 G7/\j8 (λr u H=>j5 R n (OK i j b (R.F.neg b) (tb c) r) u H) zs r G7) Z ⟨h9.refl _,j8.nil⟩ (λj ys H2 q=>q.2.1) ?_ ?_ ?_⟩⟩
         . rintro r zs G7 gu ⟨q7,e7⟩;obtain⟨u,eu,pu⟩:=eR.2 r gu;show Hm (p9.of<|q7 _ _ mR) eu ?_;obtain⟨up,mh,rfl,gU,eU⟩:=QM.same q7 pu;show⟨⟨[some _],U,U⟩,va U ⟨up,mh,U,.inl ⟨p9.of gU,λtz iD=>?_⟩⟩⟩;have t8:=c7 (o:=.tup mh) iD;exact⟨q7.trans t8,(e7.mono λ_ _ _ x=>j5.same t8.t x).snoc ⟨tz,mh,U,b9,eU.mono λ_ _ _ x=>R.same t8.t x⟩⟩
         . rintro zs G7 ⟨q7,e7⟩;exact⟨_,p9.of<|q7 _ _ mR,by rw[eR.1];exact ae _⟩
         . rintro zs G7 lz ⟨q7,e7⟩ gZ;have t8:=c7 (o:=.lst zs) gZ;show⟨lz,zs,U,.inl ⟨p9.of b9,λtz iD=>?_⟩⟩;have t9:=t8.trans<|c7 (o:=.tup zs) iD;have jB:B5 R n n (OK i j b (R.F.neg b)<|tb c) (.ref tz) (upd (upd G7 lz<|.lst zs) tz<|.tup zs):=⟨tz,zs,U,b9,e7.mono λ_ _ _ x=>j5.same t9.t x⟩;have gz:=t6.trans<|q7.trans t9;revert jB gz;generalize upd (upd G7 lz<|.lst zs) tz (.tup zs)=G8;intro jB gz;have iG:=gz _ _ kM;have eu:=eM.1;have et:=eT.1;show⟨ma,us,V.ref tz,U,U,iG,Z,?_⟩;have nx:=B6 (o:=.lst<|us++[V.ref tz]) iG;exact zf ⟨us++[V.ref tz],U,Al (sG.trans gz) iV,b9,(eM.mono λ_ _ _ x=>B5.same nx<|B5.same gz.t x).snoc<|B5.same nx jB⟩
 . rintro σ G ⟨gR,iS,jX,oB,us,rfl,sG,kM,eM⟩;subst xE;rw[eT.1]at eM;show vb U U ⟨fp,va U<|.inl ⟨p9.of<|sG _ _ rR,λq1 oY=>?_⟩⟩;show E4 (o:=.tup<|ss.set j iC) oY λG1 t1 k1=>?_;show va U ⟨ma,us,U,.inl ⟨p9.of<|t1 _ _ kM,λq2 rB=>?_⟩⟩;show E4 (o:=.tup us) rB λG2 t2 k2=>?_;show va U ⟨gp,va U<|.inl ⟨p9.of<|(sG.trans<|t1.trans t2) _ _ kG,λq3 oX=>?_⟩⟩;show E4 (o:=.tup<|es.set i jk) oX λG3 t3 k3=>?_;show⟨sL,λq4 rA=>?_⟩;have t4:=c7 (o:=.tup [vT l,V.ref q1,V.ref q2,V.ref q3]) rA;have jE:=t1.trans<|t2.trans<|t3.trans t4;exact k _ _ (s9.trans<|sG.trans jE) ⟨q4,_,_,va U ⟨b9,⟨q1,va U ⟨(t2.trans<|t3.trans t4) _ _ k1,uF.mono λ_ _ _ z=>R.same (sG.trans jE).t z⟩⟩,⟨q2,us,U,(t3.trans t4) _ _ k2,eM.mono λ_ _ _ x=>B5.same jE.t x⟩,⟨q3,va U ⟨t4 _ _ k3,eG.mono λ_ _ _ z=>R.same (sG.trans jE).t z⟩⟩⟩⟩
def Ve(ub:Bool)(x y:V):OM [x,y] (if ub=true then 1 else 0)=some (if ub=true then y else x):=by cases ub <;>rfl
def RowW(R:c9 Pr w K mg base)(n:Nat)(ub:Bool)(x:QQ R.S)(v:V)(H:Hp):Prop:=∃y,j5 R (n+1) y v H/\(∀j,j < n->y j=x j)/\R.B.cb 12 48 (y n)/\(ub=false->y n=R.S.zero)
theorem RowW.same{R:c9 Pr w K mg base}{n:Nat}{ub:Bool}{x:QQ R.S}{v:V}{H H':Hp}(s:y9 H H')(h:RowW R n ub x v H):RowW R n ub x v H':=by obtain⟨y,h1,h2⟩:=h;exact⟨y,j5.same s h1,h2⟩
def TM(R:c9 Pr w K mg base)(n:Nat)(ub:Bool)(A:F0 R.S)(v:V)(H:Hp):Prop:=∃B,B5 R (n+1) (n+1) B v H/\(∀i,i < n->∀j,j < n->B i j=A i j)/\(∀i,i<=n->R.B.cb 12 48 (B n i)/\R.B.cb 12 48 (B i n))/\(ub=true->∀j,j < n->B n j=R.S.zero)/\(ub=false->∀i,i < n->B i n=R.S.zero)
theorem TM.same{R:c9 Pr w K mg base}{n:Nat}{ub:Bool}{x:F0 R.S}{v:V}{H H':Hp}(s:y9 H H')(h:TM R n ub x v H):TM R n ub x v H':=by obtain⟨y,h1,h2⟩:=h;exact⟨y,B5.same s h1,h2⟩
def TN(R:c9 Pr w K mg base)(ub:Bool):Nat->V->Hp->Prop:=λ_ u H=>∃x,R.is H u x/\R.B.cb 12 48 x/\(ub=true->x=R.S.zero)
theorem TN.same{R:c9 Pr w K mg base}{ub:Bool}{i:Nat}{v:V}{H H':Hp}(s:y9 H H')(h:TN R ub i v H):TN R ub i v H':=by obtain⟨x,h1,h2⟩:=h;exact⟨x,R.same s h1,h2⟩
def Uz:Sp:=λvs H Q _=>∃(R:c9 Pr w K mg base),∃nm p,∃(a:Addr),∃so mv l,∃(n:Nat),∃(se:Bool),∃st tb en,So T R nm p/\vs=[.ref a,so,mv,.bl se]/\(Dr H a/\K7 H so nm p/\N4 l/\n<=50/\j9 R l n st tb en mv H)/\
 ∀v H' st' tb' en',l6 a H H'->Dr H' a->j9 R l (n+1) st' tb' en' v H'->((∀i,i < n->st' i=st i)/\(∀c,c < l.length->∀i,i < n->∀j,j < n->tb' c i j=tb c i j)/\∀i,i < n->en' i=en i)->
  (R.B.cb 12 48 (st' n)/\(∀c,c < l.length->∀i,i<=n->R.B.cb 12 48 (tb' c n i)/\R.B.cb 12 48 (tb' c i n))/\R.B.cb 12 48 (en' n))->
  ((en' n=R.S.zero/\∀c,c < l.length->∀j,j < n->tb' c n j=R.S.zero)\/(st' n=R.S.zero/\∀c,c < l.length->∀i,i < n->tb' c i n=R.S.zero))->Q v H'
def NB:w8 Pr w K mg base F6 42 t.y0x t.w0d b0l (Uz (w:=w) (base:=base) T):=by
 show T.v0g.F.okA C2 λ_ _ _ _ H vs _ _ hr h=>?_;obtain⟨R,nm,p,a,so,mv,l,n,se,st,tb,en,hS,rfl,⟨hD,eQ,L,hn,hM⟩,k⟩:=h;obtain⟨mp,sv,tv,ev,rfl,hm,h1,⟨tp,tabs,rfl,fw,eT⟩,h3⟩:=id hM;show⟨_,(l7 (X3 (O 2)<|I9 U<|l5 (gN 4 C2.nd)<|l5 (gN 5 C2.nd)<|l5 (gN 6 C2.nd)<|l5 (gN 7 C2.nd) D7)<|l7 (sT 8 C2.nd<|x9 B4 bR T.z_len PySem.boot_len<|B3<|O 5)<|l7 (U7 (i:=9) C2.nd U (Or.inr U)<|D2 (Ba T) hr.m T.z0b<|F1 (O 1) c4)<|l7 (sT 10 C2.nd<|D1 K6)<|l7 (E9 aB U (J2<|O 6) (gN 11 C2.nd)<|l7 (sT 12 C2.nd<|D1 K6)<|l7 (E9 aB U (J2<|O 11) (gN 13 C2.nd)<|c6<|F3<|W2 bq bF bH J3 (O 12)<|B3<|o8 Y4 (O 13)<|D0<|B3<|D5 y8 (D1<|F1 (O 9)<|D2 (G0 T) hr.m T.t0d<|F1 (O 0)<|O 1)<|i3 Y8 bR T.z_int boot_int<|B3<|Vj<|O 3)<|l7 (P5 (i₀:=14) (xs:=[Ai]) C2.nd U (Or.inl U) U (oC n0N<|a8 Aa) (C6 U T.z_range<|B3<|O 8) (gL 17 n5N)<|C1 (G0 (w:=w) (base:=base) T) hr.m U T.t0d.m T.t0d.F.kp T.t0d.b .nil C3<|F1 (O 0)<|O 1)<|l7 (D3 (Gf<|DW<|O 3) (c6<|P5 (i₀:=14) (xs:=[Ai]) C2.nd U (Or.inl U) U (oC n0N<|a8 Aa) (C6 U T.z_range<|B3<|O 8) (gL 17 n5N)<|O 9) x5)<|l7 (F3<|W2 bq bF bH J3 (O 12)<|B3<|i3 c8 bR T.z_tuple boot_tuple<|B3<|o8 Lm (O 14)<|D1<|B3<|D2 (G0 T) hr.m T.t0d<|F1 (O 0)<|O 1)<|c6<|F3<|W2 bq bF bH J3 (O 10)<|B3<|i3 c8 bR T.z_tuple boot_tuple<|B3<|O 12)<|l7 (sT 15 C2.nd<|D5 y8 (D1<|F1 (D2 (G0 T) hr.m T.t0d<|F1 (O 0)<|O 1)<|O 9)<|i3 Y8 bR T.z_int boot_int<|B3<|O 3)<|l7 (sT 16 C2.nd<|D5 y8 (D1<|F1 (O 9)<|D2 (G0 T) hr.m T.t0d<|F1 (O 0)<|O 1)<|i3 Y8 bR T.z_int boot_int<|B3<|O 3)<|c6<|h7<|D0<|Ik (O 4) (o8 Y4 (O 5)<|D0<|B3<|O 15) (i3 c8 bR T.z_tuple boot_tuple<|B3<|O 10)<|o8 Y4 (O 7)<|D0<|B3<|O 16),?_⟩;norm_cast;intro xR xE;have zl:=sZ;have l3:=L.h3;show va U ⟨mp,va U ⟨o9.of hm,U,za ⟨U,za ⟨U,za ⟨U,za ⟨U,U,?_⟩⟩⟩⟩⟩⟩;subst xE;intro xR xE;show va U<|za ⟨U,h1.len,?_⟩;subst xE;intro xR xE;show va U ⟨R,zm nm p so 0 ⟨hS,U,⟨eQ,bD,bD⟩,λzv H2 x0 s1 f2 ez _ _ _=>?_⟩⟩;cases ez rfl;have c0:R.B.cb 12 48 R.S.zero:=R.B.mono _ _ _ _ (aP _)<|R.B.zero 12 bD;have d2:=hD.same s1;have q2:l6 a H H2:=.of s1;obtain⟨ub,pE⟩:∃ub,(!se)=ub:=⟨_,U⟩;subst xE;intro xR xE;show⟨sL,λma iV=>?_⟩;have s3:=c7 (o:=.lst ([]:List V)) iV;have k3:=b9 (H:=H2) (a:=ma) (o:=.lst []);have d3:=d2.same s3;have na:ma≠a:=d2.ne iV;revert s3 k3 d3;generalize upd H2 ma (.lst [])=H3;intro s3 k3 d3;have q3:l6 a H H3:=q2.trans<|.of s3;have nma0:∀{G},l6 a H3 G->∀b o,b≠a->H2 b=some o->b≠ma:=λ_ b o _ e z=>by rw[z,iV]at e;cases e
 subst xE;intro xR xE;show va U ⟨tp,U,⟨_,o9.of<|q3.tt hD _ _ fw⟩,FB (K:=K) (a:=tp) (xs:=tabs) (λi σ G=>∃oE mf gR iS us,σ=[sr a,some so,sr mp,some<|.bl se,some<|vT l,some sv,sr tp,some ev,si n,some zv,sr ma,oE,mf,gR,iS,none,none]/\l6 a H2 G/\Dr G a/\G ma=some (.lst us)/\j8 (λc u H=>TM R n ub (tb c) u H) us i G) ⟨_,_,_,_,[],U,.of s3,d3,k3,j8.nil⟩ (λi σ G _ ⟨_,_,_,_,_,_,q,_⟩=>o9.of<|(q2.trans q).tt hD _ _ fw) ?_ ?_⟩
 . rintro i y σ G hi ⟨oE,mf,gR,iS,us,rfl,sG,dG,kG,eG⟩;obtain⟨il,O⟩:=eT.at hi;intro xR xE;show⟨sL,λra ke=>?_⟩;have s4:=c7 (o:=.lst ([]:List V)) ke;have k4:=b9 (H:=G) (a:=ra) (o:=.lst []);have d4:=dG.same s4;have nr:ra≠a:=dG.ne ke;have nrm:ra≠ma:=λz=>by rw[z,kG]at ke;cases ke
   revert s4 k4 d4;generalize upd G ra (.lst [])=G1;intro s4 k4 d4;show R7 12 (.ref ra) [sr a,some so,sr mp,some<|.bl se,some<|vT l,some sv,sr tp,some ev,si n,some zv,sr ma,some y,mf,gR,iS,none,none] G1 _;obtain⟨yp,qV,rfl,mT,eY⟩:=O;have u0:=(q2.trans sG).tt hD;have ju:=u0 _ _ mT;subst xE;intro xR xE;show va U ⟨yp,U,⟨_,o9.of<|s4 _ _ ju⟩,FB (K:=K) (a:=yp) (xs:=qV) (λi' σ G2=>∃gR fR,σ=[sr a,some so,sr mp,some<|.bl se,some<|vT l,some sv,sr tp,some ev,si n,some zv,sr ma,sr yp,sr ra,gR,iS,none,none]/\l6 a G G2/\Dr G2 a/\G2 ra=some (.lst fR)/\j8 (λi' u H=>RowW R n ub (tb i i') u H) fR i' G2) ⟨_,[],U,.of s4,d4,k4,j8.nil⟩ (λi' σ G2 _ ⟨_,_,_,q,_⟩=>o9.of<|q.tt dG _ _ ju) ?_ ?_⟩
   . rintro i' y' σ G2 iZ ⟨gR,fR,rfl,mx,jU,ph,lU⟩;obtain⟨il',pv'⟩:=eY.at iZ;obtain⟨yp',cs,rfl,rY,eC⟩:=pv';have u2:=mx.tt dG;have hy2:=u2 _ _<|u0 _ _ rY;show va U ⟨.inl ⟨U,_,p9.of ph⟩,?_⟩;show vc U U U<|va U ⟨R,zm nm p a so ⟨hS,U,⟨jU,(eQ.same u0).same u2⟩,λwv G3 wx s5 d5 iw cw=>?_⟩⟩;have t5:=s5.tt jU;have f5:=R.same t5<|R.same u2<|R.same (sG.tt d2) f2;have rP:=s5 _ _ nr ph;show⟨sL,λlp gC=>?_⟩;show E4 (o:=.lst [zv,wv]) gC λG4 s6 k6=>?_;show vb U U (.inr ⟨ub,by rw[pE],zf ⟨U,U,p9.of k6,Ve ub zv wv,?_⟩⟩);show⟨sL,λzp mF=>?_⟩;show E4 (o:=.tup [if ub=true then wv else zv]) mF λG5 s7 k7=>?_;have d0h:=s6.trans s7;show⟨yp',zp,cs,va U ⟨U,d0h _ _<|t5 _ _ hy2,k7,(by rw[eC.1];show n+1<=sizeLine;omega),λpz G6 s8 k8=>?_⟩⟩;have WM:=d0h.trans s8;have d8:=d5.same WM;have iF:=WM _ _ rP;have el:=lU.1;have e1:=eY.1;show⟨ra,fR,V.ref pz,U,U,iF,Z,?_⟩;have nx:=B6 (o:=.lst<|fR++[V.ref pz]) iF;have sx:l6 ra G6 (upd G6 ra<|.lst<|fR++[V.ref pz]):=l6.upd;have T8:y9 G2 G6:=t5.trans WM.t;show⟨_,fR++[V.ref pz],U,λb o nb e=>?_,d8.put nr,b9,(lU.mono λ_ _ _ h=>RowW.same nx<|RowW.same T8 h).snoc<|RowW.same nx ?_⟩
     . exact sx b o (l8 e ke) (WM b o<|s5 b o nb<|mx b o nb e)
     . show⟨λj=>if j < n then tb i i' j else(if ub=true then wx else R.S.zero),⟨pz,va U ⟨k8,by rw[aq,eC.1];rfl,λj hj=>?_⟩⟩,λj hj=>if_pos hj,?_,λe=>?_⟩
       . by_cases z:j < n
         . obtain⟨u,eu,pu⟩:=eC.2 j z;show⟨u,by rw[aY<|by rw[eC.1];exact z];exact eu,?_⟩;dsimp only;rw[if_pos z];exact R.same (u0.trans<|u2.trans T8) pu
         . show⟨if ub=true then wv else zv,by rw[aZ (by rw[eC.1];omega),eC.1,show j - n=0 by omega];rfl,?_⟩;dsimp only;rw[if_neg z];cases ub with
           | true=>exact R.same WM.t iw
           | false=>exact R.same WM.t f5
       . dsimp only;rw[if_neg<|aO n];cases ub with
         | true=>exact cw
         | false=>exact c0
       . dsimp only;rw[if_neg<|aO n,e];rfl
   . rintro σ G2 ⟨gR,fR,rfl,mx,jU,ph,lU⟩;rw[eY.1]at lU;have u2:=mx.tt dG;obtain⟨qO,vf,rfl,sj,eS⟩:=id h1;have hsv2:=u2 _ _<|u0 _ _ sj;have nra2:=ke;subst xE;intro xR xE;show vb U U ⟨Z,Z,o4 (n:=n) (λj ys G3=>l6 a G2 G3/\Dr G3 a/\j8 (λ_ u H=>∃x,R.is H u x/\R.B.cb 12 48 x) ys j G3) Z ⟨l6.refl _ _,jU,j8.nil⟩ (λj ys H2 q=>q.2.2.1) ?_ ?_ ?_⟩
     . rintro j ys G3 hj ⟨s5,d5,e5⟩;have t5:=s5.tt jU;show IG (by omega) ?_;show⟨⟨[some _],U,U⟩,vb U U ⟨R,zm nm p a so ⟨hS,U,⟨d5,((eQ.same u0).same u2).same t5⟩,λwv G4 wx s6 d6 iw cw=>?_⟩⟩⟩;exact⟨s5.trans s6,d6,(e5.mono λ_ _ _ ⟨x,z1,z2⟩=>⟨x,R.same (s6.tt d5) z1,z2⟩).snoc ⟨wx,iw,cw⟩⟩
     . rintro ys G3 _;show(n:Int).toNat<=n;omega
     . rintro gq G3 lg ⟨s5,d5,e5⟩ vq;have s6:=c7 (o:=.lst gq) vq;have k6:=b9 (H:=G3) (a:=lg) (o:=.lst gq);have e6:j8 (λ_ u H=>∃x,R.is H u x/\R.B.cb 12 48 x) gq n (upd G3 lg<|.lst gq):=e5.mono λ_ _ _ ⟨x,z1,z2⟩=>⟨x,R.same s6.t z1,z2⟩;have d6:=d5.same s6;have rq:lg≠a:=d5.ne vq;have mB:l6 a G2 (upd G3 lg<|.lst gq):=s5.trans<|.of s6;clear s5 d5 e5;revert s6 k6 e6 d6 mB;generalize upd G3 lg (.lst gq)=yL;intro s6 k6 e6 uH mB;clear s6;subst xE;intro xR xE;show(λ(eJ:∀(lh:Addr) (ys:List V) (G4:Hp),G4 lh=some (.lst ys)->j8 (TN R ub) ys n G4->Dr G4 a->lh≠a->l6 a G2 G4->(?F0:L2.St->Hp->Prop) [sr a,some so,sr mp,some<|.bl se,some<|vT l,sr qO,sr tp,some ev,si n,some zv,sr ma,sr yp,sr ra,gR,some<|.ref lh,none,none] G4)=>?main0) ?rest0
       case main0=>
        rcases(by cases se <;>simp:se=true\/se=false)with e | e
        . have eu:ub=false:=by rw[<- pE,e];rfl
          show vb U U ?_;show iteN (by rw[e];rfl) ?_;exact eJ lg gq yL k6 (e6.mono λ_ _ _ ⟨x,z1,z2⟩=>⟨x,z1,z2,λe=>by rw[eu]at e;cases e⟩) uH rq mB
        . show vb U U ?_;show iteY (by rw[e];rfl) ?_;have pV:=R.same (mB.tt jU)<|R.same u2<|R.same (sG.tt d2) f2;show vb U U ⟨Z,Z,o4 (n:=n) (λj ys G3=>G3=yL/\j8 (TN R ub) ys j G3) Z ⟨U,j8.nil⟩ (λj ys H2 q=>q.2.1) ?_ ?_ ?_⟩
          . rintro j ys G3 hj ⟨rfl,e5⟩;show IG (by omega) ?_;exact⟨⟨[some _],U,U⟩,va U ⟨U,e5.snoc ⟨_,pV,c0,λ_=>rfl⟩⟩⟩
          . rintro ys G3 _;show(n:Int).toNat<=n;omega
          . rintro ys G3 zl1 ⟨rfl,e5⟩ mG;have s7:=c7 (o:=.lst ys) mG;exact eJ zl1 ys _ b9 (e5.mono λ_ _ _ z=>TN.same s7.t z) (uH.same s7) (uH.ne mG) (mB.trans<|.of s7)
       case rest0=>
       intro lh ys G4 k6 e6 d6 nza q6;have t6:=q6.tt jU;have mO:=q6 _ _ nr ph;subst xE;intro xR xE;show va U ⟨.inl ⟨U,_,p9.of mO⟩,?_⟩;show vc U U U ⟨R,zm nm p a so ⟨hS,U,⟨d6,((eQ.same u0).same u2).same t6⟩,λwv G5 wx s7 d7 iw cw=>?_⟩⟩;have t7:=s7.tt d6;have k7:=s7 _ _ nza k6;have rO:=s7 _ _ nr mO;show⟨sL,λl1 nl1=>?_⟩;show E4 (o:=.lst [wv]) nl1 λG6 s8 k8=>?_;show⟨lh,l1,ys,[wv],U,U,s8 _ _ k7,k8,(by rw[e6.1];show n+1<=sizeLine;omega),λl2 nl2=>?_⟩;show E4 (o:=.lst<|ys++[wv]) nl2 λG7 s9 k9=>?_;show⟨l2,ys++[wv],U,.inl ⟨p9.of k9,λzp mF=>?_⟩⟩;show E4 (o:=.tup<|ys++[wv]) mF λG8 WQ mS=>?_;have S8:=s8.trans<|s9.trans WQ;have iF:=S8 _ _ rO;have el:=lU.1;show⟨ra,fR,V.ref zp,U,U,iF,Z,?_⟩;have nx:=B6 (o:=.lst<|fR++[V.ref zp]) iF;have sx:l6 ra G8 (upd G8 ra<|.lst<|fR++[V.ref zp]):=l6.upd;have kj:=b9 (H:=G8) (a:=ra) (o:=.lst<|fR++[V.ref zp]);have d9:=(d7.same S8).put (o:=.lst<|fR++[V.ref zp]) nr;have T9:y9 G2 (upd G8 ra<|.lst<|fR++[V.ref zp]):=t6.trans<|t7.trans<|S8.t.trans nx;have uE:=lU.mono λ_ _ _ (h:RowW R n ub _ _ _)=>RowW.same T9 h;obtain⟨ls,vS⟩:=HJ R.S.zero (P:=λ_ x u H=>R.is H u x/\R.B.cb 12 48 x/\(ub=true->x=R.S.zero)) e6;have sS:j5 R (n+1) (λj=>if j < n then ls j else wx) (.ref zp) (upd G8 ra<|.lst<|fR++[V.ref zp]):=by
        show⟨zp,va U ⟨nx _ _ mS,by rw[aq,e6.1];rfl,λj hj=>?_⟩⟩;by_cases z:j < n
        . obtain⟨u,eu,pu⟩:=vS.2 j z;show⟨u,by rw[aY<|by rw[e6.1];exact z];exact eu,?_⟩;dsimp only;rw[if_pos z];exact R.same (t7.trans<|S8.t.trans nx) pu.1
        . show⟨wv,by rw[aZ (by rw[e6.1];omega),e6.1,show j - n=0 by omega];rfl,?_⟩;dsimp only;rw[if_neg z];exact R.same (S8.t.trans nx) iw
       have mr:l6 a G (upd G8 ra<|.lst<|fR++[V.ref zp]):=λb o nb e=>sx b o (l8 e ke)<|S8 b o<|s7 b o nb<|q6 b o nb<|mx b o nb e;revert kj d9 T9 uE sS mr;generalize upd G8 ra (.lst<|fR++[V.ref zp])=G9;intro kj d9 T9 uE sS mr;have mQ:=mr _ _ na kG;subst xE;show va U ⟨.inl ⟨U,_,p9.of mQ⟩,va U ⟨ra,va U<|.inl ⟨p9.of kj,λtz iD=>?_⟩⟩⟩;show E4 (o:=.tup<|fR++[V.ref zp]) iD λuM TR rT=>?_;have jL:=TR _ _ mQ;have eu:=eG.1;have et:=eT.1;show⟨ma,us,V.ref tz,U,U,jL,Z,?_⟩;have vt:=B6 (o:=.lst<|us++[V.ref tz]) jL;have sx2:l6 ma uM (upd uM ma<|.lst<|us++[V.ref tz]):=l6.upd;have T10:y9 G (upd uM ma<|.lst<|us++[V.ref tz]):=(mr.tt dG).trans<|TR.t.trans vt;show zf ⟨us++[V.ref tz],U,λb o nb e=>?_,(d9.same TR).put na,b9,(eG.mono λ_ _ _ h=>TM.same T10 h).snoc<|TM.same vt ?_⟩
       . exact sx2 b o (l8 e iV) (TR b o<|mr b o nb<|sG b o nb e)
       . obtain⟨f,hf⟩:=HJ (λ_=>R.S.zero) (P:=λi' y u H=>j5 R (n+1) y u H/\(∀j,j < n->y j=tb i i' j)/\R.B.cb 12 48 (y n)/\(ub=false->y n=R.S.zero)) uE;have tL:∀r,r < n->(∀j,j < n->f r j=tb i r j)/\R.B.cb 12 48 (f r n)/\(ub=false->f r n=R.S.zero):=λr hr=>by
          obtain⟨_,_,q⟩:=hf.2 r hr;exact q.2
         have jN:∀r,r < n->R.B.cb 12 48 (ls r)/\(ub=true->ls r=R.S.zero):=λr hr=>by
          obtain⟨_,_,q⟩:=vS.2 r hr;exact q.2
         have bn:∀j,(λr=>if r < n then f r else λj=>if j < n then ls j else wx) n j=if j < n then ls j else wx:=λj=>by
          dsimp only;rw[if_neg<|aO n]
         have br:∀r,r < n->(λr=>if r < n then f r else λj=>if j < n then ls j else wx) r=f r:=λr hr=>if_pos hr;show⟨λr=>if r < n then f r else λj=>if j < n then ls j else wx,⟨tz,va U ⟨rT,by rw[aq,el];rfl,λr hr=>?_⟩⟩,λr hr j hj=>?_,λr hr=>?_,λe j hj=>?_,λe r hr=>?_⟩
         . by_cases z:r < n
           . obtain⟨u,eu,pu⟩:=hf.2 r z;show⟨u,by rw[aY<|by rw[el];exact z];exact eu,?_⟩;dsimp only;rw[if_pos z];exact j5.same TR.t pu.1
           . show⟨.ref zp,by rw[aZ (by rw[el];omega),el,show r - n=0 by omega];rfl,?_⟩;dsimp only;rw[if_neg z];exact j5.same TR.t sS
         . rw[br r hr];exact(tL r hr).1 j hj
         . rw[bn];constructor
           . split
             . rename_i z;exact(jN r z).1
             . exact cw
           . by_cases z:r < n
             . rw[br r z];exact(tL r z).2.1
             . rw[show r=n by omega,bn,if_neg<|aO n];exact cw
         . rw[bn,if_pos hj];exact(jN j hj).2 e
         . rw[br r hr];exact(tL r hr).2.2 e
 . rintro σ G ⟨oE,mf,gR,iS,us,rfl,sG,dG,kG,eG⟩;rw[eT.1]at eG;have u0:=(q2.trans sG).tt hD;have fG:=R.same (sG.tt d2) f2;subst xE;intro xR xE;show vb U U ⟨R,zm nm p a so ⟨hS,U,⟨dG,eQ.same u0⟩,λwv G1 wx s4 d4 iw cw=>?_⟩⟩;have t4:=s4.tt dG;have vG:=s4 _ _ na kG;show va U ⟨sL,λlp gC=>?_⟩;show E4 (o:=.lst [wv,zv]) gC λG2 s5 k5=>?_;have iw2:=R.same s5.t iw;have wJ:=R.same (t4.trans s5.t) fG;show va U<|.inr ⟨se,U,zf ⟨U,U,p9.of k5,Ve se wv zv,?_⟩⟩;subst xE;intro xR xE;show vc U U U ⟨R,zm nm p a so ⟨hS,U,⟨d4.same s5,(eQ.same u0).same<|t4.trans s5.t⟩,λou G3 wx2 s6 d6 iw3 cw3=>?_⟩⟩;have t6:=s6.tt<|d4.same s5;have vF:=s6 _ _ na<|s5 _ _ vG;show⟨sL,λlq nlq=>?_⟩;show E4 (o:=.lst [zv,ou]) nlq λG4 s7 k7=>?_;show va U<|.inr ⟨se,U,zf ⟨U,U,p9.of k7,Ve se zv ou,?_⟩⟩;obtain⟨bs,wb⟩:∃bs,(if se=true then zv else wv)=bs:=⟨_,U⟩;obtain⟨be,jd⟩:∃be,(if se=true then ou else zv)=be:=⟨_,U⟩;have lX:=t6.trans s7.t;obtain⟨xs,is,cs,zs⟩:∃xs,R.is G4 bs xs/\R.B.cb 12 48 xs/\(ub=false->xs=R.S.zero):=by
    rw[<- wb];cases se with
    | true=>exact⟨_,R.same lX wJ,c0,λ_=>rfl⟩
    | false=>exact⟨_,R.same lX iw2,cw,λe=>by rw[<- pE]at e;cases e⟩
   obtain⟨xe,ie,ce,ze⟩:∃xe,R.is G4 be xe/\R.B.cb 12 48 xe/\(ub=true->xe=R.S.zero):=by
    rw[<- jd];cases se with
    | true=>exact⟨_,R.same s7.t iw3,cw3,λe=>by rw[<- pE]at e;cases e⟩
    | false=>exact⟨_,R.same lX wJ,c0,λ_=>rfl⟩
   show R7 16 (if se=true then ou else zv) [sr a,some so,sr mp,some<|.bl se,some<|vT l,some sv,sr tp,some ev,si n,some zv,sr ma,oE,mf,gR,iS,some (if se=true then zv else wv),none] G4 _;rw[wb,jd];have rQ:=s7 _ _ vF;obtain⟨qO,vf,rfl,sj,eS⟩:=id h1;obtain⟨evp,evs,rfl,hev,eE⟩:=id h3;have U4:y9 H G4:=u0.trans<|t4.trans<|s5.t.trans lX;have X4:l6 a H G4:=q2.trans<|sG.trans<|s4.trans<|(l6.of s5).trans<|s6.trans<|.of s7;have D4:=d6.same s7;have TG:=t4.trans<|s5.t.trans lX;clear s4 s5 s6 s7 d6 d4 vG vF t6 lX;subst xE;show vc U U U ⟨sL,λzp mF=>?_⟩;show E4 (o:=.tup [bs]) mF λG5 s7 k7=>?_;show⟨qO,zp,vf,[bs],U,U,s7 _ _<|U4 _ _ sj,k7,(by rw[eS.1];show n+1<=sizeLine;omega),λsp G6 s8 k8=>?_⟩;show va U ⟨ma,us,U,.inl ⟨p9.of<|(s7.trans s8) _ _ rQ,λtq ntq=>?_⟩⟩;show E4 (o:=.tup us) ntq λG7 s9 k9=>?_;have e0s:=s7.trans<|s8.trans s9;show vb U U ⟨sL,λzq nzq=>?_⟩;show E4 (o:=.tup [be]) nzq λG8 WQ mS=>?_;have mz:=e0s.trans WQ;show⟨evp,zq,evs,[be],U,U,mz _ _<|U4 _ _ hev,mS,(by rw[eE.1];show n+1<=sizeLine;omega),λep G9 TR rT=>?_⟩;show⟨sL,λfp lB=>?_⟩;show E4 (o:=.tup [vT l,V.ref sp,V.ref tq,V.ref ep]) lB λGF Ms k12=>?_;have S9:=mz.trans<|TR.trans Ms;have U9:y9 H GF:=U4.trans S9.t;obtain⟨TB',wj⟩:=HJ (λ_ _=>R.S.zero) (P:=λc B u H=>B5 R (n+1) (n+1) B u H/\(∀i,i < n->∀j,j < n->B i j=tb c i j)/\(∀i,i<=n->R.B.cb 12 48 (B n i)/\R.B.cb 12 48 (B i n))/\(ub=true->∀j,j < n->B n j=R.S.zero)/\(ub=false->∀i,i < n->B i n=R.S.zero)) eG;have pO:=λc (hc:c < l.length)=>(wj.2 c hc).choose_spec.2.2;have ext:∀{x:QQ R.S} {v:R.S.W} {vs:List V} {u:V} {z:Addr},j8 (λj u H=>R.is H u<|x j) vs n H->R.is GF u v->GF z=some (.tup<|vs++[u])->j5 R (n+1) (λj=>if j < n then x j else v) (.ref z) GF:=λ{x v vs u z} en iu kz=>by
    show⟨z,va U ⟨kz,by rw[aq,en.1];rfl,λj hj=>?_⟩⟩;by_cases z:j < n
    . obtain⟨u',eu,pu⟩:=en.2 j z;show⟨u',by rw[aY<|by rw[en.1];exact z];exact eu,?_⟩;dsimp only;rw[if_pos z];exact R.same U9 pu
    . show⟨u,by rw[aZ (by rw[en.1];omega),en.1,show j - n=0 by omega];rfl,?_⟩;dsimp only;rw[if_neg z];exact iu
   show k _ GF (λj=>if j < n then st j else xs) TB' (λj=>if j < n then en j else xe) (X4.trans<|.of S9) (D4.same S9) ⟨fp,_,_,va U ⟨k12,ext eS (R.same S9.t is)<|(s9.trans<|WQ.trans<|TR.trans Ms) _ _ k8,⟨tq,us,U,(WQ.trans<|TR.trans Ms) _ _ k9,wj.mono λ_ _ _ q=>B5.same (TG.trans S9.t) q.1⟩,ext eE (R.same S9.t ie)<|Ms _ _ rT⟩⟩ ⟨λi hi=>if_pos hi,λc hc=>(pO c hc).1,λi hi=>if_pos hi⟩ ⟨by rw[if_neg<|aO n];exact cs,λc hc=>(pO c hc).2.1,by rw[if_neg<|aO n];exact ce⟩ ?_;cases jv:ub with
   | true=>exact .inl ⟨by rw[if_neg<|aO n];exact ze jv,λc hc=>(pO c hc).2.2.1 jv⟩
   | false=>exact .inr ⟨by rw[if_neg<|aO n];exact zs jv,λc hc=>(pO c hc).2.2.2 jv⟩
def BD(i j q:Nat):Nat:=if q=j then i else if q=i then j else q
def FQ{n i j q:Nat}(hi:i < n)(hj:j < n)(hq:q < n):BD i j q < n:=by
 unfold BD;by_cases h:q=j
 . rw[if_pos h];exact hi
 . rw[if_neg h];split <;>assumption
variable(w K mg base)in def MS:Sp:=λvs H Q _=>∃(R:c9 Pr w K mg base),∃mv l,∃(n i j:Nat),∃st tb en,vs=[mv,.int (i:Nat),.int (j:Nat)]/\(j9 R l n st tb en mv H/\N4 l/\i < n/\j < n/\i≠j/\n<=60)/\
 ∀v H',h9 H H'->j9 R l n (λq=>st<|BD i j q) (λa q r=>tb a (BD i j q)<|BD i j r) (λq=>en<|BD i j q) v H'->Q v H'
def Iq:w8 Pr w K mg base F6 40 t.t0r t.s0r a0z (MS w K mg base):=by
 show T.s0s.F.okA E8 λ_ _ _ s H _ Q _ hr h=>?_;obtain⟨R,mv,l,n,i,j,st,tb,en,rfl,⟨hM,L,hi,hj,ne,hn⟩,k⟩:=h;obtain⟨mp,sv,tv,ev,rfl,hm,⟨sp,ss,rfl,fM,eS⟩,⟨tp,tabs,rfl,fw,eT⟩,⟨ep,es,rfl,jb,eE⟩⟩:=id hM;have l3:=L.h3;have sl:=sZ;have lS:=eS.1;show⟨_,(l7 (X3 (O 0)<|I9 U<|l5 (gN 3 E8.nd)<|l5 (r9 (i:=4) E8.nd U<|Or.inr U)<|l5 (gN 5 E8.nd)<|l5 (r9 (i:=6) E8.nd U<|Or.inr U) D7)<|l7 (U7 (i:=7) E8.nd U (Or.inr U)<|SU U U T.z_list U T.z_range<|B3<|x9 B4 bR T.z_len PySem.boot_len<|B3<|O 4)<|l7 (X3 (O 2)<|Cs (O 7) (O 1) V8)<|l7 (X3 (O 1)<|Cs (O 7) (O 2) V8)<|l7 (sT 8 E8.nd<|D1 K6)<|l7 (E9 aB U (J2<|O 5) (r9 (i:=9) E8.nd U<|Or.inr U)<|c6<|F3<|W2 bq bF bH J3 (O 8)<|B3<|i3 c8 bR T.z_tuple boot_tuple<|B3<|x8 (xs:=["_law_q"]) U (oC n3N<|a8 K5) (C5<|O 7) (r9 (i:=10) (by show List.Nodup<|n2N;decide +kernel) U<|Or.inr U)<|i3 (show T3 _ (.type "tuple") (λxs H Q=>∃p ys,xs=[.ref p]/\((p9 K H p ys/\∀l,H l=none->Q (.ref l) (upd H l<|.tup ys))\/(o9 K H p ys/\Q (.ref p) H)))from c8) bR T.z_tuple boot_tuple<|B3<|x8 (xs:=["_law_r"]) U (show Q0 n2N (rlS (a8 K5) _) _ from⟨U,dK,dK,dK,dK,dK⟩) (show PI _ _ _ (YX K _)from C5<|O 7) (r9 (i:=11) (by show List.Nodup ([AO,Jh,ED,Bg,FO,FP,KF,"_law_order",KD,BQ,"_law_q","_law_r"]:w1f);decide +kernel) U<|Or.inl U)<|D5 (show Kx _ (Jy K)from j7) (D5 (show Kx _ (Jy K)from j7) (O 9)<|O 10)<|O 11)<|c6<|h7<|D0<|Ik (O 3) (i3 c8 bR T.z_tuple boot_tuple<|B3<|x8 (xs:=["_law_q"]) U (oC n3N<|a8 K5) (C5<|O 7) (gL 10 n2N)<|D5 (show Kx _ (Jy K)from j7) (O 4)<|O 10) (i3 c8 bR T.z_tuple boot_tuple<|B3<|O 8)<|i3 c8 bR T.z_tuple boot_tuple<|B3<|x8 (xs:=["_law_q"]) U (oC n3N<|a8 K5) (C5<|O 7) (gL 10 n2N)<|D5 (show Kx _ (Jy K)from j7) (O 6)<|O 10),?_⟩;norm_cast;intro xR xE;show va U ⟨mp,va U ⟨o9.of hm,U,za ⟨U,za ⟨U,za ⟨U,za ⟨U,U,?_⟩⟩⟩⟩⟩⟩;have hl:BA K (.ref sp) H n:=.inr ⟨_,o9.of fM,lS.symm⟩;subst xE;intro xR xE;show va U<|za ⟨U,hl,?_⟩;show⟨n,U,Z,λop rC=>?_⟩;have k1:=b9 (H:=H) (a:=op) (o:=.lst<|(List.range n).map λi=>V.int (i:Nat));have s1:=c7 (o:=.lst<|(List.range n).map λi=>V.int (i:Nat)) rC;have e1:∀q,q < n->((List.range n).map λi=>V.int (i:Nat))[q]? = some (V.int (q:Nat)):=λq hq=>by rw[aE,List.getElem?_range hq];rfl
 have y1:((List.range n).map λi=>V.int (i:Nat)).length=n:=by rw[ag,cJ]
 revert k1 s1 e1 y1;generalize ((List.range n).map λi=>V.int (i:Nat))=y0;intro k1 s1 e1 y1;revert k1 s1;generalize upd H op (.lst y0)=H1;intro k1 s1;subst xE;intro xR xE;show vc U U U ⟨op,y0,(i:Int),i,U,U,k1,(by rw[y1];exact Gy hi),?_⟩;subst xE;intro xR xE;show vc U U U ⟨op,y0.set i<|.int (j:Nat),(j:Int),j,U,U,b9,(by rw[bK,y1];exact Gy hj),?_⟩;have s2:h9 H (upd (upd H1 op<|.lst<|y0.set i<|.int (j:Nat)) op<|.lst<|(y0.set i<|.int (j:Nat)).set j<|.int (i:Nat)):=Al (Al s1 rC) rC;have k2:=b9 (H:=upd H1 op<|.lst<|y0.set i<|.int (j:Nat)) (a:=op) (o:=.lst<|(y0.set i<|.int (j:Nat)).set j<|.int (i:Nat));have e2:∀q,q < n->((y0.set i<|.int (j:Nat)).set j<|.int (i:Nat))[q]? = some (V.int (BD i j q:Nat)):=λq hq=>by
  unfold BD;by_cases h:q=j
  . rw[if_pos h,h,cA<|by rw[bK,y1];exact hj]
  . rw[if_neg h,bL<|Ne.symm h];by_cases h2:q=i
    . rw[if_pos h2,h2,cA<|by rw[y1];exact hi]
    . rw[if_neg h2,bL<|Ne.symm h2];exact e1 q hq
 have y2:((y0.set i<|.int (j:Nat)).set j<|.int (i:Nat)).length=n:=by rw[bK,bK,y1]
 clear s1 k1 e1 y1;revert s2 k2 e2 y2;generalize ((y0.set i<|.int (j:Nat)).set j<|.int (i:Nat))=os;generalize upd (upd H1 op<|.lst<|y0.set i<|.int (j:Nat)) op (.lst os)=H2;intro s2 k2 e2 y2;have row:∀{us:List V} {x:QQ R.S} {z:Addr} {G:Hp} {q:Nat},j8 (λj u H=>R.is H u<|x j) us n H->h9 H G->q < n->∃u,us[BD i j q]? = some u/\R.is G u (x<|BD i j q):=λ{us x z G q} e s hq=>by
  obtain⟨u,eu,pu⟩:=e.2 _<|FQ hi hj hq;exact⟨u,eu,R.same s.t pu⟩
 subst xE;intro xR xE;show⟨sL,λma iV=>?_⟩;show E4 (o:=.lst []) iV λH3 s3 k3=>?_;subst xE;intro xR xE;show va U ⟨tp,U,⟨_,o9.of<|s3 _ _<|s2 _ _ fw⟩,FB (K:=K) (a:=tp) (xs:=tabs) (λc σ G=>∃v9 us,σ=[sr mp,si i,si j,some<|vT l,sr sp,sr tp,sr ep,sr op,sr ma,v9]/\h9 H2 G/\G ma=some (.lst us)/\j8 (λc u H=>B5 R n n (λq r=>tb c (BD i j q)<|BD i j r) u H) us c G) ⟨_,[],U,s3,k3,j8.nil⟩ (λi' σ G _ ⟨_,_,_,q,_⟩=>o9.of<|q _ _<|s2 _ _ fw) ?_ ?_⟩
 . rintro c y σ G hc ⟨v9,us,rfl,sG,kM,eM⟩;obtain⟨cl,O⟩:=eT.at hc;obtain⟨yp,Cp,rfl,mT,eY⟩:=O;have ju:=sG _ _<|s2 _ _ mT;have kO:=sG _ _ k2;show va U ⟨.inl ⟨U,_,p9.of kM⟩,va U ⟨op,U,⟨_,p9.of kO⟩,o4 (n:=n) (λq ys G1=>h9 G G1/\j8 (λq u H=>j5 R n (λr=>tb c (BD i j q)<|BD i j r) u H) ys q G1) Z ⟨h9.refl _,j8.nil⟩ (λq ys G1 h=>h.2.1) ?_ ?_ ?_⟩⟩
   . rintro q ys G1 hq ⟨s4,e4⟩;show⟨za ⟨p9.of<|s4 _ _ kO,e2 q hq⟩,λy' H' gj=>?_⟩;obtain⟨rfl,gj⟩:=gj;have:=gj _<|p9.of<|s4 _ _ kO;rw[e2 q hq]at this;cases this;obtain⟨jI,erw,prw⟩:=eY.2 _<|FQ hi hj hq;have u9:h9 H H':=s2.trans<|sG.trans s4;obtain⟨rp,rus,rfl,pG,eR⟩:=prw;have hrG:=u9 _ _ pG;show⟨⟨[some _],U,U⟩,va U ⟨op,U,⟨_,p9.of<|s4 _ _ kO⟩,o4 (n:=n) (λr zs G2=>h9 H' G2/\j8 (λr u H=>R.is H u<|tb c (BD i j q)<|BD i j r) zs r G2) Z ⟨h9.refl _,j8.nil⟩ (λq ys G1 h=>h.2.1) ?_ ?_ ?_⟩⟩
     . rintro r zs G2 gu ⟨s5,e5⟩;show⟨za ⟨p9.of<|s5 _ _<|s4 _ _ kO,e2 r gu⟩,λy' gF gj=>?_⟩;obtain⟨rfl,gj⟩:=gj;have:=gj _<|p9.of<|s5 _ _<|s4 _ _ kO;rw[e2 r gu]at this;cases this;obtain⟨u,eu,pu⟩:=row (z:=0) eR (u9.trans s5) gu;show⟨⟨[some _],U,U⟩,vb U U<|zf ⟨U,U,o9.of<|s5 _ _<|s4 _ _ ju,E7 erw,va U<|zf ⟨U,U,o9.of<|s5 _ _ hrG,E7 eu,?_⟩⟩⟩;exact⟨s5,e5.snoc pu⟩
     . rintro zs G2 ⟨s5,e5⟩;exact⟨_,p9.of<|s5 _ _<|s4 _ _ kO,by rw[y2];exact ae _⟩
     . rintro zs G2 lz ⟨s5,e5⟩ gZ;have t8:=c7 (o:=.lst zs) gZ;show⟨lz,zs,U,.inl ⟨p9.of b9,λtz iD=>?_⟩⟩;have t9:=t8.trans<|c7 (o:=.tup zs) iD;exact⟨s4.trans<|s5.trans t9,(e4.mono λ_ _ _ x=>j5.same (s5.trans t9).t x).snoc ⟨tz,zs,U,b9,e5.mono λ_ _ _ x=>R.same t9.t x⟩⟩
   . rintro ys G1 ⟨s4,e4⟩;exact⟨_,p9.of<|s4 _ _ kO,by rw[y2];exact ae _⟩
   . rintro ys G1 lz ⟨s4,e4⟩ gZ;have t8:=c7 (o:=.lst ys) gZ;show⟨lz,ys,U,.inl ⟨p9.of b9,λtz iD=>?_⟩⟩;have t9:=t8.trans<|c7 (o:=.tup ys) iD;have jB:B5 R n n (λq r=>tb c (BD i j q)<|BD i j r) (.ref tz) (upd (upd G1 lz<|.lst ys) tz<|.tup ys):=⟨tz,ys,U,b9,e4.mono λ_ _ _ x=>j5.same t9.t x⟩;have gz:=s4.trans t9;revert jB gz;generalize upd (upd G1 lz<|.lst ys) tz (.tup ys)=G8;intro jB gz;have iG:=gz _ _ kM;have eu:=eM.1;have et:=eT.1;show⟨ma,us,V.ref tz,U,U,iG,Z,?_⟩;have nx:=B6 (o:=.lst<|us++[V.ref tz]) iG;exact⟨_,us++[V.ref tz],U,Al (sG.trans gz) iV,b9,(eM.mono λ_ _ _ x=>B5.same nx<|B5.same gz.t x).snoc<|B5.same nx jB⟩
 . rintro σ G ⟨v9,us,rfl,sG,kM,eM⟩;rw[eT.1]at eM;have kO:=sG _ _ k2;subst xE;show vb U U ⟨op,U,⟨_,p9.of kO⟩,o4 (n:=n) (λq zs G2=>h9 G G2/\j8 (λq u H=>R.is H u<|st<|BD i j q) zs q G2) Z ⟨h9.refl _,j8.nil⟩ (λq ys G1 h=>h.2.1) ?_ ?_ ?_⟩
   . rintro q zs G2 hq ⟨s5,e5⟩;show⟨za ⟨p9.of<|s5 _ _ kO,e2 q hq⟩,λy' gF gj=>?_⟩;obtain⟨rfl,gj⟩:=gj;have:=gj _<|p9.of<|s5 _ _ kO;rw[e2 q hq]at this;cases this;have u9:=s2.trans<|sG.trans s5;obtain⟨u,eu,pu⟩:=row (z:=0) eS u9 hq;exact⟨⟨[some _],U,U⟩,vb U U<|zf ⟨U,U,o9.of<|u9 _ _ fM,E7 eu,s5,e5.snoc pu⟩⟩
   . rintro ys G1 ⟨s4,e4⟩;exact⟨_,p9.of<|s4 _ _ kO,by rw[y2];exact ae _⟩
   . rintro ys G1 lz ⟨s4,e4⟩ gZ;have t8:=c7 (o:=.lst ys) gZ;show⟨lz,ys,U,.inl ⟨p9.of b9,λq1 oY=>?_⟩⟩;have t9:=t8.trans<|c7 (o:=.tup ys) oY;have lO:j5 R n (λq=>st<|BD i j q) (.ref q1) (upd (upd G1 lz<|.lst ys) q1<|.tup ys):=⟨q1,ys,U,b9,e4.mono λ_ _ _ x=>R.same t9.t x⟩;have gz:=s4.trans t9;clear t8 t9 s4 e4 gZ oY;revert lO gz;generalize upd (upd G1 lz<|.lst ys) q1 (.tup ys)=G3;intro lO gz;show va U ⟨ma,us,U,.inl ⟨p9.of<|gz _ _ kM,λq2 rB=>?_⟩⟩;show E4 (o:=.tup us) rB λG4 t2 k4=>?_;have u4:=gz.trans t2;have pf:=u4 _ _ kO;show va U ⟨op,U,⟨_,p9.of pf⟩,o4 (n:=n) (λq zs G2=>h9 G4 G2/\j8 (λq u H=>R.is H u<|en<|BD i j q) zs q G2) Z ⟨h9.refl _,j8.nil⟩ (λq ys G1 h=>h.2.1) ?_ ?_ ?_⟩
     . rintro q zs G2 hq ⟨s5,e5⟩;show⟨za ⟨p9.of<|s5 _ _ pf,e2 q hq⟩,λy' gF gj=>?_⟩;obtain⟨rfl,gj⟩:=gj;have:=gj _<|p9.of<|s5 _ _ pf;rw[e2 q hq]at this;cases this;have u9:=s2.trans<|sG.trans<|u4.trans s5;obtain⟨u,eu,pu⟩:=row (z:=0) eE u9 hq;exact⟨⟨[some _],U,U⟩,vb U U<|zf ⟨U,U,o9.of<|u9 _ _ jb,E7 eu,s5,e5.snoc pu⟩⟩
     . rintro ys G1 ⟨s4,e4⟩;exact⟨_,p9.of<|s4 _ _ pf,by rw[y2];exact ae _⟩
     . rintro zs G5 lz ⟨s5,e5⟩ gZ;have t8:=c7 (o:=.lst zs) gZ;show⟨lz,zs,U,.inl ⟨p9.of b9,λq3 oX=>?_⟩⟩;have t9:=t8.trans<|c7 (o:=.tup zs) oX;have tT:j5 R n (λq=>en<|BD i j q) (.ref q3) (upd (upd G5 lz<|.lst zs) q3<|.tup zs):=⟨q3,zs,U,b9,e5.mono λ_ _ _ x=>R.same t9.t x⟩;have qN:=s5.trans t9;clear t8 t9 s5 e5 gZ oX;revert tT qN;generalize upd (upd G5 lz<|.lst zs) q3 (.tup zs)=G6;intro tT qN;show⟨sL,λq4 rA=>?_⟩;have iz:=c7 (o:=.tup [vT l,V.ref q1,V.ref q2,V.ref q3]) rA;have tA:=qN.trans iz;exact k _ _ (s2.trans<|sG.trans<|u4.trans tA) ⟨q4,_,_,va U ⟨b9,j5.same (t2.trans tA).t lO,⟨q2,us,U,tA _ _ k4,eM.mono λ_ _ _ x=>B5.same (u4.trans tA).t x⟩,j5.same iz.t tT⟩⟩
def mix{S:SR}(F:M0 S){n i j:Nat}{b:S.W}(hi:i < n)(hj:j < n)(ne:i≠j)(x f:QQ S):sm S (λr=>S.mul (W8 i j b x r)<|if r=i then S.add (f i) (S.mul (F.neg b)<|f j)else f r) n=sm S (λr=>S.mul (x r)<|f r) n:=by
 have e:∀r,r < n->S.mul (W8 i j b x r) (if r=i then S.add (f i) (S.mul (F.neg b)<|f j)else f r)=S.add (S.add (S.mul (x r)<|f r)<|if r=i then S.mul (x i) (S.mul (F.neg b)<|f j)else S.zero) (if r=j then S.mul (S.mul b<|x i) (f j)else S.zero):=λr _=>by
  unfold W8;by_cases h1:r=i
  . subst h1;rw[if_neg ne,if_pos U,if_pos U,if_neg ne,S.add_zero,S.distrib]
  . by_cases h2:r=j
    . subst h2;rw[if_pos U,if_neg h1,if_neg h1,if_pos U,S.add_zero,Ov]
    . rw[if_neg h2,if_neg h1,if_neg h1,if_neg h2,S.add_zero,S.add_zero]
 rw[j6 e,X0,X0,W9 hi λk _ hk=>if_neg hk,W9 hj λk _ hk=>if_neg hk,if_pos U,if_pos U,S.add_assoc];have z:S.add (S.mul (x i)<|S.mul (F.neg b)<|f j) (S.mul (S.mul b<|x i)<|f j)=S.zero:=by rw[IL,QA,S.mul_comm b<|x i,S.mul_assoc,S.add_comm,F.add_neg]
 rw[z,S.add_zero]
def Yk{S:SR}(F:M0 S){n i j:Nat}{b:S.W}(hi:i < n)(hj:j < n)(ne:i≠j)(A:F0 S)(x:QQ S):Hx S n (OK i j b (F.neg b) A) (W8 i j b x)=W8 i j b (Hx S n A x):=by
 funext k;have e:∀r,OK i j b (F.neg b) A r k=if r=i then S.add (W8 i j b (A i) k) (S.mul (F.neg b)<|W8 i j b (A j) k)else W8 i j b (A r) k:=λr=>by
  unfold OK;split <;>rfl
 show sm S (λr=>S.mul _<|OK i j b (F.neg b) A r k) n=_;rw[j6 (g:=λr=>S.mul (W8 i j b x r)<|if r=i then S.add (W8 i j b (A i) k) (S.mul (F.neg b)<|W8 i j b (A j) k)else W8 i j b (A r) k) λr _=>by rw[e],mix F hi hj ne x λr=>W8 i j b (A r) k];unfold W8;by_cases h:k=j
 . subst h;rw[if_pos rfl];show _=S.add (sm S (λr=>S.mul (x r)<|A r k) n) (S.mul b<|sm S (λr=>S.mul (x r)<|A r i) n);rw[HS,<- X0];exact j6 λr _=>by rw[if_pos U,S.distrib,<- S.mul_assoc,S.mul_comm (x r) b,S.mul_assoc]
 . rw[if_neg h];exact j6 λr _=>by rw[if_neg h]
section
variable{S:SR}{F:M0 S}{l:w1e}{n i j:Nat}{b:S.W}{st:QQ S}{tb:FF S}{en:QQ S}
def VG(hi:i < n)(hj:j < n)(ne:i≠j)(u:w1e)(hu:AL l u):D9 S l n (W8 i j b st) (λa=>OK i j b (F.neg b)<|tb a) (W8 j i (F.neg b) en) u=D9 S l n st tb en u:=by
 have eJ:∀u,AL l u->h8 S n (W8 i j b st) (w5 l λa=>OK i j b (F.neg b)<|tb a) u=W8 i j b (h8 S n st (w5 l tb) u):=by show(EB (l:=l)).ind _ rfl λc u hc hu ih=>?_;rw[x4,x4,ih];exact Yk F hi hj ne _ _
 unfold D9;rw[eJ u hu];exact mix F hi hj ne _ en
def UG(hi:i < n)(hj:j < n)(ne:i≠j)(f:QQ S):sm S (λr=>f<|BD i j r) n=sm S f n:=by
 have z0:∀x:S.W,S.add S.zero x=x:=λx=>by rw[S.add_comm,S.add_zero]
 have e1:∀r,r < n->f r=S.add (S.add (if r=i\/r=j then S.zero else f r)<|if r=i then f i else S.zero) (if r=j then f j else S.zero):=λr _=>by
  by_cases h1:r=i
  . subst h1;rw[if_pos<|.inl U,if_pos U,if_neg ne,S.add_zero,z0]
  . by_cases h2:r=j
    . subst h2;rw[if_pos<|.inr U,if_neg h1,if_pos U,S.add_zero,z0]
    . rw[if_neg Z,if_neg h1,if_neg h2,S.add_zero,S.add_zero]
 have e2:∀r,r < n->f (BD i j r)=S.add (S.add (if r=i\/r=j then S.zero else f r)<|if r=i then f j else S.zero) (if r=j then f i else S.zero):=λr _=>by
  unfold BD;by_cases h1:r=i
  . subst h1;rw[if_neg ne,if_pos U,if_pos<|.inl U,if_pos U,if_neg ne,S.add_zero,z0]
  . by_cases h2:r=j
    . subst h2;rw[if_pos U,if_pos<|.inr U,if_neg h1,if_pos U,S.add_zero,z0]
    . rw[if_neg h2,if_neg h1,if_neg Z,if_neg h1,if_neg h2,S.add_zero,S.add_zero]
 rw[j6 e1,j6 e2,X0,X0,X0,X0,W9 hi λk _ hk=>if_neg hk,W9 hj λk _ hk=>if_neg hk,W9 hi λk _ hk=>if_neg hk,W9 hj λk _ hk=>if_neg hk,if_pos U,if_pos U,if_pos U,if_pos U,S.add_assoc,S.add_comm<|f j,<- S.add_assoc]
def Pa(hi:i < n)(hj:j < n)(ne:i≠j)(u:w1e)(hu:AL l u):D9 S l n (λq=>st<|BD i j q) (λa q r=>tb a (BD i j q)<|BD i j r) (λq=>en<|BD i j q) u=D9 S l n st tb en u:=by
 have eJ:∀u,AL l u->h8 S n (λq=>st<|BD i j q) (w5 l λa q r=>tb a (BD i j q)<|BD i j r) u=λq=>h8 S n st (w5 l tb) u (BD i j q):=by show(EB (l:=l)).ind _ rfl λc u hc hu ih=>?_;rw[x4,x4,ih];funext k;exact UG hi hj ne λr=>S.mul (h8 S n st (w5 l tb) u r) (w5 l tb c r<|BD i j k)
 unfold D9;rw[eJ u hu];exact UG hi hj ne λr=>S.mul (h8 S n st (w5 l tb) u r) (en r)
end
section
variable{R:c9 Pr w K mg base}{M n k i j:Nat}{b:R.S.W}{st:QQ R.S}{tb:FF R.S}{en:QQ R.S}
def NK{x:QQ R.S}(hi:i < n)(hj:j < n)(hb:R.B.cb 1 2 b)(h:∀k,k < n->R.B.cb 12 M (x k)):∀k,k < n->R.B.cb 12 (3 * M) (W8 i j b x k):=λk hk=>by
 unfold W8;have e:3 * M=M+2 * M:=by omega
 rw[e];split
 . exact R.B.add _ _ _ _ _ (h j hj) (R.B.mul _ _ _ _ _ _ hb<|h i hi)
 . exact R.B.mono _ _ _ _ Z (h k hk)
def MC.moved(hi:i < n)(hj:j < n)(hb:R.B.cb 1 2 b)(h:MC R 12 M n k st tb en):MC R 12 (9 * M) n k (W8 i j b st) (λa=>OK i j b (R.F.neg b)<|tb a) (W8 j i (R.F.neg b) en):=by
 have hc:R.B.cb 1 2 (R.F.neg b):=R.B.neg _ _ _ _ (R.F.add_neg _) hb;show⟨λq hq=>R.B.mono _ _ _ _ Z<|NK hi hj hb h.st q hq,λa ha r hr q hq=>?_,λq hq=>R.B.mono _ _ _ _ Z<|NK hj hi hc h.en q hq⟩;have e:9 * M=3 * M+2 * (3 * M):=by omega
 show R.B.cb 12 (9 * M)<|OK i j b (R.F.neg b) (tb a) r q;unfold OK;rw[e];split
 . exact R.B.add _ _ _ _ _ (NK hi hj hb (h.tb a ha i hi) q hq) (R.B.mul _ _ _ _ _ _ hc<|NK hi hj hb (h.tb a ha j hj) q hq)
 . exact R.B.mono _ _ _ _ Z (NK hi hj hb (h.tb a ha r hr) q hq)
def MC.swapped(hi:i < n)(hj:j < n)(h:MC R 12 M n k st tb en):MC R 12 M n k (λq=>st<|BD i j q) (λa q r=>tb a (BD i j q)<|BD i j r) (λq=>en<|BD i j q):=
 ⟨λq hq=>h.st _<|FQ hi hj hq,λa ha r hr q hq=>h.tb a ha _ (FQ hi hj hr) _<|FQ hi hj hq,λq hq=>h.en _<|FQ hi hj hq⟩
def MC.more{st':QQ R.S}{tb':FF R.S}{en':QQ R.S}(h:MC R 12 48 n k st tb en)(e:(∀i,i < n->st' i=st i)/\(∀c,c < k->∀i,i < n->∀j,j < n->tb' c i j=tb c i j)/\∀i,i < n->en' i=en i)
    (g:R.B.cb 12 48 (st' n)/\(∀c,c < k->∀i,i<=n->R.B.cb 12 48 (tb' c n i)/\R.B.cb 12 48 (tb' c i n))/\R.B.cb 12 48 (en' n)):MC R 12 48 (n+1) k st' tb' en':=by
 show⟨λq hq=>?_,λa ha r hr q hq=>?_,λq hq=>?_⟩
 . by_cases z:q < n
   . rw[e.1 q z];exact h.st q z
   . rw[show q=n by omega];exact g.1
 . by_cases z:r < n
   . by_cases y:q < n
     . rw[e.2.1 a ha r z q y];exact h.tb a ha r z q y
     . rw[show q=n by omega];exact(g.2.1 a ha r Z).2
   . rw[show r=n by omega];exact(g.2.1 a ha q Z).1
 . by_cases z:q < n
   . rw[e.2.2 q z];exact h.en q z
   . rw[show q=n by omega];exact g.2.2
def MC.szm(h:MC R 12 M n k st tb en)(hM:M<=2 ^ 20):SzM R n k 20 st tb en:=
 have z:∀{x:R.S.W},R.B.cb 12 M x->R.S.sz 20 x:=λ{x} g=>R.B.sz _ _ _ _ bD hM g
 ⟨λi hi=>z<|h.st i hi,λa ha i hi j hj=>z<|h.tb a ha i hi j hj,λi hi=>z<|h.en i hi⟩
end
structure WK(R:c9 Pr w K mg base)(l:w1e)(n n' M:Nat)(st:QQ R.S)(tb:FF R.S)(en:QQ R.S)(st':QQ R.S)(tb':FF R.S)(en':QQ R.S):Prop where
 mc:MC R 12 M n' l.length st' tb' en'
 wt:∀u,AL l u->D9 R.S l n' st' tb' en' u=D9 R.S l n st tb en u
def GE:Sp:=λvs H Q _=>∃(R:c9 Pr w K mg base),∃nm p,∃(a:Addr),∃so mv l,∃(n z:Nat),∃st tb en,So T R nm p/\vs=[.ref a,so,mv,.int (z:Nat)]/\(Dr H a/\K7 H so nm p/\N4 l/\n+z<=40/\j9 R l n st tb en mv H/\MC R 12 48 n l.length st tb en)/\
 ∀v H' n' st' tb' en',l6 a H H'->Dr H' a->n<=n'->n'<=n+z->j9 R l n' st' tb' en' v H'->WK R l n n' 400000 st tb en st' tb' en'->Q v H'
def Cv:w8 Pr w K mg base F6 44 t.u0r t.s0k b0k (GE (w:=w) (base:=base) T):=by
 show T.s0n.F.okA D6 λ_ _ _ _ H _ _ _ hr h=>?_;obtain⟨R,nm,p,a,so,mv,l,n,z,st,tb,en,hS,rfl,⟨hD,eQ,L,hn,hM,hC⟩,k⟩:=h;show⟨_,(l7 (E9 aB U (C6 U T.z_range<|B3<|D2 (y6 T) hr.m T.v0w<|F1 (O 0)<|o8 O7 (O 3) c4) (gN 4 D6.nd)<|c6<|sT 2 D6.nd<|D2 (NB T) hr.m T.v0g<|Ik (O 0) (O 1) (O 2)<|R4 K8 (D2 (y6 T) hr.m T.v0w<|F1 (O 0) c4) c4<|o7 _)<|l7 (sT 5 D6.nd<|x9 B4 bR T.z_len PySem.boot_len<|B3<|D5 j7 (O 2) c4)<|l7 (E9 aB U (C6 U T.z_range<|B3<|D2 (y6 T) hr.m T.v0w<|F1 (O 0) c4) (gN 4 D6.nd)<|c6<|D3 (o6 AZ (O 5) c4<|o7 _) (l7 (sT 6 D6.nd<|D2 (y6 T) hr.m T.v0w<|F1 (O 0)<|O 5)<|l7 (sT 7 D6.nd<|o8 F9 (o8 O7 (o8 O7 (O 6) c4)<|D2 (y6 T) hr.m T.v0w<|F1 (O 0)<|o8 Gj (O 5) c4)<|O 5)<|c6<|D3 (o6 K8 (D2 (y6 T) hr.m T.v0w<|F1 (O 0) c4) c4<|o7 _) (c6<|sT 2 D6.nd<|D2 (Iq T) hr.m T.s0s<|S3 (O 2) (O 6)<|O 7)<|c6<|sT 2 D6.nd<|D2 (Lo T) hr.m T.u0c<|J7 (O 1)<|Ik (O 2) (O 6) (O 7)<|D2 (Ba T) hr.m T.z0b<|F1 (O 1)<|o8 Gj (D2 (y6 T) hr.m T.v0w<|F1 (O 0) c4) c4) x5)<|c6<|h7<|O 2),?_⟩;norm_cast;intro xR xE;show vb U U<|za ⟨U,U,a,va U ⟨⟨hD,Z,Z⟩,λr1 H1 s1 d1 a1 b1=>?_⟩⟩;have fU:=j9.same (s1.tt hD) hM;show va U ⟨Z,Z,Dh (lo:=0) (n:=r1.toNat) (λc σ G=>∃v4 hZ n' st' tb' en',σ=[sr a,some so,some hZ,si z,v4,none,none,none]/\l6 a H G/\Dr G a/\n'=n+c/\j9 R l n' st' tb' en' hZ G/\WK R l n n' 48 st tb en st' tb' en') ⟨_,mv,n,st,tb,en,U,s1,d1,U,fU,hC,λ_ _=>rfl⟩ ?_ ?_⟩
 . rintro c σ G hc ⟨v4,hZ,n',st',tb',en',rfl,sG,dG,rfl,fQ,hO⟩;show vc U U U<|va U ⟨a,2,U,⟨dG,bD,bD⟩,λr2 G2 s2 d2 a2 b2=>?_⟩;show⟨U,R,zG nm p a so hZ l (n+c) _ st' tb' en' ⟨hS,U,⟨d2,eQ.same<|(sG.trans s2).tt hD,L,Z,j9.same (s2.tt dG) fQ⟩,λv G3 ip tb3 en3 s3 d3 jC e1 e2 e3=>?_⟩⟩;exact⟨_,v,n+c+1,ip,tb3,en3,U,(sG.trans s2).trans s3,d3,U,jC,hO.mc.more e1 e2,λu hu=>(WW e1 e3 u hu).trans<|hO.wt u hu⟩
 . rintro σ G ⟨v4,hZ,n',st',tb',en',rfl,sG,dG,rfl,fQ,hO⟩;obtain⟨m,em⟩:∃m,n+r1.toNat=m:=⟨_,U⟩;rw[em]at fQ hO;obtain⟨mp,sv,tv,ev,rfl,hm,h1,h2,h3⟩:=id fQ;subst xE;intro xR xE;show va U<|zf ⟨U,U,o9.of hm,U,za ⟨U,h1.len,?_⟩⟩;subst xE;intro xR xE;show va U ⟨a,5,U,⟨dG,bD,bD⟩,λr2 G2 s2 d2 a2 b2=>?_⟩;show va U ⟨Z,Z,Dh (lo:=0) (n:=r2.toNat) (λc σ G=>∃v4 hZ v6 v7 st' tb' en',σ=[sr a,some so,some hZ,si z,v4,si m,v6,v7]/\l6 a H G/\Dr G a/\j9 R l m st' tb' en' hZ G/\WK R l n m (48 * 9 ^ c) st tb en st' tb' en') ⟨_,.ref mp,_,_,st',tb',en',U,sG.trans s2,d2,j9.same (s2.tt dG) fQ,hO⟩ ?_ ?_⟩
   . clear sG dG fQ hO hm h1 h2 h3 s2 d2 fU s1 d1;rintro c σ G hc ⟨v4,hZ,v6,v7,st',tb',en',rfl,sG,dG,fQ,hO⟩;have hp:(9:Nat) ^ c<=9 ^ 3:=cg bD Z;have e9:(9:Nat) ^ 3=729:=by decide
     have e2:(2:Nat) ^ 20=1048576:=by decide
     have es:(9:Nat) ^ (c+1)=9 * 9 ^ c:=by rw[ba,bU]
     show va U<|za ⟨U,U,va U ?_⟩;show Dw (λgt=>?_) (λgt=>?_)
     . intro xR xE;show vb U U ⟨a,va U ⟨⟨dG,Z,Z⟩,λri G1 s1 d1 ai bi=>?_⟩⟩;obtain⟨i,rfl⟩:∃i:Nat,ri=(i:Int):=⟨ri.toNat,Z⟩;have hi:i < m:=by omega
       subst xE;intro xR xE;show va U<|za ⟨U,U,vb U U<|za ⟨U,U,a,va U ⟨⟨d1,Z,Z⟩,λrj G2 s2 d2 aj bj=>?_⟩⟩⟩;show za ⟨U,U,va U<|za ⟨U,U,Z,?_⟩⟩;obtain⟨j,ej,hj,gK⟩:∃j:Nat,((i:Int)+1+rj).fmod (m:Int)=(j:Int)/\j < m/\i≠j:=by
        have m0:=bN ((i:Int)+1+rj) (show(0:Int) < m by omega);have m1:=bO ((i:Int)+1+rj) (show(0:Int) < m by omega);show⟨(((i:Int)+1+rj).fmod (m:Int)).toNat,Z,Z,λe=>?_⟩;have e':((i:Int)+1+rj).fmod (m:Int)=(i:Int):=by omega
        rw[dY _ Z]at e';by_cases z:(i:Int)+1+rj < m
        . rw[dB Z z]at e';omega
        . have:((i:Int)+1+rj) % (m:Int)=((i:Int)+1+rj - m) % (m:Int):=by rw[Int.sub_emod_right]
          rw[this,dB Z Z]at e';omega
       show R7 7 (.int<|((i:Int)+1+rj).fmod (m:Int)) [sr a,some so,some hZ,si z,some<|.int _,si m,si i,v7] G2 _;rw[ej];have Ms:=s1.trans s2;subst xE;show va U ⟨a,3,U,⟨d2,bD,bD⟩,λr3 G3 s3 d3 a3 b3=>⟨U,va U ?_⟩⟩;have Jc:=Ms.trans s3;have jC:=j9.same (Jc.tt dG) fQ;show Dx (λ_=>?_) (λ_=>?_)
       . show vc U U U ⟨R,zB hZ l m i j st' tb' en' ⟨U,⟨jC,L,hi,hj,gK,Z⟩,λv G4 s4 hM4=>?_⟩⟩;exact⟨_,v,zg ⟨U,(sG.trans Jc).trans<|.of s4,d3.same s4,hM4,(hO.mc.swapped hi hj).mono Z,λu hu=>(Pa hi hj gK u hu).trans<|hO.wt u hu⟩⟩
       . show vc U U U<|vc U U U ⟨a,5,U,⟨d3,bD,bD⟩,λr4 G4 s4 d4 a4 b4=>?_⟩;have US:=Jc.trans s4;have u4:=(sG.trans US).tt hD;show za ⟨U,U,R,zm nm p so (r4 - 2) ⟨hS,U,⟨eQ.same u4,Z,Z⟩,λbv G5 b s5 fb _ _ zb cb=>?_⟩⟩;have hM5:=j9.same ((s4.tt d3).trans s5.t) jC;show⟨R,nm,p,so,hZ,bv,l,m,i,j,20,st',tb',en',b,hS,U,⟨eQ.same<|u4.trans s5.t,hM5,L,fb,R.S.sz_mono _ _ _ bD zb,hi,hj,Z,hO.mc.szm Z,.inl bD⟩,λv G6 s6 hM6=>?_⟩;exact⟨_,v,zg ⟨U,(sG.trans US).trans<|.of<|s5.trans s6,d4.same<|s5.trans s6,hM6,(hO.mc.moved hi hj cb).mono Z,λu hu=>(VG hi hj gK u hu).trans<|hO.wt u hu⟩⟩
     . exact zi ⟨U,sG,dG,fQ,hO.mc.mono Z,hO.wt⟩
   . clear sG dG fQ hO hm h1 h2 h3;rintro σ G ⟨v4,hZ,v6,v7,st',tb',en',rfl,sG,dG,fQ,hO⟩;have hp:(9:Nat) ^ r2.toNat<=9 ^ 4:=cg bD Z;have e9:(9:Nat) ^ 4=6561:=by decide
     subst xE;exact va U (k _ _ m st' tb' en' sG dG Z Z fQ ⟨hO.mc.mono Z,hO.wt⟩)
def lenT{l:w1e}{H:Hp}(h:l.length<=10000):BA K (vT l) H l.length:=by have z:=sZ;exact⟨by rw[T5];omega,(T5 l).symm⟩
abbrev q0f(R:c9 Pr w K mg base)(n:Nat)(x:QQ R.S):V->Hp->Prop:=BF K (λj u H=>R.is H u<|x j) n
def Xm:Sp:=λvs H Q _=>∃(R:c9 Pr w K mg base),∃nm p so rv cv n x y r,So T R nm p/\vs=[so,rv,cv]/\(K7 H so nm p/\q0f R n x rv H/\q0f R n y cv H/\Mr R.S r n x y/\N5 R.S (3 * r))/\
 ∀v H',h9 H H'->R.is H' v (B7 R.S x y n)->Q v H'
def Iu:w8 Pr w K mg base F6 40 t.z0g t.w0x b0a (Xm (w:=w) (base:=base) T):=by
 show T.x0o.F.okA Z3 λ_ _ _ _ H _ _ _ hr h=>?_;obtain⟨R,nm,p,so,rv,cv,n,x,y,r,hS,rfl,⟨eQ,⟨S1,xs,o1,v1,w1,e1⟩,⟨S2,ys,o2,v2,w2,e2⟩,⟨z1,z2⟩,hz⟩,k⟩:=h;show⟨_,(c5 (sT 3 Z3.nd<|D2 (Ba T) hr.m T.z0b<|F1 (O 0) c4)<|c5 (E9 aB U (DY U T.z_zip<|F1 (O 1)<|O 2) (I9 U<|l5 (gN 4 Z3.nd)<|l5 (gN 5 Z3.nd) D7)<|c6<|sT 3 Z3.nd<|D2 (W3 T) hr.m T.v0y<|S3 (O 0) (O 3)<|D2 (R5 T) hr.m T.u0l<|S3 (O 0) (O 4)<|O 5)<|c6<|h7<|O 3),?_⟩;norm_cast;show va U ⟨R,zm nm p so 0 ⟨hS,U,⟨eQ,bD,bD⟩,λz H1 x0 s1 f1 ez _ _ _=>?_⟩⟩;cases ez rfl;show vb U U ⟨S1,S2,za ⟨xs,ys,U,o1,o2,(w1 _ s1).1,(w2 _ s1).1,RM (K:=K) (xs:=xs) (ys:=ys) (λi σ H2=>∃jh v4 v5,σ=[some so,some rv,some cv,some jh,v4,v5]/\h9 H H2/\R.is H2 jh (B7 R.S x y i)) (by rw[e1.1,e2.1]) ⟨_,_,va U ⟨s1,f1⟩⟩ (λi σ H2 _ ⟨_,_,_,_,q,_⟩=>⟨(w1 _ q).1,(w2 _ q).1⟩) ?_ ?_⟩⟩
 . rintro i u v pp σ H2 hu hv np ⟨jh,v4,v5,rfl,q,f⟩;obtain⟨hi,pu⟩:=e1.at hu;obtain⟨_,O⟩:=e2.at hv;have sp:=c7 (o:=.tup [u,v]) np;have q2:=q.trans sp;show⟨pp,va U ⟨o9.of b9,U,za ⟨U,za ⟨U,U,?_⟩⟩⟩⟩;show vc U U U<|vb U U ⟨R,zD nm p so _ _ _ _ r r ⟨hS,U,⟨eQ.same q2.t,R.same q2.t pu,R.same q2.t O,(z1 i hi).1,(z1 i hi).2,hz.le Z⟩,λpr H3 s3 f3=>?_⟩⟩;have q3:=q2.trans s3;show⟨R,zD nm p so _ _ _ _ r (r+r) ⟨hS,U,⟨eQ.same q3.t,R.same (sp.trans s3).t f,f3,z2 i Z,R.S.sz_mul _ _ _ _ (z1 i hi).1 (z1 i hi).2,hz.le Z⟩,λtt H4 s4 f4=>?_⟩⟩;exact zd ⟨U,q3.trans s4,f4⟩
 . rintro σ H2 ⟨jh,v4,v5,rfl,q,f⟩;rw[e1.1]at f;exact va U (k _ _ q f)
def Uy:Sp:=λvs H Q _=>∃(R:c9 Pr w K mg base),∃nm p so rv tv n x A r,So T R nm p/\vs=[so,rv,tv]/\(K7 H so nm p/\j5 R n x rv H/\B5 R n n A tv H/\n<=60/\(∀j,j < n->Mr R.S r n x (λi=>A i j))/\N5 R.S (3 * r))/\
 ∀v H',h9 H H'->j5 R n (Hx R.S n A x) v H'->Q v H'
def Nz:w8 Pr w K mg base F6 42 t.y0u t.v0e VE (Uy (w:=w) (base:=base) T):=by
 show T.w0e.F.okA MY λ_ _ _ _ H _ _ _ hr h=>?_;obtain⟨R,nm,p,so,rv,tv,n,x,X,r,hS,rfl,⟨eQ,hR,⟨ap,vC,rfl,nN,eA⟩,hn,hd,hz⟩,k⟩:=h;show⟨_,(c6<|h7<|i3 c8 bR T.z_tuple boot_tuple<|B3<|x8 (xs:=[Ai]) U (oC VE<|a8 Z9) (C6 U T.z_range<|B3<|x9 B4 bR T.z_len PySem.boot_len<|B3<|O 1) (r9 (i:=3) (by show List.Nodup ([L3,OQ,BQ,Ai]:w1f);decide +kernel) U<|Or.inr U)<|C1 (Iu (w:=w) (base:=base) T) hr.m U T.x0o.m T.x0o.F.kp T.x0o.b .nil C3<|S3 (O 0) (O 1)<|x8 (xs:=[KC]) U (show Q0 [L3,OQ,BQ,Ai] (rlS (a8 Z9) _) _ from⟨U,dK,dK,dK,dK,dK⟩) (show PI _ _ _ (c0k K _)from J2<|O 2) (r9 (i:=4) (by show List.Nodup ([L3,OQ,BQ,Ai,KC]:w1f);decide +kernel) U<|Or.inl U)<|D5 (show Kx _ (Jy K)from j7) (O 4)<|O 3),?_⟩;norm_cast;show va U (za ⟨U,hR.len,va U ⟨Z,Z,o4 (n:=n) (λj ys G2=>h9 H G2/\j8 (λj u' H=>R.is H u'<|Hx R.S n X x j) ys j G2) Z ⟨h9.refl _,j8.nil⟩ (λj ys H2 q=>q.2.1) ?_ ?_ ?_⟩⟩)
 . rintro j ys G2 hj ⟨q2,e⟩;show IG (by omega) ?_;show⟨⟨[some _],U,U⟩,vc U U U ⟨ap,U,⟨_,o9.of<|q2 _ _ nN⟩,o4 (n:=n) (λi' fh G3=>j8 (λi' u' H=>R.is H u'<|X i' j) fh i' G2/\G3=G2) Z ⟨j8.nil,U⟩ (λj ys H2 q=>q.1.1) ?_ ?_ ?_⟩⟩
   . rintro i' fh G3 iZ ⟨e',rfl⟩;obtain⟨lu,elu,plu⟩:=eA.2 i' iZ;show Dy (o9.of<|q2 _ _ nN) elu ?_;obtain⟨lp,lvs,lx,rfl,h4,h5,h6⟩:=j5.at (j5.same q2.t plu) hj;rw[show(j:Int)=0+(j:Int) by omega]at h5;exact⟨⟨[some _],U,U⟩,vb U U<|zf ⟨U,U,h4,h5,e'.snoc h6,U⟩⟩
   . rintro fh G3 ⟨e',rfl⟩;exact⟨_,o9.of<|q2 _ _ nN,by rw[eA.1];exact ae _⟩
   . rintro fh G3 z ⟨e',rfl⟩ nz;show E4 (o:=.lst fh) nz λG4 t1 k1=>?_;have q4:=q2.trans t1;show⟨R,zD nm p so rv (.ref z) n x (λi'=>X i' j) r ⟨hS,U,⟨eQ.same q4.t,(j5.same q4.t hR).seq,BF.list k1<|e'.mono λ_ _ _ x=>R.same t1.t x,hd j hj,hz⟩,λv H3 s3 f3=>?_⟩⟩;exact⟨q4.trans s3,(e.mono λ_ _ _ x=>R.same (t1.trans s3).t x).snoc f3⟩
 . rintro ys G2 ⟨q2,e⟩;show(n:Int).toNat<=n;omega
 . rintro ys G2 z ⟨q2,e⟩ nz;have t1:=c7 (o:=.lst ys) nz;show⟨z,ys,U,.inl ⟨p9.of b9,λz2 n2=>?_⟩⟩;have t2:=t1.trans<|c7 (o:=.tup ys) n2;exact k _ _ (q2.trans t2) ⟨z2,ys,U,b9,e.mono λ_ _ _ x=>R.same t2.t x⟩
def d0x{l:w1e}(h1:1<=l.length)(h3:l.length<=3):(∃a,l=[a])\/(∃a b,l=[a,b])\/∃a b c,l=[a,b,c]:=by
 match l,h1,h3 with
 | [a],_,_=>exact .inl ⟨a,U⟩
 | [a,b],_,_=>exact .inr (.inl ⟨a,b,U⟩)
 | [a,b,c],_,_=>exact .inr (.inr ⟨a,b,c,U⟩)
def occ1(a x:Nat)(h:x=a):Builtin.Str.occurrences (tx [a]) (tx [x]) 0 (tx [a]).length 1=[0]:=by subst h;simp[Builtin.Str.occurrences,Builtin.Str.subAt,tx,Str.length,List.range']
def occ2(a b x:Nat)(n:a≠b)(h:x=a\/x=b):Builtin.Str.occurrences (tx [a,b]) (tx [x]) 0 (tx [a,b]).length 1=[List.idxOf x [a,b]]:=by
 rcases h with rfl | rfl
 . simp[Builtin.Str.occurrences,Builtin.Str.subAt,tx,Str.length,List.range',du]
 . simp[Builtin.Str.occurrences,Builtin.Str.subAt,tx,Str.length,List.range',du,n,beq_false_of_ne n]
def occ3(a b c x:Nat)(n:(a≠b/\a≠c)/\b≠c)(h:x=a\/x=b\/x=c):Builtin.Str.occurrences (tx [a,b,c]) (tx [x]) 0 (tx [a,b,c]).length 1=[List.idxOf x [a,b,c]]:=by
 rcases h with rfl | rfl | rfl
 . simp[Builtin.Str.occurrences,Builtin.Str.subAt,tx,Str.length,List.range',du]
 . simp[Builtin.Str.occurrences,Builtin.Str.subAt,tx,Str.length,List.range',du,n.1.1,beq_false_of_ne n.1.1]
 . simp[Builtin.Str.occurrences,Builtin.Str.subAt,tx,Str.length,List.range',du,n.1.2,n.2,beq_false_of_ne n.1.2,beq_false_of_ne n.2]
def a0o{l:w1e}(L:N4 l){x:Nat}(hx:x∈l):Builtin.Str.occurrences (tx l) (tx [x]) 0 (tx l).length 1=[l.idxOf x]:=by
 have nd:=L.nd;have h1:1<=l.length:=List.length_pos_of_mem hx;rcases d0x h1 L.h3 with ⟨a,rfl⟩ | ⟨a,b,rfl⟩ | ⟨a,b,c,rfl⟩
 . have:x=a:=by simpa using hx
   rw[occ1 a x this,this];simp
 . exact occ2 a b x (by simpa using nd) (by simpa using hx)
 . exact occ3 a b c x (by simpa [not_or] using nd) (by simpa using hx)
theorem MF{l:w1e}(h3:l.length<=3):∀i,(J1 l i).length<=4 ^ i
 | 0=>ae _
 | i+1=>by
  show(J1 l i++Hz l (i+1)).length<=_;have h1:=MF h3 i;have h2:l.length ^ (i+1)<=3 ^ (i+1):=bS h3 _;have h3:3 ^ i<=4 ^ i:=bS bD _;rw[aq,Fn,ba 4];rw[ba 3]at h2;omega
def sp_lwords:Sp:=λvs H Q _=>∃l,∃(q:Nat),vs=[vT l,.int (q:Nat)]/\(N4 l/\l.length ^ q<=1000/\(J1 l q).length<=1000/\q<=100)/\∀b H',h9 H H'->H' b=some (.lst<|(J1 l q).map vT)->Q (.ref b) H'
def Fg:w8 Pr w K mg base F6 1 t.x0b t.u0b a0x sp_lwords:=by
 show T.u0f.F.okA F8 λ_ _ _ _ H _ _ _ hr h=>?_;obtain⟨l,z,rfl,⟨L,sU,kH,hq⟩,k⟩:=h;have sl:=sZ;have l3:=L.h3;show⟨_,(c5 (sT 2 F8.nd<|D1<|B3 Ad)<|c5 (sT 3 F8.nd<|D1<|B3 Ad)<|c5 (E9 aB U (C6 U T.z_range<|B3<|O 1) (gN 4 F8.nd)<|c5 (sT 5 F8.nd<|D1 K6)<|c5 (E9 aB U (C5<|O 3) (r9 (i:=6) F8.nd U<|Or.inr U)<|c6<|sT 5 F8.nd<|o8 Lm (O 5)<|x8 (xs:=[OT]) U (oC o0o<|a8 An) (PB<|O 0) (r9 (i:=7) (by show List.Nodup ([Bg,Ue,OR,"_law_level",Ai,"_law_beyond",Kz,OT]:w1f);decide +kernel) U<|Or.inl U)<|o8 Il (O 6)<|O 7)<|c5 (sT 3 F8.nd<|O 5)<|c6<|sT 2 F8.nd<|o8 Lm (O 2)<|O 3)<|c6<|h7<|O 2),?_⟩;norm_cast;have em:V.str (Str.ofString "")=vT []:=by rw[Wu];rfl
 show⟨sL,λf0 nf=>?_⟩;rw[em];show E4 (o:=.lst [vT []]) nf λH0 s0 h0=>?_;show⟨sL,λg0 ng=>?_⟩;show E4 (o:=.lst [vT []]) ng λH1 s1 h1=>?_;show vb U U ⟨Z,Z,Dh (lo:=0) (n:=z) (λi σ G=>∃fp lp v4 v5 v6,σ=[some<|vT l,si z,sr fp,sr lp,v4,v5,v6]/\h9 H G/\G fp=some (.lst<|(J1 l i).map vT)/\G lp=some (.lst<|(Hz l i).map vT)) ⟨f0,g0,_,_,va U ⟨s0.trans s1,s1 _ _ h0,h1⟩⟩ ?_ ?_⟩
 . rintro i σ G hi ⟨fp,lp,v4,v5,v6,rfl,q,hf,hl⟩;have pl:l.length ^ (i+1)<=l.length ^ z:=Vc Z Z;have ul:=Su (l:=l) (show i+1<=z by omega);show⟨sL,λgp ng=>?_⟩;show E4 (o:=.lst []) ng λG1 s3 k3=>?_;have sU:=s3 _ _ hl;show va U ⟨lp,U,⟨_,p9.of sU⟩,P2 (K:=K) (a:=lp) (xs:=(Hz l i).map vT) (λj σ G2=>∃bp v6,σ=[some<|vT l,si z,sr fp,sr lp,some<|.int<|0+(i:Int),sr bp,v6]/\h9 G G2/\G2 bp=some (.lst<|(gB l<|(Hz l i).take j).map vT)) ⟨gp,va U ⟨s3,k3⟩⟩ (λj σ G2 _ ⟨_,_,_,x,_⟩=>p9.of<|x _ _ hl) ?_ ?_⟩
   . rintro j y σ G2 hj ⟨bp,v6,rfl,q2,hg⟩;rw[aE]at hj;obtain⟨u,eu,rfl⟩:=cP.mp hj;have jl:=(aJ.mp eu).1;have bl:(gB l<|(Hz l i).take j).length+l.length<=10000:=by rw[LV,bx,Nat.min_eq_left<|bI jl,<- bB];have:(j+1) * l.length<=(Hz l i).length * l.length:=bA _ jl;rw[Fn,<- ba]at this;exact af this (af pl Z)
     have uu:u.length=i:=CD i u<|aL eu;show vc U U U ⟨L.asc,o4 (n:=l.length) (λm ys G3=>ys.length=m/\ys=((l.take m).map λc=>u++[c]).map vT/\G3=G2) Z ⟨U,U,U⟩ (λj ys H2 q=>q.1) ?_ ?_ ?_⟩
     . rintro m ys G3 hm ⟨e0,e1,rfl⟩;show⟨(by show m < l.toArray.size;simpa using hm),λx H' hy=>?_⟩;obtain⟨rfl,c,hc,rfl⟩:=hy;have hc:=Uh hc;show⟨⟨[some _],U,U⟩,vb U U<|za ⟨U,U,(by show(tx u).length+(tx [c]).length<=_;rw[T5,T5];simp;omega),?_,?_,U⟩⟩
       . rw[aq,e0];rfl
       . rw[L4 hc,bb,bb,<- e1];show _++[V.str<|tx u++tx [c]]=_;rw[Uj];rfl
     . rintro ys G3 ⟨e0,e1,rfl⟩;show l.toArray.size<=_;simp
     . rintro ys G3 zp ⟨e0,e1,rfl⟩ nz;rw[bo]at e1;subst e1;show E4 (o:=.lst<|(l.map λc=>u++[c]).map vT) nz λG4 t1 k1=>?_;have hg4:=t1 _ _ hg;show⟨bp,zp,za ⟨U,U,hg4,k1,(by rw[ag,ag,ag];omega),λz2 n2=>?_⟩⟩;have t2:=c7 (o:=.lst<|(gB l<|(Hz l i).take j).map vT++(l.map λc=>u++[c]).map vT) n2;show⟨z2,va U ⟨q2.trans<|t1.trans t2,?_⟩⟩;rw[b9,RH eu,bb]
   . rintro σ G2 ⟨bp,v6,rfl,q2,hg⟩;rw[ag,bo]at hg;have hf2:=q2 _ _ hf;have e1:(J1 l<|i+1).length=(J1 l i).length+(Hz l<|i+1).length:=aq;show va U ?_;show vb U U ⟨fp,bp,za ⟨U,U,hf2,hg,(by rw[ag,ag];show _+(Hz l<|i+1).length<=_;omega),λz2 n2=>?_⟩⟩;have t2:=c7 (o:=.lst<|(J1 l i).map vT++(gB l<|Hz l i).map vT) n2;show⟨z2,bp,zd ⟨U,q.trans<|q2.trans t2,?_,t2 _ _ hg⟩⟩;rw[b9];show _=some (HO.lst<|(J1 l i++Hz l (i+1)).map vT);rw[bb];rfl
 . rintro σ G ⟨fp,lp,v4,v5,v6,rfl,q,hf,hl⟩;exact va U (k _ _ q hf)
def SF:Sp:=λvs H Q _=>∃(R:c9 Pr w K mg base),∃nm p so mv l,∃(n μ:Nat),∃st tb en u,So T R nm p/\vs=[so,mv,vT u]/\(K7 H so nm p/\j9 R l n st tb en mv H/\MB R.B n l.length μ st tb en/\N4 l/\n<=60/\(∀c∈u,c∈l)/\N5 R.S (3 * ((u.length+1) * (μ+n))))/\
 ∀v H',h9 H H'->j5 R n (h8 R.S n st (w5 l tb) u) v H'->Q v H'
def Lq:w8 Pr w K mg base F6 43 t.x0k t.u0e PX (SF (w:=w) (base:=base) T):=by
 show T.u0o.F.okA X9 λ_ _ _ _ H _ _ _ hr h=>?_;obtain⟨R,nm,p,so,mv,l,n,μ,st,tb,en,u,hS,rfl,⟨eQ,hM,hB,L,hn,hu,hz⟩,k⟩:=h;obtain⟨mp,sv,tv,ev,rfl,hm,h1,⟨tp,tabs,rfl,fw,eT⟩,h3⟩:=id hM;show⟨_,(c5 (sT 3 X9.nd<|D5 j7 (O 1) c4)<|c5 (E9 aB U (PB<|O 2) (gN 4 X9.nd)<|c6<|sT 3 X9.nd<|D2 (Nz T) hr.m T.w0e<|S3 (O 0) (O 3)<|D5 j7 (D5 j7 (O 1) c4)<|W2 PySem.F.plainAttrs_str PySem.F.slot_str_index PySem.F.type_str_index Tg (D5 j7 (O 1) c4)<|B3<|O 4)<|c6<|h7<|O 3),?_⟩;norm_cast;show va U<|zf ⟨U,U,o9.of hm,U,?_⟩;show vb U U ⟨Ui<|λc hc=>L.as c<|hu c hc,Mc (n:=u.length) (λi σ G=>∃rv v4,σ=[some so,sr mp,some<|vT u,some rv,v4]/\h9 H G/\j5 R n (h8 R.S n st (w5 l tb)<|u.take i) rv G) ⟨sv,va U ⟨h9.refl _,h1⟩⟩ ?_ ?_⟩
 . rintro i σ G hi ⟨rv,v4,rfl,q,hR⟩;show⟨(by show i < u.toArray.size;simpa using hi),λy G' hy=>?_⟩;obtain⟨rfl,c,hc,rfl⟩:=hy;have hc:=Uh hc;have cl:c∈l:=hu c<|aL hc;have cx:l.idxOf c < l.length:=cu.mpr cl;obtain⟨tu,etu,ptu⟩:=eT.2 _ cx;have zx:XB R.B n ((i+1) * (μ+n)) ((i+1) * (μ+n)) (h8 R.S n st (w5 l tb)<|u.take i):=by have:=hB.row (u.take i) λc hc=>hu c<|List.mem_of_mem_take hc;rwa [bx,Nat.min_eq_left<|bI hi]at this
   have e2:(i+1+1) * (μ+n)=(i+1) * (μ+n)+(μ+n):=bB ..;have e3:(i+1+1) * (μ+n)<=(u.length+1) * (μ+n):=bA _ Z;show vc U U U<|zf ⟨U,U,o9.of<|q _ _ hm,U,va U<|zf ⟨U,U,o9.of<|q _ _ hm,U,U,va U<|zf ⟨U,U,a0o L cl,zf ⟨U,U,o9.of<|q _ _ fw,E7 etu,R,zD nm p so rv tu n _ _ ((u.length+1) * (μ+n)) ⟨hS,U,⟨eQ.same q.t,hR,B5.same q.t ptu,hn,λj hj=>Az zx ((hB.tb _ cx).col hj) Z Z,hz⟩,λv G2 s2 r2=>?_⟩⟩⟩⟩⟩;show⟨v,va U ⟨q.trans s2,?_⟩⟩;rw[L4 hc,x4];exact r2
 . rintro σ G ⟨rv,v4,rfl,q,hR⟩;rw[bo]at hR;exact⟨(by show u.toArray.size<=_;simp),va U<|k _ _ q hR⟩
def SB:Sp:=λvs H Q _=>∃(R:c9 Pr w K mg base),∃nm p so mv l,∃(n μ:Nat),∃st tb en u,So T R nm p/\vs=[so,mv,vT u]/\(K7 H so nm p/\j9 R l n st tb en mv H/\MB R.B n l.length μ st tb en/\N4 l/\n<=60/\(∀c∈u,c∈l)/\N5 R.S (3 * ((u.length+2) * (μ+n))))/\
 ∀v H',h9 H H'->R.is H' v (B7 R.S (h8 R.S n st (w5 l tb) u) en n)->Q v H'
def Y5:w8 Pr w K mg base F6 44 t.x0c t.u0m PX (SB (w:=w) (base:=base) T):=by show T.u0q.F.okA KZ λ_ _ _ _ _ _ _ _ hr h=>?_;obtain⟨R,nm,p,so,mv,l,n,μ,st,tb,en,u,hS,rfl,⟨eQ,hM,hB,L,hn,hu,hz⟩,k⟩:=h;obtain⟨mp,sv,tv,ev,rfl,hm,h1,h2,h3⟩:=id hM;have e2:(u.length+2) * (μ+n)=(u.length+1) * (μ+n)+(μ+n):=bB ..;show⟨_,(c6<|h7<|D2 (Iu T) hr.m T.x0o<|S3 (O 0) (D2 (Lq T) hr.m T.u0o<|S3 (O 0) (O 1)<|O 2)<|D5 j7 (O 1) c4),?_⟩;norm_cast;show vc U U U<|va U ⟨R,zG nm p so _ l n μ st tb en u ⟨hS,U,⟨eQ,hM,hB,L,hn,hu,hz.le Z⟩,λrv H1 s1 r1=>?_⟩⟩;show va U<|zf ⟨U,U,o9.of<|s1 _ _ hm,U,?_⟩;show⟨R,zD nm p so rv ev n _ en ((u.length+2) * (μ+n)) ⟨hS,U,⟨eQ.same s1.t,r1.seq,(j5.same s1.t h3).seq,Az (hB.row u hu) hB.en Z Z,hz⟩,λv H2 s2 f2=>?_⟩⟩;exact k _ _ (s1.trans s2) f2
structure Gd(k:Nat)(d:PyData):Prop where
 lay:d.canLay0=true
 dep:d.depth<=k
 mix:noMix d d=true
theorem Wc{k:Nat}:∀{ds:List PyData},(∀d∈ds,Gd k d)->PyData.canLayAll0 ds=true/\PyData.depthAll ds<=k/\noMixAll ds ds=true
 | [],_=>⟨by simp[PyData.canLayAll0],by simp[PyData.depthAll],by simp[noMixAll]⟩
 | d::ds,h=>by
  obtain⟨a,b,c⟩:=Wc (ds:=ds) λx hx=>h x<|aA _ hx;have g:=h d<|ax ..;have gd:=g.dep;exact⟨by simp[PyData.canLayAll0,g.lay,a],by simp only[PyData.depthAll];omega,by simp[noMixAll,g.mix,c]⟩
def Gd.tup{k:Nat}{ds:List PyData}(h:∀d∈ds,Gd k d):Gd (k+1) (.tuple ds):=by obtain⟨a,b,c⟩:=Wc h;exact⟨by simp[PyData.canLay0,a],by simp only[PyData.depth];omega,by simp[noMix,c]⟩
def Gd.up{j k:Nat}{d:PyData}(h:Gd j d)(e:j<=k):Gd k d:=⟨h.lay,af h.dep e,h.mix⟩
def Gd.sh{k:Nat}{d:PyData}(h:Gd k d)(e:k<=64):shaped d=true:=by have hd:=h.dep;unfold shaped;rw[h.lay,decide_eq_true Z];rfl
def So.gd{T:Txt K mg t}{R:c9 Pr w K mg base}{nm:Str}{p:Int}(h:So T R nm p)(x:R.S.W):Gd 2 (R.S.data x):=by
 show⟨canLay_of_shaped<|R.S.sh x,?_,R.S.nm x x⟩;cases h with
 | fr=>show PyData.depth (.tuple [.int _,.int _])<=2;simp[PyData.depth,PyData.depthAll]
 | re=>show PyData.depth (.int _)<=2;simp[PyData.depth]
theorem Oo{H:Hp}:∀(d:Nat->PyData) (vs:List V),(∀j u,vs[j]? = some u->Is K H u (d j))->W6 K H vs ((List.range vs.length).map d)
 | _,[],_=>.nil
 | d,v::vs,h=>by
  rw[bM,List.range_succ_eq_map,aX,cI];exact .cons (h 0 v U) (Oo (λj=>d<|j+1) vs λj u e=>h (j+1) u<|by simpa using e)
def P1(n:Nat)(d:Nat->PyData):PyData:=.tuple ((List.range n).map d)
def Bi{Pd:Nat->V->Hp->Prop}{n:Nat}{v:V}{H:Hp}{d:Nat->PyData}(h:N8 Pd n v H)(k:∀j u,j < n->Pd j u H->Is K H u (d j)):Is K H v (P1 n d):=by
 obtain⟨p,vs,rfl,hp,e⟩:=h;have a:=Oo (K:=K) (H:=H) d vs λj u ej=>by
  obtain⟨hj,q⟩:=e.at ej;exact k j u hj q
 rw[e.1]at a;exact .tup (o9.of hp) a
def DG{k n:Nat}{d:Nat->PyData}(h:∀j,Gd k<|d j):Gd (k+1) (P1 n d):=Gd.tup λx hx=>by
 obtain⟨j,_,rfl⟩:=aw.mp hx;exact h j
def IR{S:SR}{x y:S.W}(h:S.data x=S.data y):x=y:=Classical.byContradiction λn=>by
 have:=S.ne x y n;rw[h,dP]at this;cases this
def EE{k k':Nat}{d d':Nat->PyData}(h:P1 k d=P1 k' d'):k=k'/\∀i,i < k->d i=d' i:=by
 unfold P1 at h;injection h with h;have e:=congrArg List.length h;simp at e;subst e;show⟨U,λi hi=>?_⟩;have:=congrArg (λL=>L[i]?) h;simpa [List.getElem?_range hi] using this
def EF{k:Nat}{d d':Nat->PyData}(h:∀i,i < k->d i=d' i):P1 k d=P1 k d':=by unfold P1;rw[List.map_congr_left λi hi=>h i<|aW.mp hi]
theorem Rv:∀{xs ys:List PyData},(∀x∈xs,∀y∈ys,noMix x y=true)->noMixAll xs ys=true
 | [],ys,_=>by cases ys <;>simp[noMixAll]
 | x::xs,[],_=>by simp[noMixAll]
 | x::xs,y::ys,h=>by
  simp[noMixAll,h x (ax ..) y<|ax ..,Rv (xs:=xs) (ys:=ys) λa ha b hb=>h a (aA _ ha) b<|aA _ hb]
def Fm{k k':Nat}{d d':Nat->PyData}(h:∀i j,noMix (d i) (d' j)=true):noMix (P1 k d) (P1 k' d')=true:=by unfold P1;rw[noMix];show Rv λx hx y hy=>?_;obtain⟨i,_,rfl⟩:=aw.mp hx;obtain⟨j,_,rfl⟩:=aw.mp hy;exact h i j
def W4(S:SR)(l:w1e)(k:Nat)(st:QQ S)(tb:FF S)(en:QQ S):PyData:=.tuple [.str<|tx l,P1 k λi=>S.data<|st i,P1 l.length λa=>P1 k λi=>P1 k λj=>S.data<|tb a i j,P1 k λi=>S.data<|en i]
structure YI(S:SR)(l:w1e)(k:Nat)(st:QQ S)(tb:FF S)(en:QQ S)(k':Nat)(st':QQ S)(tb':FF S)(en':QQ S):Prop where
 ek:k=k'
 st:∀i,i < k->st i=st' i
 tb:∀a,a < l.length->∀i,i < k->∀j,j < k->tb a i j=tb' a i j
 en:∀i,i < k->en i=en' i
section
variable{S:SR}{l:w1e}{k k':Nat}{st st':QQ S}{tb tb':FF S}{en en':QQ S}
def YI.wt(h:YI S l k st tb en k' st' tb' en')(u:w1e)(hu:AL l u):D9 S l k st tb en u=D9 S l k' st' tb' en' u:=by
 obtain⟨rfl,h1,h2,h3⟩:=h;have eJ:∀u,AL l u->∀i,i < k->h8 S k st (w5 l tb) u i=h8 S k st' (w5 l tb') u i:=by
  show(EB (l:=l)).ind _ h1 λc u hc hu ih j hj=>?_;have hx:l.idxOf c < l.length:=cu.mpr hc;rw[x4,x4];exact j6 λi hi=>by
   rw[ih i hi];show S.mul _ (tb (l.idxOf c) i j)=S.mul _ (tb' (l.idxOf c) i j);rw[h2 _ hx i hi j hj]
 exact j6 λi hi=>by rw[eJ u hu i hi,h3 i hi]
theorem YI.same(h:YI S l k st tb en k' st' tb' en'):PySem.Spec.same (W4 S l k st tb en) (W4 S l k' st' tb' en')=true:=by
 obtain⟨rfl,h1,h2,h3⟩:=h;have e:W4 S l k st tb en=W4 S l k st' tb' en':=by
  have e1:(P1 k λi=>S.data<|st i)=P1 k λi=>S.data (st' i):=EF λi hi=>by rw[h1 i hi]
  have e2:(P1 l.length λa=>P1 k λi=>P1 k λj=>S.data<|tb a i j)=P1 l.length λa=>P1 k λi=>P1 k λj=>S.data (tb' a i j):=EF λa ha=>EF λi hi=>EF λj hj=>by rw[h2 a ha i hi j hj]
  have e3:(P1 k λi=>S.data<|en i)=P1 k λi=>S.data (en' i):=EF λi hi=>by rw[h3 i hi]
  unfold W4;rw[e1,e2,e3]
 rw[e,dP]
def YI.of(h:PySem.Spec.same (W4 S l k st tb en) (W4 S l k' st' tb' en')=true):YI S l k st tb en k' st' tb' en':=by
 have e:=eq_of_same _ _ h;unfold W4 at e;injection e with e;injection e with _ e;injection e with e1 e;injection e with e2 e;injection e with e3 _;obtain⟨ek,h1⟩:=EE e1;obtain⟨_,h2⟩:=EE e2;obtain⟨_,h3⟩:=EE e3;exact⟨ek,λi hi=>IR<|h1 i hi,λa ha i hi j hj=>IR<|(EE<|(EE<|h2 a ha).2 i hi).2 j hj,λi hi=>IR<|h3 i hi⟩
def NM:noMix (W4 S l k st tb en) (W4 S l k' st' tb' en')=true:=by have a1:=Fm (k:=k) (k':=k') (d:=λi=>S.data<|st i) (d':=λi=>S.data<|st' i) λi j=>S.nm _ _;have a2:=Fm (k:=l.length) (k':=l.length) (d:=λa=>P1 k λi=>P1 k λj=>S.data<|tb a i j) (d':=λa=>P1 k' λi=>P1 k' λj=>S.data<|tb' a i j) λa b=>Fm λi j=>Fm λi j=>S.nm _ _;have a3:=Fm (k:=k) (k':=k') (d:=λi=>S.data<|en i) (d':=λi=>S.data<|en' i) λi j=>S.nm _ _;unfold W4;rw[noMix];simp[noMixAll,a1,a2,a3,noMix]
end
theorem j9.isd{R:c9 Pr w K mg base}{l:w1e}{k:Nat}{st:QQ R.S}{tb:FF R.S}{en:QQ R.S}{v:V}{H:Hp}(h:j9 R l k st tb en v H):Is K H v (W4 R.S l k st tb en):=by obtain⟨mp,sv,tv,ev,rfl,hm,h1,h2,h3⟩:=h;exact .tup (o9.of hm) (.cons (.str _)<|.cons (Bi h1 λi u' _ q'=>R.isd q')<|.cons (Bi h2 λa u' _ q'=>Bi q' λi u' _ q'=>Bi q' λj u' _ q'=>R.isd q')<|.cons (Bi h3 λi u' _ q'=>R.isd q') .nil)
def d0v{l:w1e}(L:N4 l):Gd 1 (.str<|tx l):=by
 have:PyData.strOk (tx l)=true:=by show l.toArray.all (· < 0x110000)=true;simp only[List.all_toArray,dD,decide_eq_true_eq];exact λx hx=>Nat.lt_trans (L.as x hx) bD
 exact⟨by simp[PyData.canLay0,this],by simp[PyData.depth],by simp[noMix]⟩
def Hy{T:Txt K mg t}{R:c9 Pr w K mg base}{nm:Str}{p:Int}(hS:So T R nm p){l:w1e}(L:N4 l){k:Nat}{st:QQ R.S}{tb:FF R.S}{en:QQ R.S}:shaped (W4 R.S l k st tb en)=true:=by
 show(Gd.tup (k:=5) λd hd=>?_).sh bD;rcases au.mp hd with rfl | hd
 . exact(d0v L).up bD
 rcases au.mp hd with rfl | hd
 . exact(DG λi=>hS.gd _).up bD
 rcases au.mp hd with rfl | hd
 . exact DG λa=>DG λi=>DG λj=>hS.gd _
 . rw[ar.mp hd];exact(DG λi=>hS.gd _).up bD
section
variable{S:SR}{F:M0 S}{l:w1e}{n:Nat}{st:QQ S}{tb:FF S}{en:QQ S}{es:w1a S}
def twin(E:K9 F (n+n) ((Md F l (n+n) (V6 n st st) (V5 n tb tb)<|Dz F n en en).map<|h8 S (n+n) (V6 n st st)<|w5 l<|V5 n tb tb) es){i:Nat}(hi:i < es.length){j:Nat}(hj:j < n):kv es i (n+j)=kv es i j:=by obtain⟨c,hc⟩:=E.span.2 i hi;rw[hc (n+j) Z,hc j Z];show j6 λk hk=>?_;rw[ag]at hk;have hu:=(P3 GR<|aG hk).2;have e:V0 ((Md F l (n+n) (V6 n st st) (V5 n tb tb)<|Dz F n en en).map<|h8 S (n+n) (V6 n st st)<|w5 l<|V5 n tb tb) k=h8 S (n+n) (V6 n st st) (w5 l<|V5 n tb tb) (Md F l (n+n) (V6 n st st) (V5 n tb tb)<|Dz F n en en)[k]:=CM (by rw[aE,ah hk];rfl);rw[e,Dl _ hu (n+j) Z,Dl _ hu j Z,Y6,V4 hj]
def o0x(N:BO F l n en (W7 tb) es)(nd:l.Nodup):d0j F l (N6 F l n es st tb).length (P0 S 0) (Qd F l n es st tb) (NP F l n es st tb en)=(N6 F l n es st tb).length:=by obtain⟨e1,E1⟩:=QB F (N6 F l n es st tb).length<|(S4 F (N6 F l n es st tb).length (h8 S (N6 F l n es st tb).length (NP F l n es st tb en)<|w5 l<|W7<|Qd F l n es st tb)<|gB l).map<|h8 S (N6 F l n es st tb).length (NP F l n es st tb en)<|w5 l<|W7<|Qd F l n es st tb;have N1:=Ef E1;rw[Rm N1 E1.le];exact congrArg List.length (Wd M9<|Up N1 N λu hu=>Bb N nd u hu)
theorem VI(nd:l.Nodup):∀i,(Hz l i).Pairwise λu v=>Je l u v=true
 | 0=>dk _ _
 | i+1=>YY nd (CD i) (VI nd i)
theorem QU(nd:l.Nodup):∀k,(J1 l k).Pairwise λu v=>GV l u v=true
 | 0=>dk _ _
 | k+1=>dj.mpr ⟨QU nd k,(VI nd<|k+1).imp_of_mem λhu hv h=>by
     unfold GV;rw[if_pos<|(CD _ _ hu).trans (CD _ _ hv).symm];exact h,λu hu v hv=>by
     have a:=(X7 k u hu).1;have b:=CD _ v hv;unfold GV;rw[if_neg Z];exact decide_eq_true Z⟩
end
def LsEq{R:c9 Pr w K mg base}{l:w1e}{n n':Nat}{es fm:w1a R.S}{st st':QQ R.S}{tb tb':FF R.S}{en en':QQ R.S}(N:BO R.F l n en (W7 tb) es)(N':BO R.F l n' en' (W7 tb') fm)(nd:l.Nodup):YI R.S l (N6 R.F l n es st tb).length (P0 R.S 0) (Qd R.F l n es st tb) (NP R.F l n es st tb en) (N6 R.F l n' fm st' tb').length (P0 R.S 0) (Qd R.F l n' fm st' tb') (NP R.F l n' fm st' tb' en')↔∀u,AL l u->D9 R.S l n st tb en u=D9 R.S l n' st' tb' en' u:=by
 constructor
 . intro h u hu;have a:=Bb (st:=st) N nd u hu;have b:=Bb (st:=st') N' nd u hu;exact a.symm.trans ((h.wt u hu).trans b)
 . intro h;obtain⟨e1,e2,e3⟩:=Ym (st:=st) (st':=st') N N' nd h;exact⟨congrArg List.length e1,λ_ _=>rfl,e2,e3⟩
def j9.meq{R:c9 Pr w K mg base}{l:w1e}{k k':Nat}{st st':QQ R.S}{tb tb':FF R.S}{en en':QQ R.S}(h:YI R.S l k st tb en k' st' tb' en'){v:V}{H:Hp}(m:j9 R l k' st' tb' en' v H):j9 R l k st tb en v H:=by obtain⟨rfl,h1,h2,h3⟩:=h;obtain⟨mp,sv,tv,ev,rfl,hm,a,⟨tp,ts,rfl,fw,eT⟩,c⟩:=m;show⟨mp,sv,_,ev,U,hm,j5.congr (λi hi=>(h1 i hi).symm) a,⟨tp,ts,U,fw,eT.1,λx hx=>?_⟩,j5.congr (λi hi=>(h3 i hi).symm) c⟩;obtain⟨u,eu,ap,ls,rfl,nN,eA⟩:=eT.2 x hx;show⟨_,eu,ap,ls,U,nN,eA.1,λi hi=>?_⟩;obtain⟨y,ey,py⟩:=eA.2 i hi;exact⟨y,ey,j5.congr (λj hj=>(h2 x hx i hi j hj).symm) py⟩
def MB.both{R:c9 Pr w K mg base}{l:w1e}{n n' μ:Nat}{st st':QQ R.S}{tb tb':FF R.S}{en en':QQ R.S}(h:MB R.B n l.length μ st tb en)(h':MB R.B n' l.length μ st' tb' en'):MB R.B (n+n') l.length (μ+μ) (V6 n st st') (V5 n tb tb') (Dz R.F n en en'):=by
 have up:∀{b c:Nat} {x:R.S.W},0 < c->c<=2 ^ μ->R.B.cb b (2 ^ μ) x->R.B.cb (b * c) (2 ^ (μ+μ)) x:=λ{b c x} c0 c1 h=>R.B.mono _ _ _ _ (by rw[aV];exact aD _ c1)<|R.B.up _ _ c _ c0 h;have pw:∀{b c:Nat},b<=2 ^ μ->c<=2 ^ μ->b * c<=2 ^ (μ+μ):=λ{b c} hb hc=>by rw[aV];exact aM hb hc
 have sw:∀{b c t:Nat} {x:R.S.W},R.B.cb (c * b) t x->R.B.cb (b * c) t x:=λ{b c t x} h=>by rwa [bU]at h
 obtain⟨b,b0,b1,hb⟩:=h.st;obtain⟨c,c0,c1,hc⟩:=h'.st;obtain⟨d,d0,d1,hd⟩:=h.en;obtain⟨e,e0,e1,he⟩:=h'.en;show⟨⟨b * c,bE b0 c0,pw b1 c1,λj hj=>?_⟩,λa ha=>?_,⟨d * e,bE d0 e0,pw d1 e1,λj hj=>?_⟩⟩
 . show R.B.cb _ _<|S6 R.S n st st' j;unfold S6;split
   . exact up c0 c1 (hb j<|by assumption)
   . exact sw (up b0 b1<|hc _ Z)
 . obtain⟨f,f0,f1,hf⟩:=h.tb a ha;obtain⟨g,g0,g1,hg⟩:=h'.tb a ha;show⟨f * g,bE f0 g0,pw f1 g1,λi hi j hj=>?_⟩;have z0:R.B.cb (f * g) (2 ^ (μ+μ)) R.S.zero:=R.B.mono _ _ _ _ (aP _)<|R.B.zero _<|bE f0 g0;show R.B.cb _ _<|Mn R.S n (tb a) (tb' a) i j;unfold Mn S6;split
   . (try dsimp only)
     split
     . exact up g0 g1 (hf i (by assumption) j<|by assumption)
     . exact z0
   . (try dsimp only)
     split
     . exact z0
     . exact sw (up f0 f1<|hg _ Z _ Z)
 . show R.B.cb _ _<|S6 R.S n en (λi=>R.F.neg<|en' i) j;unfold S6;split
   . exact up e0 e1 (hd j<|by assumption)
   . exact sw (up d0 d1<|R.B.neg _ _ _ _ (R.F.add_neg _)<|he _ Z)
def Qu{n:Nat}{i:Int}(h:(n:Int)<=i):Builtin.Str.strSliceIndices none (some i) 1 n=Builtin.Str.strSliceIndices none (some (n:Int)) 1 n:=by
 have h0:¬i < 0:=by omega
 have h1:¬((n:Int) < 0):=by omega
 have h2:(1:Int) > 0:=by decide
 simp only[Builtin.Str.strSliceIndices,h0,h1,h2,if_false,if_true,Int.min_eq_right h,Int.min_self]
def UI{p:w1e}{q:Int}(h0:0<=q):Txt.slice (tx p) none (some q)=tx (p.take q.toNat):=by
 by_cases h1:q<=p.length
 . exact YN h0 h1
 . have e2:Txt.slice (tx p) none (some q)=Txt.slice (tx p) none (some ((p.length:Nat):Int)):=by unfold Txt.slice;rw[T5,Qu Z]
   rw[e2,YN Z<|Int.le_refl _,dJ Z,dJ Z]
theorem N4.take{l:w1e}(L:N4 l)(k:Nat):N4 (l.take k):=⟨L.nd.sublist<|List.take_sublist _ _,λc hc=>L.as c<|List.mem_of_mem_take hc,by have:=L.h3;rw[bx];omega⟩
structure TwoB(S:SR)(l:w1e)(n n':Nat):Prop where
 L:N4 l
 l1:1<=l.length
 l2:l.length<=2
 sm:(n<=2/\n'<=2)\/∀k,N5 S k
 nn:(l.length=1/\n<=8/\n'<=8)\/(n<=3/\n'<=3)
def cont{A:Prop}{Q:V->Hp->Prop}(P:V->Hp->Prop)(f:(∀v H,P v H->Q v H)->A)(k:∀v H,P v H->Q v H):A:=f k
def Xk:Sp:=λvs H Q _=>∃(R:c9 Pr w K mg base),∃nm p,∃(a:Addr),∃so l,So T R nm p/\vs=[.ref a,so,vT l]/\(Dr H a/\K7 H so nm p/\N4 l/\1<=l.length/\l.length<=2)/\
 ∀q mv ov l' n n' st tb en st' tb' en' H',l6 a H H'->Dr H' a->H' q=some (.tup [mv,ov])->j9 R l' n st tb en mv H'->j9 R l' n' st' tb' en' ov H'->MC R 12 400000 n l'.length st tb en->MC R 12 400000 n' l'.length st' tb' en'->TwoB R.S l' n n'->Q (.ref q) H'
def PL:w8 Pr w K mg base F6 46 t.z0j t.x0a b0i (Xk (w:=w) (base:=base) T):=by
 show T.x0w.F.okA P7 λ_ _ _ _ H _ Q E hr h=>?_;obtain⟨R,nm,p,a,so,l0,hS,rfl,⟨hD,eQ,L0,l1,l2⟩,k⟩:=h;obtain rfl:so=.int p:=eQ;have zl:=sZ;have kK:p=0\/(0 < p/\∀k,N5 R.S k):=by
  cases hS with
  | fr=>exact .inl rfl
  | re p hp hq hi=>exact .inr ⟨Z,λk=>.inr λ_ _=>trivial⟩
 show⟨_,(c5 (sT 3 P7.nd c4)<|c5 (D3 (PW.pt<|Px (o6 AZ (O 1) c4<|o7 _)<|Rn<|o6 K8 (D2 (y6 T) hr.m T.v0w<|F1 (O 0) c4) c4<|o7 _) (c5 (sT 2 P7.nd<|AY UJ (O 2) Dc<|Da c4)<|c6<|sT 3 P7.nd c4) x5)<|c5 (sT 4 P7.nd<|D2 (Af T) hr.m T.s0p<|Ik (O 0) (O 1) (O 2)<|D2 (y6 T) hr.m T.v0w<|F1 (O 0)<|O 3)<|c5 (sT 5 P7.nd<|D2 (y6 T) hr.m T.v0w<|F1 (O 0) c4)<|c5 (D3 (o6 K8 (O 5) c4<|o7 _) (c6<|h7<|D0<|F1 (O 4)<|D2 (Af T) hr.m T.s0p<|Ik (O 0) (O 1) (O 2)<|D2 (y6 T) hr.m T.v0w<|F1 (O 0)<|x9 (TH U) bR T.z_max boot_max<|F1 (O 3)<|D5 y8 (D1<|F1 c4 c4)<|i3 Y8 bR T.z_int boot_int<|B3<|R4 AZ (O 1) c4<|o7 _) x5)<|c5 (sT 6 P7.nd<|D2 (Cv T) hr.m T.s0n<|Ik (O 0) (O 1) (O 4)<|i3 Y8 bR T.z_int boot_int<|B3<|g0f (R4 AZ (O 1) c4<|o7 _)<|PD<|R4 Vp (x9 B4 bR T.z_len PySem.boot_len<|B3<|D5 j7 (O 4) c4) c4<|o7 _)<|c5 (D3 (o6 K8 (O 5) c4<|o7 _) (c6<|h7<|D0<|F1 (O 6)<|D2 (Cv T) hr.m T.s0n<|Ik (O 0) (O 1) (O 4) c4) x5)<|c6<|h7<|D0<|F1 (O 6)<|D2 (Af T) hr.m T.s0p<|Ik (O 0) (O 1) (O 2)<|D2 (y6 T) hr.m T.v0w<|F1 (O 0) c4),?_⟩;norm_cast;show(λ(eJ:∀(l:w1e) (z:Nat) (G:Hp),l6 a H G->Dr G a->N4 l->1<=l.length->l.length<=2->(z=3\/(z=8/\l.length=1/\0 < p))->(?F:L2.St->Hp->Prop) [sr a,some<|.int p,some<|vT l,si z,none,none,none] G)=>?main) ?R3
 case main=>
  show va U<|za ⟨U,U,va U ?_⟩;show Dw (λgt=>?_)<|λgt=>?_;rotate_left
  . (try show Em ?_)
    exact eJ l0 3 H (l6.refl _ _) hD L0 l1 l2 (.inl U)
  . show va U ⟨a,4,U,⟨hD,bD,bD⟩,λr H1 s1 d1 a1 b1=>⟨U,va U ?_⟩⟩;show Dx (λ_=>?_) (λ_=>?_)
    . show vc U U U ⟨by rw[T5];omega,?_⟩;rw[UI bD];exact eJ (l0.take 1) 8 H1 s1 d1 (L0.take 1) (by rw[bx];omega) (by rw[bx];omega) (.inr ⟨U,by rw[bx];omega,Z⟩)
    . exact eJ l0 3 H1 s1 d1 L0 l1 l2 (.inl U)
 case R3=>
  intro l z G sG dG L l1 l2 hz;have z8:z<=8:=by omega
  show vc U U U<|vb U U ⟨a,va U ⟨⟨dG,Z,Z⟩,λr1 G1 s1 d1 a1 b1=>?_⟩⟩;obtain⟨n,rfl⟩:∃n:Nat,r1=(n:Int):=⟨r1.toNat,Z⟩;show⟨R,zw nm p a (.int p) l n _ ⟨hS,U,⟨d1,U,L,Z,U⟩,λbv G2 st tb en s2 d2 hN hC=>?_⟩⟩;have hC4:MC R 12 400000 n l.length st tb en:=hC.mono bD;obtain⟨bp,bsv,btv,bev,rfl,nL,pN,we,tP⟩:=id hN;show va U ⟨a,3,U,⟨d2,bD,bD⟩,λwy G3 s3 d3 a3 b3=>?_⟩;have q3:=sG.trans<|s1.trans<|s2.trans s3;have tX:=j9.same (s3.tt d2) hN;show va U ⟨U,va U ?_⟩;have eQ:K7 G3 (.int p) nm p:=rfl;show Dx (λ_=>?_) (λ_=>?_)
  . show vc U U U<|vc U U U ⟨sL,λlp gC=>?_⟩;have t4:=c7 (o:=.lst [V.int 3,V.int 4]) gC;have k4:=b9 (H:=G3) (a:=lp) (o:=.lst [V.int 3,V.int 4]);have rD:lp≠a:=Ru d3 gC;revert t4 k4;generalize upd G3 lp (.lst [V.int 3,V.int 4])=G4;intro t4 k4;have d4:=d3.same t4;show va U<|za ⟨U,U,.inr<|va U ?_⟩;obtain⟨m,em,hm⟩:∃m:Nat,OM [V.int 3,V.int 4] (if decide ((0:Int) < p)=true then 1 else 0)=some (V.int (m:Nat))/\3<=m/\m<=4/\(m=3\/0 < p):=by
     by_cases h:0 < p
     . rw[if_pos<|decide_eq_true h];exact⟨4,U,bD,bD,.inr h⟩
     . rw[if_neg<|by rw[decide_eq_false h];exact aI];exact⟨3,U,bD,bD,.inl U⟩
    show zf ⟨U,U,p9.of k4,em,za ⟨U,a,va U ⟨⟨d4,by split <;>omega,by split <;>omega⟩,λr5 G5 s5 d5 a5 b5=>?_⟩⟩⟩;obtain⟨n',rfl⟩:∃n':Nat,r5=(n':Int):=⟨r5.toNat,Z⟩;have kE:n' < z\/n' < m:=by
     revert b5;split <;>intro b5 <;>omega
    show⟨R,zw nm p a (.int p) l n' _ ⟨hS,U,⟨d5,U,L,Z,U⟩,λov G6 st' tb' en' s6 d6 hO kU=>?_⟩⟩;show⟨sL,λq nq=>?_⟩;have t7:=c7 (o:=.tup [V.ref bp,ov]) nq;have d7:=d6.same t7;show k _ _ _ _ n n' st tb en st' tb' en' _ (q3.trans<|(l6.of t4).trans<|s5.trans<|s6.trans<|.of t7) d7 b9 (j9.same ((t4.t.trans<|s5.tt d4).trans<|(s6.tt d5).trans t7.t) tX) (j9.same t7.t hO) hC4 (kU.mono bD) ⟨L,l1,l2,?_,?_⟩
    . rcases kK with h | h
      . exact .inl ⟨Z,Z⟩
      . exact .inr h.2
    . omega
  . show cont (Q:=?QQ) (λv G4=>∃n1 gT iU Wt,l6 a G3 G4/\Dr G4 a/\n1<=n+1/\(n1<=2\/0 < p)/\j9 R l n1 gT iU Wt v G4/\MC R 12 400000 n1 l.length gT iU Wt) (λkk=>?mainq) ?restq
    case mainq=>
     have use:∀(Q:V->Hp->Prop) E (c:Nat),c<=1->(1<=c->n<=1\/0 < p)->(∀v G4,(∃n1 gT iU Wt,l6 a G3 G4/\Dr G4 a/\n1<=n+1/\(n1<=2\/0 < p)/\j9 R l n1 gT iU Wt v G4/\MC R 12 400000 n1 l.length gT iU Wt)->Q v G4)->GE (w:=w) (base:=base) T [.ref a,.int p,.ref bp,.int (c:Nat)] G3 Q E:=λQ E c hc h1 kk=>⟨R,zG nm p a (.int p) (.ref bp) l n c st tb en ⟨hS,U,⟨d3,U,L,Z,tX,hC⟩,λv G4 n1 gT iU Wt s4 d4 g1 g1' hM a1u=>kk v G4 ⟨n1,gT,iU,Wt,s4,d4,Z,(by rcases kK with h | h <;>omega),hM,a1u.mc⟩⟩⟩;show vc U U U<|va U<|za ⟨U,U,?_⟩;show va U ?_;show Dw (λgt=>?_) (λgt=>?_)
     . show .inr<|va U ?_;show use _ E0 1 bD (λ_=>.inr gt) ?_;exact kk
     . show va U<|zf ⟨U,U,o9.of<|(s3.tt d2) _ _ nL,U,za ⟨U,(j5.same (s3.tt d2) pN).len,za ⟨U,U,?_⟩⟩⟩;show .inr<|va U ?_;by_cases h2:(n:Int) < 2
       . rw[if_pos<|decide_eq_true h2];show use _ E0 1 bD (λ_=>.inl Z) ?_;exact kk
       . rw[if_neg<|by rw[decide_eq_false h2];exact aI];show use _ E0 0 bD (λh=>absurd h bD) ?_;exact kk
    case restq=>
     rintro vo G4 ⟨n1,gT,iU,Wt,s4,d4,g1,g2,fU,wC⟩;have sm:∀n2:Nat,n2<=2\/0 < p->(n1<=2/\n2<=2)\/∀k,N5 R.S k:=λn2 h=>by
      rcases kK with e | e
      . exact .inl ⟨Z,Z⟩
      . exact .inr e.2
     show va U ⟨U,va U ?_⟩;show Dx (λ_=>?_) (λ_=>?_)
     . show vc U U U<|va U ⟨R,zG nm p a (.int p) (.ref bp) l n 0 st tb en ⟨hS,U,⟨d4,U,L,Z,j9.same (s4.tt d3) tX,hC⟩,λv5 G5 n2 fS tb2 uB s5 d5 g3 g4 nR O2=>⟨sL,λq nq=>?_⟩⟩⟩;have t7:=c7 (o:=.tup [vo,v5]) nq;exact k _ _ _ _ n1 n2 gT iU Wt fS tb2 uB _ (q3.trans<|s4.trans<|s5.trans<|.of t7) (d5.same t7) b9 (j9.same ((s5.tt d4).trans t7.t) fU) (j9.same t7.t nR) wC O2.mc ⟨L,l1,l2,sm _ Z,Z⟩
     . show vc U U U<|vb U U ⟨a,2,U,⟨d4,bD,bD⟩,λr5 G5 s5 d5 a5 b5=>?_⟩;obtain⟨n',rfl⟩:∃n':Nat,r5=(n':Int):=⟨r5.toNat,Z⟩;show⟨R,zw nm p a (.int p) l n' _ ⟨hS,U,⟨d5,U,L,Z,U⟩,λv6 G6 st' tb' en' s6 d6 hO kU=>⟨sL,λq nq=>?_⟩⟩⟩;have t7:=c7 (o:=.tup [vo,v6]) nq;exact k _ _ _ _ n1 n' gT iU Wt st' tb' en' _ (q3.trans<|s4.trans<|s5.trans<|s6.trans<|.of t7) (d6.same t7) b9 (j9.same ((s5.tt d4).trans<|(s6.tt d5).trans t7.t) fU) (j9.same t7.t hO) wC (kU.mono bD) ⟨L,l1,l2,sm _ Z,Z⟩
def YJ.rk{R:c9 Pr w K mg base}{l:w1e}{n m:Nat}{st:QQ R.S}{tb:FF R.S}{en:QQ R.S}(h:YJ R l n st tb en m):d0j R.F l n st tb en=m:=by obtain⟨es,E,e⟩:=h;rw[<- e];exact Rm (Ef E) E.le
def a0g{S:SR}{F:M0 S}{l:w1e}{n n':Nat}{st st':QQ S}{tb tb':FF S}{en en':QQ S}(h:∀u,AL l u->u.length<=n+n' - 1->D9 S l n st tb en u=D9 S l n' st' tb' en' u):GJ (D9 S l (n+n') (V6 n st st') (V5 n tb tb')<|Dz F n en en') (Md F l (n+n') (V6 n st st') (V5 n tb tb')<|Dz F n en en')=[]:=
 EY.mpr λu hu=>by
  obtain⟨a,b⟩:=P3 GR hu;exact(CP u b).mpr (h u b Z)
structure q0c(R:c9 Pr w K mg base)(l:w1e)(n n' k μ ν:Nat)(st:QQ R.S)(tb:FF R.S)(en:QQ R.S)(st':QQ R.S)(tb':FF R.S)(en':QQ R.S)(sl:QQ R.S)(tl:FF R.S)(el:QQ R.S):Prop where
 b:MB R.B n l.length μ st tb en
 b':MB R.B n' l.length μ st' tb' en'
 bl:MB R.B k l.length ν sl tl el
 w':∀u,AL l u->D9 R.S l n' st' tb' en' u=D9 R.S l n st tb en u
 wl:∀u,AL l u->D9 R.S l k sl tl el u=D9 R.S l n st tb en u
 rk:d0j R.F l k sl tl el=k
 le:n<=20/\n'<=20/\k<=20
 z:N5 R.S (3 * (5 * (μ+n)))/\N5 R.S (3 * (5 * (μ+n')))/\N5 R.S (3 * (5 * (ν+k)))
 zc:N5 R.S (3 * zC (k+k) (ν+ν))
 zh:N5 R.S (3 * zH k (ν+ν))
def d0u{l:w1e}(h:l.length<=2):l.length ^ 3<=1000/\(J1 l 3).length<=1000:=by have a:=bS h 3;have b:=MF (l:=l) Z 3;exact⟨af a bD,af b bD⟩
structure IY(R:c9 Pr w K mg base)(l:w1e)(q:Nat)(D:w1e->R.S.W)(H:Hp)(v:V)(m μ:Nat)(st:QQ R.S)(tb:FF R.S)(en:QQ R.S):Prop where
 M:j9 R l m st tb en v H
 b:MB R.B m l.length μ st tb en
 w:∀u,AL l u->D9 R.S l m st tb en u=D u
 z:N5 R.S (3 * ((q+2) * (μ+m)))
 le:m<=20
def Xj:Sp:=λvs H Q _=>∃(R:c9 Pr w K mg base),∃nm p kv so,∃(ml:Addr),∃mv ov fv gv l,∃(n n' k μ ν:Nat),∃st tb en st' tb' en' sl tl el,So T R nm p/\vs=[kv,so,.ref ml]/\(K7 H so nm p/\N9 R.C R.fs H kv/\H ml=some (.lst [mv,ov,fv,gv])/\j9 R l n st tb en mv H/\j9 R l n' st' tb' en' ov H/\j9 R l k sl tl el fv H/\j9 R l k sl tl el gv H/\N4 l/\l.length<=2/\q0c R l n n' k μ ν st tb en st' tb' en' sl tl el/\E6 t H)/\∀H',Q (.bl true) H'
def PK(fz:WI mg base t):w8 Pr w K mg base F6 61 t.z0x t.x0f b0g (Xj (w:=w) (base:=base) T):=by
 show T.w0r.F.okA T6 λ_ _ _ _ H _ Q _ hr h=>?_;obtain⟨R,nm,p,kv,so,ml,mv,ov,fv,gv,l,n,n',k,μ,ν,st,tb,en,st',tb',en',sl,tl,el,hS,rfl,⟨eQ,hk,iY,hM,hN,hF,hG,L,l2,a1u,hT⟩,kQ⟩:=h;have zl:=sZ;obtain⟨u3,w3⟩:=d0u l2;have le:=a1u.le;obtain⟨mp,sv,tv,ev,rfl,hm,h1,h2,h3⟩:=id hM;obtain⟨fp,oI,oG,uw,rfl,hf,f1,f2,f3⟩:=id hF;obtain⟨ws,jT⟩:∃ws,J1 l 3=ws:=⟨_,U⟩;have qz:∀u∈ws,u.length<=3/\AL l u:=λu hu=>by
  rw[<- jT]at hu;exact X7 _ u hu
 have all:∀y∈[ov,.ref fp,gv],∃m ν' sx gr ex,IY R l 3 (D9 R.S l n st tb en) H y m ν' sx gr ex:=λy hy=>by
  rcases au.mp hy with rfl | hy
  . exact zg ⟨hN,a1u.b',a1u.w',a1u.z.2.1,le.2.1⟩
  rcases au.mp hy with rfl | hy
  . exact zg ⟨hF,a1u.bl,a1u.wl,a1u.z.2.2,le.2.2⟩
  cases ar.mp hy;exact zg ⟨hG,a1u.bl,a1u.wl,a1u.z.2.2,le.2.2⟩
 show⟨_,(c5 (E9 aB U (C5<|D2 (Fg T) hr.m T.u0f<|F1 (D5 j7 (D5 y8 (O 2) c4) c4) c4) (gN 3 T6.nd)<|c5 (sT 4 T6.nd<|D2 (Y5 T) hr.m T.u0q<|S3 (O 1) (D5 y8 (O 2) c4)<|O 3)<|c6<|E9 aB U (C5<|AY Rg (O 2) (Da c4) Dc) (gN 5 T6.nd)<|c6<|D3 (o6 (Gk hr.units) (D2 (Y5 T) hr.m T.u0q<|S3 (O 1) (O 5)<|O 3) (O 4)<|o7 _) (c6<|h7 Ae) x5)<|c5 (U7 (i:=6) T6.nd U (Or.inr U)<|x9 B4 bR T.z_len PySem.boot_len<|B3<|D5 j7 (D5 y8 (O 2) c4) c4)<|c5 (P5 (i₀:=7) (xs:=[Ai]) T6.nd U (Or.inl U) U (oC o0p<|a8 AR) (C6 U T.z_range<|B3<|O 6) (r9 (i:=8) (by show List.Nodup<|o0q;decide +kernel) U<|Or.inr U)<|i3 (show T3 _ (.type "tuple") (λxs H Q=>∃p ys,xs=[.ref p]/\((p9 K H p ys/\∀l,H l=none->Q (.ref l) (upd H l<|.tup ys))\/(o9 K H p ys/\Q (.ref p) H)))from c8) bR T.z_tuple boot_tuple<|B3<|x8 (xs:=[ED]) U (show Q0 o0q (rlS (a8 AR) _) _ from⟨U,dK,dK,dK,dK,dK⟩) (C6 U T.z_range<|B3<|O 6) (r9 (i:=9) (by show List.Nodup ([Ug,L3,MD,Kz,Mz,AO,FN,"_law_due",Ai,ED]:w1f);decide +kernel) U<|Or.inl U)<|C1 (Ba (w:=w) (base:=base) T) hr.m U T.z0b.m T.z0b.F.kp T.z0b.b .nil C3<|F1 (O 1)<|i3 Y8 bR T.z_int boot_int<|B3<|R4 K8 (O 8) (O 9)<|o7 _)<|c6<|h7<|R4 (PH hr.units) (D2 (PJ T fz) hr.m T.x0g<|S3 (O 0) (D5 y8 (O 2) c4)<|D5 y8 (O 2) c4) (i3 c8 bR T.z_tuple boot_tuple<|B3<|O 7)<|o7 _),?_⟩;norm_cast;show va U<|zf ⟨U,U,p9.of iY,U,zf ⟨U,U,o9.of hm,U,l,3,U,⟨L,u3,w3,bD⟩,λlk H1 s1 k1=>?_⟩⟩;rw[jT]at k1 w3;show⟨lk,U,⟨_,p9.of k1⟩,P2 (K:=K) (a:=lk) (xs:=ws.map vT) (λi σ G=>∃v3 v4 v5,σ=[some kv,some so,sr ml,v3,v4,v5,none,none]/\h9 H1 G) ⟨_,_,va U<|h9.refl _⟩ (λi σ G _ ⟨_,_,_,_,q⟩=>p9.of<|q _ _ k1) ?_ ?_⟩
 . rintro i y σ G hi ⟨v3,v4,v5,rfl,q⟩;rw[aE]at hi;obtain⟨u,eu,rfl⟩:=cP.mp hi;obtain⟨ul,ua⟩:=qz u<|aL eu;have q0:=s1.trans q;have zz:∀{x:Nat},N5 R.S (3 * (5 * x))->N5 R.S (3 * ((u.length+2) * x)):=λ{x} h=>h.le<|aD _<|bA _ Z;show vb U U<|zf ⟨U,U,p9.of<|q0 _ _ iY,U,va U ⟨R,zG nm p so _ l n μ st tb en u ⟨hS,U,⟨eQ.same q0.t,j9.same q0.t hM,a1u.b,L,Z,ua,zz a1u.z.1⟩,λxv G1 s2 i1=>?_⟩⟩⟩;have q1:=q0.trans s2;show vb U U ⟨ml,va U ⟨p9.of<|q1 _ _ iY,λcp ncp=>?_⟩⟩;have t2:=c7 (o:=.lst [ov,.ref fp,gv]) ncp;have k2:=b9 (H:=G1) (a:=cp) (o:=.lst [ov,.ref fp,gv]);rw[show BL [V.ref mp,ov,.ref fp,gv] (some 1) none=[ov,.ref fp,gv]from rfl];revert t2 k2;generalize upd G1 cp (.lst [ov,.ref fp,gv])=G2;intro t2 k2;have q2:=q1.trans t2;have i2:=R.same t2.t i1;show⟨cp,U,⟨_,p9.of k2⟩,P2 (K:=K) (a:=cp) (xs:=[ov,.ref fp,gv]) (λi σ G=>∃v5,σ=[some kv,some so,sr ml,some<|vT u,some xv,v5,none,none]/\h9 G2 G) (va U<|h9.refl _) (λi σ G _ ⟨_,_,q⟩=>p9.of<|q _ _ k2) ?_ ?_⟩
   . rintro j y σ G3 hj ⟨v5,rfl,q3⟩;obtain⟨m,ν',sx,gr,ex,hoM,ob,ow,oz,ol⟩:=all y<|aL hj;have q4:=q2.trans q3;show vc U U U ⟨R,zG nm p so y l m ν' sx gr ex u ⟨hS,U,⟨eQ.same q4.t,j9.same q4.t hoM,ob,L,Z,ua,zz oz⟩,λyv G4 s4 i4=>(va U ?_)⟩⟩;show R.neD i4 (R.same (q3.trans s4).t i2) (ow u ua) (va U ?_)
     (try show Em ?_)
     exact va U (q3.trans s4)
   . rintro σ G3 ⟨v5,rfl,q3⟩;exact zd ⟨U,q.trans<|s2.trans<|t2.trans q3⟩
 . rintro σ G ⟨v3,v4,v5,rfl,q⟩;have q0:=s1.trans q;clear s1 q;show va U<|zf ⟨U,U,p9.of<|q0 _ _ iY,U,zf ⟨U,U,o9.of<|q0 _ _ hf,U,za ⟨U,(j5.same q0.t f1).len,?_⟩⟩⟩;show vb U U ⟨Z,Z,o4 (n:=k) (λi ys G1=>h9 G G1/\j8 (λi u H=>j5 R k (λj=>if i=j then R.S.one else R.S.zero) u H) ys i G1) Z ⟨h9.refl _,j8.nil⟩ (λj ys H2 q=>q.2.1) ?_ ?_ ?_⟩
   . rintro i ys G1 hi ⟨q1,e1⟩;show⟨(show i < (k:Int).toNat by omega),λy G1' hy=>?_⟩;obtain⟨rfl,rfl⟩:=hy;show⟨⟨[some _],U,U⟩,vb U U ⟨Z,Z,o4 (n:=k) (λj zs G2=>h9 G1' G2/\j8 (λj u H=>R.is H u<|if i=j then R.S.one else R.S.zero) zs j G2) Z ⟨h9.refl _,j8.nil⟩ (λj ys H2 q=>q.2.1) ?_ ?_ ?_⟩⟩
     . rintro j zs G2 hj ⟨q2,e2⟩;show IG (by omega) ?_;show⟨⟨[some _],U,U⟩,vc U U U ⟨U,.inr<|va U ?_⟩⟩;show⟨R,zm nm p so _ ⟨hS,U,⟨eQ.same (q0.trans<|q1.trans q2).t,by split <;>decide,by split <;>decide⟩,λv G3 x s3 f3 x0 x1 _ _=>?_⟩⟩;have ex:x=if i=j then R.S.one else R.S.zero:=by
        by_cases e:i=j
        . rw[if_pos e];exact x1 (if_pos<|decide_eq_true<|by rw[e])
        . rw[if_neg e];exact x0 (if_neg<|by rw[decide_eq_false<|λz=>e<|by injection z with z;omega];exact aI)
       rw[ex]at f3;exact⟨q2.trans s3,(e2.mono λ_ _ _ z=>R.same s3.t z).snoc f3⟩
     . rintro zs G2 ⟨q2,e2⟩;show(k:Int).toNat<=k;omega
     . rintro zs G2 lz ⟨q2,e2⟩ gZ;have t8:=c7 (o:=.lst zs) gZ;show⟨lz,zs,U,.inl ⟨p9.of b9,λtz iD=>?_⟩⟩;have t9:=t8.trans<|c7 (o:=.tup zs) iD;exact⟨q1.trans<|q2.trans t9,(e1.mono λ_ _ _ z=>j5.same (q2.trans t9).t z).snoc ⟨tz,zs,U,b9,e2.mono λ_ _ _ z=>R.same t9.t z⟩⟩
   . rintro ys G1 ⟨q1,e1⟩;show(k:Int).toNat<=k;omega
   . rintro ys G1 dp ⟨q1,e1⟩ ndp;show E4 (o:=.lst ys) ndp λG2 t1 k1=>?_;have q2:=q0.trans<|q1.trans t1;have eD:=e1.mono λ_ _ _ z=>j5.same t1.t z;clear e1 q1 q0;have fH:=hT.same q2;show vb U U<|zf ⟨U,U,p9.of<|q2 _ _ iY,U,va U<|zf ⟨U,U,p9.of<|q2 _ _ iY,U,R,kv,.ref fp,gv,l,k,k,ν+ν,sl,tl,el,sl,tl,el,U,⟨hk.same q2,j9.same q2.t hF,j9.same q2.t hG,MB.both a1u.bl a1u.bl,a1u.bl.mono Z,L,Z,a1u.zc,a1u.zh,fH⟩,λv H3 gh gn tv=>?_⟩⟩;have u3:y9 G2 H3:=gh.tup fH.not;have e0:=a0g (F:=R.F) (l:=l) (n:=k) (n':=k) (st:=sl) (tb:=tl) (en:=el) (st':=sl) (tb':=tl) (en':=el) λ_ _ _=>rfl;rcases tv with ⟨_,why⟩ | ⟨_,_,hd,es,hE,hW⟩
     . rcases why with z | z | ⟨m,gm,nm'⟩
       . exact absurd e0 z
       . exact absurd rfl z
       . exact absurd (gm.rk.symm.trans a1u.rk) nm'
     . obtain⟨eL,eI⟩:=Xb L.nd hE e0 a1u.rk a1u.rk;have kd:H3 dp=some (.lst ys):=gh _ _ (fH.lst k1) k1;show va U ⟨dp,ys,U,.inl ⟨p9.of kd,λqp nqp=>?_⟩⟩;have t4:=c7 (o:=.tup ys) nqp;have hr:B5 R k k (λi j=>if i=j then R.S.one else R.S.zero) (.ref qp) (upd H3 qp<|.tup ys):=⟨qp,ys,U,b9,eD.mono λ_ _ _ z=>j5.same (u3.trans t4.t) z⟩;rw[eL]at hW;have hw:B5 R k k (λi j=>if i=j then R.S.one else R.S.zero) v (upd H3 qp<|.tup ys):=hW.mono t4.t λi u hi z=>j5.congr (λj hj=>by rw[twin hE Z hj];exact eI i hi j hj)<|j5.same t4.t z;have g:Gd 4 (P1 k λi=>P1 k λj=>R.S.data<|if i=j then R.S.one else R.S.zero):=DG λi=>DG λj=>hS.gd _;show za ⟨Bi hw λi u _ q=>Bi q λj u _ q=>R.isd q,Bi hr λi u _ q=>Bi q λj u _ q=>R.isd q,g.sh bD,g.sh bD,g.mix,?_⟩;rw[dP];exact kQ _
def GU(a b c d:Bool):shaped (.list [.bool a,.bool b])=true/\noMix (.list [.bool a,.bool b]) (.list [.bool c,.bool d])=true/\PySem.Spec.same (.list [.bool a,.bool b]) (.list [.bool c,.bool d])=(a == c && b == d):=by
 cases a <;>cases b <;>cases c <;>cases d <;>show⟨dK,dK,dK⟩
def Zq{a b:w1e}(h:tx a=tx b):a=b:=by injection h with h;simpa using h
structure NoOk(R:c9 Pr w K mg base)(l:w1e)(D D':w1e->R.S.W)(u0:w1e):Prop where
 a:AL l u0
 q:u0.length<=100
 p:l.length ^ u0.length<=1000
 W:(J1 l u0.length).length<=1000
 ne:D u0≠D' u0
 bf:∀u,AL l u->GV l u u0=true->D u=D' u
def ZD:Sp:=λvs H Q _=>∃(R:c9 Pr w K mg base),∃nm p so,∃(ml:Addr),∃mv ov fv gv l u0 D D',So T R nm p/\vs=[so,.ref ml,vT u0]/\(K7 H so nm p/\H ml=some (.lst [mv,ov,fv,gv])/\(∃m μ sx gr ex,IY R l u0.length D H mv m μ sx gr ex)/\(∃m μ sx gr ex,IY R l u0.length D' H ov m μ sx gr ex)/\(∃m μ sx gr ex,IY R l u0.length D H fv m μ sx gr ex)/\(∃m μ sx gr ex,IY R l u0.length D' H gv m μ sx gr ex)/\N4 l/\NoOk R l D D' u0)/\∀H',Q (.bl true) H'
def SY:w8 Pr w K mg base F6 45 t.a1c t.y0b b0c (ZD (w:=w) (base:=base) T):=by
 show T.y0q.F.okA FR λ_ _ _ _ H _ _ _ hr h=>?_;obtain⟨R,nm,p,so,ml,mv,ov,fv,gv,l,u0,D,D',hS,rfl,⟨eQ,iY,om,oo,of,og,L,a1u⟩,kQ⟩:=h;have zl:=sZ;have vm:∀j,j < 2->∃i:Nat,[V.int 0,V.int 2][j]? = some (.int i)/\∃x y,OM [mv,ov,fv,gv] i=some x/\OM [mv,ov,fv,gv] ((i:Int)+1)=some y/\(∃m μ sx gr ex,IY R l u0.length D H x m μ sx gr ex)/\∃m μ sx gr ex,IY R l u0.length D' H y m μ sx gr ex:=λj hj=>by
  rcases(by omega:j=0\/j=1)with rfl | rfl
  . exact⟨0,U,za ⟨U,U,om,oo⟩⟩
  . exact⟨2,U,za ⟨U,U,of,og⟩⟩
 obtain⟨mp,sv,tv,ev,rfl,hm,_⟩:=id (show ∃mp sv tv ev,mv=V.ref mp/\H mp=some (.tup [vT l,sv,tv,ev])/\True from by
  obtain⟨_,_,_,_,_,o⟩:=om;obtain⟨mp,sv,tv,ev,e,hm,_⟩:=o.M;exact⟨mp,sv,tv,ev,e,hm,trivial⟩)
 obtain⟨ws,jT⟩:∃ws,J1 l u0.length=ws:=⟨_,U⟩;have qz:∀u∈ws,u.length<=u0.length/\AL l u:=λu hu=>by
  rw[<- jT]at hu;exact X7 _ u hu
 have pws:ws.Pairwise λu v=>GV l u v=true:=by rw[<- jT];exact QU L.nd _
 have hW:=a1u.W;show⟨_,(c5 (E9 aB U (C5<|D2 (Fg T) hr.m T.u0f<|F1 (D5 j7 (D5 y8 (O 1) c4) c4)<|x9 B4 bR T.z_len PySem.boot_len<|B3<|O 2) (r9 (i:=3) FR.nd U<|Or.inr U)<|c5 (P5 (i₀:=4) (xs:=[Ai]) FR.nd U (Or.inl U) U (oC o0m<|a8 EW) (J2<|D0<|F1 c4 c4) (r9 (i:=5) (by show List.Nodup ([L3,MD,OR,Kz,"_law_parted",Ai]:w1f);decide +kernel) U<|Or.inl U)<|R4 (show FI _ (compareOp .NotEq) (UY K)from Gk hr.units) (C1 (Y5 (w:=w) (base:=base) T) hr.m U T.u0q.m T.u0q.F.kp T.u0q.b .nil C3<|S3 (O 0) (D5 (show Kx _ (XH K)from y8) (O 1)<|O 5)<|O 3) (C1 (Y5 (w:=w) (base:=base) T) hr.m U T.u0q.m T.u0q.F.kp T.u0q.b .nil C3<|S3 (O 0) (D5 (show Kx _ (XH K)from y8) (O 1)<|o8 O7 (O 5) c4)<|O 3)<|o7 _)<|c5 (D3 (o6 K8 (O 3) (O 2)<|o7 _) (c6<|h7<|R4 (PH hr.units) (O 4) (D1<|F1 Ae Ae)<|o7 _) x5)<|c6<|D3 (o6 (Gk hr.units) (O 4) (D1<|F1 Ae Ae)<|o7 _) (c6<|h7 Ae) x5)<|c6<|h7 Ae),?_⟩;norm_cast;show va U (zf ⟨U,U,p9.of iY,U,zf ⟨U,U,o9.of hm,U,va U<|za ⟨U,lenT (by have:=a1u.q;omega),l,u0.length,U,⟨L,a1u.p,a1u.W,a1u.q⟩,λlk H1 s1 k1=>?_⟩⟩⟩);rw[jT]at k1 hW;show⟨lk,U,⟨_,p9.of k1⟩,P2 (K:=K) (a:=lk) (xs:=ws.map vT) (λi σ G=>∃v3 v4,σ=[some so,sr ml,some<|vT u0,v3,v4]/\h9 H1 G/\∀j,j < i->ws[j]?≠some u0) ⟨_,va U ⟨h9.refl _,λj hj=>absurd hj Z⟩⟩ (λi σ G _ ⟨_,_,_,q,_⟩=>p9.of<|q _ _ k1) ?_ ?_⟩
 . rintro i y σ G hi ⟨v3,v4,rfl,q,hq⟩;rw[aE]at hi;obtain⟨u,eu,rfl⟩:=cP.mp hi;obtain⟨ul,ua⟩:=qz u<|aL eu;have q0:=s1.trans q;have zz:∀{x:Nat},N5 R.S (3 * ((u0.length+2) * x))->N5 R.S (3 * ((u.length+2) * x)):=λ{x} h=>h.le<|aD _<|bA _ Z;show⟨sL,λtp kc=>?_⟩;show E4 (o:=.tup [V.int 0,V.int 2]) kc λG1 t1 k2=>?_;have q1:=q0.trans t1;obtain⟨d,hd⟩:∃d:Bool,(d=true↔D u≠D' u):=by
    by_cases e:D u=D' u
    . exact⟨false,by simp[e]⟩
    . exact⟨true,by simp[e]⟩
   show⟨tp,U,⟨_,o9.of k2⟩,o4 (n:=2) (λj ys G2=>h9 G1 G2/\ys=(List.replicate j d).map V.bl) Z ⟨h9.refl _,U⟩ (λj ys G2 z=>by rw[z.2,ag,dz]) ?_ ?_ ?_⟩
   . rintro j ys G2 hj ⟨q2,rfl⟩;obtain⟨i0,ei,x,y,ex,ey,⟨m,μ,sx,gr,qg,ox⟩,⟨m',μ',sx',qG,ur,oy⟩⟩:=vm j hj;show Dy (o9.of<|q2 _ _ k2) ei ?_;have q3:=q1.trans q2;show⟨⟨[some _],U,U⟩,vc U U U<|zf ⟨U,U,p9.of<|q3 _ _ iY,ex,va U ⟨R,zG nm p so x l m μ sx gr qg u ⟨hS,U,⟨eQ.same q3.t,j9.same q3.t ox.M,ox.b,L,(by have:=ox.le;omega),ua,zz ox.z⟩,λxv G3 s3 f3=>?_⟩⟩⟩⟩;have q4:=q3.trans s3;show vc U U U (za ⟨U,U,zf ⟨U,U,p9.of<|q4 _ _ iY,ey,va U ⟨R,zG nm p so y l m' μ' sx' qG ur u ⟨hS,U,⟨eQ.same q4.t,j9.same q4.t oy.M,oy.b,L,(by have:=oy.le;omega),ua,zz oy.z⟩,λyv G4 s4 f4=>?_⟩⟩⟩⟩);have fin:∀b:Bool,b=d->h9 G1 G4/\(List.replicate j d).map V.bl++[V.bl b]=(List.replicate (j+1) d).map V.bl:=λb e=>⟨q2.trans<|s3.trans s4,by rw[e,List.replicate_succ',bb];rfl⟩;have wx:=ox.w u ua;have wy:=oy.w u ua;by_cases e:D u=D' u
     . show R.neD (R.same s4.t f3) f4 (wx.trans<|e.trans wy.symm)<|fin false ?_;cases d with
       | false=>rfl
       | true=>exact absurd e (hd.mp U)
     . show R.neT (R.same s4.t f3) f4 (λz=>e<|wx.symm.trans<|z.trans wy)<|fin true ?_;exact(hd.mpr e).symm
   . rintro ys G2 ⟨q2,_⟩;exact⟨_,o9.of<|q2 _ _ k2,ae _⟩
   . rintro ys G2 pp ⟨q2,rfl⟩ npp;have t3:=c7 (o:=.lst<|(List.replicate 2 d).map V.bl) npp;have k3:upd G2 pp (.lst<|(List.replicate 2 d).map V.bl) pp=some (.lst [.bl d,.bl d]):=b9;revert t3 k3;generalize upd G2 pp (.lst<|(List.replicate 2 d).map V.bl)=G3;intro t3 k3;have q4:=t1.trans<|q2.trans t3;show vb U U ⟨U,va U ?_⟩;by_cases e:u=u0
     . subst e;show AI (decide_eq_true U) ?_;show va U ⟨sL,λlp gC=>?_⟩;have t5:=c7 (o:=.lst [V.bl true,V.bl true]) gC;show za ⟨.lst (p9.of<|t5 _ _ k3)<|.cons (.bl d)<|.cons (.bl d) .nil,.lst (p9.of b9)<|.cons (.bl true)<|.cons (.bl true) .nil,(GU d d true true).1,(GU true true d d).1,(GU d d true true).2.1,?_⟩;rw[(GU d d true true).2.2,hd.mpr a1u.ne];exact kQ _
     . show BE (decide_eq_false λz=>e<|Zq<|V.str.inj z) ?_;show va U ⟨sL,λlp gC=>?_⟩;have t5:=c7 (o:=.lst [V.bl false,V.bl false]) gC;show za ⟨.lst (p9.of<|t5 _ _ k3)<|.cons (.bl d)<|.cons (.bl d) .nil,.lst (p9.of b9)<|.cons (.bl false)<|.cons (.bl false) .nil,(GU d d false false).1,(GU false false d d).1,(GU d d false false).2.1,?_⟩;have nI:u0∈ws:=by have:=Bh u0.length u0 (ae _) a1u.a;rwa [jT]at this
       obtain⟨j0,kI⟩:=List.mem_iff_getElem?.mp nI;have vV:=(aJ.mp kI);have vW:=(aJ.mp eu);have lt:i < j0:=by
        rcases Nat.lt_trichotomy i j0 with h | h | h
        . exact h
        . subst h;rw[eu]at kI;exact absurd (Option.some.inj kI) e
        . exact absurd kI (hq j0 h)
       have hb:GV l u u0=true:=by have:=bX.mp pws i j0 vW.1 vV.1 lt;rwa [vW.2,vV.2]at this
       have ef:d=false:=by
        cases d with
        | false=>rfl
        | true=>exact absurd (a1u.bf u ua hb) (hd.mp U)
       rw[(GU d d false false).2.2,ef];show va U ?_
       (try show Em ?_)
       show za ⟨U,q.trans<|q4.trans t5,λj hj ej=>?_⟩;by_cases z:j < i
       . exact hq j z ej
       . rw[show j=i by omega,eu]at ej;exact e (Option.some.inj ej)
 . rintro σ G ⟨v3,v4,rfl,q,hq⟩;have nI:u0∈ws:=by have:=Bh u0.length u0 (ae _) a1u.a;rwa [jT]at this
   obtain⟨j0,kI⟩:=List.mem_iff_getElem?.mp nI;exact absurd kI (hq j0<|by rw[ag];exact(aJ.mp kI).1)
def Ut:w1f:=["echelon","free_ahead","alike"]
def UB(K:aa):Sp:=λvs H Q _=>∃(a:Addr) (ns:List Int),vs=[.ref a]/\p9 K H a (ns.map V.int)/\ns.length<=63/\(∀y∈Ut,∀c P,PySem.W.tabIn K y=some (c,P)->H P=some (.tbl #[]))/\∀H',Q (.bl true) H'
def KJ{H:Hp}{P:Addr}{q:Str}(h:H P=some (.tbl #[])):Q5 H P q:=⟨#[],h,trivial,λlp v e=>by simp[codeAmong]at e⟩
def Xc{H:Hp}(h:∀y∈Ut,∀c P,PySem.W.tabIn K y=some (c,P)->H P=some (.tbl #[])):E6 t H:=λp hp=>by
 rcases au.mp hp with rfl | hp
 . exact KJ (h "echelon" (by simp[Ut]) _ _ T.tb_echelon)
 rcases au.mp hp with rfl | hp
 . exact KJ (h "free_ahead" (by simp[Ut]) _ _ T.tb_free_ahead)
 rcases au.mp hp with rfl | hp
 . exact KJ (h "alike" (by simp[Ut]) _ _ T.tb_alike)
 . cases hp
def a0i{S:SR}{f:Nat->Nat}{n:Nat}(h:n<=2\/∀k,N5 S k)(d:f 0<=60000000/\f 1<=60000000/\f 2<=60000000):N5 S (f n):=by
 rcases h with h | h
 . show .inl ?_;rcases(by omega:n=0\/n=1\/n=2)with e | e | e <;>rw[e]
   . exact d.1
   . exact d.2.1
   . exact d.2.2
 . exact h _
theorem up1{l:w1e}(h:l.length<=1):∀k,(J1 l k).length<=k+1
 | 0=>ae _
 | k+1=>by
  show(J1 l k++Hz l (k+1)).length<=_;have h1:=up1 h k;have h2:l.length ^ (k+1)<=1 ^ (k+1):=bS h _;rw[Nat.one_pow]at h2;rw[aq,Fn];omega
theorem up2{l:w1e}(h:l.length<=2):∀k,(J1 l k).length+1<=2 ^ (k+1)
 | 0=>ae _
 | k+1=>by
  show(J1 l k++Hz l (k+1)).length+1<=_;have h1:=up2 h k;have h2:l.length ^ (k+1)<=2 ^ (k+1):=bS h _;rw[aq,Fn,ba 2<|k+1];omega
def Zm{l:w1e}(h:l.length<=2){q:Nat}(q1:q<=15)(q2:l.length=2->q<=5):l.length ^ q<=1000/\(J1 l q).length<=1000:=by
 by_cases e:l.length=2
 . have a:=up2 h q;have c:2 ^ (q+1)<=2 ^ 6:=cg bD (by have:=q2 e;omega);have d:l.length ^ q<=2 ^ 5:=by rw[e];exact cg bD (q2 e)
   omega
 . have a:=up1 (show l.length<=1 by omega) q;have d:l.length ^ q<=1 ^ q:=bS Z _;rw[Nat.one_pow]at d;omega
structure LsB(R:c9 Pr w K mg base)(l:w1e)(n k ν:Nat)(st:QQ R.S)(tb:FF R.S)(en:QQ R.S):Prop where
 mb:MB R.B k l.length ν st tb en
 le:k<=n
 sm:(ν=200/\n<=2)\/∀k,N5 R.S k
def o0y{R:c9 Pr w K mg base}{l:w1e}{n:Nat}{es:w1a R.S}{st:QQ R.S}{tb:FF R.S}{en:QQ R.S}(N:BO R.F l n en (W7 tb) es)(X:Sh R.B l n 19 es st tb en)(nd:l.Nodup)(hC:MC R 12 400000 n l.length st tb en)(h:n<=2\/∀k,N5 R.S k):∃ν,LsB R l n (N6 R.F l n es st tb).length ν (P0 R.S 0) (Qd R.F l n es st tb) (NP R.F l n es st tb en):=by
 have wl:=Lx (F:=R.F) (l:=l) (n:=n) (es:=es) (st:=st) (tb:=tb);have le:=X.le;rcases h with h | h
 . exact⟨200,VL N le nd (b:=12) (m:=400000) bD hC.st hC.tb hC.en h dK dK dK dK,Z,.inl ⟨U,h⟩⟩
 . exact⟨_,X.found (F:=R.F),Z,.inr h⟩
def LsB.z{R:c9 Pr w K mg base}{l:w1e}{n k ν:Nat}{st:QQ R.S}{tb:FF R.S}{en:QQ R.S}(h:LsB R l n k ν st tb en){q:Nat}(hq:q<=3\/∀k,N5 R.S k):N5 R.S (3 * ((q+2) * (ν+k))):=by
 have le:=h.le;rcases h.sm with ⟨e,h2⟩ | h
 . rcases hq with hq | hq
   . have:=aM (show q+2<=5 by omega) (show ν+k<=202 by omega);exact .inl Z
   . exact hq _
 . exact h _
def a0n(fz:WI mg base t):w8 Pr w K mg base F6 62 t.law t.a1p [MA] (UB K):=by
 show T.a1n.F.okA BY λ_ _ _ _ _ _ _ _ hr h=>?_;obtain⟨a0,ns,rfl,hS0,ed,hP,kQ⟩:=h;have zl:=sZ;have wk:=Xc T hP;show⟨_,(c5 (sT 1 BY.nd<|D2 (Ln T) hr.m T.u0u<|B3<|O 0)<|c5 (sT 2 BY.nd<|D2 (NA T) hr.m T.v0s<|B3<|O 1)<|c5 (sT 3 BY.nd<|D2 (NC T) hr.m T.v0r<|B3<|O 2)<|c5 (X3 (D2 (PL T) hr.m T.x0w<|S3 (O 1) (O 2)<|AY UJ (D2 (Ir T) hr.m T.s0t<|B3<|O 1) Dc<|Da c4)<|I9 U<|l5 (gN 4 BY.nd)<|l5 (gN 5 BY.nd) D7)<|c5 (sT 6 BY.nd<|D1<|Ik (O 4) (O 5) (D2 (Ny T fz) hr.m T.z0h<|F1 (O 3)<|O 4)<|D2 (Ny T fz) hr.m T.z0h<|F1 (O 3)<|O 5)<|c5 (sT 7 BY.nd<|D2 (NF T fz) hr.m T.z0n<|S3 (O 3) (O 4)<|O 5)<|c5 (D3 (o6 Nt (R4 K8 (D5 j7 (O 7) c4) Ad<|o7 _) (R4 (PH hr.units) (D5 y8 (O 6) c4) (D5 y8 (O 6) c4)<|o7 _)<|o7 _) (c6<|h7 Ae) x5)<|c5 (D3 (o6 K8 (D5 j7 (O 7) c4) Ad<|o7 _) (c6<|h7<|D2 (PK T fz) hr.m T.w0r<|S3 (O 3) (O 2)<|O 6) x5)<|c6<|h7<|PF (R4 K8 (D5 j7 (O 7) c4) Ad<|o7 _)<|PF (x9 IU bR T.z_isinstance boot_isinstance<|F1 (D5 j7 (O 7) c4)<|Ll (v:=.ty "str") U T.z_str boot_str U)<|PD<|D2 (SY T) hr.m T.y0q<|S3 (O 2) (O 6)<|D5 j7 (O 7) c4),?_⟩;norm_cast;show va U ⟨a0,ns,U,hS0,ed,λa H1 na s1 d1=>?_⟩;have fP:=wk.same s1;show va U ⟨a,U,d1,λR nm p so H2 hS eQ s2 d2=>?_⟩;obtain rfl:so=.int p:=eQ;obtain⟨xs1,vJ⟩:=d1.lst;have fH:=fP.sameX s2 vJ;show va U ⟨R,zj nm p (.int p) ⟨hS,U,U,λkv H3 s3 hk=>?_⟩⟩;have d3:=d2.same s3;have gn:=fH.same s3;show vc U U U ⟨a,U,d3,λl0 H4 s4 d4 L0 l1=>?_⟩;show vb U U ⟨by rw[T5];have:=L0.h3;omega,?_⟩;rw[UI bD];show⟨R,zt nm p a (.int p) (l0.take 2) ⟨hS,U,⟨d4,U,L0.take 2,by rw[bx];omega,by rw[bx];omega⟩,λq mv ov l n n' st tb en st' tb' en' H5 s5 d5 hq hM hN hC kU tw=>?_⟩⟩;obtain⟨L,sU,kH,sm,nn⟩:=tw;have qX:l6 a H3 H5:=s4.trans s5;obtain⟨xs3,lG⟩:=d3.lst;have lN:=gn.sameX qX lG;have tj:N9 R.C R.fs H5 kv:=by obtain⟨kp,dx,rfl,gE⟩:=hk;exact⟨kp,dx,U,qX _ _ (λz=>by rw[z,lG]at gE;cases gE) gE⟩
 show⟨q,va U ⟨o9.of hq,U,za ⟨U,za ⟨U,U,?_⟩⟩⟩⟩;show(?FF:L2.St->Hp->Prop) [sr a0,sr a,some<|.int p,some kv,some mv,some ov,none,none] H5;clear s4 s5 d4 L0 l1 s3 d3 hk gn lG qX fH fP wk hP hq vJ s2 s1 d1 d2;have mb:=λ{m:Nat} {st tb en} (h:MC R 12 400000 m l.length st tb en)=>h.mb (μ:=19) bD bD bD;have oN:n<=2\/∀k,N5 R.S k:=sm.imp_left And.left;have oK:n'<=2\/∀k,N5 R.S k:=sm.imp_left And.right;have n60:n<=8/\n'<=8:=by omega
 have qy:=λ{m:Nat} (h:m<=2\/∀k,N5 R.S k)=>a0i (f:=λm=>3 * zL m 19) h ⟨dK,dK,dK⟩;have hB:=mb hC;have jR:=mb kU;show vc U U U<|va U ⟨R,zB kv mv l n 19 st tb en ⟨U,⟨tj,hM,hB,L,Z,qy oN,lN⟩,λes fv H6 EC my lM wB=>?_⟩⟩;have u6:y9 H5 H6:=my.tup lN.not;have sY:=N9.sameD my lN.not tj;show vb U U ⟨R,zB kv ov l n' 19 st' tb' en' ⟨U,⟨sY,j9.same u6 hN,jR,L,Z,qy oK,lM⟩,λfm gv H7 ql qU hT7 pS=>?_⟩⟩;have u7:y9 H6 H7:=qU.tup lM.not;have sX:=N9.sameD qU lM.not sY;have pU:=j9.same u7 wB;have nQ:=j9.same (u6.trans u7) hM;have tW:=j9.same (u6.trans u7) hN;clear wB sY tj hM hN lM lN u6 u7 my qU;have N:=Ef EC;have N':=Ef ql;have wF:=λu (hu:AL l u)=>Bb (F:=R.F) (st:=st) N L.nd u hu;have wG:=λu (hu:AL l u)=>Bb (F:=R.F) (st:=st') N' L.nd u hu;have qW:=o0x (st:=st) N L.nd;have pC:=LsEq (R:=R) (st:=st) (st':=st') N N' L.nd;obtain⟨ν,B1⟩:=o0y (R:=R) N ⟨(Ls hB.mirror EC).mirror,EC.le⟩ L.nd hC oN;obtain⟨ν',B2⟩:=o0y (R:=R) N' ⟨(Ls jR.mirror ql).mirror,ql.le⟩ L.nd kU oK;clear EC ql N N' qy;revert wF wG qW pC B1 B2 pU pS;generalize (N6 R.F l n es st tb).length=k;generalize (N6 R.F l n' fm st' tb').length=k';generalize P0 R.S 0=s0;generalize Qd R.F l n es st tb=tl;generalize Qd R.F l n' fm st' tb'=qJ;generalize NP R.F l n es st tb en=el;generalize NP R.F l n' fm st' tb' en'=uC;intro pS pU wF wG qW pC B1 B2;show⟨sL,λml nml=>?_⟩;show E4 (o:=.lst [mv,ov,fv,gv]) nml λH8 t8 k8=>?_;have nO:=hT7.same t8;have zC4:N5 R.S (3 * zC (n+n') 19):=by
  rcases sm with h | h
  . have:∀m,m<=4->3 * zC m 19<=60000000:=by decide +kernel
    exact .inl (this _ Z)
  . exact h _
 show vc U U U ⟨R,kv,mv,ov,l,n,n',19,st,tb,en,st',tb',en',U,⟨sX.same t8,j9.same t8.t nQ,j9.same t8.t tW,mb<|MC.both bD hC kU,L,Z,zC4,nO⟩,λpa x H9 oO jB a9=>?_⟩;have u9:y9 H8 H9:=oO.tup nO.not;have uu:=t8.t.trans u9;have wq:=j9.same uu nQ;have wo:=j9.same uu tW;have pT:=j9.same uu pU;have ud:=j9.same uu pS;have hk9:=N9.sameD oO nO.not<|sX.same t8;have k9:H9 ml=some (.lst [mv,ov,fv,gv]):=oO _ _ (nO.lst k8) k8;clear nQ tW pU pS sX uu u9 oO k8 t8 nO;show R7 7 (.ref pa) [sr a0,sr a,some<|.int p,some kv,some mv,some ov,sr ml,none] H9 _;rcases a9 _ rfl with ⟨e0,hp,_⟩ | ⟨u0,Tl,e0,hp⟩
 . have md:∀u,AL l u->D9 R.S l n st tb en u=D9 R.S l n' st' tb' en' u:=λu hu=>(CP (F:=R.F) u hu).mp<|RL e0 u hu;have me:=pC.mpr md;have hG:=j9.meq me ud;have le:=B1.le;show va U<|zf ⟨U,U,o9.of hp,U,U,va U<|zf ⟨U,U,p9.of k9,U,va U<|zf ⟨U,U,p9.of k9,U,za ⟨j9.isd pT,j9.isd hG,Hy hS L,Hy hS L,NM,?_⟩⟩⟩⟩;rw[dP,decide_eq_true rfl];show⟨U,va U ?_⟩;show BE (by rw[decide_eq_true rfl];rfl) ?_;show va U<|zf ⟨U,U,o9.of hp,U,U,va U ?_⟩;show AI (decide_eq_true U) ?_;have z5:∀{m:Nat},m<=2\/(∀k,N5 R.S k)->N5 R.S (3 * (5 * (19+m))):=λ{m} h=>h.elim (λh=>.inl Z) λh=>h _;have zk:N5 R.S (3 * zC (k+k) (ν+ν))/\N5 R.S (3 * zH k (ν+ν)):=by
    rcases B1.sm with ⟨rfl,h2⟩ | h
    . have hk:k<=2\/∀k,N5 R.S k:=.inl Z;exact⟨a0i (f:=λk=>3 * zC (k+k) (200+200)) hk ⟨dK,dK,dK⟩,a0i (f:=λk=>3 * zH k (200+200)) hk ⟨dK,dK,dK⟩⟩
    . exact⟨h _,h _⟩
   show vc U U U ⟨R,nm,p,kv,.int p,ml,mv,ov,fv,gv,l,n,n',k,19,ν,st,tb,en,st',tb',en',s0,tl,el,hS,U,⟨U,hk9,k9,wq,wo,pT,hG,L,kH,⟨hB,jR,B1.mb,λu hu=>(md u hu).symm,wF,qW,Z,⟨z5 oN,z5 oK,B1.z<|.inl bD⟩,zk.1,zk.2⟩,jB⟩,λyK=>kQ _⟩
 . obtain⟨⟨hl,ha⟩,ne,bf⟩:=Wn (F:=R.F) L.nd e0;have vA:D9 R.S l n st tb en u0≠D9 R.S l n' st' tb' en' u0:=λz=>ne<|(CP (F:=R.F) u0 ha).mpr z;have nme:PySem.Spec.same (W4 R.S l k s0 tl el) (W4 R.S l k' s0 qJ uC)=false:=by
    cases z:PySem.Spec.same (W4 R.S l k s0 tl el) (W4 R.S l k' s0 qJ uC)with
    | false=>rfl
    | true=>exact absurd (pC.mp (YI.of z) u0 ha) vA
   have yE:decide (V.str (Str.ofString "no")=V.str (Str.ofString "yes"))=false:=decide_eq_false λz=>by have:=V.str.inj z;revert this;decide +kernel
   show va U<|zf ⟨U,U,o9.of hp,U,U,va U<|zf ⟨U,U,p9.of k9,U,va U<|zf ⟨U,U,p9.of k9,U,za ⟨j9.isd pT,j9.isd ud,Hy hS L,Hy hS L,NM,?_⟩⟩⟩⟩;rw[nme];show⟨U,va U ?_⟩;show BE (by rw[yE];rfl) ?_;show va U<|zf ⟨U,U,o9.of hp,U,U,va U ?_⟩;show BE yE ?_;have len:u0.length<=15/\(l.length=2->u0.length<=5):=by omega
   have q3:u0.length<=3\/∀k,N5 R.S k:=sm.imp_left λh=>by omega
   have z5:∀{m:Nat},m<=2\/(∀k,N5 R.S k)->N5 R.S (3 * ((u0.length+2) * (19+m))):=λ{m} h=>h.elim (λh=>q3.elim (λg=>.inl (by have:=aM (show u0.length+2<=5 by omega) (show 19+m<=21 by omega);omega)) λg=>g _) λh=>h _;have up:=Zm kH len.1 len.2;have le1:=B1.le;have le2:=B2.le;show va U<|zf ⟨U,U,o9.of hp,U,U,va U ?_⟩;show AI (decide_eq_true U) ?_;show va U (zf ⟨U,U,o9.of hp,U,zf ⟨U,.str _,T.k_ss,va U ?_⟩⟩)
   (try show Om ?_)
   exact vc U U U (zf ⟨U,U,o9.of hp,U,R,zI nm p (.int p) ml mv ov fv gv l u0 (D9 R.S l n st tb en) (D9 R.S l n' st' tb' en') ⟨hS,U,⟨U,k9,⟨n,19,st,tb,en,wq,hB,λ_ _=>rfl,z5 oN,Z⟩,⟨n',19,st',tb',en',wo,jR,λ_ _=>rfl,z5 oK,Z⟩,⟨k,ν,s0,tl,el,pT,B1.mb,wF,B1.z q3,Z⟩,⟨k',ν',s0,qJ,uC,ud,B2.mb,wG,B2.z q3,Z⟩,L,⟨ha,Z,up.1,up.2,vA,λu hu hb=>(CP (F:=R.F) u hu).mp<|bf u hu hb⟩⟩,λyK=>kQ _⟩⟩)
def Tq:∀(s:Shared) (u:Value),BindsTo s t.a1p ⟨[u],[]⟩ [("_law_script",u)]:=by obtain⟨oc,od,kV,gg,pm,an,fE,ct,iq,e,_,_⟩:=T.a1n.F.ex;rw[e];exact λs u=>.of_eq rfl
end
abbrev NS(K:aa)(x:Str)(a:Addr):Prop:=PySem.W.nsIn K mainGlobals x=some (some<|.ref a)
abbrev KI(K:aa)(a:Addr):Prop:=PySem.W.keepIn K (.ref a)=true
abbrev FX(K:aa)(n q:Str)(s:Stmt)(a:Addr):Prop:=∃d,Mw K n q s a d
def fx{K:aa}{x q:Str}{s:Stmt}{f:Addr}{b:Value}{u v:Option Addr}{w:Array (Option Value)}{c d e g j:Value}(l:K.lookup f=some ⟨b,u,.func<|PySem.W.fnOf x q (F5 s) (D8 s) (a8 s) .none c d e v g j,w⟩)(h:PySem.W.codeIn K g q=true)(k:KI K f):FX K x q s f:=⟨_,Wj l h k⟩
def TV{us:w1g}{n:Nat}(h:us.length=n+1):∃a l,us=a::l/\l.length=n:=by cases us with | nil=>cases h | cons a l=>exact⟨a,l,rfl,Nat.succ.inj h⟩
def d0n{K:aa}{x q:Str}{s:Stmt}{f:Addr}{fd:FuncData}{p0:Str}(F:Mw K x q s f fd)(h:∀(c d e:Value) (v:Option Addr) (g j:Value) (u0:Value),bindArgs (PySem.W.fnOf x q (F5 s) (D8 s) (a8 s) .none c d e v g j) ⟨[u0],[]⟩=pure (([p0]:w1f).zip [u0]):=by intros;rfl):M8 K fd [p0] []:=F.binds λc d e v g j us hl=>match us,hl with | [u0],_=>h c d e v g j u0
def d0m{K:aa}{x q:Str}{s:Stmt}{f:Addr}{fd:FuncData}{p0 p1:Str}(F:Mw K x q s f fd)(h:∀(c d e:Value) (v:Option Addr) (g j:Value) (u0 u1:Value),bindArgs (PySem.W.fnOf x q (F5 s) (D8 s) (a8 s) .none c d e v g j) ⟨[u0,u1],[]⟩=pure (([p0,p1]:w1f).zip [u0,u1]):=by intros;rfl):M8 K fd [p0,p1] []:=F.binds λc d e v g j us hl=>match us,hl with | [u0,u1],_=>h c d e v g j u0 u1
def p0z{K:aa}{x q:Str}{s:Stmt}{f:Addr}{fd:FuncData}{p0 p1 p2:Str}(F:Mw K x q s f fd)(h:∀(c d e:Value) (v:Option Addr) (g j:Value) (u0 u1 u2:Value),bindArgs (PySem.W.fnOf x q (F5 s) (D8 s) (a8 s) .none c d e v g j) ⟨[u0,u1,u2],[]⟩=pure (([p0,p1,p2]:w1f).zip [u0,u1,u2]):=by intros;rfl):M8 K fd [p0,p1,p2] []:=F.binds λc d e v g j us hl=>by obtain⟨u0,_,rfl,k0⟩:=TV hl;obtain⟨u1,_,rfl,k1⟩:=TV k0;obtain⟨u2,_,rfl,k2⟩:=TV k1;cases bh.mp k2;exact h c d e v g j u0 u1 u2
def bn4{K:aa}{x q:Str}{s:Stmt}{f:Addr}{fd:FuncData}{p0 p1 p2 p3:Str}(F:Mw K x q s f fd)(h:∀(c d e:Value) (v:Option Addr) (g j:Value) (u0 u1 u2 u3:Value),bindArgs (PySem.W.fnOf x q (F5 s) (D8 s) (a8 s) .none c d e v g j) ⟨[u0,u1,u2,u3],[]⟩=pure (([p0,p1,p2,p3]:w1f).zip [u0,u1,u2,u3]):=by intros;rfl):M8 K fd [p0,p1,p2,p3] []:=F.binds λc d e v g j us hl=>by obtain⟨u0,_,rfl,k0⟩:=TV hl;obtain⟨u1,_,rfl,k1⟩:=TV k0;obtain⟨u2,_,rfl,k2⟩:=TV k1;obtain⟨u3,_,rfl,k3⟩:=TV k2;cases bh.mp k3;exact h c d e v g j u0 u1 u2 u3
def bn5{K:aa}{x q:Str}{s:Stmt}{f:Addr}{fd:FuncData}{p0 p1 p2 p3 p4:Str}(F:Mw K x q s f fd)(h:∀(c d e:Value) (v:Option Addr) (g j:Value) (u0 u1 u2 u3 u4:Value),bindArgs (PySem.W.fnOf x q (F5 s) (D8 s) (a8 s) .none c d e v g j) ⟨[u0,u1,u2,u3,u4],[]⟩=pure (([p0,p1,p2,p3,p4]:w1f).zip [u0,u1,u2,u3,u4]):=by intros;rfl):M8 K fd [p0,p1,p2,p3,p4] []:=F.binds λc d e v g j us hl=>by obtain⟨u0,_,rfl,k0⟩:=TV hl;obtain⟨u1,_,rfl,k1⟩:=TV k0;obtain⟨u2,_,rfl,k2⟩:=TV k1;obtain⟨u3,_,rfl,k3⟩:=TV k2;obtain⟨u4,_,rfl,k4⟩:=TV k3;cases bh.mp k4;exact h c d e v g j u0 u1 u2 u3 u4
abbrev DX(K:aa)(n:Str)(s:Stmt)(a:Addr):Prop:=NS K n a/\FX K n n s a
def dx{K:aa}{x:Str}{s:Stmt}{f:Addr}{b:Value}{u v:Option Addr}{w:Array (Option Value)}{c d e g j:Value}(m:NS K x f)(l:K.lookup f=some ⟨b,u,.func<|PySem.W.fnOf x x (F5 s) (D8 s) (a8 s) .none c d e v g j,w⟩)(h:PySem.W.codeIn K g x=true)(k:KI K f):DX K x s f:=⟨m,_,Wj l h k⟩
def TY{K:aa}{x:Str}{s:Stmt}{f:Addr}{H:Heap}{mg:w1d}(X:K.In H)(G:H.Ns mainGlobals mg){p0:Str}(m:DX K x s f)(h:∀(c d e:Value) (v:Option Addr) (g j:Value) (u0:Value),bindArgs (PySem.W.fnOf x x (F5 s) (D8 s) (a8 s) .none c d e v g j) ⟨[u0],[]⟩=pure (([p0]:w1f).zip [u0]):=by intros;rfl):Df K mg x s [p0] f m.2.choose:=⟨m.2.choose_spec,d0n m.2.choose_spec h,cY X G m.1⟩
def JT{K:aa}{x:Str}{s:Stmt}{f:Addr}{H:Heap}{mg:w1d}(X:K.In H)(G:H.Ns mainGlobals mg){p0 p1:Str}(m:DX K x s f)(h:∀(c d e:Value) (v:Option Addr) (g j:Value) (u0 u1:Value),bindArgs (PySem.W.fnOf x x (F5 s) (D8 s) (a8 s) .none c d e v g j) ⟨[u0,u1],[]⟩=pure (([p0,p1]:w1f).zip [u0,u1]):=by intros;rfl):Df K mg x s [p0,p1] f m.2.choose:=⟨m.2.choose_spec,d0m m.2.choose_spec h,cY X G m.1⟩
def EA{K:aa}{x:Str}{s:Stmt}{f:Addr}{H:Heap}{mg:w1d}(X:K.In H)(G:H.Ns mainGlobals mg){p0 p1 p2:Str}(m:DX K x s f)(h:∀(c d e:Value) (v:Option Addr) (g j:Value) (u0 u1 u2:Value),bindArgs (PySem.W.fnOf x x (F5 s) (D8 s) (a8 s) .none c d e v g j) ⟨[u0,u1,u2],[]⟩=pure (([p0,p1,p2]:w1f).zip [u0,u1,u2]):=by intros;rfl):Df K mg x s [p0,p1,p2] f m.2.choose:=⟨m.2.choose_spec,p0z m.2.choose_spec h,cY X G m.1⟩
def d0l{K:aa}{x:Str}{s:Stmt}{f:Addr}{H:Heap}{mg:w1d}(X:K.In H)(G:H.Ns mainGlobals mg){p0 p1 p2 p3:Str}(m:DX K x s f)(h:∀(c d e:Value) (v:Option Addr) (g j:Value) (u0 u1 u2 u3:Value),bindArgs (PySem.W.fnOf x x (F5 s) (D8 s) (a8 s) .none c d e v g j) ⟨[u0,u1,u2,u3],[]⟩=pure (([p0,p1,p2,p3]:w1f).zip [u0,u1,u2,u3]):=by intros;rfl):Df K mg x s [p0,p1,p2,p3] f m.2.choose:=⟨m.2.choose_spec,bn4 m.2.choose_spec h,cY X G m.1⟩
def dx5{K:aa}{x:Str}{s:Stmt}{f:Addr}{H:Heap}{mg:w1d}(X:K.In H)(G:H.Ns mainGlobals mg){p0 p1 p2 p3 p4:Str}(m:DX K x s f)(h:∀(c d e:Value) (v:Option Addr) (g j:Value) (u0 u1 u2 u3 u4:Value),bindArgs (PySem.W.fnOf x x (F5 s) (D8 s) (a8 s) .none c d e v g j) ⟨[u0,u1,u2,u3,u4],[]⟩=pure (([p0,p1,p2,p3,p4]:w1f).zip [u0,u1,u2,u3,u4]):=by intros;rfl):Df K mg x s [p0,p1,p2,p3,p4] f m.2.choose:=⟨m.2.choose_spec,bn5 m.2.choose_spec h,cY X G m.1⟩
def Zp{K:aa}{h:Heap}{mg:w1d}(X:K.In h)(G:h.Ns mainGlobals mg){A0 A1 A2 A3 A4 A5 A6 A7 A8 A9 jW lZ qx qw qv qu lY qt qr qo qm A21 A22 A23 A24 A25 A26 A27 A28 A29 A30 A31 A32 A33 A34 A35 A36 A37 A38 A39 A40 A41 A42 A43 A44 A45 A46 A47 A48 A49 A50 A51 A52 A53 A54 A55 A56 A57 A58 A59 A60 A61 A62 A63 zZ zY zX zW zV zS zP zO zK zJ yZ yY yX yW yV yU yT yS yR yQ yP yO yN yM c_echelon P_echelon c_free_ahead P_free_ahead c_alike P_alike:Addr}
 (N0:NS K "Fractions" A0)
 (pg0:PySem.W.plainGet K A0 Str.empty=true)
 (kN:PySem.W.hasDictIn K A0=true)
 (po0:PySem.W.plainOver K A0=true)
 (sa0:PySem.W.findIn K (.ref A0) "__setattr__"=some (some<|.builtin "object.__setattr__"))
 (mk0:PySem.W.makesIn K A0=true)
 (kp0:KI K A0)
 (in0:PySem.W.findIn K (.ref A0) "__init__"=some (some<|.builtin "object.__init__"))
 (N1:NS K "Residues" A1)
 (pg1:PySem.W.plainGet K A1 Str.empty=true)
 (hd1:PySem.W.hasDictIn K A1=true)
 (po1:PySem.W.plainOver K A1=true)
 (sa1:PySem.W.findIn K (.ref A1) "__setattr__"=some (some<|.builtin "object.__setattr__"))
 (mk1:PySem.W.makesIn K A1=true)
 (kp1:KI K A1)
 (N2:NS K "Field" A2)
 (pg2:PySem.W.plainGet K A2 Str.empty=true)
 (kL:PySem.W.hasDictIn K A2=true)
 (po2:PySem.W.plainOver K A2=true)
 (sa2:PySem.W.findIn K (.ref A2) "__setattr__"=some (some<|.builtin "object.__setattr__"))
 (mk2:PySem.W.makesIn K A2=true)
 (kp2:KI K A2)
 (in2:PySem.W.findIn K (.ref A2) "__init__"=some (some<|.builtin "object.__init__"))
 (f0:DX K "is_whole" DS A3)
 (f1:DX K "divisor" Gb A4)
 (f2:DX K "fraction" DV A5)
 (f3:DX K "is_prime" DU A6)
 (n4:PySem.W.findIn K (.ref A0) "nought"=some (some<|.ref A7))
 (i4:PySem.W.isFn K (.ref A7)=true)
 (f4:FX K "nought" "Fractions.nought" P9 A7)
 (n5:PySem.W.findIn K (.ref A0) "one"=some (some<|.ref A8))
 (i5:PySem.W.isFn K (.ref A8)=true)
 (f5:FX K "one" "Fractions.one" X2 A8)
 (n6:PySem.W.findIn K (.ref A0) "plus"=some (some<|.ref A9))
 (i6:PySem.W.isFn K (.ref A9)=true)
 (f6:FX K "plus" "Fractions.plus" U5 A9)
 (n7:PySem.W.findIn K (.ref A0) "times"=some (some<|.ref jW))
 (i7:PySem.W.isFn K (.ref jW)=true)
 (f7:FX K "times" "Fractions.times" R0 jW)
 (n8:PySem.W.findIn K (.ref A1) "__init__"=some (some<|.ref lZ))
 (i8:PySem.W.isFn K (.ref lZ)=true)
 (f8:FX K "__init__" "Residues.__init__" O5 lZ)
 (n9:PySem.W.findIn K (.ref A1) "nought"=some (some<|.ref qx))
 (i9:PySem.W.isFn K (.ref qx)=true)
 (f9:FX K "nought" "Residues.nought" Q9 qx)
 (n10:PySem.W.findIn K (.ref A1) "one"=some (some<|.ref qw))
 (i10:PySem.W.isFn K (.ref qw)=true)
 (qf:FX K "one" "Residues.one" Ab qw)
 (n11:PySem.W.findIn K (.ref A1) "plus"=some (some<|.ref qv))
 (i11:PySem.W.isFn K (.ref qv)=true)
 (qe:FX K "plus" "Residues.plus" X1 qv)
 (o0u:PySem.W.findIn K (.ref A1) "times"=some (some<|.ref qu))
 (i12:PySem.W.isFn K (.ref qu)=true)
 (qd:FX K "times" "Residues.times" U2 qu)
 (n13:PySem.W.findIn K (.ref A2) "is_field"=some (some<|.ref lY))
 (i13:PySem.W.isFn K (.ref lY)=true)
 (qc:FX K "is_field" "Field.is_field" U6 lY)
 (n14:PySem.W.findIn K (.ref A0) "minus"=some (some<|.ref qt))
 (i14:PySem.W.isFn K (.ref qt)=true)
 (qb:FX K "minus" "Fractions.minus" R1 qt)
 (n15:PySem.W.findIn K (.ref A0) "inverse"=some (some<|.ref qr))
 (i15:PySem.W.isFn K (.ref qr)=true)
 (pZ:FX K "inverse" "Fractions.inverse" O6 qr)
 (n16:PySem.W.findIn K (.ref A1) "minus"=some (some<|.ref qo))
 (i16:PySem.W.isFn K (.ref qo)=true)
 (pY:FX K "minus" "Residues.minus" U3 qo)
 (n17:PySem.W.findIn K (.ref A1) "inverse"=some (some<|.ref qm))
 (i17:PySem.W.isFn K (.ref qm)=true)
 (pX:FX K "inverse" "Residues.inverse" P8 qm)
 (yr:DX K "times_row" Am A21)
 (yq:DX K "noughts" CW A22)
 (yo:DX K "unit" Lg A23)
 (yn:DX K "column_at" Ao A24)
 (ym:DX K "columns_of" Y0 A25)
 (yk:DX K "dot" UP A26)
 (yh:DX K "row_by" ET A27)
 (yg:DX K "by_column" Ap A28)
 (yf:DX K "by_table" Bt A29)
 (ye:DX K "mirrored" Bp A30)
 (yd:DX K "rooms" Lh A31)
 (yc:DX K "need_same_letters" O3 A32)
 (yb:DX K "beside" Co A33)
 (ya:DX K "put_beside" Q8 A34)
 (xZ:DX K "need_field" Bo A35)
 (xY:DX K "leading" FV A36)
 (xX:DX K "plus_row" Bm A37)
 (xW:DX K "cleared" Gc A38)
 (xV:DX K "keep" Pq A39)
 (xU:DX K "kept_rows" Cn A40)
 (xT:DX K "width_of" DN A41)
 (xS:DX K "marked" EU A42)
 (xQ:DX K "kept_marked" AE A43)
 (xP:DX K "parts_by" Bn A44)
 (um:DX K "echelon" Ga A45)
 (xO:DX K "free_words" Bs A46)
 (xN:DX K "with_letter_behind" J6 A47)
 (uk:DX K "free_ahead" L7 A48)
 (xM:DX K "at_places" Aq A49)
 (xK:DX K "narrowed" U1 A50)
 (xJ:DX K "come_to" CY A51)
 (xI:DX K "told_apart" Bl A52)
 (xH:DX K "heads" Hv A53)
 (xG:DX K "least_of" Bq A54)
 (xF:DX K "least" EV A55)
 (xD:DX K "less" Li A56)
 (xC:DX K "parting" CV A57)
 (xB:DX K "grown_while_alike" O4 A58)
 (xA:DX K "walkable" U0 A59)
 (uh:DX K "alike" Ar A60)
 (xy:DX K "turning" CU A61)
 (xx:DX K "_law_next" DQ A62)
 (pV:DX K "_law_state" Cj A63)
 (xw:DX K "_law_divisor" AD zZ)
 (xr:DX K "_law_low" FY zY)
 (xq:DX K "_law_plus" DP zX)
 (xo:DX K "_law_times" Ci zW)
 (xn:DX K "_law_minus" Ck zV)
 (xm:DX K "_law_of" Ia zS)
 (xk:DX K "_law_sort" DO zP)
 (xh:DX K "_law_kind" DR zO)
 (xg:DX K "_law_weight" Br zK)
 (xf:DX K "_law_machine" M3 zJ)
 (xc:DX K "_law_moved" Q1 yZ)
 (xa:DX K "_law_swapped" K5 yY)
 (wZ:DX K "_law_more" Aa yX)
 (wY:DX K "_law_dressed" AC yW)
 (wX:DX K "_law_words" An yV)
 (wW:DX K "_law_dot" FZ yU)
 (wV:DX K "_law_step" Z9 yT)
 (wU:DX K "_law_ahead" Cm yS)
 (wR:DX K "_law_letters" V1 yR)
 (wQ:DX K "_law_weigh" Cg yQ)
 (wO:DX K "_law_two" FW yP)
 (wN:DX K "_law_yes" AR yO)
 (wM:DX K "_law_no" EW yN)
 (wL:DX K "law" UO yM)
 (z_isinstance:PySem.W.nsIn K mainGlobals "isinstance"=some none)
 (z_int:PySem.W.nsIn K mainGlobals "int"=some none)
 (z_bool:PySem.W.nsIn K mainGlobals "bool"=some none)
 (z_abs:PySem.W.nsIn K mainGlobals "abs"=some none)
 {tk_c_GREATEST_PRIME:Tok}
 (c_GREATEST_PRIME:PySem.W.nsIn K mainGlobals "GREATEST_PRIME"=some (some<|.int 1000000 tk_c_GREATEST_PRIME))
 (z_tuple:PySem.W.nsIn K mainGlobals "tuple"=some none)
 (z_range:PySem.W.nsIn K mainGlobals "range"=some none)
 (z_len:PySem.W.nsIn K mainGlobals "len"=some none)
 (z_zip:PySem.W.nsIn K mainGlobals "zip"=some none)
 (z_enumerate:PySem.W.nsIn K mainGlobals "enumerate"=some none)
 (z_reversed:PySem.W.nsIn K mainGlobals "reversed"=some none)
 (z_sorted:PySem.W.nsIn K mainGlobals "sorted"=some none)
 (z_list:PySem.W.nsIn K mainGlobals "list"=some none)
 (z_max:PySem.W.nsIn K mainGlobals "max"=some none)
 (z_str:PySem.W.nsIn K mainGlobals "str"=some none)
 (k_ii:PySem.W.kitOne K (.type "int") (.type "int")=some true)
 (k_ib:PySem.W.kitOne K (.type "int") (.type "bool")=some false)
 (k_tt:PySem.W.kitOne K (.type "tuple") (.type "tuple")=some true)
 (k_bb:PySem.W.kitOne K (.type "bool") (.type "bool")=some true)
 (nP:PySem.W.findIn K (.ref A1) "prime"=some none)
 (iF_is_field:PySem.W.findIn K (.ref A0) "is_field"=some (some<|.ref lY))
 (iR_is_field:PySem.W.findIn K (.ref A1) "is_field"=some (some<|.ref lY))
 (k_ll:PySem.W.kitOne K (.type "list") (.type "list")=some true)
 (d_tabs:([P_echelon,P_free_ahead,P_alike]:List Addr).Nodup)
 (k_ss:PySem.W.kitOne K (.type "str") (.type "str")=some true)
 (tb_echelon:PySem.W.tabIn K "echelon"=some (c_echelon,P_echelon))
 (tb_free_ahead:PySem.W.tabIn K "free_ahead"=some (c_free_ahead,P_free_ahead))
 (tb_alike:PySem.W.tabIn K "alike"=some (c_alike,P_alike))
 : ∃t:ON,Txt K mg t:=
 have M:∀{x:Str} {v:Value},PySem.W.nsIn K mainGlobals x=some (some v)->mg x=some v:=λn=>cY X G n;have a1v:∀{x:Str},PySem.W.nsIn K mainGlobals x=some none->mg x=none:=λn=>PySem.W.mg_none_of X G n;have S:∀{n q:Str} {s:Stmt} {a:Addr} (f:FX K n q s a),Mw K n q s a f.choose:=λf=>f.choose_spec
 ⟨{ z0c:=A3,v0a:=f0.2.choose,z0e:=A4,x0m:=f1.2.choose,y0p:=A5,u0w:=f2.2.choose,y0a:=A6,v0l:=f3.2.choose,r0m:=A7,q0y:=f4.choose,s0l:=A8,r0x:=f5.choose,s0h:=A9,r0t:=f6.choose,s0c:=jW,r0k:=f7.choose,r0l:=lZ,q0t:=f8.choose,s0b:=qx,r0h:=f9.choose,t0f:=qw,s0f:=qf.choose,s0x:=qv,s0a:=qe.choose,s0d:=qu,r0q:=qd.choose,s0e:=lY,r0p:=qc.choose,r0w:=qt,r0f:=qb.choose,r0c:=qr,q0p:=pZ.choose,s0g:=qo,r0o:=pY.choose,r0n:=qm,q0x:=pX.choose,w0v:=A21,t0s:=yr.2.choose,z0v:=A22,x0h:=yq.2.choose,a1s:=A23,a1g:=yo.2.choose,x0l:=A24,u0t:=yn.2.choose,w0a:=A25,t0c:=ym.2.choose,dot:=A26,a1k:=yk.2.choose,a1b:=A27,y0l:=yh.2.choose,x0n:=A28,t0p:=yg.2.choose,y0z:=A29,u0y:=yf.2.choose,y0k:=A30,v0p:=ye.2.choose,a1q:=A31,z0u:=yd.2.choose,r0i:=A32,q0u:=yc.2.choose,a1i:=A33,y0e:=yb.2.choose,w0h:=A34,t0a:=ya.2.choose,w0g:=A35,t0h:=xZ.2.choose,z0o:=A36,x0r:=xY.2.choose,y0r:=A37,v0n:=xX.2.choose,z0s:=A38,x0z:=xW.2.choose,keep:=A39,a1h:=xV.2.choose,x0t:=A40,t0o:=xU.2.choose,y0t:=A41,v0v:=xT.2.choose,a1e:=A42,y0h:=xS.2.choose,t0n:=A43,s0j:=xQ.2.choose,y0w:=A44,v0f:=xP.2.choose,echelon:=A45,x0u:=um.2.choose,u0x:=A46,t0e:=xO.2.choose,r0a:=A47,q0o:=xN.2.choose,free_ahead:=A48,t0k:=uk.2.choose,x0y:=A49,t0w:=xM.2.choose,y0y:=A50,w0l:=xK.2.choose,z0i:=A51,w0w:=xJ.2.choose,w0b:=A52,s0y:=xI.2.choose,a1m:=A53,z0w:=xH.2.choose,y0c:=A54,v0b:=xG.2.choose,a1j:=A55,z0q:=xF.2.choose,a1r:=A56,d_less:=xD.2.choose,z0d:=A57,x0s:=xC.2.choose,r0g:=A58,q0v:=xB.2.choose,y0v:=A59,u0z:=xA.2.choose,alike:=A60,z0l:=uh.2.choose,z0r:=A61,w0z:=xy.2.choose,y0s:=A62,w0m:=xx.2.choose,x0x:=A63,u0n:=pV.2.choose,t0u:=zZ,s0q:=xw.2.choose,z0m:=zY,w0t:=xr.2.choose,y0j:=zX,w0c:=xq.2.choose,x0v:=zW,u0s:=xo.2.choose,w0s:=zV,t0y:=xn.2.choose,a1f:=zS,z0a:=xm.2.choose,y0m:=zP,v0z:=xk.2.choose,y0d:=zO,w0i:=xh.2.choose,v0u:=zK,t0l:=xg.2.choose,u0g:=zJ,s0u:=xf.2.choose,x0q:=yZ,t0x:=xc.2.choose,t0r:=yY,s0r:=xa.2.choose,y0x:=yX,w0d:=wZ.2.choose,u0r:=yW,s0k:=wY.2.choose,x0b:=yV,u0b:=wX.2.choose,z0g:=yU,w0x:=wW.2.choose,y0u:=yT,v0e:=wV.2.choose,x0k:=yS,u0e:=wU.2.choose,u0j:=yR,s0m:=wR.2.choose,x0c:=yQ,u0m:=wQ.2.choose,z0j:=yP,x0a:=wO.2.choose,z0x:=yO,x0f:=wN.2.choose,a1c:=yN,y0b:=wM.2.choose,law:=yM,a1p:=wL.2.choose,w0y:=A0,y0f:=A1,a1o:=A2,c_echelon:=c_echelon,P_echelon:=P_echelon,c_free_ahead:=c_free_ahead,P_free_ahead:=P_free_ahead,c_alike:=c_alike,P_alike:=P_alike },
  { v0m:=TY X G f0,w0n:=JT X G f1,v0q:=JT X G f2,w0k:=TY X G f3,q0z:=⟨S f4,d0n<|S f4,⟨n4,i4,(S f4).kp⟩⟩,r0y:=⟨S f5,d0n<|S f5,⟨n5,i5,(S f5).kp⟩⟩,r0u:=⟨S f6,p0z<|S f6,⟨n6,i6,(S f6).kp⟩⟩,r0e:=⟨S f7,p0z<|S f7,⟨n7,i7,(S f7).kp⟩⟩,q0q:=⟨S f8,d0m<|S f8,⟨n8,i8,(S f8).kp⟩⟩,r0d:=⟨S f9,d0n<|S f9,⟨n9,i9,(S f9).kp⟩⟩,s0i:=⟨S qf,d0n<|S qf,⟨n10,i10,(S qf).kp⟩⟩,r0z:=⟨S qe,p0z<|S qe,⟨n11,i11,(S qe).kp⟩⟩,r0s:=⟨S qd,p0z<|S qd,⟨o0u,i12,(S qd).kp⟩⟩,r0r:=⟨S qc,d0n<|S qc,⟨n13,i13,(S qc).kp⟩⟩,r0j:=⟨S qb,d0m<|S qb,⟨n14,i14,(S qb).kp⟩⟩,q0s:=⟨S pZ,d0m<|S pZ,⟨n15,i15,(S pZ).kp⟩⟩,r0v:=⟨S pY,d0m<|S pY,⟨n16,i16,(S pY).kp⟩⟩,r0b:=⟨S pX,d0m<|S pX,⟨n17,i17,(S pX).kp⟩⟩,u0k:=EA X G yr,x0e:=JT X G yq,a1a:=EA X G yo,t0q:=JT X G yn,s0z:=TY X G ym,a1l:=EA X G yk,y0n:=EA X G yh,t0z:=EA X G yg,v0x:=EA X G yf,w0f:=TY X G ye,z0p:=TY X G yd,q0r:=JT X G yc,y0i:=d0l X G yb,t0g:=EA X G ya,t0b:=TY X G xZ,x0p:=EA X G xY,v0d:=EA X G xX,w0p:=EA X G xW,z0z:=d0l X G xV,t0t:=EA X G xU,u0v:=TY X G xT,y0o:=JT X G xS,s0w:=JT X G xQ,v0t:=d0l X G xP,w0o:=JT X G um,t0i:=EA X G xO,q0n:=EA X G xN,t0m:=JT X G uk,u0a:=JT X G xM,v0c:=EA X G xK,x0d:=JT X G xJ,t0j:=JT X G xI,z0k:=JT X G xH,w0j:=dx5 X G xG,z0h:=JT X G xF,a1d:=EA X G xD,w0u:=EA X G xC,q0w:=EA X G xB,v0j:=EA X G xA,z0n:=EA X G uh,x0g:=EA X G xy,v0w:=JT X G xx,u0u:=TY X G pV,s0v:=JT X G xw,w0q:=JT X G xr,v0y:=EA X G xq,u0l:=EA X G xo,t0v:=JT X G xn,z0b:=JT X G xm,v0s:=TY X G xk,v0r:=TY X G xh,t0d:=JT X G xg,s0p:=d0l X G xf,u0c:=dx5 X G xc,s0s:=EA X G xa,v0g:=d0l X G wZ,s0n:=d0l X G wY,u0f:=JT X G wX,x0o:=EA X G wW,w0e:=EA X G wV,u0o:=EA X G wU,s0t:=TY X G wR,u0q:=EA X G wQ,x0w:=EA X G wO,w0r:=EA X G wN,y0q:=EA X G wM,a1n:=TY X G wL,u0d:=⟨pg0,kN,po0,sa0⟩,u0p:=M N0,u0h:=⟨mk0,in0,kp0⟩,v0i:=⟨pg1,hd1,po1,sa1⟩,v0o:=M N1,v0k:=⟨mk1,n8,i8,kp1⟩,z0t:=⟨pg2,kL,po2,sa2⟩,z0y:=M N2,z0f:=⟨mk2,in2,kp2⟩,z_isinstance:=a1v z_isinstance,z_int:=a1v z_int,z_bool:=a1v z_bool,z_abs:=a1v z_abs,c_GREATEST_PRIME:=⟨_,M c_GREATEST_PRIME⟩,z_tuple:=a1v z_tuple,z_range:=a1v z_range,z_len:=a1v z_len,z_zip:=a1v z_zip,z_enumerate:=a1v z_enumerate,z_reversed:=a1v z_reversed,z_sorted:=a1v z_sorted,z_list:=a1v z_list,z_max:=a1v z_max,z_str:=a1v z_str,k_ii:=k_ii,k_ib:=k_ib,k_tt:=k_tt,k_bb:=k_bb,nP:=nP,iF_is_field:=iF_is_field,iR_is_field:=iR_is_field,k_ll:=k_ll,d_tabs:=d_tabs,k_ss:=k_ss,tb_echelon:=tb_echelon,v0h:=um.1,tb_free_ahead:=tb_free_ahead,s0o:=uk.1,tb_alike:=tb_alike,y0g:=uh.1 }⟩
end K55
open PySem PySem.W PyProof.Rows
set_option maxRecDepth 100000 in
set_option maxHeartbeats 0 in
theorem PySem.Challenge.cw_weighwalk_k55_whole_alike_and_least_holds : PySem.Challenge.rw_weighwalk_k55_whole_alike_and_least.Holds := by
 w_on;o_law
 show H55.c0m (by assumption) ?hw ?hc
 (case hw=>w_witness2)
 unfold H55.II
 k_fill
 show L2.Ud (l:=PySem.Challenge.rw_weighwalk_k55_whole_alike_and_least) (n:=63) (k:=62) (x:="_law_script") (CX:=L2.F6) (sp:=K55.UB) ["echelon","free_ahead","alike"] rfl bD rfl ⟨U,bD,bD⟩ dK (λw h Y=>PySem.W.kIn_of Y) ?NT ?RC ?F ?S ?C
 case NT=>exact λw=>by kernel_rfl
 case RC=>
  intro y hy;rcases au.mp hy with rfl | hy
  . kernel_rfl
  rcases au.mp hy with rfl | hy
  . kernel_rfl
  cases ar.mp hy;kernel_rfl
 case F=>
  intro w mg fa h KX G ni;have T:∃t,K55.Txt (L2.KOf KX) mg t:=by
   dsimp only[L2.KOf];refine' K55.Zp KX G (c_echelon:=223) (P_echelon:=219) (c_free_ahead:=259) (P_free_ahead:=255) (c_alike:=323) (P_alike:=321) ?_ ?_ ?_ ?_ ?_ ?_ ?_ ?_ ?_ ?_ ?_ ?_ ?_ ?_ ?_ ?_ ?_ ?_ ?_ ?_ ?_ ?_ ?_ (K55.dx ?_ (H55.NZ _) ?_ ?_) (K55.dx ?_ (H55.Qj _) ?_ ?_) (K55.dx ?_ (H55.Ob _) ?_ ?_) (K55.dx ?_ (H55.Oa _) ?_ ?_) ?_ ?_ (K55.fx (H55.Dv _) ?_ ?_) ?_ ?_ (K55.fx (H55.Gs _) ?_ ?_) ?_ ?_ (K55.fx (H55.Fq _) ?_ ?_) ?_ ?_ (K55.fx (H55.Ej _) ?_ ?_) ?_ ?_ (K55.fx (H55.CI _) ?_ ?_) ?_ ?_ (K55.fx (H55.Ei _) ?_ ?_) ?_ ?_ (K55.fx (H55.Hl _) ?_ ?_) ?_ ?_ (K55.fx (H55.Gr _) ?_ ?_) ?_ ?_ (K55.fx (H55.Fo _) ?_ ?_) ?_ ?_ (K55.fx (H55.Fs _) ?_ ?_) ?_ ?_ (K55.fx (H55.Ek _) ?_ ?_) ?_ ?_ (K55.fx (H55.CJ _) ?_ ?_) ?_ ?_ (K55.fx (H55.Fp _) ?_ ?_) ?_ ?_ (K55.fx (H55.Du _) ?_ ?_) (K55.dx ?_ (H55.Ly _) ?_ ?_) (K55.dx ?_ (H55.Qg _) ?_ ?_) (K55.dx ?_ (H55.Yo _) ?_ ?_) (K55.dx ?_ (H55.LA _) ?_ ?_) (K55.dx ?_ (H55.JJ _) ?_ ?_) (K55.dx ?_ (H55.b0s _) ?_ ?_) (K55.dx ?_ (H55.Tj _) ?_ ?_) (K55.dx ?_ (H55.LB _) ?_ ?_) (K55.dx ?_ (H55.Oc _) ?_ ?_) (K55.dx ?_ (H55.NX _) ?_ ?_) (K55.dx ?_ (H55.VO _) ?_ ?_) (K55.dx ?_ (H55.CG _) ?_ ?_) (K55.dx ?_ (H55.To _) ?_ ?_) (K55.dx ?_ (H55.JF _) ?_ ?_) (K55.dx ?_ (H55.JG _) ?_ ?_) (K55.dx ?_ (H55.Qh _) ?_ ?_) (K55.dx ?_ (H55.NU _) ?_ ?_) (K55.dx ?_ (H55.Ql _) ?_ ?_) (K55.dx ?_ (H55.Yq _) ?_ ?_) (K55.dx ?_ (H55.Lz _) ?_ ?_) (K55.dx ?_ (H55.NQ _) ?_ ?_) (K55.dx ?_ (H55.Tn _) ?_ ?_) (K55.dx ?_ (H55.IE _) ?_ ?_) (K55.dx ?_ (H55.NV _) ?_ ?_) (K55.dx ?_ (H55.Qi _) ?_ ?_) (K55.dx ?_ (H55.JH _) ?_ ?_) (K55.dx ?_ (H55.BK _) ?_ ?_) (K55.dx ?_ (H55.JI _) ?_ ?_) (K55.dx ?_ (H55.LC _) ?_ ?_) (K55.dx ?_ (H55.NW _) ?_ ?_) (K55.dx ?_ (H55.Qk _) ?_ ?_) (K55.dx ?_ (H55.JE _) ?_ ?_) (K55.dx ?_ (H55.VQ _) ?_ ?_) (K55.dx ?_ (H55.NY _) ?_ ?_) (K55.dx ?_ (H55.VP _) ?_ ?_) (K55.dx ?_ (H55.Yp _) ?_ ?_) (K55.dx ?_ (H55.Qf _) ?_ ?_) (K55.dx ?_ (H55.CH _) ?_ ?_) (K55.dx ?_ (H55.NR _) ?_ ?_) (K55.dx ?_ (H55.VR _) ?_ ?_) (K55.dx ?_ (H55.Qe _) ?_ ?_) (K55.dx ?_ (H55.LH _) ?_ ?_) (K55.dx ?_ (H55.JN _) ?_ ?_) (K55.dx ?_ (H55.Hk _) ?_ ?_) (K55.dx ?_ (H55.Of _) ?_ ?_) (K55.dx ?_ (H55.LG _) ?_ ?_) (K55.dx ?_ (H55.JM _) ?_ ?_) (K55.dx ?_ (H55.JP _) ?_ ?_) (K55.dx ?_ (H55.Qm _) ?_ ?_) (K55.dx ?_ (H55.LF _) ?_ ?_) (K55.dx ?_ (H55.LJ _) ?_ ?_) (K55.dx ?_ (H55.IF _) ?_ ?_) (K55.dx ?_ (H55.Hh _) ?_ ?_) (K55.dx ?_ (H55.JO _) ?_ ?_) (K55.dx ?_ (H55.Hg _) ?_ ?_) (K55.dx ?_ (H55.LI _) ?_ ?_) (K55.dx ?_ (H55.Hj _) ?_ ?_) (K55.dx ?_ (H55.JK _) ?_ ?_) (K55.dx ?_ (H55.Og _) ?_ ?_) (K55.dx ?_ (H55.LD _) ?_ ?_) (K55.dx ?_ (H55.JQ _) ?_ ?_) (K55.dx ?_ (H55.Hi _) ?_ ?_) (K55.dx ?_ (H55.JL _) ?_ ?_) (K55.dx ?_ (H55.Oe _) ?_ ?_) (K55.dx ?_ (H55.Od _) ?_ ?_) (K55.dx ?_ (H55.Qn _) ?_ ?_) (K55.dx ?_ (H55.b0r _) ?_ ?_) ?_ ?_ ?_ ?_ ?_ ?_ ?_ ?_ ?_ ?_ ?_ ?_ ?_ ?_ ?_ ?k_ii ?k_ib ?k_tt ?k_bb ?_ ?_ ?_ ?k_ll ?d_tabs ?k_ss ?tb_echelon ?tb_free_ahead ?tb_alike
   any_goals (show _=_;k_is)
   (case k_ii | k_ib | k_tt | k_bb | k_ll | k_ss=>kit_is)
   (case d_tabs=>decide)
   (case tb_echelon | tb_free_ahead | tb_alike=>kernel_rfl)
  obtain⟨t,T⟩:=T;have e0:=ni.symm.trans T.a1n.m;cases e0;exact⟨_,K55.Tq T,λbase kb nb hT=>K55.a0n T ⟨hT "echelon" (by simp) _ _ T.tb_echelon,hT "free_ahead" (by simp) _ _ T.tb_free_ahead,hT "alike" (by simp) _ _ T.tb_alike⟩⟩
 case S=>exact λK H a ns hl hT hS=>⟨a,ns,U,hS,hl,hT,λ_=>rfl⟩
 case C=>exact λ_ _ _ _ z=>z
