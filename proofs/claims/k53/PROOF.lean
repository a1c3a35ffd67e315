import PyProof.Rows.All
import Wide.All
import OpenK.AllK
import Wide.FinOn
import Lean
import PyProof.EqAt
import PyProof.EqKinds
import PyProof.TupleCall
import KE.KRevIter
import PyProof.ListRange
import PyProof.AutoSeq1
import PySem.Challenge.RW_weighwalk_k53_turned_into_one_another
set_option Elab.async false
set_option linter.all false
set_option maxRecDepth 100000
set_option compiler.extract_closed false
set_option bootstrap.genMatcherCode false
local macro_rules | `(tactic| omega)=>`(tactic| lia)
def sL{n:Nat}(h:Nat.ble n 100000=true:=by rfl):n<=PySem.sizeLine:=Nat.le_trans (Nat.le_of_ble_eq_true h) (by decide)
def sZ:10000 < PySem.sizeLine:=by decide
def bR{p:Prop}(h:p:=by rfl):p:=h
def bD{p:Prop}(h:p:=by decide):p:=h
def dK{p:Prop}(h:p:=by decide +kernel):p:=h
def Y{p:Prop}(h:p:=by omega):p:=h
theorem za{A0 A1}{p:A0->A1->Prop}{a0 a1}(h:p a0 a1):∃a0 a1,p a0 a1:=⟨a0,a1,h⟩
theorem zd{A0 A1 A2}{p:A0->A1->A2->Prop}{a0 a1 a2}(h:p a0 a1 a2):∃a0 a1 a2,p a0 a1 a2:=⟨a0,a1,a2,h⟩
theorem zf{A0 A1 A2 A3}{p:A0->A1->A2->A3->Prop}{a0 a1 a2 a3}(h:p a0 a1 a2 a3):∃a0 a1 a2 a3,p a0 a1 a2 a3:=⟨a0,a1,a2,a3,h⟩
theorem zg{A0 A1 A2 A3 A4}{p:A0->A1->A2->A3->A4->Prop}{a0 a1 a2 a3 a4}(h:p a0 a1 a2 a3 a4):∃a0 a1 a2 a3 a4,p a0 a1 a2 a3 a4:=⟨a0,a1,a2,a3,a4,h⟩
theorem zh{A0 A1 A2 A3 A4 A5}{p:A0->A1->A2->A3->A4->A5->Prop}{a0 a1 a2 a3 a4 a5}(h:p a0 a1 a2 a3 a4 a5):∃a0 a1 a2 a3 a4 a5,p a0 a1 a2 a3 a4 a5:=⟨a0,a1,a2,a3,a4,a5,h⟩
theorem zj{A0 A1 A2 A3 A4 A5 A6}{p:A0->A1->A2->A3->A4->A5->A6->Prop}{a0 a1 a2 a3 a4 a5 a6}(h:p a0 a1 a2 a3 a4 a5 a6):∃a0 a1 a2 a3 a4 a5 a6,p a0 a1 a2 a3 a4 a5 a6:=⟨a0,a1,a2,a3,a4,a5,a6,h⟩
theorem zw{A0 A1 A2}{p:A0->A1->A2->Prop}(a0 a1 a2)(h:p a0 a1 a2):∃a0 a1 a2,p a0 a1 a2:=⟨a0,a1,a2,h⟩
theorem zB{A0 A1 A2 A3}{p:A0->A1->A2->A3->Prop}(a0 a1 a2 a3)(h:p a0 a1 a2 a3):∃a0 a1 a2 a3,p a0 a1 a2 a3:=⟨a0,a1,a2,a3,h⟩
theorem zE{A0 A1 A2 A3 A4}{p:A0->A1->A2->A3->A4->Prop}(a0 a1 a2 a3 a4)(h:p a0 a1 a2 a3 a4):∃a0 a1 a2 a3 a4,p a0 a1 a2 a3 a4:=⟨a0,a1,a2,a3,a4,h⟩
theorem zG{A0 A1 A2 A3 A4 A5}{p:A0->A1->A2->A3->A4->A5->Prop}(a0 a1 a2 a3 a4 a5)(h:p a0 a1 a2 a3 a4 a5):∃a0 a1 a2 a3 a4 a5,p a0 a1 a2 a3 a4 a5:=⟨a0,a1,a2,a3,a4,a5,h⟩
theorem zI{A0 A1 A2 A3 A4 A5 A6}{p:A0->A1->A2->A3->A4->A5->A6->Prop}(a0 a1 a2 a3 a4 a5 a6)(h:p a0 a1 a2 a3 a4 a5 a6):∃a0 a1 a2 a3 a4 a5 a6,p a0 a1 a2 a3 a4 a5 a6:=⟨a0,a1,a2,a3,a4,a5,a6,h⟩
theorem zJ{A0 A1 A2 A3 A4 A5 A6 A7}{p:A0->A1->A2->A3->A4->A5->A6->A7->Prop}(a0 a1 a2 a3 a4 a5 a6 a7)(h:p a0 a1 a2 a3 a4 a5 a6 a7):∃a0 a1 a2 a3 a4 a5 a6 a7,p a0 a1 a2 a3 a4 a5 a6 a7:=⟨a0,a1,a2,a3,a4,a5,a6,a7,h⟩
theorem zL{A0 A1 A2 A3 A4 A5 A6 A7 A8}{p:A0->A1->A2->A3->A4->A5->A6->A7->A8->Prop}(a0 a1 a2 a3 a4 a5 a6 a7 a8)(h:p a0 a1 a2 a3 a4 a5 a6 a7 a8):∃a0 a1 a2 a3 a4 a5 a6 a7 a8,p a0 a1 a2 a3 a4 a5 a6 a7 a8:=⟨a0,a1,a2,a3,a4,a5,a6,a7,a8,h⟩
theorem zM{A0 A1 A2 A3 A4 A5 A6 A7 A8 A9}{p:A0->A1->A2->A3->A4->A5->A6->A7->A8->A9->Prop}(a0 a1 a2 a3 a4 a5 a6 a7 a8 a9)(h:p a0 a1 a2 a3 a4 a5 a6 a7 a8 a9):∃a0 a1 a2 a3 a4 a5 a6 a7 a8 a9,p a0 a1 a2 a3 a4 a5 a6 a7 a8 a9:=⟨a0,a1,a2,a3,a4,a5,a6,a7,a8,a9,h⟩
theorem zO{A0 A1 A2 A3 A4 A5 A6 A7 A8 A9 ky}{p:A0->A1->A2->A3->A4->A5->A6->A7->A8->A9->ky->Prop}(a0 a1 a2 a3 a4 a5 a6 a7 a8 a9 jN)(h:p a0 a1 a2 a3 a4 a5 a6 a7 a8 a9 jN):∃a0 a1 a2 a3 a4 a5 a6 a7 a8 a9 jN,p a0 a1 a2 a3 a4 a5 a6 a7 a8 a9 jN:=⟨a0,a1,a2,a3,a4,a5,a6,a7,a8,a9,jN,h⟩
theorem zP{A0 A1 A2 A3 A4 A5 A6 A7 A8 A9 ky mF}{p:A0->A1->A2->A3->A4->A5->A6->A7->A8->A9->ky->mF->Prop}(a0 a1 a2 a3 a4 a5 a6 a7 a8 a9 jN qt)(h:p a0 a1 a2 a3 a4 a5 a6 a7 a8 a9 jN qt):∃a0 a1 a2 a3 a4 a5 a6 a7 a8 a9 jN qt,p a0 a1 a2 a3 a4 a5 a6 a7 a8 a9 jN qt:=⟨a0,a1,a2,a3,a4,a5,a6,a7,a8,a9,jN,qt,h⟩
theorem Z{A B:Sort _}{l:B}{g:A->B}{Q:A->Prop}{x:A}(h:l=g x)(q:Q x):∃y,l=g y/\Q y:=⟨x,h,q⟩
theorem vb{A B C D:Sort _}{l:B}{g:A->B}{m:A->D}{k:A->C->D}{Q:A->C->Prop}{x:A}{y:C}(h:l=g x)(i:m x=k x y)(q:Q x y):∃x,l=g x/\∃y,m x=k x y/\Q x y:=⟨x,h,y,i,q⟩
theorem vc{A B C D E F:Sort _}{l:B}{g:A->B}{m:A->D}{k:A->C->D}{o:A->C->F}{p:A->C->E->F}{Q:A->C->E->Prop}{x:A}{y:C}{z:E}(h:l=g x)(i:m x=k x y)(j:o x y=p x y z)(q:Q x y z):∃x,l=g x/\∃y,m x=k x y/\∃z,o x y=p x y z/\Q x y z:=⟨x,h,y,i,z,j,q⟩
section
open PySem PySem.Spec PyProof.Rows
abbrev aa:=@PySem.W.Frag
abbrev ae:=@Nat.le_refl
abbrev af:=@List.length_map
abbrev ag:=@Nat.le_trans
abbrev ah:=@List.getElem?_eq_getElem
abbrev ak:=@Heap.get?_push_of_some
abbrev ao:=@Heap.lt_size
abbrev aq:=@List.length_append
abbrev ar:=@PassesOwn.never
abbrev au:=@List.size_toArray
abbrev aw:=@List.mem_map
abbrev ax:=@List.mem_singleton
abbrev ay:=@Heap.get?_push_size
abbrev aA:=@Nat.lt_of_lt_of_le
abbrev aB:=@Nat.ne_of_lt
abbrev aC:=@List.mem_cons_of_mem
abbrev aD:=@List.mem_cons
abbrev aE:=@List.getElem?_map
abbrev aF:=@List.mem_cons_self
abbrev aG:=@Int.mul_assoc
abbrev aH:=@List.mem_append
abbrev aI:=@Int.mul_comm
abbrev aJ:=@List.getElem_mem
abbrev aK:=@List.mem_of_getElem?
abbrev aL:=@Int.mul_pos
abbrev aM:=@Nat.lt_irrefl
abbrev aN:=@List.mem_range
abbrev aO:=@Bool.false_ne_true
abbrev aP:=@List.mem_append_right
abbrev aQ:=@Nat.mul_le_mul_left
abbrev aR:=@List.getD_eq_getElem?_getD
abbrev aU:=@List.getElem?_eq_some_iff
abbrev aV:=@Int.mul_right_comm
abbrev aW:=@List.getElem?_append_left
abbrev aX:=@Nat.mul_le_mul
abbrev aY:=@Nat.zero_le
abbrev aZ:=@List.map_cons
abbrev ba:=@List.getElem?_append_right
abbrev bb:=@List.take_length
abbrev bc:=@List.map_append
abbrev bf:=@PySem.F.plainAttrs_list
abbrev bg:=@PySem.mem_of_lookup
abbrev bh:=@Nat.mul_le_mul_right
abbrev bo:=@Nat.pow_add
abbrev bq:=@Nat.succ_mul
abbrev bu:=@Heap.size_push
abbrev bw:=@Int.natAbs_mul
abbrev bx:=@Int.eq_of_mul_eq_mul_right
abbrev bz:=@List.length_eq_zero_iff
abbrev bA:=@PySem.F.slot_list_append
abbrev bB:=@PySem.F.type_list_append
abbrev bC:=@List.mem_append_left
abbrev bE:=@Int.fmod_lt_of_pos
abbrev bF:=@Nat.le_of_lt
abbrev bH:=@PySem.W.kia_one
abbrev bI:=@List.append_nil
abbrev bJ:=@List.length_set
abbrev bK:=@Int.fmod_nonneg_of_pos
abbrev bL:=@List.getElem?_set_ne
abbrev bM:=@List.length_cons
abbrev bN:=@List.length_take
abbrev bO:=@List.length_range
abbrev bQ:=@Nat.mul_assoc
abbrev bS:=@Int.pow_succ
abbrev bT:=@Nat.ne_of_gt
abbrev bU:=@Int.mul_one
abbrev bV:=@Nat.mul_comm
abbrev bW:=@Nat.pow_succ
abbrev bX:=@List.lookup_cons
abbrev bZ:=@Nat.mul_pos
abbrev cf:=@List.mem_filterMap
abbrev cg:=@List.getElem?_set_self
abbrev cj:=@PyProof.Rows.callWith_type1
abbrev ck:=@Nat.lt_succ_self
abbrev cn:=@List.nodup_cons
abbrev cq:=@List.map_map
abbrev cy:=@List.not_mem_nil
abbrev cz:=@Nat.sub_self
abbrev cA:=@Option.map_eq_some_iff
abbrev cB:=@Int.neg_mul
abbrev cD:=@Int.mul_ne_zero
abbrev cE:=@Nat.le_of_dvd
abbrev cG:=@List.range_succ
abbrev cH:=@List.pairwise_map
abbrev cI:=@Int.toNat_of_nonneg
abbrev cJ:=@List.all_eq_true
abbrev cK:=@Nat.not_lt_zero
abbrev cM:=@List.foldl_append
abbrev cP:=@List.mem_singleton_self
abbrev cQ:=@List.mem_iff_getElem
abbrev cR:=@List.idxOf_lt_length_iff
abbrev cS:=@Nat.add_sub_cancel_left
abbrev cU:=@PySem.W.mg_of
abbrev cV:=@List.mem_filter
abbrev cW:=@List.filterMap_cons
abbrev cX:=@Bool.eq_iff_iff
abbrev cY:=@List.length_drop
abbrev cZ:=@Int.ne_of_gt
abbrev da:=@Int.pow_zero
abbrev dc:=@Nat.pow_le_pow_right
abbrev de:=@List.dropLast_concat_getLast
abbrev df:=@List.length_dropLast
abbrev dg:=@List.pairwise_iff_getElem
abbrev dh:=@Int.fmod_add_mul_fdiv
abbrev di:=@List.idxOf_cons
abbrev dj:=@PySem.W.hideAll_none
abbrev dk:=@PySem.W.callWith_K
abbrev dm:=@List.length_replicate
abbrev dq:=@PyProof.Rows.slot_tuple_getitem
abbrev du:=@Heap.get?_update_self
abbrev dw:=@Int.emod_eq_of_lt
abbrev dy:=@Int.fdiv_eq_ediv_of_nonneg
abbrev dA:=@Nat.pow_le_pow_left
abbrev dB:=@Option.getD_some
abbrev dC:=@List.getElem_of_mem
abbrev dD:=@Nat.one_le_two_pow
abbrev dE:=@Nat.le_mul_of_pos_right
abbrev dF:=@List.filter_append
abbrev dH:=@List.take_of_length_le
abbrev dJ:=@List.getElem_map
abbrev dM:=@List.getElem?_replicate
abbrev dP:=@PySem.F.slot_tuple_add
abbrev dQ:=@PySem.F.entry_tuple_add
abbrev dR:=@PySem.F.args_tuple_add_2
abbrev dS:=@Heap.get?_update_other
abbrev dU:=@Nat.dvd_of_mod_eq_zero
abbrev dW:=@Int.fmod_eq_emod_of_nonneg
abbrev dX:=@PySem.F.plainAttrs_str
end
theorem U.{u}{α:Sort u}{a:α}:a=a:=rfl
namespace L2
open PySem PySem.Spec PyProof.Rows
abbrev Mh:=Sum Int Str
def Yl:Mh->Value->Bool
 | .inl k,v=>Value.isInt k v
 | .inr x,v=>Value.isStrOf x v
def keyH(w:World):Mh->Int
 | .inl k=>hashInt k
 | .inr x=>hashStr w x
def J9:∀{k:Mh} {v:Value},Yl k v=true->(∃i t,k=Sum.inl i/\v=Value.int i t)\/(∃x t,k=Sum.inr x/\v=Value.str x t)
 | .inl i,v,h=>by
  obtain⟨t,e⟩:=Value.isInt_shape (k:=i) (v:=v) h;exact .inl ⟨i,t,U,e⟩
 | .inr x,v,h=>by
  obtain⟨t,e⟩:=Value.isStrOf_shape (x:=x) (v:=v) h;exact .inr ⟨x,t,U,e⟩
def a0r(a b:Int):decide ((Sum.inl a:Mh)=Sum.inl b)=(a == b):=by
 by_cases e:a=b
 . subst e;simp
 . have h:¬(Sum.inl a:Mh)=Sum.inl b:=λq=>e (Sum.inl.inj q);rw[decide_eq_false h];exact(beq_eq_false_iff_ne.mpr e).symm
def a0o(a b:Str):decide ((Sum.inr a:Mh)=Sum.inr b)=decide (a=b):=by
 by_cases e:a=b
 . subst e;simp
 . have h:¬(Sum.inr a:Mh)=Sum.inr b:=λq=>e (Sum.inr.inj q);rw[decide_eq_false h,decide_eq_false e]
def a0q(a:Int)(b:Str):decide ((Sum.inl a:Mh)=Sum.inr b)=false:=decide_eq_false (λq=>nomatch q)
def a0p(a:Str)(b:Int):decide ((Sum.inr a:Mh)=Sum.inl b)=false:=decide_eq_false (λq=>nomatch q)
def Ls(prog:Program)(w:World):PySem.KeyKind prog w Mh where
 is:=Yl
 hash:=keyH w
 inj:=λv a b ha hb=>by
  rcases J9 ha with ⟨i,t,rfl,rfl⟩ | ⟨x,t,rfl,rfl⟩
  . rcases J9 hb with ⟨j,u,rfl,e⟩ | ⟨y,u,rfl,e⟩
    . injection e with e1 _;rw[e1]
    . exact nomatch e
  . rcases J9 hb with ⟨j,u,rfl,e⟩ | ⟨y,u,rfl,e⟩
    . exact nomatch e
    . injection e with e1 _;rw[e1]
 byValue:=λk v h=>by
  rcases J9 h with ⟨i,t,rfl,rfl⟩ | ⟨x,t,rfl,rfl⟩ <;>rfl
 pyHash:=λhv h=>by
  rcases J9 hv with ⟨i,t,rfl,rfl⟩ | ⟨x,t,rfl,rfl⟩
  . exact wpAny_pyHash_int h
  . exact wpAny_pyHash_str h
 eqBool:=λhu hv h=>by
  rcases J9 hu with ⟨i,t,rfl,rfl⟩ | ⟨x,t,rfl,rfl⟩
  . rcases J9 hv with ⟨j,u,rfl,rfl⟩ | ⟨y,u,rfl,rfl⟩
    . rw[a0r]at h;exact wpAny_eqBool_int h
    . rw[a0q]at h;exact SeqAt.EqAt.int_str i t y u _ _ _ _ h
  . rcases J9 hv with ⟨j,u,rfl,rfl⟩ | ⟨y,u,rfl,rfl⟩
    . rw[a0p]at h;exact SeqAt.EqAt.str_int x t j u _ _ _ _ h
    . rw[a0o]at h;exact wpAny_eqBool_str h
 «strs»:=λk x t v h=>by
  rcases J9 h with ⟨i,u,rfl,e⟩ | ⟨y,u,rfl,e⟩
  . exact nomatch e
  . injection e with e1 _;subst e1;cases v <;>rfl
inductive V where
 | non | bl (b:Bool) | int (i:Int) | str (x:Str) | byt (b:Array UInt8) | flt (b:UInt64) | ref (a:Addr) | ty (n:String)
 deriving DecidableEq
def D2:V->Value->Prop
 | .non,u=>u=Value.none
 | .bl b,u=>u=Value.bool b
 | .int i,u=>∃t,u=Value.int i t
 | .str x,u=>∃t,u=Value.str x t
 | .byt b,u=>∃t,u=Value.bytes b t
 | .flt b,u=>∃t,u=Value.float b t
 | .ref a,u=>u=Value.ref a
 | .ty n,u=>u=Value.type n
abbrev x8:List V->List Value->Prop:=Paired D2
theorem x8.length{xs:List V}{us:List Value}(r:x8 xs us):xs.length=us.length:=Paired.length r
theorem x8.get:∀{xs:List V} {us:List Value} {i:Nat} {x:V},x8 xs us->xs[i]? = some x->∃u,us[i]? = some u/\D2 x u
 | _,_,_,_,.nil,e=>by simp at e
 | _,_,0,_,.cons r _,e=>by simp at e;subst e;exact⟨_,U,r⟩
 | _,_,i+1,x,.cons _ t,e=>by
  obtain⟨u,h1,h2⟩:=x8.get (i:=i) (x:=x) t (by simpa using e);exact⟨u,by simpa using h1,h2⟩
theorem x8.set{x:V}{u:Value}(r:D2 x u):∀{xs:List V} {us:List Value} (i:Nat),x8 xs us->x8 (xs.set i x) (us.set i u)
 | _,_,_,.nil=>.nil
 | _,_,0,.cons _ t=>.cons r t
 | _,_,i+1,.cons q t=>.cons q (x8.set r i t)
theorem x8.append:∀{xs ys:List V} {us ws:List Value},x8 xs us->x8 ys ws->x8 (xs++ys) (us++ws)
 | _,_,_,_,.nil,s=>s
 | _,_,_,_,.cons r t,s=>.cons r (x8.append t s)
theorem x8.take:∀{xs:List V} {us:List Value} (n:Nat),x8 xs us->x8 (xs.take n) (us.take n)
 | _,_,0,_=>.nil
 | _,_,_+1,.nil=>.nil
 | _,_,n+1,.cons r t=>.cons r (x8.take n t)
theorem x8.drop:∀{xs:List V} {us:List Value} (n:Nat),x8 xs us->x8 (xs.drop n) (us.drop n)
 | _,_,0,r=>r
 | _,_,_+1,.nil=>.nil
 | _,_,n+1,.cons _ t=>x8.drop n t
def JJ:Option V->Option Value->Prop
 | some v,some u=>D2 v u
 | none,none=>True
 | _,_=>False
def KV{κ:Type}:List (κ × V)->List (κ × Value)->Prop:=Paired λ(p:κ × V) (q:κ × Value)=>p.1=q.1/\D2 p.2 q.2
def kV:Mh->V
 | .inl i=>.int i
 | .inr x=>.str x
inductive HO where
 | lst (xs:List V)
 | tup (xs:List V)
 | dK (fi:List (Mh × V)) | dT (fi:List (List Mh × V))
 | set (S:Int->Bool) (n:Nat)
 | ins (C dx:Addr) (fs:List (Str × V))
 | own (x:Addr)
 | xd (fs:List (Str × V))
 | met (f x:Addr)
 | rng (lo hi:Int)
 | frz (o:Obj) (u:HO)
 | tbl (ps:Array Value)
 | ext (φ:Heap->Prop)
abbrev Hp:=Addr->Option HO
def upd(H:Hp)(a:Addr)(o:HO):Hp:=λb=>if b=a then some o else H b
def b9{H:Hp}{a:Addr}{o:HO}:upd H a o a=some o:=by unfold upd;rw[if_pos rfl]
def l6{H:Hp}{a b:Addr}{o:HO}(h:b≠a):upd H a o b=H b:=by unfold upd;rw[if_neg h]
def Ar{H:Hp}{a b:Addr}{o u:HO}(h:H a=some o)(h':H b=some u)(d:o≠u):a≠b:=by
 intro e;subst e;rw[h]at h';exact d (Option.some.inj h')
def j7{H:Hp}{a b:Addr}{o:HO}(h:H a=some o)(h':H b=none):a≠b:=by
 intro e;subst e;rw[h]at h';cases h'
section
variable(P:Program)(w:World)
def M7(H:Hp)(h:Heap)(a:Addr):HO->Prop
 | .lst xs=>xs.length<=sizeLine/\∃(its:List Value) (n:Nat),x8 xs its/\h.get? a=some { cls:=.type "list",data:=.seq its.toArray n }
 | .tup xs=>xs.length<=sizeLine/\∃its:List Value,x8 xs its/\IsTup h a its.toArray/\((∀i y,xs≠[.int i,y])->∃o,h.get? a=some o/\o.dict=none)
 | .dK fi=>fi.length<=sizeLine/\(a == sysModules)=false/\∃vs,KV fi vs/\h.DictOf (Ls P w) a vs
 | .dT fi=>fi.length<=sizeLine/\(a == sysModules)=false/\∃xs:List (List Mh × Addr × Value),
     Paired (λ(p:List Mh × V) (q:List Mh × Addr × Value)=>p.1=q.1/\H q.2.1=some (.tup (p.1.map kV))/\D2 p.2 q.2.2) fi xs/\
     ∃o es ep,h.get? a=some o/\o.ExactDict/\o.data=.dict es ep/\es.toList=xs.map (entryOfKey (tupleKind (Ls P w)))/\(xs.map (·.1)).Nodup
 | .set S n=>h.SetOf (intKind P w) a S n
 | .ins C dx fs=>H dx=some (.own a)/\fs.length<=1000/\dx≠a/\h.get? a=some (PySem.W.instObj C dx)/\
     ∃mA,h.Ns1 dx mA/\(∀f,JJ (fs.lookup f) (mA f))/\PySem.Within mA (fs.map (·.1))
 | .own _=>∃o,h.get? a=some o
 | .xd fs=>∃mA,h.Ns1 a mA/\∀f,JJ (fs.lookup f) (mA f)
 | .rng lo hi=>∃t u v,h.get? a=some { cls:=.type "range",data:=.fields #[.int lo t,.int hi u,.int 1 v] }
 | .frz o u=>h.get? a=some o/\M7 H h a u
 | .tbl ps=>h.get? a=some { cls:=.none,data:=.fields ps }
 | .met f x=>h.get? a=some (PySem.W.methodObj (.ref f) (.ref x))
 | .ext φ=>φ h/\(∃o,h.get? a=some o)/\∀h1 h2:Heap,φ h1->(∀o,h1.get? a=some o->h2.get? a=some o)->φ h2
def AE(H:Hp)(h:Heap):Prop:=∀a o,H a=some o->M7 P w H h a o
end
section
variable{P:Program}{w:World}{H H':Hp}{h h':Heap}{a:Addr}{o:HO}
theorem M7.lt(x:M7 P w H h a o):a < h.objs.size:=by
 cases o with
 | lst xs=>obtain⟨_,_,_,_,e⟩:=x;exact ao e
 | tup xs=>obtain⟨_,_,_,p,_⟩:=x;exact p.lt
 | dK fi=>obtain⟨_,_,_,_,o,_,_,e,_⟩:=x;exact ao e
 | dT fi=>obtain⟨_,_,_,_,o,_,_,e,_⟩:=x;exact ao e
 | set S n=>obtain⟨o,_,_,_,e,_⟩:=x;exact ao e
 | ins C dx fs=>obtain⟨_,_,_,e,_⟩:=x;exact ao e
 | own y=>obtain⟨_,e⟩:=x;exact ao e
 | xd fs=>obtain⟨_,⟨_,_,_,e,_⟩,_⟩:=x;exact ao e
 | rng lo hi=>obtain⟨_,_,_,e⟩:=x;exact ao e
 | frz ob u=>obtain⟨e,_⟩:=x;exact ao e
 | tbl ps=>exact ao (show h.get? a=some _ from x)
 | met f y=>exact ao (show h.get? a=some _ from x)
 | ext φ=>obtain⟨_,⟨_,e⟩,_⟩:=x;exact ao e
theorem Paired.mapP{α β:Type}{F G:α->β->Prop}:∀{l₁:List α} {l₂:List β},Paired F l₁ l₂->(∀a b,F a b->G a b)->Paired G l₁ l₂
 | _,_,.nil,_=>.nil
 | _,_,.cons r t,f=>.cons (f _ _ r) (Paired.mapP t f)
def M7.stay(x:M7 P w H h a o)(k:∀b u,(b=a\/H b=some (.own a))->h.get? b=some u->h'.get? b=some u)
    (ho:∀b,H b=some (.own a)->H' b=some (.own a)) (ht:∀b xs,H b=some (.tup xs)->H' b=some (.tup xs)):M7 P w H' h' a o:=by
 induction o with
 | lst xs=>obtain⟨z,its,n,r,e⟩:=x;exact⟨z,its,n,r,k _ _ (.inl U) e⟩
 | tup xs=>obtain⟨z,its,r,⟨ob,e,c⟩,d⟩:=x;exact⟨z,its,r,⟨ob,k _ _ (.inl U) e,c⟩,λnx=>let⟨o,e2,d2⟩:=d nx;⟨o,k _ _ (.inl U) e2,d2⟩⟩
 | dK fi=>obtain⟨z,y,vs,r,ob,es,ep,e,c⟩:=x;exact⟨z,y,vs,r,ob,es,ep,k _ _ (.inl U) e,c⟩
 | dT fi=>
  obtain⟨z,y,xs,r,ob,es,ep,e,c⟩:=x;exact⟨z,y,xs,Paired.mapP r λp q z=>⟨z.1,ht _ _ z.2.1,z.2.2⟩,ob,es,ep,k _ _ (.inl U) e,c⟩
 | set S n=>obtain⟨ob,es,ep,t,e,c⟩:=x;exact⟨ob,es,ep,t,k _ _ (.inl U) e,c⟩
 | ins C dx fs=>
  obtain⟨d,z,ne,e,mA,⟨od,es,ep,e2,c⟩,r⟩:=x;exact⟨ho _ d,z,ne,k _ _ (.inl U) e,mA,⟨od,es,ep,k _ _ (.inr d) e2,c⟩,r⟩
 | own y=>obtain⟨ob,e⟩:=x;exact⟨ob,k _ _ (.inl U) e⟩
 | xd fs=>obtain⟨mA,⟨od,es,ep,e,c⟩,r⟩:=x;exact⟨mA,⟨od,es,ep,k _ _ (.inl U) e,c⟩,r⟩
 | rng lo hi=>obtain⟨t,u,v,e⟩:=x;exact⟨t,u,v,k _ _ (.inl U) e⟩
 | frz ob u ih=>obtain⟨e,q⟩:=x;exact⟨k _ _ (.inl U) e,ih q⟩
 | tbl ps=>
  have e:h.get? a=some { cls:=.none,data:=.fields ps }:=x;show h'.get? a=some { cls:=.none,data:=.fields ps };exact k a _ (.inl U) e
 | met f y=>
  have e:h.get? a=some (PySem.W.methodObj (.ref f) (.ref y)):=x;show h'.get? a=some (PySem.W.methodObj (.ref f) (.ref y));exact k a _ (.inl U) e
 | ext φ=>obtain⟨p,⟨o,e⟩,st⟩:=x;exact⟨st _ _ p λo q=>k _ _ (.inl U) q,⟨o,k _ _ (.inl U) e⟩,st⟩
theorem AE.lt(x:AE P w H h)(e:H a=some o):a < h.objs.size:=(x a o e).lt
def AE.fresh(x:AE P w H h)(e:h.objs.size<=a):H a=none:=by
 cases q:H a with
 | none=>rfl
 | some u=>exact absurd (aA (x.lt q) e) (aM _)
def AE.kept(x:AE P w H h)(k:∀b u,h.get? b=some u->h'.get? b=some u):AE P w H h':=λa o e=>
 (x a o e).stay (λb u _ q=>k b u q) (λ_ q=>q) λ_ _ q=>q
def AE.laid(x:AE P w H h)(k:∀b u,h.get? b=some u->h'.get? b=some u)(hp:h.objs.size<=a)(new:M7 P w (upd H a o) h' a o):AE P w (upd H a o) h':=λb u e=>by
 have hn:=x.fresh hp;by_cases hb:b=a
 . subst hb;rw[b9]at e;cases e;exact new
 . rw[l6 hb]at e;exact(x b u e).stay (λc v _ q=>k c v q) (λc q=>by rw[l6 (j7 q hn)];exact q) λc xs q=>by rw[l6 (j7 q hn)];exact q
end
def Rd(H:Hp)(a:Addr)(u:HO):Prop:=H a=some u\/∃o,H a=some (.frz o u)
def Rd.of{H:Hp}{a:Addr}{u:HO}(h:H a=some u):Rd H a u:=.inl h
def Rd.ok{P:Program}{w:World}{H:Hp}{h:Heap}{a:Addr}{u:HO}(r:Rd H a u)(x:AE P w H h):M7 P w H h a u:=by
 rcases r with r | ⟨o,r⟩
 . exact x a u r
 . obtain⟨_,q⟩:=x a _ r;exact q
def Mut:Option HO->Prop
 | some (.lst _)=>True
 | some (.dK _)=>True
 | some (.dT _)=>True
 | some (.set _ _)=>True
 | some (.ins _ _ _)=>True
 | some (.ext _)=>True
 | _=>False
section
variable{P:Program}{w:World}{H:Hp}{h h':Heap}{x e:Addr}{o':HO}
def AE.write(ok:AE P w H h)(mu:Mut (H x))(he:e=x\/H e=some (.own x))(k:∀b u,b≠e->h.get? b=some u->h'.get? b=some u)(mn:∃u,h'.get? e=some u)
    (new:M7 P w (upd H x o') h' x o'):AE P w (upd H x o') h':=λb u q=>by
 have mV:∀c y,H c=some (.own y)->c≠x:=λc y r z=>by subst z;rw[r]at mu;exact mu
 have rE:∀c xs,H c=some (.tup xs)->c≠x:=λc xs r z=>by subst z;rw[r]at mu;exact mu
 by_cases hb:b=x
 . subst hb;rw[b9]at q;cases q;exact new
 . rw[l6 hb]at q;by_cases jh:b=e
   . have q':H b=some (.own x):=by
      rcases he with z | z
      . exact absurd (jh.trans z) hb
      . rw[jh];exact z
     rw[q]at q';cases q';obtain⟨v,hv⟩:=mn;exact⟨v,by rw[jh];exact hv⟩
   . refine(ok b u q).stay (λc v hc r=>k c v ?_ r) (λc r=>by rw[l6 (mV c b r)];exact r) λc xs r=>by rw[l6 (rE c xs r)];exact r
     rcases hc with rfl | hc
     . exact jh
     . rintro rfl;rcases he with z | z
       . exact mV c b hc z
       . rw[hc]at z;cases z;exact hb rfl
end
structure Un(fs ex:List Addr)(H H':Hp)(h h':Heap):Prop where
 keep:∀b o,h.get? b=some o->H b=none->b ∉ fs->b ∉ ex->h'.get? b=some o
 slot:∀b o,h.get? b=some o->H b=none->b∈fs->b ∉ ex->∃sl,h'.get? b=some { o with slots:=sl }
 free:∀b o,h.get? b=some o->H b=none->b ∉ ex->H' b=none
 there:∀b o,h.get? b=some o->b ∉ ex->∃o',h'.get? b=some o'
 tups:∀b xs,H b=some (.tup xs)->H' b=some (.tup xs)
 frzs:∀b o u,H b=some (.frz o u)->H' b=some (.frz o u)
 tbls:∀b ps,H b=some (.tbl ps)->∃more,H' b=some (.tbl (ps++more))
section
variable{fs ur ex yf:List Addr}{H H1 H2:Hp}{h h1 h2 h':Heap}{a x e:Addr}{o:HO}
def Un.any(u:Un fs ex H H1 h h1){b:Addr}{ob:Obj}(q:h.get? b=some ob)(n:H b=none)(hx:b ∉ ex):∃sl,h1.get? b=some { ob with slots:=sl }:=by
 by_cases hb:b∈fs
 . exact u.slot b ob q n hb hx
 . exact⟨ob.slots,u.keep b ob q n hb hx⟩
def Un.trans(a:Un fs ex H H1 h h1)(b:Un fs ex H1 H2 h1 h2):Un fs ex H H2 h h2 where
 keep:=λc ob q n hc hx=>b.keep c ob (a.keep c ob q n hc hx) (a.free c ob q n hx) hc hx
 slot:=λc ob q n hc hx=>by
  obtain⟨sl,e1⟩:=a.slot c ob q n hc hx;obtain⟨qV,e2⟩:=b.slot c _ e1 (a.free c ob q n hx) hc hx;exact⟨qV,e2⟩
 free:=λc ob q n hx=>by
  obtain⟨o',e1⟩:=a.there c ob q hx;exact b.free c o' e1 (a.free c ob q n hx) hx
 there:=λc ob q hx=>by
  obtain⟨o',e1⟩:=a.there c ob q hx;exact b.there c o' e1 hx
 tups:=λc xs q=>b.tups c xs (a.tups c xs q)
 frzs:=λc ob xs q=>b.frzs c ob xs (a.frzs c ob xs q)
 tbls:=λc ps q=>by
  obtain⟨m1,e1⟩:=a.tbls c ps q;obtain⟨m2,e2⟩:=b.tbls c _ e1;exact⟨m1++m2,by rw[e2,Array.append_assoc]⟩
def Un.kept(k:∀b u,h.get? b=some u->h'.get? b=some u):Un fs ex H H h h':=
 ⟨λb ob q _ _ _=>k b ob q,λb ob q _ _ _=>⟨ob.slots,k b ob q⟩,λ_ _ _ n _=>n,λb ob q _=>⟨ob,k b ob q⟩,λ_ _ q=>q,λ_ _ _ q=>q,λ_ ps q=>⟨#[],by rw[q];simp⟩⟩
def Un.refl:Un fs ex H H h h:=Un.kept λ_ _ q=>q
def Un.laid(k:∀b u,h.get? b=some u->h'.get? b=some u)(hp:h.objs.size<=a)(hn:H a=none):Un fs ex H (upd H a o) h h' where
 keep:=λb u q _ _ _=>k b u q
 slot:=λb u q _ _ _=>⟨u.slots,k b u q⟩
 free:=λb u q n _=>by rw[l6 (aB (aA (ao q) hp))];exact n
 there:=λb u q _=>⟨u,k b u q⟩
 tups:=λb xs q=>by rw[l6 (j7 q hn)];exact q
 frzs:=λb u xs q=>by rw[l6 (j7 q hn)];exact q
 tbls:=λb ps q=>⟨#[],by rw[l6 (j7 q hn),q];simp⟩
def Un.write(mu:Mut (H x))(he:e=x\/H e=some (.own x))(k:∀b u,b≠e->h.get? b=some u->h'.get? b=some u)(mn:∃u,h'.get? e=some u):Un fs ex H (upd H x o) h h':=by
 have hx:∀b,H b=none->b≠x:=λb n z=>by subst z;rw[n]at mu;exact mu
 have hb:∀b,H b=none->b≠e:=λb n z=>by
  subst z;rcases he with r | r
  . exact hx b n r
  . rw[n]at r;cases r
 have hm:∀b u,H b=some u->¬Mut (some u)->b≠x:=λb u q nm z=>by subst z;rw[q]at mu;exact nm mu
 refine⟨λb u q n _ _=>k b u (hb b n) q,λb u q n _ _=>⟨u.slots,k b u (hb b n) q⟩,λb u q n _=>by rw[l6 (hx b n)];exact n,λb u q _=>?_,
  λb xs q=>by rw[l6 (hm b _ q λz=>z)];exact q,λb u xs q=>by rw[l6 (hm b _ q λz=>z)];exact q,λb ps q=>⟨#[],by rw[l6 (hm b _ q λz=>z),q];simp⟩⟩
 by_cases jh:b=e
 . subst jh;exact mn
 . exact⟨u,k b u jh q⟩
def Un.mono(u:Un fs ex H H1 h h1)(hs:∀b∈fs,b∈ur)(hx:∀b∈ex,b∈yf):Un ur yf H H1 h h1:=
 ⟨λb ob q n hb he=>u.keep b ob q n (λz=>hb (hs b z)) λz=>he (hx b z),λ_ _ q n _ he=>u.any q n λz=>he (hx _ z),λb ob q n he=>u.free b ob q n λz=>he (hx b z),λb ob q he=>u.there b ob q λz=>he (hx b z),u.tups,u.frzs,u.tbls⟩
end
def YE(h:Heap)(H:Hp):List Addr:=(List.range h.objs.size).filter λa=>(H a).isSome
def JB(h:Heap)(H:Hp):Heap:=PySem.W.hideAll h (YE h H)
def SE(h:Heap)(H:Hp):(JB h H).objs.size=h.objs.size:=PySem.W.hideAll_size _ _
def Vr{h:Heap}{H:Hp}{b:Addr}{o:Obj}(e:h.get? b=some o)(n:H b=none):(JB h H).get? b=some o:=
 PySem.W.hideAll_get _ e λhm=>by
  have q:(H b).isSome=true:=(cV.mp hm).2;rw[n]at q;simp at q
def Xe{h:Heap}{H:Hp}{b:Addr}{o:Obj}(e:(JB h H).get? b=some o):h.get? b=some o/\H b=none:=by
 have e':h.get? b=some o:=PySem.W.of_hideAll (YE h H) e;refine⟨e',?_⟩;cases q:H b with
 | none=>rfl
 | some x=>
  have hm:b∈YE h H:=cV.mpr ⟨aN.mpr (ao e'),by simp[q]⟩;have z:(JB h H).get? b=none:=dj (YE h H) hm;rw[z]at e;cases e
def Dj(g h:Heap)(L:Addr):List (Addr × Obj):=(List.range h.objs.size).filterMap λa=>if a=L\/(g.get? a).isSome=true then none else(h.get? a).map λo=>(a,o)
def Gy{g h:Heap}{L a:Addr}{o:Obj}(h1:a≠L)(h2:g.get? a=none)(h3:h.get? a=some o):(a,o)∈Dj g h L:=
 cf.mpr ⟨a,aN.mpr (ao h3),by simp[h1,h2,h3]⟩
def HX{g h:Heap}{L:Addr}{p:Addr × Obj}(hp:p∈Dj g h L):p.1≠L/\g.get? p.1=none/\h.get? p.1=some p.2:=by
 obtain⟨b,_,e⟩:=cf.mp hp;split at e
 . cases e
 . rename_i hn;cases q:h.get? b with
   | none=>rw[q]at e;simp at e
   | some u=>
    rw[q]at e;simp only[Option.map_some,Option.some.injEq]at e;subst e;refine⟨λz=>hn (.inl z),?_,q⟩;show g.get? b=none;cases r:g.get? b with
    | none=>rfl
    | some v=>exact(hn (.inr (by simp[r]))).elim
def R9(g h:Heap)(L d:Addr):List (Addr × Obj):=(Dj g h L).filter λp=>decide (p.1≠d)
def UQ{g h:Heap}{L:Addr}:News g L h (Dj g h L):=λp hp=>let⟨a,b,c⟩:=HX hp;⟨c,a,b⟩
structure Mod(K:aa)(mg:Str->Option Value)(base:Heap):Prop where
 kin:K.In base
 glob:base.Ns mainGlobals mg
 blt:∃mb,base.Ns builtinsNs mb/\∀x:Str,x≠"__name__"->mb x=bootBuiltins x
 nolimit:base.NoLimit
 seer:base.NoSeer
set_option genInjectivity false in
set_option genSizeOfSpec false in
structure Cx where
 prog:Program
 w:World
 K:aa
 mg:Str->Option Value
 base:Heap
 A:Around
 N:List Str
 s₀:Shared
 H₀:Hp
 env:Env
 outer:List Env
 stack:List Env
 ex:List Addr
 fn:Str->Bool
 calm:Bool
 pn:List (Addr × Obj)
 xe:Value->Shared->Prop
def Hi(l:List Env):List Addr:=l.filterMap (·.frame)
abbrev Cx.fs(X:Cx):List Addr:=Hi X.outer
def Vis(sc:Scope)(x:Str):Prop:=sc.names.lookup x=some .local\/sc.names.lookup x=some .cell\/sc.names.lookup x=some .free
def b0t(sc:Scope)(x:Str):Prop:=sc.names.lookup x=some .local\/sc.names.lookup x=some .cell
def Look(env:Env)(h:Heap)(m:Str->Option Value)(x:Str)(u:Value):Prop:=
 (env.kindOf x=some .local/\m x=some u)\/((env.kindOf x=some .cell\/env.kindOf x=some .free)/\∃c,env.cells.lookup x=some c/\h.IsCell c (some u))
structure Cx.Ok(X:Cx):Prop where
 mod:Mod X.K X.mg X.base
 kind:X.env.scope.kind=.function
 glob:X.env.globals=mainGlobals
 blt:X.env.builtins=builtinsNs
 above:X.s₀.heap.objs.size<=X.env.locals
 inj:∀x y c,X.env.cells.lookup x=some c->X.env.cells.lookup y=some c->x=y
 has:∀x,(X.env.kindOf x=some .cell\/X.env.kindOf x=some .free)->∃c,X.env.cells.lookup x=some c
 cab:∀x c,X.fn x=true->X.env.cells.lookup x=some c->X.s₀.heap.objs.size<=c
 hd:X.calm=true->X.A.handled=none
 frames:X.A.frames=some X.stack
 stk:X.stack=X.outer\/(X.stack=X.env::X.outer/\X.env.frame=some X.env.locals)
 exf:∀b∈X.ex,b≠X.env.locals/\∀x c,X.env.cells.lookup x=some c->c≠b
 bs:∀b o,X.base.get? b=some o->X.s₀.heap.get? b=some o/\X.H₀ b=none
 bsz:X.base.objs.size<=X.s₀.heap.objs.size
 noex:∀b o,X.base.get? b=some o->b ∉ X.ex
 exfs:∀b∈X.ex,b ∉ X.fs
 funs:X.s₀.heap.FunFrames X.base X.outer
 frf:∀b∈X.fs,X.H₀ b=none
structure o9(X:Cx)(aS:List (Addr × Obj))(σ:List (Option V))(H:Hp)(s:Shared):Prop where
 ok:X.Ok
 os:s.os=X.s₀.os
 bare:AllBare s.gens
 base:Un X.fs X.ex X.H₀ H X.s₀.heap s.heap
 loc:∃m,s.heap.Ns X.env.locals m/\∀(i:Nat) (x:Str) (v:V),X.N[i]? = some x->σ[i]? = some (some v)->Vis X.env.scope x->∃u,D2 v u/\Look X.env s.heap m x u
 cell:∀x c,X.env.cells.lookup x=some c->∃v,s.heap.IsCell c v
 free:H X.env.locals=none
 freeC:∀x c,X.env.cells.lookup x=some c->H c=none
 pin:∀p∈X.pn++aS,s.heap.get? p.1=some p.2/\H p.1=none/\p.1≠X.env.locals/\p.1 ∉ X.fs/\∀v,p.2.data≠.cell v
 hok:AE X.prog X.w H s.heap
 len:σ.length=X.N.length
section
variable{X:Cx}{aS:List (Addr × Obj)}{σ:List (Option V)}{H H':Hp}{s:Shared}{h':Heap}
def Cx.Ok.nofr(ok:X.Ok){b:Addr}{o:Obj}(e:X.base.get? b=some o):b ∉ X.fs:=λhb=>by
 have:=(ok.funs.mem hb).1;rw[e]at this;cases this
theorem o9.bs(I:o9 X aS σ H s):∀b o,X.base.get? b=some o->s.heap.get? b=some o/\H b=none:=λb o e=>
 ⟨I.base.keep b o (I.ok.bs b o e).1 (I.ok.bs b o e).2 (I.ok.nofr e) (I.ok.noex b o e),I.base.free b o (I.ok.bs b o e).1 (I.ok.bs b o e).2 (I.ok.noex b o e)⟩
def o9.bk(I:o9 X aS σ H s):∀b o,X.base.get? b=some o->s.heap.get? b=some o:=λb o e=>(I.bs b o e).1
theorem o9.mod(I:o9 X aS σ H s):Mod X.K X.mg X.base:=I.ok.mod
def o9.kIn(I:o9 X aS σ H s):X.K.In s.heap:=I.ok.mod.kin.keeps I.bk
theorem o9.nolimit(I:o9 X aS σ H s):s.heap.NoLimit:=I.ok.mod.nolimit.keeps I.bk
def o9.fr(I:o9 X aS σ H s):∃m,Fr X.base X.env.locals s.heap m:=
 let⟨m,hn,_⟩:=I.loc
 ⟨m,hn,I.bk,ag I.ok.bsz I.ok.above⟩
theorem o9.lt(I:o9 X aS σ H s):X.env.locals < s.heap.objs.size:=let⟨_,hn,_⟩:=I.loc;hn.lt
def o9.sz(I:o9 X aS σ H s):X.s₀.heap.objs.size<=s.heap.objs.size:=ag I.ok.above (bF I.lt)
def o9.nofs(I:o9 X aS σ H s){a:Addr}(h:s.heap.objs.size<=a):a ∉ X.fs:=λhb=>by
 obtain⟨_,o,ho,_⟩:=I.ok.funs.mem hb;exact absurd (aA (ao ho) (ag I.sz h)) (aM _)
def o9.cne(I:o9 X aS σ H s):∀x c,X.env.cells.lookup x=some c->c≠X.env.locals:=λx c e z=>by
 obtain⟨v,o,ho,hd⟩:=I.cell x c e;obtain⟨m,⟨o',es,ep,jF,iE,_⟩,_⟩:=I.loc;rw[z,jF]at ho;cases ho;rw[iE]at hd;cases hd
theorem o9.funs(I:o9 X aS σ H s):s.heap.FunFrames X.base X.outer:=by
 have all:∀(l:List Env),(∀b∈Hi l,b∈X.fs)->X.s₀.heap.FunFrames X.base l->s.heap.FunFrames X.base l:=by
  intro l
  induction l with
  | nil=>intro _ _;trivial
  | cons env r ih=>
   intro hs hl;obtain⟨hk,⟨L,o,hf,hn,ho,hd⟩,hr⟩:=hl;have hL:L∈X.fs:=hs L (by unfold Hi;rw[cW,hf];exact aF);obtain⟨sl,e⟩:=I.base.slot L o ho (I.ok.frf L hL) hL λz=>I.ok.exfs L z hL;exact⟨hk,⟨L,_,hf,hn,e,hd⟩,ih (λb hb=>hs b (by unfold Hi;rw[cW,hf];exact aC _ hb)) hr⟩
 exact all X.outer (λ_ hb=>hb) I.ok.funs
theorem o9.stack(I:o9 X aS σ H s):s.heap.FunFrames X.base X.stack:=by
 rcases I.ok.stk with e | ⟨e,hf⟩
 . rw[e];exact I.funs
 . rw[e];obtain⟨m,hn,_⟩:=I.loc;refine .cons (by rw[I.ok.kind];decide) hf hn ?_ I.funs;exact Heap.get?_none_of_le (ag I.ok.bsz I.ok.above)
def o9.stkSub(I:o9 X aS σ H s):∀b∈Hi X.stack,b∈X.env.locals::X.fs:=λb hb=>by
 rcases I.ok.stk with e | ⟨e,hf⟩
 . rw[e]at hb;exact aC _ hb
 . rw[e]at hb;unfold Hi at hb;rw[cW,hf]at hb;exact hb
def o9.stkFree(I:o9 X aS σ H s):∀b∈Hi X.stack,H b=none:=λb hb=>by
 rcases aD.mp (I.stkSub b hb)with e | hb
 . rw[e];exact I.free
 . obtain⟨_,o,ho,_⟩:=I.ok.funs.mem hb;exact I.base.free b o ho (I.ok.frf b hb) λz=>I.ok.exfs b z hb
def o9.step{g':Array GenState}{t':Nat}{d':Drawn}{ch:List Addr}(I:o9 X aS σ H s)
    (jg:∀b∈ch,(b∈X.ex\/X.s₀.heap.objs.size<=b)/\b≠X.env.locals/\(∀x c,X.env.cells.lookup x=some c->c≠b)/\∀p∈X.pn++aS,p.1≠b)
    (keep:∀b o,b≠X.env.locals->b ∉ X.fs->b ∉ ch->s.heap.get? b=some o->H b=none->h'.get? b=some o)
    (slot:∀b o,b≠X.env.locals->b∈X.fs->b ∉ ch->s.heap.get? b=some o->H b=none->∃sl,h'.get? b=some { o with slots:=sl }) (free:∀b o,b ∉ ch->s.heap.get? b=some o->H b=none->H' b=none)
    (there:∀b o,b ∉ ch->s.heap.get? b=some o->∃o',h'.get? b=some o')
    (tups:∀b xs,H b=some (.tup xs)->H' b=some (.tup xs)) (frzs:∀b o u,H b=some (.frz o u)->H' b=some (.frz o u)) (tbls:∀b ps,H b=some (.tbl ps)->∃more,H' b=some (.tbl (ps++more)))
    (ns:∀m,s.heap.Ns X.env.locals m->h'.Ns X.env.locals m) (hok:AE X.prog X.w H' h') (hg:AllBare g') :
    o9 X aS σ H' { s with heap:=h',gens:=g',drawn:=d',toks:=t' }:=by
 have lX:∀b o,X.s₀.heap.get? b=some o->b≠X.env.locals:=λb o e=>aB (aA (ao e) I.ok.above);have jx:∀b o,X.s₀.heap.get? b=some o->b ∉ X.ex->b ∉ ch:=λb o e hx hb=>by
  rcases(jg b hb).1 with z | z
  . exact hx z
  . exact absurd (aA (ao e) z) (aM _)
 have kx:∀x c,X.env.cells.lookup x=some c->∀v,s.heap.IsCell c v->h'.IsCell c v:=λx c e v ⟨o,ho,hd⟩=>by
  have nh:c ∉ ch:=λz=>(jg c z).2.2.1 x c e rfl;by_cases hc:c∈X.fs
  . obtain⟨sl,q⟩:=slot c o (I.cne x c e) hc nh ho (I.freeC x c e);exact⟨_,q,hd⟩
  . exact⟨o,keep c o (I.cne x c e) hc nh ho (I.freeC x c e),hd⟩
 refine⟨I.ok,I.os,hg,⟨λb o e n hb hx=>?_,λb o e n hb hx=>?_,λb o e n hx=>?_,λb o e hx=>?_,λb xs e=>tups b xs (I.base.tups b xs e),λb o xs e=>frzs b o xs (I.base.frzs b o xs e),λb ps e=>?_⟩,?_,λx c e=>?_,?_,λx c e=>?_,λp hp=>?_,hok,I.len⟩
 . exact keep b o (lX b o e) hb (jx b o e hx) (I.base.keep b o e n hb hx) (I.base.free b o e n hx)
 . obtain⟨sl,e1⟩:=I.base.slot b o e n hb hx;obtain⟨qV,e2⟩:=slot b _ (lX b o e) hb (jx b o e hx) e1 (I.base.free b o e n hx);exact⟨qV,e2⟩
 . obtain⟨o',e1⟩:=I.base.there b o e hx;exact free b o' (jx b o e hx) e1 (I.base.free b o e n hx)
 . obtain⟨o',e1⟩:=I.base.there b o e hx;exact there b o' (jx b o e hx) e1
 . obtain⟨m1,e1⟩:=I.base.tbls b ps e;obtain⟨m2,e2⟩:=tbls b _ e1;exact⟨m1++m2,by rw[e2,Array.append_assoc]⟩
 . obtain⟨m,hn,hl⟩:=I.loc;refine⟨m,ns m hn,λi x v e1 e2 e3=>?_⟩;obtain⟨u,r,l⟩:=hl i x v e1 e2 e3;refine⟨u,r,?_⟩;rcases l with l | ⟨k,c,e,z⟩
   . exact .inl l
   . exact .inr ⟨k,c,e,kx x c e _ z⟩
 . obtain⟨v,z⟩:=I.cell x c e;exact⟨v,kx x c e v z⟩
 . obtain⟨m,⟨o,_,_,ho,_⟩,_⟩:=I.loc;exact free _ o (λz=>(jg _ z).2.1 U) ho I.free
 . obtain⟨v,o,ho,hd⟩:=I.cell x c e;exact free c o (λz=>(jg c z).2.2.1 x c e U) ho (I.freeC x c e)
 . obtain⟨e,n,ne,nf,d⟩:=I.pin p hp;have nh:p.1 ∉ ch:=λz=>(jg p.1 z).2.2.2 p hp rfl;exact⟨keep p.1 p.2 ne nf nh e n,free p.1 p.2 nh e n,ne,nf,d⟩
def o9.un{t':Nat}(I:o9 X aS σ H s)(u:Un X.fs [] H H' s.heap h')(hok:AE X.prog X.w H' h'):o9 X aS σ H' { s with heap:=h',toks:=t' }:=by
 obtain⟨m,⟨o,es,ep,ho,r⟩,_⟩:=id I.loc;obtain⟨sl,hL⟩:=u.any ho I.free (by simp);exact I.step (g':=s.gens) (d':=s.drawn) (ch:=[]) (λ_ z=>nomatch z) (λb o _ hb _ e n=>u.keep b o e n hb (by simp)) (λb o _ hb _ e n=>u.slot b o e n hb (by simp)) (λb o _ e n=>u.free b o e n (by simp)) (λb o _ e=>u.there b o e (by simp)) u.tups u.frzs u.tbls (λm' hm=>by
  obtain⟨o',jM,my,jF,r'⟩:=hm;rw[ho]at jF;cases jF;exact⟨_,jM,my,hL,r'⟩) hok I.bare
def o9.call{g':Array GenState}{t':Nat}{d':Drawn}{ch:List Addr}(I:o9 X aS σ H s)(u:Un (Hi X.stack) ch H H' s.heap h')(hok:AE X.prog X.w H' h')(hg:AllBare g')
    (jg:∀b∈ch,(b∈X.ex\/X.s₀.heap.objs.size<=b)/\b≠X.env.locals/\(∀x c,X.env.cells.lookup x=some c->c≠b)/\∀p∈X.pn++aS,p.1≠b) :
    o9 X aS σ H' { s with heap:=h',gens:=g',drawn:=d',toks:=t' }:=by
 obtain⟨m,⟨o,es,ep,ho,r⟩,_⟩:=id I.loc;obtain⟨sl,hL⟩:=u.any ho I.free λz=>(jg _ z).2.1 rfl;exact I.step (ch:=ch) jg (λb o hL hb hc e n=>u.keep b o e n (λz=>(aD.mp (I.stkSub b z)).elim hL hb) hc) (λb o _ _ hc e n=>u.any e n hc) (λb o hc e n=>u.free b o e n hc) (λb o hc e=>u.there b o e hc) u.tups u.frzs u.tbls (λm' hm=>by
  obtain⟨o',jM,my,jF,r'⟩:=hm;rw[ho]at jF;cases jF;exact⟨_,jM,my,hL,r'⟩) hok hg
def o9.turned{t':Nat}{it:Addr}(I:o9 X aS σ H s)(k:∀b o,b≠it->s.heap.get? b=some o->h'.get? b=some o)(hn:H it=none)(hL:it≠X.env.locals)
    (h1:it∈X.ex\/X.s₀.heap.objs.size<=it) (h2:∀x c,X.env.cells.lookup x=some c->c≠it) (h3:∀p∈X.pn++aS,p.1≠it):o9 X aS σ H { s with heap:=h',toks:=t' }:=by
 have mY:∀b u,H b=some u->b≠it:=λb u e z=>by rw[z,hn]at e;cases e
 refine I.step (g':=s.gens) (d':=s.drawn) (ch:=[it]) (λb hb=>?_) (λb o _ _ hc e _=>k b o (λz=>hc (by simp[z])) e) (λb o _ _ hc e _=>⟨o.slots,k b o (λz=>hc (by simp[z])) e⟩) (λ_ _ _ _ n=>n)
  (λb o hc e=>⟨o,k b o (λz=>hc (by simp[z])) e⟩) (λ_ _ e=>e) (λ_ _ _ e=>e) (λb ps e=>⟨#[],by rw[e];simp⟩) (λm hm=>?_) (λb u e=>?_) I.bare
 . have e:b=it:=by simpa using hb
   subst e;exact⟨h1,hL,h2,h3⟩
 . obtain⟨o,es,ep,ho,r⟩:=hm;exact⟨o,es,ep,k _ o (Ne.symm hL) ho,r⟩
 . refine(I.hok b u e).stay (λc v hc q=>k c v ?_ q) (λ_ q=>q) λ_ _ q=>q;rcases hc with z | z
   . rw[z];exact mY b u e
   . exact mY c _ z
def o9.tok(I:o9 X aS σ H s)(t:Nat):o9 X aS σ H { s with toks:=t }:=I.un (h':=s.heap) (t':=t) Un.refl I.hok
theorem o9.kept{t':Nat}(I:o9 X aS σ H s)(k:∀b u,s.heap.get? b=some u->h'.get? b=some u):o9 X aS σ H { s with heap:=h',toks:=t' }:=I.un (Un.kept k) (I.hok.kept k)
theorem o9.laid{a:Addr}{o:HO}{t':Nat}(I:o9 X aS σ H s)(k:∀b u,s.heap.get? b=some u->h'.get? b=some u)(hp:s.heap.objs.size<=a)(new:M7 X.prog X.w (upd H a o) h' a o) :
    o9 X aS σ (upd H a o) { s with heap:=h',toks:=t' }:=I.un (Un.laid k hp (I.hok.fresh hp)) (I.hok.laid k hp new)
theorem o9.write{x e:Addr}{o:HO}{t':Nat}(I:o9 X aS σ H s)(mu:Mut (H x))(he:e=x\/H e=some (.own x))(k:∀b u,b≠e->s.heap.get? b=some u->h'.get? b=some u)(mn:∃u,h'.get? e=some u)
    (new:M7 X.prog X.w (upd H x o) h' x o):o9 X aS σ (upd H x o) { s with heap:=h',toks:=t' }:=I.un (Un.write mu he k mn) (I.hok.write mu he k mn new)
def o9.weak{σ':List (Option V)}(I:o9 X aS σ H s)(hl:σ'.length=σ.length)(w:∀(i:Nat) v,σ'[i]? = some (some v)->σ[i]? = some (some v)):o9 X aS σ' H s:=
 ⟨I.ok,I.os,I.bare,I.base,let⟨m,hn,vO⟩:=I.loc;⟨m,hn,λi x v e1 e2 e3=>vO i x v e1 (w i v e2) e3⟩,I.cell,I.free,I.freeC,I.pin,I.hok,hl.trans I.len⟩
def o9.pins_of{pins':List (Addr × Obj)}(I:o9 X aS σ H s)(h:∀p∈pins',s.heap.get? p.1=some p.2/\H p.1=none/\p.1≠X.env.locals/\p.1 ∉ X.fs/\∀v,p.2.data≠.cell v):o9 X pins' σ H s:=
 ⟨I.ok,I.os,I.bare,I.base,I.loc,I.cell,I.free,I.freeC,λp hp=>(aH.mp hp).elim (λz=>I.pin p (bC _ z)) (h p),I.hok,I.len⟩
def Nk{N:List Str}(hN:N.Nodup){i j:Nat}{x:Str}(a:N[i]? = some x)(b:N[j]? = some x):i=j:=by
 obtain⟨h1,e1⟩:=aU.mp a;obtain⟨h2,e2⟩:=aU.mp b;exact(List.getElem_inj hN).mp (e1.trans e2.symm)
def JQ{M:Model}{A:Around}{E:Value->Shared->Prop}{i:Nat}{x:Str}{v:V}{u:Value}{Q:Unit->Shared->Prop}(I:o9 X aS σ H s)(hN:X.N.Nodup)(hi:X.N[i]? = some x)(hx:b0t X.env.scope x)(r:D2 v u)
    (h:∀s',o9 X aS (σ.set i (some v)) H s'->(∃a,Heap.SameBut a s.heap s'.heap/\(a=X.env.locals\/X.env.cells.lookup x=some a))->Q () s') (hf:X.fn x=true\/X.env.scope.names.lookup x=some .local:=by first | exact .inl rfl | exact .inr rfl | assumption):wpAny M A (storeName X.env x u) Q E s:=by
 obtain⟨m,hn,hl⟩:=id I.loc;have tP:(X.env.scope.kind == .class || (X.env.scope.kind == .module && X.env.locals != X.env.globals))=false:=by rw[I.ok.kind];rfl
 have nY:i < σ.length:=by rw[I.len];exact(aU.mp hi).1
 have cne:=I.cne;have gX:∀{a:Addr} {h':Heap},(∃o,s.heap.get? a=some o/\H a=none)->Heap.SameBut a s.heap h'->AE X.prog X.w H h':=λ{a h'} ha hs b ob e=>by
  obtain⟨_,_,ke⟩:=ha;refine(I.hok b ob e).stay (λc w' hc q=>(hs.2 c ?_).trans q) (λ_ q=>q) λ_ _ q=>q;rintro rfl;rcases hc with rfl | hc
  . rw[ke]at e;cases e
  . rw[ke]at hc;cases hc
 rcases hx with hk | hk
 . refine wpAny_storeName_local hk hn (λh' mj hs=>?_) tP;obtain⟨oL,_,_,hoL,_⟩:=id hn;refine h _ ⟨I.ok,I.os,I.bare,⟨λb o e n hb hx=>?_,λb o e n hb hx=>?_,I.base.free,λb o e hx=>?_,I.base.tups,I.base.frzs,I.base.tbls⟩,⟨_,mj,λj y v' e1 e2 e3=>?_⟩,λy c e=>?_,I.free,I.freeC,λp hp=>?_,gX ⟨oL,hoL,I.free⟩ hs,by simpa using I.len⟩ ⟨_,hs,.inl U⟩
   . exact(hs.2 b (aB (aA (ao e) I.ok.above))).trans (I.base.keep b o e n hb hx)
   . obtain⟨sl,e1⟩:=I.base.slot b o e n hb hx;exact⟨sl,(hs.2 b (aB (aA (ao e) I.ok.above))).trans e1⟩
   . obtain⟨o',e1⟩:=I.base.there b o e hx;exact⟨o',(hs.2 b (aB (aA (ao e) I.ok.above))).trans e1⟩
   . by_cases hj:j=i
     . subst hj;rw[hi]at e1;cases e1;rw[cg nY]at e2;cases e2;exact⟨u,r,.inl ⟨hk,by simp⟩⟩
     . rw[bL (Ne.symm hj)]at e2;obtain⟨u',r',q⟩:=hl j y v' e1 e2 e3;refine⟨u',r',?_⟩;rcases q with ⟨k,e⟩ | ⟨k,c,e,z⟩
       . refine .inl ⟨k,?_⟩;have:y≠x:=λe=>hj (Nk hN e1 (e▸hi));simp[this,e]
       . exact .inr ⟨k,c,e,z.sameBut hs (cne y c e)⟩
   . obtain⟨w',z⟩:=I.cell y c e;exact⟨w',z.sameBut hs (cne y c e)⟩
   . obtain⟨e,n,ne,nf,d⟩:=I.pin p hp;exact⟨(hs.2 p.1 ne).trans e,n,ne,nf,d⟩
 . have tJ:X.fn x=true:=by
    rcases hf with z | z
    . exact z
    . rw[z]at hk;cases hk
   obtain⟨c,hc⟩:=I.ok.has x (.inl hk);obtain⟨w',z⟩:=I.cell x c hc;refine wpAny_storeName_cell I.ok.kind hk hc z (λh' iA hs=>?_);obtain⟨oc,vM,sW⟩:=id z;refine h { s with heap:=h' } ⟨I.ok,I.os,I.bare,⟨λb o e n hb hx=>?_,λb o e n hb hx=>?_,I.base.free,λb o e hx=>?_,I.base.tups,I.base.frzs,I.base.tbls⟩,⟨m,hn.sameBut hs (Ne.symm (cne x c hc)),λj y v' e1 e2 e3=>?_⟩,λy c' e=>?_,I.free,I.freeC,λp hp=>?_,gX ⟨oc,vM,I.freeC x c hc⟩ hs,by simpa using I.len⟩ ⟨c,hs,.inr hc⟩
   . exact(hs.2 b (aB (aA (ao e) (I.ok.cab x c tJ hc)))).trans (I.base.keep b o e n hb hx)
   . obtain⟨sl,e1⟩:=I.base.slot b o e n hb hx;exact⟨sl,(hs.2 b (aB (aA (ao e) (I.ok.cab x c tJ hc)))).trans e1⟩
   . obtain⟨o',e1⟩:=I.base.there b o e hx;exact⟨o',(hs.2 b (aB (aA (ao e) (I.ok.cab x c tJ hc)))).trans e1⟩
   . by_cases hj:j=i
     . subst hj;rw[hi]at e1;cases e1;rw[cg nY]at e2;cases e2;exact⟨u,r,.inr ⟨.inl hk,c,hc,iA⟩⟩
     . rw[bL (Ne.symm hj)]at e2;obtain⟨u',r',q⟩:=hl j y v' e1 e2 e3;refine⟨u',r',?_⟩;rcases q with q | ⟨k,c',e,z'⟩
       . exact .inl q
       . refine .inr ⟨k,c',e,z'.sameBut hs ?_⟩;rintro rfl;exact hj (Nk hN e1 (I.ok.inj _ _ _ e hc▸hi))
   . by_cases pS:c'=c
     . subst pS;exact⟨_,iA⟩
     . obtain⟨w2,z2⟩:=I.cell y c' e;exact⟨w2,z2.sameBut hs pS⟩
   . obtain⟨e,n,ne,nf,d⟩:=I.pin p hp;refine⟨(hs.2 p.1 ?_).trans e,n,ne,nf,d⟩;intro q;rw[q,vM]at e;have q':oc=p.2:=Option.some.inj e;exact d w' (by rw[<- q'];exact sW)
def EG{M:Model}{A:Around}{E:Value->Shared->Prop}{i:Nat}{x:Str}{v:V}{u:Value}{Q:Unit->Shared->Prop}(I:o9 X aS σ H s)(hN:X.N.Nodup)(hi:X.N[i]? = some x)(hx:b0t X.env.scope x)(r:D2 v u)
    (h:∀s',o9 X aS (σ.set i (some v)) H s'->Q () s') (hf:X.fn x=true\/X.env.scope.names.lookup x=some .local:=by first | exact .inl rfl | exact .inr rfl | assumption):wpAny M A (storeName X.env x u) Q E s:=
 JQ I hN hi hx r (λs' I' _=>h s' I') hf
def o9.call'{s':Shared}{ch:List Addr}(I:o9 X aS σ H s)(ho:s'.os=s.os)(u:Un (Hi X.stack) ch H H' s.heap s'.heap)(hok:AE X.prog X.w H' s'.heap)(hg:AllBare s'.gens)
    (jg:∀b∈ch,(b∈X.ex\/X.s₀.heap.objs.size<=b)/\b≠X.env.locals/\(∀x c,X.env.cells.lookup x=some c->c≠b)/\∀p∈X.pn++aS,p.1≠b):o9 X aS σ H' s':=by
 obtain⟨h',g',d',t',o'⟩:=s';have e:o'=s.os:=ho;subst e;exact I.call (g':=g') (t':=t') (d':=d') u hok hg jg
end
abbrev XK:=Value->Option Addr->Hp->Prop
abbrev St:=List (Option V)
abbrev VK:=V->Hp->Prop
abbrev TE:=St->Hp->VK->Prop
abbrev TT:=St->Hp->(Bool->Hp->Prop)->Prop
abbrev TA:=St->Hp->(List V->Hp->Prop)->Prop
structure GY where
 nx:St->Hp->Prop
 rt:VK
 bk:St->Hp->Prop:=λ_ _=>False
 ct:St->Hp->Prop:=λ_ _=>False
abbrev TS:=GY->St->Hp->Prop
def EP(X:Cx)(aS:List (Addr × Obj))(σ:St)(Q:VK)(u:Value)(s':Shared):Prop:=∃v H',o9 X aS σ H' s'/\D2 v u/\Q v H'
def TP(X:Cx)(aS:List (Addr × Obj))(σ:St)(Q:Bool->Hp->Prop)(b:Bool)(s':Shared):Prop:=∃H',o9 X aS σ H' s'/\Q b H'
def AP(X:Cx)(aS:List (Addr × Obj))(σ:St)(Q:List V->Hp->Prop)(us:List Value)(s':Shared):Prop:=∃vs H',o9 X aS σ H' s'/\x8 vs us/\Q vs H'
def SP(X:Cx)(aS:List (Addr × Obj))(D:GY)(f:Flow)(s':Shared):Prop:=
 match f with
 | .next=>∃σ' H',o9 X aS σ' H' s'/\D.nx σ' H'
 | .brk=>∃σ' H',o9 X aS σ' H' s'/\D.bk σ' H'
 | .cont=>∃σ' H',o9 X aS σ' H' s'/\D.ct σ' H'
 | .ret u=>∃v σ' H',o9 X aS σ' H' s'/\D2 v u/\D.rt v H'
def PE(X:Cx)(e:Expr)(t:TE):Prop:=
 ∀(aS:List (Addr × Obj)) (s:Shared) (σ:St) (H:Hp) (Q:VK),o9 X aS σ H s->t σ H Q->wpAny (model X.prog X.w) X.A (eval e X.env) (EP X aS σ Q) X.xe s
def PT(X:Cx)(e:Expr)(t:TT):Prop:=
 ∀(aS:List (Addr × Obj)) (s:Shared) (σ:St) (H:Hp) (Q:Bool->Hp->Prop),o9 X aS σ H s->t σ H Q->wpAny (model X.prog X.w) X.A (isTrue e X.env (eval e X.env)) (TP X aS σ Q) X.xe s
def PW(X:Cx)(e:Expr)(t:TT):Prop:=
 ∀(gT:Sem Value) (aS:List (Addr × Obj)) (s:Shared) (σ:St) (H:Hp) (Q:Bool->Hp->Prop),o9 X aS σ H s->t σ H Q->wpAny (model X.prog X.w) X.A (isTrue e X.env gT) (TP X aS σ Q) X.xe s
def PW.pt{X:Cx}{e:Expr}{t:TT}(h:PW X e t):PT X e t:=h _
def PA(X:Cx)(es:List Expr)(t:TA):Prop:=
 ∀(pos:Pos) (aS:List (Addr × Obj)) (s:Shared) (σ:St) (H:Hp) (Q:List V->Hp->Prop),o9 X aS σ H s->t σ H Q->wpAny (model X.prog X.w) X.A (spliced (backTo pos (starEach es X.env))) (AP X aS σ Q) X.xe s
def PS(X:Cx)(st:Stmt)(t:TS):Prop:=
 ∀(aS:List (Addr × Obj)) (s:Shared) (σ:St) (H:Hp) (D:GY),o9 X aS σ H s->t D σ H->wpAny (model X.prog X.w) X.A (exec st X.env) (SP X aS D) X.xe s
def Mg(X:Cx)(st:List Stmt)(t:TS):Prop:=
 ∀(aS:List (Addr × Obj)) (s:Shared) (σ:St) (H:Hp) (D:GY),o9 X aS σ H s->t D σ H->wpAny (model X.prog X.w) X.A (execs st X.env) (SP X aS D) X.xe s
def I9{α:Type}{t:Sem α}{Q Q':α->Shared->Prop}{M:Model}{A:Around}{E:Value->Shared->Prop}{s:Shared}(h:wpAny M A t Q E s)(hQ:∀a s,Q a s->Q' a s):wpAny M A t Q' E s:=wpAny_mono h hQ λ_ _ x=>x
section
variable{X:Cx}
def bin{a b:Expr}{ta tb:TE}(ha:PE X a ta)(hb:PE X b tb){aS:List (Addr × Obj)}{s:Shared}{σ:St}{H:Hp}{R:V->V->Hp->Prop}(I:o9 X aS σ H s)(h:ta σ H λx H1=>tb σ H1 λy H2=>R x y H2)
    {α:Type} {Q:α->Shared->Prop} {f:Value->Value->Sem α}
    (hf:∀v u s2 x y H2,o9 X aS σ H2 s2->D2 x v->D2 y u->R x y H2->wpAny (model X.prog X.w) X.A (f v u) Q X.xe s2) :
    wpAny (model X.prog X.w) X.A (eval a X.env) (λv s₁=>wpAny (model X.prog X.w) X.A (eval b X.env) (λu s₂=>wpAny (model X.prog X.w) X.A (f v u) Q X.xe s₂) X.xe s₁) X.xe s:=by
 refine I9 (ha aS s σ H _ I h) λv s1 ⟨x,H1,I1,r1,q1⟩=>?_;refine I9 (hb aS s1 σ H1 _ I1 q1) λu s2 ⟨y,H2,I2,r2,q2⟩=>?_;exact hf v u s2 x y H2 I2 r1 r2 q2
def YG(i:Nat):TE:=λσ H Q=>∃v,σ[i]? = some (some v)/\Q v H
def tC(v:V):TE:=λ_ H Q=>Q v H
def Ux{i:Nat}{x:Str}{pos:Pos}(hN:X.N[i]? = some x)(hv:Vis X.env.scope x)(hd:(x == ("__debug__":Str))=false:=by decide)(gn:(x == ("__classdict__":Str))=false:=by decide):PE X (.Name x pos) (YG i):=by
 intro aS s σ H Q I h;obtain⟨v,e,h⟩:=h;obtain⟨m,hn,hl⟩:=I.loc;obtain⟨u,r,l⟩:=hl i x v hN e hv;have fin:EP X aS σ Q u s:=⟨v,H,I,r,h⟩;rcases l with ⟨hk,hm⟩ | ⟨hk,c,hc,gz⟩
 . exact wpAny_Name (wpAny_loadName_local I.ok.kind hk hn hm fin) hd
 . rcases hk with hk | hk
   . exact wpAny_Name (wpAny_loadName_cell I.ok.kind hk hc gz fin) hd
   . exact wpAny_Name (wpAny_loadName_free I.ok.kind hk hc gz fin gn) hd
def a9{i j pos}:PE X (.Constant (.int i) j pos) (tC (.int i)):=λ_ _ _ H _ I h=>wpAny_Constant_int ⟨.int i,H,I.tok _,⟨_,U⟩,h⟩
def X1{b j pos}:PE X (.Constant (.bool b) j pos) (tC (.bl b)):=λ_ _ _ H _ I h=>Constant_bool ⟨.bl b,H,I,U,h⟩
def Li{j pos}:PE X (.Constant .none j pos) (tC .non):=λ_ _ _ H _ I h=>Constant_none ⟨.non,H,I,U,h⟩
def Cu{x j pos}:PE X (.Constant (.str x) j pos) (tC (.str x)):=λ_ _ _ H _ I h=>Calls.Constant_str ⟨.str x,H,I.tok _,⟨_,U⟩,h⟩
def Gl(X:Cx)(x:Str):Prop:=X.env.kindOf x=some .globalImplicit
def Fl{E:Value->Shared->Prop}{aS:List (Addr × Obj)}{s:Shared}{σ:St}{H:Hp}{x:Str}{u:Value}{pos:Pos}{Q:Value->Shared->Prop}(I:o9 X aS σ H s)(hg:Gl X x)(hm:X.mg x=some u)(h:Q u s)
    (hd:(x == ("__debug__":Str))=false:=by decide):wpAny (model X.prog X.w) X.A (eval (.Name x pos) X.env) Q E s:=
 Calls.Name_function_global I.ok.kind hg (Calls.loadGlobal_global (by rw[I.ok.glob];exact I.mod.glob.keeps I.bk) hm h) hd
def AB{E:Value->Shared->Prop}{aS:List (Addr × Obj)}{s:Shared}{σ:St}{H:Hp}{x:Str}{u:Value}{pos:Pos}{Q:Value->Shared->Prop}(I:o9 X aS σ H s)(hg:Gl X x)(hm:X.mg x=none)(hv:bootBuiltins x=some u)(h:Q u s)
    (hn:x≠"__name__":=by decide) (hd:(x == ("__debug__":Str))=false:=by decide):wpAny (model X.prog X.w) X.A (eval (.Name x pos) X.env) Q E s:=by
 obtain⟨mb,h1,h2⟩:=I.mod.blt;exact Calls.Name_function_global I.ok.kind hg (Calls.loadGlobal_builtin (by rw[I.ok.glob];exact I.mod.glob.keeps I.bk) hm (by rw[I.ok.blt];exact h1.keeps I.bk) ((h2 x hn).trans hv) h) hd
def WX{x:Str}{v:V}{u:Value}{pos:Pos}(hg:Gl X x)(hm:X.mg x=some u)(r:D2 v u)(hd:(x == ("__debug__":Str))=false:=by decide):PE X (.Name x pos) (tC v):=
 λ_ _ _ H _ I h=>Fl I hg hm ⟨v,H,I,r,h⟩ hd
def EU{x:Str}{v:V}{u:Value}{pos:Pos}(hg:Gl X x)(hm:X.mg x=none)(hv:bootBuiltins x=some u)(r:D2 v u)(hn:x≠"__name__":=by decide)(hd:(x == ("__debug__":Str))=false:=by decide):PE X (.Name x pos) (tC v):=
 λ_ _ _ H _ I h=>AB I hg hm hv ⟨v,H,I,r,h⟩ hn hd
variable{a b:Expr}{ta tb:TE}{pos:Pos}
def PC(X:Cx)(op:CmpOp)(a b:Expr)(t:TE):Prop:=
 ∀(aS:List (Addr × Obj)) (s:Shared) (σ:St) (H:Hp) (Q:VK),o9 X aS σ H s->t σ H Q->
  wpAny (model X.prog X.w) X.A (eval a X.env) (λv s₁=>wpAny (model X.prog X.w) X.A (eval b X.env) (λu s₂=>wpAny (model X.prog X.w) X.A (compareOp op v u) (EP X aS σ Q) X.xe s₂) X.xe s₁) X.xe s
def UN(b:Expr){op:CmpOp}(h:op≠.In)(h2:op≠.NotIn):behindInMarks op b=false:=by
 have e1:(op == CmpOp.In)=false:=by cases op <;>first | rfl | exact absurd rfl h
 have e2:(op == CmpOp.NotIn)=false:=by cases op <;>first | rfl | exact absurd rfl h2
 cases b <;>simp[behindInMarks,e1,e2]
def tB(t:TE):TT:=λσ H Q=>t σ H λx H1=>∃c,x=.bl c/\Q c H1
def pt_cmp{op:CmpOp}{t:TE}(h:PC X op a b t)(h1:behindInMarks op b=false:=by first | exact UN _ bD bD | rfl):PT X (.Compare a [op] [b] pos) (tB t):=by
 intro aS s σ H Q I hw;refine wpAny_isTrue_Compare1 (I9 (h aS s σ H _ I hw) λv s1 h1=>I9 h1 λu s2 h2=>I9 h2 λc s3 ⟨x,H1,I1,r1,q1⟩=>?_) h1;obtain⟨d,rfl,q⟩:=q1;cases r1;exact wpAny_truthy_bool ⟨H1,I1,q⟩
def O7{e:Expr}{t:TE}(h:PE X e t)(he:∀gT,isTrue e X.env gT=(do let v <- gT;standAt e.pos;holding [v] (truthy v)):=by intro _;rfl):PT X e (tB t):=by
 intro aS s σ H Q I hw;refine isTrue_plain (I9 (h aS s σ H _ I hw) λv s1 ⟨x,H1,I1,r1,q1⟩=>?_) (he _);obtain⟨d,rfl,q⟩:=q1;cases r1;exact wpAny_truthy_bool ⟨H1,I1,q⟩
variable{tA oV:TT}{R9:List Expr}
def tAnd(t u:TT):TT:=λσ H Q=>t σ H λc H1=>if c=true then u σ H1 Q else Q false H1
def tOr(t u:TT):TT:=λσ H Q=>t σ H λc H1=>if c=true then Q true H1 else u σ H1 Q
def tNot(t:TT):TT:=λσ H Q=>t σ H λc H1=>Q (!c) H1
def QI(ha:PT X a tA):PW X (.BoolOp .And [a] pos) tA:=by
 intro wh aS s σ H Q I h;refine isTrue_and (I9 (ha aS s σ H Q I h) λc s1 e=>?_);cases c with
 | true=>exact isTrue_and_nil e
 | false=>exact e
def Ec(ha:PT X a tA):PW X (.BoolOp .Or [a] pos) tA:=by
 intro wh aS s σ H Q I h;refine isTrue_or (I9 (ha aS s σ H Q I h) λc s1 e=>?_);cases c with
 | false=>exact isTrue_or_nil e
 | true=>exact e
def OV(ha:PT X a tA)(hb:PW X (.BoolOp .And (b::R9) pos) oV):PW X (.BoolOp .And (a::b::R9) pos) (tAnd tA oV):=by
 intro wh aS s σ H Q I h;refine isTrue_and (I9 (ha aS s σ H _ I h) λc s1 ⟨H1,I1,q1⟩=>?_);cases c with
 | true=>exact hb wh aS s1 σ H1 Q I1 q1
 | false=>exact⟨H1,I1,q1⟩
def DE(ha:PT X a tA)(hb:PW X (.BoolOp .Or (b::R9) pos) oV):PW X (.BoolOp .Or (a::b::R9) pos) (tOr tA oV):=by
 intro wh aS s σ H Q I h;refine isTrue_or (I9 (ha aS s σ H _ I h) λc s1 ⟨H1,I1,q1⟩=>?_);cases c with
 | true=>exact⟨H1,I1,q1⟩
 | false=>exact hb wh aS s1 σ H1 Q I1 q1
def U7(ha:PT X a tA):PT X (.UnaryOp .Not a pos) (tNot tA):=by
 intro aS s σ H Q I h;exact isTrue_not (ha aS s σ H (λc H1=>Q (!c) H1) I h)
def c0v(ta tb:TE):TE:=λσ H Q=>ta σ H λx H1=>∃c,x=.bl c/\if c=true then tb σ H1 Q else Q (.bl false) H1
def tOrV(ta tb:TE):TE:=λσ H Q=>ta σ H λx H1=>∃c,x=.bl c/\if c=true then Q (.bl true) H1 else tb σ H1 Q
def c0q(ta:TE):TE:=λσ H Q=>ta σ H λx H1=>∃c,x=.bl c/\Q (.bl (!c)) H1
def Ed{op}{t:TE}(h:PE X a t):PE X (.BoolOp op [a] pos) t:=λaS s σ H Q I hw=>BoolOp_one (h aS s σ H Q I hw)
def Ge(ha:PE X a ta)(hb:PE X (.BoolOp .And (b::R9) pos) tb):PE X (.BoolOp .And (a::b::R9) pos) (c0v ta tb):=by
 intro aS s σ H Q I h;refine BoolOp_and (I9 (ha aS s σ H _ I h) λv s1 ⟨x,H1,I1,r1,q1⟩=>?_);obtain⟨c,rfl,q1⟩:=q1;cases r1;refine wpAny_truthy_bool ?_;cases c with
 | true=>exact hb aS s1 σ H1 Q I1 q1
 | false=>exact⟨.bl false,H1,I1,U,q1⟩
def e0r(ha:PE X a ta)(hb:PE X (.BoolOp .Or (b::R9) pos) tb):PE X (.BoolOp .Or (a::b::R9) pos) (tOrV ta tb):=by
 intro aS s σ H Q I h;refine BoolOp_or (I9 (ha aS s σ H _ I h) λv s1 ⟨x,H1,I1,r1,q1⟩=>?_);obtain⟨c,rfl,q1⟩:=q1;cases r1;refine wpAny_truthy_bool ?_;cases c with
 | false=>exact hb aS s1 σ H1 Q I1 q1
 | true=>exact⟨.bl true,H1,I1,U,q1⟩
def Pc(ha:PE X a ta):PE X (.UnaryOp .Not a pos) (c0q ta):=by
 intro aS s σ H Q I h;refine UnaryOp_ (I9 (ha aS s σ H _ I h) λv s1 ⟨x,H1,I1,r1,q1⟩=>?_);obtain⟨c,rfl,q1⟩:=q1;cases r1;exact not_of (wpAny_truthy_bool ⟨.bl (!c),H1,I1,U,q1⟩)
def tIf(t:TT)(ta tb:TE):TE:=λσ H Q=>t σ H λc H1=>if c=true then ta σ H1 Q else tb σ H1 Q
def UA{c:Expr}(hc:PT X c tA)(ha:PE X a ta)(hb:PE X b tb):PE X (.IfExp c a b pos) (tIf tA ta tb):=by
 intro aS s σ H Q I h;refine wpAny_IfExp (I9 (hc aS s σ H _ I h) λd s1 ⟨H1,I1,q1⟩=>?_);cases d with
 | true=>exact ha aS s1 σ H1 Q I1 q1
 | false=>exact hb aS s1 σ H1 Q I1 q1
end
def o7(K:aa)(H:Hp)(a:Addr)(xs:List V):Prop:=
 Rd H a (.lst xs)\/
  ∃(o:Obj) (its:Array Value) (n:Nat),K.lookup a=some o/\o.cls=.type "list"/\o.dict=none/\o.data=.seq its n/\its.size<=sizeLine/\x8 xs its.toList
def l9(K:aa)(H:Hp)(a:Addr)(xs:List V):Prop:=
 Rd H a (.tup xs)\/
  ∃(o:Obj) (its:Array Value) (n:Nat),K.lookup a=some o/\o.cls=.type "tuple"/\o.data=.seq its n/\its.size<=sizeLine/\x8 xs its.toList
def absV:Value->Option V
 | .none=>some .non
 | .bool b=>some (.bl b)
 | .int i _=>some (.int i)
 | .str x _=>some (.str x)
 | .bytes b _=>some (.byt b)
 | .float b _=>some (.flt b)
 | .ref a=>some (.ref a)
 | .type n=>some (.ty n)
 | _=>none
def D2.abs{x:V}{u:Value}(r:D2 x u):absV u=some x:=by
 cases x with
 | non=>cases r;rfl
 | bl _=>cases r;rfl
 | int _=>obtain⟨t,rfl⟩:=r;rfl
 | str _=>obtain⟨t,rfl⟩:=r;rfl
 | byt _=>obtain⟨t,rfl⟩:=r;rfl
 | flt _=>obtain⟨t,rfl⟩:=r;rfl
 | ref _=>cases r;rfl
 | ty _=>cases r;rfl
theorem D2.inj{x y:V}{u:Value}(r:D2 x u)(q:D2 y u):x=y:=Option.some.inj (r.abs.symm.trans q.abs)
theorem x8.inj:∀{xs ys:List V} {us:List Value},x8 xs us->x8 ys us->xs=ys
 | _,_,_,.nil,.nil=>rfl
 | _,_,_,.cons r t,.cons r' t'=>by rw[r.inj r',x8.inj t t']
section
variable{X:Cx}{aS:List (Addr × Obj)}{σ:St}{H:Hp}{s:Shared}{a:Addr}{xs ys:List V}
def o7.of{K:aa}(h:H a=some (.lst xs)):o7 K H a xs:=.inl (.inl h)
def l9.of{K:aa}(h:H a=some (.tup xs)):l9 K H a xs:=.inl (.inl h)
def o9.list(I:o9 X aS σ H s)(h:o7 X.K H a xs):∃its:List Value,x8 xs its/\PlainL s.heap a its.toArray/\xs.length<=sizeLine:=by
 rcases h with h | ⟨o,its,n,hk,hc,hd,hs,hz,r⟩
 . obtain⟨z,its,n,r,e⟩:=h.ok I.hok;exact⟨its,r,⟨_,n,e,U,U,U⟩,z⟩
 . refine⟨its.toList,r,⟨o,n,I.kIn a o hk,hc,hd,by simpa using hs⟩,?_⟩;have e:=r.length;simp only[Array.length_toList]at e;omega
def o9.tuple(I:o9 X aS σ H s)(h:l9 X.K H a xs):∃its:List Value,x8 xs its/\IsTup s.heap a its.toArray/\xs.length<=sizeLine:=by
 rcases h with h | ⟨o,its,n,hk,hc,hs,hz,r⟩
 . obtain⟨z,its,r,p,_⟩:=h.ok I.hok;exact⟨its,r,p,z⟩
 . refine⟨its.toList,r,⟨o,I.kIn a o hk,hc,n,by simpa using hs⟩,?_⟩;have e:=r.length;simp only[Array.length_toList]at e;omega
def o9.list_inj(I:o9 X aS σ H s)(h:o7 X.K H a xs)(h':o7 X.K H a ys):xs=ys:=by
 obtain⟨its,r,⟨o,n,e,_,_,d⟩,_⟩:=I.list h;obtain⟨its',r',⟨o',n',e',_,_,d'⟩,_⟩:=I.list h';rw[e]at e';cases e';rw[d]at d';injection d' with d1 _;have:its=its':=by simpa using congrArg Array.toList d1
 subst this;exact r.inj r'
def o9.tuple_inj(I:o9 X aS σ H s)(h:l9 X.K H a xs)(h':l9 X.K H a ys):xs=ys:=by
 obtain⟨its,r,⟨o,e,_,n,d⟩,_⟩:=I.tuple h;obtain⟨its',r',⟨o',e',_,n',d'⟩,_⟩:=I.tuple h';rw[e]at e';cases e';rw[d]at d';injection d' with d1 _;have:its=its':=by simpa using congrArg Array.toList d1
 subst this;exact r.inj r'
end
abbrev Cx.wish(X:Cx)(E:Value->Shared->Prop):Cx:={ X with xe:=E }
abbrev Cx.nox(X:Cx):Cx:=X.wish λ_ _=>False
theorem Cx.Ok.wish{X:Cx}(ok:X.Ok)(E:Value->Shared->Prop):(X.wish E).Ok:=
 ⟨ok.mod,ok.kind,ok.glob,ok.blt,ok.above,ok.inj,ok.has,ok.cab,ok.hd,ok.frames,ok.stk,ok.exf,ok.bs,ok.bsz,ok.noex,ok.exfs,ok.funs,ok.frf⟩
def Cx.Ok.unwish{X:Cx}{E:Value->Shared->Prop}(ok:(X.wish E).Ok):X.Ok:=
 ⟨ok.mod,ok.kind,ok.glob,ok.blt,ok.above,ok.inj,ok.has,ok.cab,ok.hd,ok.frames,ok.stk,ok.exf,ok.bs,ok.bsz,ok.noex,ok.exfs,ok.funs,ok.frf⟩
section
variable{X:Cx}{aS:List (Addr × Obj)}{σ:St}{H:Hp}{s:Shared}{E:Value->Shared->Prop}
theorem o9.wish(I:o9 X aS σ H s)(E:Value->Shared->Prop):o9 (X.wish E) aS σ H s:=⟨I.ok.wish E,I.os,I.bare,I.base,I.loc,I.cell,I.free,I.freeC,I.pin,I.hok,I.len⟩
theorem o9.unwish(I:o9 (X.wish E) aS σ H s):o9 X aS σ H s:=⟨I.ok.unwish,I.os,I.bare,I.base,I.loc,I.cell,I.free,I.freeC,I.pin,I.hok,I.len⟩
theorem SP.unwish{D:GY}{f:Flow}{s':Shared}(h:SP (X.wish E) aS D f s'):SP X aS D f s':=by
 cases f with
 | next=>obtain⟨σ',H',I,q⟩:=h;exact⟨σ',H',I.unwish,q⟩
 | brk=>obtain⟨σ',H',I,q⟩:=h;exact⟨σ',H',I.unwish,q⟩
 | cont=>obtain⟨σ',H',I,q⟩:=h;exact⟨σ',H',I.unwish,q⟩
 | ret u=>obtain⟨v,σ',H',I,r,q⟩:=h;exact⟨v,σ',H',I.unwish,r,q⟩
theorem PE.nox{e:Expr}{t:TE}(h:PE X.nox e t):PE X e t:=λaS s σ H Q I hw=>
 wpAny_mono (h aS s σ H Q (I.wish _) hw) (λ_ _ ⟨v,H',I',r,q⟩=>⟨v,H',I'.unwish,r,q⟩) λ_ _ z=>False.elim z
theorem PT.nox{e:Expr}{t:TT}(h:PT X.nox e t):PT X e t:=λaS s σ H Q I hw=>
 wpAny_mono (h aS s σ H Q (I.wish _) hw) (λ_ _ ⟨H',I',q⟩=>⟨H',I'.unwish,q⟩) λ_ _ z=>False.elim z
theorem Mg.nox{st:List Stmt}{t:TS}(h:Mg X.nox st t):Mg X st t:=λaS s σ H D I hw=>
 wpAny_mono (h aS s σ H D (I.wish _) hw) (λ_ _ q=>q.unwish) λ_ _ z=>False.elim z
end
section
variable{X:Cx}{st:Stmt}{R9:List Stmt}{t u:TS}{e:Expr}{te:TE}{pos:Pos}
def tNext:TS:=λD σ H=>D.nx σ H
def c0m(t u:TS):TS:=λD σ H=>t { D with nx:=u D } σ H
def o8:Mg X [] tNext:=λ_ _ σ H _ I h=>wpAny_execs_nil ⟨σ,H,I,h⟩
def c5(h1:PS X st t)(h2:Mg X R9 u):Mg X (st::R9) (c0m t u):=by
 intro aS s σ H D I h;refine wpAny_execs_cons (I9 (h1 aS s σ H { D with nx:=u D } I h) λf s1 q=>?_);cases f with
 | next=>
  obtain⟨σ',H',I',q⟩:=q;exact h2 aS s1 σ' H' D I' q
 | ret v=>exact q
 | brk=>exact q
 | cont=>exact q
def c4(h1:PS X st t):Mg X [st] t:=by
 intro aS s σ H D I h;refine wpAny_execs_cons (I9 (h1 aS s σ H D I h) λf s1 q=>?_);cases f with
 | next=>exact wpAny_execs_nil q
 | ret v=>exact q
 | brk=>exact q
 | cont=>exact q
def o9.quiet{aS:List (Addr × Obj)}{σ:St}{H:Hp}{s:Shared}(I:o9 X aS σ H s):interactive X.env=false:=by simp[interactive,I.ok.kind]
def c0u(te:TE):TS:=λD σ H=>te σ H λ_ H1=>D.nx σ H1
def E8(he:PE X e te)(hs:swapsWith e none pos.line X.env=pure false:=by rfl):PS X (.Expr e pos) (c0u te):=by
 intro aS s σ H D I h;exact wpAny_Expr_any (I9 (he aS s σ H _ I h) λv s1 ⟨x,H1,I1,r1,q1⟩=>⟨σ,H1,I1,q1⟩) I.quiet hs
def c0n(te:TE):TS:=λD σ H=>te σ H D.rt
def c9(he:PE X e te):PS X (.Return (some e) pos) (c0n te):=by
 intro aS s σ H D I h;exact wpAny_Return_some (I9 (he aS s σ H _ I h) λv s1 ⟨x,H1,I1,r1,q1⟩=>⟨x,σ,H1,I1,r1,q1⟩)
def tIfS(c:TT)(t u:TS):TS:=λD σ H=>c σ H λb H1=>if b=true then t D σ H1 else u D σ H1
def y8{c:Expr}{a b:List Stmt}{tc:TT}(hc:PT X c tc)(ha:Mg X a t)(hb:Mg X b u):PS X (.If c a b pos) (tIfS tc t u):=by
 intro aS s σ H D I h;refine wpAny_If (I9 (hc aS s σ H _ I h) λd s1 ⟨H1,I1,q1⟩=>?_);cases d with
 | true=>exact ha aS s1 σ H1 D I1 q1
 | false=>exact hb aS s1 σ H1 D I1 q1
def tNever:TS:=λ_ _ _=>False
def AN:PS X st tNever:=λ_ _ _ _ _ _ h=>h.elim
end
abbrev TG:=V->St->Hp->(St->Hp->Prop)->Prop
abbrev b0r:=List V->St->Hp->(St->Hp->Prop)->Prop
def PG(X:Cx)(dZ:Expr)(t:TG):Prop:=
 ∀(aS:List (Addr × Obj)) (s:Shared) (σ:St) (H:Hp) (v:V) (u:Value) (Q:St->Hp->Prop),o9 X aS σ H s->D2 v u->t v σ H Q->
  wpAny (model X.prog X.w) X.A (assign dZ X.env u) (λ_ s'=>∃σ' H',o9 X aS σ' H' s'/\Q σ' H') X.xe s
def o0m(X:Cx)(ts:List Expr)(t:b0r):Prop:=
 ∀(aS:List (Addr × Obj)) (s:Shared) (σ:St) (H:Hp) (vs:List V) (us:List Value) (Q:St->Hp->Prop),o9 X aS σ H s->x8 vs us->t vs σ H Q->
  wpAny (model X.prog X.w) X.A (assignInOrder ((assignEach ts X.env).map (·.2)) us) (λ_ s'=>∃σ' H',o9 X aS σ' H' s'/\Q σ' H') X.xe s
abbrev b0q:=V->V->V->Hp->(Hp->Prop)->Prop
def o0l(X:Cx)(t:b0q):Prop:=
 ∀(aS:List (Addr × Obj)) (s:Shared) (σ:St) (H:Hp) (o i v:V) (ov iv u:Value) (Q:Hp->Prop),o9 X aS σ H s->D2 o ov->D2 i iv->D2 v u->t o i v H Q->
  wpAny (model X.prog X.w) X.A (setItem ov iv u) (λ_ s'=>∃H',o9 X aS σ H' s'/\Q H') X.xe s
section
variable{X:Cx}{pos:Pos}
def L3(i:Nat):TG:=λv σ H Q=>Q (σ.set i (some v)) H
def p9{i:Nat}{x:Str}(hN:X.N.Nodup)(hi:X.N[i]? = some x)(hx:b0t X.env.scope x)(hf:X.fn x=true\/X.env.scope.names.lookup x=some .local:=by first | exact .inl rfl | exact .inr rfl | assumption):PG X (.Name x pos) (L3 i):=by
 intro aS s σ H v u Q I r h;exact wpAny_assign_Name (EG I hN hi hx r (λs' I'=>⟨_,H,I',h⟩) hf)
def gNil:b0r:=λvs σ H Q=>vs=[]/\Q σ H
def n0q(t:TG)(u:b0r):b0r:=λvs σ H Q=>∃v r,vs=v::r/\t v σ H λσ' H'=>u r σ' H' Q
def D3:o0m X [] gNil:=by
 intro aS s σ H vs us Q I r h;obtain⟨e,h⟩:=h;subst e;cases r;exact assignInOrder_nil ⟨σ,H,I,h⟩
def j8{e:Expr}{es:List Expr}{t:TG}{u:b0r}(h1:PG X e t)(h2:o0m X es u)
    (hs:(assignEach (e::es) X.env).map (·.2)=assign e X.env::(assignEach es X.env).map (·.2):=by rfl):o0m X (e::es) (n0q t u):=by
 intro aS s σ H vs us Q I r h;obtain⟨v,vr,e1,h⟩:=h;subst e1;cases r with
 | cons r rr=>
  rw[hs];refine assignInOrder_cons (I9 (h1 aS s σ H _ _ _ I r h) λ_ s1 ⟨σ1,H1,I1,q1⟩=>?_);exact h2 aS s1 σ1 H1 _ _ Q I1 rr q1
def Ft(K:aa)(n:Nat)(t:b0r):TG:=λv σ H Q=>∃a xs,v=.ref a/\l9 K H a xs/\xs.length=n/\t xs σ H Q
def J0{es:List Expr}{k:Nat}{t:b0r}{n:Nat}(hc:X.calm=true)(h:o0m X es t)
    (hn:(assignEach es X.env).length=n:=by rfl) (kT:(assignEach es X.env).findIdx? (·.1)=none:=by rfl):PG X (.Tuple es k pos) (Ft X.K n t):=by
 intro aS s σ H v u Q I r hw;obtain⟨a,xs,e1,hq,hl,hw⟩:=hw;subst e1;cases r;obtain⟨its,rv,ht,hz⟩:=I.tuple hq;refine assign_Tuple_tuple (I.ok.hd hc) ht (by simp[hn,<- hl,rv.length]) kT λh' hx=>?_;have I1:o9 X aS σ H { s with heap:=h' }:=I.kept (t':=s.toks) λb o e=>hx b o (aB (ao e)) e;exact h aS _ σ H xs _ Q I1 (by simpa using rv) hw
def gSub(to ti:TE)(t:b0q):TG:=λv σ H Q=>to σ H λo H1=>ti σ H1 λi H2=>t o i v H2 λH3=>Q σ H3
def Ct{o i:Expr}{to ti:TE}{t:b0q}(ho:PE X o to)(hi:PE X i ti)(hs:o0l X t)
    (ha:∀v,assign (.Subscript o i pos) X.env v=(do
     let ov <- holding [v] (eval o X.env)
     let iv <- holding [v,ov] (eval i X.env)
     standAt pos
     holding [v,ov,iv] (setItem ov iv v)
     release [v,ov,iv] []):=by intro _;rfl):PG X (.Subscript o i pos) (gSub to ti t):=by
 intro aS s σ H v u Q I r h;rw[ha];refine wpAny_bind (wpAny_holding (I9 (ho aS s σ H _ I h) λov s1 ⟨x,H1,I1,r1,q1⟩=>?_));refine wpAny_bind (wpAny_holding (I9 (hi aS s1 σ H1 _ I1 q1) λiv s2 ⟨y,H2,I2,r2,q2⟩=>?_));refine wpAny_bind (wpAny_standAt (wpAny_bind (wpAny_holding (I9 (hs aS s2 σ H2 x y v ov iv u _ I2 r1 r2 r q2) λ_ s3 ⟨H3,I3,q3⟩=>?_))));exact wpAny_release ⟨σ,H3,I3,q3⟩
def KH(te:TE)(g:TG):TS:=λD σ H=>te σ H λx H1=>g x σ H1 D.nx
def Z4{tg e:Expr}{te:TE}{g:TG}(he:PE X e te)(hg:PG X tg g)(hs:swapsWithSole [tg] e pos.line X.env=pure false:=by rfl)(hw:swappedStores [tg] e X.env=pure none:=by rfl)
    (h1:(assignEach [tg] X.env).map (·.2)=[assign tg X.env]:=by rfl):PS X (.Assign [tg] e pos) (KH te g):=by
 intro aS s σ H D I h;refine wpAny_Assign_stores (I9 (he aS s σ H _ I h) λv s1 ⟨x,H1,I1,r1,q1⟩=>?_) hs hw;rw[h1];exact I9 (hg aS s1 σ H1 x v _ I1 r1 q1) λ_ s2 q=>q
def M6{i:Nat}{x:Str}{e:Expr}{te:TE}{fJ:Pos}(hN:X.N.Nodup)(hi:X.N[i]? = some x)(hx:b0t X.env.scope x)(he:PE X e te)(hs:swapsWith e (some (.Name x fJ)) pos.line X.env=pure false:=by rfl)(hf:X.fn x=true\/X.env.scope.names.lookup x=some .local:=by first | exact .inl rfl | exact .inr rfl | assumption) :
    PS X (.Assign [.Name x fJ] e pos) (KH te (L3 i)):=by
 intro aS s σ H D I h;refine wpAny_Assign_Name (I9 (he aS s σ H _ I h) λv s1 ⟨y,H1,I1,r1,q1⟩=>?_) hs;exact EG I1 hN hi hx r1 (λs2 I2=>⟨_,H1,I2,q1⟩) hf
def tPar(i j:Nat)(ta:TA):TS:=λD σ H=>ta σ H λvs H1=>∃v w,vs=[v,w]/\D.nx ((σ.set i (some v)).set j (some w)) H1
def OW{i j:Nat}{x y:Str}{a b:Expr}{ta:TA}{px py pt:Pos}{kt k2 pt2}(hc:X.calm=true)(hN:X.N.Nodup)(hi:X.N[i]? = some x)(hj:X.N[j]? = some y)(iS:i≠j)
    (hx:X.env.scope.names.lookup x=some .local) (hy:X.env.scope.names.lookup y=some .local) (ha:PA X [a,b] ta)
    (hw:swappedStores [.Tuple [.Name x px,.Name y py] kt pt] (.Tuple [a,b] k2 pt2) X.env=pure (some [x,y]))
    (hs:swapsWithSole [.Tuple [.Name x px,.Name y py] kt pt] (.Tuple [a,b] k2 pt2) pos.line X.env=pure false:=by rfl) :
    PS X (.Assign [.Tuple [.Name x px,.Name y py] kt pt] (.Tuple [a,b] k2 pt2) pos) (tPar i j ta):=by
 intro aS s σ H D I h;rw[exec_Assign_arm];refine wpAny_bind (wpAny_standAt ?_);rw[hs];refine wpAny_bind (wpAny_pure ?_);rw[if_neg bD];refine wpAny_bind (Tuple_ (I9 (ha _ aS s σ H _ I h) λus s1 ⟨vs,H1,I1,r1,q1⟩=>?_));obtain⟨v,w,e1,q1⟩:=q1;subst e1;obtain⟨u1,u2,rfl,rv,jT⟩:∃u1 u2,us=[u1,u2]/\D2 v u1/\D2 w u2:=by
  cases r1 with
  | cons p q=>
   cases q with
   | cons p' q'=>
    cases q';exact za ⟨U,p,p'⟩
 refine wpAny_newObj_type ?_ sL;have I2:o9 X aS σ H1 { s1 with heap:=s1.heap.push { cls:=.type "tuple",data:=.seq [u1,u2].toArray } }:=I1.kept (t':=s1.toks) λb o e=>ak _ e;rw[hw];refine wpAny_bind (wpAny_pure ?_);show wpAny (model X.prog X.w) X.A (do rule "assign.swapped-stores";let items <- unpackItems (.ref s1.heap.objs.size) 2 none;assignInOrder [λv=>bindName X.env y v,λv=>bindName X.env x v] items.reverse;pure Flow.next) _ _ _;refine wpAny_bind (wpAny_rule (wpAny_bind (unpackItems_tuple (items:=#[u1,u2]) (I.ok.hd hc) (IsTup.new s1.heap _) λh' iN=>?_)));have I3:=I2.kept (h':=h') (t':=s1.toks) λb o e=>iN b o (aB (ao e)) e;show wpAny _ _ (assignInOrder [λv=>bindName X.env y v,λv=>bindName X.env x v] [u2,u1] >>= λ_=>pure Flow.next) _ _ _;refine wpAny_bind (assignInOrder_cons (wpAny_bindName (EG I3 hN hj (.inl hy) jT (λs2 I4=>?_) (.inr hy))));refine assignInOrder_cons (wpAny_bindName (EG I4 hN hi (.inl hx) rv (λs3 I5=>assignInOrder_nil (wpAny_pure ?_)) (.inr hx)));rw[List.set_comm _ _ (Ne.symm iS)]at I5;exact⟨_,H1,I5,q1⟩
end
section
variable{X:Cx}{pos:Pos}
def YF(c:TT)(tb:TS):TS:=λD σ H=>∃W:Nat->St->Hp->Prop,(∃m,W m σ H)/\∀m σ H,W m σ H->
 c σ H λb H1=>if b=true then ∃N:St->Hp->Prop,(∀σ' H',N σ' H'->∃m',m' < m/\W m' σ' H')/\tb { D with nx:=N,ct:=N,bk:=D.nx } σ H1 else D.nx σ H1
def AM{c:Expr}{body:List Stmt}{tc:TT}{tb:TS}(hp:PassesOwn (model X.prog X.w) X.A X.env X.xe)(hc:PT X c tc)(hb:Mg X body tb):PS X (.While c body [] pos) (YF tc tb):=by
 intro aS s σ H D I h;obtain⟨W,⟨m0,w0⟩,turn⟩:=h;refine wpAny_While (codeAny_whileLoop (λn s'=>∃σ' H',o9 X aS σ' H' s'/\W n σ' H') ?_ m0 ⟨σ,H,I,w0⟩);rintro n s1 ⟨σ1,H1,I1,w1⟩;refine wpAny_passesOwn hp (I9 (hc aS s1 σ1 H1 _ I1 (turn n σ1 H1 w1)) λb s2 ⟨H2,I2,q2⟩=>?_);cases b with
 | true=>
  obtain⟨N,hN,q2⟩:=q2;rw[if_pos rfl];refine wpAny_passesOwn hp (I9 (hb aS s2 σ1 H2 _ I2 q2) λf s3 q3=>?_);cases f with
  | next=>
   obtain⟨σ3,H3,I3,n3⟩:=q3;obtain⟨m',hm,w3⟩:=hN σ3 H3 n3;exact⟨m',hm,σ3,H3,I3,w3⟩
  | cont=>
   obtain⟨σ3,H3,I3,n3⟩:=q3;obtain⟨m',hm,w3⟩:=hN σ3 H3 n3;exact⟨m',hm,σ3,H3,I3,w3⟩
  | brk=>exact q3
  | ret v=>exact q3
 | false=>
  rw[if_neg aO];exact wpAny_execs_nil ⟨σ1,H2,I2,q2⟩
end
structure It where
 go:Nat->Hp->Prop
 yld:Nat->Hp->V->Hp->Prop
 stop:Nat->Hp->Prop
def Bf(X:Cx)(aS:List (Addr × Obj))(H:Hp)(b:Addr):Prop:=
 H b=none/\b≠X.env.locals/\b ∉ X.fs/\(b∈X.ex\/X.s₀.heap.objs.size<=b)/\(∀x c,X.env.cells.lookup x=some c->c≠b)/\∀p∈X.pn++aS,p.1≠b
def o9.fpOk{X:Cx}{aS:List (Addr × Obj)}{σ:St}{H H':Hp}{s:Shared}{b:Addr}(I:o9 X aS σ H s)(hb:s.heap.objs.size<=b)(hn:H' b=none):Bf X aS H' b:=by
 refine⟨hn,bT (aA I.lt hb),I.nofs hb,.inr (ag I.sz hb),λx c e z=>?_,λp hp z=>?_⟩
 . obtain⟨v,q⟩:=I.cell x c e;exact absurd (aA q.lt (by rw[z];exact hb)) (aM _)
 . exact absurd (aA (ao (I.pin p hp).1) (by rw[z];exact hb)) (aM _)
structure Md(P:Program)(w:World)(K:aa)(tg:Expr)(J:It)(fp:List Addr)(it:Addr)(tn:Nat->Heap->Prop):Prop where
 mem:it∈fp
 obj:∀i h,tn i h->∀b∈fp,∃o,h.get? b=some o/\∀v,o.data≠.cell v
 keep:∀i h h',tn i h->(∀b∈fp,∀o,h.get? b=some o->h'.get? b=some o)->tn i h'
 item:∀(X:Cx),X.prog=P->X.w=w->X.K=K->X.calm=true->∀(i:Nat) (aS:List (Addr × Obj)) (s:Shared) (σ:St) (H:Hp) (E:Value->Shared->Prop),o9 X aS σ H s->(∀b∈fp,Bf X aS H b)->tn i s.heap->J.go i H->
  wpAny (model P w) X.A (pyNext (.ref it)) (λr s1=>∃u,r=some u/\
   wpAny (model P w) X.A (letOwnedTupleGo tg (.ref it) u) (λ_ s2=>∃x H',o9 X aS σ H' s2/\D2 x u/\J.yld i H x H'/\tn (i+1) s2.heap/\∀b∈fp,H' b=none) E s1) E s
 done:∀(X:Cx),X.prog=P->X.w=w->X.K=K->X.calm=true->∀(i:Nat) (aS:List (Addr × Obj)) (s:Shared) (σ:St) (H:Hp) (E:Value->Shared->Prop),o9 X aS σ H s->(∀b∈fp,Bf X aS H b)->tn i s.heap->J.stop i H->
  wpAny (model P w) X.A (pyNext (.ref it)) (λr s1=>r=none/\o9 X aS σ H s1) E s
 self:∀(A:Around) (i:Nat) (s:Shared) (Q:Value->Shared->Prop) (E:Value->Shared->Prop),tn i s.heap->Q (.ref it) s->wpAny (model P w) A (pyIter (.ref it)) Q E s
abbrev TI:=St->Hp->(It->Hp->Prop)->Prop
def PIE(X:Cx)(aS:List (Addr × Obj))(σ:St)(tg:Expr)(R:It->Hp->Prop)(pH:Value)(s2:Shared):Prop:=
 ∃(it:Addr) (fp:List Addr) (tn:Nat->Heap->Prop) (J:It) (H':Hp),pH=.ref it/\o9 X aS σ H' s2/\Md X.prog X.w X.K tg J fp it tn/\tn 0 s2.heap/\(∀b∈fp,Bf X aS H' b)/\R J H'
def PI(X:Cx)(tg iter:Expr)(wi:TI):Prop:=
 ∀(aS:List (Addr × Obj)) (s:Shared) (σ:St) (H:Hp) (R:It->Hp->Prop),o9 X aS σ H s->wi σ H R->
  wpAny (model X.prog X.w) X.A (eval iter X.env) (λv s1=>wpAny (model X.prog X.w) X.A (pyIter v) (PIE X aS σ tg R) X.xe s1) X.xe s
def Kf{M:Model}{A:Around}{E:Value->Shared->Prop}{s:Shared}{tg:Expr}{it:Addr}{u:Value}{o:Obj}{n:String}{vs:Array Value}{Q:Unit->Shared->Prop}(ho:s.heap.get? it=some o)(hc:o.cls=.type n)(hd:o.data=.fields vs)
    (hn:["enumerate","zip","dict_itemiterator","dict_reverseitemiterator","odict_iterator","itertools.zip_longest","itertools.pairwise"].contains n=false) (hQ:Q () s):wpAny M A (letOwnedTupleGo tg (.ref it) u) Q E s:=by
 unfold letOwnedTupleGo;cases tg <;>first
  | exact wpAny_pure hQ
  | (cases u <;>first
      | exact wpAny_pure hQ
      | (refine wpAny_bind (wpAny_load ho ?_)
         rw[hc,hd];show wpAny M A (if(["enumerate","zip","dict_itemiterator","dict_reverseitemiterator","odict_iterator","itertools.zip_longest","itertools.pairwise"].contains n && vs[0]? == some (rawInt _))=true then _ else _) Q E s;rw[if_neg (by intro h;rw[hn,Bool.false_and]at h;cases h)];exact wpAny_pure hQ))
def VX(K:aa)(a:Addr):It:=
 ⟨λi H=>∃xs x,o7 K H a xs/\xs[i]? = some x,λi H x H'=>H'=H/\∀xs,o7 K H a xs->xs[i]? = some x,λi H=>∃xs,o7 K H a xs/\xs.length<=i⟩
def VW(K:aa)(a:Addr):It:=
 ⟨λi H=>∃xs x,l9 K H a xs/\xs[i]? = some x,λi H x H'=>H'=H/\∀xs,l9 K H a xs->xs[i]? = some x,λi H=>∃xs,l9 K H a xs/\xs.length<=i⟩
def Yv(lo:Int)(n:Nat):It:=⟨λi _=>i < n,λi H x H'=>H'=H/\x=.int (lo+i),λi _=>n<=i⟩
def JN{P:Program}{w:World}{K:aa}{tg:Expr}(a it:Addr):Md P w K tg (VX K a) [it] it (λi h=>h.IsListIter it a i)where
 mem:=by simp
 obj:=λi h st b hb=>by
  have e:b=it:=by simpa using hb
  subst e;obtain⟨o,e,c,d⟩:=st;exact⟨o,e,λv z=>by rw[d]at z;cases z⟩
 keep:=λi h h' st k=>st.at λo e=>k it (by simp) o e
 item:=by
  intro X hP hw hK hc i aS s σ H E I hf st hg;subst hP hw hK;obtain⟨xs,x,hq,hx⟩:=hg;obtain⟨its,rv,p,hz⟩:=I.list hq;obtain⟨u,hu,ru⟩:=rv.get hx;obtain⟨f0,f1,f2,f3,f4,f5⟩:=hf it (by simp);refine wpAny_pyNext_list_item st p.isList (x:=u) (by simpa using hu) λh' dY sb=>?_;have I1:o9 X aS σ H { s with heap:=h' }:=I.turned (t':=s.toks) (λb o hb e=>(sb.2 b hb).trans e) f0 f1 f3 f4 f5;obtain⟨o,e,c,d⟩:=id dY;exact⟨u,U,Kf (s:={ s with heap:=h' }) e c d bD ⟨x,H,I1,ru,⟨U,λys hy=>by rw[I.list_inj hy hq];exact hx⟩,dY,λb hb=>(hf b hb).1⟩⟩
 done:=by
  intro X hP hw hK hc i aS s σ H E I hf st hg;subst hP hw hK;obtain⟨xs,hq,hx⟩:=hg;obtain⟨its,rv,p,hz⟩:=I.list hq;obtain⟨f0,f1,f2,f3,f4,f5⟩:=hf it (by simp);have hl:=rv.length;exact wpAny_pyNext_list_end (I.ok.hd hc) st p.isList (by simp;omega) λh' eb=>⟨U,I.turned (t':=s.toks) (λb o hb e=>eb b o hb e) f0 f1 f3 f4 f5⟩
 self:=λ_ _ _ _ _ st h=>wpAny_pyIter_listiter st h
def Hq{P:Program}{w:World}{K:aa}{tg:Expr}(a it:Addr):Md P w K tg (VW K a) [it] it (λi h=>h.IsTupleIter it a i)where
 mem:=by simp
 obj:=λi h st b hb=>by
  have e:b=it:=by simpa using hb
  subst e;obtain⟨o,e,c,d⟩:=st;exact⟨o,e,λv z=>by rw[d]at z;cases z⟩
 keep:=λi h h' st k=>st.at λo e=>k it (by simp) o e
 item:=by
  intro X hP hw hK hc i aS s σ H E I hf st hg;subst hP hw hK;obtain⟨xs,x,hq,hx⟩:=hg;obtain⟨its,rv,p,hz⟩:=I.tuple hq;obtain⟨u,hu,ru⟩:=rv.get hx;obtain⟨f0,f1,f2,f3,f4,f5⟩:=hf it (by simp);refine wpAny_pyNext_tuple_item st (show s.heap.IsTuple a its.toArray from p) (x:=u) (by simpa using hu) λh' dY sb=>?_;have I1:o9 X aS σ H { s with heap:=h' }:=I.turned (t':=s.toks) (λb o hb e=>(sb.2 b hb).trans e) f0 f1 f3 f4 f5;obtain⟨o,e,c,d⟩:=id dY;exact⟨u,U,Kf (s:={ s with heap:=h' }) e c d bD ⟨x,H,I1,ru,⟨U,λys hy=>by rw[I.tuple_inj hy hq];exact hx⟩,dY,λb hb=>(hf b hb).1⟩⟩
 done:=by
  intro X hP hw hK hc i aS s σ H E I hf st hg;subst hP hw hK;obtain⟨xs,hq,hx⟩:=hg;obtain⟨its,rv,p,hz⟩:=I.tuple hq;obtain⟨f0,f1,f2,f3,f4,f5⟩:=hf it (by simp);have hl:=rv.length;exact wpAny_pyNext_tuple_end (I.ok.hd hc) st (show s.heap.IsTuple a its.toArray from p) (by simp;omega) λh' eb=>⟨U,I.turned (t':=s.toks) (λb o hb e=>eb b o hb e) f0 f1 f3 f4 f5⟩
 self:=λ_ _ _ _ _ st h=>wpAny_pyIter_tupleiter st h
def Ow{P:Program}{w:World}{K:aa}{tg:Expr}(it:Addr)(lo:Int)(n:Nat):Md P w K tg (Yv lo n) [it] it (λi h=>IsRangeIter h it (lo+(i:Nat) * 1) ((n:Int) - (i:Nat)) 1)where
 mem:=by simp
 obj:=λi h st b hb=>by
  have e:b=it:=by simpa using hb
  subst e;exact⟨_,st,λv z=>by
   have z':Data.fields _=Data.cell v:=z;cases z'⟩
 keep:=λi h h' st k=>k it (by simp) _ st
 item:=by
  intro X hP hw hK hc i aS s σ H E I hf st hg;subst hP hw hK;obtain⟨f0,f1,f2,f3,f4,f5⟩:=hf it (by simp);have W:=Walks.range (prog:=X.prog) (w:=X.w) (I.ok.hd hc) it lo 1 n;refine W.item i s _ _ hg st λv h' tk hv dY kk=>?_;obtain⟨t,rfl⟩:=hv;have I1:o9 X aS σ H { s with heap:=h',toks:=tk }:=I.turned (λb o hb e=>kk b o (by simpa using hb) e) f0 f1 f3 f4 f5;refine⟨_,U,Kf (s:={ s with heap:=h',toks:=tk }) (n:="range_iterator") dY U U bD ⟨.int (lo+i),H,I1,⟨t,?_⟩,⟨U,U⟩,dY,λb hb=>(hf b hb).1⟩⟩;rw[bU]
 done:=by
  intro X hP hw hK hc i aS s σ H E I hf st hg;subst hP hw hK;obtain⟨f0,f1,f2,f3,f4,f5⟩:=hf it (by simp);exact wpAny_pyNext_range_end (I.ok.hd hc) st (by have:n<=i:=hg;omega) λh' eb=>⟨U,I.turned (t':=s.toks) (λb o hb e=>eb b o hb e) f0 f1 f3 f4 f5⟩
 self:=λ_ _ _ _ _ st h=>wpAny_pyIter_rangeiter st h
section
variable{X:Cx}{tg:Expr}
def Ym(K:aa)(tl:TE):TI:=λσ H R=>tl σ H λx H1=>∃a,x=.ref a/\(∃xs,o7 K H1 a xs)/\R (VX K a) H1
def b0a(K:aa)(tl:TE):TI:=λσ H R=>tl σ H λx H1=>∃a,x=.ref a/\(∃xs,l9 K H1 a xs)/\R (VW K a) H1
def B6{l:Expr}{tl:TE}(hl:PE X l tl):PI X tg l (Ym X.K tl):=by
 intro aS s σ H R I h;refine I9 (hl aS s σ H _ I h) λv s1 ⟨x,H1,I1,r1,q1⟩=>?_;obtain⟨a,e,⟨xs,hq⟩,q⟩:=q1;subst e;cases r1;obtain⟨its,rv,p,hz⟩:=I1.list hq;refine wpAny_pyIter_list p.isList ?_;refine⟨s1.heap.objs.size,[s1.heap.objs.size],za ⟨H1,U,I1.kept (t':=s1.toks) λb o e=>ak _ e,JN a _,⟨_,ay _ U,U,U⟩,λb hb=>?_,q⟩⟩;have e:b=s1.heap.objs.size:=by simpa using hb
 subst e;exact I1.fpOk (ae _) (I1.hok.fresh (ae _))
def G0{l:Expr}{tl:TE}(hl:PE X l tl):PI X tg l (b0a X.K tl):=by
 intro aS s σ H R I h;refine I9 (hl aS s σ H _ I h) λv s1 ⟨x,H1,I1,r1,q1⟩=>?_;obtain⟨a,e,⟨xs,hq⟩,q⟩:=q1;subst e;cases r1;obtain⟨its,rv,p,hz⟩:=I1.tuple hq;refine wpAny_pyIter_tuple (show s1.heap.IsTuple a its.toArray from p) ?_;refine⟨s1.heap.objs.size,[s1.heap.objs.size],za ⟨H1,U,I1.kept (t':=s1.toks) λb o e=>ak _ e,Hq a _,⟨_,ay _ U,U,U⟩,λb hb=>?_,q⟩⟩;have e:b=s1.heap.objs.size:=by simpa using hb
 subst e;exact I1.fpOk (ae _) (I1.hok.fresh (ae _))
def Uq{aS:List (Addr × Obj)}{σ:St}{H:Hp}{s:Shared}{R:It->Hp->Prop}{E:Value->Shared->Prop}{lo hi:Int}{t u v:Tok}{tk:Nat}(I:o9 X aS σ H s)(h1:-(2 ^ 62)<=lo)(h2:lo < 2 ^ 62)(h3:-(2 ^ 62)<=hi)(h4:hi < 2 ^ 62)
    (q:R (Yv lo (hi - lo).toNat) H):wpAny (model X.prog X.w) X.A (pyIter (.ref s.heap.objs.size)) (PIE X aS σ tg R) E { s with heap:=s.heap.push { cls:=.type "range",data:=.fields #[.int lo t,.int hi u,.int 1 v] },toks:=tk }:=by
 refine wpAny_pyIter_range (IsRange.new ..) (small_one h1 h2 h3 h4) ?_;have I1:o9 X aS σ H { s with heap:=s.heap.push { cls:=.type "range",data:=.fields #[.int lo t,.int hi u,.int 1 v] },toks:=tk }:=I.kept λb o e=>ak _ e;refine⟨(s.heap.push { cls:=.type "range",data:=.fields #[.int lo t,.int hi u,.int 1 v] }).objs.size,[(s.heap.push { cls:=.type "range",data:=.fields #[.int lo t,.int hi u,.int 1 v] }).objs.size],za ⟨H,U,
  I1.kept (t':=tk) λb o e=>ak _ e,Ow _ lo (hi - lo).toNat,?_,λb hb=>?_,q⟩⟩
 . have e1:lo+((0:Nat):Int) * 1=lo:=by simp
   have e2:(((hi - lo).toNat:Nat):Int) - ((0:Nat):Int)=Builtin.Range.rangeSize lo hi 1:=by rw[rangeSize_one];split <;>omega
   show IsRangeIter _ _ (lo+((0:Nat):Int) * 1) ((((hi - lo).toNat:Nat):Int) - ((0:Nat):Int)) 1;rw[e1,e2];exact ay _ rfl
 . have e:b=(s.heap.push { cls:=.type "range",data:=.fields #[.int lo t,.int hi u,.int 1 v] }).objs.size:=by simpa using hb
   subst e;exact I1.fpOk (ae _) (I1.hok.fresh (ae _))
def n0m(ta:TA):TI:=λσ H R=>ta σ H λvs H1=>∃j:Int,vs=[.int j]/\-(2 ^ 62)<=j/\j < 2 ^ 62/\R (Yv 0 j.toNat) H1
def C4{a:Expr}{ta:TA}{p pos:Pos}(hg:Gl X "range")(hm:X.mg "range"=none)(ha:PA X [a] ta)(hs:starEach [a] X.env=[(false,eval a X.env)]:=by rfl):PI X tg (.Call (.Name "range" p) [a] [] pos) (n0m ta):=by
 intro aS s σ H R I h;refine Call_ (AB I hg hm boot_range (cj (I9 (ha pos aS s σ H _ I h) λus s1 ⟨vs,H1,I1,r1,q1⟩=>?_) hs U));obtain⟨j,e,q1,q2,q⟩:=q1;subst e;cases r1 with
 | cons r rr=>
  cases rr;obtain⟨t,rfl⟩:=r;exact call_range_1 (Uq I1 Y Y q1 q2 (by simpa using q))
def tFor(wi:TI)(g:TG)(tb:TS):TS:=λD σ H=>wi σ H λJ H1=>∃W:Nat->Nat->St->Hp->Prop,(∃m,W 0 m σ H1)/\∀i m σ H,W i m σ H->
 (J.stop i H/\D.nx σ H)\/(J.go i H/\∃N:St->Hp->Prop,(∀σ' H',N σ' H'->∃m',m' < m/\W (i+1) m' σ' H')/\∀x H',J.yld i H x H'->g x σ H' λσ2 H2=>tb { D with nx:=N,ct:=N,bk:=D.nx } σ2 H2)
def HG(fp:List Addr)(h:Heap):List (Addr × Obj):=fp.filterMap λb=>(h.get? b).map λo=>(b,o)
def Bx{fp:List Addr}{h:Heap}{b:Addr}{o:Obj}(hb:b∈fp)(e:h.get? b=some o):(b,o)∈HG fp h:=cf.mpr ⟨b,hb,by rw[e];rfl⟩
def Sk{fp:List Addr}{h:Heap}{p:Addr × Obj}(hp:p∈HG fp h):p.1∈fp/\h.get? p.1=some p.2:=by
 obtain⟨b,hb,e⟩:=cf.mp hp;cases q:h.get? b with
 | none=>rw[q]at e;cases e
 | some o=>
  rw[q]at e;have e':(b,o)=p:=Option.some.inj e;subst e';exact⟨hb,q⟩
def o9.pinned{aS:List (Addr × Obj)}{σ:St}{H:Hp}{s:Shared}{fp:List Addr}(I:o9 X aS σ H s)(hf:∀b∈fp,Bf X aS H b)(ho:∀b∈fp,∃o,s.heap.get? b=some o/\∀v,o.data≠.cell v):o9 X (aS++HG fp s.heap) σ H s:=
 I.pins_of λp hp=>(aH.mp hp).elim (λz=>I.pin p (aP _ z)) λz=>by
  obtain⟨hb,e⟩:=Sk z;obtain⟨f0,f1,f2,_⟩:=hf p.1 hb;obtain⟨o,e',d⟩:=ho p.1 hb;rw[e]at e';cases e';exact⟨e,f0,f1,f2,d⟩
def o9.unpinned{aS pl:List (Addr × Obj)}{σ:St}{H:Hp}{s:Shared}(I:o9 X (aS++pl) σ H s):o9 X aS σ H s:=I.pins_of λp hp=>I.pin p (aP _ (bC _ hp))
def C6{iter:Expr}{body:List Stmt}{wi:TI}{g:TG}{tb:TS}{pos:Pos}(hp:PassesOwn (model X.prog X.w) X.A X.env X.xe)(hc:X.calm=true)(hi:PI X tg iter wi)(hg:PG X tg g)(hb:Mg X body tb)
    (hs:∀x,foldedSetIterable iter X.env x=pure x:=by intro _;rfl):PS X (.For tg iter body [] pos) (tFor wi g tb):=by
 intro aS s σ H D I h;refine wpAny_For (I9 (hi aS s σ H _ I h) λv s1 h1=>I9 h1 λpH s2 h2=>?_) hs;obtain⟨it,fp,tn,J,H2,e,I2,T,fL,f2,W,⟨m0,w0⟩,turn⟩:=h2;subst e;have gM:∀{H':Hp},(∀b∈fp,H' b=none)->∀b∈fp,Bf X aS H' b:=λhn b hb=>⟨hn b hb,(f2 b hb).2⟩;refine codeAny_forLoop_any (λn s'=>∃i σ' H',o9 X aS σ' H' s'/\tn i s'.heap/\(∀b∈fp,H' b=none)/\W i n σ' H') ?_ m0 ⟨0,σ,H2,I2,fL,λb hb=>(f2 b hb).1,w0⟩;rintro n s3 ⟨i,σ3,H3,I3,iC,wu,w3⟩;rcases turn i n σ3 H3 w3 with ⟨stop,qn⟩ | ⟨go,N,hN,step⟩
 . refine wpAny_passesOwn hp (I9 (T.done X U U U hc i aS s3 σ3 H3 X.xe I3 (gM wu) iC stop) λr s4 ⟨hr,I4⟩=>?_);subst hr;exact wpAny_execs_nil ⟨σ3,H3,I4,qn⟩
 . refine wpAny_passesOwn hp (I9 (T.item X U U U hc i aS s3 σ3 H3 X.xe I3 (gM wu) iC go) λr s4 ⟨u,hr,h4⟩=>?_);subst hr;refine wpAny_passesOwn hp (I9 h4 λ_ s5 ⟨x,H5,I5,r5,y5,jq,fr5⟩=>?_);have uN:=I5.pinned (gM fr5) (T.obj _ _ jq);refine wpAny_passesOwn hp (I9 (hg _ s5 σ3 H5 x u _ uN r5 (step x H5 y5)) λ_ s6 ⟨σ6,H6,I6,q6⟩=>?_);refine wpAny_passesOwn hp (I9 (hb _ s6 σ6 H6 _ I6 q6) λf s7 q7=>?_);have again:∀{σ7:St} {H7:Hp},o9 X (aS++HG fp s5.heap) σ7 H7 s7->N σ7 H7->∃m,m < n/\∃i σ' H',o9 X aS σ' H' s7/\tn i s7.heap/\(∀b∈fp,H' b=none)/\W i m σ' H':=λ{σ7 H7} I7 n7=>by
    obtain⟨m',hm,w7⟩:=hN σ7 H7 n7;refine⟨m',hm,i+1,σ7,H7,I7.unpinned,T.keep _ _ _ jq λb hb o e=>(I7.pin (b,o) (aP _ (aP _ (Bx hb e)))).1,λb hb=>?_,w7⟩;obtain⟨o,e,d⟩:=T.obj _ _ jq b hb;exact(I7.pin (b,o) (aP _ (aP _ (Bx hb e)))).2.1
   cases f with
   | next=>obtain⟨σ7,H7,I7,n7⟩:=q7;exact again I7 n7
   | cont=>obtain⟨σ7,H7,I7,n7⟩:=q7;exact again I7 n7
   | brk=>obtain⟨σ7,H7,I7,q7⟩:=q7;exact⟨σ7,H7,I7.unpinned,q7⟩
   | ret v=>obtain⟨x7,σ7,H7,I7,r7,q7⟩:=q7;exact⟨x7,σ7,H7,I7.unpinned,r7,q7⟩
end
def P1{K:aa}{a:Addr}{xs:List V}{g:TG}{tb:TS}{D:GY}{σ:St}{H:Hp}(Pv:Nat->St->Hp->Prop)(h0:Pv 0 σ H)(hl:∀i σ H,i<=xs.length->Pv i σ H->o7 K H a xs)
    (hs:∀i x σ H,xs[i]? = some x->Pv i σ H->g x σ H λσ2 H2=>tb { D with nx:=Pv (i+1),ct:=Pv (i+1),bk:=D.nx } σ2 H2) (hd:∀σ H,Pv xs.length σ H->D.nx σ H) :
    ∃W:Nat->Nat->St->Hp->Prop,(∃m,W 0 m σ H)/\∀i m σ H,W i m σ H->
     ((VX K a).stop i H/\D.nx σ H)\/((VX K a).go i H/\∃N:St->Hp->Prop,(∀σ' H',N σ' H'->∃m',m' < m/\W (i+1) m' σ' H')/\∀x H',(VX K a).yld i H x H'->g x σ H' λσ2 H2=>tb { D with nx:=N,ct:=N,bk:=D.nx } σ2 H2):=by
 refine⟨λi m σ H=>m=xs.length - i/\i<=xs.length/\Pv i σ H,⟨xs.length,by simp,aY _,h0⟩,?_⟩;rintro i m σ H ⟨rfl,hi,p⟩;have q:=hl i σ H hi p;by_cases fE:i < xs.length
 . refine .inr ⟨⟨xs,xs[i],q,by simp[fE]⟩,Pv (i+1),λσ' H' p'=>⟨xs.length - (i+1),Y,U,fE,p'⟩,λx H' y=>?_⟩;obtain⟨e,y⟩:=y;subst e;exact hs i x σ _ (y xs q) p
 . have e:i=xs.length:=by omega
   subst e;exact .inl ⟨⟨xs,q,ae _⟩,hd σ H p⟩
def BA{K:aa}{a:Addr}{xs:List V}{g:TG}{tb:TS}{D:GY}{σ:St}{H:Hp}(Pv:Nat->St->Hp->Prop)(h0:Pv 0 σ H)(hl:∀i σ H,i<=xs.length->Pv i σ H->l9 K H a xs)
    (hs:∀i x σ H,xs[i]? = some x->Pv i σ H->g x σ H λσ2 H2=>tb { D with nx:=Pv (i+1),ct:=Pv (i+1),bk:=D.nx } σ2 H2) (hd:∀σ H,Pv xs.length σ H->D.nx σ H) :
    ∃W:Nat->Nat->St->Hp->Prop,(∃m,W 0 m σ H)/\∀i m σ H,W i m σ H->
     ((VW K a).stop i H/\D.nx σ H)\/((VW K a).go i H/\∃N:St->Hp->Prop,(∀σ' H',N σ' H'->∃m',m' < m/\W (i+1) m' σ' H')/\∀x H',(VW K a).yld i H x H'->g x σ H' λσ2 H2=>tb { D with nx:=N,ct:=N,bk:=D.nx } σ2 H2):=by
 refine⟨λi m σ H=>m=xs.length - i/\i<=xs.length/\Pv i σ H,⟨xs.length,by simp,aY _,h0⟩,?_⟩;rintro i m σ H ⟨rfl,hi,p⟩;have q:=hl i σ H hi p;by_cases fE:i < xs.length
 . refine .inr ⟨⟨xs,xs[i],q,by simp[fE]⟩,Pv (i+1),λσ' H' p'=>⟨xs.length - (i+1),Y,U,fE,p'⟩,λx H' y=>?_⟩;obtain⟨e,y⟩:=y;subst e;exact hs i x σ _ (y xs q) p
 . have e:i=xs.length:=by omega
   subst e;exact .inl ⟨⟨xs,q,ae _⟩,hd σ H p⟩
def AY{lo:Int}{n:Nat}{g:TG}{tb:TS}{D:GY}{σ:St}{H:Hp}(Pv:Nat->St->Hp->Prop)(h0:Pv 0 σ H)
    (hs:∀i σ H,i < n->Pv i σ H->g (.int (lo+i)) σ H λσ2 H2=>tb { D with nx:=Pv (i+1),ct:=Pv (i+1),bk:=D.nx } σ2 H2) (hd:∀σ H,Pv n σ H->D.nx σ H) :
    ∃W:Nat->Nat->St->Hp->Prop,(∃m,W 0 m σ H)/\∀i m σ H,W i m σ H->
     ((Yv lo n).stop i H/\D.nx σ H)\/((Yv lo n).go i H/\∃N:St->Hp->Prop,(∀σ' H',N σ' H'->∃m',m' < m/\W (i+1) m' σ' H')/\∀x H',(Yv lo n).yld i H x H'->g x σ H' λσ2 H2=>tb { D with nx:=N,ct:=N,bk:=D.nx } σ2 H2):=by
 refine⟨λi m σ H=>m=n - i/\i<=n/\Pv i σ H,⟨n,by simp,aY _,h0⟩,?_⟩;rintro i m σ H ⟨rfl,hi,p⟩;by_cases fE:i < n
 . refine .inr ⟨fE,Pv (i+1),λσ' H' p'=>⟨n - (i+1),Y,U,fE,p'⟩,λx H' y=>?_⟩;obtain⟨e,y⟩:=y;subst e y;exact hs i σ _ fE p
 . have e:i=n:=by omega
   subst e;exact .inl ⟨ae _,hd σ H p⟩
abbrev R2:=V->V->Hp->VK->Prop
def Ez(X:Cx)(f:Value->Value->Sem Value)(r:R2):Prop:=
 ∀(aS:List (Addr × Obj)) (s:Shared) (σ:St) (H:Hp) (x y:V) (v u:Value) (Q:VK),o9 X aS σ H s->D2 x v->D2 y u->r x y H Q->
  wpAny (model X.prog X.w) X.A (f v u) (EP X aS σ Q) X.xe s
def UnR(X:Cx)(f:Value->Sem Value)(r:V->Hp->VK->Prop):Prop:=
 ∀(aS:List (Addr × Obj)) (s:Shared) (σ:St) (H:Hp) (x:V) (v:Value) (Q:VK),o9 X aS σ H s->D2 x v->r x H Q->
  wpAny (model X.prog X.w) X.A (f v) (EP X aS σ Q) X.xe s
def Ad(X:Cx)(f:Value)(r:List V->Hp->VK->Prop):Prop:=
 ∀(aS:List (Addr × Obj)) (s:Shared) (σ:St) (H:Hp) (xs:List V) (us:List Value) (Q:VK),o9 X aS σ H s->x8 xs us->r xs H Q->
  wpAny (model X.prog X.w) X.A (call f us) (EP X aS σ Q) X.xe s
def TruR(X:Cx)(r:V->Hp->(Bool->Hp->Prop)->Prop):Prop:=
 ∀(aS:List (Addr × Obj)) (s:Shared) (σ:St) (H:Hp) (x:V) (v:Value) (Q:Bool->Hp->Prop),o9 X aS σ H s->D2 x v->r x H Q->
  wpAny (model X.prog X.w) X.A (truthy v) (TP X aS σ Q) X.xe s
def c0p(r:R2)(ta tb:TE):TE:=λσ H Q=>ta σ H λx H1=>tb σ H1 λy H2=>r x y H2 Q
def tUn(r:V->Hp->VK->Prop)(ta:TE):TE:=λσ H Q=>ta σ H λx H1=>r x H1 Q
def rI(C:Int->Int->Prop)(g:Int->Int->V):R2:=λx y H Q=>∃i j,x=.int i/\y=.int j/\C i j/\Q (g i j) H
def Yg(g:Int->Int->V):R2:=λx y H Q=>∃i j,x=.int i/\y=.int j/\Q (g i j) H
def rU(g:Int->V):V->Hp->VK->Prop:=λx H Q=>∃i,x=.int i/\Q (g i) H
section
variable{X:Cx}{a b c:Expr}{ta tb tc:TE}{pos:Pos}
def b0p(ha:PE X a ta)(hb:PE X b tb){aS:List (Addr × Obj)}{s:Shared}{σ:St}{H:Hp}{R:V->V->Hp->Prop}(I:o9 X aS σ H s)
    (h:ta σ H λx H1=>tb σ H1 λy H2=>R x y H2) {Q:Value->Shared->Prop} {f:Value->Value->Sem Value}
    (hf:∀v u s2 x y H2,o9 X aS σ H2 s2->D2 x v->D2 y u->R x y H2->wpAny (model X.prog X.w) X.A (f v u) Q X.xe s2) :
    wpAny (model X.prog X.w) X.A (eval a X.env) (λv s₁=>wpAny (model X.prog X.w) X.A (eval b X.env) (λu s₂=>wpAny (model X.prog X.w) X.A (f v u) Q X.xe s₂) X.xe s₁) X.xe s:=by
 refine I9 (ha aS s σ H _ I h) λv s1 ⟨x,H1,I1,r1,q1⟩=>?_;refine I9 (hb aS s1 σ H1 _ I1 q1) λu s2 ⟨y,H2,I2,r2,q2⟩=>?_;exact hf v u s2 x y H2 I2 r1 r2 q2
def l7{op:Operator}{r:R2}(ho:Ez X (binaryOp op) r)(ha:PE X a ta)(hb:PE X b tb):PE X (.BinOp a op b pos) (c0p r ta tb):=by
 intro aS s σ H Q I h;exact wpAny_BinOp (b0p ha hb I h λv u s2 x y H2 I2 rx ry q=>ho aS s2 σ H2 x y v u Q I2 rx ry q)
def QL{op:UnaryOp}{r:V->Hp->VK->Prop}(ho:UnR X (unaryOp op) r)(ha:PE X a ta):PE X (.UnaryOp op a pos) (tUn r ta):=by
 intro aS s σ H Q I h;exact UnaryOp_ (I9 (ha aS s σ H _ I h) λv s1 ⟨x,H1,I1,r1,q1⟩=>ho aS s1 σ H1 x v Q I1 r1 q1)
def b0y{f:Value->Value->Sem Value}{C:Int->Int->Prop}{g:Int->Int->Int}
    (rule:∀(i j:Int) (t u:Tok) (s:Shared) (Q:Value->Shared->Prop) (E:Value->Shared->Prop),C i j->Q (.int (g i j) s.toks) { s with toks:=s.toks+1 }->wpAny (model X.prog X.w) X.A (f (.int i t) (.int j u)) Q E s) :
    Ez X f (rI C λi j=>.int (g i j)):=by
 intro aS s σ H x y v u Q I rx ry h;obtain⟨i,j,rfl,rfl,hc,q⟩:=h;obtain⟨t,rfl⟩:=rx;obtain⟨t',rfl⟩:=ry;exact rule i j t t' s _ _ hc ⟨.int (g i j),H,I.tok _,⟨_,U⟩,q⟩
def e0v{f:Value->Value->Sem Value}{g:Int->Int->Int}
    (rule:∀(i j:Int) (t u:Tok) (s:Shared) (Q:Value->Shared->Prop) (E:Value->Shared->Prop),Q (.int (g i j) s.toks) { s with toks:=s.toks+1 }->wpAny (model X.prog X.w) X.A (f (.int i t) (.int j u)) Q E s) :
    Ez X f (Yg λi j=>.int (g i j)):=by
 intro aS s σ H x y v u Q I rx ry h;obtain⟨i,j,rfl,rfl,q⟩:=h;obtain⟨t,rfl⟩:=rx;obtain⟨t',rfl⟩:=ry;exact rule i j t t' s _ _ ⟨.int (g i j),H,I.tok _,⟨_,U⟩,q⟩
def Xc{f:Value->Value->Sem Value}{g:Int->Int->Bool}
    (rule:∀(i j:Int) (t u:Tok) (s:Shared) (Q:Value->Shared->Prop) (E:Value->Shared->Prop),Q (.bool (g i j)) s->wpAny (model X.prog X.w) X.A (f (.int i t) (.int j u)) Q E s) :
    Ez X f (Yg λi j=>.bl (g i j)):=by
 intro aS s σ H x y v u Q I rx ry h;obtain⟨i,j,rfl,rfl,q⟩:=h;obtain⟨t,rfl⟩:=rx;obtain⟨t',rfl⟩:=ry;exact rule i j t t' s _ _ ⟨.bl (g i j),H,I,U,q⟩
def CPow(i j:Int):Prop:=0<=j/\j<=1000000/\i.natAbs < 2 ^ 64
def SX(i j:Int):Prop:=(-(2 ^ 64) < i/\i < 2 ^ 64)\/(-(2 ^ 64) < j/\j < 2 ^ 64)
def SX.ok{i j:Int}(h:SX i j):IntMulOk i j:=by
 rcases h with ⟨h1,h2⟩ | ⟨h1,h2⟩
 . exact .of_left (intBits_le_64 h1 h2)
 . exact .of_right (intBits_le_64 h1 h2)
def N3:Ez X (binaryOp .Add) (Yg λi j=>.int (i+j)):=e0v λ_ _ _ _ _ _ _ q=>add_int q
def Aa:Ez X (binaryOp .Sub) (Yg λi j=>.int (i - j)):=e0v λ_ _ _ _ _ _ _ q=>sub_int q
def Cw:Ez X (binaryOp .Mult) (rI SX λi j=>.int (i * j)):=b0y λ_ _ _ _ _ _ _ hc q=>mul_int q hc.ok
def E9:Ez X (binaryOp .Mod) (rI (λ_ j=>j≠0) λi j=>.int (i.fmod j)):=b0y λ_ _ _ _ _ _ _ hc q=>mod_int' hc q
def ZF:Ez X (binaryOp .Pow) (rI CPow λi j=>.int (i ^ j.toNat)):=b0y λ_ _ _ _ _ _ _ hc q=>pow_int_small hc.1 hc.2.1 hc.2.2 q
def unI{f:Value->Sem Value}{g:Int->Int}
    (rule:∀(i:Int) (t:Tok) (s:Shared) (Q:Value->Shared->Prop) (E:Value->Shared->Prop),Q (.int (g i) s.toks) { s with toks:=s.toks+1 }->wpAny (model X.prog X.w) X.A (f (.int i t)) Q E s) :
    UnR X f (rU λi=>.int (g i)):=by
 intro aS s σ H x v Q I rx h;obtain⟨i,rfl,q⟩:=h;obtain⟨t,rfl⟩:=rx;exact rule i t s _ _ ⟨.int (g i),H,I.tok _,⟨_,U⟩,q⟩
def KD:UnR X (unaryOp .USub) (rU λi=>.int (-i)):=unI λ_ _ _ _ _ q=>neg_int q
end
def d0c:V->V->Bool
 | .non,.non=>true | .non,.int _=>true | .int _,.non=>true | .non,.bl _=>true | .bl _,.non=>true | .non,.str _=>true | .str _,.non=>true
 | .int _,.int _=>true | .bl _,.bl _=>true | .str _,.str _=>true | .byt _,.byt _=>true
 | .int _,.str _=>true | .str _,.int _=>true | .bl _,.str _=>true | .str _,.bl _=>true
 | _,_=>false
def rEq:R2:=λx y H Q=>d0c x y=true/\Q (.bl (decide (x=y))) H
def rNe:R2:=λx y H Q=>d0c x y=true/\Q (.bl (!decide (x=y))) H
def Rn{i j:Int}:decide (V.int i=V.int j)=(i == j):=by
 rw[cX];simp
def VO{i j:Bool}:decide (V.bl i=V.bl j)=(i == j):=by
 rw[cX];simp
def Rm{i j:Str}:decide (V.str i=V.str j)=(i == j):=by
 rw[cX];simp
def Ro{i j:Array UInt8}:decide (V.byt i=V.byt j)=(i.toList == j.toList):=by
 rw[cX];cases i;cases j;simp
section
variable{X:Cx}{a b c:Expr}{ta tb tc:TE}{pos:Pos}
def C3{aS:List (Addr × Obj)}{σ:St}{H:Hp}{s:Shared}{Q:VK}{k k':Bool}(I:o9 X aS σ H s)(q:Q (.bl k) H)(e:k=k'):EP X aS σ Q (.bool k') s:=by
 subst e;exact⟨.bl k,H,I,U,q⟩
def J8:Ez X (compareOp .Eq) rEq:=by
 intro aS s σ H x y v u Q I rx ry h;obtain⟨hs,q⟩:=h;cases x with
 | non=>
  cases rx;cases y with
  | non=>cases ry;exact PySem.EqNone.eq_none_none (C3 I q (by simp))
  | bl j=>cases ry;exact PySem.EqNone.eq_none_bool (C3 I q (by simp))
  | int j=>obtain⟨t',rfl⟩:=ry;exact PySem.EqNone.eq_none_int (C3 I q (by simp))
  | str j=>obtain⟨t',rfl⟩:=ry;exact PySem.EqNone.eq_none_str (C3 I q (by simp))
  | _=>exact absurd (show false=true from hs) aO
 | bl i=>
  cases rx;cases y with
  | non=>cases ry;exact PySem.EqNone.eq_bool_none (C3 I q (by simp))
  | bl j=>cases ry;exact eq_bool (C3 I q VO)
  | str j=>obtain⟨t',rfl⟩:=ry;exact PySem.EqMixed.eq_bool_str (C3 I q (by simp))
  | _=>exact absurd (show false=true from hs) aO
 | int i=>
  obtain⟨t,rfl⟩:=rx;cases y with
  | non=>cases ry;exact PySem.EqNone.eq_int_none (C3 I q (by simp))
  | int j=>obtain⟨t',rfl⟩:=ry;exact eq_int (C3 I q Rn)
  | str j=>obtain⟨t',rfl⟩:=ry;exact PySem.EqMixed.eq_int_str (C3 I q (by simp))
  | _=>exact absurd (show false=true from hs) aO
 | str i=>
  obtain⟨t,rfl⟩:=rx;cases y with
  | non=>cases ry;exact PySem.EqNone.eq_str_none (C3 I q (by simp))
  | bl j=>cases ry;exact PySem.EqMixed.eq_str_bool (C3 I q (by simp))
  | int j=>obtain⟨t',rfl⟩:=ry;exact PySem.EqMixed.eq_str_int (C3 I q (by simp))
  | str j=>obtain⟨t',rfl⟩:=ry;exact eq_str (C3 I q Rm)
  | _=>exact absurd (show false=true from hs) aO
 | byt i=>
  obtain⟨t,rfl⟩:=rx;cases y with
  | byt j=>obtain⟨t',rfl⟩:=ry;exact PySem.W.eq_bytes (C3 I q Ro)
  | _=>exact absurd (show false=true from hs) aO
 | _=>cases y <;>exact absurd (show false=true from hs) aO
def HK:Ez X (compareOp .NotEq) rNe:=by
 intro aS s σ H x y v u Q I rx ry h;obtain⟨hs,q⟩:=h;cases x with
 | non=>
  cases rx;cases y with
  | non=>cases ry;exact PySem.EqNone.ne_none_none (C3 I q (by simp))
  | bl j=>cases ry;exact PySem.EqNone.ne_none_bool (C3 I q (by simp))
  | int j=>obtain⟨t',rfl⟩:=ry;exact PySem.EqNone.ne_none_int (C3 I q (by simp))
  | str j=>obtain⟨t',rfl⟩:=ry;exact PySem.EqNone.ne_none_str (C3 I q (by simp))
  | _=>exact absurd (show false=true from hs) aO
 | bl i=>
  cases rx;cases y with
  | non=>cases ry;exact PySem.EqNone.ne_bool_none (C3 I q (by simp))
  | bl j=>cases ry;exact ne_bool (C3 I q (congrArg not VO))
  | str j=>obtain⟨t',rfl⟩:=ry;exact PySem.EqMixed.ne_bool_str (C3 I q (by simp))
  | _=>exact absurd (show false=true from hs) aO
 | int i=>
  obtain⟨t,rfl⟩:=rx;cases y with
  | non=>cases ry;exact PySem.EqNone.ne_int_none (C3 I q (by simp))
  | int j=>obtain⟨t',rfl⟩:=ry;exact ne_int (C3 I q (congrArg not Rn))
  | str j=>obtain⟨t',rfl⟩:=ry;exact PySem.EqMixed.ne_int_str (C3 I q (by simp))
  | _=>exact absurd (show false=true from hs) aO
 | str i=>
  obtain⟨t,rfl⟩:=rx;cases y with
  | non=>cases ry;exact PySem.EqNone.ne_str_none (C3 I q (by simp))
  | bl j=>cases ry;exact PySem.EqMixed.ne_str_bool (C3 I q (by simp))
  | int j=>obtain⟨t',rfl⟩:=ry;exact PySem.EqMixed.ne_str_int (C3 I q (by simp))
  | str j=>obtain⟨t',rfl⟩:=ry;exact ne_str (C3 I q (congrArg not Rm))
  | _=>exact absurd (show false=true from hs) aO
 | byt i=>
  obtain⟨t,rfl⟩:=rx;cases y with
  | byt j=>obtain⟨t',rfl⟩:=ry;exact PySem.W.ne_bytes (C3 I q (congrArg not Ro))
  | _=>exact absurd (show false=true from hs) aO
 | _=>cases y <;>exact absurd (show false=true from hs) aO
def MZ:Ez X (compareOp .Lt) (Yg λi j=>.bl (decide (i < j))):=Xc λ_ _ _ _ _ _ _ q=>lt_int q
def Yi:Ez X (compareOp .LtE) (Yg λi j=>.bl (decide (i<=j))):=Xc λ_ _ _ _ _ _ _ q=>le_int q
def Ao:Ez X (compareOp .Gt) (Yg λi j=>.bl (decide (j < i))):=Xc λ_ _ _ _ _ _ _ q=>gt_int q
def e0u:Ez X (compareOp .GtE) (Yg λi j=>.bl (decide (j<=i))):=Xc λ_ _ _ _ _ _ _ q=>ge_int q
def UF:Ez X (compareOp .Is) (λx y H Q=>y=.non/\Q (.bl (decide (x=.non))) H):=by
 intro aS s σ H x y v u Q I rx ry h;obtain⟨rfl,q⟩:=h;cases ry;refine is_none_gen (C3 I q ?_);cases x <;>first
  | (cases rx;rfl)
  | (obtain⟨t,rfl⟩:=rx;rfl)
def o4(b:Expr){op:CmpOp}(h:op≠.In:=by decide)(h2:op≠.NotIn:=by decide):behindInMarks op b=false:=by
 have e1:(op == CmpOp.In)=false:=by cases op <;>first | rfl | exact absurd rfl h
 have e2:(op == CmpOp.NotIn)=false:=by cases op <;>first | rfl | exact absurd rfl h2
 cases b <;>simp[behindInMarks,e1,e2]
def P6{op:CmpOp}{r:R2}(ho:Ez X (compareOp op) r)(ha:PE X a ta)(hb:PE X b tb)(hm:behindInMarks op b=false):PE X (.Compare a [op] [b] pos) (c0p r ta tb):=by
 intro aS s σ H Q I h;exact wpAny_Compare1 (b0p ha hb I h λv u s2 x y H2 I2 rx ry q=>ho aS s2 σ H2 x y v u Q I2 rx ry q) hm
def c0k(t:TE):TT:=λσ H Q=>t σ H λx H'=>∃k,x=.bl k/\Q k H'
def l8{op:CmpOp}{r:R2}(ho:Ez X (compareOp op) r)(ha:PE X a ta)(hb:PE X b tb)(hm:behindInMarks op b=false):PT X (.Compare a [op] [b] pos) (c0k (c0p r ta tb)):=by
 intro aS s σ H Q I h;refine wpAny_isTrue_Compare1 (I9 (ha aS s σ H _ I h) λv s1 ⟨x,H1,I1,r1,q1⟩=>I9 (hb aS s1 σ H1 _ I1 q1) λu s2 ⟨y,H2,I2,r2,q2⟩=>
  I9 (ho aS s2 σ H2 x y v u _ I2 r1 r2 q2) λc s3 ⟨z,H3,I3,r3,k,e,q3⟩=>?_) hm
 subst e;cases r3;exact wpAny_truthy_bool ⟨H3,I3,q3⟩
def YJ(r r':R2)(ta tb tc:TE):TE:=λσ H Q=>ta σ H λx H1=>tb σ H1 λy H2=>r x y H2 λz H3=>∃k,z=.bl k/\
 (if k=true then tc σ H3 λw' H4=>r' y w' H4 Q else Q (.bl false) H3)
def UB{op rB:CmpOp}{r r':R2}(ho:Ez X (compareOp op) r)(jF:Ez X (compareOp rB) r')(ha:PE X a ta)(hb:PE X b tb)(hc:PE X c tc)
    (hm:lastMarks [op,rB] [b,c]=false:=by with_unfolding_all rfl):PE X (.Compare a [op,rB] [b,c] pos) (YJ r r' ta tb tc):=by
 intro aS s σ H Q I h;refine Compare_chain (I9 (ha aS s σ H _ I h) λv s1 ⟨x,H1,I1,r1,q1⟩=>chain_link (I9 (hb aS s1 σ H1 _ I1 q1) λu s2 ⟨y,H2,I2,r2,q2⟩=>
  I9 (ho aS s2 σ H2 x y v u _ I2 r1 r2 q2) λd s3 ⟨z,H3,I3,r3,k,e,q3⟩=>?_)) hm
 subst e;cases r3;refine wpAny_truthy_bool ?_;cases k with
 | false=>exact ite_ff ⟨.bl false,H3,I3,U,q3⟩
 | true=>exact ite_tt (chain_last (I9 (hc aS s3 σ H3 _ I3 q3) λw' s4 ⟨z',H4,I4,r4,q4⟩=>jF aS s4 σ H4 y z' u w' Q I4 r2 r4 q4))
def TruV(K:aa)(x:V)(H:Hp)(k:Bool):Prop:=
 match x with
 | .non=>k=false
 | .bl b=>k=b
 | .int i=>k=(i != 0)
 | .str y=>y.length<=sizeLine/\k=((y.length:Int) != 0)
 | .byt y=>y.size<=sizeLine/\k=((y.size:Int) != 0)
 | .ref p=>(∃xs,o7 K H p xs/\k = !xs.isEmpty)\/(∃xs,l9 K H p xs/\k = !xs.isEmpty)\/∃fi,H p=some (.dK fi)/\k = !fi.isEmpty
 | _=>False
def PQ{κ:Type}{fi:List (κ × V)}{vs:List (κ × Value)}(r:KV fi vs):(!vs.isEmpty) = !fi.isEmpty:=by
 cases r <;>rfl
def Ii{xs:List V}{its:List Value}(r:x8 xs its):(!its.toArray.isEmpty) = !xs.isEmpty:=by
 cases r <;>simp
def CN:(sizeLine:Nat) < 2 ^ 63:=by rw[sizeLine_eq];decide
def tru_ok:TruR X (λx H Q=>∃k,TruV X.K x H k/\Q k H):=by
 intro aS s σ H x v Q I rx h;obtain⟨k,e,q⟩:=h;have hl:=CN;have hs:sizeLine=16777216:=sizeLine_eq;cases x with
 | non=>
  cases rx;have e':k=false:=e;subst e';exact truthy_none ⟨H,I,q⟩
 | bl b=>
  cases rx;have e':k=b:=e;subst e';exact wpAny_truthy_bool ⟨H,I,q⟩
 | int i=>
  obtain⟨t,rfl⟩:=rx;have e':k=(i != 0):=e;subst e';exact PySem.P.truthy_int ⟨H,I,q⟩
 | str y=>
  obtain⟨t,rfl⟩:=rx;obtain⟨hy,e'⟩:y.length<=sizeLine/\k=((y.length:Int) != 0):=e;subst e';exact PySem.P.truthy_str Y ⟨H,I.tok _,q⟩
 | byt y=>
  obtain⟨t,rfl⟩:=rx;obtain⟨hy,e'⟩:y.size<=sizeLine/\k=((y.size:Int) != 0):=e;subst e';exact PySem.W.truthy_bytes Y ⟨H,I.tok _,q⟩
 | ref p=>
  cases rx;have e':(∃xs,o7 X.K H p xs/\k = !xs.isEmpty)\/(∃xs,l9 X.K H p xs/\k = !xs.isEmpty)\/∃fi,H p=some (.dK fi)/\k = !fi.isEmpty:=e;rcases e' with ⟨xs,hx,e'⟩ | ⟨xs,hx,e'⟩ | ⟨fi,hx,e'⟩
  . subst e';obtain⟨its,r,pl,hz⟩:=I.list hx;have eJ:=r.length;exact wpAny_truthy_list pl.isList (by simp only[au];omega) ⟨H,I.tok _,by rw[Ii r];exact q⟩
  . subst e';obtain⟨its,r,pl,hz⟩:=I.tuple hx;have eJ:=r.length;exact truthy_tuple pl (by simp only[au];omega) ⟨H,I.tok _,by rw[Ii r];exact q⟩
  . subst e';obtain⟨hz,hS,vs,r,m⟩:fi.length<=sizeLine/\(p == sysModules)=false/\∃vs,KV fi vs/\s.heap.DictOf (Ls X.prog X.w) p vs:=I.hok p _ hx;have eJ:fi.length=vs.length:=Paired.length r;exact wpAny_truthy_dict hS m Y ⟨H,I.tok _,by rw[PQ r];exact q⟩
 | _=>exact(show False from e).elim
def HL:Ez X (binaryOp .Add) (λx y H Q=>∃i j,x=.str i/\y=.str j/\i.length+j.length<=sizeLine/\Q (.str (i++j)) H):=by
 intro aS s σ H x y v u Q I rx ry h;obtain⟨i,j,rfl,rfl,hz,q⟩:=h;obtain⟨t,rfl⟩:=rx;obtain⟨t',rfl⟩:=ry;exact add_str (λt' tk=>⟨.str (i++j),H,I.tok _,⟨_,U⟩,q⟩) hz
def JM{x:V}{us:List Value}(r:x8 [x] us):∃u,us=[u]/\D2 x u:=by
 cases r with
 | cons r1 r2=>cases r2;exact⟨_,U,r1⟩
def c0i{x y:V}{us:List Value}(r:x8 [x,y] us):∃u w',us=[u,w']/\D2 x u/\D2 y w':=by
 cases r with
 | cons r1 r2=>
  cases r2 with
  | cons r3 r4=>cases r4;exact za ⟨U,r1,r3⟩
def FA:Ad X (.builtin "abs") (λxs H Q=>∃i,xs=[.int i]/\Q (.int (if i < 0 then -i else i)) H):=by
 intro aS s σ H xs us Q I r h;obtain⟨i,rfl,q⟩:=h;obtain⟨u,rfl,t,rfl⟩:=JM r;exact call_abs_int λu tk=>⟨.int (if i < 0 then -i else i),H,I.tok _,⟨_,U⟩,q⟩
def Km(hc:X.calm=true):Ad X (.builtin "max") (λxs H Q=>∃i j,xs=[.int i,.int j]/\Q (.int (if j > i then j else i)) H):=by
 intro aS s σ H xs us Q I r h;obtain⟨i,j,rfl,q⟩:=h;obtain⟨u,w',rfl,⟨t,rfl⟩,⟨t',rfl⟩⟩:=c0i r;refine max_two_ints (I.ok.hd hc) λh' tk k=>⟨_,H,I.kept k,?_,q⟩;by_cases hj:j > i
 . rw[if_pos hj,if_pos hj];exact⟨_,U⟩
 . rw[if_neg hj,if_neg hj];exact⟨_,U⟩
def Be:Ad X (.type "int") (λxs H Q=>(∃i,xs=[.int i]/\Q (.int i) H)\/∃k,xs=[.bl k]/\Q (.int (if k then 1 else 0)) H):=by
 intro aS s σ H xs us Q I r h;rcases h with ⟨i,rfl,q⟩ | ⟨k,rfl,q⟩
 . obtain⟨u,rfl,t,rfl⟩:=JM r;exact call_int_int ⟨.int i,H,I,⟨_,U⟩,q⟩
 . obtain⟨u,rfl,r1⟩:=JM r;cases r1;exact call_int_bool ⟨.int (if k then 1 else 0),H,I.tok _,⟨_,U⟩,q⟩
def DA(K:aa)(x:V)(H:Hp)(n:Nat):Prop:=
 match x with
 | .str y=>y.length<=sizeLine/\n=y.length
 | .byt y=>y.size<=sizeLine/\n=y.size
 | .ref p=>(∃xs,o7 K H p xs/\n=xs.length)\/∃xs,l9 K H p xs/\n=xs.length
 | _=>False
def r9:Ad X (.builtin "len") (λxs H Q=>∃x n,xs=[x]/\DA X.K x H n/\Q (.int n) H):=by
 intro aS s σ H xs us Q I r h;obtain⟨x,n,rfl,e,q⟩:=h;obtain⟨u,rfl,rx⟩:=JM r;have hl:=CN;have hs:sizeLine=16777216:=sizeLine_eq;cases x with
 | str y=>
  obtain⟨t,rfl⟩:=rx;obtain⟨hy,e'⟩:y.length<=sizeLine/\n=y.length:=e;subst e';exact len_str Y ⟨.int _,H,I.tok _,⟨_,U⟩,q⟩
 | byt y=>
  obtain⟨t,rfl⟩:=rx;obtain⟨hy,e'⟩:y.size<=sizeLine/\n=y.size:=e;subst e';exact PySem.W.len_bytes Y ⟨.int _,H,I.tok _,⟨_,U⟩,q⟩
 | ref p=>
  cases rx;have e':(∃xs,o7 X.K H p xs/\n=xs.length)\/∃xs,l9 X.K H p xs/\n=xs.length:=e;rcases e' with ⟨xs,hx,e'⟩ | ⟨xs,hx,e'⟩
  . subst e';obtain⟨its,r',pl,hz⟩:=I.list hx;have eJ:=r'.length;exact Calls.call_len_list pl.isList (by simp only[au];omega) ⟨.int xs.length,H,I.tok _,⟨_,by simp only[au];rw[eJ]⟩,q⟩
  . subst e';obtain⟨its,r',pl,hz⟩:=I.tuple hx;have eJ:=r'.length;exact len_tuple pl (by simp only[au];omega) ⟨.int xs.length,H,I.tok _,⟨_,by simp only[au];rw[eJ]⟩,q⟩
 | _=>exact(show False from e).elim
end
structure Qq(h:Heap)(x dx C:Addr)(mA:Str->Option Value):Prop where
 obj:h.get? x=some (PySem.W.instObj C dx)
 ns:h.Ns1 dx mA
 ne:dx≠x
def Sv{h:Heap}{dx:Addr}{mA:Str->Option Value}(n:h.Ns1 dx mA):∃od,h.get? dx=some od/\∀name,PySem.W.lookIn name od=some (mA name):=by
 obtain⟨o,es,ep,ho,hd,hk,_,hm⟩:=n;refine⟨o,ho,λname=>?_⟩;have e:=hm name;unfold nsFind findBy at e;rw[<- Array.find?_toList]at e;unfold PySem.W.lookIn;rw[hd];dsimp only;split
 . rename_i y q;rw[q]at e;exact congrArg some e
 . rename_i q;rw[q]at e;have a:es.toList.any (·.refKey)=false:=by
    rw[List.any_eq_false];intro y hy;obtain⟨z,t,tw⟩:=hk y (Array.mem_toList_iff.mp hy);simp[DictEntry.refKey,tw]
   have a':¬es.toList.any (·.refKey)=true:=by rw[a];exact aO
   rw[if_neg a'];exact congrArg some e
def Qq.look{h:Heap}{x dx C:Addr}{mA:Str->Option Value}(I:Qq h x dx C mA):∃od,PySem.W.InstAt h x (PySem.W.instObj C dx) C (some od)/\∀name,PySem.W.lookIn name od=some (mA name):=
 let⟨od,ho,hl⟩:=Sv I.ns
 ⟨od,⟨I.obj,U,U,ho⟩,hl⟩
section
variable{prog:Program}{w:World}{A:Around}{E:Value->Shared->Prop}{s:Shared}{K:aa}{x dx C f:Addr}{mA:Str->Option Value}{name:Str}{v:Value}
def XC{uz:Bool}{Q:Value->Shared->Prop}(X:K.In s.heap)(I:Qq s.heap x dx C mA)(hg:PySem.W.plainGet K C name=true)(hh:PySem.W.hasDictIn K C=true)
    (ha:PySem.W.findIn K (.ref C) name=some none) (hv:mA name=some v) (hv':PySem.W.handedIn v=true) (h:Q v { s with toks:=s.toks+1 }) :
    wpAny (model prog w) A (getAttr (.ref x) name uz) Q E s:=by
 obtain⟨od,J,hl⟩:=I.look;exact PySem.W.get_value X J (PySem.W.plainGet_of hg).1 (PySem.W.findObj_own hh ha U (by rw[hl,hv])) hv' h
def Vs{pl:Sem Bool}{Q:Value × List Value->Shared->Prop}(X:K.In s.heap)(I:Qq s.heap x dx C mA)(hg:PySem.W.plainGet K C name=true)
    (hf:PySem.W.findIn K (.ref C) name=some (some (.ref f))) (ht:PySem.W.isFn K (.ref f)=true) (hv:mA name=none) (h:Q (.ref f,[.ref x]) s) :
    wpAny (model prog w) A (getMethod (.ref x) name pl) Q E s:=by
 obtain⟨od,J,hl⟩:=I.look;exact PySem.W.method_fn X J (PySem.W.plainGet_of hg).1 (PySem.W.plainGet_of hg).2 hf (beq_iff_eq.mp ht) (by show(PySem.W.lookIn name od).map (·.isSome)=some false;rw[hl,hv];rfl) h
def WG{ns:List Str}{Q:Unit->Shared->Prop}(X:K.In s.heap)(I:Qq s.heap x dx C mA)
    (hs:PySem.W.findIn K (.ref C) "__setattr__"=some (some (.builtin "object.__setattr__"))) (hp:PySem.W.plainOver K C=true) (ht:PySem.W.takerIn K C name=some none) (hh:PySem.W.hasDictIn K C=true)
    (hw:PySem.Within mA ns) (kS:ns.length<=sizeLine)
    (h:∀h',Qq h' x dx C (λy=>if y=name then some v else mA y)->Heap.SameBut dx s.heap h'->Q () { s with heap:=h',toks:=s.toks+2 }) :
    wpAny (model prog w) A (setAttr (.ref x) name v) Q E s:=by
 obtain⟨od,J,hl⟩:=I.look;refine PySem.W.set_plain X J hs (PySem.W.osa_open (s:={ s with toks:=s.toks+1 }) (r:=none) X J hp ht λb=>?_);obtain⟨cd,hc,iE⟩:=PySem.W.any_some hh;have hx:s.heap.get? x=some ⟨.ref C,some dx,.plain,#[]⟩:=I.obj;refine wpAny_bind (wpAny_pure (wpAny_bind (wpAny_bind (wpAny_loadPart hx (wpAny_bind (PySem.W.Looks.here (s:={ s with toks:=s.toks+1 }) (PySem.W.looks_clsIn X hc) ?_))))));rw[iE];refine wpAny_pure (a:=some dx) (wpAny_bind (wpAny_pure (wpAny_bind ?_)));refine wpAny_nsSet1 (s:={ s with toks:=s.toks+1 }) I.ns λh' lg nJ=>?_;obtain⟨oD,esD,epD,hoD,hdD,hcD⟩:=lg.count (PySem.Within.cons name v hw);refine wpAny_bind (wpAny_lookBehind hoD (by rw[hdD];exact pastItsLine_dict (ag hcD (by rw[bM];omega))) ?_);exact wpAny_pure (h _ ⟨(nJ.2 _ (Ne.symm I.ne)).trans I.obj,lg,I.ne⟩ nJ)
def Vd{R:Result->Shared->Prop}{vs:List Value}{kw:List (Str × Value)}(X:K.In s.heap)(hm:PySem.W.makesIn K C=true)
    (hi:PySem.W.findIn K (.ref C) "__init__"=some (some (.ref f))) (hf:PySem.W.typeIn K (.ref f)=some (.type "function"))
    (h:codeAny (model prog w) (A.under (.builtin "type.__call__" ⟨.ref C::vs,kw⟩)) (.call (.ref f) ⟨.ref (s.heap.objs.size+1)::vs,kw⟩) (PySem.W.InitBack (s.heap.objs.size+1) R)
     { s with heap:=(s.heap.push PySem.W.emptyDict).push (PySem.W.instObj C s.heap.objs.size) }) :
    codeAny (model prog w) A (.call (.ref C) ⟨vs,kw⟩) R s:=by
 obtain⟨hh,g,d,t,os⟩:=s;exact PySem.W.make_core (PySem.W.makes_of X hm) (PySem.W.looks_findIn X hi) (λself=>PySem.W.bind_fn X self hf) (.inl U) h
def Su{R:Result->Shared->Prop}(X:K.In s.heap)(hm:PySem.W.makesIn K C=true)
    (hi:PySem.W.findIn K (.ref C) "__init__"=some (some (.builtin "object.__init__")))
    (hb:∀self,PySem.W.Looks (model prog w) s.heap (bindSpecial (.builtin "object.__init__") self) (.builtin "object.__init__",[self]))
    (h:codeAny (model prog w) (A.under (.builtin "type.__call__" ⟨[.ref C],[]⟩)) (.call (.builtin "object.__init__") ⟨[.ref (s.heap.objs.size+1)],[]⟩) (PySem.W.InitBack (s.heap.objs.size+1) R)
     { s with heap:=(s.heap.push PySem.W.emptyDict).push (PySem.W.instObj C s.heap.objs.size) }) :
    codeAny (model prog w) A (.call (.ref C) ⟨[],[]⟩) R s:=by
 obtain⟨hh,g,d,t,os⟩:=s;exact PySem.W.make_core (PySem.W.makes_of X hm) (PySem.W.looks_findIn X hi) hb (.inr ⟨U,U⟩) h
end
def Cr(f:Str)(v:V):List (Str × V)->List (Str × V)
 | []=>[(f,v)]
 | (g,x)::r=>if g=f then(g,v)::r else(g,x)::Cr f v r
theorem As(f g:Str)(v:V):∀fs:List (Str × V),(Cr f v fs).lookup g=if g=f then some v else fs.lookup g
 | []=>by
  show List.lookup g [(f,v)]=_;by_cases h:g=f
  . have hb:(g == f)=true:=beq_iff_eq.mpr h;simp only[List.lookup,hb,if_pos h]
  . have hb:(g == f)=false:=beq_eq_false_iff_ne.mpr h;simp only[List.lookup,hb,if_neg h]
 | (k,x)::r=>by
  have ih:=As f g v r;rw[show Cr f v ((k,x)::r)=(if k=f then(k,v)::r else(k,x)::Cr f v r)from rfl];by_cases hk:k=f
  . rw[if_pos hk];by_cases h:g=k
    . have hb:(g == k)=true:=beq_iff_eq.mpr h;simp only[List.lookup,hb,if_pos (h.trans hk)]
    . have hb:(g == k)=false:=beq_eq_false_iff_ne.mpr h;simp only[List.lookup,hb,if_neg (λe:g=f=>h (e.trans hk.symm))]
  . rw[if_neg hk];by_cases h:g=k
    . have hb:(g == k)=true:=beq_iff_eq.mpr h;simp only[List.lookup,hb,if_neg (λe:g=f=>hk (h.symm.trans e))]
    . have hb:(g == k)=false:=beq_eq_false_iff_ne.mpr h;simp only[List.lookup,hb];exact ih
theorem Gj(f:Str)(v:V):∀fs:List (Str × V),f∈(Cr f v fs).map (·.1)/\∀g,g∈fs.map (·.1)->g∈(Cr f v fs).map (·.1)
 | []=>⟨by simp[Cr],λg h=>by simp at h⟩
 | (k,x)::r=>by
  obtain⟨i1,i2⟩:=Gj f v r;rw[show Cr f v ((k,x)::r)=(if k=f then(k,v)::r else(k,x)::Cr f v r)from rfl];by_cases hk:k=f
  . rw[if_pos hk];subst hk;exact⟨by simp,λg h=>by simpa using h⟩
  . rw[if_neg hk];refine⟨?_,λg h=>?_⟩
    . rw[aZ];exact aC _ i1
    . rw[aZ]at h ⊢;rcases aD.mp h with e | e
      . exact aD.mpr (.inl e)
      . exact aC _ (i2 g e)
theorem Gz(f:Str)(v:V):∀fs:List (Str × V),(Cr f v fs).length<=fs.length+1
 | []=>by simp[Cr]
 | (k,x)::r=>by
  have ih:=Gz f v r;rw[show Cr f v ((k,x)::r)=(if k=f then(k,v)::r else(k,x)::Cr f v r)from rfl];by_cases hk:k=f
  . rw[if_pos hk,bM,bM];omega
  . rw[if_neg hk,bM,bM];omega
def JJ.some_of{v:V}{o:Option Value}(r:JJ (some v) o):∃u,o=some u/\D2 v u:=by
 cases o with
 | none=>exact(show False from r).elim
 | some u=>exact⟨u,U,r⟩
def JJ.none_of{o:Option Value}(r:JJ none o):o=none:=by
 cases o with
 | none=>rfl
 | some u=>exact(show False from r).elim
def SF{v:V}{u:Value}(r:D2 v u):PySem.W.handedIn u=true:=by
 cases v with
 | non=>cases (show u=Value.none from r);rfl
 | bl b=>cases (show u=Value.bool b from r);rfl
 | int i=>obtain⟨t,e⟩:=(show ∃t,u=Value.int i t from r);cases e;rfl
 | str x=>obtain⟨t,e⟩:=(show ∃t,u=Value.str x t from r);cases e;rfl
 | byt b=>obtain⟨t,e⟩:=(show ∃t,u=Value.bytes b t from r);cases e;rfl
 | flt b=>obtain⟨t,e⟩:=(show ∃t,u=Value.float b t from r);cases e;rfl
 | ref a=>cases (show u=Value.ref a from r);rfl
 | ty n=>cases (show u=Value.type n from r);rfl
section
variable{P:Program}{w:World}{H H':Hp}{h h':Heap}{a C dx:Addr}{fs ur:List (Str × V)}
def Hh(hok:AE P w H h)(e:H a=some (.ins C dx fs)):∃mA,Qq h a dx C mA/\(∀f,JJ (fs.lookup f) (mA f))/\PySem.Within mA (fs.map (·.1))/\fs.length<=1000/\H dx=some (.own a):=by
 obtain⟨d,z,ne,ob,mA,n,r,q⟩:=(show M7 P w H h a (.ins C dx fs)from hok a _ e);exact⟨mA,⟨ob,n,ne⟩,r,q,z,d⟩
end
structure Qs(K:aa)(C:Addr):Prop where
 pg:PySem.W.plainGet K C Str.empty=true
 hd:PySem.W.hasDictIn K C=true
 po:PySem.W.plainOver K C=true
 sa:PySem.W.findIn K (.ref C) "__setattr__"=some (some (.builtin "object.__setattr__"))
def Qs.get{K:aa}{C:Addr}(c:Qs K C)(f:Str):PySem.W.plainGet K C f=true:=c.pg
def EA(K:aa)(C:Addr)(f:Str):Prop:=PySem.W.findIn K (.ref C) f=some none
def EA.taker{K:aa}{C:Addr}{f:Str}(n:EA K C f):PySem.W.takerIn K C f=some none:=by
 unfold PySem.W.takerIn;rw[show PySem.W.findIn K (.ref C) f=some none from n];rfl
structure Con(K:aa)(C:Addr)(f:Str)(v:V)(u:Value):Prop where
 at_:PySem.W.findIn K (.ref C) f=some (some u)
 rel:D2 v u
 get:PySem.W.specialIn K u "__get__"=some none
 cp:PySem.W.copiedNames.contains f=false
structure Gp(K:aa)(C:Addr)(m:Str)(f:Addr):Prop where
 at_:PySem.W.findIn K (.ref C) m=some (some (.ref f))
 fn:PySem.W.isFn K (.ref f)=true
 kp:PySem.W.keepIn K (.ref f)=true
section
variable{X:Cx}{aS:List (Addr × Obj)}{σ:St}{H:Hp}{s:Shared}{a C dx:Addr}{fs:List (Str × V)}{f:Str}{v:V}{A:Around}{E:Value->Shared->Prop}
def PU{b:Bool}{Q:Value->Shared->Prop}(I:o9 X aS σ H s)(e:H a=some (.ins C dx fs))(c:Qs X.K C)(n:EA X.K C f)(l:fs.lookup f=some v)
    (h:∀u s',o9 X aS σ H s'->D2 v u->Q u s'):wpAny (model X.prog X.w) A (getAttr (.ref a) f b) Q E s:=by
 obtain⟨mA,a1b,r,_,_,_⟩:=Hh I.hok e;obtain⟨u,hu,ru⟩:=JJ.some_of (v:=v) (o:=mA f) (by rw[<- l];exact r f);exact XC I.kIn a1b (c.get f) c.hd n hu (SF ru) (h u _ (I.tok _) ru)
def Er{m:Str}{g:Addr}{pl:Sem Bool}{Q:Value × List Value->Shared->Prop}(I:o9 X aS σ H s)(e:H a=some (.ins C dx fs))(c:Qs X.K C)(k:Gp X.K C m g)(l:fs.lookup m=none)
    (h:Q (.ref g,[.ref a]) s):wpAny (model X.prog X.w) A (getMethod (.ref a) m pl) Q E s:=by
 obtain⟨mA,a1b,r,_,_,_⟩:=Hh I.hok e;have hn:mA m=none:=JJ.none_of (by rw[<- l];exact r m);exact Vs I.kIn a1b (c.get m) k.at_ k.fn hn h
def OO{y:V}{u:Value}{Q:Unit->Shared->Prop}(I:o9 X aS σ H s)(e:H a=some (.ins C dx fs))(c:Qs X.K C)(n:EA X.K C f)(hl:fs.length < 1000)(ry:D2 y u)
    (h:∀s',o9 X aS σ (upd H a (.ins C dx (Cr f y fs))) s'->Q () s'):wpAny (model X.prog X.w) A (setAttr (.ref a) f u) Q E s:=by
 obtain⟨mA,a1b,r,wi,_,ho⟩:=Hh I.hok e;have hz:(fs.map (·.1)).length<=sizeLine:=by rw[af,sizeLine_eq];omega
 refine WG I.kIn a1b c.sa c.po n.taker c.hd wi hz λh' O' sb=>h _ ?_;have hd:∃o,h'.get? dx=some o:=let⟨o,_,_,e',_⟩:=O'.ns;⟨o,e'⟩
 refine I.write (x:=a) (e:=dx) (by rw[e];exact True.intro) (.inr ho) (λb q hb z=>(sb.2 b hb).trans z) hd ?_;refine⟨by rw[l6 a1b.ne];exact ho,?_,a1b.ne,O'.obj,_,O'.ns,λg=>?_,λg hg=>?_⟩
 . have:=Gz f y fs;omega
 . show JJ ((Cr f y fs).lookup g) (if g=f then some u else mA g);rw[As];by_cases q:g=f
   . rw[if_pos q,if_pos q];exact ry
   . rw[if_neg q,if_neg q];exact r g
 . by_cases q:g=f
   . rw[q];exact(Gj f y fs).1
   . refine(Gj f y fs).2 g (wi g λz=>hg ?_);show(if g=f then some u else mA g)=none;rw[if_neg q];exact z
def o9.made(I:o9 X aS σ H s):o9 X aS σ (upd (upd H s.heap.objs.size (.own (s.heap.objs.size+1))) (s.heap.objs.size+1) (.ins C s.heap.objs.size []))
    { s with heap:=(s.heap.push PySem.W.emptyDict).push (PySem.W.instObj C s.heap.objs.size) }:=by
 have e1:(s.heap.push PySem.W.emptyDict).get? s.heap.objs.size=some PySem.W.emptyDict:=ay s.heap rfl;have e2:((s.heap.push PySem.W.emptyDict).push (PySem.W.instObj C s.heap.objs.size)).get? (s.heap.objs.size+1)=some (PySem.W.instObj C s.heap.objs.size):=by
  have:=ay (s.heap.push PySem.W.emptyDict) (o:=PySem.W.instObj C s.heap.objs.size) rfl;rwa [bu]at this
 have e3:(s.heap.push PySem.W.emptyDict).Ns s.heap.objs.size (λ_=>none):=⟨PySem.W.emptyDict,#[],_,e1,U,(λe he=>absurd he (by simp)),λ_=>rfl⟩;have I1:=I.laid (a:=s.heap.objs.size) (o:=.own (s.heap.objs.size+1)) (h':=s.heap.push PySem.W.emptyDict) (t':=s.toks) (λb u q=>ak _ q) (ae _) ⟨_,e1⟩;refine I1.laid (a:=s.heap.objs.size+1) (o:=.ins C s.heap.objs.size []) (t':=s.toks) (λb u q=>ak _ q) (Nat.le_of_eq (bu _ _)) ?_;have ne:s.heap.objs.size≠s.heap.objs.size+1:=aB (ck _);refine⟨by rw[l6 ne,b9],aY _,ne,e2,λ_=>none,(Heap.Ns1.of_empty e3).at λo q=>ak _ q,λ_=>True.intro,λy hy=>absurd rfl hy⟩
def XR{prog:Program}{w:World}{env:Env}{e:Expr}{f:Str}{pos:Pos}{s:Shared}{Q:Value->Shared->Prop}(hb:attributeBase e f env (eval e env)=eval e env)
    (h:wpAny (model prog w) A (eval e env) (λo s₁=>wpAny (model prog w) A (getAttr o f true) Q E s₁) E s):wpAny (model prog w) A (eval (.Attribute e f pos) env) Q E s:=
 Attribute_any_ h (by rw[arm_eval_Attribute,hb])
end
def tFld(K:aa)(ta:TE)(f:Str):TE:=λσ H Q=>ta σ H λx H1=>∃a C dx fs v,x=.ref a/\H1 a=some (.ins C dx fs)/\Qs K C/\EA K C f/\fs.lookup f=some v/\Q v H1
def sFld(K:aa)(ta tv:TE)(f:Str):TS:=λD σ H=>tv σ H λy H1=>ta σ H1 λx H2=>∃a C dx fs,x=.ref a/\H2 a=some (.ins C dx fs)/\Qs K C/\EA K C f/\fs.length < 1000/\
 D.nx σ (upd H2 a (.ins C dx (Cr f y fs)))
section
variable{X:Cx}{o e value:Expr}{f:Str}{pos fJ tpos:Pos}{ta tv:TE}
def HI(he:PE X e ta)(hb:attributeBase e f X.env (eval e X.env)=eval e X.env):PE X (.Attribute e f pos) (tFld X.K ta f):=by
 intro aS s σ H Q I h;refine XR hb (I9 (he aS s σ H _ I h) λu s1 hζ=>?_);obtain⟨x,H1,I1,rx,a,C,dx,fs,v,ex,ea,c,n,l,q⟩:=hζ;subst ex;obtain rfl:u=Value.ref a:=rx;exact PU I1 ea c n l λu' s2 I2 ru=>⟨v,H1,I2,ru,q⟩
def Zv(ha:PE X o ta)(hv:PE X value tv)(hs:swapsWith value (some (.Attribute o f fJ)) pos.line X.env=pure false):PS X (.Assign [.Attribute o f fJ] value pos) (sFld X.K ta tv f):=by
 intro aS s σ H D I h;refine plainObj_wpAny_Assign_Attribute (I9 (hv aS s σ H _ I h) λu s1 ⟨y,H1,I1,ry,q⟩=>I9 (ha aS s1 σ H1 _ I1 q) λov s2 hζ=>?_) hs;obtain⟨x,H2,I2,rx,a,C,dx,fs,ex,ea,c,n,l,q2⟩:=hζ;subst ex;obtain rfl:ov=Value.ref a:=rx;exact OO I2 ea c n l ry λs3 I3=>⟨σ,_,I3,q2⟩
def Yj{pl:Sem Bool}{m:Str}{fB:Pos}{args:List Expr}{aS:List (Addr × Obj)}{s:Shared}{σ:St}{H:Hp}{Q:Value->Shared->Prop}{te:TE}(he:PE X e te)(I:o9 X aS σ H s)
    (h:te σ H λx H1=>∃a C dx fs g,x=.ref a/\H1 a=some (.ins C dx fs)/\Qs X.K C/\Gp X.K C m g/\fs.lookup m=none/\
     ∀s1,o9 X aS σ H1 s1->wpAny (model X.prog X.w) X.A (callWith pos (.ref g) [.ref a] (backTo pos (starEach args X.env)) (backToKw pos (keywordEach [] X.env))) Q X.xe s1)
    (ht:eval (.Call (.Attribute e m fB) args [] pos) X.env=(do
     let ov <- eval e X.env
     standAt fB.atName
     let(f,first) <- holding [ov] (getMethod ov m pl)
     callWith pos f first (backTo pos (starEach args X.env)) (backToKw pos (keywordEach [] X.env)))) :
    wpAny (model X.prog X.w) X.A (eval (.Call (.Attribute e m fB) args [] pos) X.env) Q X.xe s:=by
 refine PySem.W.methodCall_KW (pl:=pl) (I9 (he aS s σ H _ I h) λu s1 hζ=>?_) ht;obtain⟨x,H1,I1,rx,a,C,dx,fs,g,ex,ea,c,k,l,q⟩:=hζ;subst ex;obtain rfl:u=Value.ref a:=rx;exact Er I1 ea c k l (q s1 I1)
end
section
variable{X:Cx}{aS:List (Addr × Obj)}{σ:St}{H:Hp}{s:Shared}{A:Around}{E:Value->Shared->Prop}{Q:Value->Shared->Prop}{c:Value}{b:Bool}
inductive BR(K:aa)(H:Hp):V->Value->Prop where
 | non:BR K H .non (.type "NoneType")
 | bl (x:Bool):BR K H (.bl x) (.type "bool")
 | int (i:Int):BR K H (.int i) (.type "int")
 | str (x:Str):BR K H (.str x) (.type "str")
 | flt (x:UInt64):BR K H (.flt x) (.type "float")
 | lst {a:Addr} {xs:List V} (e:H a=some (.lst xs)):BR K H (.ref a) (.type "list")
 | frz {a:Addr} {o:Obj} {xs:List V} (e:H a=some (.frz o (.lst xs))):BR K H (.ref a) (.type "list")
 | tup {a:Addr} {xs:List V} (e:H a=some (.tup xs)):BR K H (.ref a) (.type "tuple")
 | dK {a:Addr} {fi:List (Mh × V)} (e:H a=some (.dK fi)):BR K H (.ref a) (.type "dict")
 | dT {a:Addr} {fi:List (List Mh × V)} (e:H a=some (.dT fi)):BR K H (.ref a) (.type "dict")
 | ins {a C dx:Addr} {fs:List (Str × V)} (e:H a=some (.ins C dx fs)) (cl:Qs K C) (ha:PySem.W.findIn K (.ref C) "__class__"=some (some (.builtin "object.__class__")))
     (hn:PySem.W.specialIn K (.builtin "object.__class__") "__get__"=some (some (.builtin "getset_descriptor.__get__"))) (vG:PySem.W.takesIn K (.builtin "object.__class__")=some true)
     (hm:PySem.W.mroIn K C (.type "object")=some true):BR K H (.ref a) (.ref C)
def SB{x:V}{u t:Value}(I:o9 X aS σ H s)(rx:D2 x u)(ty:BR X.K H x t)(e:PySem.W.kitOne X.K t c=some b)(h:∀tk,Q (.bool b) { s with toks:=tk }) :
    wpAny (model X.prog X.w) A (call (.builtin "isinstance") [u,c]) Q E s:=by
 cases ty with
 | non=>cases (show u=Value.none from rx);exact bH PySem.W.kitx_none I.kIn True.intro e (λz=>nomatch z) h
 | bl y=>cases (show u=Value.bool y from rx);exact bH PySem.W.kitx_bool I.kIn True.intro e (λz=>nomatch z) h
 | int i=>obtain⟨t,q⟩:=(show ∃t,u=Value.int i t from rx);cases q;exact bH PySem.W.kitx_int I.kIn True.intro e (λz=>nomatch z) h
 | str y=>obtain⟨t,q⟩:=(show ∃t,u=Value.str y t from rx);cases q;exact bH PySem.W.kitx_str I.kIn True.intro e (λz=>nomatch z) h
 | flt y=>obtain⟨t,q⟩:=(show ∃t,u=Value.float y t from rx);cases q;exact bH PySem.W.kitx_float I.kIn True.intro e (λz=>nomatch z) h
 | @lst a xs ea=>
  cases (show u=Value.ref a from rx);obtain⟨_,_,n,_,h1⟩:=(show M7 X.prog X.w H s.heap a (.lst xs)from I.hok a _ ea);exact bH PySem.W.kitx_list I.kIn ⟨_,h1,U⟩ e (λz=>nomatch z) h
 | @frz a ob xs ea=>
  cases (show u=Value.ref a from rx);obtain⟨_,_,_,n,_,h1⟩:=(show M7 X.prog X.w H s.heap a (.frz ob (.lst xs))from I.hok a _ ea);exact bH PySem.W.kitx_list I.kIn ⟨_,h1,U⟩ e (λz=>nomatch z) h
 | @tup a xs ea=>
  cases (show u=Value.ref a from rx);obtain⟨_,_,_,p,_⟩:=(show M7 X.prog X.w H s.heap a (.tup xs)from I.hok a _ ea);obtain⟨o,h1,h2,_⟩:=p;exact bH PySem.W.kitx_tuple I.kIn ⟨o,h1,h2⟩ e (λz=>nomatch z) h
 | @dK a fi ea=>
  cases (show u=Value.ref a from rx);obtain⟨_,_,vs,_,p⟩:=(show M7 X.prog X.w H s.heap a (.dK fi)from I.hok a _ ea);obtain⟨o,es,ep,h1,h2,_⟩:=p;exact bH PySem.W.kitx_dict I.kIn ⟨o,h1,h2.1⟩ e (λz=>nomatch z) h
 | @dT a fi ea=>
  cases (show u=Value.ref a from rx);obtain⟨_,_,xs,_,o,es,ep,h1,h2,_⟩:=(show M7 X.prog X.w H s.heap a (.dT fi)from I.hok a _ ea);exact bH PySem.W.kitx_dict I.kIn ⟨o,h1,h2.1⟩ e (λz=>nomatch z) h
 | @ins a C dx fs ea cl ha hn vG hm=>
  cases (show u=Value.ref a from rx);obtain⟨mA,a1b,_⟩:=Hh I.hok ea;obtain⟨od,J,_⟩:=a1b.look;exact bH (PySem.W.kitx_own (cl.get _) cl.hd ha hn vG hm) I.kIn J e (λz=>nomatch z) h
end
structure M0(k:Nat)(A:Around):Prop where
 hd:A.handled=none
 dp:A.depth+3 * k+5 < recursionLimit
 un:A.units+16 * k+200 < cLine
def M0.mono{j k:Nat}{A:Around}(r:M0 k A)(h:j<=k):M0 j A:=⟨r.hd,by have:=r.dp;omega,by have:=r.un;omega⟩
theorem M0.deeper{k:Nat}{A:Around}(r:M0 (k+1) A)(env:Env):M0 k (A.deeper env):=
 ⟨r.hd,by have:=r.dp;show A.depth+1+3 * k+5 < _;omega,by have:=r.un;show A.units+3+16 * k+200 < _;omega⟩
def Pt{A:Around}{C:Addr}{us:List Value}{kw:List (Str × Value)}:(A.under (.builtin "type.__call__" ⟨.ref C::us,kw⟩)).depth=A.depth+1:=by
 first | rfl | simp[Around.under,Code.weight,Code.isCreation,Code.isGuard,Code.isCaller,Code.frames,Code.isFrame,guardIds]
def Pq{A:Around}{C:Addr}{us:List Value}{kw:List (Str × Value)}:(A.under (.builtin "type.__call__" ⟨.ref C::us,kw⟩)).units=A.units+1:=by
 first | rfl | simp[Around.under,Code.cUnits,Code.frames,Code.isFrame]
def M0.make{k:Nat}{A:Around}(r:M0 (k+1) A)(C:Addr)(us:List Value)(kw:List (Str × Value)):M0 k (A.under (.builtin "type.__call__" ⟨.ref C::us,kw⟩)):=
 ⟨r.hd,by have:=r.dp;rw[Pt];omega,by have:=r.un;rw[Pq];omega⟩
theorem M0.depth{k:Nat}{A:Around}(r:M0 k A):A.depth < recursionLimit:=by have:=r.dp;omega
theorem M0.units{k:Nat}{A:Around}(r:M0 k A):A.units+64 < cLine:=by have:=r.un;omega
def tNil:TA:=λ_ H Q=>Q [] H
def BC(ta:TE)(tr:TA):TA:=λσ H Q=>ta σ H λx H1=>tr σ H1 λxs H2=>Q (x::xs) H2
section
variable{X:Cx}{e:Expr}{es:List Expr}{te:TE}{t:TA}{pos:Pos}
def J1:PA X [] tNil:=λ_ _ _ _ H Q I h=>Calls.spliced_nil ⟨[],H,I,.nil,h⟩
def J7(ha:PE X e te)(hr:PA X es t)(hs:starEach (e::es) X.env=(false,eval e X.env)::starEach es X.env:=by rfl):PA X (e::es) (BC te t):=by
 intro pos aS s σ H Q I h;rw[hs];show wpAny _ _ (spliced ((false,eval e X.env)::backTo pos (starEach es X.env))) _ _ s;refine Calls.spliced_cons (I9 (ha aS s σ H _ I h) λu s1 ⟨x,H1,I1,r1,q1⟩=>?_);exact I9 (hr pos aS s1 σ H1 _ I1 q1) λus s2 ⟨xs,H2,I2,r2,q2⟩=>⟨x::xs,H2,I2,.cons r1 r2,q2⟩
def tTup(t:TA):TE:=λσ H Q=>t σ H λxs H1=>xs.length<=sizeLine/\∀p,H1 p=none->Q (.ref p) (upd H1 p (.tup xs))
def c0s(t:TA):TE:=λσ H Q=>t σ H λxs H1=>xs.length<=sizeLine/\∀p,H1 p=none->Q (.ref p) (upd H1 p (.lst xs))
def C9{x1}(h:PA X es t):PE X (.Tuple es x1 pos) (tTup t):=by
 intro aS s σ H Q I hq;refine wpAny_Tuple_spliced (I9 (h pos aS s σ H _ I hq) λus s1 ⟨xs,H1,I1,r,z,q⟩=>⟨by rw[<- r.length];exact z,?_⟩);have hf:H1 s1.heap.objs.size=none:=I1.hok.fresh (ae _);refine⟨.ref s1.heap.objs.size,upd H1 s1.heap.objs.size (.tup xs),I1.laid (t':=s1.toks) (λb u e=>ak _ e) (ae _) ?_,U,q _ hf⟩;exact⟨z,us,r,⟨_,ay _ U,U,_,U⟩,λ_=>⟨_,ay _ U,U⟩⟩
def D0(h:PA X es t):PE X (.List es pos) (c0s t):=by
 intro aS s σ H Q I hq;refine wpAny_List_spliced (I9 (h pos aS s σ H _ I hq) λus s1 ⟨xs,H1,I1,r,z,q⟩=>⟨by rw[<- r.length];exact z,?_⟩);have hf:H1 s1.heap.objs.size=none:=I1.hok.fresh (ae _);refine⟨.ref s1.heap.objs.size,upd H1 s1.heap.objs.size (.lst xs),I1.laid (t':=s1.toks) (λb u e=>ak _ e) (ae _) ?_,U,q _ hf⟩;exact⟨z,us,0,r,ay _ U⟩
end
abbrev Sp:=List V->Hp->VK->XK->Prop
abbrev RE:=List Env->Hp->Shared->XK->Value->Shared->Prop
structure JK(P:Program)(w:World)(K:aa)(mg:Str->Option Value)(base:Heap)(A:Around)(outer:List Env)(s:Shared)(H:Hp):Prop where
 frames:A.frames=some outer
 mod:Mod K mg base
 bs:∀b o,base.get? b=some o->s.heap.get? b=some o/\H b=none
 bsz:base.objs.size<=s.heap.objs.size
 funs:s.heap.FunFrames base outer
 frf:∀b∈Hi outer,H b=none
 hok:AE P w H s.heap
 bare:AllBare s.gens
def CE(outer:List Env)(P:Program)(w:World)(H:Hp)(s:Shared)(Q:VK)(u:Value)(s':Shared):Prop:=
 ∃v H',s'.os=s.os/\AllBare s'.gens/\Un (Hi outer) [] H H' s.heap s'.heap/\AE P w H' s'.heap/\D2 v u/\Q v H'
def CR(CX:RE)(outer:List Env)(P:Program)(w:World)(H:Hp)(s:Shared)(Q:VK)(E:XK)(r:Result)(s':Shared):Prop:=
 match r with
 | .ok (.ret u)=>CE outer P w H s Q u s'
 | .ok _=>False
 | .error e=>CX outer H s E e s'
structure r8(P:Program)(w:World)(K:aa)(mg:Str->Option Value)(base:Heap)(CX:RE)(k:Nat)(f:Addr)(fd:FuncData)(ps:List Str)(sp:Sp):Prop where
 len:∀vs H Q E,sp vs H Q E->vs.length=ps.length
 run:∀(A:Around) (outer:List Env) (s:Shared) (H:Hp) (args:Args) (us:List Value) (vs:List V) (Q:VK) (E:XK),M0 k A->JK P w K mg base A outer s H->BindsTo s fd args (ps.zip us)->x8 vs us->sp vs H Q E->
  codeAny (model P w) A (.call (.ref f) args) (CR CX outer P w H s Q E) s
theorem r8.mono{P:Program}{w:World}{K:aa}{mg:Str->Option Value}{base:Heap}{CX:RE}{j k:Nat}{f:Addr}{fd:FuncData}{ps:List Str}{sp:Sp}(F:r8 P w K mg base CX j f fd ps sp)(h:j<=k) :
    r8 P w K mg base CX k f fd ps sp:=⟨F.len,λA outer s H args us vs Q E hr=>F.run A outer s H args us vs Q E (hr.mono h)⟩
def JK.make{P:Program}{w:World}{K:aa}{mg:Str->Option Value}{base:Heap}{A:Around}{outer:List Env}{s:Shared}{H:Hp}(e:JK P w K mg base A outer s H)(C:Addr)(us:List Value)(kw:List (Str × Value)) :
    JK P w K mg base (A.under (.builtin "type.__call__" ⟨.ref C::us,kw⟩)) outer s H:=⟨by first | exact e.frames | (simpa [Around.under,Code.envs,Code.isFrame,pushEnvs] using e.frames),e.mod,e.bs,e.bsz,e.funs,e.frf,e.hok,e.bare⟩
section
variable{X:Cx}{aS:List (Addr × Obj)}{σ:St}{H:Hp}{s s':Shared}
def o9.env0(I:o9 X aS σ H s):JK X.prog X.w X.K X.mg X.base X.A X.stack s H:=
 ⟨I.ok.frames,I.ok.mod,I.bs,ag I.ok.bsz I.sz,I.stack,I.stkFree,I.hok,I.bare⟩
def o9.after{Q:VK}{u:Value}(I:o9 X aS σ H s)(h:CE X.stack X.prog X.w H s Q u s'):EP X aS σ Q u s':=by
 obtain⟨v,H',os,bare,un,hok,r,q⟩:=h;obtain⟨hh,g,d,t,os'⟩:=s';obtain rfl:os'=s.os:=os;exact⟨v,H',I.call (h':=hh) (g':=g) (d':=d) (t':=t) (ch:=[]) un hok bare (λb z=>absurd z (by simp)),r,q⟩
end
def XX(sp:Sp)(fY:List V)(E:XK)(t:TA):TE:=λσ H Q=>t σ H λvs H1=>sp (vs++fY) H1 Q E
def XW(C:Addr)(m:Str)(sp:Sp)(fY:List V)(E:XK)(ta:TE)(t:TA):TE:=λσ H Q=>ta σ H λx H1=>∃a dx fs,x=.ref a/\H1 a=some (.ins C dx fs)/\fs.lookup m=none/\
 t σ H1 λvs H2=>sp (x::(vs++fY)) H2 Q E
def c0r(C:Addr)(sp:Sp)(fY:List V)(E:XK)(t:TA):TE:=λσ H Q=>t σ H λvs H1=>∀x dx,H1 x=none->H1 dx=none->dx≠x->
 sp (.ref x::(vs++fY)) (upd (upd H1 dx (.own x)) x (.ins C dx [])) (λv H2=>v=.non/\Q (.ref x) H2) E
def M1(K:aa)(fd:FuncData)(ps:List Str)(ds:List Value):Prop:=
 ∀(s:Shared) (us:List Value),K.In s.heap->(us++ds).length=ps.length->BindsTo s fd ⟨us,[]⟩ (ps.zip (us++ds))
def M1.all{K:aa}{fd:FuncData}{ps:List Str}(h:∀us:List Value,us.length=ps.length->bindArgs fd ⟨us,[]⟩=pure (ps.zip us)):M1 K fd ps []:=λs us _ hl=>by
 rw[bI]at hl ⊢;exact .of_eq (h us hl)
def Ey(CX:RE)(X:Cx)(E:XK):Prop:=∀(aS:List (Addr × Obj)) (σ:St) (H:Hp) (s:Shared) (e:Value) (s':Shared),o9 X aS σ H s->CX X.stack H s E e s'->X.xe e s'
section
variable{X:Cx}{CX:RE}{k:Nat}{f C:Addr}{fd:FuncData}{ps:List Str}{sp:Sp}{fY:List V}{ds:List Value}{E:XK}{x m:Str}{p pos fB:Pos}{e o:Expr}{es:List Expr}{ta:TE}{t:TA}
def OS{aS:List (Addr × Obj)}{σ:St}{H:Hp}{s:Shared}{Q:VK}{us:List Value}{vs:List V}(F:r8 X.prog X.w X.K X.mg X.base CX k f fd ps sp)(hr:M0 k X.A)(hb:M1 X.K fd ps ds)(hd:x8 fY ds)(hx:Ey CX X E)
    (I:o9 X aS σ H s) (r:x8 vs us) (h:sp (vs++fY) H Q E):wpAny (model X.prog X.w) X.A (call (.ref f) us) (EP X aS σ Q) X.xe s:=by
 have r2:x8 (vs++fY) (us++ds):=r.append hd;have hl:(us++ds).length=ps.length:=by rw[<- r2.length];exact F.len _ _ _ _ h
 refine wpAny_call (codeAny_mono (F.run X.A X.stack s H ⟨us,[]⟩ (us++ds) (vs++fY) Q E hr I.env0 (hb s us I.kIn hl) r2 h) λr s' hq=>?_);cases r with
 | error e=>exact hx aS σ H s e s' I hq
 | ok fl=>
  cases fl with
  | ret u=>exact I.after hq
  | next=>exact False.elim hq
  | brk=>exact False.elim hq
  | cont=>exact False.elim hq
def x9(F:r8 X.prog X.w X.K X.mg X.base CX k f fd ps sp)(hr:M0 k X.A)(hg:Gl X x)(hm:X.mg x=some (.ref f))(hk:PySem.W.keepIn X.K (.ref f)=true)(hb:M1 X.K fd ps ds)(hd:x8 fY ds)(hx:Ey CX X E)
    (ha:PA X (e::es) t) (iy:(x == ("__debug__":Str))=false:=by decide) (he:starEach (e::es) X.env=(false,eval e X.env)::starEach es X.env:=by rfl) (fV:(backTo pos (starEach es X.env)).any (·.1)=false:=by rfl) :
    PE X (.Call (.Name x p) (e::es) [] pos) (XX sp fY E t):=by
 intro aS s σ H Q I h;refine wpAny_Call_Name_kw (Fl I hg hm ?_ iy);refine dk (h₀:=X.base) I.ok.mod.kin hk (I9 (ha pos aS s σ H _ I h) λus s1 ⟨vs,H1,I1,r,q⟩=>⟨I1.kIn,?_⟩) he fV;exact OS F hr hb hd hx I1 r q
def V4{pl:Sem Bool}(he:PE X o ta)(c:Qs X.K C)(hm:Gp X.K C m f)(F:r8 X.prog X.w X.K X.mg X.base CX k f fd ps sp)(hr:M0 k X.A)(hb:M1 X.K fd ps ds)(hd:x8 fY ds)(hx:Ey CX X E)(ha:PA X (e::es) t)
    (kT:starEach (e::es) X.env=(false,eval e X.env)::starEach es X.env:=by rfl) (fV:(backTo pos (starEach es X.env)).any (·.1)=false:=by rfl)
    (ht:eval (.Call (.Attribute o m fB) (e::es) [] pos) X.env=(do
     let ov <- eval o X.env
     standAt fB.atName
     let(f,first) <- holding [ov] (getMethod ov m pl)
     callWith pos f first (backTo pos (starEach (e::es) X.env)) (backToKw pos (keywordEach [] X.env))):=by rfl) :
    PE X (.Call (.Attribute o m fB) (e::es) [] pos) (XW C m sp fY E ta t):=by
 intro aS s σ H Q I h;refine PySem.W.methodCall_KW (pl:=pl) (I9 (he aS s σ H _ I h) λu s1 hζ=>?_) ht;obtain⟨x,H1,I1,rx,a,dx,fs,ex,ea,l,q⟩:=hζ;subst ex;obtain rfl:u=Value.ref a:=rx;refine Er I1 ea c hm l ?_;refine dk (first:=[.ref a]) (h₀:=X.base) I.ok.mod.kin hm.kp (I9 (ha pos aS s1 σ H1 _ I1 q) λus s2 ⟨vs,H2,I2,r,q2⟩=>⟨I2.kIn,?_⟩) kT fV;exact OS (us:=.ref a::us) (vs:=.ref a::vs) F hr hb hd hx I2 (.cons U r) q2
def AR{pl:Sem Bool}(he:PE X o ta)(c:Qs X.K C)(hm:Gp X.K C m f)(F:r8 X.prog X.w X.K X.mg X.base CX k f fd ps sp)(hr:M0 k X.A)(hb:M1 X.K fd ps ds)(hd:x8 fY ds)(hx:Ey CX X E)
    (ht:eval (.Call (.Attribute o m fB) [] [] pos) X.env=(do
     let ov <- eval o X.env
     standAt fB.atName
     let(f,first) <- holding [ov] (getMethod ov m pl)
     callWith pos f first (backTo pos (starEach [] X.env)) (backToKw pos (keywordEach [] X.env))):=by rfl) :
    PE X (.Call (.Attribute o m fB) [] [] pos) (XW C m sp fY E ta tNil):=by
 intro aS s σ H Q I h;refine PySem.W.methodCall_KW (pl:=pl) (I9 (he aS s σ H _ I h) λu s1 hζ=>?_) ht;obtain⟨x,H1,I1,rx,a,dx,fs,ex,ea,l,q⟩:=hζ;subst ex;obtain rfl:u=Value.ref a:=rx;refine Er I1 ea c hm l ?_;exact PySem.W.callWith_K0 (first:=[.ref a]) I1.kIn hm.kp (OS (us:=[.ref a]) (vs:=[.ref a]) F hr hb hd hx I1 (.cons U .nil) q)
structure Mk(K:aa)(C f:Addr):Prop where
 makes:PySem.W.makesIn K C=true
 init:PySem.W.findIn K (.ref C) "__init__"=some (some (.ref f))
 fn:PySem.W.isFn K (.ref f)=true
 kp:PySem.W.keepIn K (.ref C)=true
def Uk{aS:List (Addr × Obj)}{σ:St}{H:Hp}{s:Shared}{Q:VK}{us:List Value}{vs:List V}(M:Mk X.K C f)(F:r8 X.prog X.w X.K X.mg X.base CX k f fd ps sp)(hr:M0 (k+1) X.A)(hb:M1 X.K fd ps ds)(hd:x8 fY ds)
    (hx:Ey CX X E) (I:o9 X aS σ H s) (r:x8 vs us)
    (h:∀x dx,H x=none->H dx=none->dx≠x->sp (.ref x::(vs++fY)) (upd (upd H dx (.own x)) x (.ins C dx [])) (λv H2=>v=.non/\Q (.ref x) H2) E) :
    wpAny (model X.prog X.w) X.A (call (.ref C) us) (EP X aS σ Q) X.xe s:=by
 have hq:=h (s.heap.objs.size+1) s.heap.objs.size (I.hok.fresh (Nat.le_succ _)) (I.hok.fresh (ae _)) (aB (ck _));have I2:=o9.made (C:=C) I;have r2:x8 (V.ref (s.heap.objs.size+1)::(vs++fY)) (Value.ref (s.heap.objs.size+1)::(us++ds)):=.cons rfl (r.append hd);have hl:(Value.ref (s.heap.objs.size+1)::us++ds).length=ps.length:=by
  have e:=r2.length;rw[F.len _ _ _ _ hq]at e;exact e.symm
 refine wpAny_call (Vd (f:=f) I.kIn M.makes M.init (beq_iff_eq.mp M.fn) (codeAny_mono (F.run _ X.stack _ _ ⟨Value.ref (s.heap.objs.size+1)::us,[]⟩ (Value.ref (s.heap.objs.size+1)::(us++ds)) _ _ E (hr.make C us [])
  (I2.env0.make C us []) (hb _ (Value.ref (s.heap.objs.size+1)::us) I2.kIn hl) r2 hq) λr s' gb=>?_))
 cases r with
 | error e=>exact hx aS σ _ _ e s' I2 gb
 | ok fl=>
  cases fl with
  | ret u=>
   obtain⟨v,H',I3,rv,ev,q3⟩:=I2.after gb;subst ev;exact⟨rv,⟨V.ref (s.heap.objs.size+1),H',I3,U,q3⟩⟩
  | next=>exact False.elim gb
  | brk=>exact False.elim gb
  | cont=>exact False.elim gb
def WW(M:Mk X.K C f)(F:r8 X.prog X.w X.K X.mg X.base CX k f fd ps sp)(hr:M0 (k+1) X.A)(hg:Gl X x)(hm:X.mg x=some (.ref C))(hb:M1 X.K fd ps ds)(hd:x8 fY ds)(hx:Ey CX X E)
    (ha:PA X (e::es) t) (iy:(x == ("__debug__":Str))=false:=by decide) (he:starEach (e::es) X.env=(false,eval e X.env)::starEach es X.env:=by rfl) (fV:(backTo pos (starEach es X.env)).any (·.1)=false:=by rfl) :
    PE X (.Call (.Name x p) (e::es) [] pos) (c0r C sp fY E t):=by
 intro aS s σ H Q I h;refine wpAny_Call_Name_kw (Fl I hg hm ?_ iy);refine dk (h₀:=X.base) I.ok.mod.kin M.kp (I9 (ha pos aS s σ H _ I h) λus s1 ⟨vs,H1,I1,r,q⟩=>⟨I1.kIn,?_⟩) he fV;exact Uk M F hr hb hd hx I1 r q
end
section
variable{X:Cx}{CX:RE}{k:Nat}{f C:Addr}{fd:FuncData}{ps ks:List Str}{sp:Sp}{E:XK}{x m:Str}{p pos fB nv:Pos}{e o:Expr}{es:List Expr}{kws:List Keyword}{te ta:TE}{t tk:TA}{nm:Option Str}
structure KBinds(K:aa)(fd:FuncData)(ps ks:List Str)(g:List Value->List Value->List Value)(gV:List V->List V->List V):Prop where
 to:∀(s:Shared) (us ws:List Value),K.In s.heap->(g us ws).length=ps.length->BindsTo s fd ⟨us,ks.zip ws⟩ (ps.zip (g us ws))
 rel:∀{vs:List V} {us:List Value} {zs:List V} {ws:List Value},x8 vs us->x8 zs ws->x8 (gV vs zs) (g us ws)
variable{g:List Value->List Value->List Value}{gV:List V->List V->List V}
end
structure c7(N P:List Str)(sc:Scope):Prop where
 kind:sc.kind=.function
 co:sc.isCoroutine=false
 gen:sc.isGenerator=false
 nd:N.Nodup
 pre:N.take P.length=P
 par:∀x∈P,sc.names.lookup x=some .local\/sc.names.lookup x=some .cell
 nofree:∀y∈sc.names,y.2≠.free
theorem Kn{kindOf:Str->Option NameKind}{x:Str}:∀{binds:List (Str × Value)} {m:Str->Option Value},(∀v,(x,v) ∉ binds)->bindL kindOf binds m x=m x
 | [],_,_=>rfl
 | (n,v)::r,m,h=>by
  unfold bindL;rw[Kn λw hw=>h w (aC _ hw)];split
  . have:x≠n:=by rintro rfl;exact h v aF
    simp[this]
  . rfl
theorem Kq{kindOf:Str->Option NameKind}{x:Str}:∀{binds:List (Str × Value)} {m:Str->Option Value},(∀v,(x,v) ∉ binds)->bindC kindOf binds m x=m x
 | [],_,_=>rfl
 | (n,v)::r,m,h=>by
  unfold bindC;rw[Kq λw hw=>h w (aC _ hw)];split
  . rfl
  . have:x≠n:=by rintro rfl;exact h v aF
    simp[this]
theorem Ko{kindOf:Str->Option NameKind}{x:Str}{v:Value}:∀{P:List Str} {vs:List Value} {i:Nat} {m:Str->Option Value},P.Nodup->P[i]? = some x->vs[i]? = some v->kindOf x=some .local->
    bindL kindOf (P.zip vs) m x=some v
 | [],_,_,_,_,h,_,_=>by simp at h
 | _::_,[],_,_,_,_,h,_=>by simp at h
 | p::P,w::vs,0,m,nd,h1,h2,hk=>by
  simp at h1 h2;subst h1;subst h2;show bindL kindOf ((p,w)::P.zip vs) m p=_;unfold bindL;rw[Kn λv hv=>(cn.mp nd).1 (List.of_mem_zip hv).1,if_pos hk];simp
 | p::P,w::vs,i+1,m,nd,h1,h2,hk=>by
  show bindL kindOf ((p,w)::P.zip vs) m x=_;unfold bindL;exact Ko (i:=i) (cn.mp nd).2 (by simpa using h1) (by simpa using h2) hk
theorem Kr{kindOf:Str->Option NameKind}{x:Str}{v:Value}:∀{P:List Str} {vs:List Value} {i:Nat} {m:Str->Option Value},P.Nodup->P[i]? = some x->vs[i]? = some v->kindOf x≠some .local->
    bindC kindOf (P.zip vs) m x=some v
 | [],_,_,_,_,h,_,_=>by simp at h
 | _::_,[],_,_,_,_,h,_=>by simp at h
 | p::P,w::vs,0,m,nd,h1,h2,hk=>by
  simp at h1 h2;subst h1;subst h2;show bindC kindOf ((p,w)::P.zip vs) m p=_;unfold bindC;rw[Kq λv hv=>(cn.mp nd).1 (List.of_mem_zip hv).1,if_neg hk];simp
 | p::P,w::vs,i+1,m,nd,h1,h2,hk=>by
  show bindC kindOf ((p,w)::P.zip vs) m x=_;unfold bindC;exact Kr (i:=i) (cn.mp nd).2 (by simpa using h1) (by simpa using h2) hk
def DC(N:List Str)(vs:List V):St:=vs.map some++List.replicate (N.length - vs.length) none
def GV(CX:RE)(P:Program)(w:World)(K:aa)(mg:Str->Option Value)(base:Heap)(N:List Str)(qual:Str)(scope:Scope)(f:Addr)(cd:Value)(A:Around)(outer:List Env)(s:Shared)(H:Hp)(E:XK):Cx where
 prog:=P
 w:=w
 K:=K
 mg:=mg
 base:=base
 A:=A.deeper (envOfC qual scope s.heap.objs.size f cd)
 N:=N
 s₀:=s
 H₀:=H
 env:=envOfC qual scope s.heap.objs.size f cd
 outer:=outer
 stack:=envOfC qual scope s.heap.objs.size f cd::outer
 ex:=[]
 calm:=true
 fn:=λ_=>true
 pn:=[]
 xe:=λe s'=>wpAny (model P w) (A.deeper (envOfC qual scope s.heap.objs.size f cd)) (leaving (envOfC qual scope s.heap.objs.size f cd) e) (λ_ iH=>CX outer H s E e iH) (λe' iH=>CX outer H s E e' iH) s'
def Od{sc:Scope}{n:Nat}{x:Str}(h:sc.names.lookup x=some .cell):∃c,(cellsFrom n sc.names []).lookup x=some c:=by
 have q:=PySem.W.cellsFrom_some sc.names n [] (.inl h);exact Option.isSome_iff_exists.mp q
def SD{CX:RE}{P:Program}{w:World}{K:aa}{mg:Str->Option Value}{base:Heap}{N ps:List Str}{qual:Str}{scope:Scope}{f:Addr}{cd:Value}{A:Around}{outer:List Env}{s s1:Shared}{H:Hp}{E:XK}{us:List Value}{vs:List V}
    (S:c7 N ps scope) (hd:A.handled=none) (e0:JK P w K mg base A outer s H) (hl:vs.length=ps.length) (r:x8 vs us)
    (x:InCallC s s.heap.objs.size (bindL (envOfC qual scope s.heap.objs.size f cd).kindOf (ps.zip us) λ_=>none) (cellsFrom (s.heap.objs.size+1) scope.names []) (bindC (envOfC qual scope s.heap.objs.size f cd).kindOf (ps.zip us) λ_=>none) s1) :
    o9 (GV CX P w K mg base N qual scope f cd A outer s H E) [] (DC N vs) H s1:=by
 have fV:ps.length<=N.length:=by have:=congrArg List.length S.pre;rw[bN]at this;omega
 obtain⟨h1,tk,rfl,hk⟩:=x.done;have jv:∀b:Addr,b ∉ (GV CX P w K mg base N qual scope f cd A outer s H E).ex:=λb z=>absurd (show b∈([]:List Addr)from z) (by simp);refine⟨⟨e0.mod,S.kind,U,U,ae _,λy z c h1 h2=>?_,λy hy=>?_,λy c _ h=>?_,λ_=>hd,Around.frames_deeper e0.frames,.inr ⟨U,U⟩,λb z=>absurd z (jv b),e0.bs,e0.bsz,λb _ _=>jv b,λb z=>absurd z (jv b),e0.funs,e0.frf⟩,
  rfl,e0.bare,Un.kept hk,⟨_,x.toInCall.ns,λi y v h1 h2 h3=>?_⟩,λy c h=>⟨_,x.cell y c h⟩,e0.hok.fresh (ae _),λy c h=>?_,λp hp=>absurd (show p∈([]:List (Addr × Obj))from hp) (by simp),e0.hok.kept hk,?_⟩
 . exact name_of_addr x.apart (bg h1) (bg h2)
 . have hy:scope.names.lookup y=some .cell\/scope.names.lookup y=some .free:=hy;rcases hy with hy | hy
   . exact Od hy
   . exact absurd rfl (S.nofree _ (bg hy))
 . exact bF (x.above y c (bg h))
 . have hi:i < vs.length:=by
    unfold DC at h2;by_cases hi:i < vs.length
    . exact hi
    . rw[ba (by simpa using hi)]at h2;rw[dM]at h2;split at h2 <;>cases h2
   have ha:vs[i]? = some v:=by
    unfold DC at h2;rw[aW (by simpa using hi),aE]at h2;cases e:vs[i]? with
    | none=>rw[e]at h2;cases h2
    | some a=>rw[e]at h2;cases h2;rfl
   obtain⟨u,hu,rv⟩:=r.get ha;have hp:ps[i]? = some y:=by
    rw[<- S.pre,List.getElem?_take_of_lt Y];exact h1
   have vy:ps.Nodup:=by rw[<- S.pre];exact S.nd.sublist (List.take_sublist _ _)
   refine⟨u,rv,?_⟩;rcases S.par y (aK hp)with k | k
   . exact .inl ⟨k,Ko vy hp hu k⟩
   . obtain⟨c,e⟩:=Od (n:=s.heap.objs.size+1) k;refine .inr ⟨.inl k,c,e,?_⟩;have q:=x.cell y c e;rw[Kr vy hp hu (by show scope.names.lookup y≠_;rw[k];decide)]at q;exact q
 . exact e0.hok.fresh (bF (x.above y c (bg h)))
 . unfold DC;show _=N.length;rw[aq,af,dm];omega
def Yo{CX:RE}{P:Program}{w:World}{K:aa}{mg:Str->Option Value}{base:Heap}{k:Nat}{f:Addr}{name qual:Str}{params:Arguments}{body:List Stmt}{scope:Scope}{dV kV gj pm fF ct oc:Value}{an od:Option Addr}
    {iD:Array (Option Value)} {N ps:List Str} {sp:Sp} (lk:K.lookup f=some ⟨oc,od,.func (PySem.W.fnOf name qual params body scope dV kV gj pm an fF ct),iD⟩) (gn:PySem.W.codeIn K fF qual=true) (S:c7 N ps scope)
    (len:∀vs H Q E,sp vs H Q E->vs.length=ps.length)
    (fg:∀(A:Around) (outer:List Env) (s:Shared) (H:Hp) (vs:List V) (Q:VK) (E:XK),M0 k (A.deeper (envOfC qual scope s.heap.objs.size f fF))->sp vs H Q E->
     ∃t,Mg (GV CX P w K mg base N qual scope f fF A outer s H E) body t/\t { nx:=λ_ H'=>Q .non H',rt:=Q } (DC N vs) H) :
    r8 P w K mg base CX (k+1) f (PySem.W.fnOf name qual params body scope dV kV gj pm an fF ct) ps sp:=by
 refine⟨len,λA outer s H args us vs Q E hr e0 hb r fR=>?_⟩;have hl:=len _ _ _ _ fR;have KX:K.In s.heap:=e0.mod.kin.keeps λb o e=>(e0.bs b o e).1;have kK:s.heap.NoLimit:=e0.mod.nolimit.keeps λb o e=>(e0.bs b o e).1;have nX:∀y∈ps.zip us,scope.names.lookup y.1=some .local\/(scope.names.lookup y.1=some .cell/\((cellsFrom (s.heap.objs.size+1) scope.names []).lookup y.1).isSome=true):=λ⟨n,v⟩ hy=>by
  rcases S.par n (List.of_mem_zip hy).1 with q | q
  . exact .inl q
  . exact .inr ⟨q,PySem.W.cellsFrom_some _ _ _ (.inl q)⟩
 refine codeAny_call_function hr.depth (KX _ _ lk) rfl S.co S.gen rfl (PySem.W.codeRec_of KX gn) (hb _ _ _ _ ?_);refine wpAny_newFunctionEnv_cells S.kind nX λenv he s1 x=>?_;subst he;refine⟨kK.keeps x.toInCall.keep,codeAny_func ?_⟩;obtain⟨t,ht,hq⟩:=fg A outer s H vs Q E (hr.deeper _) fR;have I:o9 (GV CX P w K mg base N qual scope f fF A outer s H E) [] (DC N vs) H s1:=SD S hr.hd e0 hl r x;refine wpAny_mono (ht [] s1 (DC N vs) H _ I hq) (λfl s' hs=>?_) λe s' hs=>hs;have fin:∀{σ':St} {H':Hp} {v:V} {u:Value},o9 (GV CX P w K mg base N qual scope f fF A outer s H E) [] σ' H' s'->D2 v u->Q v H'->CE outer P w H s Q u s':=
  λ{σ' H' v u} J rv q=>⟨v,H',J.os,J.bare,J.base,J.hok,rv,q⟩
 cases fl with
 | ret u=>
  obtain⟨v,σ',H',J,rv,q⟩:=hs;exact fin J rv q
 | next=>
  obtain⟨σ',H',J,q⟩:=hs;exact fin (v:=V.non) (u:=Value.none) J rfl q
 | brk=>
  obtain⟨_,_,_,q⟩:=hs;exact False.elim q
 | cont=>
  obtain⟨_,_,_,q⟩:=hs;exact False.elim q
section
variable{X:Cx}{x:Str}{p pos:Pos}{e:Expr}{es:List Expr}{t:TA}{id T:String}{r:List V->Hp->VK->Prop}
def tCB(r:List V->Hp->VK->Prop)(t:TA):TE:=λσ H Q=>t σ H λvs H1=>r vs H1 Q
def l4(hc:Ad X (.builtin id) r)(hg:Gl X x)(hm:X.mg x=none)(hv:bootBuiltins x=some (.builtin id))(ha:PA X (e::es) t)(hn:x≠"__name__":=by decide)(iy:(x == ("__debug__":Str))=false:=by decide)
    (he:starEach (e::es) X.env=(false,eval e X.env)::starEach es X.env:=by rfl) (fV:(backTo pos (starEach es X.env)).any (·.1)=false:=by rfl):PE X (.Call (.Name x p) (e::es) [] pos) (tCB r t):=by
 intro aS s σ H Q I h;refine wpAny_Call_Name_kw (AB I hg hm hv ?_ hn iy);exact PyProof.Rows.callWith_builtin1 (I9 (ha pos aS s σ H _ I h) λus s1 ⟨vs,H1,I1,r1,q1⟩=>hc aS s1 σ H1 vs us Q I1 r1 q1) he fV
def j6(hc:Ad X (.type T) r)(hg:Gl X x)(hm:X.mg x=none)(hv:bootBuiltins x=some (.type T))(ha:PA X (e::es) t)(hn:x≠"__name__":=by decide)(iy:(x == ("__debug__":Str))=false:=by decide)
    (he:starEach (e::es) X.env=(false,eval e X.env)::starEach es X.env:=by rfl) (fV:(backTo pos (starEach es X.env)).any (·.1)=false:=by rfl):PE X (.Call (.Name x p) (e::es) [] pos) (tCB r t):=by
 intro aS s σ H Q I h;refine wpAny_Call_Name_kw (AB I hg hm hv ?_ hn iy);exact cj (I9 (ha pos aS s σ H _ I h) λus s1 ⟨vs,H1,I1,r1,q1⟩=>hc aS s1 σ H1 vs us Q I1 r1 q1) he fV
end
end L2
namespace HT
open PySem PyProof.Rows
section
open PySem.SeqAt
open PySem.AutoSeq1 (wpAny_loadPart')
open PySem.MeetsSeq PySem.MeetsSeq2 PySem.MeetsSeq3
end
section
variable{prog:Program}{w:World}{A:Around}{E:Value->Shared->Prop}{s:Shared}
def XO{t b:Addr}{vs ws:List Value}{Q:Value->Shared->Prop}(ht:IsTup s.heap t vs.toArray)(hb:IsTup s.heap b ws.toArray)(hv:vs≠[])
    (h1:ws=[]->Q (.ref t) s) (h2:ws≠[]->Q (.ref s.heap.objs.size) { s with heap:=s.heap.push { cls:=.type "tuple",data:=.seq (vs++ws).toArray } })
    (kS:vs.length+ws.length<=sizeLine):wpAny (model prog w) A (binaryOp .Add (.ref t) (.ref b)) Q E s:=by
 obtain⟨⟨cls,dd,data,sl⟩,ho,hc,n,hd⟩:=id ht;obtain⟨⟨uL,mB,data2,lR⟩,kZ,ly,n2,ll⟩:=id hb;simp only at hc hd ly ll;subst hc hd ly ll;have e:vs.toArray++ws.toArray=(vs++ws).toArray:=by simp
 by_cases hw:ws=[]
 . exact concat_meets ⟨_,ho,U⟩ ⟨_,kZ,U⟩ noFill_tuple_add seq_tuple_add dP dQ (dR _ _)
    (tuple_addW1 t b vs.toArray ws.toArray n n2 dd mB sl lR (by simpa using hv) (by simp[hw])) ⟨ho,kZ,h1 hw⟩
 . refine concat_meets ⟨_,ho,U⟩ ⟨_,kZ,U⟩ noFill_tuple_add seq_tuple_add dP dQ (dR _ _)
    (tuple_addW2 t b vs.toArray ws.toArray n n2 dd mB sl lR (by simpa using hv) (by simpa using hw) (by rw[au,au];exact kS)) ⟨ho,kZ,?_⟩
   rw[e];exact h2 hw
def T2(n d:Nat):Option Int->Nat
 | none=>d
 | some v=>if v < 0 then(v+(n:Int)).toNat else min v.toNat n
def MO(n d:Nat):T2 n d none=d:=rfl
def QF(n d k:Nat):T2 n d (some (k:Int))=min k n:=by
 show(if(k:Int) < 0 then((k:Int)+(n:Int)).toNat else min (k:Int).toNat n)=min k n;rw[if_neg Y,Int.toNat_natCast]
def YU(n d:Nat)(hd:d<=n)(o:Option Int):T2 n d o<=n:=by
 cases o with
 | none=>exact hd
 | some v=>
  show(if v < 0 then(v+(n:Int)).toNat else min v.toNat n)<=n;by_cases hv:v < 0
  . rw[if_pos hv];omega
  . rw[if_neg hv];exact Nat.min_le_right _ _
def Rw(v:Int)(n d:Nat):(if v < 0 then max (v+(n:Int)) 0 else min v (n:Int))=((T2 n d (some v):Nat):Int):=by
 show(if v < 0 then max (v+(n:Int)) 0 else min v (n:Int))=(((if v < 0 then(v+(n:Int)).toNat else min v.toNat n):Nat):Int);by_cases hv:v < 0
 . simp only[if_pos hv];omega
 . simp only[if_neg hv];omega
def Qo(lo hi:Option Int)(n:Nat):Builtin.Slice.sliceAdjust lo hi 1 (n:Int)=(((T2 n 0 lo:Nat):Int),((T2 n n hi:Nat):Int)):=by
 have h1:¬((1:Int) < 0):=by omega
 unfold Builtin.Slice.sliceAdjust;simp only[h1,if_false];refine Prod.ext ?_ ?_
 . cases lo with
   | none=>rfl
   | some v=>exact Rw v n 0
 . cases hi with
   | none=>rfl
   | some v=>exact Rw v n n
def OZ(i j:Nat):Builtin.Slice.slicePlaces (i:Int) (j:Int) 1=j - i:=by
 unfold Builtin.Slice.slicePlaces;have h1:(1:Int) > 0:=by omega
 simp only[h1,if_true,Int.ediv_one];split <;>omega
def Hv{v:Value}{o:Option Int}{Q:Option Int->Shared->Prop}(p:IsPart v o)(h:Q o s):wpAny (model prog w) A (Builtin.Slice.slicePartIndex v) Q E s:=by
 cases p with
 | none=>exact slicePart_none h
 | int i t=>exact slicePart_int h
def AH{sl:Addr}{vl vu:Value}{lo hi:Option Int}{n:Nat}{Q:Int × Int × Nat->Shared->Prop}(hs:s.heap.IsSliceOf sl vl vu .none)(pl:IsPart vl lo)(pu:IsPart vu hi)
    (h:Q (((T2 n 0 lo:Nat):Int),1,T2 n n hi - T2 n 0 lo) s):wpAny (model prog w) A (Builtin.Slice.sliceApplied (.ref sl) (pure (n:Int))) Q E s:=by
 obtain⟨os,kX,mq,oa⟩:=id hs;unfold Builtin.Slice.sliceApplied Builtin.Slice.sliceFields;refine wpAny_bind (wpAny_bind (wpAny_field kX oa (x:=vl) U (wpAny_bind (wpAny_field kX oa (x:=vu) U (wpAny_bind (wpAny_field kX oa (x:=.none) U (wpAny_pure ?_)))))));refine wpAny_bind (slicePart_none ?_);show wpAny _ _ (if((1:Int) == 0)=true then _ else _) _ _ s;rw[if_neg bD];refine wpAny_bind (Hv pl (wpAny_bind (Hv pu (wpAny_bind (wpAny_pure ?_)))));show wpAny _ _ (match Builtin.Slice.sliceAdjust lo hi 1 (n:Int)with | (lo,hi)=>pure (lo,(1:Int),Builtin.Slice.slicePlaces lo hi 1)) _ _ s;rw[Qo lo hi n];show wpAny _ _ (pure (((T2 n 0 lo:Nat):Int),(1:Int),Builtin.Slice.slicePlaces ((T2 n 0 lo:Nat):Int) ((T2 n n hi:Nat):Int) 1)) _ _ s;rw[OZ];exact wpAny_pure h
def Uu(xs:Array Value)(i k:Nat):((List.range k).filterMap λ(m:Nat)=>xs[((i:Int)+(m:Int) * 1).toNat]?).toArray=((xs.toList.drop i).take k).toArray:=by
 have e:(λ(m:Nat)=>xs[((i:Int)+(m:Int) * 1).toNat]?)=λm=>xs[i+m]? := by
  funext m;have:((i:Int)+(m:Int) * 1).toNat=i+m:=by omega
  rw[this]
 rw[e];have:=pick_run xs i k;rw[List.filterMap_map]at this;have e2:((λx=>xs[x]?) ∘ λx=>i+x)=λm=>xs[i+m]? := rfl;rw[e2]at this;rw[this]
def Fq{t sl:Addr}{items:Array Value}{vl vu:Value}{lo hi:Option Int}{Q:Value->Shared->Prop}(ht:IsTup s.heap t items)(hs:s.heap.IsSliceOf sl vl vu .none)(pl:IsPart vl lo)(pu:IsPart vu hi)
    (hw:¬(T2 items.size 0 lo=0/\T2 items.size items.size hi=items.size))
    (h:Q (.ref s.heap.objs.size) { s with heap:=s.heap.push { cls:=.type "tuple",data:=.seq ((items.toList.drop (T2 items.size 0 lo)).take (T2 items.size items.size hi - T2 items.size 0 lo)).toArray } })
    (kS:items.size<=sizeLine):wpAny (model prog w) A (getItem (.ref t) (.ref sl)) Q E s:=by
 have gZ:sizeOk (.seq ((items.toList.drop (T2 items.size 0 lo)).take (T2 items.size items.size hi - T2 items.size 0 lo)).toArray):=by
  show((items.toList.drop (T2 items.size 0 lo)).take (T2 items.size items.size hi - T2 items.size 0 lo)).toArray.size<=sizeLine;rw[au,bN,cY,Array.length_toList];omega
 have hj:T2 items.size items.size hi<=items.size:=YU _ _ (ae _) hi;obtain⟨os,kX,mq,oa⟩:=id hs;have iF:s.TypeIs (.ref sl) "slice":=⟨os,kX,mq⟩;unfold getItem
 try with_reducible refine wpAny_holding ?_
 first | refine wpAny_bind (wpAny_pure ?_) | skip
 refine wpAny_bind (wpAny_sequenceKey ht.typeIs bD ?_);refine wpAny_bind (wpAny_callSpecial?_slot (name:=Str.ofString "__getitem__") ht.typeIs dq
  (wpAny_call_entry dq ht.typeIs entry_tuple_getitem ?_ (args_tuple_getitem _ _)))
 show wpAny _ _ (Builtin.Tuple.tupleItemsOf (.ref t) >>= _) _ _ s;refine wpAny_bind (tupleItemsOf_ ht ?_);refine wpAny_bind (wpAny_typeOf iF ?_);rw[if_pos bD];refine wpAny_bind (AH hs pl pu ?_);have hno:¬((((T2 items.size 0 lo:Nat):Int) == 0 && (1:Int) == 1 && (T2 items.size items.size hi - T2 items.size 0 lo) == items.size)=true):=by
  intro q;rw[Bool.and_eq_true,Bool.and_eq_true]at q;have q1:((T2 items.size 0 lo:Nat):Int)=0:=eq_of_beq q.1.1;have q2:T2 items.size items.size hi - T2 items.size 0 lo=items.size:=eq_of_beq q.2;exact hw ⟨Y,Y⟩
 show wpAny _ _ (if(((T2 items.size 0 lo:Nat):Int) == 0 && (1:Int) == 1 && (T2 items.size items.size hi - T2 items.size 0 lo) == items.size)=true then _ else _) _ _ s;rw[if_neg hno,Uu]
 first
  | exact wpAny_bind (m:=Builtin.Tuple.tupleExact _) (wpAny_newObj_type (wpAny_pure ⟨_,rfl,wpAny_pure h⟩) gZ)
  | exact wpAny_bind (m:=Builtin.Tuple.tupleExact _) (wpAny_newObj_type (wpAny_bind (wpAny_pure (wpAny_pure ⟨_,rfl,wpAny_pure h⟩))) gZ)
  | exact wpAny_bind (wpAny_bind (m:=Builtin.Tuple.tupleExact _) (wpAny_newObj_type (wpAny_pure (wpAny_pure ⟨_,rfl,wpAny_pure h⟩)) gZ))
  | exact wpAny_bind (wpAny_bind (m:=Builtin.Tuple.tupleExact _) (wpAny_newObj_type (wpAny_pure ⟨_,rfl,wpAny_pure h⟩) gZ))
end
end HT
namespace L2
open PySem PySem.Spec PyProof.Rows
abbrev TO:=St->Hp->(Option Int->Hp->Prop)->Prop
def PO(X:Cx)(e:Option Expr)(t:TO):Prop:=
 ∀(aS:List (Addr × Obj)) (s:Shared) (σ:St) (H:Hp) (Q:Option Int->Hp->Prop),o9 X aS σ H s->t σ H Q->
  wpAny (model X.prog X.w) X.A (evalPart e X.env) (λu s'=>∃o H',o9 X aS σ H' s'/\IsPart u o/\Q o H') X.xe s
def tNoPart:TO:=λ_ H Q=>Q none H
def c0o(t:TE):TO:=λσ H Q=>t σ H λx H1=>∃i,x=.int i/\Q (some i) H1
section
variable{X:Cx}{e:Expr}{te:TE}{lo hi:Option Expr}{tl th:TO}{pos p2:Pos}
def Lh:PO X none tNoPart:=by
 intro aS s σ H Q I h;rw[evalPart_none];exact wpAny_pure ⟨none,H,I,.none,h⟩
def Lg(h:PE X e te):PO X (some e) (c0o te):=by
 intro aS s σ H Q I hw;rw[evalPart_some];refine I9 (h aS s σ H _ I hw) λu s1 ⟨x,H1,I1,r1,q1⟩=>?_;obtain⟨i,rfl,q⟩:=q1;obtain⟨t,rfl⟩:=r1;exact⟨some i,H1,I1,.int i t,q⟩
def c0c(X:Cx)(r:V->Option Int->Option Int->Hp->VK->Prop):Prop:=
 ∀(aS:List (Addr × Obj)) (s:Shared) (σ:St) (H:Hp) (x:V) (v vl vu:Value) (lo hi:Option Int) (sl:Addr) (Q:VK),o9 X aS σ H s->D2 x v->s.heap.IsSliceOf sl vl vu .none->IsPart vl lo->IsPart vu hi->r x lo hi H Q->
  ∃T id,typeLookup (.type T) "__getitem__"=pure (some (.builtin id))/\s.TypeIs v T/\wpAny (model X.prog X.w) X.A (getItem v (.ref sl)) (EP X aS σ Q) X.xe s
def tSl(r:V->Option Int->Option Int->Hp->VK->Prop)(te:TE)(tl th:TO):TE:=λσ H Q=>te σ H λx H1=>tl σ H1 λl H2=>th σ H2 λu H3=>r x l u H3 Q
def HH{r:V->Option Int->Option Int->Hp->VK->Prop}(hr:c0c X r)(he:PE X e te)(hl:PO X lo tl)(hu:PO X hi th):PE X (.Subscript e (.Slice lo hi none p2) pos) (tSl r te tl th):=by
 intro aS s σ H Q I h;refine Subscript_ (I9 (he aS s σ H _ I h) λv s1 ⟨x,H1,I1,r1,q1⟩=>?_);refine wpAny_Slice (I9 (hl aS s1 σ H1 _ I1 q1) λvl s2 ⟨l,H2,I2,pl,q2⟩=>I9 (hu aS s2 σ H2 _ I2 q2) λvu s3 ⟨u,H3,I3,pu,q3⟩=>?_);rw[evalPart_none];refine wpAny_pure ?_;have I4:o9 X aS σ H3 { s3 with heap:=s3.heap.push { cls:=.type "slice",data:=.fields #[vl,vu,.none] } }:=I3.kept (t':=s3.toks) λb ob q=>ak _ q;obtain⟨T,id,hT,ht,hg⟩:=hr aS { s3 with heap:=s3.heap.push { cls:=.type "slice",data:=.fields #[vl,vu,.none] } } σ H3 x v vl vu l u s3.heap.objs.size Q I4 r1 (Heap.IsSliceOf.new ..) pl pu q3;show wpAny (model X.prog X.w) X.A (subscriptTail e (.Slice lo hi none p2) v (.ref s3.heap.objs.size)) (EP X aS σ Q) X.xe { s3 with heap:=s3.heap.push { cls:=.type "slice",data:=.fields #[vl,vu,.none] } };exact tail_any (ops:=[.ref s3.heap.objs.size,v]) ht hT hg (by with_unfolding_all rfl)
def Dy(xs:List V)(lo hi:Option Int):List V:=(xs.drop (HT.T2 xs.length 0 lo)).take (HT.T2 xs.length xs.length hi - HT.T2 xs.length 0 lo)
def GC(xs:List V)(lo hi:Option Int):(Dy xs lo hi).length<=xs.length:=by
 unfold Dy;rw[bN,cY];omega
def rSlT(K:aa):V->Option Int->Option Int->Hp->VK->Prop:=λx lo hi H Q=>∃a xs,x=.ref a/\l9 K H a xs/\
 ¬(HT.T2 xs.length 0 lo=0/\HT.T2 xs.length xs.length hi=xs.length)/\∀p,H p=none->Q (.ref p) (upd H p (.tup (Dy xs lo hi)))
def YR:c0c X (rSlT X.K):=by
 intro aS s σ H x v vl vu lo hi sl Q I rx hs pl pu h;obtain⟨a,xs,rfl,hx,hw,q⟩:=h;cases rx;obtain⟨its,r,ht,hz⟩:=I.tuple hx;have eJ:its.toArray.size=xs.length:=by rw[au];exact r.length.symm
 refine⟨"tuple",_,PyProof.Rows.slot_tuple_getitem.lookup,ht.typeIs,?_⟩;refine HT.Fq ht hs pl pu (by rw[eJ];exact hw) ?_ (by rw[eJ];exact hz);rw[eJ];refine⟨.ref s.heap.objs.size,_,I.laid (t':=s.toks) (o:=.tup (Dy xs lo hi)) (λb ob q=>ak _ q) (ae _) ?_,U,q _ (I.hok.fresh (ae _))⟩;exact⟨ag (GC xs lo hi) hz,_,(r.drop (HT.T2 xs.length 0 lo)).take (HT.T2 xs.length xs.length hi - HT.T2 xs.length 0 lo),IsTup.new _ _,λ_=>⟨_,ay _ U,U⟩⟩
def e0q(K:aa):R2:=λx y H Q=>∃a b xs ys,x=.ref a/\y=.ref b/\l9 K H a xs/\l9 K H b ys/\xs≠[]/\xs.length+ys.length<=sizeLine/\
 (ys=[]->Q (.ref a) H)/\(ys≠[]->∀p,H p=none->Q (.ref p) (upd H p (.tup (xs++ys))))
def x8.nil_iff{xs:List V}{us:List Value}(r:x8 xs us):us=[]↔xs=[]:=by
 cases r with
 | nil=>simp
 | cons _ _=>simp
def Xb:Ez X (binaryOp .Add) (e0q X.K):=by
 intro aS s σ H x y v u Q I rx ry h;obtain⟨a,b,xs,ys,rfl,rfl,ha,hb,hx,hz,q1,q2⟩:=h;cases rx;cases ry;obtain⟨its,r1,p1,_⟩:=I.tuple ha;obtain⟨fZ,r2,p2,_⟩:=I.tuple hb;refine HT.XO p1 p2 (λz=>hx (r1.nil_iff.mp z)) (λz=>⟨.ref a,H,I,U,q1 (r2.nil_iff.mp z)⟩) (λz=>?_) (by rw[<- r1.length,<- r2.length];exact hz);refine⟨.ref s.heap.objs.size,_,I.laid (t':=s.toks) (o:=.tup (xs++ys)) (λb ob q=>ak _ q) (ae _) ?_,U,q2 (λw=>z (r2.nil_iff.mpr w)) _ (I.hok.fresh (ae _))⟩;exact⟨by rw[aq];exact hz,_,r1.append r2,IsTup.new _ _,λ_=>⟨_,ay _ U,U⟩⟩
end
def XA(n:Nat)(i:Int):Option Nat:=if 0<=i then(if i < n then some i.toNat else none)else if -(n:Int)<=i then some (i+n).toNat else none
def Ry{α:Type}(xs:List α)(i:Int):Option α:=(XA xs.length i).bind λj=>xs[j]?
def QV{n:Nat}{i:Int}{j:Nat}(h:XA n i=some j):seqIndex? i n=some j/\j < n/\-(n:Int)<=i/\i < n:=by
 unfold XA at h;by_cases h0:0<=i
 . rw[if_pos h0]at h;by_cases h1:i < n
   . rw[if_pos h1]at h;have e:i.toNat=j:=Option.some.inj h;exact⟨by rw[seqIndex_of h0 h1,e],Y,Y,h1⟩
   . rw[if_neg h1]at h;cases h
 . rw[if_neg h0]at h;by_cases h1:-(n:Int)<=i
   . rw[if_pos h1]at h;have e:(i+n).toNat=j:=Option.some.inj h;exact⟨by rw[seqIndex_neg Y h1,e],Y,h1,Y⟩
   . rw[if_neg h1]at h;cases h
def Mc{α:Type}{xs:List α}{i:Int}{v:α}(h:Ry xs i=some v):∃j,seqIndex? i xs.length=some j/\xs[j]? = some v/\j < xs.length/\-(xs.length:Int)<=i/\i < xs.length:=by
 unfold Ry at h;cases e:XA xs.length i with
 | none=>rw[e]at h;cases h
 | some j=>
  rw[e]at h;obtain⟨h1,h2,h3,h4⟩:=QV e;exact⟨j,h1,h,h2,h3,h4⟩
def B0{α:Type}{xs:List α}{j:Nat}{v:α}(h:xs[j]? = some v):Ry xs (j:Int)=some v:=by
 have hj:j < xs.length:=(aU.mp h).1;have e:XA xs.length (j:Int)=some j:=by
  unfold XA;rw[if_pos Y,if_pos Y];simp
 unfold Ry;rw[e];exact h
def RA(b:Expr):Prop:=∀o i,subscripted b false o i=operate [o,i] (getItem o i)
def Ku(X:Cx)(r:R2):Prop:=
 ∀(value slice:Expr) (aS:List (Addr × Obj)) (s:Shared) (σ:St) (H:Hp) (x y:V) (v u:Value) (Q:VK),o9 X aS σ H s->D2 x v->D2 y u->r x y H Q->
  subscripted slice false v u=operate [v,u] (getItem v u)->wpAny (model X.prog X.w) X.A (subscriptTail value slice v u) (EP X aS σ Q) X.xe s
def MtR(X:Cx)(id:String)(r:V->List V->Hp->VK->Prop):Prop:=
 ∀(aS:List (Addr × Obj)) (s:Shared) (σ:St) (H:Hp) (x:V) (xs:List V) (v:Value) (us:List Value) (Q:VK),o9 X aS σ H s->D2 x v->x8 xs us->r x xs H Q->
  wpAny (model X.prog X.w) X.A (call (.builtin id) (v::us)) (EP X aS σ Q) X.xe s
section
variable{X:Cx}{a b:Expr}{ta tb:TE}{pos:Pos}
def Ku.or{r r':R2}(h:Ku X r)(h':Ku X r'):Ku X (λx y H Q=>r x y H Q\/r' x y H Q):=by
 intro value slice aS s σ H x y v u Q I rx ry q hs;rcases q with q | q
 . exact h value slice aS s σ H x y v u Q I rx ry q hs
 . exact h' value slice aS s σ H x y v u Q I rx ry q hs
def e0s{r:R2}(hr:Ku X r)(ha:PE X a ta)(hb:PE X b tb)(hs:RA b):PE X (.Subscript a b pos) (c0p r ta tb):=by
 intro aS s σ H Q I h;exact Subscript_ (b0p ha hb I h λv u s2 x y H2 I2 rx ry q=>hr a b aS s2 σ H2 x y v u Q I2 rx ry q (hs _ _))
def Zs(K:aa):R2:=λx y H Q=>∃p xs i v,x=.ref p/\y=.int i/\o7 K H p xs/\Ry xs i=some v/\Q v H
def HC(K:aa):R2:=λx y H Q=>∃p xs i v,x=.ref p/\y=.int i/\l9 K H p xs/\Ry xs i=some v/\Q v H
def rIxS:R2:=λx y H Q=>∃z i c,x=.str z/\y=.int i/\z.length<=sizeLine/\Ry z.cps.toList i=some c/\Q (.str ⟨#[c]⟩) H
def z9:Ku X (Zs X.K):=by
 intro value slice aS s σ H x y v u Q I rx ry h hs;obtain⟨p,xs,i,z,rfl,rfl,hq,he,q⟩:=h;cases rx;obtain⟨t,rfl⟩:=ry;obtain⟨its,r,pl,hz⟩:=I.list hq;obtain⟨j,h1,h2,h3,h4,h5⟩:=Mc he;obtain⟨w,ew,jT⟩:=r.get h2;have hl:=r.length;have hn:=CN;have fin:EP X aS σ Q w s:=⟨z,H,I,jT,q⟩;by_cases h0:0<=i
 . have hj:i.toNat=j:=by
    rw[seqIndex_of h0 h5]at h1;exact Option.some.inj h1
   exact item_listR pl.isList h0 Y (by rw[hj];simpa using ew) fin hs
 . have hj:(i+(its.toArray.size:Int)).toNat=j:=by
    rw[seqIndex_neg Y h4]at h1;rw[au,<- hl];exact Option.some.inj h1
   exact subscriptTail_builtinR (x:=w) pl.isList.typeIs slot_list_getitem.lookup
    (wpAny_getItem_list_neg (Q:=λr s'=>r=w/\EP X aS σ Q r s') pl.isList Y (by rw[au] <;>omega) Y (by rw[hj];simpa using ew) ⟨U,fin⟩) hs
def g6:Ku X (HC X.K):=by
 intro value slice aS s σ H x y v u Q I rx ry h hs;obtain⟨p,xs,i,z,rfl,rfl,hq,he,q⟩:=h;cases rx;obtain⟨t,rfl⟩:=ry;obtain⟨its,r,pl,hz⟩:=I.tuple hq;obtain⟨j,h1,h2,h3,h4,h5⟩:=Mc he;obtain⟨w,ew,jT⟩:=r.get h2;have hl:=r.length;have hn:=CN;have fin:EP X aS σ Q w s:=⟨z,H,I,jT,q⟩;exact subscriptTail_builtinR (x:=w) pl.typeIs slot_tuple_getitem.lookup
  (getItem_tuple (j:=j) (Q:=λr s'=>r=w/\EP X aS σ Q r s') pl Y Y (by rw[au,<- hl];exact h1) (by simpa using ew) ⟨U,fin⟩) hs
def Vo:Ku X rIxS:=by
 intro value slice aS s σ H x y v u Q I rx ry h hs;obtain⟨z,i,c,rfl,rfl,hz,he,q⟩:=h;obtain⟨t,rfl⟩:=rx;obtain⟨t',rfl⟩:=ry;obtain⟨j,h1,h2,h3,h4,h5⟩:=Mc he;have hl:z.cps.toList.length=z.length:=by simp[Str.length]
 rw[hl]at h1 h4 h5;have hn:=CN;exact tail_any (typeIs_str s z t) slot_str_getitem.lookup (getItem_str (c:=c) (by
  have e1:decide (i < -(2 ^ 63:Int))=false:=decide_eq_false Y;have e2:decide (i ≥ 2 ^ 63)=false:=decide_eq_false Y;rw[e1,e2,Bool.or_false]) (by rw[h1];simpa using h2) ⟨.str ⟨#[c]⟩,H,I.tok _,⟨_,U⟩,q⟩) hs
def rIx(K:aa):R2:=λx y H Q=>Zs K x y H Q\/HC K x y H Q\/rIxS x y H Q
def a0s:Ku X (rIx X.K):=z9.or (g6.or Vo)
def Pp(its:List Value)(n j:Nat)(u:Value):Obj.mapSeq (·.setIfInBounds j u) { cls:=.type "list",data:=.seq its.toArray n }={ cls:=.type "list",data:=.seq (its.set j u).toArray n }:=by
 simp[Obj.mapSeq]
theorem o9.lst{aS:List (Addr × Obj)}{σ:St}{H:Hp}{s:Shared}{p:Addr}{xs:List V}(I:o9 X aS σ H s)(h:H p=some (.lst xs)) :
    ∃(its:List Value) (n:Nat),x8 xs its/\s.heap.get? p=some { cls:=.type "list",data:=.seq its.toArray n }/\xs.length<=sizeLine:=by
 obtain⟨z,its,n,r,e⟩:=I.hok p _ h;exact⟨its,n,r,e,z⟩
def o9.lstUpd{aS:List (Addr × Obj)}{σ:St}{H:Hp}{s:Shared}{p:Addr}{xs ys:List V}{its its':List Value}{n n':Nat}{f:Obj->Obj}(I:o9 X aS σ H s)(h:H p=some (.lst xs))
    (ho:s.heap.get? p=some { cls:=.type "list",data:=.seq its.toArray n }) (hf:f { cls:=.type "list",data:=.seq its.toArray n }={ cls:=.type "list",data:=.seq its'.toArray n' }) (r:x8 ys its') (hz:ys.length<=sizeLine) (t:Nat) :
    o9 X aS σ (upd H p (.lst ys)) { s with heap:=s.heap.update p f,toks:=t }:=by
 have e:(s.heap.update p f).get? p=some { cls:=.type "list",data:=.seq its'.toArray n' }:=by
  rw[du f ho (by rw[hf] <;>rfl),hf]
 refine I.write (x:=p) (e:=p) (by rw[h];trivial) (.inl U) (λb u hb q=>(dS _ _ (Ne.symm hb)).trans q) ⟨_,e⟩ ?_;exact⟨hz,its',n',r,e⟩
def rSetL:V->V->V->Hp->(Hp->Prop)->Prop:=λo i v H Q=>∃p xs k j,o=.ref p/\i=.int k/\H p=some (.lst xs)/\XA xs.length k=some j/\Q (upd H p (.lst (xs.set j v)))
def V7:o0l X rSetL:=by
 intro aS s σ H o i v ov iv u Q I ro ri rv h;obtain⟨p,xs,k,j,rfl,rfl,hp,hj,q⟩:=h;cases ro;obtain⟨t,rfl⟩:=ri;obtain⟨its,n,r,ho,hz⟩:=I.lst hp;obtain⟨h1,h2,h3,h4⟩:=QV hj;have hl:=r.length;have hn:=CN;have I':o9 X aS σ (upd H p (.lst (xs.set j v))) { s with heap:=s.heap.update p (Obj.mapSeq (·.setIfInBounds j u)) }:=
  I.lstUpd hp ho (Pp its n j u) (r.set rv j) (by rw[bJ];exact hz) s.toks
 by_cases h0:0<=k
 . have hk:k.toNat=j:=by
    rw[seqIndex_of h0 h4]at h1;exact Option.some.inj h1
   exact PySem.W.ki_setAt ho h0 Y (by rw[au,<- hl];exact h4) (by rw[hk];exact⟨_,I',q⟩)
 . have hk:(k+(its.toArray.size:Int)).toNat=j:=by
    rw[seqIndex_neg Y h3]at h1;rw[au,<- hl];exact Option.some.inj h1
   exact PySem.W.ki_setBack ho Y (by rw[au,<- hl];exact h3) Y (by rw[hk];exact⟨_,I',q⟩)
def KR(lo hi:Option Int)(n:Nat):(sliceBounds lo hi none n).1=((HT.T2 n 0 lo:Nat):Int)/\(sliceBounds lo hi none n).2.1=((HT.T2 n n hi:Nat):Int)/\(sliceBounds lo hi none n).2.2=1:=by
 refine⟨?_,?_,U⟩
 . cases lo with
   | none=>simp[sliceBounds,HT.T2]
   | some i=>
    simp only[sliceBounds,HT.T2,Option.getD_none,show(1:Int) > 0 by decide,if_true];by_cases h:i < 0
    . simp only[h,if_true] <;>omega
    . simp only[h,if_false] <;>omega
 . cases hi with
   | none=>simp[sliceBounds,HT.T2]
   | some i=>
    simp only[sliceBounds,HT.T2,Option.getD_none,show(1:Int) > 0 by decide,if_true];by_cases h:i < 0
    . simp only[h,if_true] <;>omega
    . simp only[h,if_false] <;>omega
def IV(its:List Value)(lo hi:Option Int):slicePick its.toArray lo hi none=((its.drop (HT.T2 its.length 0 lo)).take (HT.T2 its.length its.length hi - HT.T2 its.length 0 lo)).toArray:=by
 obtain⟨h1,h2,h3⟩:=KR lo hi its.toArray.size;unfold slicePick;rw[h1,h2,h3];simp only[sliceRange_one,pick_run,au] <;>rfl
def rSlL(K:aa):V->Option Int->Option Int->Hp->VK->Prop:=λx lo hi H Q=>∃a xs,x=.ref a/\o7 K H a xs/\∀p,H p=none->Q (.ref p) (upd H p (.lst (Dy xs lo hi)))
def WE:c0c X (rSlL X.K):=by
 intro aS s σ H x v vl vu lo hi sl Q I rx hs pl pu h;obtain⟨a,xs,rfl,hx,q⟩:=h;cases rx;obtain⟨its,r,ht,hz⟩:=I.list hx;have eJ:=r.length;refine⟨"list",_,slot_list_getitem.lookup,ht.isList.typeIs,?_⟩;refine wpAny_getItem_list_slice ht.isList hs pl pu .none (by simp) ?_ (by rw[au] <;>omega);rw[IV,<- eJ];refine⟨.ref s.heap.objs.size,_,I.laid (t':=s.toks) (o:=.lst (Dy xs lo hi)) (λb ob q=>ak _ q) (ae _) ?_,U,q _ (I.hok.fresh (ae _))⟩;exact⟨ag (GC xs lo hi) hz,_,0,(r.drop (HT.T2 xs.length 0 lo)).take (HT.T2 xs.length xs.length hi - HT.T2 xs.length 0 lo),ay _ U⟩
def N6:Ad X (.type "list") (λxs H Q=>∃p ys,xs=[.ref p]/\(o7 X.K H p ys\/l9 X.K H p ys)/\∀l,H l=none->Q (.ref l) (upd H l (.lst ys))):=by
 intro aS s σ H xs us Q I r h;obtain⟨p,ys,rfl,hq,q⟩:=h;obtain⟨u,rfl,rx⟩:=JM r;cases rx;have fin:∀(its:List Value),x8 ys its->ys.length<=sizeLine->∀(h':Heap) (c':Nat),(∀b o',s.heap.get? b=some o'->h'.get? b=some o')->
     h'.get? s.heap.objs.size=some { cls:=.type "list",dict:=none,data:=.seq its.toArray c',slots:=#[] }->EP X aS σ Q (.ref s.heap.objs.size) { s with heap:=h' }:=λits r' hz h' c' kp e=>
  ⟨.ref s.heap.objs.size,_,I.laid (t':=s.toks) kp (ae _) (show M7 X.prog X.w _ h' _ (.lst ys)from⟨hz,its,c',r',e⟩),U,q _ (I.hok.fresh (ae _))⟩
 rcases hq with hq | hq
 . obtain⟨its,r',pl,hz⟩:=I.list hq;have eJ:=r'.length;obtain⟨o,ho,hc,n,hd⟩:=pl.isList;exact call_list_seq p (.inl U) ho hc hd (λh' c' kp e=>fin its r' hz h' c' kp e) (by simp only[au] <;>omega)
 . obtain⟨its,r',pl,hz⟩:=I.tuple hq;have eJ:=r'.length;obtain⟨o,ho,hc,n,hd⟩:=pl;exact call_list_seq p (.inr U) ho hc hd (λh' c' kp e=>fin its r' hz h' c' kp e) (by simp only[au] <;>omega)
def h7:Ad X (.type "tuple") (λxs H Q=>∃p ys,xs=[.ref p]/\((o7 X.K H p ys/\∀l,H l=none->Q (.ref l) (upd H l (.tup ys)))\/(l9 X.K H p ys/\Q (.ref p) H))):=by
 intro aS s σ H xs us Q I r h;obtain⟨p,ys,rfl,h⟩:=h;obtain⟨u,rfl,rx⟩:=JM r;cases rx;rcases h with ⟨hq,q⟩ | ⟨hq,q⟩
 . obtain⟨its,r',pl,hz⟩:=I.list hq;have eJ:=r'.length;refine call_tuple_list pl.isList (λh' kp=>?_) (by simp only[au] <;>omega);have I1:o9 X aS σ H { s with heap:=h' }:=I.kept (t':=s.toks) kp;have I2:o9 X aS σ (upd H h'.objs.size (.tup ys)) { s with heap:=h'.push { cls:=.type "tuple",data:=.seq its.toArray } }:=
    I1.laid (t':=s.toks) (λb o e=>ak _ e) (ae _) (show M7 X.prog X.w _ _ _ (.tup ys)from⟨hz,its,r',IsTup.new _ _,λ_=>⟨_,ay _ U,U⟩⟩)
   exact⟨.ref h'.objs.size,_,I2,U,q _ (I1.hok.fresh (ae _))⟩
 . obtain⟨its,r',pl,hz⟩:=I.tuple hq;exact call_tuple_same pl ⟨.ref p,H,I,U,q⟩
def tyV(K:aa)(T:String)(x:V)(H:Hp):Prop:=match x with
 | .str _=>T="str"
 | .int _=>T="int"
 | .ref p=>(T="list"/\∃xs,o7 K H p xs)\/(T="tuple"/\∃o,K.lookup p=some o/\o.cls=.type "tuple"/\o.dict=none)\/
     (T="dict"/\((∃fi,H p=some (.dK fi))\/∃fi,H p=some (.dT fi)))\/(T="set"/\∃S n,H p=some (.set S n))
 | _=>False
def YB{aS:List (Addr × Obj)}{σ:St}{H:Hp}{s:Shared}{T:String}{x:V}{v:Value}(I:o9 X aS σ H s)(r:D2 x v)(ty:tyV X.K T x H) :
    s.TypeIs v T/\∀a,v=.ref a->∃ob,s.heap.get? a=some ob/\ob.dict=none:=by
 cases x with
 | str z=>
  obtain⟨t,rfl⟩:=r;cases (show T="str" from ty);exact⟨typeIs_str s z t,λ_ e=>nomatch e⟩
 | int i=>
  obtain⟨t,rfl⟩:=r;cases (show T="int" from ty);exact⟨typeIs_int s i t,λ_ e=>nomatch e⟩
 | ref p=>
  cases r;rcases ty with ⟨rfl,xs,hq⟩ | ⟨rfl,o,hk,hc,hd⟩ | ⟨rfl,hk⟩ | ⟨rfl,S,n,hk⟩
  . obtain⟨its,_,pl,_⟩:=I.list hq;refine⟨pl.isList.typeIs,λa e=>?_⟩;cases e;obtain⟨o,n,e,c,hd,_⟩:=pl;exact⟨o,e,hd⟩
  . refine⟨⟨o,I.kIn p o hk,hc⟩,λa e=>?_⟩;cases e;exact⟨o,I.kIn _ o hk,hd⟩
  . have z:∃o,s.heap.get? p=some o/\o.ExactDict:=by
     rcases hk with ⟨fi,hk⟩ | ⟨fi,hk⟩
     . obtain⟨_,_,_,_,o,_,_,e,ex,_⟩:=I.hok p _ hk;exact⟨o,e,ex⟩
     . obtain⟨_,_,_,_,o,_,_,e,ex,_⟩:=I.hok p _ hk;exact⟨o,e,ex⟩
    obtain⟨o,e,ex⟩:=z;refine⟨⟨o,e,ex.1⟩,λa e2=>?_⟩;cases e2;exact⟨o,e,ex.2.1⟩
  . obtain⟨o,_,_,_,e,ex,_⟩:=I.hok p _ hk;refine⟨⟨o,e,ex.1⟩,λa e2=>?_⟩;cases e2;exact⟨o,e,ex.2.1⟩
 | _=>exact False.elim ty
def tBM(K:aa)(T:String)(r:V->List V->Hp->VK->Prop)(to:TE)(t:TA):TE:=λσ H Q=>to σ H λx H1=>tyV K T x H1/\t σ H1 λxs H2=>r x xs H2 Q
variable{o e:Expr}{es:List Expr}{to:TE}{t:TA}{name:Str}{fB gA:Pos}{T id:String}{r:V->List V->Hp->VK->Prop}
def S3(pa:PlainAttrs T)(slot:Slot T name id)(hty:typeOf (.builtin id)=pure (.type "method_descriptor"))(hm:MtR X id r)(ho:PE X o to)(ha:PA X (e::es) t)
    (oh:attributeBase o name X.env (eval o X.env)=eval o X.env:=by rfl)
    (tK:((backTo gA (starEach (e::es) X.env)).all (λx=>!x.1) && (backToKw gA (keywordEach [] X.env)).all (λx=>x.1.isSome)
     && decide ((e::es).length+([]:List Keyword).length+(if([]:List Keyword).isEmpty then 0 else 1) < 30))=true:=by rfl)
    (nU:(fB.endLine == gA.line)=true:=by rfl) (hs:starEach (e::es) X.env=(false,eval e X.env)::starEach es X.env:=by rfl) (kW:(backTo gA (starEach es X.env)).any (·.1)=false:=by rfl) :
    PE X (.Call (.Attribute o name fB) (e::es) [] gA) (tBM X.K T r to t):=by
 intro aS s σ H Q I h;refine wpAny_Call_method_late oh tK nU rfl (I9 (ho aS s σ H _ I h) λv s1 ⟨x,H1,I1,r1,ty,q1⟩=>?_);obtain⟨h1,h2⟩:=YB I1 r1 ty;refine⟨T,id,pa,slot,hty,h1,h2,?_⟩;have hA:=ha gA aS s1 σ H1 _ I1 q1;rw[hs]at hA ⊢;refine Calls.callWith_builtin (by show(false || (backTo gA (starEach es X.env)).any (·.1))=false;rw[kW] <;>rfl) (Calls.evalArgs_plain ?_);exact I9 hA λus s2 ⟨vs,H2,I2,r2,q2⟩=>hm aS s2 σ H2 x vs v us Q I2 r1 r2 q2
end
def MtM(X:Cx)(id:String)(r:V->List V->Hp->VK->Prop):Prop:=
 ∀(aS:List (Addr × Obj)) (s:Shared) (σ:St) (H:Hp) (x:V) (xs:List V) (v:Value) (us:List Value) (Q:VK),o9 X aS σ H s->D2 x v->x8 xs us->r x xs H Q->
  wpAny (model X.prog X.w) X.A (call (.builtin id) (v::us)) (EP X aS σ Q) X.xe s
def x8.one:∀{x:V} {us:List Value},x8 [x] us->∃u,us=[u]/\D2 x u
 | _,_,.cons r .nil=>⟨_,U,r⟩
def x8.zero:∀{us:List Value},x8 [] us->us=[]
 | _,.nil=>rfl
theorem x8.eraseIdx:∀{xs:List V} {us:List Value} (i:Nat),x8 xs us->x8 (xs.eraseIdx i) (us.eraseIdx i)
 | _,_,_,.nil=>.nil
 | _,_,0,.cons _ t=>t
 | _,_,i+1,.cons r t=>.cons r (x8.eraseIdx i t)
theorem Kd{α:Type}:∀(l:List α) (i:Nat),(l.eraseIdx i).length<=l.length
 | [],_=>ae _
 | _::_,0=>Nat.le_succ _
 | _::r,i+1=>Nat.succ_le_succ (Kd r i)
section
variable{X:Cx}{aS:List (Addr × Obj)}{σ:St}{H:Hp}{s:Shared}{l b:Addr}{xs ys zs:List V}
def o9.lset{its its':List Value}{n:Nat}{f:Array Value->Array Value}{t':Nat}(I:o9 X aS σ H s)(hH:H l=some (.lst xs))
    (e:s.heap.get? l=some { cls:=.type "list",data:=.seq its.toArray n }) (hf:f its.toArray=its'.toArray) (hv:x8 ys its') (hz:ys.length<=sizeLine) :
    o9 X aS σ (upd H l (.lst ys)) { s with heap:=s.heap.update l (Obj.mapSeq f),toks:=t' }:=by
 have q:=PySem.IsL.update e f;rw[hf]at q;refine I.write (x:=l) (e:=l) (by rw[hH];exact trivial) (.inl U) (λb' u hb hu=>(dS s.heap (Obj.mapSeq f) (Ne.symm hb)).trans hu) ⟨_,q⟩ ?_;exact⟨hz,its',_,hv,q⟩
def o9.lnew{its:List Value}{t':Nat}(I:o9 X aS σ H s)(hv:x8 ys its)(hz:ys.length<=sizeLine) :
    o9 X aS σ (upd H s.heap.objs.size (.lst ys)) { s with heap:=s.heap.push { cls:=.type "list",data:=.seq its.toArray },toks:=t' }:=
 I.laid (λ_ _ q=>ak _ q) (ae _) ⟨hz,its,0,hv,ay _ U⟩
theorem o9.fresh(I:o9 X aS σ H s):H s.heap.objs.size=none:=I.hok.fresh (ae _)
def o9.lstM(I:o9 X aS σ H s)(hH:H l=some (.lst xs)):xs.length<=sizeLine/\∃(its:List Value) (n:Nat),x8 xs its/\xs.length=its.length/\s.heap.get? l=some { cls:=.type "list",data:=.seq its.toArray n }:=by
 obtain⟨z,its,n,r,e⟩:=I.hok l _ hH;exact⟨z,its,n,r,r.length,e⟩
def UM{n:Nat}(h:n<=sizeLine):Builtin.List.listTooLong n=false:=by
 unfold Builtin.List.listTooLong;exact decide_eq_false Y
end
section
variable{X:Cx}
def rAppend:V->List V->Hp->VK->Prop:=λx vs H Q=>∃l xs y,x=.ref l/\vs=[y]/\H l=some (.lst xs)/\xs.length < sizeLine/\Q .non (upd H l (.lst (xs++[y])))
def F8:MtM X "list.append" rAppend:=by
 intro aS s σ H x vs v us Q I rx rv h;obtain⟨l,xs,y,rfl,rfl,hH,hz,q⟩:=h;cases rx;obtain⟨u,rfl,ru⟩:=rv.one;obtain⟨z,its,n,r,hl,e⟩:=I.lstM hH;refine call_meets F.slot_list_append ⟨_,e,U⟩ F.entry_list_append (F.args_list_append_2 _ _) (PySem.list_append l its.toArray n u (by rw[au];omega)) ⟨e,?_⟩;refine⟨.non,_,I.lset (its':=its++[u]) hH e (by simp) (r.append (.cons ru .nil)) ?_,U,q⟩;rw[aq,List.length_singleton];omega
def rExtend:V->List V->Hp->VK->Prop:=λx vs H Q=>∃l b xs zs,x=.ref l/\vs=[.ref b]/\H l=some (.lst xs)/\H b=some (.lst zs)/\xs.length+zs.length<=sizeLine/\Q .non (upd H l (.lst (xs++zs)))
def Kc:MtM X "list.extend" rExtend:=by
 intro aS s σ H x vs v us Q I rx rv h;obtain⟨l,b,xs,zs,rfl,rfl,hH,hB,hz,q⟩:=h;cases rx;obtain⟨u,rfl,ru⟩:=rv.one;cases ru;obtain⟨z,its,n,r,hl,e⟩:=I.lstM hH;obtain⟨z2,fZ,n2,r2,jc,e2⟩:=I.lstM hB;have kS:its.toArray.size+fZ.toArray.size<=sizeLine:=by rw[au,au];omega
 have nS:¬(!its.toArray.isEmpty && Builtin.List.listTooLong (its.toArray.size+fZ.toArray.size))=true:=by
  rw[UM kS,Bool.and_false];exact aO
 refine call_meets F.slot_list_extend ⟨_,e,U⟩ F.entry_list_extend (F.args_list_extend_2 _ _)
  (AutoSeq1.list_extend_list_list_0 l its.toArray n b fZ.toArray n2 nS (by rw[au];omega) Y) ⟨e,e2,?_⟩
 refine⟨.non,_,I.lset (its':=its++fZ) hH e (by simp) (r.append r2) ?_,U,q⟩;rw[aq];omega
def rPopAt:V->List V->Hp->VK->Prop:=λx vs H Q=>∃l xs i k y,x=.ref l/\vs=[.int i]/\H l=some (.lst xs)/\-(2 ^ 63)<=i/\i < 2 ^ 63/\seqIndex? i xs.length=some k/\xs[k]? = some y/\Q y (upd H l (.lst (xs.eraseIdx k)))
def Vb:MtM X "list.pop" rPopAt:=by
 intro aS s σ H x vs v us Q I rx rv h;obtain⟨l,xs,i,k,y,rfl,rfl,hH,h1,h2,hk,hy,q⟩:=h;cases rx;obtain⟨u,rfl,ru⟩:=rv.one;obtain⟨t,rfl⟩:=ru;obtain⟨z,its,n,r,hl,e⟩:=I.lstM hH;obtain⟨w,hw,jT⟩:=r.get hy;refine call_meets F.slot_list_pop ⟨_,e,U⟩ F.entry_list_pop (F.args_list_pop_2 _ _)
  (MeetsSeq.list_pop_at l its.toArray n i t k w (fitsIndex_both h1 h2) (by rw[au,<- hl];exact hk) (by rw[<- Array.getElem?_toList];exact hw) (by rw[au];omega)) ⟨e,?_⟩
 refine⟨y,_,I.lset (its':=its.eraseIdx k) hH e ?_ (r.eraseIdx k) ?_,jT,q⟩
 . show its.toArray.eraseIdxIfInBounds k=(its.eraseIdx k).toArray;rw[List.eraseIdxIfInBounds_toArray]
 . have:=Kd xs k;omega
def rCat:R2:=λx y H Q=>∃l b xs zs,x=.ref l/\y=.ref b/\H l=some (.lst xs)/\H b=some (.lst zs)/\xs.length+zs.length<=sizeLine/\∀p,H p=none->Q (.ref p) (upd H p (.lst (xs++zs)))
def Lj:Ez X (binaryOp .Add) rCat:=by
 intro aS s σ H x y v u Q I rx ry h;obtain⟨l,b,xs,zs,rfl,rfl,hH,hB,hz,q⟩:=h;cases rx;cases ry;obtain⟨z,its,n,r,hl,e⟩:=I.lstM hH;obtain⟨z2,fZ,n2,r2,jc,e2⟩:=I.lstM hB;refine PySem.P.add_list e e2 ?_ (by rw[au,au];omega);have ea:its.toArray++fZ.toArray=(its++fZ).toArray:=by simp
 rw[ea];exact⟨.ref _,_,I.lnew (t':=s.toks) (r.append r2) (by rw[aq];omega),U,q _ I.fresh⟩
end
section
variable{prog:Program}{w:World}{A:Around}{E:Value->Shared->Prop}{s:Shared}
set_option maxRecDepth 100000 in
end
section
variable{X:Cx}
end
end L2
namespace Att
open PySem PySem.W PySem.Calls PyProof.Rows
def GT{P:Params}{h:Heap}:∀(ns:List Int) (vs:List Value),WellAll P h vs (ns.map WData.int)->IntsAre vs ns:=by
 intro ns
 induction ns with
 | nil=>
  intro vs w;rw[List.map_nil]at w;cases w;exact .nil
 | cons n ns ih=>
  intro vs w;rw[aZ]at w;cases w with
  | cons a b=>
   cases a;exact .cons _ _ (ih _ b)
def RU{l:OpenLaw}{n:Nat}(hn:l.most=some n){P:Params}{h:Heap}{args:List WData}{vals:List Value}
    (jE:l.row.toRowW.claim.pre args=true) (kR:WellAll P h vals args) :
    ∃a vs ns,vals=[Value.ref a]/\args=[WData.list (ns.map WData.int)]/\h.get? a=some { cls:=.type "list",data:=.seq vs.toArray }/\IntsAre vs ns/\ns.length<=n:=by
 have hsh:WShape.hasAll [] args [.list .int]=true:=(pre_splitW jE).1;have hc:l.pre.holds [] { args:=args }=true:=(pre_splitW jE).2;obtain⟨d,r,rfl,h1,h2⟩:=hasAllW_cons hsh;obtain rfl:=hasAllW_nil h2;obtain⟨xs,rfl,h3⟩:=hasW_list h1;obtain⟨ns,rfl⟩:=items_int h3;have eJ:ns.length<=n:=by
  unfold OpenLaw.pre at hc;have h4:(WTm.not (.lt (.lit (.int (n:Int))) (.len (.arg 0)))).holds [] { args:=[.list (ns.map .int)] }=true:=by
   have h4:=(holds_andW hc).1;rw[hn]at h4;exact h4
  have h5:=condW_of h4 (w_not (w_lt w_lit (w_len_list (w_arg U))));rw[af]at h5;refine Nat.le_of_not_lt λq=>?_;have q':(n:Int) < ((ns.length:Nat):Int):=by omega
  first
   | (rw[decide_eq_true q']at h5;exact absurd h5 bD)
   | (simp at h5;omega)
 cases kR with
 | cons w1 w2=>
  cases w2;cases w1 with
  | list ho hall=>exact za ⟨ns,U,U,ho,GT ns _ hall,eJ⟩
def Sg(l:OpenLaw)(args:List WData):l.row.toRowW.claim.post args (.bool true) args=true:=
 postW_of (r:=l.row.toRowW) (X:=(true == true))
  (show WShape.has [] (.bool true) .bool=true by first | rfl | decide | simp[WShape.has,WShape.arms,WShape.armsAll])
  (show(WTm.eq .res (.lit (.bool true))).value [] { args:=args,res:=some (.bool true),after:=args }=some (.bool (true == true))from w_eq_bool (w_res U) w_lit) rfl
def Oe{l:OpenLaw}{n:Nat}{q:Program}{loose:List Str}{XP:(Str->Option Value)->Heap->Prop}{YP:World->Heap->Prop}{d:DefRec}
    (hn:l.most=some n) (tO:d.params.defaults=[])
    (call:∀(w:World) (s₀ s₁:Shared) (mg mb:Str->Option Value) (fa:Addr) (o:Obj) (pm cd gj:Value) (a:Addr) (vs:List Value) (ns:List Int),
     Ground q loose [] XP w s₀ mg mb s₁.heap->YP w s₁.heap->
     s₁.heap.get? fa=some o->o.data=.func (docDef d.name d.params d.body d.scope pm cd gj)->s₁.heap.CodeRec cd d.name->mg d.name=some (.ref fa)->
     s₁.heap.get? a=some { cls:=.type "list",data:=.seq vs.toArray }->IntsAre vs ns->ns.length<=n->s₁.gens=#[]->
     codeAny (model l.prog w) callerA (.call (.ref fa) ⟨[.ref a],[]⟩) (λr s'=>r=.ok (.ret (.bool true))/\OldK s₁.heap s'.heap/\s'.os=s₁.os/\AllBare s'.gens) s₁) :
    WalkO q loose XP YP l.row.toRowW d [] (λf vs=>PySem.call f vs):=by
 intro w s₀ s₁ mg mb G a1c fa o pm cd gj dV kV ho hd gn hD nQ hg args vals as jE hlay hrd kR hlo;obtain rfl:dV=.none:=Dflts.none hD tO;obtain rfl:kV=.none:=Dflts.noKw hD;obtain⟨a,vs,ns,rfl,rfl,kY,iR,eJ⟩:=RU hn jE kR;refine enter_call (codeAny_mono (call w s₀ s₁ mg mb fa o pm cd gj a vs ns G a1c ho (fd_plain hd) gn nQ kY iR eJ hg) λr s' hq=>?_);obtain⟨rfl,h2,h3,h4⟩:=hq;exact⟨.inl ⟨.bool true,.bool true,[],U,λ_=>rfl,.bool true,Sg l _,λ_=>⟨List.Pairwise.nil,λ_ hm=>(nomatch hm)⟩⟩,h2,h3,h4⟩
section
variable{prog:Program}{w:World}{A:Around}{E:Value->Shared->Prop}{s:Shared}{K:Frag}
end
end Att
namespace L2
open PySem PySem.Spec PyProof.Rows
theorem JL:∀{vs:List Value} {ns:List Int},IntsAre vs ns->x8 (ns.map V.int) vs
 | _,_,.nil=>.nil
 | _,_,.cons n t h=>.cons ⟨t,U⟩ (JL h)
abbrev KOf{K:aa}{h:Heap}(_:K.In h):aa:=K
def w6(s:Stmt)(j:Nat):Stmt:=match s with
 | .ClassDef _ _ _ body _ _ _ _ _ _ _=>body.getD j (.Pass ⟨0,0,0,0⟩)
 | _=>.Pass ⟨0,0,0,0⟩
def F1(s:Stmt):Arguments:=match s with
 | .FunctionDef _ a _ _ _ _ _ _ _ _=>a
 | _=>{ posonlyargs:=[],args:=[],vararg:=none,kwonlyargs:=[],kw_defaults:=[],kwarg:=none,defaults:=[] }
def C7(s:Stmt):List Stmt:=match s with
 | .FunctionDef _ _ b _ _ _ _ _ _ _=>b
 | _=>[]
def a8(s:Stmt):Scope:=match s with
 | .FunctionDef _ _ _ _ _ _ sc _ _ _=>sc
 | _=>{ kind:=.function,names:=[],isGenerator:=false,isCoroutine:=false }
abbrev E7:RE:=λ_ _ _ _ _ _=>False
abbrev E0:XK:=λ_ _ _=>False
def B4{X:Cx}:Ey E7 X E0:=λ_ _ _ _ _ _ _ h=>h.elim
structure Mi(K:aa)(x qual:Str)(st:Stmt)(f:Addr)(fd:FuncData):Prop where
 ex:∃(oc:Value) (od:Option Addr) (kV gj pm:Value) (an:Option Addr) (fF ct:Value) (iD:Array (Option Value)),
  fd=PySem.W.fnOf x qual (F1 st) (C7 st) (a8 st) .none kV gj pm an fF ct/\K.lookup f=some ⟨oc,od,.func fd,iD⟩/\PySem.W.codeIn K fF qual=true
 kp:PySem.W.keepIn K (.ref f)=true
section
variable{P:Program}{w:World}{K:aa}{mg:Str->Option Value}{base:Heap}
def Mi.ok{x qual:Str}{st:Stmt}{f:Addr}{fd:FuncData}{N ps:List Str}{k:Nat}{sp:Sp}(F:Mi K x qual st f fd)(S:c7 N ps (a8 st))(len:∀vs H Q E,sp vs H Q E->vs.length=ps.length)
    (fg:∀(fF:Value) (A:Around) (outer:List Env) (s:Shared) (H:Hp) (vs:List V) (Q:VK) (E:XK),M0 k (A.deeper (envOfC qual (a8 st) s.heap.objs.size f fF))->sp vs H Q E->
     ∃t,Mg (GV E7 P w K mg base N qual (a8 st) f fF A outer s H E).nox (C7 st) t/\t { nx:=λ_ H'=>Q .non H',rt:=Q } (DC N vs) H):r8 P w K mg base E7 (k+1) f fd ps sp:=by
 obtain⟨oc,od,kV,gj,pm,an,fF,ct,iD,rfl,lk,gn⟩:=F.ex;refine Yo lk gn S len λA outer s H vs Q E hr fR=>?_;obtain⟨t,h,q⟩:=fg fF A outer s H vs Q E hr fR;exact⟨t,h.nox,q⟩
def Mi.okA{x qual:Str}{st:Stmt}{f:Addr}{fd:FuncData}{N ps:List Str}{k:Nat}{sp:Sp}(F:Mi K x qual st f fd)(S:c7 N ps (a8 st))
    (fg:∀(fF:Value) (A:Around) (outer:List Env) (s:Shared) (H:Hp) (vs:List V) (Q:VK) (E:XK),M0 k (A.deeper (envOfC qual (a8 st) s.heap.objs.size f fF))->sp vs H Q E->
     ∃t,Mg (GV E7 P w K mg base N qual (a8 st) f fF A outer s H E).nox (C7 st) t/\t { nx:=λ_ H'=>Q .non H',rt:=Q } (DC N vs) H)(len:∀vs H Q E,sp vs H Q E->vs.length=ps.length:=by intro _ _ _ _ h;repeat first | (obtain⟨rfl,_⟩:=h;rfl) | obtain⟨_,h⟩:=h):r8 P w K mg base E7 (k+1) f fd ps sp:=F.ok S len fg
def Mi.binds{x qual:Str}{st:Stmt}{f:Addr}{fd:FuncData}{ps:List Str}(F:Mi K x qual st f fd)
    (h:∀(kV gj pm:Value) (an:Option Addr) (fF ct:Value) (us:List Value),us.length=ps.length->bindArgs (PySem.W.fnOf x qual (F1 st) (C7 st) (a8 st) .none kV gj pm an fF ct) ⟨us,[]⟩=pure (ps.zip us)):M1 K fd ps []:=by
 obtain⟨oc,od,kV,gj,pm,an,fF,ct,iD,rfl,lk,gn⟩:=F.ex;exact .all (h kV gj pm an fF ct)
def VA{x qual:Str}{st:Stmt}{f:Addr}{oc:Value}{od an:Option Addr}{iD:Array (Option Value)}{kV gj pm fF ct:Value}(l:K.lookup f=some ⟨oc,od,.func (PySem.W.fnOf x qual (F1 st) (C7 st) (a8 st) .none kV gj pm an fF ct),iD⟩)
    (c:PySem.W.codeIn K fF qual=true) (k:PySem.W.keepIn K (.ref f)=true):Mi K x qual st f (PySem.W.fnOf x qual (F1 st) (C7 st) (a8 st) .none kV gj pm an fF ct):=⟨⟨oc,od,kV,gj,pm,an,fF,ct,iD,U,l,c⟩,k⟩
end
section
variable{X:Cx}
def O(i:Nat){x:Str}{pos:Pos}(hN:X.N[i]? = some x:=by rfl)(hv:Vis X.env.scope x:=by first | exact Or.inl rfl | exact Or.inr (Or.inl rfl) | exact Or.inr (Or.inr rfl))(hd:(x == ("__debug__":Str))=false:=by decide)
    (gn:(x == ("__classdict__":Str))=false:=by decide):PE X (.Name x pos) (YG i):=Ux hN hv hd gn
end
def T3{A B:Prop}(h:B):if false=true then A else B:=by
 rw[if_neg aO];exact h
def Bz{A B:Prop}(h:A):if true=true then A else B:=by
 rw[if_pos rfl];exact h
def h9(H H':Hp):Prop:=∀b o,H b=some o->H' b=some o
def h9.refl(H:Hp):h9 H H:=λ_ _ h=>h
def h9.trans{H H1 H2:Hp}(a:h9 H H1)(b:h9 H1 H2):h9 H H2:=λc o h=>b c o (a c o h)
def h9.free{H H':Hp}(e:h9 H H'){l:Addr}(h:H' l=Option.none):H l=Option.none:=by
 cases q:H l with
 | none=>rfl
 | some o=>
  rw[e l o q]at h;cases h
def h9.seq{K:aa}{H H':Hp}{a:Addr}{xs:List V}(e:h9 H H')(h:o7 K H a xs):o7 K H' a xs:=by
 rcases h with (h | ⟨o,h⟩) | h
 . exact .inl (.inl (e _ _ h))
 . exact .inl (.inr ⟨o,e _ _ h⟩)
 . exact .inr h
end L2
set_option maxHeartbeats 4000000
namespace L2
open PySem PySem.Spec PyProof.Rows PySem.SeqAt
section
variable{X:Cx}
def Yy(i j:Int):Prop:=Builtin.Int.intBits i<=2 ^ 20/\Builtin.Int.intBits j<=2 ^ 20
def Xa:Ez X (binaryOp .Mult) (rI Yy λi j=>.int (i * j)):=b0y λ_ _ _ _ _ _ _ hc q=>mul_int q (PySem.IntMulOk.of_bits hc.1 hc.2)
def Yz(_ j:Int):Prop:=j≠0/\j.natAbs.log2 < 9000
def Cy:Ez X (binaryOp .FloorDiv) (rI Yz λi j=>.int (i.fdiv j)):=b0y λ_ _ _ _ _ _ _ hc q=>floordiv_int hc.1 q (Or.inl (PyProof.noPylong_of_log2 hc.2))
def rIsi(K:aa):List V->Hp->VK->Prop:=λxs H Q=>∃x n t b,xs=[x,.ty n]/\BR K H x t/\PySem.W.kitOne K t (.type n)=some b/\Q (.bl b) H
def CS:Ad X (.builtin "isinstance") (rIsi X.K):=by
 intro aS s σ H xs us Q I r h;obtain⟨x,n,t,b,rfl,ty,e,q⟩:=h;cases r with
 | cons rx r1=>
  cases r1 with
  | cons ry r2=>
   cases r2;cases ry;exact SB I rx ty e λtk=>⟨.bl b,H,I.tok _,U,q⟩
structure MkO(K:aa)(C:Addr):Prop where
 makes:PySem.W.makesIn K C=true
 init:PySem.W.findIn K (.ref C) "__init__"=some (some (.builtin "object.__init__"))
 kp:PySem.W.keepIn K (.ref C)=true
def YI(C:Addr):TE:=λ_ H Q=>∀x dx,H x=none->H dx=none->dx≠x->Q (.ref x) (upd (upd H dx (.own x)) x (.ins C dx []))
def Uz{C:Addr}{x:Str}{p pos:Pos}(M:MkO X.K C)(hg:Gl X x)(hm:X.mg x=some (.ref C))(iy:(x == ("__debug__":Str))=false:=by decide):PE X (.Call (.Name x p) [] [] pos) (YI C):=by
 intro aS s σ H Q I h;refine wpAny_Call_Name_kw (Fl I hg hm ?_ iy);refine PySem.W.callWith_K0 I.kIn M.kp ?_;have hq:=h (s.heap.objs.size+1) s.heap.objs.size (I.hok.fresh (Nat.le_succ _)) (I.hok.fresh (ae _)) (aB (ck _));have I2:=o9.made (C:=C) I;have a1c:=PySem.W.makes_of (M:=model X.prog X.w) I.kIn M.makes;refine wpAny_call (Su I.kIn M.makes M.init (λself=>PySem.W.Looks.of_pure (PySem.W.oi_bind self)) ?_);have t1:PySem.W.Looks (model X.prog X.w) ((s.heap.push PySem.W.emptyDict).push (PySem.W.instObj C s.heap.objs.size)) (typeOf (.ref (s.heap.objs.size+1))) (.ref C):=
  (PySem.W.Looks.ld (o:=PySem.W.instObj C s.heap.objs.size) (by have e:((s.heap.push PySem.W.emptyDict).push (PySem.W.instObj C s.heap.objs.size)).get? (s.heap.push PySem.W.emptyDict).objs.size=some (PySem.W.instObj C s.heap.objs.size):=ay _ rfl;rw[bu]at e;exact e)).andThen .now
 have t2:PySem.W.Looks (model X.prog X.w) ((s.heap.push PySem.W.emptyDict).push (PySem.W.instObj C s.heap.objs.size)) (isInstance (.ref (s.heap.objs.size+1)) (.type "object")) true:=
  t1.andThen (a1c.top.keeps λb o e=>ak _ (ak _ e))
 refine PySem.codeAny_call_builtin PySem.W.oi_plain PySem.W.entry_oi (@PySem.W.check_slot (model X.prog X.w) _ _ _ "object.__init__" "object" "__init__" (.ref (s.heap.objs.size+1)) [] [] _ PySem.W.oi_kind PySem.W.oi_split t2 (PySem.W.oi_args (.ref (s.heap.objs.size+1))) ?_);rw[PySem.W.oi_run];exact wpAny_pure (And.intro rfl ⟨V.ref (s.heap.objs.size+1),_,I2,rfl,hq⟩)
end
mutual
inductive Is(K:aa)(H:Hp):V->PyData->Prop
 | non:Is K H .non .none
 | bl (b:Bool):Is K H (.bl b) (.bool b)
 | int (i:Int):Is K H (.int i) (.int i)
 | str (x:Str):Is K H (.str x) (.str x)
 | tup {a:Addr} {xs:List V} {ds:List PyData}:l9 K H a xs->W2 K H xs ds->Is K H (.ref a) (.tuple ds)
 | lst {a:Addr} {xs:List V} {ds:List PyData}:o7 K H a xs->W2 K H xs ds->Is K H (.ref a) (.list ds)
inductive W2(K:aa)(H:Hp):List V->List PyData->Prop
 | nil:W2 K H [] []
 | cons {v:V} {vs:List V} {d:PyData} {ds:List PyData}:Is K H v d->W2 K H vs ds->W2 K H (v::vs) (d::ds)
end
def h9.tup{K:aa}{H H':Hp}{a:Addr}{xs:List V}(e:h9 H H')(h:l9 K H a xs):l9 K H' a xs:=by
 rcases h with (h | ⟨o,h⟩) | h
 . exact .inl (.inl (e _ _ h))
 . exact .inl (.inr ⟨o,e _ _ h⟩)
 . exact .inr h
mutual
theorem Is.same{K:aa}{H H':Hp}(e:h9 H H'):∀{v:V} {d:PyData},Is K H v d->Is K H' v d
 | _,_,.non=>.non
 | _,_,.bl b=>.bl b
 | _,_,.int i=>.int i
 | _,_,.str x=>.str x
 | _,_,.tup h r=>.tup (e.tup h) (W2.same e r)
 | _,_,.lst h r=>.lst (e.seq h) (W2.same e r)
theorem W2.same{K:aa}{H H':Hp}(e:h9 H H'):∀{v:List V} {d:List PyData},W2 K H v d->W2 K H' v d
 | _,_,.nil=>.nil
 | _,_,.cons a r=>.cons (Is.same e a) (W2.same e r)
end
section
variable{X:Cx}{aS:List (Addr × Obj)}{σ:St}{H:Hp}{s:Shared}
mutual
theorem Is.reads(I:o9 X aS σ H s):∀{v:V} {d:PyData} {u:Value},Is X.K H v d->D2 v u->∃as,Reads s.heap u d as
 | _,_,_,.non,r=>by cases r;exact⟨_,.none⟩
 | _,_,_,.bl b,r=>by cases r;exact⟨_,.bool b⟩
 | _,_,_,.int i,r=>by obtain⟨t,rfl⟩:=r;exact⟨_,.int i t⟩
 | _,_,_,.str x,r=>by obtain⟨t,rfl⟩:=r;exact⟨_,.str x t⟩
 | _,_,_,.tup h a,r=>by
  cases r;obtain⟨its,rv,⟨o,ho,hc,n,hd⟩,_⟩:=I.tuple h;obtain⟨as,hr⟩:=W2.reads I a rv;exact⟨as,.tuple ho hc hd (by simpa using hr)⟩
 | _,_,_,.lst h a,r=>by
  cases r;obtain⟨its,rv,⟨o,n,ho,hc,_,hd⟩,_⟩:=I.list h;obtain⟨as,hr⟩:=W2.reads I a rv;exact⟨_,.list ho hc hd (by simpa using hr)⟩
theorem W2.reads(I:o9 X aS σ H s):∀{vs:List V} {ds:List PyData} {us:List Value},W2 X.K H vs ds->x8 vs us->∃as,ReadsAll s.heap us ds as
 | _,_,_,.nil,.nil=>⟨_,.nil⟩
 | _,_,_,.cons a r,.cons q t=>by
  obtain⟨as,h1⟩:=Is.reads I a q;obtain⟨bs,h2⟩:=W2.reads I r t;exact⟨_,.cons h1 h2⟩
end
def OU(K:aa):R2:=λx y H Q=>∃d d',Is K H x d/\Is K H y d'/\shaped d=true/\shaped d'=true/\noMix d d'=true/\Q (.bl (!PySem.Spec.same d d')) H
def Cv(hu:X.A.units+64 < cLine):Ez X (compareOp .NotEq) (OU X.K):=by
 intro aS s σ H x y v u Q I rx ry h;obtain⟨d,d',hx,hy,sx,sy,nm,q⟩:=h;obtain⟨as,ra⟩:=hx.reads I rx;obtain⟨bs,rb⟩:=hy.reads I ry;exact ne_dataH_same ra rb sx sy hu nm ⟨.bl _,H,I,U,q⟩
end
def Ep{i j:Int}{A B:Prop}(h1:i=j->A)(h2:¬i=j->B):if decide (V.int i=V.int j)=true then A else B:=by
 by_cases h:i=j
 . rw[if_pos (decide_eq_true (congrArg V.int h))];exact h1 h
 . rw[if_neg (by simpa using h)];exact h2 h
def Ke{i j:Int}{A B:Prop}(h1:¬i=j->A)(h2:i=j->B):if(!decide (V.int i=V.int j))=true then A else B:=by
 by_cases h:i=j
 . rw[if_neg (by simpa using h)];exact h2 h
 . rw[if_pos (by simpa using h)];exact h1 h
def AC{p A B:Prop} [Decidable p](h1:p->A)(h2:¬p->B):if decide p=true then A else B:=by
 by_cases h:p
 . rw[if_pos (decide_eq_true h)];exact h1 h
 . rw[if_neg (by simpa using h)];exact h2 h
def CO{c:Bool}{A B:Prop}(e:c=true)(h:A):if c=true then A else B:=by rw[if_pos e];exact h
def Fo{c:Bool}{A B:Prop}(e:c=false)(h:B):if c=true then A else B:=by rw[if_neg (by rw[e];decide)];exact h
def c6{H:Hp}{p:Addr}{o:HO}(h:H p=none):h9 H (upd H p o):=λb u e=>by
 rw[l6 (j7 e h)];exact e
end L2
namespace Mine
@[irreducible] def dv(a b:Int):Int:=(Int.gcd a b:Int)
def Kk(a b:Int):0<=dv a b:=by unfold dv;exact Int.natCast_nonneg _
def Rk(a b:Int):dv b (a.fmod b)=dv a b:=by
 unfold dv;have e:a.fmod b=a - a.fdiv b * b:=by rw[Int.fmod_def,aI]
 rw[e,Int.gcd_sub_mul_right_right,Int.gcd_comm]
def LW(a:Int):dv a 0=(a.natAbs:Int):=by
 unfold dv;rw[Int.gcd_zero_right]
def b0j(a b:Int):dv (a.natAbs:Int) (b.natAbs:Int)=dv a b:=by
 unfold dv Int.gcd;simp
def NU(a b:Int)(h:b≠0):(a.fmod b).natAbs < b.natAbs:=by
 rcases Int.lt_trichotomy b 0 with hb | hb | hb
 . have e:a.fmod b = -((-a).fmod (-b)):=by
    simp[Int.neg_fmod_neg]
   have h1:=bK (-a) (show 0 < -b by omega);have h2:=bE (-a) (show 0 < -b by omega);omega
 . exact absurd hb h
 . have h1:=bK a hb;have h2:=bE a hb;omega
def b0l(h:dv g r=dv a b)(hr:0 < r):0<=r/\0<=g.fmod r/\dv r (g.fmod r)=dv a b:=
 ⟨Y,bK g hr,by rw[Rk,h]⟩
def d_less{g r:Int}(hr:0 < r):(g.fmod r).toNat < r.toNat:=by
 have h1:=bK g hr;have h2:=bE g hr;omega
def o0a(h:dv g r=dv a b)(g0:0<=g)(r0:0<=r)(hr:¬0 < r):g=dv a b:=by
 have e:r=0:=by omega
 rw[<- h,e,LW];omega
def Vl(h:dv x y=dv a b):dv y (x.fmod y)=dv a b:=by rw[Rk,h]
def n0l(h:dv x y=dv a b)(hy:y=0):(x.natAbs:Int)=dv a b:=by
 rw[<- h,hy,LW]
def Rj(a b:Int):∃q,a=dv a b * q:=by
 obtain⟨q,hq⟩:=Int.gcd_dvd_left a b;exact⟨q,by unfold dv;exact hq⟩
def NY(a b:Int):∃q,b=dv a b * q:=by
 obtain⟨q,hq⟩:=Int.gcd_dvd_right a b;exact⟨q,by unfold dv;exact hq⟩
def Qe(h:dv a b=0):a=0/\b=0:=by
 obtain⟨q,hq⟩:=Rj a b;obtain⟨r,hr⟩:=NY a b;rw[h]at hq hr;exact⟨Y,Y⟩
def Iq(h:b≠0):0 < dv a b:=by
 have:=Kk a b;rcases(by omega:dv a b=0\/0 < dv a b)with e | e
 . exact absurd (Qe e).2 h
 . exact e
def n0z(a b:Int)(h:b≠0):dv a b<=(b.natAbs:Int):=by
 have:Int.gcd a b<=b.natAbs:=by
  unfold Int.gcd;exact Nat.gcd_le_right _ Y
 unfold dv;omega
def NV{g q:Int}(hg:g≠0):(g * q).fdiv g=q:=Int.mul_fdiv_cancel_left q hg
@[irreducible] def sg(a b:Int):Int:=if b < 0 then -(dv a b)else dv a b
@[irreducible] def tp(a b:Int):Int:=a.fdiv (sg a b)
@[irreducible] def bt(a b:Int):Int:=b.fdiv (sg a b)
def TY(h:¬b < 0):sg a b=dv a b:=by unfold sg;rw[if_neg h]
def TZ(h:b < 0):sg a b = -(dv a b):=by unfold sg;rw[if_pos h]
def QD(h:b≠0):sg a b≠0:=by
 have:=Iq (a:=a) h;unfold sg;split <;>omega
def Oz{a b:Int}(h:b≠0):sg a b * tp a b=a:=by
 obtain⟨q,hq⟩:=Rj a b;have hs:=QD (a:=a) h;have:∃k,a=sg a b * k:=by
  unfold sg;split
  . exact⟨-q,by rw[Int.neg_mul_neg];exact hq⟩
  . exact⟨q,hq⟩
 obtain⟨k,hk⟩:=this;have e:tp a b=k:=by
  unfold tp
  conv=>lhs;lhs;rw[hk]
  exact NV hs
 rw[e];exact hk.symm
def Ma{a b:Int}(h:b≠0):sg a b * bt a b=b:=by
 obtain⟨q,hq⟩:=NY a b;have hs:=QD (a:=a) h;have:∃k,b=sg a b * k:=by
  unfold sg;split
  . exact⟨-q,by rw[Int.neg_mul_neg];exact hq⟩
  . exact⟨q,hq⟩
 obtain⟨k,hk⟩:=this;have e:bt a b=k:=by
  unfold bt
  conv=>lhs;lhs;rw[hk]
  exact NV hs
 rw[e];exact hk.symm
def Ew(h:b≠0):0 < bt a b:=by
 have e:=Ma (a:=a) h;have g:=Iq (a:=a) h;rcases(by omega:0 < bt a b\/bt a b<=0)with p | p
 . exact p
 . exfalso;by_cases hb:b < 0
   . rw[TZ hb,cB]at e;have:=Int.mul_nonpos_of_nonneg_of_nonpos (Int.le_of_lt g) p;omega
   . rw[TY hb]at e;have:=Int.mul_nonpos_of_nonneg_of_nonpos (Int.le_of_lt g) p;omega
def Rp(h:b≠0):tp a b * b=a * bt a b:=by
 have e1:=Oz (a:=a) h;have e2:=Ma (a:=a) h
 calc tp a b * b=tp a b * (sg a b * bt a b):=by rw[e2]
  _=(sg a b * tp a b) * bt a b:=by rw[aI (sg a b) (tp a b),aG]
  _=a * bt a b:=by rw[e1]
def Sm(a b:Int):(sg a b).natAbs=Int.gcd a b:=by
 unfold sg dv;split <;>omega
def SG(e1:s * t=a)(e2:s * u=b):Int.gcd a b=s.natAbs * Int.gcd t u:=by
 rw[<- e1,<- e2,Int.gcd_mul_left]
def n0g(h:b≠0):dv (tp a b) (bt a b)=1:=by
 have e:=SG (Oz (a:=a) h) (Ma (a:=a) h);rw[Sm]at e;have p:=Iq (a:=a) h;have q:0 < Int.gcd a b:=by unfold dv at p;omega
 have:Int.gcd a b * Int.gcd (tp a b) (bt a b)=Int.gcd a b * 1:=by rw[<- e,Nat.mul_one]
 have:=Nat.eq_of_mul_eq_mul_left q this;unfold dv;rw[this];rfl
def Qh(hb:0 < b)(hd:0 < d)(h1:dv a b=1)(h2:dv c d=1)(e:a * d=c * b):a=c/\b=d:=by
 have g1:Nat.Coprime b.natAbs a.natAbs:=by
  have:Int.gcd a b=1:=by unfold dv at h1;omega
  unfold Int.gcd at this;exact Nat.Coprime.symm this
 have g2:Nat.Coprime d.natAbs c.natAbs:=by
  have:Int.gcd c d=1:=by unfold dv at h2;omega
  unfold Int.gcd at this;exact Nat.Coprime.symm this
 have en:a.natAbs * d.natAbs=c.natAbs * b.natAbs:=by rw[<- bw,<- bw,e]
 have d1:b.natAbs ∣ d.natAbs:=g1.dvd_of_dvd_mul_left ⟨c.natAbs,by rw[en,bV]⟩;have d2:d.natAbs ∣ b.natAbs:=g2.dvd_of_dvd_mul_left ⟨a.natAbs,by rw[<- en,bV]⟩;have eb:b.natAbs=d.natAbs:=Nat.dvd_antisymm d1 d2;have yj:b=d:=by omega
 refine⟨?_,yj⟩;rw[yj]at e;exact bx Y e
def EE(h:b≠0)(hy:0 < y)(hl:dv x y=1)(e:a * y=x * b):tp a b=x/\bt a b=y:=by
 refine Qh (Ew h) hy (n0g h) hl ?_;have c:=Rp (a:=a) h;have:(tp a b * y) * b=(x * bt a b) * b:=by
  calc (tp a b * y) * b=(tp a b * b) * y:=by rw[aG,aI y b,<- aG]
   _=(a * bt a b) * y:=by rw[c]
   _=(a * y) * bt a b:=by rw[aG,aI (bt a b) y,<- aG]
   _=(x * b) * bt a b:=by rw[e]
   _=(x * bt a b) * b:=by rw[aG,aI b,<- aG]
 exact bx h this
def CI(a s:Int)(k:Int)(e:s * k=a)(hs:s≠0):k.natAbs<=a.natAbs:=by
 have:a.natAbs=s.natAbs * k.natAbs:=by rw[<- e,bw]
 rw[this];exact Nat.le_mul_of_pos_left _ Y
def Qx(h:b≠0):(tp a b).natAbs<=a.natAbs:=CI a _ _ (Oz h) (QD h)
def Rx(h:b≠0):(bt a b).natAbs<=b.natAbs:=CI b _ _ (Ma h) (QD h)
def DQ(hb:b≠0)(hd:d≠0)(e:a * d=c * b):tp a b=tp c d/\bt a b=bt c d:=by
 refine EE hb (Ew hd) (n0g hd) ?_;have h:=Rp (a:=c) hd;have:(a * bt c d) * d=(tp c d * b) * d:=by
  calc (a * bt c d) * d=(a * d) * bt c d:=by rw[aG,aI (bt c d) d,<- aG]
   _=(c * b) * bt c d:=by rw[e]
   _=(c * bt c d) * b:=by rw[aG,aI b,<- aG]
   _=(tp c d * d) * b:=by rw[h]
   _=(tp c d * b) * d:=by rw[aG,aI d b,<- aG]
 exact bx hd this
def Lu(hy:0 < y)(hl:dv x y=1):tp x y=x/\bt x y=y:=EE Y hy hl rfl
def L9{a b:Int}(ha:a≠0)(hb:b≠0):a * b≠0:=cD ha hb
def OY{a b c d e f T B T' B':Int}(hb:b≠0)(hd:d≠0)(hf:f≠0)(hB:B≠0)(gH:B'≠0)
    (h1:T * (b * d)=(a * d+c * b) * B) (h2:T' * (d * f)=(c * f+e * d) * B') :
    tp (T * f+e * B) (B * f)=tp (a * B'+T' * b) (b * B')/\bt (T * f+e * B) (B * f)=bt (a * B'+T' * b) (b * B'):=by
 refine DQ (L9 hB hf) (L9 hb gH) ?_;have k:((T * f+e * B) * (b * B')) * ((b * d) * (d * f))=((a * B'+T' * b) * (B * f)) * ((b * d) * (d * f)):=by
  grind
 exact bx (L9 (L9 hb hd) (L9 hd hf)) k
def Mr{a b c d e f T B T' B':Int}(hb:b≠0)(hd:d≠0)(hf:f≠0)(hB:B≠0)(gH:B'≠0)
    (h1:T * (b * d)=(a * c) * B) (h2:T' * (d * f)=(c * e) * B') :
    tp (T * e) (B * f)=tp (a * T') (b * B')/\bt (T * e) (B * f)=bt (a * T') (b * B'):=by
 refine DQ (L9 hB hf) (L9 hb gH) ?_;have k:((T * e) * (b * B')) * ((b * d) * (d * f))=((a * T') * (B * f)) * ((b * d) * (d * f)):=by
  grind
 exact bx (L9 (L9 hb hd) (L9 hd hf)) k
def distrib{a b c d e f T B P a1a R V:Int}(hb:b≠0)(hd:d≠0)(hf:f≠0)(hB:B≠0)(hU:a1a≠0)(hV:V≠0)
    (h1:T * (d * f)=(c * f+e * d) * B) (h2:P * (b * d)=(a * c) * a1a) (h3:R * (b * f)=(a * e) * V) :
    tp (a * T) (b * B)=tp (P * V+R * a1a) (a1a * V)/\bt (a * T) (b * B)=bt (P * V+R * a1a) (a1a * V):=by
 refine DQ (L9 hb hB) (L9 hU hV) ?_;have k:((a * T) * (a1a * V)) * ((d * f) * ((b * d) * (b * f)))=((P * V+R * a1a) * (b * B)) * ((d * f) * ((b * d) * (b * f))):=by
  grind
 exact bx (L9 (L9 hd hf) (L9 (L9 hb hd) (L9 hb hf))) k
def Gc:tp (a * d+c * b) (b * d)=tp (c * b+a * d) (d * b)/\bt (a * d+c * b) (b * d)=bt (c * b+a * d) (d * b):=by
 rw[Int.add_comm,aI b d];exact⟨U,U⟩
def DL:tp (a * c) (b * d)=tp (c * a) (d * b)/\bt (a * c) (b * d)=bt (c * a) (d * b):=by
 rw[aI a c,aI b d];exact⟨U,U⟩
def Gb(hb:0 < b)(hl:dv a b=1):tp (a * 1+0 * b) (b * 1)=a/\bt (a * 1+0 * b) (b * 1)=b:=by
 have e1:a * 1+0 * b=a:=by omega
 have e2:b * 1=b:=by omega
 rw[e1,e2];exact Lu hb hl
def RG(hb:0 < b)(hl:dv a b=1):tp (0 * b+a * 1) (1 * b)=a/\bt (0 * b+a * 1) (1 * b)=b:=by
 have e1:0 * b+a * 1=a:=by omega
 have e2:1 * b=b:=by omega
 rw[e1,e2];exact Lu hb hl
def JO(hb:0 < b)(hl:dv a b=1):tp (a * 1) (b * 1)=a/\bt (a * 1) (b * 1)=b:=by
 rw[bU,bU];exact Lu hb hl
def b0k:dv 0 1=1:=by unfold dv;decide
def dv11:dv 1 1=1:=by unfold dv;decide
def Hs(hb:0 < b):tp (a * 0) (b * 1)=0/\bt (a * 0) (b * 1)=1:=
 EE Y Y b0k Y
def HF{a b:Int}(hb:0 < b):tp (a * b+-a * b) (b * b)=0/\bt (a * b+-a * b) (b * b)=1:=by
 refine EE (L9 Y Y) Y b0k ?_;rw[cB];omega
def b0i(a b:Int):dv (-a) b=dv a b:=by unfold dv;rw[Int.neg_gcd]
def Hl(a b:Int):dv a b=dv b a:=by unfold dv;rw[Int.gcd_comm]
def JP{a b:Int}(ha:a≠0)(hb:b≠0):tp (a * tp b a) (b * bt b a)=1/\bt (a * tp b a) (b * bt b a)=1:=by
 refine EE (L9 hb (cZ (Ew ha))) Y (by unfold dv;decide) ?_;have:=Rp (a:=b) ha
 grind
open PySem
@[irreducible] def num(c:Int):Int:=if c.fmod 3=0 then(c.fdiv 3).fmod 19 - 9 else if c.fmod 3=1 then(c.fdiv 3).fmod 2000003 - 1000001 else(c.fdiv 3).fmod 1999999999999999999999999999999 - 999999999999999999999999999999
def SS(a b:Int):dv (if a < 0 then -a else a) (if b < 0 then -b else b)=dv a b:=by
 have e:∀x:Int,(if x < 0 then -x else x)=(x.natAbs:Int):=λx=>by split <;>omega
 rw[e,e,b0j]
def YM(a b:Int):0<=(if a < 0 then -a else a)/\0<=(if b < 0 then -b else b)/\dv (if a < 0 then -a else a) (if b < 0 then -b else b)=dv a b:=
 ⟨by split <;>omega,by split <;>omega,SS a b⟩
def out2(h:dv x y=dv a b)(hy:y=0):(if x < 0 then -x else x)=dv a b:=by
 rw[<- n0l h hy];split <;>omega
structure S1(x:Int):Prop where
 lo:-10000000000000000000000000000000<=x
 hi:x<=10000000000000000000000000000000
structure S2(x:Int):Prop where
 lo:-1000000000000000000000000000000000000000000000000000000000000000<=x
 hi:x<=1000000000000000000000000000000000000000000000000000000000000000
structure Po(x:Int):Prop where
 lo:0 < x
def S1.zero:S1 0:=⟨by decide,bD⟩
def S1.one:S1 1:=⟨by decide,bD⟩
def Po.one:Po 1:=⟨by decide⟩
def Va(hx:S1 x)(hy:S1 y):-100000000000000000000000000000000000000000000000000000000000000<=x * y/\x * y<=100000000000000000000000000000000000000000000000000000000000000:=by
 have x0:=hx.lo;have x1:=hx.hi;have y0:=hy.lo;have y1:=hy.hi;have h:(x * y).natAbs=x.natAbs * y.natAbs:=bw x y;have k:x.natAbs * y.natAbs<=10000000000000000000000000000000 * 10000000000000000000000000000000:=aX Y Y;omega
def S2.mul(hx:S1 x)(hy:S1 y):S2 (x * y):=⟨by have:=Va hx hy;omega,by have:=Va hx hy;omega⟩
def Po.mul(hx:Po x)(hy:Po y):Po (x * y):=⟨aL hx.lo hy.lo⟩
def Po.ne(h:Po x):x≠0:=by have:=h.lo;omega
theorem S1.tp(h:S1 a)(p:Po b):S1 (tp a b):=by
 have l:=Qx (a:=a) p.ne;have:=h.lo;have:=h.hi;exact⟨Y,Y⟩
theorem S2.tp(h:S2 a)(p:Po b):S2 (tp a b):=by
 have l:=Qx (a:=a) p.ne;have:=h.lo;have:=h.hi;exact⟨Y,Y⟩
theorem S1.bt(h:S1 b)(p:Po b):S1 (bt a b):=by
 have l:=Rx (a:=a) p.ne;have:=h.lo;have:=h.hi;exact⟨Y,Y⟩
theorem S2.bt(h:S2 b)(p:Po b):S2 (bt a b):=by
 have l:=Rx (a:=a) p.ne;have:=h.lo;have:=h.hi;exact⟨Y,Y⟩
theorem Po.bt(p:Po b):Po (bt a b):=⟨Ew p.ne⟩
theorem S2.dv(h:S2 b)(p:Po b):S2 (dv a b):=by
 have:=n0z a b p.ne;have:=Kk a b;have:=h.lo;have:=h.hi;exact⟨Y,Y⟩
structure Low(a b:Int):Prop where
 one:dv a b=1
def lz(p:Po b)(l:Low a b):tp (a * 1+0 * b) (b * 1)=a/\bt (a * 1+0 * b) (b * 1)=b:=Gb p.lo l.one
def zl(p:Po b)(l:Low a b):tp (0 * b+a * 1) (1 * b)=a/\bt (0 * b+a * 1) (1 * b)=b:=RG p.lo l.one
def cp(_:Low (tp (c * b+a * d) (d * b)) (bt (c * b+a * d) (d * b))):tp (a * d+c * b) (b * d)=tp (c * b+a * d) (d * b)/\bt (a * d+c * b) (b * d)=bt (c * b+a * d) (d * b):=Gc
def ct(_:Low (tp (c * a) (d * b)) (bt (c * a) (d * b))):tp (a * c) (b * d)=tp (c * a) (d * b)/\bt (a * c) (b * d)=bt (c * a) (d * b):=DL
def Pr(p:Nat):Prop:=2<=p/\∀d,2<=d->d * d<=p->¬p % d=0
def Pr.div(h:Pr p)(hd:d ∣ p):d=1\/d=p:=by
 obtain⟨k,hk⟩:=hd;have p2:=h.1;rcases(by omega:d=0\/d=1\/2<=d)with e | e | e
 . rw[e,Nat.zero_mul]at hk;omega
 . exact .inl e
 . rcases(by omega:k=0\/k=1\/2<=k)with f | f | f
   . rw[f,Nat.mul_zero]at hk;omega
   . rw[f,Nat.mul_one]at hk;exact .inr hk.symm
   . exfalso;rcases Nat.le_total d k with g | g
     . have:d * d<=p:=by rw[hk];exact aQ d g
       exact h.2 d e this (by rw[hk];exact Nat.mul_mod_right d k)
     . have:k * k<=p:=by rw[hk];exact bh k g
       exact h.2 k f this (by rw[hk];exact Nat.mul_mod_left d k)
def Pr.cop(h:Pr p)(ha:¬p ∣ a):Nat.Coprime p a:=by
 have d1:=Nat.gcd_dvd_left p a;have d2:=Nat.gcd_dvd_right p a;rcases h.div d1 with e | e
 . exact e
 . rw[e]at d2;exact absurd d2 ha
def Pr.mul(h:Pr p)(hd:p ∣ a * b):p ∣ a\/p ∣ b:=by
 by_cases c:p ∣ a
 . exact .inl c
 . exact .inr ((h.cop c).dvd_of_dvd_mul_left hd)
def QA(h0:0 < a)(h1:a < p):¬p ∣ a:=λh=>by
 have:=cE h0 h;omega
theorem b0b:∀(n:Nat) (l:List Nat),l.Nodup->(∀a∈l,a < n)->l.length<=n
 | 0,l,_,h=>by
  cases l with
  | nil=>exact ae 0
  | cons a r=>exact absurd (h a (aF ..)) Y
 | n+1,l,nd,h=>by
  by_cases c:n∈l
  . have e:=List.length_erase_of_mem c;have:=b0b n (l.erase n) (nd.erase n) (λa ha=>by
     have m:=(List.Nodup.mem_erase_iff nd).mp ha;have:=h a m.2;have:=m.1;omega)
    omega
  . have:=b0b n l nd (λa ha=>by
     have:=h a ha;have:a≠n:=λe=>c (e▸ha);omega)
    omega
theorem perm:∀(n:Nat) (l:List Nat),l.Nodup->(∀a∈l,a < n)->l.length=n->l.Perm (List.range n)
 | 0,l,_,_,e=>by
  have:l=[]:=bz.mp e;rw[this];exact List.Perm.refl _
 | n+1,l,nd,h,e=>by
  by_cases c:n∈l
  . have e':=List.length_erase_of_mem c;have i:=perm n (l.erase n) (nd.erase n) (λa ha=>by
     have m:=(List.Nodup.mem_erase_iff nd).mp ha;have:=h a m.2;have:=m.1;omega) Y
    have q:=List.perm_cons_erase c;refine q.trans ?_;rw[cG];exact(i.cons n).trans (List.perm_append_singleton n (List.range n)).symm
  . have:=b0b n l nd (λa ha=>by
     have:=h a ha;have:a≠n:=λe=>c (e▸ha);omega)
    omega
def pd:List Nat->Nat
 | []=>1
 | a::r=>a * pd r
def WY(h:l.Perm m):pd l=pd m:=by
 induction h with
 | nil=>rfl
 | cons a _ ih=>show a * _=a * _;rw[ih]
 | swap a b l=>show b * (a * _)=a * (b * _);rw[<- bQ,<- bQ,bV b a]
 | trans _ _ i j=>exact i.trans j
theorem UE(h:Pr p):∀(l:List Nat),(∀a∈l,¬p ∣ a)->¬p ∣ pd l
 | [],_=>λd=>by
  have:=cE bD d;have:=h.1;have e:pd []=1:=rfl;omega
 | a::r,g=>λd=>by
  rcases h.mul d with e | e
  . exact g a (aF ..) e
  . exact UE h r (λb hb=>g b (aC _ hb)) e
theorem UD(p x:Nat):∀(l:List Nat),pd (l.map λi=>x * i % p) % p=x ^ l.length * pd l % p
 | []=>by simp[pd]
 | a::r=>by
  have ih:=UD p x r;show(x * a % p) * pd (r.map λi=>x * i % p) % p=x ^ (r.length+1) * (a * pd r) % p;rw[Nat.mul_mod,Nat.mod_mod,ih,<- Nat.mul_mod,bW];congr 1
  grind
def b0f(h:Pr p)(hx:¬p ∣ x):x ^ (p - 1) % p=1:=by
 have p2:=h.1
 let f:Nat->Nat:=λi=>x * (i+1) % p - 1
 have pos:∀i,i < p - 1->0 < x * (i+1) % p:=λi hi=>by
  rcases Nat.eq_zero_or_pos (x * (i+1) % p)with e | e
  . rcases h.mul (dU e)with d | d
    . exact absurd d hx
    . exact absurd d (QA Y Y)
  . exact e
 have lt:∀i,x * (i+1) % p < p:=λi=>Nat.mod_lt _ Y;have inj:∀i j,i < p - 1->j < p - 1->i < j->x * (i+1) % p≠x * (j+1) % p:=λi j hi hj ij e=>by
  have d:p ∣ x * (j+1) - x * (i+1):=by
   apply dU;exact Nat.sub_mod_eq_zero_of_mod_eq e.symm
  rw[<- Nat.mul_sub]at d;rcases h.mul d with d | d
  . exact hx d
  . exact QA Y Y d
 have nd:((List.range (p - 1)).map f).Nodup:=by
  rw[List.nodup_iff_pairwise_ne,cH];refine List.Pairwise.imp_of_mem ?_ (List.pairwise_lt_range (n:=p - 1));intro a b ha hb ab e;have ha:=aN.mp ha;have hb:=aN.mp hb;have e:x * (a+1) % p - 1=x * (b+1) % p - 1:=e;have:=pos a ha;have:=pos b hb;exact inj a b ha hb ab Y
 have pm:=perm (p - 1) ((List.range (p - 1)).map f) nd (λa ha=>by
  obtain⟨i,hi,e⟩:=aw.mp ha;have:=pos i (aN.mp hi);have:=lt i;have e:x * (i+1) % p - 1=a:=e;omega) (by simp)
 have ph:=WY (pm.map (·+1));have same:((List.range (p - 1)).map f).map (·+1)=((List.range (p - 1)).map (·+1)).map (λi=>x * i % p):=by
  rw[cq,cq];refine List.map_congr_left λi hi=>?_;have:=pos i (aN.mp hi);show x * (i+1) % p - 1+1=x * (i+1) % p;omega
 rw[same]at ph;have q:=UD p x ((List.range (p - 1)).map (·+1));rw[ph,af,bO]at q;generalize hF:pd ((List.range (p - 1)).map (·+1))=F at q;have cF:¬p ∣ F:=by
  rw[<- hF];refine UE h _ λa ha=>?_;obtain⟨i,hi,e⟩:=aw.mp ha;have:=aN.mp hi;exact QA Y Y
 have d:p ∣ (x ^ (p - 1) - 1) * F:=by
  apply dU;rw[Nat.sub_mul,Nat.one_mul];exact Nat.sub_mod_eq_zero_of_mod_eq q.symm
 have xp:0 < x ^ (p - 1):=Nat.pow_pos (by
  rcases Nat.eq_zero_or_pos x with e | e
  . exact absurd (e▸Nat.dvd_zero p) hx
  . exact e)
 rcases h.mul d with d | d
 . obtain⟨k,hk⟩:=d;have e:x ^ (p - 1)=1+p * k:=by omega
   rw[e,Nat.add_mul_mod_self_left];exact Nat.mod_eq_of_lt Y
 . exact absurd d cF
def fe{a p:Int}(hp:0 < p):a.fmod p=a % p:=dW a (Int.le_of_lt hp)
def em1(a b p:Int):(a % p * b) % p=(a * b) % p:=by rw[Int.mul_emod,Int.emod_emod_of_dvd a (Int.dvd_refl p),<- Int.mul_emod]
def VH(a b p:Int):(a * (b % p)) % p=(a * b) % p:=by rw[aI,em1,aI]
def n0y(a p:Int):(-(a % p)) % p=(-a) % p:=by
 have:=VH (-1) a p;rw[Int.neg_one_mul,Int.neg_one_mul]at this;exact this
def OT{a p:Int}(hp:0 < p):0<=a.fmod p/\a.fmod p < p:=⟨bK a hp,bE a hp⟩
def r_pa{x y z p:Int}(hp:0 < p):((x+y).fmod p+z).fmod p=(x+(y+z).fmod p).fmod p:=by
 simp only[fe hp,Int.emod_add_emod,Int.add_emod_emod,Int.add_assoc]
def r_ta{x y z p:Int}(hp:0 < p):((x * y).fmod p * z).fmod p=(x * (y * z).fmod p).fmod p:=by
 simp only[fe hp,em1,VH,aG]
def r_d{x y z p:Int}(hp:0 < p):(x * (y+z).fmod p).fmod p=((x * y).fmod p+(x * z).fmod p).fmod p:=by
 simp only[fe hp,VH,Int.emod_add_emod,Int.add_emod_emod,Int.mul_add]
def Ga{x p:Int}(h0:0<=x)(h1:x < p):x.fmod p=x:=by
 rw[fe Y];exact dw h0 h1
def r_pm{x p:Int}(hp:0 < p):(x+(-x).fmod p).fmod p=0:=by
 simp only[fe hp,Int.add_emod_emod];rw[Int.add_right_neg];exact Int.zero_emod p
def ri(p x:Int):Int:=(x ^ (p.toNat - 2)) % p
def Zt(x:Int)(h:0<=x)(k:Nat):x ^ k=((x.toNat ^ k:Nat):Int):=by
 have:(x.toNat:Int)=x:=cI h;rw[Int.natCast_pow,this]
def Yc(hp:0 < p):0<=ri p x/\ri p x < p:=⟨Int.emod_nonneg _ Y,Int.emod_lt_of_pos _ hp⟩
def Zp(h:Pr p.toNat)(h0:0 < x)(h1:x < p):(x * ri p x).fmod p=1:=by
 have p2:=h.1;have hp:0 < p:=by omega
 rw[fe hp];unfold ri;rw[VH];have e:x * x ^ (p.toNat - 2)=x ^ (p.toNat - 1):=by
  have:p.toNat - 1=(p.toNat - 2)+1:=by omega
  rw[this,bS,aI]
 rw[e,Zt x Y];have f:=b0f h (QA (p:=p.toNat) (a:=x.toNat) Y Y);have:((x.toNat ^ (p.toNat - 1) % p.toNat:Nat):Int)=((1:Nat):Int):=by rw[f]
 rw[Int.natCast_emod,cI Y]at this;exact this
def Oh(p x:Int)(left gk kC:Int):Prop:=(gk * kC ^ left.toNat) % p=(x ^ (p.toNat - 2)) % p/\(0<=gk/\gk < p)
def Uo(h:2<=p):Oh p x (p - 2) 1 x:=by
 refine⟨?_,Y,Y⟩;have:(p - 2).toNat=p.toNat - 2:=by omega
 rw[this,Int.one_mul]
def Yh(a p:Int)(k:Nat):((a % p) ^ k) % p=(a ^ k) % p:=by
 induction k with
 | zero=>rw[da,da]
 | succ k ih=>rw[bS,bS,VH,aI,<- VH,ih,VH,aI]
def Zq{p x l a s:Int}(hp:0 < p)(h:Oh p x l a s)(h0:0 < l)(o:l % 2=1):Oh p x (l.fdiv 2) ((a * s).fmod p) ((s * s).fmod p):=by
 have hl:l.toNat=2 * (l.fdiv 2).toNat+1:=by
  rw[dy l bD];omega
 refine⟨?_,OT hp⟩;rw[<- h.1,hl,fe hp,fe hp,em1];generalize (l.fdiv 2).toNat=k;have e:(a * s) * ((s * s) % p) ^ k % p=(a * s) * (s * s) ^ k % p:=by
  rw[<- VH,Yh,VH]
 rw[e,bS,Int.pow_mul];have:s ^ 2=s * s:=by rw[bS,bS,da,Int.one_mul]
 rw[this];congr 1
 grind
def WT(hp:0 < p)(h:Oh p x l a s)(h0:0 < l)(o:l % 2≠1):Oh p x (l.fdiv 2) a ((s * s).fmod p):=by
 have hl:l.toNat=2 * (l.fdiv 2).toNat:=by
  rw[dy l bD];omega
 refine⟨?_,h.2⟩;rw[<- h.1,hl,fe hp];generalize (l.fdiv 2).toNat=k;rw[<- VH,Yh,VH,Int.pow_mul];have:s ^ 2=s * s:=by rw[bS,bS,da,Int.one_mul]
 rw[this]
def Zn(h:Oh p x l a s)(h0:¬0 < l):a=ri p x:=by
 have:l.toNat=0:=by omega
 have e:=h.1;rw[this,da,bU,dw h.2.1 h.2.2]at e;exact e
def PI(n:Int):Prop:=2<=n/\∀d:Int,2<=d->d * d<=n->¬n.fmod d=0
def PI.nat{n:Int}(h:PI n):Pr n.toNat:=by
 refine⟨by have:=h.1;omega,λd hd vS e=>?_⟩;have n2:=h.1;have hn:(n.toNat:Int)=n:=cI Y;refine h.2 (d:Int) Y ?_ ?_
 . have:((d * d:Nat):Int)<=(n.toNat:Int):=by omega
   rw[hn]at this;rw[<- Int.natCast_mul];exact this
 . rw[fe Y,<- hn,<- Int.natCast_emod,e];rfl
noncomputable def Mf(n:Int):Bool:=@decide (PI n) (Classical.propDecidable _)
def NM(h:Mf n=true):PI n:=@of_decide_eq_true _ (Classical.propDecidable _) h
def a0v(h:PI n):Mf n=true:=@decide_eq_true _ (Classical.propDecidable _) h
def c0y{d f n:Int}(hd:2<=d)(hf:2<=f)(h:d * d<=n)(g:¬f * f<=n):d < f:=by
 rcases Int.lt_or_le d f with e | e
 . exact e
 . have:f * f<=d * d:=Int.mul_le_mul e e Y Y;omega
def c0z{f n:Int}(hf:2<=f)(h:f * f<=n):f+1<=n:=by
 have:2 * f<=f * f:=Int.mul_le_mul_of_nonneg_right hf Y;omega
def Y5(n k:Nat)(h2:2<=n)(hk:n < k * k)(h:(List.range k).all (λd=>d < 2 || n % d != 0)=true):Mf (n:Int)=true:=by
 refine a0v ⟨Y,λd hd vS e=>?_⟩;have jd:¬(k:Int) * (k:Int)<=(n:Int):=by
  have:((n:Nat):Int) < ((k * k:Nat):Int):=by omega
  rw[Int.natCast_mul]at this;omega
 have kk:2<=(k:Int):=by
  rcases(by omega:k=0\/k=1\/2<=k)with c | c | c
  . subst c;omega
  . subst c;omega
  . omega
 have lt:=c0y hd kk vS jd;have dn:(d.toNat:Int)=d:=cI Y;have:=cJ.mp h d.toNat (aN.mpr Y);rw[<- dn,fe Y,<- Int.natCast_emod]at e;have e':n % d.toNat=0:=by omega
 simp[e']at this;omega
def WZ:Mf 999983=true:=Y5 999983 1000 bD bD dK
def ZE:Mf 65537=true:=Y5 65537 257 bD bD dK
def p2:Mf 2=true:=Y5 2 2 bD bD dK
def p3:Mf 3=true:=Y5 3 2 bD bD dK
def p5:Mf 5=true:=Y5 5 3 bD bD dK
def p7:Mf 7=true:=Y5 7 3 bD bD dK
def p11:Mf 11=true:=Y5 11 4 bD bD dK
def p13:Mf 13=true:=Y5 13 4 bD bD dK
def p101:Mf 101=true:=Y5 101 11 bD bD dK
end Mine
namespace Mine
open PySem PySem.SeqAt
set_option genInjectivity false in
set_option genSizeOfSpec false in
structure SR where
 W:Type
 add:W->W->W
 mul:W->W->W
 zero:W
 one:W
 add_comm:∀x y,add x y=add y x
 add_assoc:∀x y z,add (add x y) z=add x (add y z)
 mul_comm:∀x y,mul x y=mul y x
 mul_assoc:∀x y z,mul (mul x y) z=mul x (mul y z)
 distrib:∀x y z,mul x (add y z)=add (mul x y) (mul x z)
 add_zero:∀x,add x zero=x
 mul_one:∀x,mul x one=x
 mul_zero:∀x,mul x zero=zero
 zo:zero≠one
 sz:Nat->W->Prop
 sz_mono:∀m n x,m<=n->sz m x->sz n x
 sz_add:∀m n x y,sz m x->sz n y->sz (m+n+1) (add x y)
 sz_mul:∀m n x y,sz m x->sz n y->sz (m+n) (mul x y)
 sz_zero:sz 0 zero
 sz_one:sz 0 one
 lv:Nat->Nat->W->Prop
 lv_mono:∀k c c' x,c<=c'->lv k c x->lv k c' x
 lv_add:∀k c c' x y,lv k c x->lv k c' y->lv k (c+c') (add x y)
 lv_mul:∀j k x y,lv j 32 x->lv k 32 y->lv (j+k) 1 (mul x y)
 lv_zero:∀k,lv k 0 zero
 lv_one:lv 1 1 one
 lv_up:∀k c x,lv k c x->lv (k+1) c x
 lv_sz:∀k c x,c<=1024->lv k c x->sz (100 * k) x
 data:W->PyData
 sh:∀x,shaped (data x)=true
 nm:∀x y,noMix (data x) (data y)=true
 eq:∀x,PySem.Spec.same (data x) (data x)=true
 ne:∀x y,x≠y->PySem.Spec.same (data x) (data y)=false
structure Fr where
 t:Int
 b:Int
 p:0 < b
 l:dv t b=1
def Fr.eq_of{x y:Fr}(h1:x.t=y.t)(h2:x.b=y.b):x=y:=by
 cases x;cases y;cases h1;cases h2;rfl
def Fr.nb(x:Fr):x.b≠0:=by have:=x.p;omega
def Fr.of(a b:Int)(h:0 < b):Fr:=⟨tp a b,bt a b,Ew Y,n0g Y⟩
def Fr.of_cross(a b:Int)(h:0 < b):(Fr.of a b h).t * b=a * (Fr.of a b h).b:=Rp Y
def Fr.add(x y:Fr):Fr:=Fr.of (x.t * y.b+y.t * x.b) (x.b * y.b) (aL x.p y.p)
def Fr.mul(x y:Fr):Fr:=Fr.of (x.t * y.t) (x.b * y.b) (aL x.p y.p)
def Fr.zero:Fr:=⟨0,1,bD,b0k⟩
def Fr.one:Fr:=⟨1,1,bD,dv11⟩
def Fr.sz(n:Nat)(x:Fr):Prop:=x.t.natAbs<=2 ^ n/\x.b.natAbs<=2 ^ n
def Zu(m n:Nat):(2:Nat) ^ (m+n)=2 ^ m * 2 ^ n:=bo 2 m n
def HZ{a b:Int}{m n:Nat}(h1:a.natAbs<=2 ^ m)(h2:b.natAbs<=2 ^ n):(a * b).natAbs<=2 ^ (m+n):=by
 rw[bw,Zu];exact aX h1 h2
def YL{a b c d:Int}{m n:Nat}(h1:a.natAbs<=2 ^ m)(h2:b.natAbs<=2 ^ n)(h3:c.natAbs<=2 ^ n)(h4:d.natAbs<=2 ^ m):(a * b+c * d).natAbs<=2 ^ (m+n+1):=by
 have k1:=HZ h1 h2;have k2:=HZ h3 h4;rw[Nat.add_comm n m]at k2;have k3:(a * b+c * d).natAbs<=(a * b).natAbs+(c * d).natAbs:=Int.natAbs_add_le _ _;have k4:(2:Nat) ^ (m+n+1)=2 ^ (m+n) * 2:=bW ..;omega
def UI(h1:a.natAbs<=2 ^ m)(h2:b.natAbs<=2 ^ m):(Fr.of a b h).sz m:=
 ⟨ag (Qx Y) h1,ag (Rx Y) h2⟩
def Ur(h:m<=n):(2:Nat) ^ m<=2 ^ n:=dc bD h
def Fr.lv(k c:Nat)(x:Fr):Prop:=∃a:Int,x.t * 12 ^ k=a * x.b/\1024 * a.natAbs<=c * 2 ^ (100 * k)
def Fr.lv_add(h:x.lv k c)(h':y.lv k c'):(Fr.add x y).lv k (c+c'):=by
 obtain⟨a,e,b⟩:=h;obtain⟨a',e',b'⟩:=h';refine⟨a+a',?_,?_⟩
 . have hc:=Fr.of_cross (x.t * y.b+y.t * x.b) (x.b * y.b) (aL x.p y.p);have hn:x.b * y.b≠0:=cD x.nb y.nb;refine bx hn ?_;show(Fr.add x y).t * 12 ^ k * (x.b * y.b)=(a+a') * (Fr.add x y).b * (x.b * y.b);have hc:(Fr.add x y).t * (x.b * y.b)=(x.t * y.b+y.t * x.b) * (Fr.add x y).b:=hc;have e1:(Fr.add x y).t * 12 ^ k * (x.b * y.b)=((Fr.add x y).t * (x.b * y.b)) * 12 ^ k:=by rw[aV]
   rw[e1,hc];have e2:(x.t * y.b+y.t * x.b) * (Fr.add x y).b * 12 ^ k=((x.t * 12 ^ k) * y.b+(y.t * 12 ^ k) * x.b) * (Fr.add x y).b:=by
    rw[aV,Int.add_mul,aV x.t,aV y.t]
   rw[e2,e,e'];have e3:a * x.b * y.b+a' * y.b * x.b=(a+a') * (x.b * y.b):=by
    rw[Int.add_mul,aG,aG a',aI y.b x.b]
   rw[e3,aV]
 . have:=Int.natAbs_add_le a a';rw[Nat.add_mul];omega
def Fr.lv_mul(h:x.lv j 32)(h':y.lv k 32):(Fr.mul x y).lv (j+k) 1:=by
 obtain⟨a,e,b⟩:=h;obtain⟨a',e',b'⟩:=h';refine⟨a * a',?_,?_⟩
 . have hc:(Fr.mul x y).t * (x.b * y.b)=(x.t * y.t) * (Fr.mul x y).b:=Fr.of_cross (x.t * y.t) (x.b * y.b) (aL x.p y.p);have hn:x.b * y.b≠0:=cD x.nb y.nb;refine bx hn ?_;rw[aV,hc,Int.pow_add];have e2:x.t * y.t * (Fr.mul x y).b * (12 ^ j * 12 ^ k)=(x.t * 12 ^ j) * (y.t * 12 ^ k) * (Fr.mul x y).b:=by
    rw[aV];congr 1;rw[aG,aG,Int.mul_left_comm y.t]
   rw[e2,e,e'];have e3:a * x.b * (a' * y.b)=a * a' * (x.b * y.b):=by
    rw[aG,aG,Int.mul_left_comm x.b]
   rw[e3,aV]
 . rw[bw,Nat.mul_add,bo];have h1:=aX b b';have e1:1024 * a.natAbs * (1024 * a'.natAbs)=1024 * (1024 * (a.natAbs * a'.natAbs)):=by
    rw[bQ,Nat.mul_left_comm a.natAbs]
   have e2:32 * 2 ^ (100 * j) * (32 * 2 ^ (100 * k))=1024 * (2 ^ (100 * j) * 2 ^ (100 * k)):=by
    rw[bQ,Nat.mul_left_comm (2 ^ (100 * j)),<- bQ]
   rw[e1,e2]at h1;have:=Nat.le_of_mul_le_mul_left h1 bD;omega
def Fr.lv_up{k c:Nat}{x:Fr}(h:x.lv k c):x.lv (k+1) c:=by
 obtain⟨a,e,b⟩:=h;refine⟨a * 12,?_,?_⟩
 . rw[bS,<- aG,e,aV]
 . rw[bw,show 100 * (k+1)=100 * k+100 from by omega,bo];have h1:(1024 * a.natAbs) * 12<=(c * 2 ^ (100 * k)) * 2 ^ 100:=aX b bD;have e1:1024 * (a.natAbs * (12:Int).natAbs)=(1024 * a.natAbs) * 12:=by rw[bQ];rfl
   rw[e1,<- bQ];exact h1
def Fr.lv_sz{k c:Nat}{x:Fr}(hc:c<=1024)(h:x.lv k c):x.sz (100 * k):=by
 obtain⟨a,e,b⟩:=h;have cop:Nat.Coprime x.t.natAbs x.b.natAbs:=by
  have l:=x.l;unfold dv at l;have:Int.gcd x.t x.b=1:=by omega
  exact this
 have e':x.t.natAbs * 12 ^ k=a.natAbs * x.b.natAbs:=by
  have:=congrArg Int.natAbs e;rw[bw,bw,Int.natAbs_pow]at this;exact this
 have hb:a.natAbs<=2 ^ (100 * k):=by
  have h1:1024 * a.natAbs<=1024 * 2 ^ (100 * k):=ag b (bh _ hc);exact Nat.le_of_mul_le_mul_left h1 bD
 have p12:(12:Nat) ^ k<=2 ^ (100 * k):=by
  rw[Nat.pow_mul];exact dA bD k
 constructor
 . have d:x.t.natAbs ∣ a.natAbs:=cop.dvd_of_dvd_mul_right ⟨12 ^ k,e'.symm⟩;by_cases z:a.natAbs=0
   . have:x.t.natAbs * 12 ^ k=0:=by rw[e',z,Nat.zero_mul]
     have:x.t.natAbs=0:=by
      rcases Nat.mul_eq_zero.mp this with h | h
      . exact h
      . exact absurd h (bT (Nat.pow_pos bD))
     omega
   . exact ag (cE Y d) hb
 . have d:x.b.natAbs ∣ 12 ^ k:=cop.symm.dvd_of_dvd_mul_left ⟨a.natAbs,by rw[e',bV]⟩;exact ag (cE (Nat.pow_pos bD) d) p12
def JC:SR where
 W:=Fr
 add:=Fr.add
 mul:=Fr.mul
 zero:=Fr.zero
 one:=Fr.one
 add_comm x y:=Fr.eq_of Gc.1 Gc.2
 add_assoc x y z:=
  have h:=OY (f:=z.b) (e:=z.t) x.nb y.nb z.nb (Fr.add x y).nb (Fr.add y z).nb (Fr.of_cross _ _ (aL x.p y.p)) (Fr.of_cross _ _ (aL y.p z.p))
  Fr.eq_of h.1 h.2
 mul_comm x y:=Fr.eq_of DL.1 DL.2
 mul_assoc x y z:=
  have h:=Mr (f:=z.b) (e:=z.t) x.nb y.nb z.nb (Fr.mul x y).nb (Fr.mul y z).nb (Fr.of_cross _ _ (aL x.p y.p)) (Fr.of_cross _ _ (aL y.p z.p))
  Fr.eq_of h.1 h.2
 distrib x y z:=
  have h:=distrib (a:=x.t) (f:=z.b) (e:=z.t) x.nb y.nb z.nb (Fr.add y z).nb (Fr.mul x y).nb (Fr.mul x z).nb (Fr.of_cross _ _ (aL y.p z.p)) (Fr.of_cross _ _ (aL x.p y.p)) (Fr.of_cross _ _ (aL x.p z.p))
  Fr.eq_of h.1 h.2
 add_zero x:=Fr.eq_of (Gb x.p x.l).1 (Gb x.p x.l).2
 mul_one x:=Fr.eq_of (JO x.p x.l).1 (JO x.p x.l).2
 mul_zero x:=Fr.eq_of (Hs x.p).1 (Hs x.p).2
 zo h:=by have:(0:Int)=1:=congrArg Fr.t h;omega
 sz:=Fr.sz
 sz_mono m n x h s:=⟨ag s.1 (Ur h),ag s.2 (Ur h)⟩
 sz_add m n x y h1 h2:=UI (YL h1.1 h2.2 h2.1 h1.2) (ag (HZ h1.2 h2.2) (Ur (Nat.le_succ _)))
 sz_mul m n x y h1 h2:=UI (HZ h1.1 h2.1) (HZ h1.2 h2.2)
 sz_zero:=⟨by decide,bD⟩
 sz_one:=⟨by decide,bD⟩
 lv:=Fr.lv
 lv_mono k c c' x h:=λ⟨a,e,b⟩=>⟨a,e,ag b (bh _ h)⟩
 lv_add _ _ _ _ _ h h':=Fr.lv_add h h'
 lv_mul _ _ _ _ h h':=Fr.lv_mul h h'
 lv_zero k:=⟨0,by show(0:Int) * 12 ^ k=0 * 1;rw[Int.zero_mul,Int.zero_mul],by show 1024 * 0<=_;omega⟩
 lv_one:=⟨12,bD,bD⟩
 lv_up _ _ _ h:=Fr.lv_up h
 lv_sz _ _ _ hc h:=Fr.lv_sz hc h
 data x:=.tuple [.int x.t,.int x.b]
 sh x:=rfl
 nm x y:=by simp[noMix,noMixAll]
 eq x:=by simp[PySem.Spec.same,PySem.Spec.sameAll]
 ne x y h:=by
  simp[PySem.Spec.same,PySem.Spec.sameAll];intro h1 h2;exact h (Fr.eq_of h1 h2)
structure Re(p:Int)where
 x:Int
 h0:0<=x
 h1:x < p
def Re.eq_of{p:Int}{a b:Re p}(h:a.x=b.x):a=b:=by cases a;cases b;cases h;rfl
def Re.of(p:Int)(hp:0 < p)(x:Int):Re p:=⟨x.fmod p,(OT hp).1,(OT hp).2⟩
def An(p:Int)(hp:2<=p):SR where
 W:=Re p
 add a b:=Re.of p Y (a.x+b.x)
 mul a b:=Re.of p Y (a.x * b.x)
 zero:=⟨0,Y,Y⟩
 one:=⟨1,Y,Y⟩
 add_comm a b:=Re.eq_of (by show(a.x+b.x).fmod p=(b.x+a.x).fmod p;rw[Int.add_comm])
 add_assoc a b c:=Re.eq_of (r_pa Y)
 mul_comm a b:=Re.eq_of (by show(a.x * b.x).fmod p=(b.x * a.x).fmod p;rw[aI])
 mul_assoc a b c:=Re.eq_of (r_ta Y)
 distrib a b c:=Re.eq_of (r_d Y)
 add_zero a:=Re.eq_of (by show(a.x+0).fmod p=a.x;rw[Int.add_zero];exact Ga a.h0 a.h1)
 mul_one a:=Re.eq_of (by show(a.x * 1).fmod p=a.x;rw[bU];exact Ga a.h0 a.h1)
 mul_zero a:=Re.eq_of (by show(a.x * 0).fmod p=0;rw[Int.mul_zero];exact Ga Y Y)
 zo h:=by have:(0:Int)=1:=congrArg Re.x h;omega
 sz _ _:=True
 sz_mono _ _ _ _ _:=trivial
 sz_add _ _ _ _ _ _:=trivial
 sz_mul _ _ _ _ _ _:=trivial
 sz_zero:=trivial
 sz_one:=trivial
 lv _ _ _:=True
 lv_mono _ _ _ _ _ _:=trivial
 lv_add _ _ _ _ _ _ _:=trivial
 lv_mul _ _ _ _ _ _:=trivial
 lv_zero _:=trivial
 lv_one:=trivial
 lv_up _ _ _ _:=trivial
 lv_sz _ _ _ _ _:=trivial
 data a:=.int a.x
 sh _:=rfl
 nm _ _:=by simp[noMix]
 eq _:=by simp[PySem.Spec.same]
 ne a b h:=by
  simp[PySem.Spec.same];intro e;exact h (Re.eq_of e)
end Mine
namespace L2
open PySem PySem.Spec PyProof.Rows
class Plain (P:Program):Prop where
 tree:P.given.tree=none
section
variable{X:Cx}
theorem o9.seer{aS:List (Addr × Obj)}{σ:St}{H:Hp}{s:Shared}(I:o9 X aS σ H s):s.heap.NoSeer:=I.ok.mod.seer.keeps I.bk
def EW{k:Nat}(hr:M0 k X.A)(hk:34<=k)(hP:X.prog.given.tree=none)(kT:X.stack=X.env::X.outer:=by rfl)(tI:X.env.scope.isGenerator=false:=by rfl)(hco:X.env.scope.isCoroutine=false:=by rfl) :
    Ez X (binaryOp .FloorDiv) (rI (λ_ j=>j≠0) λi j=>.int (i.fdiv j)):=by
 intro aS s σ H x y v u Q I rx ry h;obtain⟨i,j,rfl,rfl,hc,q⟩:=h;obtain⟨t,rfl⟩:=rx;obtain⟨t',rfl⟩:=ry;refine floordiv_int hc ⟨.int _,H,I.tok _,⟨_,U⟩,q⟩ (Or.inr (PylongRoom.of I.nolimit ?_ (SeerAt.of I.seer hP (by rw[I.ok.frames,kT]) tI hco I.ok.blt I.ok.glob)));have:=hr.dp;show X.A.depth+100 < recursionLimit;omega
def GE(i j:Int):Prop:=Builtin.Int.intBits i+Builtin.Int.intBits j<=2 ^ 27
def a0i{a b:Int}(hc:GE a b):IntMulOk a b:=by
 have hc:Builtin.Int.intBits a+Builtin.Int.intBits b<=2 ^ 27:=hc;have e:Builtin.Int.intTooBig (Builtin.Int.intBits a+Builtin.Int.intBits b)=false:=by
  unfold Builtin.Int.intTooBig bitsLine;exact decide_eq_false Y
 unfold IntMulOk;rw[e];simp
def S4:Ez X (binaryOp .Mult) (rI GE λi j=>.int (i * j)):=b0y λ_ _ _ _ _ _ _ hc q=>mul_int q (a0i hc)
end
def c0l(t u:TS):TS:=λD σ H=>∀r,r=u->t { D with nx:=r D } σ H
def c8{X:Cx}{st:Stmt}{R9:List Stmt}{t u:TS}(h1:PS X st t)(h2:Mg X R9 u):Mg X (st::R9) (c0l t u):=λaS s σ H D I h=>c5 h1 h2 aS s σ H D I (h u U)
section
variable{CX:RE}{P:Program}{w:World}{K:aa}{mg:Str->Option Value}{base:Heap}{N:List Str}{qual:Str}{scope:Scope}{f:Addr}{cd:Value}{A:Around}{outer:List Env}{s:Shared}{H:Hp}{E:XK}
def z8:(GV CX P w K mg base N qual scope f cd A outer s H E).K=K:=rfl
def u7:(GV CX P w K mg base N qual scope f cd A outer s H E).nox.K=K:=rfl
def y9:(GV CX P w K mg base N qual scope f cd A outer s H E).w=w:=rfl
def z5:(GV CX P w K mg base N qual scope f cd A outer s H E).base=base:=rfl
end
def N7(cells:List (Str × Addr)):List (Str × NameKind)->List (Str × Addr)->List (Str × Addr)
 | [],cs=>cs
 | (n,k)::r,cs=>N7 cells r (if(k == .free)=true then(n,(cells.lookup n).getD 0)::cs else cs)
theorem LZ:∀(names:List (Str × NameKind)) (cs:List (Str × Addr)),(∀n,(n,NameKind.free)∈names->∃c,env.cells.lookup n=some c)->
    (forIn names cs λ(x:Str × NameKind) (r:List (Str × Addr))=>(match x with | (name,kind)=>if(kind == NameKind.free)=true then(do let c <- cellOf env name;pure (ForInStep.yield ((name,c)::r)))else pure (ForInStep.yield r):Sem (ForInStep (List (Str × Addr)))))=pure (N7 env.cells names cs)
 | [],cs,_=>rfl
 | (n,k)::r,cs,h=>by
  rw[List.forIn_cons];by_cases hk:k=.free
  . subst hk;obtain⟨c,hc⟩:=h n aF;have ih:=LZ (env:=env) r ((n,c)::cs) λm hm=>h m (aC _ hm);have e1:cellOf env n=pure c:=by unfold cellOf;rw[hc]
    simp only[beq_self_eq_true,if_true,e1,pure_bind];rw[ih]
    conv=>rhs;unfold N7
    simp only[beq_self_eq_true,if_true,hc,dB]
  . have hb:(k == NameKind.free)=false:=by simpa using hk
    have ih:=LZ (env:=env) r cs λm hm=>h m (aC _ hm);simp only[hb,Bool.false_eq_true,if_false,pure_bind];rw[ih]
    conv=>rhs;unfold N7
    simp only[hb,Bool.false_eq_true,if_false]
def CQ(h:∀n,(n,NameKind.free)∈scope.names->∃c,env.cells.lookup n=some c):closureFor scope env=pure (N7 env.cells scope.names []):=by
 have e:=LZ (env:=env) scope.names [] h;unfold closureFor;simp only[bind_pure];exact e
theorem LY:∀{names:List (Str × NameKind)} {cs:List (Str × Addr)},(∀n,(n,NameKind.free)∈names->∃c,cells.lookup n=some c)->∀{y c},(N7 cells names cs).lookup y=some c->cs.lookup y=some c\/cells.lookup y=some c
 | [],cs,_,y,c,e=>.inl e
 | (n,k)::r,cs,h,y,c,e=>by
  unfold N7 at e;have h':∀m,(m,NameKind.free)∈r->∃c,cells.lookup m=some c:=λm hm=>h m (aC _ hm);rcases LY h' e with z | z
  . by_cases hk:k=.free
    . subst hk;obtain⟨d,hd⟩:=h n aF;simp only[beq_self_eq_true,if_true,hd,dB]at z;rw[bX]at z;cases hy:(y == n)with
      | true=>
       rw[hy]at z;have:y=n:=beq_iff_eq.mp hy;subst this;exact .inr (hd.trans z)
      | false=>rw[hy]at z;exact .inl z
    . have hb:(k == NameKind.free)=false:=by simpa using hk
      simp only[hb,Bool.false_eq_true,if_false]at z;exact .inl z
  . exact .inr z
theorem Fz:∀{names:List (Str × NameKind)} {cs:List (Str × Addr)} {y:Str},((∃c,cs.lookup y=some c)\/(y,NameKind.free)∈names)->∃c,(N7 cells names cs).lookup y=some c
 | [],cs,y,h=>by
  rcases h with h | h
  . exact h
  . cases h
 | (n,k)::r,cs,y,h=>by
  unfold N7;refine Fz ?_;rcases h with ⟨c,h⟩ | h
  . left;split
    . rw[bX];cases hy:(y == n)with
      | true=>exact⟨_,U⟩
      | false=>exact⟨c,h⟩
    . exact⟨c,h⟩
  . rcases aD.mp h with e | h
    . cases e;left;simp only[beq_self_eq_true,if_true];rw[bX,beq_self_eq_true];exact⟨_,U⟩
    . exact .inr h
def XN{prog:Program}{w:World}{A:Around}{R:Result->Shared->Prop}{s:Shared}{fq dZ iter:Expr}{scope:Scope}{pos:Pos}{it fI:Value}{env:Env}(I:Nat->Shared->Prop)
    (turn:∀n s,I n s->wpAny (model prog w) A (pyNext it) (λr s₁=>match r with
     | none=>R (.ok .next) s₁
     | some v=>wpAny (model prog w) A (letOwnedTupleGo dZ it v) (λ_ iG=>wpAny (model prog w) A (assign dZ env v) (λ_ s₂=>wpAny (model prog w) A (eval fq env) (λx s₃=>
         wpAny (model prog w) A (call (.builtin "list.append") [fI,x]) (λ_ s₄=>∃m,m < n/\I m s₄) (λ_ _=>False) s₃) (λ_ _=>False) s₂) (λ_ _=>False) iG) (λ_ _=>False) s₁) (λ_ _=>False) s)
    (n:Nat) (h:I n s) :
    codeAny (model prog w) A (.compLoop (.ListComp fq [⟨dZ,iter,[],0⟩] scope pos) 0 it fI env) R s:=by
 refine codeAny_loop rfl I (λn s hI=>?_) n h;show wpAny _ _ ((compTurn (.ListComp fq [⟨dZ,iter,[],0⟩] scope pos) 0 it fI env).onRaise (λx=>do noteFrame x env;theTreesLotGoes x)) _ _ s;refine wpAny_noted ?_;rw[compTurn_list1];refine wpAny_bind (wpAny_standAt (wpAny_bind (wpAny_mono (turn n s hI) (λr s₁ h₁=>?_) λ_ _ h'=>h'.elim)));cases r with
 | none=>exact wpAny_pure h₁
 | some v=>
  exact wpAny_bind (wpAny_mono h₁ (λ_ fU gI=>wpAny_bind (wpAny_mono gI (λ_ s₂ h₂=>wpAny_bind (wpAny_bind (wpAny_mono h₂ (λx s₃ h₃=>wpAny_bind (wpAny_mono h₃
   (λ_ s₄ h₄=>wpAny_pure (wpAny_pure ⟨U,h₄⟩)) λ_ _ h'=>h'.elim)) λ_ _ h'=>h'.elim))) λ_ _ h'=>h'.elim)) λ_ _ h'=>h'.elim)
def AE.track(x:AE P w H h)(n:H a=none)(new:M7 P w (upd H a o) h a o):AE P w (upd H a o) h:=λb u e=>by
 by_cases hb:b=a
 . subst hb;rw[b9]at e;cases e;exact new
 . rw[l6 hb]at e;exact(x b u e).stay (λ_ _ _ q=>q) (λc q=>by rw[l6 (j7 q n)];exact q) λc xs q=>by rw[l6 (j7 q n)];exact q
def Un.track(u:Un fs ex H H' h h')(hp:h.objs.size<=a)(n:H' a=none):Un fs ex H (upd H' a o) h h' where
 keep:=u.keep
 slot:=u.slot
 free:=λb ob q m hx=>by rw[l6 (aB (aA (ao q) hp))];exact u.free b ob q m hx
 there:=u.there
 tups:=λb xs q=>by have z:=u.tups b xs q;rw[l6 (j7 z n)];exact z
 frzs:=λb ob xs q=>by have z:=u.frzs b ob xs q;rw[l6 (j7 z n)];exact z
 tbls:=λb ps q=>by obtain⟨m,z⟩:=u.tbls b ps q;exact⟨m,by rw[l6 (j7 z n)];exact z⟩
theorem J3:∀(names:List (Str × NameKind)) (n:Nat) (fI:List (Str × Addr)),cellsFrom n names fI=cellsFrom n names []++fI
 | [],_,_=>rfl
 | (x,k)::r,n,fI=>by
  unfold cellsFrom;split
  . rw[J3 r (n+1) ((x,n)::fI),J3 r (n+1) [(x,n)],List.append_assoc];rfl
  . exact J3 r n fI
theorem Iw:∀(names:List (Str × NameKind)) (n:Nat) (y:Str) (c:Addr),(y,c)∈cellsFrom n names []->(y,NameKind.cell)∈names
 | [],_,_,_,h=>by cases h
 | (x,k)::r,n,y,c,h=>by
  unfold cellsFrom at h;split at h
  . rename_i hk;rw[J3]at h;rcases aH.mp h with h | h
    . exact aC _ (Iw r (n+1) y c h)
    . have e:=ax.mp h;cases e;rw[show k=NameKind.cell by simpa using hk];exact aF
  . exact aC _ (Iw r n y c h)
theorem Dh:∀(names:List (Str × NameKind)) (n:Nat) (y:Str),(y,NameKind.cell)∈names->∃c,(y,c)∈cellsFrom n names []
 | [],_,_,h=>by cases h
 | (x,k)::r,n,y,h=>by
  unfold cellsFrom;rcases aD.mp h with e | h
  . cases e;rw[if_pos (show(NameKind.cell == NameKind.cell)=true by decide),J3];exact⟨n,aP _ aF⟩
  . split
    . rw[J3];obtain⟨c,hc⟩:=Dh r (n+1) y h;exact⟨c,bC _ hc⟩
    . exact Dh r n y h
theorem Ab:∀(l r:List (Str × α)) (y:Str),(l++r).lookup y=match l.lookup y with | some c=>some c | none=>r.lookup y
 | [],_,_=>rfl
 | (x,c)::l,r,y=>by
  rw[List.cons_append,bX,bX];cases (y == x)with
  | true=>rfl
  | false=>exact Ab l r y
theorem Ej:∀{l:List (Str × α)} {y:Str} {c:α},(y,c)∈l->∃c',l.lookup y=some c'
 | (x,d)::l,y,c,h=>by
  rw[bX];cases hb:(y == x)with
  | true=>exact⟨d,U⟩
  | false=>
   rcases aD.mp h with e | h
   . cases e;rw[beq_self_eq_true]at hb;cases hb
   . exact Ej h
abbrev Eu(env:Env)(scope:Scope)(C:Addr):List (Str × Addr):=cellsFrom (C+1) scope.names (N7 env.cells scope.names [])
def SM(h:(Eu env scope C).lookup y=some c):(y,c)∈cellsFrom (C+1) scope.names []\/(N7 env.cells scope.names []).lookup y=some c:=by
 rw[show Eu env scope C=_ from J3 _ _ _,Ab]at h;split at h
 . rename_i e;cases h;exact .inl (bg e)
 . exact .inr h
def b0n(k:scope.names.lookup y=some .cell)(h:(Eu env scope C).lookup y=some c):(y,c)∈cellsFrom (C+1) scope.names []:=by
 rw[show Eu env scope C=_ from J3 _ _ _,Ab]at h;obtain⟨d,hd⟩:=Dh scope.names (C+1) y (bg k);obtain⟨d',iE⟩:=Ej hd;rw[iE]at h;cases h;exact bg iE
theorem K4:∀(names:List (Str × NameKind)) (n:Nat) (y:Str) (c:Addr),(y,c)∈cellsFrom n names []->n<=c
 | [],_,_,_,h=>by cases h
 | (x,k)::r,n,y,c,h=>by
  unfold cellsFrom at h;split at h
  . rw[J3]at h;rcases aH.mp h with h | h
    . have:=K4 r (n+1) y c h;omega
    . cases ax.mp h;exact ae _
  . exact K4 r n y c h
theorem Gn:∀(names:List (Str × NameKind)) (n:Nat) (x y:Str) (c:Addr),(x,c)∈cellsFrom n names []->(y,c)∈cellsFrom n names []->x=y
 | [],_,_,_,_,h,_=>by cases h
 | (z,k)::r,n,x,y,c,h,g=>by
  unfold cellsFrom at h g;split at h
  . rename_i hk;rw[if_pos hk]at g;rw[J3]at h g;rcases aH.mp h with h | h <;>rcases aH.mp g with g | g
    . exact Gn r (n+1) x y c h g
    . cases ax.mp g;have:=K4 r (n+1) x _ h;omega
    . cases ax.mp h;have:=K4 r (n+1) y _ g;omega
    . cases ax.mp h;cases ax.mp g;rfl
  . rename_i hk;rw[if_neg hk]at g;exact Gn r n x y c h g
def Nl{M:Model}{A:Around}{E:Value->Shared->Prop}{s:Shared}{scope:Scope}{globals:Addr}{ib:List (Str × Addr)}{qual:Str}{env:Env}{Q:Env->Shared->Prop}
    (hQ:∀h':Heap,h'.Ns s.heap.objs.size (λ_=>none)->(∀b o,s.heap.get? b=some o->h'.get? b=some o)->CellsOk h' (s.heap.objs.size+1) (cellsFrom (s.heap.objs.size+1) scope.names [])->
     Q (newEnv scope s.heap.objs.size globals (cellsFrom (s.heap.objs.size+1) scope.names ib) qual none .none (some env) builtinsNs) { s with heap:=h',toks:=s.toks+([]:List (Str × Value)).length }) :
    wpAny M A (newFunctionEnv scope globals ib [] qual none .none (some env)) Q E s:=by
 simp only[newFunctionEnv,Option.isSome_some,if_true];refine wpAny_bind (wpAny_alloc ?_);refine wpAny_bind (wpAny_layCells _ (λname kind cells=>by cases hkc:kind == NameKind.cell <;>simp[hkc]) _ _ _ _ ?_);have ok:=cellsFrom_ok scope.names (s.heap.push { cls:=.type "dict",data:=.dict #[] }) (s.heap.objs.size+1) [] ⟨λ_ _ hm=>(nomatch hm),List.Pairwise.nil⟩ (by rw[bu];exact ae _);rw[bu]at ok;rw[show({ s with heap:=s.heap.push { cls:=.type "dict",data:=.dict #[] } }:Shared).heap.objs.size=s.heap.objs.size+1 from bu ..];rw[List.forIn_nil];refine wpAny_bind (wpAny_pure (wpAny_pure ?_));exact hQ _ ((Heap.Ns.new s.heap (.type "dict")).keeps (pushCells_keeps _ _)) (λb o e=>pushCells_keeps _ _ b o (ak _ e)) ok
def D1(X:Cx)(scope:Scope)(xs:List Str)(C:Addr)(s:Shared)(H:Hp)(fp:List Addr)(pn:List (Addr × Obj)):Cx:=
 { X with env:=compEnvC scope (Eu X.env scope C) C X.env,N:=X.N++xs,s₀:=s,H₀:=H,outer:=X.stack,ex:=fp,fn:=λy=>scope.names.lookup y == some .cell,pn:=pn,xe:=λ_ _=>False }
structure Q2(N:List Str)(S T:Scope):Prop where
 kind:T.kind=.function
 cell:∀y∈N,T.names.lookup y≠some .cell
 names:∀y∈T.names,y.2=.local->T.names.lookup y.1=some .local
 uniq:∀y∈T.names,T.names.lookup y.1=some y.2
 free:∀y∈T.names,y.2=.free->S.names.lookup y.1=some .cell\/S.names.lookup y.1=some .free
 vis:∀y∈N,T.names.lookup y≠some .local
def oC(N:List Str)(S:Scope){T:Scope}(a:T.kind=.function:=by rfl)(b:∀y∈N,T.names.lookup y≠some .cell:=by decide +kernel)(c:∀y∈T.names,y.2=.local->T.names.lookup y.1=some .local:=by decide +kernel)(d:∀y∈T.names,T.names.lookup y.1=some y.2:=by decide +kernel)(e:∀y∈T.names,y.2=.free->S.names.lookup y.1=some .cell\/S.names.lookup y.1=some .free:=by decide +kernel)(f:∀y∈N,T.names.lookup y≠some .local:=by decide +kernel):Q2 N S T:=⟨a,b,c,d,e,f⟩
def rlS(S T:Scope):Scope:={ T with names:=T.names.map λ(n,k)=>if(k == .free && S.kind == .function && S.names.lookup n == some .cell)then(n,.cell)else(n,k) }
def rl(env:Env)(z:Str × NameKind):Str × NameKind:=match z with | (n,k)=>if(k == NameKind.free && env.scope.kind == .function && env.kindOf n == some .cell)then(n,NameKind.cell)else(n,k)
def Zm(env:Env)(n:Str)(k:NameKind):(rl env (n,k)).1=n:=by unfold rl;dsimp only;split <;>rfl
def Zl(env:Env)(n:Str)(k:NameKind):(rl env (n,k)).2=k\/(k=.free/\(rl env (n,k)).2=.cell):=by
 unfold rl;dsimp only;split
 . rename_i h;simp only[Bool.and_eq_true]at h;exact .inr ⟨by simpa using h.1.1,U⟩
 . exact .inl rfl
theorem CY:∀{names:List (Str × NameKind)} {y:Str} {k:NameKind},(names.map (rl env)).lookup y=some k->names.lookup y=some k\/(names.lookup y=some .free/\k=.cell)
 | [],_,_,h=>by cases h
 | (n,j)::r,y,k,h=>by
  have ih:=@CY env r y k;rw[aZ,show rl env (n,j)=((rl env (n,j)).1,(rl env (n,j)).2)from rfl,Zm,bX]at h;rw[bX];cases hy:(y == n)with
  | true=>
   rw[hy]at h;have h:(rl env (n,j)).2=k:=Option.some.inj h;rcases Zl env n j with z | ⟨z1,z2⟩
   . exact .inl (by rw[<- h,z])
   . exact .inr ⟨by rw[z1],by rw[<- h,z2]⟩
  | false=>
   rw[hy]at h;exact ih h
def ES(h:(relabel scope env).names.lookup y=some .cell\/(relabel scope env).names.lookup y=some .free):scope.names.lookup y=some .free\/scope.names.lookup y=some .cell:=by
 have e:(relabel scope env).names=scope.names.map (rl env):=rfl;rw[e]at h;rcases h with h | h
 . rcases CY h with z | ⟨z,_⟩
   . exact .inr z
   . exact .inl z
 . rcases CY h with z | ⟨z,_⟩
   . exact .inl z
   . exact .inl z
def Jf(h:(relabel scope env).names.lookup y=some .local):scope.names.lookup y=some .local:=by
 have e:(relabel scope env).names=scope.names.map (rl env):=rfl;rw[e]at h;rcases CY h with z | ⟨_,z⟩
 . exact z
 . cases z
def Un.but(u:Un fs ex H H' h h1)(hb:∀b o,b≠C->h1.get? b=some o->h2.get? b=some o)(hC:h.objs.size<=C):Un fs ex H H' h h2:=by
 have ne:∀b o,h.get? b=some o->b≠C:=λb o e=>aB (aA (ao e) hC);refine⟨λb o e n hf hx=>hb b o (ne b o e) (u.keep b o e n hf hx),λb o e n hf hx=>?_,u.free,λb o e hx=>?_,u.tups,u.frzs,u.tbls⟩
 . obtain⟨sl,q⟩:=u.slot b o e n hf hx;exact⟨sl,hb b _ (ne b o e) q⟩
 . obtain⟨o',q⟩:=u.there b o e hx;exact⟨o',hb b _ (ne b o e) q⟩
def AE.but(x:AE P w H h1)(hb:∀b o,b≠C->h1.get? b=some o->h2.get? b=some o)(n:H C=none):AE P w H h2:=λb u e=>
 (x b u e).stay (λc v hc q=>hb c v (by
  rcases hc with rfl | hc
  . exact j7 e n
  . exact j7 hc n) q) (λ_ q=>q) λ_ _ q=>q
section
variable{X:Cx}{aS:List (Addr × Obj)}{σ:St}{H:Hp}{s:Shared}{scope:Scope}{xs:List Str}{fp:List Addr}{C:Addr}
def Dg(I:o9 X aS σ H s)(ok:Q2 X.N X.env.scope scope):∀n,(n,NameKind.free)∈scope.names->∃c,X.env.cells.lookup n=some c:=λn hn=>I.ok.has n (ok.free _ hn U)
def Bb(I:o9 X aS σ H s)(ok:Q2 X.N X.env.scope scope)(e:(Eu X.env scope C).lookup y=some c):(y,c)∈cellsFrom (C+1) scope.names []\/X.env.cells.lookup y=some c:=by
 rcases SM e with z | z
 . exact .inl z
 . rcases LY (Dg I ok) z with z | z
   . cases z
   . exact .inr z
def Oa(I:o9 X aS σ H s)(e:X.env.cells.lookup y=some c):c < s.heap.objs.size:=let⟨_,h⟩:=I.cell y c e;h.lt
def Rq(I:o9 X aS σ H s)(ok:Q2 X.N X.env.scope scope)(hf:∀b∈fp,Bf X aS H b)(hx:∀b∈fp,b < s.heap.objs.size)(hC:s.heap.objs.size<=C) :
    (D1 X scope xs C s H fp (X.pn++aS)).Ok where
 mod:=I.mod
 kind:=ok.kind
 glob:=I.ok.glob
 blt:=I.ok.blt
 above:=hC
 inj:=λx y c h1 h2=>by
  rcases Bb I ok h1 with z1 | z1 <;>rcases Bb I ok h2 with z2 | z2
  . exact Gn _ _ x y c z1 z2
  . exact absurd (aA (Oa I z2) (ag hC (bF (K4 _ _ _ _ z1)))) (aM _)
  . exact absurd (aA (Oa I z1) (ag hC (bF (K4 _ _ _ _ z2)))) (aM _)
  . exact I.ok.inj x y c z1 z2
 has:=λy hy=>by
  show ∃c,(Eu X.env scope C).lookup y=some c;rw[show Eu X.env scope C=_ from J3 _ _ _,Ab];rcases ES hy with z | z
  . obtain⟨c,hc⟩:=Fz (cells:=X.env.cells) (cs:=[]) (.inr (bg z));split
    . rename_i c' _;exact⟨c',U⟩
    . exact⟨c,hc⟩
  . obtain⟨c,hc⟩:=Dh scope.names (C+1) y (bg z);obtain⟨c',iA⟩:=Ej hc;rw[iA];exact⟨c',U⟩
 cab:=λx c h e=>ag hC (bF (K4 _ _ _ _ (b0n (by have h:(scope.names.lookup x == some NameKind.cell)=true:=h;simpa using h) e)))
 hd:=I.ok.hd
 frames:=I.ok.frames
 stk:=.inl rfl
 exf:=λb hb=>⟨aB (aA (hx b hb) hC),λx c e=>by
  rcases Bb I ok e with z | z
  . exact bT (aA (hx b hb) (ag hC (bF (K4 _ _ _ _ z))))
  . exact(hf b hb).2.2.2.2.1 x c z⟩
 bs:=I.bs
 bsz:=ag I.ok.bsz I.sz
 noex:=λb o e hb=>by
  rcases(hf b hb).2.2.2.1 with z | z
  . exact I.ok.noex b o e z
  . exact absurd (aA (ao e) (ag I.ok.bsz z)) (aM _)
 exfs:=λb hb z=>by
  rcases aD.mp (I.stkSub b z)with q | q
  . exact(hf b hb).2.1 q
  . exact(hf b hb).2.2.1 q
 funs:=I.stack
 frf:=I.stkFree
def Qi(I:o9 X aS σ H s)(ok:Q2 X.N X.env.scope scope)(hf:∀b∈fp,Bf X aS H b)(hx:∀b∈fp,b < s.heap.objs.size)(hC:s.heap.objs.size<=C){h':Heap}{t':Nat}{m:Str->Option Value}
    (hn:h'.Ns C m) (hk:∀b o,s.heap.get? b=some o->h'.get? b=some o) (mq:CellsOk h' (C+1) (cellsFrom (C+1) scope.names [])) :
    o9 (D1 X scope xs C s H fp (X.pn++aS)) [] (σ++List.replicate xs.length none) H { s with heap:=h',toks:=t' }where
 ok:=Rq I ok hf hx hC
 os:=rfl
 bare:=I.bare
 base:=Un.kept hk
 loc:=by
  refine⟨m,hn,λi x v e1 e2 e3=>?_⟩;have e1:(X.N++xs)[i]? = some x:=e1;have hi:i < σ.length:=by
   by_cases hi:i < σ.length
   . exact hi
   . rw[ba Y,dM]at e2;split at e2 <;>cases e2
  rw[aW hi]at e2;rw[aW (by rw[<- I.len];exact hi)]at e1;have vF:x∈X.N:=aK e1;have e4:(relabel scope X.env).names.lookup x=some .cell\/(relabel scope X.env).names.lookup x=some .free:=by
   rcases e3 with z | z
   . exact absurd (Jf z) (ok.vis x vF)
   . exact z
  have e5:scope.names.lookup x=some .free:=by
   rcases ES e4 with z | z
   . exact z
   . exact absurd z (ok.cell x vF)
  have e6:=ok.free _ (bg e5) rfl;obtain⟨m0,_,hl⟩:=I.loc;obtain⟨u,ru,lu⟩:=hl i x v e1 e2 (.inr e6);refine⟨u,ru,.inr ⟨e4,?_⟩⟩;rcases lu with ⟨q,_⟩ | ⟨_,c,hc,o,ho,hd⟩
  . have q:X.env.scope.names.lookup x=some .local:=q;rcases e6 with z | z <;>(rw[q]at z;cases z)
  . obtain⟨c',iA⟩:=Fz (cells:=X.env.cells) (cs:=[]) (.inr (bg e5));have no:(cellsFrom (C+1) scope.names []).lookup x=none:=by
     cases e:(cellsFrom (C+1) scope.names []).lookup x with
     | none=>rfl
     | some d=>
      have:=ok.uniq _ (Iw _ _ _ _ (bg e));rw[e5]at this;cases this
    have hb:(Eu X.env scope C).lookup x=some c':=by
     rw[show Eu X.env scope C=_ from J3 _ _ _,Ab,no];exact iA
    rcases LY (Dg I ok) iA with z | z
    . cases z
    . rw[hc]at z;cases z;exact⟨c,hb,o,hk _ _ ho,hd⟩
 cell:=λx c e=>by
  rcases Bb I ok e with z | z
  . exact⟨none,(mq.empty x c z).1⟩
  . obtain⟨v,o,ho,hd⟩:=I.cell x c z;exact⟨v,o,hk _ _ ho,hd⟩
 free:=I.hok.fresh hC
 freeC:=λx c e=>by
  rcases Bb I ok e with z | z
  . exact I.hok.fresh (by have:=K4 _ _ _ _ z;omega)
  . exact I.freeC x c z
 pin:=λp hp=>by
  rw[bI]at hp;obtain⟨e,n,ne,nf,d⟩:=I.pin p hp;refine⟨hk _ _ e,n,aB (aA (ao e) hC),λz=>?_,d⟩;rcases aD.mp (I.stkSub p.1 z)with q | q
  . exact ne q
  . exact nf q
 hok:=I.hok.kept hk
 len:=by
  show(σ++List.replicate xs.length none).length=(X.N++xs).length;rw[aq,aq,dm,I.len]
end
abbrev RF(J:It)(k:Nat)(g:TG)(te:TE)(σ:St)(Q:VK)(H1:Hp):Prop:=∃W:Nat->Nat->List V->Hp->Prop,(∃m,W 0 m [] H1)/\∀i m ys H,W i m ys H->
 (J.stop i H/\ys.length<=sizeLine/\∀p,H p=none->Q (.ref p) (upd H p (.lst ys)))\/
 (J.go i H/\ys.length < sizeLine/\∀x H',J.yld i H x H'->g x (σ++List.replicate k none) H' λσ2 H2=>(∃zs,σ2=σ++zs/\zs.length=k)/\te σ2 H2 λv H3=>∃m',m' < m/\W (i+1) m' (ys++[v]) H3)
def Tw(k:Nat)(wi:TI)(g:TG)(te:TE):TE:=λσ H Q=>wi σ H λJ H1=>RF J k g te σ Q H1
abbrev IG(J:It)(k:Nat)(g:TG)(tc:TT)(te:TE)(σ:St)(Q:VK)(H1:Hp):Prop:=∃W:Nat->Nat->List V->Hp->Prop,(∃m,W 0 m [] H1)/\∀i m ys H,W i m ys H->
 (J.stop i H/\ys.length<=sizeLine/\∀p,H p=none->Q (.ref p) (upd H p (.lst ys)))\/
 (J.go i H/\ys.length < sizeLine/\∀x H',J.yld i H x H'->g x (σ++List.replicate k none) H' λσ2 H2=>(∃zs,σ2=σ++zs/\zs.length=k)/\tc σ2 H2 λb H3=>if b=true then te σ2 H3 λv H4=>∃m',m' < m/\W (i+1) m' (ys++[v]) H4 else ∃m',m' < m/\W (i+1) m' ys H3)
def EF(k:Nat)(wi:TI)(g:TG)(tc:TT)(te:TE):TE:=λσ H Q=>wi σ H λJ H1=>IG J k g tc te σ Q H1
def Wt:TT:=λσ H Q=>Q true H
def Ts:IG J k g Wt te=RF J k g te:=by
 funext σ Q H1;unfold Wt;simp only[RF,IG,if_true]
def NZ:EF k wi g Wt te=Tw k wi g te:=by
 funext σ H Q;exact congrArg (wi σ H) (funext λJ=>funext λH1=>congrFun (congrFun (congrFun (Ts (J:=J)) σ) Q) H1)
def Tst(X:Cx)(scope:Scope)(xs:List Str)(fM:List Expr)(tc:TT):Prop:=(fM=[]/\tc=Wt)\/∃c,fM=[c]/\∀C s H fp pn,PT (D1 X scope xs C s H fp pn) c tc
def Qj{prog:Program}{w:World}{A:Around}{R:Result->Shared->Prop}{s:Shared}{fq dZ iter:Expr}{fM:List Expr}{scope:Scope}{pos:Pos}{it fI:Value}{env:Env}(I:Nat->Shared->Prop){T:(Bool->Shared->Prop)->Shared->Prop}
    (hT:(fM=[]/\T=λΦ s=>Φ true s)\/∃c,fM=[c]/\T=λΦ s=>wpAny (model prog w) A (isTrue c env (eval c env)) Φ (λ_ _=>False) s)
    (turn:∀n s,I n s->wpAny (model prog w) A (pyNext it) (λr s₁=>match r with
     | none=>R (.ok .next) s₁
     | some v=>wpAny (model prog w) A (letOwnedTupleGo dZ it v) (λ_ iG=>wpAny (model prog w) A (assign dZ env v) (T (λok jQ=>
         if ok=true then wpAny (model prog w) A (eval fq env) (λx s₃=>wpAny (model prog w) A (call (.builtin "list.append") [fI,x]) (λ_ s₄=>∃m,m < n/\I m s₄) (λ_ _=>False) s₃) (λ_ _=>False) jQ
         else ∃m,m < n/\I m jQ) |> λf=>λ_=>f) (λ_ _=>False) iG) (λ_ _=>False) s₁) (λ_ _=>False) s)
    (n:Nat) (h:I n s) :
    codeAny (model prog w) A (.compLoop (.ListComp fq [⟨dZ,iter,fM,0⟩] scope pos) 0 it fI env) R s:=by
 refine codeAny_loop rfl I (λn s hI=>?_) n h;show wpAny _ _ ((compTurn (.ListComp fq [⟨dZ,iter,fM,0⟩] scope pos) 0 it fI env).onRaise (λx=>do noteFrame x env;theTreesLotGoes x)) _ _ s;refine wpAny_noted ?_;rcases hT with ⟨rfl,rfl⟩ | ⟨c,rfl,rfl⟩
 . rw[compTurn_list1];refine wpAny_bind (wpAny_standAt (wpAny_bind (wpAny_mono (turn n s hI) (λr s₁ h₁=>?_) λ_ _ h'=>h'.elim)));cases r with
   | none=>exact wpAny_pure h₁
   | some v=>
    refine wpAny_bind (wpAny_mono h₁ (λ_ fU gI=>wpAny_bind (wpAny_mono gI (λ_ s₂ h₂=>?_) λ_ _ h'=>h'.elim)) λ_ _ h'=>h'.elim);have h₂:wpAny (model prog w) A (eval fq env) (λx s₃=>wpAny (model prog w) A (call (.builtin "list.append") [fI,x]) (λ_ s₄=>∃m,m < n/\I m s₄) (λ_ _=>False) s₃) (λ_ _=>False) s₂:=h₂;exact wpAny_bind (wpAny_bind (wpAny_mono h₂ (λx s₃ h₃=>wpAny_bind (wpAny_mono h₃ (λ_ s₄ h₄=>wpAny_pure (wpAny_pure ⟨U,h₄⟩)) λ_ _ h'=>h'.elim)) λ_ _ h'=>h'.elim))
 . rw[compTurn_list];refine wpAny_bind (wpAny_standAt (wpAny_bind (wpAny_mono (turn n s hI) (λr s₁ h₁=>?_) λ_ _ h'=>h'.elim)));cases r with
   | none=>exact wpAny_pure h₁
   | some v=>
    refine wpAny_bind (wpAny_mono h₁ (λ_ fU gI=>wpAny_bind (wpAny_mono gI (λ_ s₂ h₂=>wpAny_bind (wpAny_tests_one (wpAny_mono h₂ (λok s₃ h₃=>?_) λ_ _ h'=>h'.elim))) λ_ _ h'=>h'.elim)) λ_ _ h'=>h'.elim);cases ok with
    | false=>exact wpAny_pure ⟨U,h₃⟩
    | true=>
     exact wpAny_bind (wpAny_bind (wpAny_mono h₃ (λx s₄ h₄=>wpAny_bind (wpAny_mono h₄ (λ_ s₅ h₅=>wpAny_pure (wpAny_pure ⟨U,h₅⟩)) λ_ _ h'=>h'.elim)) λ_ _ h'=>h'.elim))
def YD{X:Cx}{fq:Expr}{fM:List Expr}{scope:Scope}{tc:TT}{xs:List Str}(ht:Tst X scope xs fM tc){C:Addr}{s0 s6:Shared}{H0 H6:Hp}{fp:List Addr}{pn pl:List (Addr × Obj)}{σ6:St}{G:Bool->Hp->Prop}{Φ:Bool->Shared->Prop}
    (I6:o9 (D1 X scope xs C s0 H0 fp pn) pl σ6 H6 s6) (q6:tc σ6 H6 G) (k:∀ok s H,o9 (D1 X scope xs C s0 H0 fp pn) pl σ6 H s->G ok H->Φ ok s) :
    if fM=[]then Φ true s6 else wpAny (model X.prog X.w) X.A (isTrue (fM.headD fq) (compEnvC scope (Eu X.env scope C) C X.env) (eval (fM.headD fq) (compEnvC scope (Eu X.env scope C) C X.env))) Φ (λ_ _=>False) s6:=by
 rcases ht with ⟨rfl,rfl⟩ | ⟨c,rfl,ht⟩
 . rw[if_pos rfl];exact k _ _ _ I6 q6
 . rw[if_neg (by simp)];exact I9 (ht _ _ _ _ _ _ s6 σ6 H6 _ I6 q6) λok jS ⟨oK,lJ,oY⟩=>k ok jS oK lJ oY
def Kl{X:Cx}{fq dZ iter:Expr}{fM:List Expr}{scope:Scope}{pos:Pos}{g:TG}{tc:TT}{te:TE}{xs:List Str}(hc:X.calm=true)(ok:Q2 X.N X.env.scope scope)
    (hg:∀C s H fp pn,PG (D1 X scope xs C s H fp pn) dZ g) (ht:Tst X scope xs fM tc) (he:∀C s H fp pn,PE (D1 X scope xs C s H fp pn) fq te)
    {aS:List (Addr × Obj)} {σ:St} {Q:VK} {s2:Shared} {it:Addr} {fp:List Addr} {tn:Nat->Heap->Prop} {J:It} {H2:Hp} (I2:o9 X aS σ H2 s2) (T:Md X.prog X.w X.K dZ J fp it tn) (fL:tn 0 s2.heap) (f2:∀b∈fp,Bf X aS H2 b) (h:IG J xs.length g tc te σ Q H2)
    {PO:Value->Addr->Result->Shared->Prop}
    (iU:∀D C s4 H' ys mm,s4.heap.Ns C mm->o9 X aS σ (upd H' D (.lst ys)) s4->Bf X aS H2 C->upd H' D (.lst ys) C=none->Q (.ref D) (upd H' D (.lst ys))->PO (.ref D) C (.ok .next) s4) :
    wpAny (model X.prog X.w) X.A (newList []) (λfI s₃=>wpAny (model X.prog X.w) X.A (newFunctionEnv scope X.env.globals (N7 X.env.cells scope.names []) [] X.env.qual none Value.none (some X.env)) (λoG s₄=>codeAny (model X.prog X.w) X.A (.compStart (.ListComp fq [⟨dZ,iter,fM,0⟩] scope pos) 0 (.ref it) fI { oG with scope:=relabel scope X.env }) (PO fI oG.locals) s₄) X.xe s₃) X.xe s2:=by
 obtain⟨W,⟨m0,w0⟩,turn⟩:=h;refine wpAny_newObj_type (Nl λh₁ gR gQ gS=>?_);dsimp only at gR gQ gS ⊢;generalize hD:s2.heap.objs.size=D;generalize ug:s2.heap.push { cls:=.type "list",dict:=none,data:=.seq ([]:List Value).toArray }=h3 at gR gQ gS ⊢;have pF:∀b o,s2.heap.get? b=some o->h3.get? b=some o:=λb o e=>ug▸ak _ e;have hC:h3.objs.size=D+1:=by rw[<- ug,bu,hD]
 have eD3:h3.get? D=some { cls:=.type "list",dict:=none,data:=.seq ([]:List Value).toArray }:=by
  rw[<- ug,<- hD];exact ay _ rfl
 have I3:o9 X aS σ H2 { s2 with heap:=h3 }:=I2.kept (t':=s2.toks) pF;have fD:Bf X aS H2 D:=I2.fpOk Y (I2.hok.fresh Y);have rQ:∀b∈fp,b < D:=λb hb=>by
  obtain⟨o,e,_⟩:=T.obj 0 _ fL b hb;rw[<- hD];exact ao e
 have f3:∀b∈D::fp,Bf X aS H2 b:=λb hb=>by
  rcases aD.mp hb with rfl | hb
  . exact fD
  . exact f2 b hb
 have nG:∀b∈D::fp,b < ({ s2 with heap:=h3 }:Shared).heap.objs.size:=λb hb=>by
  show b < h3.objs.size;rcases aD.mp hb with rfl | hb
  . rw[hC];exact ck _
  . rw[hC];exact Nat.lt_succ_of_lt (rQ b hb)
 have pE:∀b o,h3.get? b=some o->h₁.get? b=some o:=gQ;have mQ:=Rq (C:=h3.objs.size) (xs:=xs) I3 ok f3 nG (ae _);have I4:=Qi (C:=h3.objs.size) (xs:=xs) (t':=s2.toks+([]:List (Str × Value)).length) I3 ok f3 nG (ae _) gR pE gS;have mD:D∈D::fp:=aF;have jx:∀b∈D::fp,b≠h3.objs.size:=λb hb=>(mQ.exf b hb).1;have gM:∀{H':Hp} {pl:List (Addr × Obj)},(∀b∈fp,H' b=none)->(∀p∈pl,p.1=D)->∀b∈fp,Bf (D1 X scope xs h3.objs.size { s2 with heap:=h3 } H2 (D::fp) (X.pn++aS)) pl H' b:=λhn fV b hb=>by
  have ia:b∈D::fp:=aC _ hb;refine⟨hn b hb,jx b ia,mQ.exfs b ia,.inl ia,(mQ.exf b ia).2,λp hp=>?_⟩;rcases aH.mp hp with hp | hp
  . exact(f2 b hb).2.2.2.2.2 p hp
  . rw[fV p hp];exact bT (rQ b hb)
 have nj:codeAny (model X.prog X.w) X.A (.compLoop (.ListComp fq [⟨dZ,iter,fM,0⟩] scope pos) 0 (.ref it) (.ref D) (compEnvC scope (Eu X.env scope h3.objs.size) h3.objs.size X.env))
     (PO (.ref D) h3.objs.size) { s2 with heap:=h₁,toks:=s2.toks+([]:List (Str × Value)).length }:=by
  refine Qj (T:=λΦ s=>if fM=[]then Φ true s else wpAny (model X.prog X.w) X.A (isTrue (fM.headD fq) (compEnvC scope (Eu X.env scope h3.objs.size) h3.objs.size X.env) (eval (fM.headD fq) (compEnvC scope (Eu X.env scope h3.objs.size) h3.objs.size X.env))) Φ (λ_ _=>False) s) (λn s'=>∃i ys its k H',o9 (D1 X scope xs h3.objs.size { s2 with heap:=h3 } H2 (D::fp) (X.pn++aS)) [] (σ++List.replicate xs.length none) H' s'/\
   s'.heap.get? D=some { cls:=.type "list",data:=.seq (its:List Value).toArray k }/\x8 ys its/\H' D=none/\tn i s'.heap/\(∀b∈fp,H' b=none)/\W i n ys H') ?hT ?_ m0
   ⟨0,[],[],_,H2,I4,pE _ _ eD3,.nil,fD.1,T.keep _ _ _ fL (λb _ o e=>pE b o (pF b o e)),λb hb=>(f2 b hb).1,w0⟩
  case hT=>
   rcases ht with ⟨rfl,_⟩ | ⟨c,rfl,_⟩
   . exact .inl ⟨U,by funext Φ s;exact if_pos U⟩
   . exact .inr ⟨c,U,by funext Φ s;exact if_neg (by simp)⟩
  rintro n s' ⟨i,ys,its,k,H',I',eD,rv,nD,st,fr,w⟩;have Ip:=I'.pins_of (pins':=[(D,{ cls:=.type "list",data:=.seq its.toArray k })]) λp hp=>by
   rw[ax]at hp;subst hp;exact⟨eD,nD,jx D mD,mQ.exfs D mD,λv z=>by cases z⟩
  have one:∀p∈[(D,({ cls:=.type "list",data:=.seq its.toArray k }:Obj))],p.1=D:=λp hp=>by rw[ax]at hp;rw[hp]
  rcases turn i n ys H' w with ⟨stop,hz,q⟩ | ⟨go,hz,step⟩
  . refine I9 (T.done (D1 X scope xs h3.objs.size { s2 with heap:=h3 } H2 (D::fp) (X.pn++aS)) U U U hc i _ s' _ H' (λ_ _=>False) Ip (gM fr one) st stop) λr s4 ⟨hr,J4⟩=>?_;subst hr;obtain⟨mm,nO,_⟩:=J4.loc;obtain⟨eD4,rP,_⟩:=J4.pin (D,{ cls:=.type "list",data:=.seq its.toArray k }) (aP _ aF);have u0:Un (Hi X.stack) (D::fp) H2 H' h3 s4.heap:=J4.base;have u:Un (Hi X.stack) (D::fp) H2 H' s2.heap s4.heap:=(Un.kept pF).trans u0;have os4:s4.os=s2.os:=J4.os;have nC4:H' h3.objs.size=none:=J4.free;have IX:o9 X aS σ (upd H' D (.lst ys)) s4:=I2.call' (s':=s4) (ch:=D::fp) os4 (u.track Y rP) (J4.hok.track rP ⟨hz,its,k,rv,eD4⟩) J4.bare (λb hb=>by
     have z:=f3 b hb;exact⟨z.2.2.2.1,z.2.1,z.2.2.2.2.1,z.2.2.2.2.2⟩)
    have fC:Bf X aS H2 h3.objs.size:=I2.fpOk Y (I2.hok.fresh Y);have ni:upd H' D (.lst ys) h3.objs.size=none:=by rw[l6 (Ne.symm (jx D mD))];exact nC4
    exact iU _ _ _ _ _ _ nO IX fC ni (q D rP)
  . refine I9 (T.item (D1 X scope xs h3.objs.size { s2 with heap:=h3 } H2 (D::fp) (X.pn++aS)) U U U hc i _ s' _ H' (λ_ _=>False) Ip (gM fr one) st go) λr s4 ⟨u,hr,h4⟩=>?_;subst hr;refine I9 h4 λ_ s5 ⟨x,H5,I5,r5,y5,jq,fr5⟩=>?_;have uN:=I5.pinned (gM fr5 one) (T.obj _ _ jq);refine I9 (hg _ _ _ _ _ _ s5 _ H5 x u _ uN r5 (step x H5 y5)) λ_ s6 ⟨σ6,H6,I6,⟨zs,hz6,hl6⟩,q6⟩=>?_;have jt:∀{s7:Shared} {σ7:St} {H7:Hp},o9 (D1 X scope xs h3.objs.size { s2 with heap:=h3 } H2 (D::fp) (X.pn++aS)) ([(D,{ cls:=.type "list",data:=.seq its.toArray k })]++HG fp s5.heap) σ7 H7 s7->∀b∈fp,∀o,s5.heap.get? b=some o->s7.heap.get? b=some o/\H7 b=none:=λI7 b hb o e=>
     ⟨(I7.pin (b,o) (aP _ (aP _ (Bx hb e)))).1,(I7.pin (b,o) (aP _ (aP _ (Bx hb e)))).2.1⟩
    have back:∀{H7:Hp} {s7:Shared},o9 (D1 X scope xs h3.objs.size { s2 with heap:=h3 } H2 (D::fp) (X.pn++aS)) [] σ6 H7 s7->o9 (D1 X scope xs h3.objs.size { s2 with heap:=h3 } H2 (D::fp) (X.pn++aS)) [] (σ++List.replicate xs.length none) H7 s7:=λI8=>
     I8.weak (by rw[hz6,aq,aq,dm,hl6]) (λj v' e=>by
      have hj:j < σ.length:=by
       by_cases hj:j < σ.length
       . exact hj
       . rw[ba Y,dM]at e;split at e <;>cases e
      rw[aW hj]at e;rw[hz6,aW hj];exact e)
    refine YD ht I6 q6 λok jS oK lJ oY=>?_;cases ok with
    | false=>
     obtain⟨m',fK,w7⟩:=(show ∃m',m' < n/\W (i+1) m' ys oK from oY);obtain⟨oE,pB,_⟩:=lJ.pin (D,{ cls:=.type "list",data:=.seq its.toArray k }) (aP _ (bC _ aF));refine⟨m',fK,i+1,ys,its,_,oK,back (lJ.pins_of (pins':=[]) λp hp=>by cases hp),oE,rv,pB,T.keep _ _ _ jq (λb hb o e=>(jt lJ b hb o e).1),λb hb=>?_,w7⟩;obtain⟨o,e,_⟩:=T.obj _ _ jq b hb;exact(jt lJ b hb o e).2
    | true=>
     refine I9 (he _ _ _ _ _ _ jS σ6 oK _ lJ oY) λxv s7 ⟨v,H7,I7,r7,m',fK,w7⟩=>?_;obtain⟨oE,pB,_⟩:=I7.pin (D,{ cls:=.type "list",data:=.seq its.toArray k }) (aP _ (bC _ aF));have len:=rv.length;refine call_meets F.slot_list_append ⟨_,oE,U⟩ F.entry_list_append (F.args_list_append_2 _ _) (PySem.list_append D its.toArray k xv (by rw[au];omega)) ⟨oE,?_⟩;have q:=PySem.IsL.update oE (λa=>a.push xv);have eH:∀b o,b≠D->s7.heap.get? b=some o->(s7.heap.update D (Obj.mapSeq λa=>a.push xv)).get? b=some o:=λb o hb e=>(dS s7.heap _ (Ne.symm hb)).trans e;have I7':=I7.pins_of (pins':=[]) λp hp=>by cases hp
     have I8:=I7'.turned (t':=s7.toks) (it:=D) eH pB (jx D mD) (.inl mD) (mQ.exf D mD).2 (λp hp=>by
      rw[bI]at hp;exact fD.2.2.2.2.2 p hp)
     have e9:its.toArray.push xv=(its++[xv]).toArray:=by simp
     rw[e9]at q;refine⟨m',fK,i+1,ys++[v],its++[xv],_,H7,back I8,q,rv.append (.cons r7 .nil),pB,T.keep _ _ _ jq (λb hb o e=>eH b o (aB (rQ b hb)) (jt I7 b hb o e).1),λb hb=>?_,w7⟩;obtain⟨o,e,_⟩:=T.obj _ _ jq b hb;exact(jt I7 b hb o e).2
 exact codeAny_compStart_list nj (T.self _ 0 _ _ _ (T.keep _ _ _ fL λb _ o e=>pE b o (pF b o e)) nj)
def MY{X:Cx}{fq dZ iter:Expr}{fM:List Expr}{scope:Scope}{pos:Pos}{wi:TI}{g:TG}{tc:TT}{te:TE}{xs:List Str}(hc:X.calm=true)(ok:Q2 X.N X.env.scope scope)(hi:PI X dZ iter wi)
    (hg:∀C s H fp pn,PG (D1 X scope xs C s H fp pn) dZ g) (ht:Tst X scope xs fM tc) (he:∀C s H fp pn,PE (D1 X scope xs C s H fp pn) fq te)
    (hs:∀x,foldedSetIterable iter X.env x=pure x):PE X (.ListComp fq [⟨dZ,iter,fM,0⟩] scope pos) (EF xs.length wi g tc te):=by
 intro aS s σ H Q I h;rw[eval_ListComp];refine wpAny_comprehension_free (use:=none) rfl hs (CQ (Dg I ok)) ok.kind ok.names (I9 (hi aS s σ H _ I h) λv s1 h1=>I9 h1 λpH s2 h2=>?_);obtain⟨it,fp,tn,J,H2,rfl,I2,T,fL,f2,h⟩:=h2;refine Kl hc ok hg ht he I2 T fL f2 h (PO:=λfI C=>compPost (model X.prog X.w) X.A X.xe none (EP X aS σ Q) fI C) λD C s4 H' ys mm nO IX fC ni q=>⟨mm,nO,λh' sb=>?_⟩;exact⟨.ref D,_,IX.turned (t':=s4.toks) (it:=C) (λb o hb e=>sb.extBut b o hb e) ni fC.2.1 fC.2.2.2.1 fC.2.2.2.2.1 fC.2.2.2.2.2,U,q⟩
def w5{X:Cx}{fq dZ iter:Expr}{scope:Scope}{pos:Pos}{wi:TI}{g:TG}{te:TE}{xs:List Str}(hc:X.calm=true)(ok:Q2 X.N X.env.scope scope)(hi:PI X dZ iter wi)
    (hg:∀{C s H fp pn},PG (D1 X scope xs C s H fp pn) dZ g) (he:∀{C s H fp pn},PE (D1 X scope xs C s H fp pn) fq te)
    (hs:∀x,foldedSetIterable iter X.env x=pure x:=by intro _;rfl):PE X (.ListComp fq [⟨dZ,iter,[],0⟩] scope pos) (Tw xs.length wi g te):=NZ▸MY hc ok hi (λ_ _ _ _ _=>hg) (.inl ⟨U,U⟩) (λ_ _ _ _ _=>he) hs
abbrev Cx.rn(X:Cx)(i:Nat)(y:Str):Cx:={ X with N:=X.N.set i y }
section
variable{X:Cx}{aS:List (Addr × Obj)}{σ:St}{H:Hp}{s:Shared}{i:Nat}{y:Str}
theorem o9.rn(I:o9 X aS σ H s)(h:σ[i]? = some none):o9 (X.rn i y) aS σ H s:=
 ⟨⟨I.ok.mod,I.ok.kind,I.ok.glob,I.ok.blt,I.ok.above,I.ok.inj,I.ok.has,I.ok.cab,I.ok.hd,I.ok.frames,I.ok.stk,I.ok.exf,I.ok.bs,I.ok.bsz,I.ok.noex,I.ok.exfs,I.ok.funs,I.ok.frf⟩,I.os,I.bare,I.base,
  let⟨m,hn,hl⟩:=I.loc;⟨m,hn,λj x v e1 e2 e3=>by
   by_cases z:i=j
   . subst z;rw[h]at e2;cases e2
   . exact hl j x v (by rw[<- e1];exact(bL z).symm) e2 e3⟩,I.cell,I.free,I.freeC,I.pin,I.hok,by rw[I.len];exact bJ.symm⟩
def o9.unrn(ok:X.Ok)(I:o9 (X.rn i y) aS σ H s)(h:σ[i]? = some none):o9 X aS σ H s:=
 ⟨ok,I.os,I.bare,I.base,let⟨m,hn,hl⟩:=I.loc;⟨m,hn,λj x v e1 e2 e3=>by
     by_cases z:i=j
     . subst z;rw[h]at e2;cases e2
     . exact hl j x v (by rw[<- e1];exact bL z) e2 e3⟩,I.cell,I.free,I.freeC,I.pin,I.hok,by rw[I.len];exact bJ⟩
def Hg(i:Nat)(y:Str)(h:PE (X.rn i y) e t):PE X e (λσ H Q=>σ[i]? = some none/\t σ H Q):=by
 intro aS s σ H Q I ⟨hi,q⟩;exact I9 (h aS s σ H Q (I.rn hi) q) λv s1 ⟨x,H1,I1,r,q1⟩=>⟨x,H1,I1.unrn I.ok hi,r,q1⟩
end
def Si{X:Cx}{fq dZ iter c:Expr}{scope:Scope}{pos:Pos}{wi:TI}{g:TG}{tc:TT}{te:TE}{xs:List Str}(hc:X.calm=true)(ok:Q2 X.N X.env.scope scope)(hi:PI X dZ iter wi)
    (hg:∀{C s H fp pn},PG (D1 X scope xs C s H fp pn) dZ g) (ht:∀{C s H fp pn},PT (D1 X scope xs C s H fp pn) c tc) (he:∀{C s H fp pn},PE (D1 X scope xs C s H fp pn) fq te)
    (hs:∀x,foldedSetIterable iter X.env x=pure x:=by intro _;rfl):PE X (.ListComp fq [⟨dZ,iter,[c],0⟩] scope pos) (EF xs.length wi g tc te):=MY hc ok hi (λ_ _ _ _ _=>hg) (.inr ⟨c,U,(λ_ _ _ _ _=>ht)⟩) (λ_ _ _ _ _=>he) hs
def QJ{X:Cx}{i₀:Nat}{x₀:Str}{eW fy:Pos}{fq dZ iter:Expr}{fM:List Expr}{scope:Scope}{pos:Pos}{wi:TI}{g:TG}{tc:TT}{te:TE}{xs:List Str}(hN:X.N.Nodup)(gx:X.N[i₀]? = some x₀)(gu:b0t X.env.scope x₀)(hc:X.calm=true)(ok:Q2 X.N X.env.scope scope)(hi:PI X dZ iter wi)
    (hg:∀C s H fp pn,PG (D1 X scope xs C s H fp pn) dZ g) (ht:Tst X scope xs fM tc) (he:∀C s H fp pn,PE (D1 X scope xs C s H fp pn) fq te)
    (hs:∀x,foldedSetIterable iter X.env x=pure x) (hw:swapsWith (.ListComp fq [⟨dZ,iter,fM,0⟩] scope pos) (some (.Name x₀ eW)) fy.line X.env=pure true)
    (gy:X.fn x₀=true\/X.env.scope.names.lookup x₀=some .local) :
    PS X (.Assign [.Name x₀ eW] (.ListComp fq [⟨dZ,iter,fM,0⟩] scope pos) fy) (KH (EF xs.length wi g tc te) (L3 i₀)):=by
 intro aS s σ H D₀ I h;rw[exec_Assign_Name_used _ _ _ _ hw];refine wpAny_bind (wpAny_standAt (wpAny_bind ?_));show wpAny _ _ (comprehension _ _ _ _ _ _ _ _ >>= _) _ _ _;refine wpAny_bind (wpAny_comprehension_free (Q:=λ_ s'=>wpAny (model X.prog X.w) X.A (pure ()) (λ_ iH=>wpAny (model X.prog X.w) X.A (pure Flow.next) (SP X aS D₀) X.xe iH) X.xe s') (use:=some (assign (.Name x₀ eW) X.env)) U hs (CQ (Dg I ok)) ok.kind ok.names (I9 (hi aS s σ H _ I h) λv s1 h1=>I9 h1 λpH s2 h2=>?_));obtain⟨it,fp,tn,J,H2,rfl,I2,T,fL,f2,h⟩:=h2;refine Kl hc ok hg ht he I2 T fL f2 h (PO:=λfI C=>compPost (model X.prog X.w) X.A X.xe (some (assign (.Name x₀ eW) X.env)) (λ_ s'=>wpAny (model X.prog X.w) X.A (pure ()) (λ_ iH=>wpAny (model X.prog X.w) X.A (pure Flow.next) (SP X aS D₀) X.xe iH) X.xe s') fI C) λD C s4 H' ys mm nO IX fC ni q=>?_;refine wpAny_assign_Name (JQ IX hN gx gu (v:=.ref D) U (λs5 I5 ⟨a5,sb5,lA⟩=>⟨mm,?_,λh' sb=>?_⟩) gy)
 . have:C≠a5:=by
    rcases lA with e | e
    . rw[e];exact fC.2.1
    . exact Ne.symm (fC.2.2.2.2.1 x₀ a5 e)
   obtain⟨o,es,ep,e,r⟩:=nO;exact⟨o,es,ep,sb5.extBut _ _ this e,r⟩
 . exact wpAny_pure (wpAny_pure ⟨_,_,I5.turned (t':=s5.toks) (it:=C) (λb o hb e=>sb.extBut b o hb e) ni fC.2.1 fC.2.2.2.1 fC.2.2.2.2.1 fC.2.2.2.2.2,q⟩)
def V3{X:Cx}{i₀:Nat}{x₀:Str}{eW fy:Pos}{fq dZ iter:Expr}{scope:Scope}{pos:Pos}{wi:TI}{g:TG}{te:TE}{xs:List Str}(hN:X.N.Nodup)(gx:X.N[i₀]? = some x₀)(gu:b0t X.env.scope x₀)(hc:X.calm=true)(ok:Q2 X.N X.env.scope scope)(hi:PI X dZ iter wi)
    (hg:∀{C s H fp pn},PG (D1 X scope xs C s H fp pn) dZ g) (he:∀{C s H fp pn},PE (D1 X scope xs C s H fp pn) fq te)
    (hs:∀x,foldedSetIterable iter X.env x=pure x:=by intro _;rfl) (hw:swapsWith (.ListComp fq [⟨dZ,iter,[],0⟩] scope pos) (some (.Name x₀ eW)) fy.line X.env=pure true:=by rfl)
    (gy:X.fn x₀=true\/X.env.scope.names.lookup x₀=some .local:=by first | exact .inl rfl | exact .inr rfl | assumption) :
    PS X (.Assign [.Name x₀ eW] (.ListComp fq [⟨dZ,iter,[],0⟩] scope pos) fy) (KH (Tw xs.length wi g te) (L3 i₀)):=NZ▸QJ hN gx gu hc ok hi (λ_ _ _ _ _=>hg) (.inl ⟨U,U⟩) (λ_ _ _ _ _=>he) hs hw gy
def Us{X:Cx}{i₀:Nat}{x₀:Str}{eW fy:Pos}{fq dZ iter c:Expr}{scope:Scope}{pos:Pos}{wi:TI}{g:TG}{tc:TT}{te:TE}{xs:List Str}(hN:X.N.Nodup)(gx:X.N[i₀]? = some x₀)(gu:b0t X.env.scope x₀)(hc:X.calm=true)(ok:Q2 X.N X.env.scope scope)(hi:PI X dZ iter wi)
    (hg:∀{C s H fp pn},PG (D1 X scope xs C s H fp pn) dZ g) (ht:∀{C s H fp pn},PT (D1 X scope xs C s H fp pn) c tc) (he:∀{C s H fp pn},PE (D1 X scope xs C s H fp pn) fq te)
    (hs:∀x,foldedSetIterable iter X.env x=pure x:=by intro _;rfl) (hw:swapsWith (.ListComp fq [⟨dZ,iter,[c],0⟩] scope pos) (some (.Name x₀ eW)) fy.line X.env=pure true:=by rfl)
    (gy:X.fn x₀=true\/X.env.scope.names.lookup x₀=some .local:=by first | exact .inl rfl | exact .inr rfl | assumption) :
    PS X (.Assign [.Name x₀ eW] (.ListComp fq [⟨dZ,iter,[c],0⟩] scope pos) fy) (KH (EF xs.length wi g tc te) (L3 i₀)):=QJ hN gx gu hc ok hi (λ_ _ _ _ _=>hg) (.inr ⟨c,U,(λ_ _ _ _ _=>ht)⟩) (λ_ _ _ _ _=>he) hs hw gy
def HE{X:Cx}{st:Stmt}{te:TE}{i₀:Nat}(i:Nat)(y:Str)(hi:i₀≠i)(h:PS (X.rn i y) st (KH te (L3 i₀))):PS X st (λD σ H=>σ[i]? = some none/\KH te (L3 i₀) D σ H):=by
 intro aS s σ H D I ⟨h0,q⟩;have e:(λv H1=>(σ.set i₀ (some v))[i]? = some none/\D.nx (σ.set i₀ (some v)) H1)=λv H1=>D.nx (σ.set i₀ (some v)) H1:=by
  funext v H1;exact propext ⟨λz=>z.2,λz=>⟨by rw[bL hi];exact h0,z⟩⟩
 have q':KH te (L3 i₀) { D with nx:=λσ' H'=>σ'[i]? = some none/\D.nx σ' H',rt:=λ_ _=>False,bk:=λ_ _=>False,ct:=λ_ _=>False } σ H:=by
  show te σ H λv H1=>(σ.set i₀ (some v))[i]? = some none/\D.nx (σ.set i₀ (some v)) H1;rw[e];exact q
 refine I9 (h aS s σ H _ (I.rn h0) q') λf s1 sp=>?_;cases f with
 | next=>
  obtain⟨σ',H',I',z,n⟩:=sp;exact⟨σ',H',I'.unrn I.ok z,n⟩
 | ret v=>obtain⟨_,_,_,_,_,z⟩:=sp;exact z.elim
 | brk=>obtain⟨_,_,_,z⟩:=sp;exact z.elim
 | cont=>obtain⟨_,_,_,z⟩:=sp;exact z.elim
section
variable{prog:Program}{w:World}{A:Around}{E:Value->Shared->Prop}{s:Shared}
def Pl{I t:Addr}{i:Nat}{vs:Array Value}{x:Value}{Q:Value->Shared->Prop}(hI:s.heap.IsTupleIter I t i)(ht:s.heap.IsTuple t vs)(e:vs[i]? = some x)
    (q:∀h',h'.IsTupleIter I t (i+1)->Heap.SameBut I s.heap h'->Q x { s with heap:=h' }):wpAny (model prog w) A (Builtin.SmallTypes.nextOf (.ref I)) Q E s:=by
 obtain⟨o,eo,co,fo⟩:=id hI;obtain⟨u,eu,_,n,fu⟩:=ht;unfold Builtin.SmallTypes.nextOf;refine wpAny_bind (wpAny_callSpecial?_slot (name:=Str.ofString "__next__") hI.typeIs F.slot_tuple_iterator_next (wpAny_call_entry F.slot_tuple_iterator_next hI.typeIs F.entry_tuple_iterator_next ?_ (F.args_tuple_iterator_next_1 _)));show wpAny _ _ (field (.ref I) 0 >>= _) _ _ s;refine wpAny_bind (wpAny_field eo fo (x:=.ref t) U ?_);show wpAny _ _ (if(Value.ref t == Value.none)=true then _ else _) _ _ s;rw[if_neg (show ¬((Value.ref t == Value.none)=true)from aO)];show wpAny _ _ (field (.ref I) 1 >>= _) _ _ s;refine wpAny_bind (wpAny_field eo fo (x:=.int i 0) U ?_);show wpAny _ _ (seqItems? (.ref t) >>= _) _ _ s;refine wpAny_bind (wpAny_seqItems eu fu ?_);simp only[Int.toNat_natCast,e];refine wpAny_bind (wpAny_setField eo fo (by simp) (wpAny_pure ⟨x,U,wpAny_pure (q _ ?_ (Heap.SameBut.update ..))⟩));exact⟨_,du _ eo (Obj.isFreed_of_fields (Obj.data_mapFields fo _)),(Obj.cls_mapFields ..).trans co,by rw[Obj.data_mapFields fo];simp[rawInt]⟩
def Sl{I t:Addr}{i:Nat}{vs:Array Value}{Q:Value->Shared->Prop}(hh:A.handled=none)(hI:s.heap.IsTupleIter I t i)(ht:s.heap.IsTuple t vs)(e:vs[i]? = none)
    (q:∀h' x,Heap.ExtBut I s.heap h'->(∃o,h'.get? x=some o/\o.cls=.type "StopIteration")->E (.ref x) { s with heap:=h' }):wpAny (model prog w) A (Builtin.SmallTypes.nextOf (.ref I)) Q E s:=by
 obtain⟨o,eo,co,fo⟩:=id hI;obtain⟨u,eu,_,n,fu⟩:=ht;unfold Builtin.SmallTypes.nextOf;refine wpAny_bind (wpAny_callSpecial?_slot (name:=Str.ofString "__next__") hI.typeIs F.slot_tuple_iterator_next (wpAny_call_entry F.slot_tuple_iterator_next hI.typeIs F.entry_tuple_iterator_next ?_ (F.args_tuple_iterator_next_1 _)));show wpAny _ _ (field (.ref I) 0 >>= _) _ _ s;refine wpAny_bind (wpAny_field eo fo (x:=.ref t) U ?_);show wpAny _ _ (if(Value.ref t == Value.none)=true then _ else _) _ _ s;rw[if_neg (show ¬((Value.ref t == Value.none)=true)from aO)];show wpAny _ _ (field (.ref I) 1 >>= _) _ _ s;refine wpAny_bind (wpAny_field eo fo (x:=.int i 0) U ?_);show wpAny _ _ (seqItems? (.ref t) >>= _) _ _ s;refine wpAny_bind (wpAny_seqItems eu fu ?_);simp only[Int.toNat_natCast,e];refine wpAny_bind (wpAny_rule (wpAny_bind (wpAny_setField eo fo (by simp) ?_)));show wpAny _ _ (newExc (.type "StopIteration") [] >>= _) _ _ _;refine wpAny_bind ?_;simp only[newExc,newTuple];refine wpAny_bind (wpAny_newObj_type ?_ (by size_fits));refine wpAny_bind (m:=firstArgMember _ _) (wpAny_of_eq (a:=Value.none) (by first | rfl | (simp only[firstArgMember];rfl)) ?_);refine wpAny_newObj_type ?_ (by size_fits);simp only[raiseNew];refine wpAny_bind (wpAny_handled ?_)
 first | rw[show A.in1.handled=none from hh] | rw[hh]
 refine wpAny_bind (wpAny_pure (wpAny_throw ?_));exact q _ _ (((Heap.SameBut.update ..).extBut.push _).push _) ⟨_,ay _ rfl,rfl⟩
end
inductive Sr
 | lst (a:Addr)
 | tup (a:Addr)
 | str (x:Str)
def Sr.it:Sr->Heap->Addr->Nat->Prop
 | .lst a,h,I,i=>h.IsListIter I a i
 | .tup a,h,I,i=>h.IsTupleIter I a i
 | .str x,h,I,i=>∃t,h.IsStrIter I (strIterType x) x t i
def Sr.has:Sr->Heap->Array Value->Prop
 | .lst a,h,vs=>h.IsList a vs
 | .tup a,h,vs=>h.IsTuple a vs
 | .str x,_,vs=>vs.size=x.cps.size
def Sr.is:Sr->Array Value->Nat->Value->Prop
 | .lst _,vs,i,v=>vs[i]? = some v
 | .tup _,vs,i,v=>vs[i]? = some v
 | .str x,_,i,v=>∃c u,x.cps[i]? = some c/\v=.str ⟨#[c]⟩ u
def Sr.fp:Sr->Addr->List Addr
 | .lst a,I=>[I,a]
 | .tup a,I=>[I,a]
 | .str _,I=>[I]
def Sr.off:Sr->Addr->Prop
 | .lst a,I=>a≠I
 | .tup a,I=>a≠I
 | .str _,_=>True
def Sr.it.mv{S:Sr}{h h':Heap}{I:Addr}{i:Nat}(x:S.it h I i)(k:∀o,h.get? I=some o->h'.get? I=some o):S.it h' I i:=by
 cases S with
 | lst a=>obtain⟨o,e,r⟩:=x;exact⟨o,k o e,r⟩
 | tup a=>obtain⟨o,e,r⟩:=x;exact⟨o,k o e,r⟩
 | str z=>obtain⟨t,o,e,r⟩:=x;exact⟨t,o,k o e,r⟩
def Sr.it.obj{S:Sr}{h:Heap}{I:Addr}{i:Nat}(x:S.it h I i):∃o,h.get? I=some o/\∀v,o.data≠.cell v:=by
 cases S with
 | lst a=>obtain⟨o,e,_,d⟩:=x;exact⟨o,e,λv z=>by rw[d]at z;cases z⟩
 | tup a=>obtain⟨o,e,_,d⟩:=x;exact⟨o,e,λv z=>by rw[d]at z;cases z⟩
 | str z=>obtain⟨t,o,e,_,d⟩:=x;exact⟨o,e,λv z=>by rw[d]at z;cases z⟩
def Sr.has.mv{S:Sr}{h h':Heap}{vs:Array Value}{I:Addr}(x:S.has h vs)(k:∀b o,b≠I->h.get? b=some o->h'.get? b=some o)(off:S.off I):S.has h' vs:=by
 cases S with
 | lst a=>obtain⟨o,e,r⟩:=x;exact⟨o,k a o off e,r⟩
 | tup a=>obtain⟨o,e,r⟩:=x;exact⟨o,k a o off e,r⟩
 | str z=>exact x
def Sr.draws(S:Sr)(hh:A.handled=none)(I:Addr)(off:S.off I)(vs:Array Value) :
    Draws prog w A I (S.fp I) vs.size (S.is vs) (λi h=>S.it h I i/\S.has h vs):=by
 cases S with
 | lst a=>exact Draws.list hh I a off vs
 | tup a=>exact{
     live:=λ_ _ st=>let⟨o,e,_⟩:=st.1;⟨o,e⟩
     frame:=λ_ _ _ st k=>⟨let⟨o,e,r⟩:=st.1;⟨o,k I (by simp[Sr.fp]) o e,r⟩,let⟨o,e,r⟩:=st.2;⟨o,k a (by simp[Sr.fp]) o e,r⟩⟩
     item:=λi s Q E hi st q=>Pl st.1 st.2 (x:=vs[i]) (by simp[hi]) λh' a' b'=>q _ h' s.toks (show vs[i]? = some vs[i] by simp[hi]) ⟨a',Heap.IsTuple.extBut st.2 b'.extBut off⟩ b'
     done:=λs Q E st q=>Sl hh st.1 st.2 (by simp) q }
 | str x=>
  cases ha:x.cps.all (· < 128)with
  | true=>
   have e:strIterType x="str_ascii_iterator":=by simp[strIterType,ha]
   exact{
    live:=λ_ _ st=>let⟨_,o,e,_⟩:=st.1;⟨o,e⟩
    frame:=λ_ _ _ st k=>⟨let⟨t,o,e,r⟩:=st.1;⟨t,o,k I (by simp[Sr.fp]) o e,r⟩,st.2⟩
    item:=λi s Q E hi st q=>by
     obtain⟨⟨t,g⟩,z⟩:=st;have hz:vs.size=x.cps.size:=z;rw[e]at g;exact(Draws.strAscii (prog:=prog) (w:=w) hh I x t).item i s Q E Y g λv h' tk p dY sb=>q v h' tk p ⟨⟨t,by rw[e];exact dY⟩,z⟩ sb
    done:=λs Q E st q=>by
     obtain⟨⟨t,g⟩,z⟩:=st;have hz:vs.size=x.cps.size:=z;rw[e,hz]at g;exact(Draws.strAscii (prog:=prog) (w:=w) hh I x t).done s Q E g q }
  | false=>
   have e:strIterType x="str_iterator":=by simp[strIterType,ha]
   exact{
    live:=λ_ _ st=>let⟨_,o,e,_⟩:=st.1;⟨o,e⟩
    frame:=λ_ _ _ st k=>⟨let⟨t,o,e,r⟩:=st.1;⟨t,o,k I (by simp[Sr.fp]) o e,r⟩,st.2⟩
    item:=λi s Q E hi st q=>by
     obtain⟨⟨t,g⟩,z⟩:=st;have hz:vs.size=x.cps.size:=z;rw[e]at g;exact(Draws.strWide (prog:=prog) (w:=w) hh I x t).item i s Q E Y g λv h' tk p dY sb=>q v h' tk p ⟨⟨t,by rw[e];exact dY⟩,z⟩ sb
    done:=λs Q E st q=>by
     obtain⟨⟨t,g⟩,z⟩:=st;have hz:vs.size=x.cps.size:=z;rw[e,hz]at g;exact(Draws.strWide (prog:=prog) (w:=w) hh I x t).done s Q E g q }
structure ZA(S1 S2:Sr)(z TI TO i1 i2:Addr):Prop where
 a:TI≠z
 b:TO≠z
 c:i1≠z
 d:i2≠z
 e:TI≠TO
 f:TI≠i1
 g:TI≠i2
 h:TO≠i1
 i:TO≠i2
 j:i1≠i2
 k:∀x∈[z,TO,i1,i2],S1.off x/\S2.off x
structure ZS(S1 S2:Sr)(v1 v2:Array Value)(z TI TO i1 i2:Addr)(n:Nat)(u:Value)(h:Heap):Prop where
 z:IsZip h z TI TO u
 ti:IsPair h TI (.ref i1) (.ref i2)
 to:∃x y,IsPair h TO x y
 s1:S1.it h i1 n
 s2:S2.it h i2 n
 h1:S1.has h v1
 h2:S2.has h v2
section
variable{prog:Program}{w:World}{A:Around}{E:Value->Shared->Prop}{s:Shared}{S1 S2:Sr}{v1 v2:Array Value}{z TI TO i1 i2:Addr}{n:Nat}
def Tc(D:ZA S1 S2 z TI TO i1 i2)(hh:A.handled=none)(a1d:ZS S1 S2 v1 v2 z TI TO i1 i2 n .none s.heap)(l1:n < v1.size)(l2:n < v2.size){Q:Value->Shared->Prop}
    (q:∀x y h' tk,S1.is v1 n x->S2.is v2 n y->ZS S1 S2 v1 v2 z TI TO i1 i2 (n+1) (rawInt s.heap.objs.size) h'->IsPair h' s.heap.objs.size x y->h'.objs.size=s.heap.objs.size+1->
     (∀c o,c≠z->c≠TO->c≠i1->c≠i2->s.heap.get? c=some o->h'.get? c=some o)->Q (.ref s.heap.objs.size) { s with heap:=h',toks:=tk }) :
    wpAny (model prog w) A (Builtin.«zip.__next__» ⟨[.ref z],[]⟩) (λfin s'=>∃v,fin=.done (.ret v)/\Q v s') E s:=by
 obtain⟨hp,g0,d0,uV,os0⟩:=s;obtain⟨Zz,Zi,⟨x0,y0,Zo⟩,Z1,Z2,Y1,Y2⟩:=a1d;have oz:=D.k z (by simp);have oT:=D.k TO (by simp);have o1:=D.k i1 (by simp);have o2:=D.k i2 (by simp);show wpAny _ _ (field (.ref z) 2 >>= _) _ _ _;refine wpAny_bind (wpAny_field Zz U (x:=.bool false) U ?_);show wpAny _ _ (field (.ref z) 3 >>= _) _ _ _;refine wpAny_bind (wpAny_field Zz U (x:=.ref TI) U ?_);refine wpAny_bind (wpAny_seqItems Zi U ?_);show wpAny _ _ (Builtin.SmallTypes.ownedTupleIsFree (.ref z) >>= _) _ _ _;refine wpAny_bind ?_;unfold Builtin.SmallTypes.ownedTupleIsFree;refine wpAny_bind (wpAny_field Zz U (x:=.none) U (wpAny_pure ?_));simp only[if_true];refine wpAny_bind (wpAny_rule ?_);refine wpAny_bind (wpAny_field Zz U (x:=.ref TO) U ?_);refine wpAny_bind (wpAny_setField_rec Zz (by simp) λg1 Za b1=>?_)
 replace Za:IsZip g1 z TI TO .ellipsis:=Za
 replace b1:Heap.SameBut z hp g1:=b1
 refine wpAny_bind ?_;simp only[List.zipIdx_cons,List.zipIdx_nil,List.forIn_cons,List.forIn_nil];refine wpAny_bind (wpAny_bind (wpAny_onRaise ?_));show wpAny _ _ (Builtin.SmallTypes.nextOf (.ref i1) >>= _) _ _ _;refine wpAny_bind ((S1.draws hh i1 o1.1 v1).item n _ _ _ l1 ⟨Z1.mv λo e=>b1.extBut _ _ D.c e,Y1.mv (λb o hb e=>b1.extBut _ _ hb e) oz.1⟩ λx g2 k2 px fL b2=>wpAny_pure ?_)
 replace b2:Heap.SameBut i1 g1 g2:=b2
 have oJ:IsPair g2 TO x0 y0:=b2.extBut _ _ D.h (b1.extBut _ _ D.b Zo);refine wpAny_bind (wpAny_seqItems oJ U ?_);refine wpAny_bind (wpAny_updateSeq_pair oJ λg3 qv b3=>?_)
 replace qv:IsPair g3 TO x y0:=qv
 replace b3:Heap.SameBut TO g2 g3:=b3
 refine wpAny_bind (wpAny_letGo (wpAny_pure ?_));refine wpAny_bind (wpAny_bind (wpAny_onRaise ?_));show wpAny _ _ (Builtin.SmallTypes.nextOf (.ref i2) >>= _) _ _ _;refine wpAny_bind ((S2.draws hh i2 o2.2 v2).item n _ _ _ l2 ⟨Z2.mv λo e=>b3.extBut _ _ D.i.symm (b2.extBut _ _ D.j.symm (b1.extBut _ _ D.d e)),
  ((Y2.mv (λb o hb e=>b1.extBut _ _ hb e) oz.2).mv (λb o hb e=>b2.extBut _ _ hb e) o1.2).mv (λb o hb e=>b3.extBut _ _ hb e) oT.2⟩ λy g4 k4 py mJ b4=>wpAny_pure ?_)
 replace b4:Heap.SameBut i2 g3 g4:=b4
 have yz:IsPair g4 TO x y0:=b4.extBut _ _ D.i qv;refine wpAny_bind (wpAny_seqItems yz U ?_);refine wpAny_bind (wpAny_updateSeq_pair yz λg5 qu b5=>?_)
 replace qu:IsPair g5 TO x y:=qu
 replace b5:Heap.SameBut TO g4 g5:=b5
 refine wpAny_bind (wpAny_letGo (wpAny_pure (wpAny_pure ?_)));refine wpAny_bind (wpAny_seqItems qu U ?_);refine wpAny_bind (wpAny_newTuple ?_);have sz:g5.objs.size=hp.objs.size:=by rw[b5.1,b4.1,b3.1,b2.1,b1.1]
 have Z5:IsZip g5 z TI TO .ellipsis:=b5.extBut _ _ D.b.symm (b4.extBut _ _ D.d.symm (b3.extBut _ _ D.b.symm (b2.extBut _ _ D.c.symm Za)));have uT:∀c o,c≠z->c≠TO->c≠i1->c≠i2->hp.get? c=some o->g5.get? c=some o:=λc o n1 n2 n3 n4 e=>b5.extBut _ _ n2 (b4.extBut _ _ n4 (b3.extBut _ _ n2 (b2.extBut _ _ n3 (b1.extBut _ _ n1 e))));have I1:S1.it g5 i1 (n+1):=fL.1.mv λo e=>b5.extBut _ _ D.h.symm (b4.extBut _ _ D.j (b3.extBut _ _ D.h.symm e));have I2:S2.it g5 i2 (n+1):=mJ.1.mv λo e=>b5.extBut _ _ D.i.symm e;have H1:S1.has g5 v1:=((fL.2.mv (λb o hb e=>b3.extBut _ _ hb e) oT.1).mv (λb o hb e=>b4.extBut _ _ hb e) o2.1).mv (λb o hb e=>b5.extBut _ _ hb e) oT.1;have H2:S2.has g5 v2:=mJ.2.mv (λb o hb e=>b5.extBut _ _ hb e) oT.2;have uQ:z < g5.objs.size:=ao Z5;show wpAny _ _ (Builtin.SmallTypes.ownedTupleHandOut (.ref z) (.ref g5.objs.size) >>= _) _ _ _;refine wpAny_bind ?_;unfold Builtin.SmallTypes.ownedTupleHandOut;have Z6:IsZip (g5.push { cls:=.type "tuple",data:=.seq #[x,y] }) z TI TO .ellipsis:=ak _ Z5;refine wpAny_bind (wpAny_setField_rec Z6 (by simp) λg7 Z7 b7=>?_)
 replace Z7:IsZip g7 z TI TO (rawInt g5.objs.size):=Z7
 refine wpAny_setField_rec Z7 (by simp) λg8 Z8 b8=>?_
 replace Z8:IsZip g8 z TI TO (rawInt g5.objs.size):=Z8
 have up:∀c o,c≠z->g5.get? c=some o->g8.get? c=some o:=λc o n1 e=>b8.extBut _ _ n1 (b7.extBut _ _ n1 (ak _ e));have T8:IsPair g8 g5.objs.size x y:=b8.extBut _ _ (bT uQ) (b7.extBut _ _ (bT uQ) (ay _ U));have uY:g8.objs.size=g5.objs.size+1:=by rw[b8.1,b7.1,bu]
 rw[sz]at Z8 T8 uY;refine wpAny_pure ⟨_,U,?_⟩;show Q (.ref g5.objs.size) _;rw[sz];exact q x y g8 k4 px py ⟨Z8,up _ _ D.a (uT _ _ D.a D.e D.f D.g Zi),⟨_,_,up _ _ D.b qu⟩,I1.mv λo e=>up _ o D.c e,I2.mv λo e=>up _ o D.d e,
  H1.mv (λb o hb e=>up b o hb e) oz.1,H2.mv (λb o hb e=>up b o hb e) oz.2⟩ T8 uY λc o n1 n2 n3 n4 e=>up c o n1 (uT c o n1 n2 n3 n4 e)
def We(D:ZA S1 S2 z TI TO i1 i2)(hh:A.handled=none)(a1d:ZS S1 S2 v1 v2 z TI TO i1 i2 n .none s.heap)(l:n=v1.size\/(n < v1.size/\n=v2.size)){Q:Fin->Shared->Prop}
    (q:∀h' x tk,(∀c o,c≠z->c≠TO->c≠i1->c≠i2->s.heap.get? c=some o->h'.get? c=some o)->(∃o,h'.get? x=some o/\o.cls=.type "StopIteration")->E (.ref x) { s with heap:=h',toks:=tk }) :
    wpAny (model prog w) A (Builtin.«zip.__next__» ⟨[.ref z],[]⟩) Q E s:=by
 obtain⟨hp,g0,d0,uV,os0⟩:=s;obtain⟨Zz,Zi,⟨x0,y0,Zo⟩,Z1,Z2,Y1,Y2⟩:=a1d;have oz:=D.k z (by simp);have oT:=D.k TO (by simp);have o1:=D.k i1 (by simp);have o2:=D.k i2 (by simp);show wpAny _ _ (field (.ref z) 2 >>= _) _ _ _;refine wpAny_bind (wpAny_field Zz U (x:=.bool false) U ?_);show wpAny _ _ (field (.ref z) 3 >>= _) _ _ _;refine wpAny_bind (wpAny_field Zz U (x:=.ref TI) U ?_);refine wpAny_bind (wpAny_seqItems Zi U ?_);show wpAny _ _ (Builtin.SmallTypes.ownedTupleIsFree (.ref z) >>= _) _ _ _;refine wpAny_bind ?_;unfold Builtin.SmallTypes.ownedTupleIsFree;refine wpAny_bind (wpAny_field Zz U (x:=.none) U (wpAny_pure ?_));simp only[if_true];refine wpAny_bind (wpAny_rule ?_);refine wpAny_bind (wpAny_field Zz U (x:=.ref TO) U ?_);refine wpAny_bind (wpAny_setField_rec Zz (by simp) λg1 Za b1=>?_)
 replace Za:IsZip g1 z TI TO .ellipsis:=Za
 replace b1:Heap.SameBut z hp g1:=b1
 refine wpAny_bind ?_;simp only[List.zipIdx_cons,List.zipIdx_nil,List.forIn_cons,List.forIn_nil];have W1:S1.it g1 i1 n/\S1.has g1 v1:=⟨Z1.mv λo e=>b1.extBut _ _ D.c e,Y1.mv (λb o hb e=>b1.extBut _ _ hb e) oz.1⟩;refine wpAny_bind (wpAny_bind (wpAny_onRaise ?_));show wpAny _ _ (Builtin.SmallTypes.nextOf (.ref i1) >>= _) _ _ _;rcases l with l | ⟨l1,l2⟩
 . refine wpAny_bind ((S1.draws hh i1 o1.1 v1).done _ _ _ (l▸W1) λg2 x b2 ⟨ox,ex,cx⟩=>?_);have Zb:IsZip g2 z TI TO .ellipsis:=b2 _ _ D.c.symm Za;have xz:x≠z:=λe=>by subst e;rw[Zb]at ex;cases ex;simp at cx
   refine wpAny_setField_rec Zb (by simp) λg3 _ b3=>q g3 x uV (λc o n1 _ n3 _ e=>b3.extBut _ _ n1 (b2 _ _ n3 (b1.extBut _ _ n1 e))) ⟨ox,b3.extBut _ _ xz ex,cx⟩
 . refine wpAny_bind ((S1.draws hh i1 o1.1 v1).item n _ _ _ l1 W1 λx g2 k2 px fL b2=>wpAny_pure ?_)
   replace b2:Heap.SameBut i1 g1 g2:=b2
   have oJ:IsPair g2 TO x0 y0:=b2.extBut _ _ D.h (b1.extBut _ _ D.b Zo);refine wpAny_bind (wpAny_seqItems oJ U ?_);refine wpAny_bind (wpAny_updateSeq_pair oJ λg3 qv b3=>?_)
   replace b3:Heap.SameBut TO g2 g3:=b3
   refine wpAny_bind (wpAny_letGo (wpAny_pure ?_));refine wpAny_bind (wpAny_bind (wpAny_onRaise ?_));show wpAny _ _ (Builtin.SmallTypes.nextOf (.ref i2) >>= _) _ _ _;refine wpAny_bind ((S2.draws hh i2 o2.2 v2).done _ _ _ (l2▸⟨Z2.mv λo e=>b3.extBut _ _ D.i.symm (b2.extBut _ _ D.j.symm (b1.extBut _ _ D.d e)),
    ((Y2.mv (λb o hb e=>b1.extBut _ _ hb e) oz.2).mv (λb o hb e=>b2.extBut _ _ hb e) o1.2).mv (λb o hb e=>b3.extBut _ _ hb e) oT.2⟩) λg4 x' b4 ⟨ox,ex,cx⟩=>?_)
   have Zb:IsZip g4 z TI TO .ellipsis:=b4 _ _ D.d.symm (b3.extBut _ _ D.b.symm (b2.extBut _ _ D.c.symm Za));have xz:x'≠z:=λe=>by subst e;rw[Zb]at ex;cases ex;simp at cx
   refine wpAny_setField_rec Zb (by simp) λg5 _ b5=>q g5 x' k2 (λc o n1 n2 n3 n4 e=>b5.extBut _ _ n1 (b4 _ _ n4 (b3.extBut _ _ n2 (b2.extBut _ _ n3 (b1.extBut _ _ n1 e))))) ⟨ox,b5.extBut _ _ xz ex,cx⟩
end
def Qt(h:Heap)(v:Value)(o:Obj):Prop:=∀(prog:Program) (w:World) (A:Around) (E:Value->Shared->Prop) (s:Shared) (Q:Value->Shared->Prop),(∀b u,h.get? b=some u->s.heap.get? b=some u)->
 Q (.ref s.heap.objs.size) { s with heap:=s.heap.push o }->wpAny (model prog w) A (pyIter v) Q E s
def Sr.val:Sr->Value->Prop
 | .lst a,v=>v=.ref a
 | .tup a,v=>v=.ref a
 | .str x,v=>∃t,v=.str x t
def Sr.begins{S:Sr}{h:Heap}{v:Value}{vs:Array Value}(e:S.val v)(x:S.has h vs):∃o:Obj,Qt h v o/\o.isFreed=false/\∀(h':Heap) (I:Addr),h'.get? I=some o->S.it h' I 0:=by
 cases S with
 | lst a=>
  cases (show v=.ref a from e);exact⟨_,λ_ _ _ _ s Q k q=>wpAny_pyIter_list (let⟨o,e,r⟩:=x;⟨o,k a o e,r⟩) q,U,λh' I e=>⟨_,e,U,U⟩⟩
 | tup a=>
  cases (show v=.ref a from e);exact⟨_,λ_ _ _ _ s Q k q=>wpAny_pyIter_tuple (let⟨o,e,r⟩:=x;⟨o,k a o e,r⟩) q,U,λh' I e=>⟨_,e,U,U⟩⟩
 | str z=>
  obtain⟨t,rfl⟩:=(show ∃t,v=.str z t from e);exact⟨_,λ_ _ _ _ s Q k q=>wpAny_pyIter_strU q,U,λh' I e=>⟨t,_,e,U,U⟩⟩
abbrev zh2(h:Heap)(o1 o2:Obj):Heap:=(h.push o1).push o2
abbrev zh3(h:Heap)(o1 o2:Obj):Heap:=(zh2 h o1 o2).push { cls:=.type "tuple",data:=.seq #[.ref h.objs.size,.ref (h.push o1).objs.size] }
abbrev zh4(h:Heap)(o1 o2:Obj):Heap:=(zh3 h o1 o2).push { cls:=.type "tuple",data:=.seq #[.none,.none] }
abbrev XU(h:Heap)(o1 o2:Obj):Heap:=(zh4 h o1 o2).push { cls:=.type "zip",data:=.fields #[.none,.bool false,.bool false,.ref (zh2 h o1 o2).objs.size,.ref (zh3 h o1 o2).objs.size] }
def Wd(a b:Value)(o1 o2:Obj):Meets (Builtin.«zip.__new__» ⟨[.type "zip",a,b],[]⟩) (λ_ R s=>Qt s.heap a o1/\Qt s.heap b o2/\
      R (.ok (.ret (.ref (zh4 s.heap o1 o2).objs.size))) { s with heap:=XU s.heap o1 o2 }):=
 .of_wp λprog w A R s h=>by
  obtain⟨hp,g,d,tk,os⟩:=s;obtain⟨h1,h2,h⟩:=h;have hsub:=sub_zip;have k1:∀{A':Around} {E':Value->Shared->Prop} {Q:Value->Shared->Prop},Q (.ref (Shared.heap ⟨hp,g,d,tk,os⟩).objs.size) ⟨hp.push o1,g,d,tk,os⟩->wpAny (model prog w) A' (pyIter a) Q E' ⟨hp,g,d,tk,os⟩:=λq=>h1 _ _ _ _ _ _ (λ_ _ e=>e) q;have k2:∀{A':Around} {E':Value->Shared->Prop} {Q:Value->Shared->Prop},Q (.ref (Shared.heap ⟨hp.push o1,g,d,tk,os⟩).objs.size) ⟨(hp.push o1).push o2,g,d,tk,os⟩->wpAny (model prog w) A' (pyIter b) Q E' ⟨hp.push o1,g,d,tk,os⟩:=λq=>h2 _ _ _ _ _ _ (λ_ _ e=>ak _ e) q
  wp_walk using k1,k2
  exact⟨_,U,h⟩
def VS{prog:Program}{w:World}{A:Around}{E:Value->Shared->Prop}{s:Shared}{S1 S2:Sr}{v1 v2:Array Value}{a b:Value}{Q:Value->Shared->Prop}(e1:S1.val a)(e2:S2.val b)(x1:S1.has s.heap v1)(x2:S2.has s.heap v2)
    (q:∀h',ZS S1 S2 v1 v2 (s.heap.objs.size+4) (s.heap.objs.size+2) (s.heap.objs.size+3) s.heap.objs.size (s.heap.objs.size+1) 0 .none h'->ZA S1 S2 (s.heap.objs.size+4) (s.heap.objs.size+2) (s.heap.objs.size+3) s.heap.objs.size (s.heap.objs.size+1)->
     (∀c o,s.heap.get? c=some o->h'.get? c=some o)->Q (.ref (s.heap.objs.size+4)) { s with heap:=h' }):wpAny (model prog w) A (call (.type "zip") [a,b]) Q E s:=by
 obtain⟨o1,B1,f1,I1⟩:=Sr.begins e1 x1;obtain⟨o2,B2,f2,I2⟩:=Sr.begins e2 x2;refine callType_new F.called_zip bD (F.typeCall_zip_2 _ _) (F.newCall_zip_2 _ _) (λobj=>F.args_object_init_3 obj _ _) F.entry_zip_new (Wd a b o1 o2) ⟨B1,B2,?_⟩;have y1:(s.heap.push o1).objs.size=s.heap.objs.size+1:=bu ..;have y2:(zh2 s.heap o1 o2).objs.size=s.heap.objs.size+2:=by rw[bu,y1]
 have y3:(zh3 s.heap o1 o2).objs.size=s.heap.objs.size+3:=by rw[bu,y2]
 have y4:(zh4 s.heap o1 o2).objs.size=s.heap.objs.size+4:=by rw[bu,y3]
 have g5:(XU s.heap o1 o2).get? (zh4 s.heap o1 o2).objs.size=some _:=ay _ rfl;have g4:(XU s.heap o1 o2).get? (zh3 s.heap o1 o2).objs.size=some _:=ak _ (ay _ U);have g3:(XU s.heap o1 o2).get? (zh2 s.heap o1 o2).objs.size=some _:=ak _ (ak _ (ay _ U));have g2:(XU s.heap o1 o2).get? (s.heap.push o1).objs.size=some o2:=ak _ (ak _ (ak _ (ay _ f2)));have g1:(XU s.heap o1 o2).get? s.heap.objs.size=some o1:=ak _ (ak _ (ak _ (ak _ (ay _ f1))));have up:∀c o,s.heap.get? c=some o->(XU s.heap o1 o2).get? c=some o:=λc o x=>ak _ (ak _ (ak _ (ak _ (ak _ x))));have off:∀{S:Sr} {vs:Array Value} (k:Nat),S.has s.heap vs->S.off (s.heap.objs.size+k):=λ{S vs} k x=>by
  cases S with
  | lst a=>obtain⟨o,e,_⟩:=x;exact aB (aA (ao e) (Nat.le_add_right _ k))
  | tup a=>obtain⟨o,e,_⟩:=x;exact aB (aA (ao e) (Nat.le_add_right _ k))
  | str z=>exact trivial
 have keep:∀{S:Sr} {vs:Array Value},S.has s.heap vs->S.has (XU s.heap o1 o2) vs:=λ{S vs} x=>by
  cases S with
  | lst a=>obtain⟨o,e,r⟩:=x;exact⟨o,up _ _ e,r⟩
  | tup a=>obtain⟨o,e,r⟩:=x;exact⟨o,up _ _ e,r⟩
  | str z=>exact x
 show _/\_;rw[y2,y3,y4]at g5;rw[y1,y2]at g3;rw[y3]at g4;rw[y1]at g2;rw[y4];refine⟨⟨_,g5,U⟩,q _ ⟨g5,g3,⟨_,_,g4⟩,I1 _ _ g1,I2 _ _ g2,keep x1,keep x2⟩ ?_ up⟩;have ne:∀i j:Nat,i≠j->s.heap.objs.size+i≠s.heap.objs.size+j:=λi j hn h=>hn (Nat.add_left_cancel h);refine⟨ne 2 4 bD,ne 3 4 bD,ne 0 4 bD,ne 1 4 bD,ne 2 3 bD,ne 2 0 bD,ne 2 1 bD,ne 3 0 bD,ne 3 1 bD,ne 0 1 bD,λx hx=>?_⟩;simp only[aD,cy,or_false]at hx;rcases hx with rfl | rfl | rfl | rfl
 . exact⟨off 4 x1,off 4 x2⟩
 . exact⟨off 3 x1,off 3 x2⟩
 . exact⟨off 0 x1,off 0 x2⟩
 . exact⟨off 1 x1,off 1 x2⟩
section
variable{X:Cx}{aS:List (Addr × Obj)}{σ:St}{H:Hp}{s:Shared}{h':Heap}
def o9.turneds{t':Nat}{ch:List Addr}(I:o9 X aS σ H s)(k:∀b o,b ∉ ch->s.heap.get? b=some o->h'.get? b=some o)(hf:∀b∈ch,Bf X aS H b):o9 X aS σ H { s with heap:=h',toks:=t' }:=by
 have mY:∀b u,H b=some u->b ∉ ch:=λb u e z=>by rw[(hf b z).1]at e;cases e
 refine I.step (g':=s.gens) (d':=s.drawn) (ch:=ch) (λb hb=>?_) (λb o _ _ hc e _=>k b o hc e) (λb o _ _ hc e _=>⟨o.slots,k b o hc e⟩) (λ_ _ _ _ n=>n) (λb o hc e=>⟨o,k b o hc e⟩) (λ_ _ e=>e) (λ_ _ _ e=>e)
  (λb ps e=>⟨#[],by rw[e];simp⟩) (λm hm=>?_) (λb u e=>?_) I.bare
 . obtain⟨f0,f1,f2,f3,f4,f5⟩:=hf b hb;exact⟨f3,f1,f4,f5⟩
 . obtain⟨o,es,ep,ho,r⟩:=hm;exact⟨o,es,ep,k _ o (λz=>(hf _ z).2.1 U) ho,r⟩
 . refine(I.hok b u e).stay (λc v hc q=>k c v ?_ q) (λ_ q=>q) λ_ _ q=>q;rcases hc with z | z
   . rw[z];exact mY b u e
   . exact mY c _ z
theorem o9.track(I:o9 X aS σ H s)(hs:X.s₀.heap.objs.size<=a)(f:Bf X aS H a)(new:M7 X.prog X.w (upd H a o) s.heap a o):o9 X aS σ (upd H a o) s:=
 ⟨I.ok,I.os,I.bare,I.base.track hs f.1,I.loc,I.cell,by rw[l6 (Ne.symm f.2.1)];exact I.free,λx c e=>by rw[l6 (f.2.2.2.2.1 x c e)];exact I.freeC x c e,λp hp=>by
  obtain⟨e,n,r⟩:=I.pin p hp;exact⟨e,by rw[l6 (f.2.2.2.2.2 p hp)];exact n,r⟩,I.hok.track f.1 new,I.len⟩
end
def EI(x:Str):List V:=x.cps.toList.map λc=>V.str ⟨#[c]⟩
def Sr.vals(K:aa)(H:Hp):Sr->List V->Prop
 | .lst a,xs=>o7 K H a xs
 | .tup a,xs=>l9 K H a xs
 | .str x,xs=>xs=EI x
def Sr.ofV:Sr->V->Prop
 | .lst a,v=>v=.ref a
 | .tup a,v=>v=.ref a
 | .str x,v=>v=.str x
section
variable{X:Cx}{aS:List (Addr × Obj)}{σ:St}{H:Hp}{s:Shared}{S:Sr}{xs ys:List V}
theorem Sr.vals.get(I:o9 X aS σ H s)(h:S.vals X.K H xs):∃vs,S.has s.heap vs/\vs.size=xs.length/\∀i x v,xs[i]? = some x->S.is vs i v->D2 x v:=by
 cases S with
 | lst a=>
  obtain⟨its,rv,p,hz⟩:=I.list h;refine⟨its.toArray,p.isList,by have:=rv.length;simp;omega,λi x v e1 e2=>?_⟩;obtain⟨u,hu,ru⟩:=rv.get e1;have e2:its.toArray[i]? = some v:=e2;rw[List.getElem?_toArray,hu]at e2;cases e2;exact ru
 | tup a=>
  obtain⟨its,rv,p,hz⟩:=I.tuple h;refine⟨its.toArray,(show s.heap.IsTuple a its.toArray from p),by have:=rv.length;simp;omega,λi x v e1 e2=>?_⟩;obtain⟨u,hu,ru⟩:=rv.get e1;have e2:its.toArray[i]? = some v:=e2;rw[List.getElem?_toArray,hu]at e2;cases e2;exact ru
 | str z=>
  cases (show xs=EI z from h);refine⟨Array.replicate z.cps.size .none,by show(Array.replicate _ _).size=_;simp,by simp[EI],λi x v e1 e2=>?_⟩;obtain⟨c,u,ec,rfl⟩:=(show ∃c u,z.cps[i]? = some c/\v=.str ⟨#[c]⟩ u from e2);have:(EI z)[i]? = some (V.str ⟨#[c]⟩):=by simp[EI,ec]
  rw[this]at e1;cases e1;exact⟨u,U⟩
def Sr.vals.inj(I:o9 X aS σ H s)(h:S.vals X.K H xs)(h':S.vals X.K H ys):xs=ys:=by
 cases S with
 | lst a=>exact I.list_inj h h'
 | tup a=>exact I.tuple_inj h h'
 | str z=>exact(show xs=EI z from h).trans (show ys=EI z from h').symm
theorem Sr.ofV.val(e:S.ofV x)(r:D2 x u):S.val u:=by
 cases S with
 | lst a=>cases (show x=.ref a from e);exact r
 | tup a=>cases (show x=.ref a from e);exact r
 | str z=>cases (show x=.str z from e);exact r
end
def o0o(K:aa)(S1 S2:Sr):It:=
 ⟨λi H=>∃xs ys x y,S1.vals K H xs/\S2.vals K H ys/\xs[i]? = some x/\ys[i]? = some y,
  λi H v H'=>∃p x y,v=.ref p/\H p=none/\H'=upd H p (.tup [x,y])/\(∀xs,S1.vals K H xs->xs[i]? = some x)/\∀ys,S2.vals K H ys->ys[i]? = some y,
  λi H=>∃xs ys,S1.vals K H xs/\S2.vals K H ys/\(i=xs.length\/(i < xs.length/\i=ys.length))⟩
def To{P:Program}{w:World}{K:aa}{es:List Expr}{kk:Nat}{tp:Pos}{S1 S2:Sr}{z TI TO i1 i2:Addr}(D:ZA S1 S2 z TI TO i1 i2) :
    Md P w K (.Tuple es kk tp) (o0o K S1 S2) [z,TI,TO,i1,i2] z (λi h=>IsZip h z TI TO .none/\IsPair h TI (.ref i1) (.ref i2)/\(∃a b,IsPair h TO a b)/\S1.it h i1 i/\S2.it h i2 i)where
 mem:=by simp
 obj:=λi h st b hb=>by
  obtain⟨hz,hi,⟨a,a',ho⟩,h1,h2⟩:=st;simp only[aD,cy,or_false]at hb;rcases hb with rfl | rfl | rfl | rfl | rfl
  . exact⟨_,hz,λv z=>by simp at z⟩
  . exact⟨_,hi,λv z=>by simp at z⟩
  . exact⟨_,ho,λv z=>by simp at z⟩
  . exact h1.obj
  . exact h2.obj
 keep:=λi h h' st k=>by
  obtain⟨hz,hi,⟨a,a',ho⟩,h1,h2⟩:=st;exact⟨k z (by simp) _ hz,k TI (by simp) _ hi,⟨a,a',k TO (by simp) _ ho⟩,h1.mv λo e=>k i1 (by simp) o e,h2.mv λo e=>k i2 (by simp) o e⟩
 item:=by
  intro X hP hw hK hc i aS s σ H E I hf st hg;subst hP hw hK;obtain⟨xs,ys,x,y,hx,hy,ex,ey⟩:=hg;obtain⟨v1,a1,z1,r1⟩:=Sr.vals.get I hx;obtain⟨v2,a2,z2,r2⟩:=Sr.vals.get I hy;obtain⟨hz,hi,ho,h1,h2⟩:=st;have l1:=(aU.mp ex).1;have l2:=(aU.mp ey).1;have hT:s.TypeIs (.ref z) "zip":=⟨_,hz,U⟩;have lt:∀b∈[z,TI,TO,i1,i2],b≠s.heap.objs.size:=λb hb=>by
   obtain⟨a,a',ho⟩:=ho;simp only[aD,cy,or_false]at hb;rcases hb with rfl | rfl | rfl | rfl | rfl
   . exact aB (ao hz)
   . exact aB (ao hi)
   . exact aB (ao ho)
   . obtain⟨_,e,_⟩:=h1.obj;exact aB (ao e)
   . obtain⟨_,e,_⟩:=h2.obj;exact aB (ao e)
  unfold pyNext;refine wpAny_bind (wpAny_attempt (wpAny_callSpecial?_slot (name:=Str.ofString "__next__") hT F.slot_zip_next (wpAny_call_entry F.slot_zip_next hT F.entry_zip_next
   (Tc (A:=X.A.in1) D (show X.A.in1.handled=none from I.ok.hd hc) ⟨hz,hi,ho,h1,h2,a1,a2⟩ Y Y λxv yv h' tk px py a1d hp hs up=>wpAny_pure ?_) (F.args_zip_next_1 _))))
  refine⟨_,U,wpAny_letOwnedTupleGo_zip a1d.z λou sf sb=>?_⟩;have sb:Heap.SameBut z h' ou:=sb;have kk:∀b o,b ∉ [z,TI,TO,i1,i2]->s.heap.get? b=some o->ou.get? b=some o:=λb o hb e=>by
   simp only[aD,cy,or_false,not_or]at hb;exact sb.extBut _ _ hb.1 (up b o hb.1 hb.2.2.1 hb.2.2.2.1 hb.2.2.2.2 e)
  have I1:o9 X aS σ H { s with heap:=ou,toks:=tk }:=I.turneds (t':=tk) kk hf;have fT:Bf X aS H s.heap.objs.size:=I.fpOk (ae _) (I.hok.fresh (ae _));have zT:s.heap.objs.size≠z:=Ne.symm (lt z (by simp));have oT:IsPair ou s.heap.objs.size xv yv:=sb.extBut _ _ zT hp;have I2:o9 X aS σ (upd H s.heap.objs.size (.tup [x,y])) { s with heap:=ou,toks:=tk }:=I1.track (ag I.sz (ae _)) fT
   ⟨by show 2<=sizeLine;decide,[xv,yv],.cons (r1 i x xv ex px) (.cons (r2 i y yv ey py) .nil),⟨_,oT,U,_,U⟩,λ_=>⟨_,oT,U⟩⟩
  refine⟨.ref s.heap.objs.size,_,I2,U,⟨_,x,y,U,fT.1,U,λxs' h=>by rw[Sr.vals.inj I h hx];exact ex,λfj h=>by rw[Sr.vals.inj I h hy];exact ey⟩,⟨sf,sb.extBut _ _ D.a a1d.ti,?_,a1d.s1.mv λo e=>sb.extBut _ _ D.c e,a1d.s2.mv λo e=>sb.extBut _ _ D.d e⟩,λb hb=>?_⟩
  . obtain⟨a,a',ho⟩:=a1d.to;exact⟨a,a',sb.extBut _ _ D.b ho⟩
  . rw[l6 (lt b hb)];exact(hf b hb).1
 done:=by
  intro X hP hw hK hc i aS s σ H E I hf st hg;subst hP hw hK;obtain⟨xs,ys,hx,hy,l⟩:=hg;obtain⟨v1,a1,z1,r1⟩:=Sr.vals.get I hx;obtain⟨v2,a2,z2,r2⟩:=Sr.vals.get I hy;obtain⟨hz,hi,ho,h1,h2⟩:=st;have hT:s.TypeIs (.ref z) "zip":=⟨_,hz,U⟩;unfold pyNext;refine wpAny_bind (wpAny_attempt (wpAny_callSpecial?_slot (name:=Str.ofString "__next__") hT F.slot_zip_next (wpAny_call_entry F.slot_zip_next hT F.entry_zip_next
   (We (A:=X.A.in1) D (show X.A.in1.handled=none from I.ok.hd hc) ⟨hz,hi,ho,h1,h2,a1,a2⟩ Y λh' e tk up ⟨o,eo,co⟩=>?_) (F.args_zip_next_1 _))))
  refine wpAny_bind (wpAny_isInstance (T:="StopIteration") (b:=true) ⟨o,eo,co⟩ isSubtype_stop ?_);refine wpAny_pure ⟨U,I.turneds (ch:=[z,TI,TO,i1,i2]) (t':=tk) (λb o hb e=>?_) hf⟩;simp only[aD,cy,or_false,not_or]at hb;exact up b o hb.1 hb.2.2.1 hb.2.2.2.1 hb.2.2.2.2 e
 self:=λ_ _ _ _ _ st h=>wpAny_pyIter_zip st.1 h
def iZip(K:aa)(ta:TA):TI:=λσ H R=>ta σ H λvs H1=>∃S1 S2 x y xs ys,vs=[x,y]/\Sr.ofV S1 x/\Sr.ofV S2 y/\S1.vals K H1 xs/\S2.vals K H1 ys/\R (o0o K S1 S2) H1
def Cs{X:Cx}{a b:Expr}{ta:TA}{p pos tp:Pos}{es:List Expr}{kk:Nat}(hg:Gl X "zip")(hm:X.mg "zip"=none)(ha:PA X [a,b] ta)(hs:starEach [a,b] X.env=[(false,eval a X.env),(false,eval b X.env)]:=by rfl)
    (nJ:starEach [b] X.env=[(false,eval b X.env)]:=by rfl):PI X (.Tuple es kk tp) (.Call (.Name "zip" p) [a,b] [] pos) (iZip X.K ta):=by
 intro aS s σ H R I h;refine Call_ (AB I hg hm boot_zip (cj (I9 (ha pos aS s σ H _ I h) λus s1 ⟨vs,H1,I1,r1,q1⟩=>?_) (by rw[hs,nJ]) (by rw[nJ];rfl)));obtain⟨S1,S2,x,y,xs,ys,e,e1,e2,hx,hy,q⟩:=q1;subst e;cases r1 with
 | cons r rr=>
  cases rr with
  | cons r' rr=>
   cases rr;obtain⟨v1,a1,z1,_⟩:=Sr.vals.get I1 hx;obtain⟨v2,a2,z2,_⟩:=Sr.vals.get I1 hy;refine VS (e1.val r) (e2.val r') a1 a2 λh' a1d D up=>wpAny_pyIter_zip a1d.z ⟨_,_,_,_,H1,U,I1.kept (t':=s1.toks) up,To D,⟨a1d.z,a1d.ti,a1d.to,a1d.s1,a1d.s2⟩,λb hb=>?_,q⟩;simp only[aD,cy,or_false]at hb;have le:s1.heap.objs.size<=b:=by rcases hb with rfl | rfl | rfl | rfl | rfl <;>omega
   exact I1.fpOk le (I1.hok.fresh le)
def Rf{K:aa}{S1 S2:Sr}{xs ys:List V}{g:TG}{tb:TS}{D:GY}{σ:St}{H:Hp}(Pv:Nat->St->Hp->Prop)(hll:xs.length=ys.length)(h0:Pv 0 σ H)(hl:∀i σ H,i<=xs.length->Pv i σ H->S1.vals K H xs/\S2.vals K H ys)
    (hs:∀i x y p σ H,xs[i]? = some x->ys[i]? = some y->H p=none->Pv i σ H->g (.ref p) σ (upd H p (.tup [x,y])) λσ2 H2=>tb { D with nx:=Pv (i+1),ct:=Pv (i+1),bk:=D.nx } σ2 H2) (hd:∀σ H,Pv xs.length σ H->D.nx σ H) :
    ∃W:Nat->Nat->St->Hp->Prop,(∃m,W 0 m σ H)/\∀i m σ H,W i m σ H->
     ((o0o K S1 S2).stop i H/\D.nx σ H)\/((o0o K S1 S2).go i H/\∃N:St->Hp->Prop,(∀σ' H',N σ' H'->∃m',m' < m/\W (i+1) m' σ' H')/\∀x H',(o0o K S1 S2).yld i H x H'->g x σ H' λσ2 H2=>tb { D with nx:=N,ct:=N,bk:=D.nx } σ2 H2):=by
 refine⟨λi m σ H=>m=xs.length - i/\i<=xs.length/\Pv i σ H,⟨xs.length,by simp,aY _,h0⟩,?_⟩;rintro i m σ H ⟨rfl,hi,p⟩;obtain⟨q1,q2⟩:=hl i σ H hi p;by_cases fE:i < xs.length
 . have hly:i < ys.length:=by omega
   refine .inr ⟨⟨xs,ys,xs[i],ys[i],q1,q2,by simp[fE],by simp[hly]⟩,Pv (i+1),λσ' H' p'=>⟨xs.length - (i+1),Y,U,fE,p'⟩,λx H' y=>?_⟩;obtain⟨pp,x',y',rfl,hn,rfl,y1,y2⟩:=y;exact hs i x' y' pp σ H (y1 xs q1) (y2 ys q2) hn p
 . have e:i=xs.length:=by omega
   subst e;exact .inl ⟨⟨xs,ys,q1,q2,.inl U⟩,hd σ H p⟩
section
variable{X:Cx}
def rSlS:V->Option Int->Option Int->Hp->VK->Prop:=λx lo hi H Q=>∃z,x=.str z/\z.length<=sizeLine/\Q (.str (Txt.slice z lo hi)) H
def YT:c0c X rSlS:=by
 intro aS s σ H x v vl vu lo hi sl Q I rx hs pl pu h;obtain⟨z,rfl,hz,q⟩:=h;obtain⟨t,rfl⟩:=rx;have fin:∀t' k,EP X aS σ Q (.str (Txt.slice z lo hi) t') { s with toks:=k }:=λt' k=>⟨.str _,H,I.tok _,⟨_,U⟩,q⟩;refine⟨"str",_,F.slot_str_getitem.lookup,typeIs_str _ _ _,?_⟩;cases pl with
 | none=>
  cases pu with
  | none=>exact wpAny_getItem_str_slice (l:=none) (u:=none) (st:=none) hs rfl (post_val_or_str ⟨ag (Txt.slice_le z _ _) hz,fin⟩)
  | int j uj=>exact wpAny_getItem_str_slice (l:=none) (u:=some (j,uj)) (st:=none) hs rfl (post_val_or_str ⟨ag (Txt.slice_le z _ _) hz,fin⟩)
 | int i ui=>
  cases pu with
  | none=>exact wpAny_getItem_str_slice (l:=some (i,ui)) (u:=none) (st:=none) hs rfl (post_val_or_str ⟨ag (Txt.slice_le z _ _) hz,fin⟩)
  | int j uj=>exact wpAny_getItem_str_slice (l:=some (i,ui)) (u:=some (j,uj)) (st:=none) hs rfl (post_val_or_str ⟨ag (Txt.slice_le z _ _) hz,fin⟩)
def rIndexS:V->List V->Hp->VK->Prop:=λx xs H Q=>∃z y i R9,x=.str z/\xs=[.str y]/\Builtin.Str.occurrences z y 0 z.length 1=i::R9/\Q (.int (i:Nat)) H
def Ka:MtR X "str.index" rIndexS:=by
 intro aS s σ H x xs v us Q I rx rs h;obtain⟨z,y,i,R9,rfl,rfl,e,q⟩:=h;obtain⟨t,rfl⟩:=rx;obtain⟨u,rfl,ru⟩:=rs.one;obtain⟨t',rfl⟩:=ru;exact call_gives F.slot_str_index (typeIs_str s z t) F.entry_str_index (F.args_str_index_2 _ _) (PySem.gives_str_index z y t t' i R9 e) ⟨.int _,H,I.tok _,⟨_,U⟩,q⟩
def Its(z:Str):It:=⟨λi _=>i < z.cps.size,λi H x H'=>H'=H/\∃c,z.cps[i]? = some c/\x=.str ⟨#[c]⟩,λi _=>z.cps.size<=i⟩
def Tp{P:Program}{w:World}{K:aa}{tg:Expr}(z:Str)(t:Tok)(it:Addr):Md P w K tg (Its z) [it] it (λi h=>h.IsStrIter it "str_ascii_iterator" z t i)where
 mem:=by simp
 obj:=λi h st b hb=>by
  have e:b=it:=by simpa using hb
  subst e;obtain⟨o,e,c,d⟩:=st;exact⟨o,e,λv q=>by rw[d]at q;cases q⟩
 keep:=λi h h' st k=>by
  obtain⟨o,e,r⟩:=st;exact⟨o,k it (by simp) o e,r⟩
 item:=by
  intro X hP hw hK hc i aS s σ H E I hf st hg;subst hP hw hK;have hg:i < z.cps.size:=hg;obtain⟨f0,f1,f2,f3,f4,f5⟩:=hf it (by simp);refine wpAny_pyNext_ascii_item st (c:=z.cps[i]) (by simp[hg]) λh' dY sb=>?_;have I1:o9 X aS σ H { s with heap:=h',toks:=s.toks+1 }:=I.turned (t':=s.toks+1) (λb o hb e=>(sb.2 b hb).trans e) f0 f1 f3 f4 f5;obtain⟨o,e,c,d⟩:=id dY;exact⟨_,U,Kf (s:={ s with heap:=h',toks:=s.toks+1 }) e c d bD ⟨.str ⟨#[z.cps[i]]⟩,H,I1,⟨_,U⟩,⟨U,_,by simp[hg],U⟩,dY,λb hb=>(hf b hb).1⟩⟩
 done:=by
  intro X hP hw hK hc i aS s σ H E I hf st hg;subst hP hw hK;have hg:z.cps.size<=i:=hg;obtain⟨f0,f1,f2,f3,f4,f5⟩:=hf it (by simp);exact wpAny_pyNext_ascii_end (I.ok.hd hc) st (by simp;omega) λh' eb=>⟨U,I.turned (t':=s.toks) (λb o hb e=>eb b o hb e) f0 f1 f3 f4 f5⟩
 self:=λ_ _ _ _ _ st h=>wpAny_pyIter_striter_ascii st h
def iStr(tl:TE):TI:=λσ H R=>tl σ H λx H1=>∃z,x=.str z/\z.cps.all (· < 128)=true/\R (Its z) H1
def Pa{tg l:Expr}{tl:TE}(hl:PE X l tl):PI X tg l (iStr tl):=by
 intro aS s σ H R I h;refine I9 (hl aS s σ H _ I h) λv s1 ⟨x,H1,I1,r1,z,e,ha,q⟩=>?_;subst e;obtain⟨t,rfl⟩:=r1;refine wpAny_pyIter_ascii ha ?_;have hf:H1 s1.heap.objs.size=none:=I1.hok.fresh (ae _);refine⟨s1.heap.objs.size,[s1.heap.objs.size],_,Its z,H1,U,I1.kept (t':=s1.toks) (λb ob q=>ak _ q),Tp z t _,⟨_,ay _ U,U,U⟩,λb hb=>?_,q⟩;have e:b=s1.heap.objs.size:=by simpa using hb
 subst e;exact I1.fpOk (ae _) hf
end
section
variable{X:Cx}
def Wp{bs:List Bool}{its:List Value}(r:x8 (bs.map V.bl) its){i:Nat}{v:Value}(h:its[i]? = some v):∃b,bs[i]? = some b/\v=.bool b:=by
 have len:=r.length;rw[af]at len;have hi:i < its.length:=(aU.mp h).1;have hb:bs[i]? = some (bs[i]'Y):=ah Y;obtain⟨u,hu,ru⟩:=r.get (i:=i) (x:=V.bl (bs[i]'Y)) (by rw[aE,hb];rfl);rw[h]at hu;cases hu;exact⟨_,hb,ru⟩
def SQ(bs:List Bool):(List.range bs.length).all (λi=>bs[i]?.getD false)=bs.all id:=by
 rw[cX,cJ,cJ];constructor
 . intro h b hb;obtain⟨i,hi,e⟩:=dC hb;have:=h i (aN.mpr hi);rw[ah hi,dB,e]at this;exact this
 . intro h i hi;have hi:=aN.mp hi;rw[ah hi,dB];exact h _ (aJ hi)
def rAll(K:aa)(f:List Bool->Bool):List V->Hp->VK->Prop:=λxs H Q=>∃a bs,xs=[.ref a]/\o7 K H a (bs.map V.bl)/\Q (.bl (f bs)) H
def VT(hc:X.calm=true):Ad X (.builtin "all") (rAll X.K λbs=>bs.all id):=by
 intro aS s σ H xs us Q I r h;obtain⟨a,bs,rfl,hq,q⟩:=h;obtain⟨u,rfl,ru⟩:=r.one;cases (show u=Value.ref a from ru);obtain⟨its,rv,p,hz⟩:=I.list hq;have lt:a≠s.heap.objs.size:=by obtain⟨o,n,e,_⟩:=p;exact aB (ao e)
 have hh:X.A.in1.handled=none:=I.ok.hd hc;have hl:=p.isList;have len:=rv.length;rw[af]at len;refine call_all_walk (wpAny_pyIter_list hl ⟨_,_,_,_,_,_,λi=>bs[i]?.getD false,U,Walks.list hh s.heap.objs.size a lt its.toArray,⟨⟨_,ay _ U,U,U⟩,Heap.IsList.push hl _⟩,λi v s' Q' E' hv q'=>?_,λh' tk k=>?_⟩)
 . have hv:its.toArray[i]? = some v:=hv;rw[List.getElem?_toArray]at hv;obtain⟨b,eb,rfl⟩:=Wp rv hv;have q':Q' (bs[i]?.getD false) s':=q';rw[eb]at q';exact wpAny_truthy_bool q'
 . rw[au,<- len,SQ];refine⟨.bl _,H,I.kept (t':=tk) λb o e=>k b o (λz=>?_) (ak _ e),U,q⟩;rw[ax]at z;exact absurd (ao e) (by rw[z];exact aM _)
end
section
variable{prog:Program}{w:World}{A:Around}{E:Value->Shared->Prop}{s:Shared}
end
def Ik{J:It}{n:Nat}{g:TG}{tb:TS}{D:GY}{σ:St}{H:Hp}(Pv:Nat->St->Hp->Prop)(h0:Pv 0 σ H)
    (hs:∀i σ H,i < n->Pv i σ H->J.go i H/\∀x H',J.yld i H x H'->g x σ H' λσ2 H2=>tb { D with nx:=Pv (i+1),ct:=Pv (i+1),bk:=D.nx } σ2 H2) (hd:∀σ H,Pv n σ H->J.stop n H/\D.nx σ H) :
    ∃W:Nat->Nat->St->Hp->Prop,(∃m,W 0 m σ H)/\∀i m σ H,W i m σ H->
     (J.stop i H/\D.nx σ H)\/(J.go i H/\∃N:St->Hp->Prop,(∀σ' H',N σ' H'->∃m',m' < m/\W (i+1) m' σ' H')/\∀x H',J.yld i H x H'->g x σ H' λσ2 H2=>tb { D with nx:=N,ct:=N,bk:=D.nx } σ2 H2):=by
 refine⟨λi m σ H=>m=n - i/\i<=n/\Pv i σ H,⟨n,by simp,aY _,h0⟩,?_⟩;rintro i m σ H ⟨rfl,hi,p⟩;by_cases fE:i < n
 . obtain⟨a,b⟩:=hs i σ H fE p;exact .inr ⟨a,Pv (i+1),λσ' H' p'=>⟨n - (i+1),Y,U,fE,p'⟩,b⟩
 . have e:i=n:=by omega
   subst e;exact .inl (hd σ H p)
def Mq(l b:Addr)(items kP:Array Value)(n n2:Nat)(dd mB:Option Addr)(sl lR:Array (Option Value))(hc0:items.isEmpty=true) :
    Meets (Builtin.«tuple.__add__» ⟨[.ref l,.ref b],[]⟩) (λ_ R s=>s.heap.get? l=some { cls:=.type "tuple",dict:=dd,data:=.seq items n,slots:=sl }/\s.heap.get? b=some { cls:=.type "tuple",dict:=mB,data:=.seq kP n2,slots:=lR }/\R (.ok (.ret (Value.ref b))) { s with heap:=s.heap,toks:=s.toks }):=
 .of_wp λprog w A R s h=>by obtain⟨hp,g,d,tk,os⟩:=s;obtain⟨hl,hb,h⟩:=h;have f1:=AutoSeq1.idx_int;have f2:=AutoSeq1.sub_tuple_tuple;wp_walk using AutoSeq1.wpAny_loadPart' hl,AutoSeq1.wpAny_loadPart' hb;exact⟨_,U,h⟩
def rCatA:R2:=λx y H Q=>∃a b xs ys,x=.ref a/\y=.ref b/\H a=some (.tup xs)/\H b=some (.tup ys)/\xs.length+ys.length<=sizeLine/\
 ∀p H',h9 H H'->H' p=some (.tup (xs++ys))->Q (.ref p) H'
def Bu:Ez X (binaryOp .Add) rCatA:=by
 intro aS s σ H x y v u Q I rx ry h;obtain⟨a,b,xs,ys,rfl,rfl,ha,hb,hz,q⟩:=h;cases rx;cases ry;by_cases hx:xs=[]
 . obtain⟨its,r1,p1,_⟩:=I.tuple (l9.of ha);obtain⟨fZ,r2,p2,_⟩:=I.tuple (l9.of hb);have e0:its=[]:=r1.nil_iff.mpr hx;obtain⟨⟨cls,dd,data,sl⟩,ho,hc,n,hd⟩:=id p1;obtain⟨⟨uL,mB,data2,lR⟩,kZ,ly,n2,ll⟩:=id p2;simp only at hc hd ly ll;subst hc hd ly ll;exact concat_meets ⟨_,ho,U⟩ ⟨_,kZ,U⟩ noFill_tuple_add seq_tuple_add dP dQ (dR _ _)
    (Mq a b its.toArray fZ.toArray n n2 dd mB sl lR (by rw[e0];rfl)) ⟨ho,kZ,⟨.ref b,H,I,U,q b H (h9.refl _) (by rw[hx];exact hb)⟩⟩
 . exact Xb aS s σ H (.ref a) (.ref b) (.ref a) (.ref b) Q I rfl rfl ⟨a,b,xs,ys,U,U,l9.of ha,l9.of hb,hx,hz,λz=>q a H (h9.refl _) (by rw[z,bI];exact ha),λ_ p np=>q p _ (c6 np) b9⟩
def x4(H H':Hp):Prop:=∀p vs,H p=some (.tup vs)->H' p=some (.tup vs)
def x4.refl(H:Hp):x4 H H:=λ_ _ h=>h
def x4.trans(x:x4 H H1)(y:x4 H1 H2):x4 H H2:=λp vs h=>y p vs (x p vs h)
def h9.t(x:h9 H H'):x4 H H':=λp vs h=>x p _ h
def i3(Pd:Nat->V->Hp->Prop)(ys:List V)(n:Nat)(H:Hp):Prop:=ys.length=n/\∀j,j < n->∃u,ys[j]? = some u/\Pd j u H
section
variable{Pd Pe:Nat->V->Hp->Prop}{ys:List V}{n:Nat}{H H':Hp}{v:V}
def i3.nil:i3 Pd [] 0 H:=⟨U,λj h=>absurd h (cK j)⟩
def i3.mono(h:i3 Pd ys n H)(s:∀j u,j < n->Pd j u H->Pe j u H'):i3 Pe ys n H':=⟨h.1,λj hj=>by
 obtain⟨u,e,p⟩:=h.2 j hj;exact⟨u,e,s j u hj p⟩⟩
def i3.snoc(h:i3 Pd ys n H)(p:Pd n v H):i3 Pd (ys++[v]) (n+1) H:=⟨by rw[aq,h.1];rfl,λj hj=>by
 by_cases hn:j < n
 . obtain⟨u,e,q⟩:=h.2 j hn;exact⟨u,by rw[aW (by rw[h.1];exact hn)];exact e,q⟩
 . have e:j=n:=by omega
   subst e;exact⟨v,by rw[ba (by rw[h.1];exact ae _),h.1,cz];rfl,p⟩⟩
theorem i3.at(h:i3 Pd ys n H)(e:ys[j]? = some u):j < n/\Pd j u H:=by
 have hj:j < n:=by rw[<- h.1];exact(aU.mp e).1
 obtain⟨u',e',p⟩:=h.2 j hj;rw[e]at e';cases e';exact⟨hj,p⟩
end
def N8(Pd:Nat->V->Hp->Prop)(n:Nat)(v:V)(H:Hp):Prop:=∃p vs,v=.ref p/\H p=some (.tup vs)/\i3 Pd vs n H
def GD(K:aa)(Pd:Nat->V->Hp->Prop)(n:Nat)(v:V)(H:Hp):Prop:=∃S vs,Sr.ofV S v/\S.vals K H vs/\(∀H',h9 H H'->S.vals K H' vs/\DA K v H' vs.length)/\i3 Pd vs n H
def N8.seq{K:aa}{Pd:Nat->V->Hp->Prop}{n:Nat}{v:V}{H:Hp}(h:N8 Pd n v H):GD K Pd n v H:=by
 obtain⟨p,vs,rfl,hp,e⟩:=h;exact⟨.tup p,vs,U,l9.of hp,λH' q=>⟨l9.of (q _ _ hp),.inr ⟨_,l9.of (q _ _ hp),U⟩⟩,e⟩
theorem N8.mono(h:N8 Pd n v H)(s:x4 H H')(m:∀j u,j < n->Pd j u H->Pe j u H'):N8 Pe n v H':=by
 obtain⟨p,vs,rfl,hp,e⟩:=h;exact⟨p,vs,U,s _ _ hp,e.mono m⟩
theorem GD.mono{K:aa}{Pd Pe:Nat->V->Hp->Prop}{n:Nat}{v:V}{H H':Hp}(h:GD K Pd n v H)(s:h9 H H')(m:∀j u,j < n->Pd j u H->Pe j u H'):GD K Pe n v H':=by
 obtain⟨S,vs,e,hv,hs,he⟩:=h;exact⟨S,vs,e,(hs _ s).1,λH2 q=>hs _ (s.trans q),he.mono m⟩
def GD.list{K:aa}{Pd:Nat->V->Hp->Prop}{n:Nat}{p:Addr}{vs:List V}{H:Hp}(hp:H p=some (.lst vs))(e:i3 Pd vs n H):GD K Pd n (.ref p) H:=
 ⟨.lst p,vs,U,o7.of hp,λH' q=>⟨o7.of (q _ _ hp),.inl ⟨_,o7.of (q _ _ hp),U⟩⟩,e⟩
def N8.len{K:aa}{Pd:Nat->V->Hp->Prop}{n:Nat}{v:V}{H:Hp}(h:N8 Pd n v H):DA K v H n:=by
 obtain⟨p,vs,rfl,hp,e⟩:=h;have e1:=e.1;subst e1;exact .inr ⟨_,l9.of hp,U⟩
def o6{J:It}{n k:Nat}{g:TG}{te:TE}{σ:St}{Q:VK}{H1:Hp}(Pv:Nat->List V->Hp->Prop)(hn:n<=1000)(h0:Pv 0 [] H1)(hl:∀i ys H,Pv i ys H->ys.length=i)
    (tH:∀i ys H,i < n->Pv i ys H->J.go i H/\∀x H',J.yld i H x H'->g x (σ++List.replicate k none) H' λσ2 H2=>(∃zs,σ2=σ++zs/\zs.length=k)/\te σ2 H2 λv H3=>Pv (i+1) (ys++[v]) H3)
    (iO:∀ys H,Pv n ys H->J.stop n H) (iU:∀ys H p,Pv n ys H->H p=none->Q (.ref p) (upd H p (.lst ys))) :
    RF J k g te σ Q H1:=by
 have z:1000 < sizeLine:=by decide
 refine⟨λi m ys H=>m=n - i/\i<=n/\Pv i ys H,⟨n,U,aY _,h0⟩,?_⟩;rintro i m ys H ⟨rfl,hi,p⟩;have yl:=hl i ys H p;by_cases fE:i < n
 . obtain⟨a,b⟩:=tH i ys H fE p;refine .inr ⟨a,Y,λx H' y=>?_⟩;have c:=b x H' y;have e:(λσ2 H2=>(∃zs,σ2=σ++zs/\zs.length=k)/\te σ2 H2 λv H3=>∃m',m' < n - i/\m'=n - (i+1)/\i+1<=n/\Pv (i+1) (ys++[v]) H3)=λσ2 H2=>(∃zs,σ2=σ++zs/\zs.length=k)/\te σ2 H2 λv H3=>Pv (i+1) (ys++[v]) H3:=by
    funext σ2 H2;congr 2;funext v H3;exact propext ⟨λ⟨_,_,_,_,q⟩=>q,λq=>⟨_,Y,U,fE,q⟩⟩
   rw[e];exact c
 . have e:i=n:=by omega
   subst e;exact .inl ⟨iO ys H p,Y,λq nq=>iU ys H q p nq⟩
end L2
namespace Mine
def sm(S:SR)(f:Nat->S.W):Nat->S.W
 | 0=>S.zero
 | n+1=>S.add (sm S f n) (f n)
section
variable{S:SR}
theorem j0:∀{n:Nat},(∀i,i < n->f i=g i)->sm S f n=sm S g n
 | 0,_=>rfl
 | n+1,h=>by
  show S.add _ _=S.add _ _;rw[j0 λi hi=>h i (Nat.lt_succ_of_lt hi),h n (ck n)]
theorem D8:∀n:Nat,sm S (λ_=>S.zero) n=S.zero
 | 0=>rfl
 | n+1=>by show S.add _ _=_;rw[D8 n,S.add_zero]
theorem W4(f g:Nat->S.W):∀n:Nat,sm S (λi=>S.add (f i) (g i)) n=S.add (sm S f n) (sm S g n)
 | 0=>(S.add_zero S.zero).symm
 | n+1=>by
  show S.add _ _=S.add (S.add _ _) (S.add _ _);rw[W4 f g n,S.add_assoc,S.add_assoc];congr 1;rw[<- S.add_assoc,S.add_comm (sm S g n) (f n),S.add_assoc]
theorem Hu(c:S.W)(f:Nat->S.W):∀n:Nat,S.mul c (sm S f n)=sm S (λi=>S.mul c (f i)) n
 | 0=>S.mul_zero c
 | n+1=>by
  show S.mul c (S.add _ _)=S.add _ _;rw[S.distrib,Hu c f n]
def QC(c:S.W)(f:Nat->S.W)(n:Nat):S.mul (sm S f n) c=sm S (λi=>S.mul (f i) c) n:=by
 rw[S.mul_comm,Hu];exact j0 λi _=>S.mul_comm _ _
theorem QB(f:Nat->Nat->S.W)(k:Nat):∀n:Nat,sm S (λi=>sm S (λj=>f i j) k) n=sm S (λj=>sm S (λi=>f i j) n) k
 | 0=>(D8 k).symm
 | n+1=>by
  show S.add _ _=_;rw[QB f k n,<- W4];rfl
def BY(r:Nat->S.W)(A:Nat->Nat->S.W)(b:Nat->S.W)(h w:Nat) :
    sm S (λj=>S.mul (sm S (λi=>S.mul (r i) (A i j)) h) (b j)) w=sm S (λi=>S.mul (r i) (sm S (λj=>S.mul (A i j) (b j)) w)) h:=by
 have e1:∀j,j < w->S.mul (sm S (λi=>S.mul (r i) (A i j)) h) (b j)=sm S (λi=>S.mul (r i) (S.mul (A i j) (b j))) h:=λj _=>by
  rw[QC];exact j0 λi _=>S.mul_assoc _ _ _
 have e2:∀i,i < h->S.mul (r i) (sm S (λj=>S.mul (A i j) (b j)) w)=sm S (λj=>S.mul (r i) (S.mul (A i j) (b j))) w:=λi _=>Hu _ _ _;rw[j0 e1,j0 e2,QB]
end
structure S7(S:SR)where
 neg:S.W->S.W
 inv:S.W->S.W
 add_neg:∀x,S.add x (neg x)=S.zero
 mul_inv:∀x,x≠S.zero->S.mul x (inv x)=S.one
 sz_neg:∀m x,S.sz m x->S.sz m (neg x)
 sz_inv:∀m x,x≠S.zero->S.sz m x->S.sz m (inv x)
section
variable{S:SR}{F:S7 S}
def JD(x:S.W):S.add S.zero x=x:=by rw[S.add_comm,S.add_zero]
def AZ(x:S.W):S.mul S.zero x=S.zero:=by rw[S.mul_comm,S.mul_zero]
def JE(x:S.W):S.mul S.one x=x:=by rw[S.mul_comm,S.mul_one]
def XH(x y z:S.W):S.mul (S.add x y) z=S.add (S.mul x z) (S.mul y z):=by rw[S.mul_comm,S.distrib,S.mul_comm z x,S.mul_comm z y]
def Es(h:S.add x y=S.zero):y=F.neg x:=by
 have e:S.add (F.neg x) (S.add x y)=y:=by rw[<- S.add_assoc,S.add_comm (F.neg x) x,F.add_neg,JD]
 rw[h,S.add_zero]at e;exact e.symm
def XE:F.neg S.zero=S.zero:=(Es (F:=F) (S.add_zero S.zero)).symm
def VF(x:S.W):F.neg (F.neg x)=x:=(Es (F:=F) (by rw[S.add_comm,F.add_neg])).symm
def JF(x y:S.W):S.mul (F.neg x) y=F.neg (S.mul x y):=Es (by rw[<- XH,F.add_neg,AZ])
def SH(x y:S.W):S.mul x (F.neg y)=F.neg (S.mul x y):=by rw[S.mul_comm,JF,S.mul_comm]
def XF(x y:S.W):F.neg (S.add x y)=S.add (F.neg x) (F.neg y):=(Es (F:=F) (by
 rw[S.add_assoc,<- S.add_assoc y,S.add_comm y,S.add_assoc,F.add_neg,S.add_zero,F.add_neg])).symm
def n0x(h:S.add x (F.neg y)=S.zero):x=y:=by
 have e:=Es (F:=F) (show S.add (F.neg y) x=S.zero by rw[S.add_comm];exact h);rw[e,VF]
def n0w:S.one≠S.zero:=λh=>S.zo h.symm
def b0g(a b c d:S.W):S.add (S.add a b) (S.add c d)=S.add (S.add a c) (S.add b d):=by
 rw[S.add_assoc,S.add_assoc];congr 1;rw[<- S.add_assoc,S.add_comm b c,S.add_assoc]
theorem P9:∀{n:Nat},i < n->(∀k,k < n->k≠i->f k=S.zero)->sm S f n=f i
 | 0,h,_=>absurd h (cK _)
 | n+1,h,z=>by
  show S.add _ _=_;by_cases e:i=n
  . subst e;rw[j0 (g:=λ_=>S.zero) (λk hk=>z k Y Y),D8,JD]
  . rw[P9 (i:=i) Y (λk hk hn=>z k Y hn),z n Y Y,S.add_zero]
def BZ(i k:Nat):Nat:=if k < i then k else k+1
theorem KQ(f:Nat->S.W):∀(n i:Nat),i < n+1->sm S f (n+1)=S.add (f i) (sm S (λk=>f (BZ i k)) n)
 | 0,i,h=>by
  have:i=0:=by omega
  subst this;show S.add S.zero (f 0)=S.add (f 0) S.zero;exact S.add_comm _ _
 | n+1,i,h=>by
  by_cases e:i=n+1
  . subst e;show S.add (sm S f (n+1)) (f (n+1))=_;rw[S.add_comm];congr 1;exact j0 λk hk=>by unfold BZ;rw[if_pos hk]
  . show S.add (sm S f (n+1)) (f (n+1))=S.add (f i) (S.add (sm S (λk=>f (BZ i k)) n) (f (BZ i n)));rw[KQ f n i Y,S.add_assoc];congr 3;unfold BZ;rw[if_neg Y]
def lin(S:SR)(c:Nat->S.W)(vs:Nat->Nat->S.W)(n:Nat):Nat->S.W:=λj=>sm S (λk=>S.mul (c k) (vs k j)) n
def Xs(c d:Nat->S.W)(vs:Nat->Nat->S.W)(n j:Nat):lin S (λk=>S.add (c k) (d k)) vs n j=S.add (lin S c vs n j) (lin S d vs n j):=by
 unfold lin;rw[<- W4];exact j0 λk _=>XH _ _ _
def LJ(a:S.W)(c:Nat->S.W)(vs:Nat->Nat->S.W)(n j:Nat):lin S (λk=>S.mul a (c k)) vs n j=S.mul a (lin S c vs n j):=by
 unfold lin;rw[Hu];exact j0 λk _=>S.mul_assoc _ _ _
def Vj(vs:Nat->Nat->S.W)(n j:Nat):lin S (λ_=>S.zero) vs n j=S.zero:=by
 unfold lin;rw[j0 (g:=λ_=>S.zero) λk _=>AZ _,D8]
def QO(h:i < n):lin S (λk=>if k=i then S.one else S.zero) vs n j=vs i j:=by
 unfold lin;rw[P9 (i:=i) h λk _ hk=>by dsimp only;rw[if_neg hk,AZ]];dsimp only;rw[if_pos U,JE]
def QP(c:Nat->S.W)(A:Nat->Nat->S.W)(vs:Nat->Nat->S.W)(m n j:Nat):sm S (λi=>S.mul (c i) (lin S (A i) vs n j)) m=lin S (λk=>sm S (λi=>S.mul (c i) (A i k)) m) vs n j:=(BY c A (λk=>vs k j) m n).symm
def M8(S:SR)(w n:Nat)(vs:Nat->Nat->S.W)(u:Nat->S.W):Prop:=∃c,∀j,j < w->u j=lin S c vs n j
theorem M8.add(h:M8 S w n vs u)(g:M8 S w n vs v):M8 S w n vs λj=>S.add (u j) (v j):=by
 obtain⟨c,hc⟩:=h;obtain⟨d,hd⟩:=g;exact⟨λk=>S.add (c k) (d k),λj hj=>by dsimp only;rw[Xs,hc j hj,hd j hj]⟩
theorem M8.mul(a:S.W)(h:M8 S w n vs u):M8 S w n vs λj=>S.mul a (u j):=by
 obtain⟨c,hc⟩:=h;exact⟨λk=>S.mul a (c k),λj hj=>by dsimp only;rw[LJ,hc j hj]⟩
def M8.gen(h:i < n):M8 S w n vs (vs i):=⟨_,λj _=>(QO h).symm⟩
theorem M8.lin(h:∀i,i < m->M8 S w n vs (us i)):M8 S w n vs (lin S c us m):=by
 have hc:∀i,∃d:Nat->S.W,i < m->∀j,j < w->us i j=Mine.lin S d vs n j:=λi=>by
  by_cases hi:i < m
  . obtain⟨d,hd⟩:=h i hi;exact⟨d,λ_=>hd⟩
  . exact⟨λ_=>S.zero,λz=>absurd z hi⟩
 refine⟨λk=>sm S (λi=>S.mul (c i) ((hc i).choose k)) m,λj hj=>?_⟩;rw[<- QP c λi=>(hc i).choose];exact j0 λi hi=>by rw[(hc i).choose_spec hi j hj]
def M8.congr(h:M8 S w n vs u)(e:∀j,j < w->v j=u j):M8 S w n vs v:=by
 obtain⟨c,hc⟩:=h;exact⟨c,λj hj=>by rw[e j hj,hc j hj]⟩
def Qr(S:SR)(w n:Nat)(vs:Nat->Nat->S.W):Prop:=∀c,(∀j,j < w->lin S c vs n j=S.zero)->∀k,k < n->c k=S.zero
theorem Vq(F:S7 S):∀(n m:Nat) (A:Nat->Nat->S.W),n < m->∃x:Nat->S.W,(∃i,i < m/\x i≠S.zero)/\∀k,k < n->sm S (λi=>S.mul (x i) (A i k)) m=S.zero
 | 0,m,A,h=>⟨λ_=>S.one,⟨0,h,n0w⟩,λk hk=>absurd hk (cK k)⟩
 | n+1,m,A,h=>by
  by_cases z:∀i,i < m->A i n=S.zero
  . obtain⟨x,hx,e⟩:=Vq F n m A Y;refine⟨x,hx,λk hk=>?_⟩;by_cases hn:k=n
    . subst hn;rw[j0 (g:=λ_=>S.zero) λi hi=>by rw[z i hi,S.mul_zero],D8]
    . exact e k Y
  . obtain⟨p,hp⟩:=Classical.not_forall.mp z;obtain⟨pm,pn⟩:=Classical.not_imp.mp hp;obtain⟨m',rfl⟩:∃m',m=m'+1:=⟨m - 1,Y⟩;obtain⟨x,⟨i,hi,xi⟩,e⟩:=Vq F n m' (λi k=>S.add (A (BZ p i) k) (F.neg (S.mul (S.mul (A (BZ p i) n) (F.inv (A p n))) (A p k)))) Y
    let y0:S.W:=F.neg (sm S (λi=>S.mul (x i) (S.mul (A (BZ p i) n) (F.inv (A p n)))) m')
    let y:Nat->S.W:=λk=>if k=p then y0 else if k < p then x k else x (k - 1)
    have yp:y p=y0:=if_pos rfl;have ys:∀k,y (BZ p k)=x k:=λk=>by
     show(if BZ p k=p then y0 else if BZ p k < p then x (BZ p k)else x (BZ p k - 1))=x k;unfold BZ;by_cases hk:k < p
     . rw[if_pos hk,if_neg Y,if_pos hk]
     . rw[if_neg hk,if_neg Y,if_neg Y];rfl
    have fc:∀k,sm S (λi=>S.mul (y i) (A i k)) (m'+1)=sm S (λi=>S.mul (x i) (S.add (A (BZ p i) k) (F.neg (S.mul (S.mul (A (BZ p i) n) (F.inv (A p n))) (A p k))))) m':=λk=>by
     rw[KQ _ m' p pm,yp];rw[j0 (n:=m') (g:=λi=>S.mul (x i) (A (BZ p i) k)) λi _=>by rw[ys]];rw[j0 (n:=m') (g:=λi=>S.add (S.mul (x i) (A (BZ p i) k)) (F.neg (S.mul (S.mul (x i) (S.mul (A (BZ p i) n) (F.inv (A p n)))) (A p k)))) (f:=λi=>S.mul (x i) (S.add (A (BZ p i) k) (F.neg (S.mul (S.mul (A (BZ p i) n) (F.inv (A p n))) (A p k))))) λi _=>by
      rw[S.distrib,SH,S.mul_assoc (x i)]]
     rw[W4,S.add_comm];congr 1;show S.mul (F.neg _) (A p k)=_;rw[JF,QC];symm;refine Es ?_;rw[<- W4];rw[j0 (g:=λ_=>S.zero) λi _=>F.add_neg _,D8]
    refine⟨y,⟨BZ p i,by unfold BZ;split <;>omega,by rw[ys];exact xi⟩,λk hk=>?_⟩;rw[fc];by_cases hn:k=n
    . subst hn;rw[j0 (g:=λ_=>S.zero) λi _=>by rw[S.mul_assoc,S.mul_comm (F.inv _),F.mul_inv _ pn,S.mul_one,F.add_neg,S.mul_zero],D8]
    . exact e k Y
def AG(F:S7 S)(h:Qr S w m us)(g:∀i,i < m->M8 S w n vs (us i)):m<=n:=by
 refine Classical.byContradiction λz=>?_;have hc:∀i,∃d:Nat->S.W,i < m->∀j,j < w->us i j=lin S d vs n j:=λi=>by
  by_cases hi:i < m
  . obtain⟨d,hd⟩:=g i hi;exact⟨d,λ_=>hd⟩
  . exact⟨λ_=>S.zero,λz=>absurd z hi⟩
 obtain⟨x,⟨i,hi,xi⟩,e⟩:=Vq F n m (λi k=>(hc i).choose k) Y;refine xi (h x (λj hj=>?_) i hi);show sm S (λk=>S.mul (x k) (us k j)) m=_;rw[j0 (g:=λk=>S.mul (x k) (lin S ((hc k).choose) vs n j)) λk hk=>by rw[(hc k).choose_spec hk j hj],QP x λi=>(hc i).choose];show sm S (λk=>S.mul _ _) n=_;rw[j0 (g:=λ_=>S.zero) λk hk=>by rw[e k hk,AZ],D8]
def a0w(p:Nat->Nat)(hp:∀i,i < n->p i < w)(h1:∀i,i < n->vs i (p i)=S.one)(h0:∀i j,i < j->j < n->vs j (p i)=S.zero):Qr S w n vs:=by
 intro c hc;have fc:∀m k,k < m->k < n->c k=S.zero:=by
  intro m
  induction m with
  | zero=>intro k hk;omega
  | succ m ih=>
   intro k hk hn;have e:=hc (p k) (hp k hn);unfold lin at e;rw[P9 (i:=k) hn λi hi ne=>?_,h1 k hn,S.mul_one]at e
   . exact e
   . by_cases lt:i < k
     . rw[ih i Y hi,AZ]
     . rw[h0 k i Y hi,S.mul_zero]
 exact λk hk=>fc (k+1) k (ck k) hk
def stp(F:S7 S)(k:Nat × (Nat->S.W))(r:Nat->S.W):Nat->S.W:=λj=>S.add (r j) (S.mul (F.neg (r k.1)) (k.2 j))
def clr(F:S7 S)(ks:List (Nat × (Nat->S.W)))(r:Nat->S.W):Nat->S.W:=ks.foldl (λr k=>stp F k r) r
def P2(k:Nat × (Nat->S.W))(ks:List (Nat × (Nat->S.W)))(r:Nat->S.W):clr F (k::ks) r=clr F ks (stp F k r):=rfl
def Bc(k:Nat × (Nat->S.W))(ks:List (Nat × (Nat->S.W)))(r:Nat->S.W):clr F (ks++[k]) r=stp F k (clr F ks r):=by
 unfold clr;rw[cM];rfl
def Mu(h:r k.1=S.zero):stp F k r=r:=by
 funext j;unfold stp;rw[h,XE,AZ,S.add_zero]
def Wv(k:Nat × (Nat->S.W))(u v:Nat->S.W):stp F k (λj=>S.add (u j) (v j))=λj=>S.add (stp F k u j) (stp F k v j):=by
 funext j;unfold stp;rw[XF,XH,b0g]
def Wu(k:Nat × (Nat->S.W))(a:S.W)(u:Nat->S.W):stp F k (λj=>S.mul a (u j))=λj=>S.mul a (stp F k u j):=by
 funext j;unfold stp;rw[S.distrib,<- S.mul_assoc,SH]
theorem Rv:∀(ks:List (Nat × (Nat->S.W))) (u v:Nat->S.W),clr F ks (λj=>S.add (u j) (v j))=λj=>S.add (clr F ks u j) (clr F ks v j)
 | [],_,_=>rfl
 | k::ks,u,v=>by rw[P2,Wv,Rv ks];rfl
theorem Rt:∀(ks:List (Nat × (Nat->S.W))) (a:S.W) (u:Nat->S.W),clr F ks (λj=>S.mul a (u j))=λj=>S.mul a (clr F ks u j)
 | [],_,_=>rfl
 | k::ks,a,u=>by rw[P2,Wu,Rt ks];rfl
theorem Oc:∀(ks:List (Nat × (Nat->S.W))),clr F ks (λ_=>S.zero)=λ_=>S.zero
 | []=>rfl
 | k::ks=>by rw[P2,Mu U,Oc ks]
theorem Ru(ks:List (Nat × (Nat->S.W)))(c:Nat->S.W)(vs:Nat->Nat->S.W):∀n,clr F ks (lin S c vs n)=lin S c (λk=>clr F ks (vs k)) n
 | 0=>Oc ks
 | n+1=>by
  have e:lin S c vs (n+1)=λj=>S.add (lin S c vs n j) (S.mul (c n) (vs n j)):=rfl;rw[e,Rv,Ru ks c vs n,Rt];rfl
theorem Iu:∀{ks:List (Nat × (Nat->S.W))} {u v:Nat->S.W},(∀k∈ks,k.1 < w)->(∀j,j < w->u j=v j)->∀j,j < w->clr F ks u j=clr F ks v j
 | [],_,_,_,e=>e
 | k::ks,u,v,h,e=>by
  rw[P2,P2];refine Iu (λq hq=>h q (aC _ hq)) λj hj=>?_;unfold stp;rw[e j hj,e k.1 (h k (aF ..))]
structure Kp(S:SR)(w:Nat)(ks:List (Nat × (Nat->S.W))):Prop where
 lt:∀k∈ks,k.1 < w
 one:∀k∈ks,k.2 k.1=S.one
 tri:ks.Pairwise λa b=>b.2 a.1=S.zero
theorem Kp.nil:Kp S w []:=⟨by simp,by simp,.nil⟩
theorem Fy:∀{ks:List (Nat × (Nat->S.W))} {u:Nat->S.W},(∀k∈ks,k.2 p=S.zero)->clr F ks u p=u p
 | [],_,_=>rfl
 | k::ks,u,h=>by
  rw[P2,Fy λq hq=>h q (aC _ hq)];unfold stp;rw[h k (aF ..),S.mul_zero,S.add_zero]
def Kp.tail(h:Kp S w (k::ks)):Kp S w ks:=⟨λq hq=>h.lt q (aC _ hq),λq hq=>h.one q (aC _ hq),(List.pairwise_cons.mp h.tri).2⟩
theorem Kp.clr:∀{ks:List (Nat × (Nat->S.W))} {u:Nat->S.W},Kp S w ks->∀k∈ks,clr F ks u k.1=S.zero
 | [],_,_,k,hk=>by cases hk
 | q::ks,u,h,k,hk=>by
  rw[P2];rcases aD.mp hk with rfl | hk
  . rw[Fy λb hb=>(List.pairwise_cons.mp h.tri).1 b hb];unfold stp;rw[h.one k (aF ..),S.mul_one,F.add_neg]
  . exact Kp.clr h.tail k hk
theorem PL:∀(w:Nat) (l:List Nat),l.Nodup->(∀x∈l,x < w)->l.length<=w
 | 0,l,_,h=>by
  cases l with
  | nil=>exact ae _
  | cons a l=>exact absurd (h a (aF ..)) (cK _)
 | w+1,l,nd,h=>by
  have:=PL w (l.erase w) (nd.erase w) λx hx=>by
   have h1:=(nd.mem_erase_iff.mp hx);have:=h x h1.2;have:=h1.1;omega
  have e:=List.length_erase (a:=w) (l:=l);split at e <;>omega
def Ql{w:Nat}{l:List Nat}(nd:l.Nodup)(h:∀x∈l,x < w)(e:l.length=w){j:Nat}(hj:j < w):j∈l:=by
 refine Classical.byContradiction λn=>?_;have:=PL w (j::l) (cn.mpr ⟨n,nd⟩) λx hx=>by
  rcases aD.mp hx with rfl | hx
  . exact hj
  . exact h x hx
 rw[bM]at this;omega
def Kp.places(h:Kp S w ks):(ks.map Prod.fst).Nodup:=by
 rw[List.nodup_iff_pairwise_ne,cH];refine List.Pairwise.imp_of_mem (λ{a b} ha hb e z=>?_) h.tri;have:=h.one b hb;rw[<- z,e]at this;exact S.zo this
def Kp.len(h:Kp S w ks):ks.length<=w:=by
 have:=PL w _ h.places λx hx=>by
  obtain⟨k,hk,rfl⟩:=aw.mp hx;exact h.lt k hk
 rw[af]at this;exact this
def Kp.full{w:Nat}{ks:List (Nat × (Nat->S.W))}{u:Nat->S.W}(h:Kp S w ks)(e:ks.length=w):∀j,j < w->Mine.clr F ks u j=S.zero:=λj hj=>by
 have:=Ql h.places (λx hx=>by
  obtain⟨k,hk,rfl⟩:=aw.mp hx;exact h.lt k hk) (by rw[af];exact e) hj
 obtain⟨k,hk,rfl⟩:=aw.mp this;exact h.clr k hk
open Classical in
noncomputable def AU(v:Nat->S.W):Nat->Option Nat
 | 0=>none
 | w+1=>match AU v w with
  | some p=>some p
  | none=>if v w=S.zero then none else some w
theorem V0:∀{w:Nat},AU v w=none->∀j,j < w->v j=S.zero
 | 0,_,j,hj=>absurd hj (cK j)
 | w+1,h,j,hj=>by
  unfold AU at h;split at h
  . cases h
  . rename_i e;split at h
    . rename_i z;by_cases e':j=w
      . rw[e'];exact z
      . exact V0 e j Y
    . cases h
theorem M4:∀{w:Nat},AU v w=some p->p < w/\v p≠S.zero/\∀j,j < p->v j=S.zero
 | 0,h=>by cases h
 | w+1,h=>by
  unfold AU at h;split at h
  . rename_i q e;cases h;obtain⟨a,b⟩:=M4 e;exact⟨Y,b⟩
  . rename_i e;split at h
    . cases h
    . rename_i z;cases h;exact⟨Y,z,V0 e⟩
def LK(h:∀j,j < w->v j=S.zero):AU v w=none:=by
 cases e:AU v w with
 | none=>rfl
 | some p=>exact absurd (h p (M4 e).1) (M4 e).2.1
open Classical in
noncomputable def AV(F:S7 S)(w:Nat)(ks:List (Nat × (Nat->S.W)))(r:Nat->S.W):List (Nat × (Nat->S.W)):=
 if ks.length=w then ks else match AU (clr F ks r) w with
  | none=>ks
  | some p=>ks++[(p,λj=>S.mul (F.inv (clr F ks r p)) (clr F ks r j))]
def Q6(M:List (Nat × (Nat->S.W))->Prop)(h1:ks.length=w->M ks)(h2:(∀j,j < w->clr F ks r j=S.zero)->M ks)(h3:∀p,p < w->clr F ks r p≠S.zero->M (ks++[(p,λj=>S.mul (F.inv (clr F ks r p)) (clr F ks r j))])):M (AV F w ks r):=by
 unfold AV;split
 . rename_i e;exact h1 e
 . split
   . rename_i e;exact h2 (V0 e)
   . rename_i p e;exact h3 p (M4 e).1 (M4 e).2.1
def PN(h:Kp S w ks):Kp S w (AV F w ks r):=by
 refine Q6 (λl=>Kp S w l) (λ_=>h) (λ_=>h) λp hp np=>?_;refine⟨λk hk=>?_,λk hk=>?_,List.pairwise_append.mpr ⟨h.tri,List.pairwise_singleton _ _,λa ha b hb=>?_⟩⟩
 . rcases aH.mp hk with hk | hk
   . exact h.lt k hk
   . rw[ax.mp hk];exact hp
 . rcases aH.mp hk with hk | hk
   . exact h.one k hk
   . rw[ax.mp hk];show S.mul _ _=_;rw[S.mul_comm,F.mul_inv _ np]
 . rw[ax.mp hb];show S.mul _ (clr F ks r a.1)=_;rw[h.clr a ha,S.mul_zero]
def QQ(z:∀j,j < w->clr F ks u j=S.zero):∀j,j < w->clr F (AV F w ks r) u j=S.zero:=by
 refine Q6 (λl=>∀j,j < w->clr F l u j=S.zero) (λ_=>z) (λ_=>z) λp hp np j hj=>?_;rw[Bc];unfold stp;rw[z j hj,z p hp,XE,AZ,S.add_zero]
def QR(h:Kp S w ks):∀j,j < w->clr F (AV F w ks r) r j=S.zero:=by
 refine Q6 (λl=>∀j,j < w->clr F l r j=S.zero) (λe=>h.full e) (λz=>z) λp hp np j hj=>?_;rw[Bc];show S.add _ (S.mul (F.neg (clr F ks r p)) (S.mul (F.inv _) _))=_;rw[<- S.mul_assoc,JF,F.mul_inv _ np,JF,JE,F.add_neg]
noncomputable def kpL(F:S7 S)(w:Nat)(rs:List (Nat->S.W)):List (Nat × (Nat->S.W)):=rs.foldl (AV F w) []
def Fn:kpL F w (rs++[r])=AV F w (kpL F w rs) r:=by
 unfold kpL;rw[cM];rfl
def CZ(M:List (Nat->S.W)->List (Nat × (Nat->S.W))->Prop)(h0:M [] [])(h1:∀rs ks r,Kp S w ks->M rs ks->M (rs++[r]) (AV F w ks r))(rs:List (Nat->S.W)):Kp S w (kpL F w rs)/\M rs (kpL F w rs):=by
 have fc:∀n rs,rs.length=n->Kp S w (kpL F w rs)/\M rs (kpL F w rs):=by
  intro n
  induction n with
  | zero=>
   intro rs e;cases bz.mp e;exact⟨Kp.nil,h0⟩
  | succ n ih=>
   intro rs e;have ne:rs≠[]:=λz=>by rw[z]at e;cases e
   have sp:=de ne;obtain⟨a,b⟩:=ih rs.dropLast (by rw[df,e];rfl);rw[<- sp,Fn];exact⟨PN a,h1 _ _ _ a b⟩
 exact fc _ rs rfl
def W8(rs:List (Nat->S.W)):Kp S w (kpL F w rs):=(CZ (λ_ _=>True) trivial (λ_ _ _ _ _=>trivial) rs).1
def Xw(rs:List (Nat->S.W)):∀r∈rs,∀j,j < w->clr F (kpL F w rs) r j=S.zero:=(CZ (λrs ks=>∀r∈rs,∀j,j < w->clr F ks r j=S.zero) (by simp) (λrs ks r K M q hq=>by
 rcases aH.mp hq with hq | hq
 . exact QQ (M q hq)
 . rw[ax.mp hq];exact QR K) rs).2
def Xv(rs:List (Nat->S.W)):(kpL F w rs).length<=rs.length:=(CZ (λrs ks=>ks.length<=rs.length) (ae _) (λrs ks r K M=>by
 rw[aq];refine Q6 (λl=>l.length<=rs.length+1) (λ_=>by omega) (λ_=>by omega) λp _ _=>?_;rw[aq];show _+1<=_+1;omega) rs).2
def kv(ks:List (Nat × (Nat->S.W))):Nat->Nat->S.W:=λi=>(ks.getD i (0,λ_=>S.zero)).2
def kp(ks:List (Nat × (Nat->S.W))):Nat->Nat:=λi=>(ks.getD i (0,λ_=>S.zero)).1
def AW{ks:List (Nat × (Nat->S.W))}{i:Nat}(h:i < ks.length):ks.getD i (0,λ_=>S.zero)∈ks:=by
 rw[aR,ah h];exact aJ h
def Kp.ind{w:Nat}{ks:List (Nat × (Nat->S.W))}(h:Kp S w ks):Qr S w ks.length (kv ks):=by
 refine a0w (kp ks) (λi hi=>h.lt _ (AW hi)) (λi hi=>h.one _ (AW hi)) λi j iS hj=>?_;have:=dg.mp h.tri i j Y hj iS;unfold kv kp;rw[aR,ah hj,aR,ah (by omega:i < ks.length)];exact this
theorem Rr:∀{ks:List (Nat × (Nat->S.W))} {u:Nat->S.W},(∀k∈ks,M8 S w n vs k.2)->M8 S w n vs u->M8 S w n vs (clr F ks u)
 | [],_,_,h=>h
 | k::ks,u,hk,h=>by
  rw[P2];exact Rr (λq hq=>hk q (aC _ hq)) (h.add ((hk k (aF ..)).mul _))
def Xx(h:∀k∈ks,M8 S w n vs k.2)(g:M8 S w n vs r):∀k∈AV F w ks r,M8 S w n vs k.2:=by
 refine Q6 (λl=>∀k∈l,M8 S w n vs k.2) (λ_=>h) (λ_=>h) λp hp np k hk=>?_;rcases aH.mp hk with hk | hk
 . exact h k hk
 . rw[ax.mp hk];exact(Rr h g).mul _
def Fm(rs:List (Nat->S.W))(h:∀r∈rs,M8 S w n vs r):∀k∈kpL F w rs,M8 S w n vs k.2:=by
 refine(CZ (F:=F) (w:=w) (λrs ks=>(∀r∈rs,M8 S w n vs r)->∀k∈ks,M8 S w n vs k.2) (λ_=>by simp) (λrs ks r K M h=>?_) rs).2 h;exact Xx (M λq hq=>h q (bC _ hq)) (h r (aP _ (cP r)))
theorem Bd:∀{ks:List (Nat × (Nat->S.W))} {u:Nat->S.W},(∀k∈ks,M8 S w n vs k.2)->M8 S w n vs (λj=>S.add (clr F ks u j) (F.neg (u j)))
 | [],u,_=>⟨λ_=>S.zero,λj _=>by rw[Vj];exact F.add_neg _⟩
 | k::ks,u,hk=>by
  rw[P2];have h1:=Bd (u:=stp F k u) λq hq=>hk q (aC _ hq);have h2:=(hk k (aF ..)).mul (F.neg (u k.1));refine(h1.add h2).congr λj _=>?_;show _=S.add (S.add _ (F.neg (S.add (u j) (S.mul (F.neg (u k.1)) (k.2 j))))) _;rw[XF,S.add_assoc,S.add_assoc,S.add_comm (F.neg (S.mul _ _)),F.add_neg,S.add_zero]
def NG(rs:List (Nat->S.W)):∀r∈rs,M8 S w (kpL F w rs).length (kv (kpL F w rs)) r:=λr hr=>by
 have h:=Bd (F:=F) (w:=w) (n:=(kpL F w rs).length) (vs:=kv (kpL F w rs)) (ks:=kpL F w rs) (u:=r) λk hk=>by
  obtain⟨i,hi,e⟩:=dC hk;have:=M8.gen (S:=S) (w:=w) (vs:=kv (kpL F w rs)) hi;have e2:kv (kpL F w rs) i=k.2:=by
   unfold kv;rw[aR,ah hi,<- e];rfl
  rw[e2]at this;exact this
 refine(h.mul (F.neg S.one)).congr λj hj=>?_;rw[Xw rs r hr j hj,JD,JF,JE,VF]
def Da{w n:Nat}{vs:Nat->Nat->S.W}(rs:List (Nat->S.W))(h:∀r∈rs,M8 S w n vs r)(g:Qr S w n vs)(m:∀i,i < n->∃r∈rs,∀j,j < w->vs i j=r j):(kpL F w rs).length=n:=by
 have h1:(kpL F w rs).length<=n:=AG F (W8 (F:=F) rs).ind λi hi=>Fm rs h _ (AW hi);have h2:n<=(kpL F w rs).length:=AG F g λi hi=>by
  obtain⟨r,hr,e⟩:=m i hi;exact(NG rs r hr).congr e
 omega
def Rl(S:SR)(w n:Nat)(rs:Nat->Nat->S.W)(u v:Nat->S.W):Prop:=∀j,j < w->v j=S.add (u j) (lin S (λk=>v (w+k)) rs n j)
theorem Rl.mul(a:S.W)(h:Rl S w n rs (λ_=>S.zero) v):Rl S w n rs (λ_=>S.zero) λj=>S.mul a (v j):=λj hj=>by
 show S.mul a (v j)=_;rw[h j hj,JD,JD,<- LJ]
end
structure Cb(S:SR)where
 cb:Nat->Nat->S.W->Prop
 mono:∀b t t' x,t<=t'->cb b t x->cb b t' x
 add:∀b t t' x y,cb b t x->cb b t' y->cb b (t+t') (S.add x y)
 mul:∀b b' t t' x y,cb b t x->cb b' t' y->cb (b * b') (t * t') (S.mul x y)
 up:∀b t k x,0 < k->cb b t x->cb (b * k) (t * k) x
 zero:∀b,0 < b->cb b 0 S.zero
 one:cb 1 1 S.one
 neg:∀b t x y,S.add x y=S.zero->cb b t x->cb b t y
 div:∀b t x z,S.mul x z=S.one->cb b t x->∃c,0 < c/\c<=max 1 t/\∀y t',cb b t' y->cb c t' (S.mul z y)
 sz:∀b t m x,b<=2 ^ m->t<=2 ^ m->cb b t x->S.sz m x
 dr:∀x,S.sz 2 x->cb 12 48 x
def Fr.cb(b t:Nat)(x:Fr):Prop:=0 < b/\∃a:Int,x.t * b=a * x.b/\a.natAbs<=t
def Fr.cb_add{b t t':Nat}{x y:Fr}(h:x.cb b t)(h':y.cb b t'):(Fr.add x y).cb b (t+t'):=by
 obtain⟨hb,a,e,l⟩:=h;obtain⟨_,a',e',l'⟩:=h';refine⟨hb,a+a',?_,by have:=Int.natAbs_add_le a a';omega⟩;have hc:(Fr.add x y).t * (x.b * y.b)=(x.t * y.b+y.t * x.b) * (Fr.add x y).b:=Fr.of_cross _ _ (aL x.p y.p);refine bx (cD x.nb y.nb) ?_;rw[aV,hc];have e2:(x.t * y.b+y.t * x.b) * (Fr.add x y).b * b=((x.t * b) * y.b+(y.t * b) * x.b) * (Fr.add x y).b:=by
  rw[aV,Int.add_mul,aV x.t,aV y.t]
 rw[e2,e,e'];have e3:a * x.b * y.b+a' * y.b * x.b=(a+a') * (x.b * y.b):=by
  rw[Int.add_mul,aG,aG a',aI y.b x.b]
 rw[e3,aV]
def Fr.cb_mul{b b' t t':Nat}{x y:Fr}(h:x.cb b t)(h':y.cb b' t'):(Fr.mul x y).cb (b * b') (t * t'):=by
 obtain⟨hb,a,e,l⟩:=h;obtain⟨ia,a',e',l'⟩:=h';refine⟨bZ hb ia,a * a',?_,by rw[bw];exact aX l l'⟩;have hc:(Fr.mul x y).t * (x.b * y.b)=(x.t * y.t) * (Fr.mul x y).b:=Fr.of_cross _ _ (aL x.p y.p);refine bx (cD x.nb y.nb) ?_;rw[aV,hc,Int.natCast_mul];have e2:x.t * y.t * (Fr.mul x y).b * ((b:Int) * b')=(x.t * b) * (y.t * b') * (Fr.mul x y).b:=by ac_rfl
 rw[e2,e,e'];ac_rfl
def Fr.cb_up{b t k:Nat}{x:Fr}(hk:0 < k)(h:x.cb b t):x.cb (b * k) (t * k):=by
 obtain⟨hb,a,e,l⟩:=h;refine⟨bZ hb hk,a * k,?_,by rw[bw,Int.natAbs_natCast];exact bh _ l⟩;rw[Int.natCast_mul,<- aG,e,aV]
def Fr.cb_neg{b t:Nat}{x y:Fr}(hz:Fr.add x y=Fr.zero)(h:x.cb b t):y.cb b t:=by
 obtain⟨hb,a,e,l⟩:=h;have hc:(Fr.add x y).t * (x.b * y.b)=(x.t * y.b+y.t * x.b) * (Fr.add x y).b:=Fr.of_cross _ _ (aL x.p y.p);rw[hz]at hc;have hc:0 * (x.b * y.b)=(x.t * y.b+y.t * x.b) * 1:=hc;rw[Int.zero_mul,bU]at hc;refine⟨hb,-a,?_,by rw[Int.natAbs_neg];exact l⟩;refine bx x.nb ?_;have e1:y.t * x.b = -(x.t * y.b):=by omega
 rw[aV,e1,cB,cB,cB,aV,e];congr 1;ac_rfl
def Fr.cb_div{b t:Nat}{x z:Fr}(ho:Fr.mul x z=Fr.one)(h:x.cb b t):∃c,0 < c/\c<=max 1 t/\∀(y:Fr) t',y.cb b t'->(Fr.mul z y).cb c t':=by
 obtain⟨hb,a,e,l⟩:=h;have hc:(Fr.mul x z).t * (x.b * z.b)=(x.t * z.t) * (Fr.mul x z).b:=Fr.of_cross _ _ (aL x.p z.p);rw[ho]at hc;have hc:1 * (x.b * z.b)=(x.t * z.t) * 1:=hc;rw[Int.one_mul,bU]at hc;have hz:z.t * a=z.b * b:=by
  refine bx x.nb ?_;have:z.t * a * x.b=z.t * (x.t * b):=by rw[e];ac_rfl
  rw[this];have:z.t * (x.t * b)=(x.t * z.t) * b:=by ac_rfl
  rw[this,<- hc];ac_rfl
 have ha:a≠0:=λz0=>by
  rw[z0,Int.mul_zero]at hz;rcases Int.mul_eq_zero.mp hz.symm with q | q
  . exact z.nb q
  . omega
 refine⟨a.natAbs,Int.natAbs_pos.mpr ha,Y,λy t' hy=>?_⟩;obtain⟨_,a',e',l'⟩:=hy;have fc:(Fr.mul z y).t * a=a' * (Fr.mul z y).b:=by
  have hc:(Fr.mul z y).t * (z.b * y.b)=(z.t * y.t) * (Fr.mul z y).b:=Fr.of_cross _ _ (aL z.p y.p);refine bx (cD z.nb y.nb) ?_;rw[aV,hc];have e1:z.t * y.t * (Fr.mul z y).b * a=(z.t * a) * y.t * (Fr.mul z y).b:=by ac_rfl
  have e2:a' * (Fr.mul z y).b * (z.b * y.b)=(a' * y.b) * z.b * (Fr.mul z y).b:=by ac_rfl
  rw[e1,e2,hz,<- e'];ac_rfl
 refine⟨Int.natAbs_pos.mpr ha,?_⟩;rcases Int.natAbs_eq a with q | q
 . exact⟨a',by rw[<- q];exact fc,l'⟩
 . refine⟨-a',?_,by rw[Int.natAbs_neg];exact l'⟩;have:((a.natAbs:Nat):Int) = -a:=by omega
   rw[this,Int.mul_neg,cB,fc]
def Fr.cb_sz{b t m:Nat}{x:Fr}(hb:b<=2 ^ m)(ht:t<=2 ^ m)(h:x.cb b t):x.sz m:=by
 obtain⟨pb,a,e,l⟩:=h;have cop:Nat.Coprime x.t.natAbs x.b.natAbs:=by
  have l:=x.l;unfold dv at l;have:Int.gcd x.t x.b=1:=by omega
  exact this
 have e':x.t.natAbs * b=a.natAbs * x.b.natAbs:=by
  have:=congrArg Int.natAbs e;rw[bw,bw,Int.natAbs_natCast]at this;exact this
 constructor
 . have d:x.t.natAbs ∣ a.natAbs:=cop.dvd_of_dvd_mul_right ⟨b,e'.symm⟩;by_cases z:a.natAbs=0
   . rw[z,Nat.zero_mul]at e';rcases Nat.mul_eq_zero.mp e' with h | h <;>omega
   . exact ag (cE Y d) (ag l ht)
 . have d:x.b.natAbs ∣ b:=cop.symm.dvd_of_dvd_mul_left ⟨a.natAbs,by rw[e',bV]⟩;exact ag (cE pb d) hb
def Fr.cb_dr{x:Fr}(h:x.sz 2):x.cb 12 48:=by
 obtain⟨h1,h2⟩:=h;have p:=x.p;have e:(2:Nat) ^ 2=4:=rfl;rw[e]at h1 h2;have:x.b=1\/x.b=2\/x.b=3\/x.b=4:=by omega
 rcases this with b | b | b | b
 . exact⟨by decide,x.t * 12,by rw[b];omega,Y⟩
 . exact⟨by decide,x.t * 6,by rw[b];omega,Y⟩
 . exact⟨by decide,x.t * 4,by rw[b];omega,Y⟩
 . exact⟨by decide,x.t * 3,by rw[b];omega,Y⟩
def n0t:Cb JC where
 cb:=Fr.cb
 mono _ _ _ _ h:=λ⟨p,a,e,l⟩=>⟨p,a,e,ag l h⟩
 add _ _ _ _ _ h h':=Fr.cb_add h h'
 mul _ _ _ _ _ _ h h':=Fr.cb_mul h h'
 up _ _ _ _ hk h:=Fr.cb_up hk h
 zero b hb:=⟨hb,0,by show(0:Int) * b=0 * 1;simp,ae _⟩
 one:=⟨by decide,1,bD,bD⟩
 neg _ _ _ _ hz h:=Fr.cb_neg hz h
 div _ _ _ _ ho h:=Fr.cb_div ho h
 sz _ _ _ _ hb ht h:=Fr.cb_sz hb ht h
 dr _ h:=Fr.cb_dr h
def e0p(p:Int)(hp:2<=p):Cb (An p hp)where
 cb _ _ _:=True
 mono _ _ _ _ _ _:=trivial
 add _ _ _ _ _ _ _:=trivial
 mul _ _ _ _ _ _ _ _:=trivial
 up _ _ _ _ _ _:=trivial
 zero _ _:=trivial
 one:=trivial
 neg _ _ _ _ _ _:=trivial
 div _ t _ _ _ _:=⟨1,bD,Y,λ_ _ _=>trivial⟩
 sz _ _ _ _ _ _ _:=trivial
 dr _ _:=trivial
section
variable{S:SR}{F:S7 S}{C:Cb S}
def C0(S:SR)(x y:Nat->S.W)(n:Nat):S.W:=sm S (λi=>S.mul (x i) (y i)) n
def Oj(S:SR)(r n:Nat)(x y:Nat->S.W):Prop:=(∀i,i < n->S.sz r (x i)/\S.sz r (y i))/\∀i,i<=n->S.sz r (C0 S x y i)
def Ol(F:S7 S)(W r:Nat)(ks:List (Nat × (Nat->S.W)))(x:Nat->S.W):Prop:=(∀i,i<=ks.length->∀j,j < W->S.sz r (clr F (ks.take i) x j))/\∀k∈ks,∀j,j < W->S.sz r (k.2 j)
def J2{α:Type}{l:List α}{i:Nat}{x:α}(h:l[i]? = some x):l.take (i+1)=l.take i++[x]:=by
 rw[List.take_add_one,h];rfl
def XB(C:Cb S)(W β t:Nat)(x:Nat->S.W):Prop:=∃b,0 < b/\b<=2 ^ β/\∀j,j < W->C.cb b (2 ^ t) (x j)
def Z9(h:a<=b):2 ^ a<=2 ^ b:=dc bD h
theorem XB.mono(h:XB C W β t x)(hb:β<=β')(ht:t<=t'):XB C W β' t' x:=by
 obtain⟨b,b0,b1,e⟩:=h;exact⟨b,b0,ag b1 (Z9 hb),λj hj=>C.mono _ _ _ _ (Z9 ht) (e j hj)⟩
def XB.congr(h:XB C W β t x)(e:∀j,j < W->x j=y j):XB C W β t y:=by
 obtain⟨b,b0,b1,g⟩:=h;exact⟨b,b0,b1,λj hj=>by rw[<- e j hj];exact g j hj⟩
theorem XB.sz(h:XB C W β t x)(hb:β<=m)(ht:t<=m)(hj:j < W):S.sz m (x j):=by
 obtain⟨b,b0,b1,e⟩:=h;exact C.sz b (2 ^ t) m _ (ag b1 (Z9 hb)) (Z9 ht) (e j hj)
theorem XB.stp(h:XB C W β t x)(g:XB C W s s k.2)(hk:k.1 < W):XB C W (β+s) (t+s+1) (stp F k x):=by
 obtain⟨b,b0,b1,e⟩:=h;obtain⟨c,c0,c1,f⟩:=g;refine⟨b * c,bZ b0 c0,by rw[bo];exact aX b1 c1,λj hj=>?_⟩;have h1:=C.mono _ _ (2 ^ t * 2 ^ s) _ (aQ _ c1) (C.up _ _ c _ c0 (e j hj));have h2:=C.mul _ _ _ _ _ _ (C.neg _ _ _ _ (F.add_neg _) (e k.1 hk)) (f j hj);have:=C.add _ _ _ _ _ h1 h2;have e2:2 ^ (t+s+1)=2 ^ t * 2 ^ s+2 ^ t * 2 ^ s:=by rw[bW,bo];omega
 rw[e2];exact this
def XB.norm(h:XB C W β t x)(hp:p < W)(np:x p≠S.zero):XB C W t t λj=>S.mul (F.inv (x p)) (x j):=by
 obtain⟨b,b0,b1,e⟩:=h;obtain⟨c,c0,c1,f⟩:=C.div b _ (x p) _ (F.mul_inv _ np) (e p hp);have:1<=2 ^ t:=dD;exact⟨c,c0,Y,λj hj=>f _ _ (e j hj)⟩
def Kb(C:Cb S)(W r:Nat)(ks:List (Nat × (Nat->S.W))):Prop:=∀i k,ks[i]? = some k->k.1 < W/\XB C W ((r+1) * 2 ^ i - 1) ((r+1) * 2 ^ i - 1) k.2
def Kb.nil:Kb C W r []:=λi k h=>by simp at h
def Tn(r i:Nat):(r+1) * 2 ^ (i+1)=(r+1) * 2 ^ i+(r+1) * 2 ^ i:=by rw[bW,<- bQ];omega
def Hc(r i:Nat):r+1<=(r+1) * 2 ^ i:=dE _ dD
def Ov(h:i<=l):(r+1) * 2 ^ i<=(r+1) * 2 ^ l:=aQ _ (Z9 h)
theorem Kb.clr{W β r:Nat}{ks:List (Nat × (Nat->S.W))}{x:Nat->S.W}(K:Kb C W r ks)(h:XB C W β r x):∀i,i<=ks.length->XB C W (β+((r+1) * 2 ^ i - (r+1))) ((r+1) * 2 ^ i - 1) (Mine.clr F (ks.take i) x)
 | 0,_=>h.mono Y (by simp)
 | i+1,hi=>by
  have e:ks[i]? = some (ks[i]'Y):=ah _;obtain⟨k1,k2⟩:=K i _ e;rw[J2 e,Bc];have:=Tn r i;have:=Hc r i;exact((Kb.clr K h i Y).stp k2 k1).mono Y Y
def Kb.all(K:Kb C W r ks)(h:XB C W β r x):XB C W (β+((r+1) * 2 ^ ks.length - (r+1))) ((r+1) * 2 ^ ks.length - 1) (Mine.clr F ks x):=by
 have:=K.clr (F:=F) h ks.length (ae _);rwa [bb]at this
def Kb.clrZ(K:Kb C W r ks)(h:XB C W β r x)(hl:ks.length<=l)(hm:β+(r+1) * 2 ^ l<=m):Ol F W m ks x:=by
 refine⟨λi hi j hj=>?_,λk hk j hj=>?_⟩
 . have:=Ov (r:=r) (show i<=l by omega);exact(K.clr (F:=F) h i hi).sz Y Y hj
 . obtain⟨i,hi,e⟩:=cQ.mp hk;obtain⟨_,q⟩:=K i k (by rw[ah hi,e]);have:=Ov (r:=r) (show i<=l by omega);exact q.sz Y Y hj
def Kb.keep(K:Kb C W r ks)(h:XB C W β r x)(hl:l<=W):Kb C W r (AV F l ks x):=by
 refine Q6 (λL=>Kb C W r L) (λ_=>K) (λ_=>K) λp hp np i k e=>?_;by_cases hi:i < ks.length
 . rw[aW hi]at e;exact K i k e
 . rw[ba Y]at e;have:i=ks.length:=by
    have:=(aU.mp e).1;simp at this;omega
   subst this;rw[cz]at e;cases Option.some.inj e;exact⟨by show p < W;omega,(K.all h).norm Y np⟩
theorem Kb.kpL(hl:l<=W)(rs:List (Nat->S.W))(h:∀x∈rs,XB C W β r x):Kb C W r (Mine.kpL F l rs):=by
 refine(CZ (F:=F) (w:=l) (λms ks=>(∀x∈ms,XB C W β r x)->Kb C W r ks) (λ_=>Kb.nil) (λms ks x _ M h=>?_) rs).2 h;exact(M λq hq=>h q (bC _ hq)).keep (h x (aP _ (cP x))) hl
def Kb.mem(K:Kb C W r ks)(hl:ks.length<=l):∀k∈ks,k.1 < W/\XB C W ((r+1) * 2 ^ l - 1) ((r+1) * 2 ^ l - 1) k.2:=λk hk=>by
 obtain⟨i,hi,e⟩:=cQ.mp hk;obtain⟨a,q⟩:=K i k (by rw[ah hi,e]);have:=Ov (r:=r) (show i<=l by omega);exact⟨a,q.mono Y Y⟩
theorem Iz(b0:0 < b)(c0:0 < c)(h:∀i,i < n->C.cb b t (x i))(g:∀i,i < n->C.cb c t' (y i)):∀i,i<=n->C.cb (b * c) (i * (t * t')) (C0 S x y i)
 | 0,_=>by rw[Nat.zero_mul];exact C.zero _ (bZ b0 c0)
 | i+1,hi=>by
  rw[bq];exact C.add _ _ _ _ _ (Iz b0 c0 h g i Y) (C.mul _ _ _ _ _ _ (h i Y) (g i Y))
def n_lt(n:Nat):n<=2 ^ n:=bF Nat.lt_two_pow_self
def LX(h:i<=n):i * (2 ^ t * 2 ^ t')<=2 ^ (t+t'+n):=by
 rw[bo,bo,bV];exact aQ _ (ag h (n_lt n))
def N4(h:XB C n β t x)(g:XB C n β' t' y)(hb:β+β'<=m)(ht:t+t'+n<=m):Oj S m n x y:=by
 refine⟨λi hi=>⟨h.sz Y Y hi,g.sz Y Y hi⟩,λi hi=>?_⟩;obtain⟨b,b0,b1,e⟩:=h;obtain⟨c,c0,c1,f⟩:=g;have:=Iz b0 c0 e f i hi;exact C.sz _ _ m _ (ag (aX b1 c1) (by rw[<- bo];exact Z9 hb)) (ag (LX hi) (Z9 ht)) this
def TB(C:Cb S)(h n β t:Nat)(A:Nat->Nat->S.W):Prop:=∃b,0 < b/\b<=2 ^ β/\∀i,i < h->∀j,j < n->C.cb b (2 ^ t) (A i j)
theorem TB.mono(q:TB C h n β t A)(hb:β<=β')(ht:t<=t'):TB C h n β' t' A:=by
 obtain⟨b,b0,b1,e⟩:=q;exact⟨b,b0,ag b1 (Z9 hb),λi hi j hj=>C.mono _ _ _ _ (Z9 ht) (e i hi j hj)⟩
def TB.row(q:TB C h n β t A)(hi:i < h):XB C n β t (A i):=by
 obtain⟨b,b0,b1,e⟩:=q;exact⟨b,b0,b1,λj hj=>e i hi j hj⟩
def TB.col(q:TB C h n β t A)(hj:j < n):XB C h β t λi=>A i j:=by
 obtain⟨b,b0,b1,e⟩:=q;exact⟨b,b0,b1,λi hi=>e i hi j hj⟩
def TB.swap(q:TB C h n β t A):TB C n h β t λj i=>A i j:=by
 obtain⟨b,b0,b1,e⟩:=q;exact⟨b,b0,b1,λj hj i hi=>e i hi j hj⟩
theorem XB.by(q:XB C h β t x)(g:TB C h n β' t' A):XB C n (β+β') (t+t'+h) λj=>C0 S x (λi=>A i j) h:=by
 obtain⟨b,b0,b1,e⟩:=q;obtain⟨c,c0,c1,f⟩:=g;refine⟨b * c,bZ b0 c0,by rw[bo];exact aX b1 c1,λj hj=>?_⟩;exact C.mono _ _ _ _ (LX (ae _)) (Iz (y:=λi=>A i j) b0 c0 e (λi hi=>f i hi j hj) h (ae _))
theorem TB.by(g:TB C h n β' t' A)(q:XB C n β t x):XB C h (β'+β) (t'+t+n) λi=>C0 S (A i) x n:=by
 obtain⟨b,b0,b1,e⟩:=q;obtain⟨c,c0,c1,f⟩:=g;refine⟨c * b,bZ c0 b0,by rw[bo];exact aX c1 b1,λi hi=>?_⟩;exact C.mono _ _ _ _ (LX (ae _)) (Iz (x:=A i) c0 b0 (λj hj=>f i hi j hj) e n (ae _))
theorem TB.of:∀{h:Nat},(∀i,i < h->XB C n β t (A i))->TB C h n (h * β) (t+h * β) A
 | 0,_=>⟨1,bD,by simp,λi hi=>absurd hi (cK i)⟩
 | h+1,q=>by
  obtain⟨b,b0,b1,e⟩:=TB.of (h:=h) λi hi=>q i Y;obtain⟨c,c0,c1,f⟩:=q h Y;have e1:(h+1) * β=h * β+β:=bq ..;refine⟨b * c,bZ b0 c0,by rw[e1,bo];exact aX b1 c1,λi hi j hj=>?_⟩;by_cases z:i=h
  . subst z;have:=C.up _ _ b _ b0 (f j hj);rw[bV c b]at this;refine C.mono _ _ _ _ ?_ this;rw[bo];exact aQ _ (ag b1 (Z9 Y))
  . have:=C.up _ _ c _ c0 (e i Y j hj);refine C.mono _ _ _ _ ?_ this;rw[e1,show t+(h * β+β)=(t+h * β)+β by omega,bo _ (t+h * β)];exact aQ _ c1
def JG(F:S7 S):List (Nat × (Nat->S.W))->List (Nat × (Nat->S.W)):=λks=>ks.reverse.foldl (λtold k=>told++[(k.1,clr F told k.2)]) []
def echI(F:S7 S)(ks:List (Nat × (Nat->S.W)))(i:Nat):List (Nat × (Nat->S.W)):=(ks.reverse.take i).foldl (λtold k=>told++[(k.1,clr F told k.2)]) []
def Q7{S:SR}{F:S7 S}{ks:List (Nat × (Nat->S.W))}{i:Nat}{k:Nat × (Nat->S.W)}(hi:i < ks.length)(h:ks[ks.length - 1 - i]? = some k):echI F ks (i+1)=echI F ks i++[(k.1,clr F (echI F ks i) k.2)]:=by
 unfold echI;rw[J2 (x:=k) (by rw[List.getElem?_reverse hi];exact h),cM];rfl
def W0:echI F ks ks.length=JG F ks:=by
 unfold echI JG;rw[<- List.length_reverse,bb]
theorem Ac:∀{i:Nat},i<=ks.length->(echI F ks i).length=i
 | 0,_=>rfl
 | i+1,h=>by
  rw[Q7 (k:=ks[ks.length - 1 - i]'Y) Y (ah _),aq,Ac Y];rfl
theorem NX:∀{i:Nat},i<=ks.length->∀e∈echI F ks i,∃k∈ks,e.1=k.1
 | 0,_,e,h=>nomatch h
 | i+1,h,e,he=>by
  rw[Q7 (k:=ks[ks.length - 1 - i]'Y) Y (ah _)]at he;rcases aH.mp he with he | he
  . exact NX Y e he
  . rw[ax.mp he];exact⟨_,aJ (show ks.length - 1 - i < ks.length by omega),U⟩
theorem Kb.echI(h:∀k∈ks,k.1 < W/\XB C W s s k.2):∀{i:Nat},i<=ks.length->Kb C W s (Mine.echI F ks i)
 | 0,_=>Kb.nil
 | i+1,hi=>by
  have ih:=Kb.echI h (i:=i) Y;have il:=Ac (F:=F) (ks:=ks) (i:=i) Y;rw[Q7 (k:=ks[ks.length - 1 - i]'Y) Y (ah _)];intro q k e;by_cases hq:q < i
  . rw[aW Y]at e;exact ih q k e
  . rw[ba Y,il]at e;have:q=i:=by
     have:=(aU.mp e).1;simp at this;omega
    subst this;rw[cz]at e;cases Option.some.inj e;obtain⟨a,b⟩:=h _ (aJ (show ks.length - 1 - q < ks.length by omega));have:=ih.all (F:=F) b;rw[il]at this;have:=Hc s q;exact⟨a,XB.mono (by assumption) Y Y⟩
end
section
variable{S:SR}{F:S7 S}{C:Cb S}
noncomputable def Fu(F:S7 S)(l:Nat)(ρ:List Nat->Nat->S.W)(ks:List (Nat × (Nat->S.W)))(ws:List (List Nat)):List (Nat × (Nat->S.W)):=ws.foldl (λks w=>AV F l ks (ρ w)) ks
def Vz:Fu F l ρ ks (ws++[u])=AV F l (Fu F l ρ ks ws) (ρ u):=by
 unfold Fu;rw[cM];rfl
noncomputable def FD(F:S7 S)(l:Nat)(ρ:List Nat->Nat->S.W):List (Nat × (Nat->S.W))->List (List Nat)->List (List Nat)
 | _,[]=>[]
 | ks,u::ws=>(if(AV F l ks (ρ u)).length≠ks.length then [u]else [])++FD F l ρ (AV F l ks (ρ u)) ws
theorem NQ:∀{ks:List (Nat × (Nat->S.W))} {ws:List (List Nat)} {u:List Nat},FD F l ρ ks (ws++[u])=FD F l ρ ks ws++(if(AV F l (Fu F l ρ ks ws) (ρ u)).length≠(Fu F l ρ ks ws).length then [u]else [])
 | ks,[],u=>by
  show(if _ then _ else _)++FD F l ρ _ []=[]++_;show(if _ then _ else _)++[]=[]++_;rw[bI,List.nil_append];rfl
 | ks,w::ws,u=>by
  rw[List.cons_append];show(if _ then _ else _)++FD F l ρ (AV F l ks (ρ w)) (ws++[u])=((if _ then _ else _)++FD F l ρ (AV F l ks (ρ w)) ws)++_;rw[NQ,List.append_assoc];rfl
def QS:(AV F w ks r).length=ks.length\/(AV F w ks r).length=ks.length+1:=
 Q6 (λl=>l.length=ks.length\/l.length=ks.length+1) (λ_=>.inl U) (λ_=>.inl U) λ_ _ _=>.inr (by rw[aq];rfl)
theorem Au:∀{ws:List (List Nat)} {ks:List (Nat × (Nat->S.W))},(FD F l ρ ks ws).length+ks.length=(Fu F l ρ ks ws).length
 | [],ks=>by show 0+_=_;rw[Nat.zero_add];rfl
 | u::ws,ks=>by
  show((if _ then _ else _)++FD F l ρ (AV F l ks (ρ u)) ws).length+_=(Fu F l ρ (AV F l ks (ρ u)) ws).length;rw[<- Au (ws:=ws),aq];rcases QS (F:=F) (w:=l) (ks:=ks) (r:=ρ u)with e | e
  . rw[if_neg Y,e];simp
  . rw[if_pos Y,e];simp;omega
theorem Qb:∀{ws:List (List Nat)} {ks:List (Nat × (Nat->S.W))},Kp S l ks->Kp S l (Fu F l ρ ks ws)
 | [],_,h=>h
 | u::ws,ks,h=>Qb (ws:=ws) (PN (F:=F) h)
theorem Qc(hl:l<=W):∀{ws:List (List Nat)} {ks:List (Nat × (Nat->S.W))},Kb C W r ks->(∀u∈ws,XB C W β r (ρ u))->Kb C W r (Fu F l ρ ks ws)
 | [],_,h,_=>h
 | u::ws,ks,h,g=>Qc hl (ws:=ws) (h.keep (g u (aF ..)) hl) λv hv=>g v (aC _ hv)
theorem Dd:∀{ws:List (List Nat)} {ks:List (Nat × (Nat->S.W))} {u:List Nat},u∈FD F l ρ ks ws->u∈ws
 | [],_,_,h=>nomatch h
 | v::ws,ks,u,h=>by
  rcases aH.mp h with h | h
  . split at h
    . rw[ax.mp h];exact aF ..
    . cases h
  . exact aC _ (Dd h)
structure Yw(S:SR)where
 ks:List (Nat × (Nat->S.W))
 told:List (List Nat)
 last:List (List Nat)
noncomputable def x6(F:S7 S)(l:Nat)(ρ:List Nat->Nat->S.W)(g:List (List Nat)->List (List Nat)):Nat->Yw S
 | 0=>⟨[],[],[[]]⟩
 | i+1=>⟨Fu F l ρ (x6 F l ρ g i).ks (x6 F l ρ g i).last,(x6 F l ρ g i).told++FD F l ρ (x6 F l ρ g i).ks (x6 F l ρ g i).last,g (FD F l ρ (x6 F l ρ g i).ks (x6 F l ρ g i).last)⟩
theorem O8:∀i,Kp S l (x6 F l ρ g i).ks
 | 0=>Kp.nil
 | i+1=>Qb (O8 i)
theorem Dc:∀i,(x6 F l ρ g i).told.length=(x6 F l ρ g i).ks.length
 | 0=>rfl
 | i+1=>by
  show((x6 F l ρ g i).told++FD F l ρ (x6 F l ρ g i).ks (x6 F l ρ g i).last).length=(Fu F l ρ (x6 F l ρ g i).ks (x6 F l ρ g i).last).length;rw[aq,Dc i,<- Au];omega
theorem Vx(hl:l<=W)(h:∀i,∀u∈(x6 F l ρ g i).last,XB C W β r (ρ u)):∀i,Kb C W r (x6 F l ρ g i).ks
 | 0=>Kb.nil
 | i+1=>Qc hl (Vx hl h i) (h i)
def b0z(l:Nat)(s:Yw S):Nat:=if s.last=[]then 0 else l - s.ks.length+1
def Vy(hg:g []=[])(n:(x6 F l ρ g i).last≠[]):b0z l (x6 F l ρ g (i+1)) < b0z l (x6 F l ρ g i):=by
 unfold b0z;rw[if_neg n];have k:=(O8 (F:=F) (l:=l) (ρ:=ρ) (g:=g) (i+1)).len;have e:=Au (F:=F) (l:=l) (ρ:=ρ) (ws:=(x6 F l ρ g i).last) (ks:=(x6 F l ρ g i).ks);have k':(Fu F l ρ (x6 F l ρ g i).ks (x6 F l ρ g i).last).length<=l:=k;split
 . omega
 . rename_i z;show l - (Fu F l ρ (x6 F l ρ g i).ks (x6 F l ρ g i).last).length+1 < _;by_cases z2:FD F l ρ (x6 F l ρ g i).ks (x6 F l ρ g i).last=[]
   . refine absurd ?_ z;show g (FD F l ρ (x6 F l ρ g i).ks (x6 F l ρ g i).last)=[];rw[z2,hg]
   . have:=List.length_pos_iff.mpr z2;omega
def NP(hg:g []=[])(h:(x6 F l ρ g i).last=[]):x6 F l ρ g (i+1)=x6 F l ρ g i:=by
 show Yw.mk _ _ _=_;rw[h];show Yw.mk (x6 F l ρ g i).ks ((x6 F l ρ g i).told++[]) (g [])=_;rw[bI,hg];cases e:x6 F l ρ g i with
 | mk a b c=>
  rw[e]at h;cases h;rfl
theorem PY(hg:g []=[])(h:(x6 F l ρ g i).last=[]):∀j,x6 F l ρ g (i+j)=x6 F l ρ g i
 | 0=>rfl
 | j+1=>by
  have:=PY hg h j;rw[<- Nat.add_assoc,NP hg (by rw[this];exact h),this]
def Rb(hg:g []=[]):(x6 F l ρ g (l+1)).last=[]:=by
 have fc:∀i,(x6 F l ρ g i).last=[]\/b0z l (x6 F l ρ g i)+i<=l+1:=λi=>by
  induction i with
  | zero=>right;show(if _ then _ else _)+0<=_;split <;>simp <;>omega
  | succ i ih=>
   by_cases z:(x6 F l ρ g i).last=[]
   . left;rw[NP hg z];exact z
   . right;have:=Vy hg z;rcases ih with q | q
     . exact absurd q z
     . omega
 rcases fc (l+1)with h | h
 . exact h
 . refine Classical.byContradiction λz=>?_;unfold b0z at h;rw[if_neg z]at h;omega
noncomputable def Ae(F:S7 S)(l:Nat)(ρ:List Nat->Nat->S.W)(g:List (List Nat)->List (List Nat)):List (List Nat):=(x6 F l ρ g (l+1)).told
def Vv(hg:g []=[])(h:(x6 F l ρ g i).last=[]):(x6 F l ρ g i).told=Ae F l ρ g:=by
 unfold Ae;rcases Nat.le_total i (l+1)with q | q
 . have:=PY hg h (l+1 - i);rw[show i+(l+1 - i)=l+1 by omega]at this;rw[this]
 . have:=PY hg (Rb (F:=F) (l:=l) (ρ:=ρ) hg) (i - (l+1));rw[show l+1+(i - (l+1))=i by omega]at this;rw[this]
end
section
variable{S:SR}{F:S7 S}{C:Cb S}
def FZ(S:SR)(n:Nat)(A:Nat->Nat->S.W)(x:Nat->S.W):Nat->S.W:=λj=>C0 S x (λi=>A i j) n
def Yp(S:SR)(n:Nat)(A:Nat->Nat->S.W)(y:Nat->S.W):Nat->S.W:=λi=>C0 S (A i) y n
def w4(l:List Nat)(tb:Nat->α)(c:Nat):α:=tb (l.idxOf c)
def j5(S:SR)(n:Nat)(st:Nat->S.W)(tc:Nat->Nat->Nat->S.W)(u:List Nat):Nat->S.W:=u.foldl (λx c=>FZ S n (tc c) x) st
def P3(S:SR)(n:Nat)(tc:Nat->Nat->Nat->S.W)(en:Nat->S.W)(u:List Nat):Nat->S.W:=u.foldr (λc y=>Yp S n (tc c) y) en
def B8:j5 S n st tc (u++[c])=FZ S n (tc c) (j5 S n st tc u):=by
 unfold j5;rw[cM];rfl
def SN:P3 S n tc en (c::u)=Yp S n (tc c) (P3 S n tc en u):=rfl
def gB(l:List Nat)(ws:List (List Nat)):List (List Nat):=ws.flatMap λu=>l.map λc=>u++[c]
def Vu:gB l []=[]:=rfl
structure MB(C:Cb S)(n m μ:Nat)(st:Nat->S.W)(tb:Nat->Nat->Nat->S.W)(en:Nat->S.W):Prop where
 st:XB C n μ μ st
 tb:∀a,a < m->TB C n n μ μ (tb a)
 en:XB C n μ μ en
def MB.mirror{n m μ:Nat}{st:Nat->S.W}{tb:Nat->Nat->Nat->S.W}{en:Nat->S.W}(h:MB C n m μ st tb en):MB C n m μ en (λa i j=>tb a j i) st:=⟨h.en,λa ha=>(h.tb a ha).swap,h.st⟩
theorem MB.mono{n m μ μ':Nat}{st:Nat->S.W}{tb:Nat->Nat->Nat->S.W}{en:Nat->S.W}(h:MB C n m μ st tb en)(e:μ<=μ'):MB C n m μ' st tb en:=⟨h.st.mono e e,λa ha=>(h.tb a ha).mono e e,h.en.mono e e⟩
def QW{l:List Nat}{c:Nat}(h:c∈l):l.idxOf c < l.length:=cR.mpr h
def MB.row{n μ:Nat}{l:List Nat}{st:Nat->S.W}{tb:Nat->Nat->Nat->S.W}{en:Nat->S.W}(h:MB C n l.length μ st tb en)(u:List Nat)(hu:∀c∈u,c∈l):XB C n ((u.length+1) * (μ+n)) ((u.length+1) * (μ+n)) (j5 S n st (w4 l tb) u):=by
 have fc:∀k,∀u:List Nat,u.length=k->(∀c∈u,c∈l)->XB C n ((k+1) * (μ+n)) ((k+1) * (μ+n)) (j5 S n st (w4 l tb) u):=by
  intro k
  induction k with
  | zero=>
   intro u e _;rw[bz.mp e];exact h.st.mono Y Y
  | succ k ih=>
   intro u e hu;have ne:u≠[]:=λz=>by rw[z]at e;cases e
   rw[<- de ne,B8];have h1:=ih u.dropLast (by rw[df];omega) λc hc=>hu c (List.dropLast_subset u hc);have h2:=h.tb (l.idxOf (u.getLast ne)) (QW (hu _ (List.getLast_mem ne)));have e1:(k+1+1) * (μ+n)=(k+1) * (μ+n)+(μ+n):=bq ..;exact(h1.by h2).mono Y Y
 exact fc u.length u rfl hu
theorem MB.col{n μ:Nat}{l:List Nat}{st:Nat->S.W}{tb:Nat->Nat->Nat->S.W}{en:Nat->S.W}(h:MB C n l.length μ st tb en):∀(u:List Nat),(∀c∈u,c∈l)->XB C n ((u.length+1) * (μ+n)) ((u.length+1) * (μ+n)) (P3 S n (w4 l tb) en u)
 | [],_=>h.en.mono (by simp) (by simp)
 | c::u,hu=>by
  have h1:=MB.col h u λc hc=>hu c (aC _ hc);have h2:=h.tb (l.idxOf c) (QW (hu c (aF ..)));have e1:(u.length+1+1) * (μ+n)=(u.length+1) * (μ+n)+(μ+n):=bq ..;show XB C n ((u.length+1+1) * (μ+n)) ((u.length+1+1) * (μ+n)) (Yp S n _ _);exact(h2.by h1).mono Y Y
def L6(h:k<=n):(k+1) * x<=(n+1) * x:=bh _ Y
def Gw(l:List Nat)(g:List (List Nat)->List (List Nat)):Prop:=g []=[]/\∀ws i,(∀v∈ws,v.length=i/\∀c∈v,c∈l)->∀u∈g ws,u.length=i+1/\∀c∈u,c∈l
def AX:Gw l (gB l):=⟨U,λws i h u hu=>by
 obtain⟨v,hv,hu⟩:=List.mem_flatMap.mp hu;obtain⟨c,hc,rfl⟩:=aw.mp hu;obtain⟨h1,h2⟩:=h v hv;refine⟨by rw[aq,h1];rfl,λd hd=>?_⟩;rcases aH.mp hd with hd | hd
 . exact h2 d hd
 . rw[ax.mp hd];exact hc⟩
theorem PX(hg:Gw l g):∀i,∀u∈(x6 F W ρ g i).last,u.length=i/\∀c∈u,c∈l
 | 0,u,hu=>by
  rw[ax.mp hu];exact⟨U,by simp⟩
 | i+1,u,hu=>hg.2 _ i (λv hv=>PX hg i v (Dd hv)) u hu
theorem Vw(hg:Gw l g):∀i,(x6 F W ρ g i).last≠[]->i<=(x6 F W ρ g i).ks.length
 | 0,_=>aY _
 | i+1,h=>by
  have h1:FD F W ρ (x6 F W ρ g i).ks (x6 F W ρ g i).last≠[]:=λz=>h (by show g (FD F W ρ (x6 F W ρ g i).ks (x6 F W ρ g i).last)=[];rw[z,hg.1]);have h2:(x6 F W ρ g i).last≠[]:=λz=>h1 (by rw[z];rfl);have:=Vw hg i h2;have e:=Au (F:=F) (l:=W) (ρ:=ρ) (ws:=(x6 F W ρ g i).last) (ks:=(x6 F W ρ g i).ks);have:=List.length_pos_iff.mpr h1;show i+1<=(Fu F W ρ (x6 F W ρ g i).ks (x6 F W ρ g i).last).length;omega
def PZ(hg:Gw l g)(hu:u∈(x6 F W ρ g i).last):u.length<=W/\∀c∈u,c∈l:=by
 have h1:=PX hg i u hu;have h2:=Vw hg i λz=>by rw[z]at hu;cases hu
 have h3:=(O8 (F:=F) (l:=W) (ρ:=ρ) (g:=g) i).len;exact⟨Y,h1.2⟩
theorem LO(hg:Gw l g):∀i,∀u∈(x6 F W ρ g i).told,u.length<=W/\∀c∈u,c∈l
 | 0,u,hu=>nomatch hu
 | i+1,u,hu=>by
  rcases aH.mp hu with hu | hu
  . exact LO hg i u hu
  . exact PZ hg (Dd hu)
end
section
variable{S:SR}{F:S7 S}{C:Cb S}
def PM(es:List (Nat × (Nat->S.W)))(j:Nat):Nat:=(es.map Prod.fst).getD j 0
def Xf(es:List (Nat × (Nat->S.W)))(st:Nat->S.W):Nat->S.W:=λj=>st (PM es j)
def GL(n:Nat)(es:List (Nat × (Nat->S.W)))(tb:Nat->Nat->Nat->S.W):Nat->Nat->Nat->S.W:=λa i j=>C0 S (kv es i) (λk=>tb a k (PM es j)) n
def Nm(n:Nat)(es:List (Nat × (Nat->S.W)))(en:Nat->S.W):Nat->S.W:=λi=>C0 S (kv es i) en n
def GA(h:es[i]? = some k):kv es i=k.2:=by
 unfold kv;rw[aR,h];rfl
def Eo(h:es[i]? = some k):PM es i=k.1:=by
 unfold PM;rw[aR,aE,h];rfl
def zF(n μ:Nat):Nat:=2 * (((n+2) * (μ+n)+1) * 2 ^ n)
def zC(n μ:Nat):Nat:=2 * (((n+2) * (μ+n)+1) * 4 ^ n)
def p24(n:Nat):2 ^ n<=4 ^ n:=dA bD n
def p4_1(n:Nat):1<=4 ^ n:=Nat.pos_of_ne_zero (by simp)
def Wh:zF n μ<=zC n μ:=aQ _ (aQ _ (p24 n))
def YA:(n+2) * (μ+n)<=zF n μ:=by
 unfold zF;have:=dE ((n+2) * (μ+n)+1) (show 0 < 2 ^ n from dD);omega
def n0e:(n+1) * x<=(n+2) * x:=bh _ Y
def Wg:(n+1) * (μ+n)+((n+1) * (μ+n)+1) * 2 ^ n<=zF n μ:=by
 have h1:=YA (n:=n) (μ:=μ);have h2:=n0e (n:=n) (x:=μ+n);have h3:((n+1) * (μ+n)+1) * 2 ^ n<=((n+2) * (μ+n)+1) * 2 ^ n:=bh _ Y;have h4:=dE ((n+2) * (μ+n)+1) (show 0 < 2 ^ n from dD);unfold zF;omega
def Wf(h:n<=n')(g:μ<=μ'):zF n μ<=zF n' μ':=by
 unfold zF;exact aQ _ (aX (Nat.add_le_add_right (aX Y Y) 1) (Z9 h))
def zU(n μ:Nat):Nat:=((n+1) * (μ+n)+1) * 4 ^ n
def zN(n μ:Nat):Nat:=(n+1) * (zU n μ+μ+n)
def c0e:zU n μ+μ+n<=zC n μ:=by
 unfold zU zC;have h1:((n+1) * (μ+n)+1) * 4 ^ n<=((n+2) * (μ+n)+1) * 4 ^ n:=bh _ (by have:=n0e (n:=n) (x:=μ+n);omega);have h2:=dE ((n+2) * (μ+n)+1) (p4_1 n);have h3:μ+n<=(n+2) * (μ+n):=Nat.le_mul_of_pos_left _ Y;omega
def n0u(r n:Nat):(r+1) * 2 ^ n * 2 ^ n=(r+1) * 4 ^ n:=by
 rw[bQ,<- Nat.mul_pow]
def c0g:((n+1) * (μ+n)+1) * 2 ^ n+((n+1) * (μ+n)+1) * 4 ^ n<=zC n μ:=by
 unfold zC;have h1:((n+1) * (μ+n)+1) * 2 ^ n<=((n+1) * (μ+n)+1) * 4 ^ n:=aQ _ (p24 n);have h2:((n+1) * (μ+n)+1) * 4 ^ n<=((n+2) * (μ+n)+1) * 4 ^ n:=bh _ (by have:=n0e (n:=n) (x:=μ+n);omega);omega
structure L5(F:S7 S)(n:Nat)(rs:List (Nat->S.W))(es:List (Nat × (Nat->S.W))):Prop where
 pm:es.Perm (JG F (kpL F (if rs.length=0 then 0 else n) rs))
 pw:es.Pairwise λp q=>p.1<=q.1
def BU:(if k=0 then 0 else n)<=n:=by split <;>omega
def L5.len(h:L5 F n rs es):es.length=(kpL F (if rs.length=0 then 0 else n) rs).length:=by
 rw[h.pm.length_eq,<- W0,Ac (ae _)]
def L5.le(h:L5 F n rs es):es.length<=n:=by
 rw[h.len];exact ag (W8 rs).len BU
def L5.xb(h:L5 F n rs es)(hx:∀x∈rs,XB C n r r x):∀k∈es,k.1 < n/\XB C n ((r+1) * 4 ^ n) ((r+1) * 4 ^ n) k.2:=λk hk=>by
 have hk:=h.pm.mem_iff.mp hk;have K1:=Kb.kpL (F:=F) (l:=if rs.length=0 then 0 else n) BU rs hx;have l1:=ag (W8 (F:=F) (w:=if rs.length=0 then 0 else n) rs).len (BU (n:=n));have K2:=Kb.echI (F:=F) (K1.mem l1) (ae _);rw[W0]at K2;have l2:(JG F (kpL F (if rs.length=0 then 0 else n) rs)).length<=n:=by rw[<- W0,Ac (ae _)];exact l1
 obtain⟨a,b⟩:=K2.mem l2 k hk;have e:=n0u r n;have p:=Hc r n;rw[show(r+1) * 2 ^ n - 1+1=(r+1) * 2 ^ n by omega,e]at b;exact⟨a,b.mono Y Y⟩
def VJ{n r m i:Nat}{rs:List (Nat->S.W)}{x:Nat->S.W}{ms:List (Nat->S.W)}(hx:∀x∈ms,XB C n r r x)(h:XB C n r r x)(hm:r+(r+1) * 2 ^ n<=m):Ol F n m (kpL F (if i=0 then 0 else n) ms) x:=
 (Kb.kpL (F:=F) (l:=if i=0 then 0 else n) BU ms hx).clrZ h (ag (W8 ms).len BU) hm
def VI(hx:∀x∈ms,XB C n r r x)(hj:j<=(kpL F (if i=0 then 0 else n) ms).length)(hk:k∈kpL F (if i=0 then 0 else n) ms)(hm:(r+1) * 2 ^ n+(r+1) * 4 ^ n<=m):Ol F n m (echI F (kpL F (if i=0 then 0 else n) ms) j) k.2:=by
 have K1:=Kb.kpL (F:=F) (l:=if i=0 then 0 else n) BU ms hx;have l1:=ag (W8 (F:=F) (w:=if i=0 then 0 else n) ms).len (BU (n:=n));have K2:=Kb.echI (F:=F) (K1.mem l1) hj;have l2:(echI F (kpL F (if i=0 then 0 else n) ms) j).length<=n:=by rw[Ac hj];omega
 have e:=n0u r n;have p:=Hc r n;refine K2.clrZ (K1.mem l1 k hk).2 l2 ?_;rw[show(r+1) * 2 ^ n - 1+1=(r+1) * 2 ^ n by omega,e];omega
def ZP(h:MB C n m μ st tb en)(hx:∀k∈es,k.1 < n/\XB C n u u k.2)(hl:es.length<=n):MB C es.length m ((n+1) * (u+μ+n)) (Xf es st) (GL n es tb) (Nm n es en):=by
 have hp:∀j,j < es.length->PM es j < n:=λj hj=>by
  rw[Eo (ah hj)];exact(hx _ (aJ hj)).1
 have hk:∀i,i < es.length->XB C n u u (kv es i):=λi hi=>by
  rw[GA (ah hi)];exact(hx _ (aJ hi)).2
 have z1:(n+1) * (u+μ+n)=n * (u+μ+n)+(u+μ+n):=bq ..;have z2:es.length * (u+μ)<=n * (u+μ+n):=aX hl Y;refine⟨?_,λa ha=>?_,?_⟩
 . obtain⟨b,b0,b1,e⟩:=h.st;exact XB.mono ⟨b,b0,b1,λj hj=>e _ (hp j hj)⟩ Y Y
 . have:TB C es.length es.length (es.length * (u+μ)) (u+μ+n+es.length * (u+μ)) (GL n es tb a):=TB.of λi hi=>by
    obtain⟨b,b0,b1,e⟩:=(hk i hi).by (h.tb a ha)
    exact⟨b,b0,b1,λj hj=>e _ (hp j hj)⟩
   exact this.mono Y Y
 . have:TB C es.length 1 (es.length * (u+μ)) (u+μ+n+es.length * (u+μ)) λi _=>Nm n es en i:=TB.of λi hi=>by
    obtain⟨b,b0,b1,e⟩:=hk i hi;obtain⟨c,c0,c1,f⟩:=h.en;refine⟨b * c,bZ b0 c0,by rw[bo];exact aX b1 c1,λj hj=>?_⟩;exact C.mono _ _ _ _ (LX (ae _)) (Iz b0 c0 e f n (ae _))
   exact(this.col (j:=0) bD).mono Y Y
def n0r(h:MB C n l.length μ st tb en):∀x∈(Ae F n (j5 S n st (w4 l tb)) (gB l)).map (j5 S n st (w4 l tb)),XB C n ((n+1) * (μ+n)) ((n+1) * (μ+n)) x:=λx hx=>by
 obtain⟨u,hu,rfl⟩:=aw.mp hx;have hw:=LO AX _ u hu;exact(h.row u hw.2).mono (L6 hw.1) (L6 hw.1)
def ZO(h:MB C n l.length μ st tb en)(E:L5 F n ((Ae F n (j5 S n st (w4 l tb)) (gB l)).map (j5 S n st (w4 l tb))) es):MB C es.length l.length (zN n μ) (Xf es st) (GL n es tb) (Nm n es en):=ZP h (E.xb (n0r h)) E.le
def zH(n μ:Nat):Nat:=zC n μ+zF n (zN n μ)
end
section
variable{S:SR}{F:S7 S}{C:Cb S}
def AD(rs:List (Nat->S.W)):Nat->Nat->S.W:=λi=>rs.getD i λ_=>S.zero
def Gm(h:rs[i]? = some r):AD rs i=r:=by
 unfold AD;rw[aR,h];rfl
def Fv{rs:List (Nat->S.W)}{r:Nat->S.W}(h:r∈rs):∃i,i < rs.length/\AD rs i=r:=by
 obtain⟨i,hi,e⟩:=cQ.mp h;exact⟨i,hi,Gm (by rw[ah hi,e])⟩
def LU(h:i < rs.length):AD rs i∈rs:=by
 rw[Gm (ah h)];exact aJ h
def VC{w:Nat}{rs:List (Nat->S.W)}(h:(kpL F w rs).length=rs.length):Qr S w rs.length (AD rs):=by
 intro c hc k hk;refine Classical.byContradiction λne=>?_;obtain⟨n,hn⟩:∃n,rs.length=n+1:=⟨rs.length - 1,Y⟩;rw[hn]at hc;have sp:M8 S w n (λi=>AD rs (BZ k i)) (AD rs k):=by
  refine⟨λi=>S.mul (F.neg (F.inv (c k))) (c (BZ k i)),λj hj=>?_⟩;have e:=hc j hj;unfold lin at e;rw[KQ _ n k Y]at e;have e2:S.mul (c k) (AD rs k j)=F.neg (sm S (λi=>S.mul (c (BZ k i)) (AD rs (BZ k i) j)) n):=Es (by rw[S.add_comm];exact e);have e3:S.mul (F.inv (c k)) (S.mul (c k) (AD rs k j))=AD rs k j:=by rw[<- S.mul_assoc,S.mul_comm (F.inv (c k)),F.mul_inv _ ne,JE]
  rw[e2,SH]at e3;rw[LJ (S:=S) (F.neg (F.inv (c k))) (λi=>c (BZ k i)),JF];exact e3.symm
 have all:∀r∈rs,M8 S w n (λi=>AD rs (BZ k i)) r:=λr hr=>by
  obtain⟨i,hi,rfl⟩:=Fv hr;by_cases e:i=k
  . rw[e];exact sp
  . by_cases lt:i < k
    . have:=M8.gen (S:=S) (w:=w) (n:=n) (vs:=λq=>AD rs (BZ k q)) (i:=i) Y;have e2:BZ k i=i:=by unfold BZ;rw[if_pos lt]
      rwa [e2]at this
    . have:=M8.gen (S:=S) (w:=w) (n:=n) (vs:=λq=>AD rs (BZ k q)) (i:=i - 1) Y;have e2:BZ k (i - 1)=i:=by unfold BZ;rw[if_neg Y];omega
      rwa [e2]at this
 have:=AG F (W8 (F:=F) (w:=w) rs).ind λi hi=>Fm rs all _ (AW hi);omega
def Vp{w:Nat}{rs:List (Nat->S.W)}(h:Qr S w rs.length (AD rs)):(kpL F w rs).length=rs.length:=
 Da rs (λr hr=>by
  obtain⟨i,hi,rfl⟩:=Fv hr;exact M8.gen hi) h λi hi=>⟨AD rs i,LU hi,λ_ _=>rfl⟩
def VD{w:Nat}{ρ:List Nat->Nat->S.W}{ws:List (List Nat)}:(kpL F w (ws.map ρ)).length=ws.length↔Qr S w ws.length (AD (ws.map ρ)):=by
 constructor
 . intro e;have:=VC (F:=F) (rs:=ws.map ρ) (by rw[e,af]);rwa [af]at this
 . intro e;have:=Vp (F:=F) (rs:=ws.map ρ) (by rw[af];exact e);rw[this,af]
def Vm(h:(AV F w ks r).length=ks.length):AV F w ks r=ks:=by
 revert h;refine Q6 (λL=>L.length=ks.length->L=ks) (λ_ _=>rfl) (λ_ _=>rfl) λp _ _ e=>?_;rw[aq]at e;simp at e
structure ID(F:S7 S)(w:Nat)(ρ:List Nat->Nat->S.W)(ks:List (Nat × (Nat->S.W)))(ws:List (List Nat)):Prop where
 is:ks=kpL F w (ws.map ρ)
 fu:ks.length=ws.length
def ID.nil:ID F w ρ [] []:=⟨U,U⟩
def ID.step(h:ID F w ρ ks ws)(u:List Nat):ID F w ρ (AV F w ks (ρ u)) (ws++if(AV F w ks (ρ u)).length≠ks.length then [u]else []):=by
 by_cases e:(AV F w ks (ρ u)).length=ks.length
 . rw[if_neg (λz=>z e),bI,Vm e];exact h
 . rw[if_pos e];have e2:(AV F w ks (ρ u)).length=ks.length+1:=(QS (F:=F)).resolve_left e;refine⟨?_,by rw[e2,aq,h.fu];rfl⟩;rw[bc,h.is];exact Fn.symm
structure DuS(S:SR)where
 ks:List (Nat × (Nat->S.W))
 due:List (List Nat)
open Classical in
end
def Ib(l:List Nat):Nat->List (List Nat)
 | 0=>[[]]
 | i+1=>gB l (Ib l i)
def E3(l:List Nat):Nat->List (List Nat)
 | 0=>[[]]
 | i+1=>E3 l i++Ib l (i+1)
theorem LN:∀{ws:List (List Nat)},(gB l ws).length=ws.length * l.length
 | []=>by rw[Vu];simp
 | u::ws=>by
  show((l.map λc=>u++[c])++gB l ws).length=_;rw[aq,af,LN,bM,bq];omega
def Ra{l:List Nat}{ws:List (List Nat)}{j:Nat}{u:List Nat}(h:ws[j]? = some u):gB l (ws.take (j+1))=gB l (ws.take j)++l.map λc=>u++[c]:=by
 rw[J2 h];unfold gB;rw[List.flatMap_append,List.flatMap_singleton]
theorem Fg:∀i,(Ib l i).length=l.length ^ i
 | 0=>rfl
 | i+1=>by
  show(gB l (Ib l i)).length=_;rw[LN,Fg i,bW]
theorem Pu:∀i,∀u∈Ib l i,u.length=i/\∀c∈u,c∈l
 | 0,u,h=>by rw[ax.mp h];exact⟨U,by simp⟩
 | i+1,u,h=>AX.2 _ i (λv hv=>Pu i v hv) u h
def Ve(i:Nat)(u:List Nat)(h:u∈Ib l i):u.length=i:=(Pu i u h).1
def FJ(h:i<=j):(E3 l i).length<=(E3 l j).length:=by
 induction h with
 | refl=>exact ae _
 | step _ ih=>show _<=(E3 l _++Ib l _).length;rw[aq];omega
def Ut{a i j:Nat}(h:i<=j)(h0:0 < i):a ^ i<=a ^ j:=by
 cases a with
 | zero=>rw[Nat.zero_pow h0];exact aY _
 | succ a=>exact dc (Nat.succ_pos a) h
theorem X7:∀n,∀u∈E3 l n,u.length<=n/\∀c∈u,c∈l
 | 0,u,h=>by rw[ax.mp h];exact⟨ae _,by simp⟩
 | n+1,u,h=>by
  rcases aH.mp h with h | h
  . have:=X7 n u h;exact⟨Y,this.2⟩
  . have:=Pu (n+1) u h;exact⟨Y,this.2⟩
theorem Vf:∀(n:Nat) (u:List Nat),u.length=n->(∀c∈u,c∈l)->u∈Ib l n
 | 0,u,e,_=>by rw[bz.mp e];exact cP _
 | n+1,u,e,h=>by
  have ne:u≠[]:=λz=>by rw[z]at e;cases e
  rw[<- de ne];have:=Vf n u.dropLast (by rw[df];omega) λc hc=>h c (List.dropLast_subset u hc);exact List.mem_flatMap.mpr ⟨_,this,aw.mpr ⟨_,h _ (List.getLast_mem ne),U⟩⟩
theorem ED:∀(n:Nat) (u:List Nat),u.length<=n->(∀c∈u,c∈l)->u∈E3 l n
 | 0,u,e,_=>by rw[bz.mp (show u.length=0 by omega)];exact cP _
 | n+1,u,e,h=>by
  by_cases z:u.length=n+1
  . exact aP _ (Vf _ u z h)
  . exact bC _ (ED n u Y h)
section
variable{S:SR}{F:S7 S}{C:Cb S}
structure Grw(l:List Nat)(g:List (List Nat)->List (List Nat))(rs:List Nat->List Nat):Prop where
 nil:g []=[]
 lv:∀i,Ib l (i+1)=g (Ib l i)
 fl:∀L X:List (List Nat),((g L).filter λu=>decide (rs u∈X))=g (L.filter λu=>decide (u∈X))
 ln:∀i u,u.length=i+1->(rs u).length=i
end
section
variable{S:SR}{F:S7 S}{C:Cb S}
theorem LQ:∀i,ID F w ρ (x6 F w ρ g i).ks (x6 F w ρ g i).told
 | 0=>ID.nil
 | i+1=>by
  have fc:∀(ws:List (List Nat)) (ks:List (Nat × (Nat->S.W))) (td:List (List Nat)),ID F w ρ ks td->ID F w ρ (Fu F w ρ ks ws) (td++FD F w ρ ks ws):=by
   intro ws
   induction ws with
   | nil=>intro ks td h;show ID F w ρ ks (td++[]);rw[bI];exact h
   | cons u ws ih=>
    intro ks td h;have:=ih _ _ (h.step u);rw[List.append_assoc]at this;exact this
  exact fc _ _ _ (LQ i)
def GZ(F:S7 S)(w:Nat)(ks:List (Nat × (Nat->S.W)))(v:Nat->S.W):Prop:=∀j,j < w->clr F ks v j=S.zero
def GZ.span(k:ID F w ρ ks ws)(h:GZ F w ks v):M8 S w ws.length (AD (ws.map ρ)) v:=by
 have h1:∀q∈ks,M8 S w ws.length (AD (ws.map ρ)) q.2:=by
  rw[k.is];exact Fm _ λr hr=>by
   obtain⟨i,hi,rfl⟩:=Fv hr;rw[af]at hi;exact M8.gen hi
 have h2:=Bd (F:=F) (u:=v) h1;refine(h2.mul (F.neg S.one)).congr λj hj=>?_;rw[h j hj,JD,JF,JE,VF]
theorem LR:∀{ws:List (List Nat)} {ks:List (Nat × (Nat->S.W))},GZ F w ks v->GZ F w (Fu F w ρ ks ws) v
 | [],_,h=>h
 | u::ws,ks,h=>LR (ws:=ws) (QQ (F:=F) h)
theorem LS:∀{ws:List (List Nat)} {ks:List (Nat × (Nat->S.W))},Kp S w ks->∀u∈ws,GZ F w (Fu F w ρ ks ws) (ρ u)
 | v::ws,ks,h,u,hu=>by
  rcases aD.mp hu with rfl | hu
  . exact LR (ws:=ws) (QR h)
  . exact LS (ws:=ws) (PN h) u hu
theorem Qa(h:GZ F w (x6 F w ρ g i).ks v):∀k,GZ F w (x6 F w ρ g (i+k)).ks v
 | 0=>h
 | k+1=>LR (Qa h k)
theorem DK:∀{i:Nat},u∈(x6 F w ρ g i).told->∃k,k < i/\u∈FD F w ρ (x6 F w ρ g k).ks (x6 F w ρ g k).last
 | 0,h=>nomatch h
 | i+1,h=>by
  rcases aH.mp h with h | h
  . obtain⟨k,hk,e⟩:=DK h;exact⟨k,Y,e⟩
  . exact⟨i,Y,h⟩
def V1(hg:Gw l g)(h:u∈Ae F w ρ g):u.length < w/\∀c∈u,c∈l:=by
 obtain⟨k,_,e⟩:=DK h;obtain⟨a,b⟩:=PX hg k u (Dd e);have h2:=Vw hg k λz=>by rw[z]at e;cases e
 have h3:=Au (F:=F) (l:=w) (ρ:=ρ) (ws:=(x6 F w ρ g k).last) (ks:=(x6 F w ρ g k).ks);have h4:=List.length_pos_of_mem e;have h5:=(O8 (F:=F) (l:=w) (ρ:=ρ) (g:=g) (k+1)).len;have h5:(Fu F w ρ (x6 F w ρ g k).ks (x6 F w ρ g k).last).length<=w:=h5;exact⟨Y,b⟩
structure Lop(S:SR)(w:Nat)(L:(Nat->S.W)->Nat->S.W):Prop where
 co:∀x y,(∀j,j < w->x j=y j)->∀j,j < w->L x j=L y j
 li:∀c vs n,∀j,j < w->L (lin S c vs n) j=lin S c (λk=>L (vs k)) n j
def Ic:Lop S n (FZ S n A):=⟨λx y h j _=>j0 λi hi=>by rw[h i hi],λc vs m j _=>by
 show sm S (λi=>S.mul (sm S (λk=>S.mul (c k) (vs k i)) m) (A i j)) n=sm S (λk=>S.mul (c k) (sm S (λi=>S.mul (vs k i) (A i j)) n)) m;exact BY c vs (λi=>A i j) m n⟩
def Ba(x y:Nat->S.W)(n:Nat):C0 S x y n=C0 S y x n:=j0 λi _=>S.mul_comm _ _
def b0m:Yp S n A y=FZ S n (λi j=>A j i) y:=by
 funext i;exact Ba _ _ _
structure Wgr(l:List Nat)(g:List (List Nat)->List (List Nat))(ex:Nat->List Nat->List Nat):Prop where
 gw:Gw l g
 me:∀ws,∀u∈ws,∀c∈l,ex c u∈g ws
 ind:∀P:List Nat->Prop,P []->(∀c u,c∈l->(∀d∈u,d∈l)->P u->P (ex c u))->∀u,(∀d∈u,d∈l)->P u
def Ml:Wgr l (gB l) λc u=>u++[c]:=⟨AX,λws u hu c hc=>List.mem_flatMap.mpr ⟨u,hu,aw.mpr ⟨c,hc,U⟩⟩,λP h0 hs=>by
 have fc:∀n (u:List Nat),u.length=n->(∀d∈u,d∈l)->P u:=by
  intro n
  induction n with
  | zero=>intro u e _;rw[bz.mp e];exact h0
  | succ n ih=>
   intro u e h;have ne:u≠[]:=λz=>by rw[z]at e;cases e
   rw[<- de ne];have h':∀d∈u.dropLast,d∈l:=λc hc=>h c (List.dropLast_subset u hc);exact hs _ _ (h _ (List.getLast_mem ne)) h' (ih _ (by rw[df];omega) h')
 exact λu h=>fc _ u U h⟩
def PV{w:Nat}{l:List Nat}{ρ:List Nat->Nat->S.W}{g:List (List Nat)->List (List Nat)}{ex:Nat->List Nat->List Nat}{L:Nat->(Nat->S.W)->Nat->S.W}(G:Wgr l g ex)(hL:∀c∈l,Lop S w (L c))(hρ:∀c u,c∈l->∀j,j < w->ρ (ex c u) j=L c (ρ u) j):∀u,(∀d∈u,d∈l)->M8 S w (Ae F w ρ g).length (AD ((Ae F w ρ g).map ρ)) (ρ u):=by
 have KP:=LQ (F:=F) (w:=w) (ρ:=ρ) (g:=g) (w+1);have fin:=Rb (F:=F) (l:=w) (ρ:=ρ) (g:=g) G.gw.1;have c0:GZ F w (x6 F w ρ g (w+1)).ks (ρ []):=by
  have:GZ F w (x6 F w ρ g (0+1)).ks (ρ []):=LS (F:=F) (ρ:=ρ) (O8 (F:=F) (l:=w) (ρ:=ρ) (g:=g) 0) [] (cP _);have:=Qa this w;rwa [show 0+1+w=w+1 by omega]at this
 have cs:∀v∈(x6 F w ρ g (w+1)).told,∀c∈l,GZ F w (x6 F w ρ g (w+1)).ks (ρ (ex c v)):=λv hv c hc=>by
  obtain⟨k,hk,e⟩:=DK hv;have hm:ex c v∈(x6 F w ρ g (k+1)).last:=G.me _ v e c hc;have k2:k+1≠w+1:=λz=>by rw[z,fin]at hm;cases hm
  have h1:GZ F w (x6 F w ρ g (k+1+1)).ks (ρ (ex c v)):=LS (O8 (k+1)) _ hm;have:=Qa h1 (w+1 - (k+1+1));rwa [show k+1+1+(w+1 - (k+1+1))=w+1 by omega]at this
 have main:∀u,(∀d∈u,d∈l)->GZ F w (x6 F w ρ g (w+1)).ks (ρ u):=G.ind _ c0 λc u hc hu ih=>by
  obtain⟨d,hd⟩:=ih.span KP;intro j hj;have e1:∀j,j < w->ρ (ex c u) j=lin S d (λk=>L c (AD ((x6 F w ρ g (w+1)).told.map ρ) k)) (x6 F w ρ g (w+1)).told.length j:=λj hj=>by
   rw[hρ c u hc j hj,(hL c hc).co _ _ hd j hj,(hL c hc).li _ _ _ j hj]
  rw[Iu (F:=F) (λk hk=>(O8 (F:=F) (l:=w) (ρ:=ρ) (g:=g) (w+1)).lt k hk) e1 j hj,Ru];show sm S _ _=S.zero;rw[j0 (g:=λ_=>S.zero) λk hk=>?_,D8];have iP:k < ((x6 F w ρ g (w+1)).told.map ρ).length:=by rw[af];exact hk
  have e2:AD ((x6 F w ρ g (w+1)).told.map ρ) k=ρ ((x6 F w ρ g (w+1)).told[k]):=Gm (by rw[aE,ah hk];rfl);have e3:clr F (x6 F w ρ g (w+1)).ks (L c (AD ((x6 F w ρ g (w+1)).told.map ρ) k)) j=S.zero:=by
   have e4:∀j,j < w->L c (AD ((x6 F w ρ g (w+1)).told.map ρ) k) j=ρ (ex c (x6 F w ρ g (w+1)).told[k]) j:=λj hj=>by
    rw[e2,hρ c _ hc j hj]
   rw[Iu (F:=F) (λk hk=>(O8 (F:=F) (l:=w) (ρ:=ρ) (g:=g) (w+1)).lt k hk) e4 j hj];exact cs _ (aJ hk) c hc j hj
  dsimp only;rw[e3,S.mul_zero]
 exact λu hu=>(main u hu).span KP
structure Ta(S:SR)(n:Nat)(es:List (Nat × (Nat->S.W))):Prop where
 lt:∀e∈es,e.1 < n
 one:∀e∈es,e.2 e.1=S.one
 mu:es.Pairwise λa b=>a.2 b.1=S.zero/\b.2 a.1=S.zero
theorem Ta.Kp(h:Ta S n es):Kp S n es:=⟨h.lt,h.one,h.mu.imp λz=>z.2⟩
def Ta.perm(p:jM.Perm es)(h:Ta S n es):Ta S n jM:=
 ⟨λe he=>h.lt e (p.mem_iff.mp he),λe he=>h.one e (p.mem_iff.mp he),(p.pairwise_iff λz=>⟨z.2,z.1⟩).mpr h.mu⟩
theorem Ri(K:Kp S n ks):∀i,i<=ks.length->Ta S n (echI F ks i)/\(∀q k,q < ks.length - i->ks[q]? = some k->∀e∈echI F ks i,e.2 k.1=S.zero)
 | 0,_=>⟨⟨(λe he=>nomatch he),(λe he=>nomatch he),.nil⟩,(λq k _ _ e he=>nomatch he)⟩
 | i+1,hi=>by
  obtain⟨E,a1d⟩:=Ri K i Y;have hk:ks[ks.length - 1 - i]? = some (ks[ks.length - 1 - i]'Y):=ah _;revert hk;generalize ks[ks.length - 1 - i]'Y=k;intro hk;have km:=aK hk;have zk:∀e∈echI F ks i,e.2 k.1=S.zero:=a1d _ k Y hk;rw[Q7 Y hk];refine⟨⟨λe he=>?_,λe he=>?_,?_⟩,λq k' hq iP e he=>?_⟩
  . rcases aH.mp he with he | he
    . exact E.lt e he
    . rw[ax.mp he];exact K.lt k km
  . rcases aH.mp he with he | he
    . exact E.one e he
    . rw[ax.mp he];show clr F (echI F ks i) k.2 k.1=S.one;rw[Fy zk];exact K.one k km
  . rw[List.pairwise_append];refine⟨E.mu,List.pairwise_singleton _ _,λe he b hb=>?_⟩;rw[ax.mp hb];exact⟨zk e he,E.Kp.clr e he⟩
  . have z0:∀e∈echI F ks i,e.2 k'.1=S.zero:=a1d q k' Y iP;rcases aH.mp he with he | he
    . exact z0 e he
    . rw[ax.mp he];show clr F (echI F ks i) k.2 k'.1=S.zero;rw[Fy z0];have gb:q < ks.length - 1 - i:=by omega
      obtain⟨q1,q2⟩:=aU.mp iP;obtain⟨r1,r2⟩:=aU.mp hk;have:=dg.mp K.tri q (ks.length - 1 - i) q1 r1 gb;rwa [q2,r2]at this
def a0m{es:List (Nat × (Nat->S.W))}{e:Nat × (Nat->S.W)}(h:e∈es):∃i,i < es.length/\kv es i=e.2/\PM es i=e.1:=by
 obtain⟨i,hi,z⟩:=cQ.mp h;have:es[i]? = some e:=by rw[ah hi,z]
 exact⟨i,hi,GA this,Eo this⟩
def L5.ech(h:L5 F n rs es):Ta S n es:=by
 have K:Kp S n (kpL F (if rs.length=0 then 0 else n) rs):=by
  have:=W8 (F:=F) (w:=if rs.length=0 then 0 else n) rs;exact⟨λk hk=>aA (this.lt k hk) BU,this.one,this.tri⟩
 have:=(Ri (F:=F) K _ (ae _)).1;rw[W0]at this;exact this.perm h.pm
def Ta.at(h:Ta S n es)(hi:i < es.length)(hj:j < es.length):kv es i (PM es j)=if i=j then S.one else S.zero:=by
 rw[GA (ah hi),Eo (ah hj)];by_cases e:i=j
 . subst e;rw[if_pos rfl];exact h.one _ (aJ hi)
 . rw[if_neg e];have P:=dg.mp h.mu;by_cases lt:i < j
   . exact(P i j hi hj lt).1
   . exact(P j i hj hi Y).2
def Ta.parts(h:Ta S n es)(s:M8 S n es.length (kv es) v):∀j,j < n->v j=lin S (λi=>v (PM es i)) (kv es) es.length j:=by
 obtain⟨c,hc⟩:=s;have hp:∀i,i < es.length->PM es i < n:=λi hi=>by rw[Eo (ah hi)];exact h.lt _ (aJ hi)
 have ec:∀i,i < es.length->v (PM es i)=c i:=λi hi=>by
  rw[hc _ (hp i hi)];unfold lin;rw[P9 (i:=i) hi λk hk ne=>by rw[h.at hk hi,if_neg ne,S.mul_zero],h.at hi hi,if_pos U,S.mul_one]
 intro j hj;rw[hc j hj];exact j0 λi hi=>by dsimp only;rw[ec i hi]
def VL{n:Nat}{ks es:List (Nat × (Nat->S.W))}(pm:es.Perm (JG F ks)):(∀k∈ks,M8 S n es.length (kv es) k.2)/\∀m vs,(∀k∈ks,M8 S n m vs k.2)->∀e∈es,M8 S n m vs e.2:=by
 have gen:∀e∈es,M8 S n es.length (kv es) e.2:=λe he=>by
  obtain⟨i,hi,z,_⟩:=a0m he;rw[<- z];exact M8.gen hi
 have fc:∀i,i<=ks.length->∀e∈echI F ks i,e∈es:=by
  intro i hi e he;rw[pm.mem_iff,<- W0];have pre:∀k,i+k<=ks.length->e∈echI F ks (i+k):=by
   intro k
   induction k with
   | zero=>intro _;exact he
   | succ k ih=>
    intro hk;rw[<- Nat.add_assoc,Q7 Y (ah (show ks.length - 1 - (i+k) < ks.length by omega))];exact bC _ (ih Y)
  have:=pre (ks.length - i) Y;rwa [show i+(ks.length - i)=ks.length by omega]at this
 constructor
 . intro k hk;obtain⟨q,hq,z⟩:=cQ.mp hk;have hs:=Q7 (F:=F) (ks:=ks) (i:=ks.length - 1 - q) (k:=k) Y (by rw[show ks.length - 1 - (ks.length - 1 - q)=q by omega,ah hq,z]);have m1:(k.1,clr F (echI F ks (ks.length - 1 - q)) k.2)∈es:=fc (ks.length - 1 - q+1) Y _ (by rw[hs];exact aP _ (cP _));have h1:=gen _ m1;have h2:=Bd (F:=F) (u:=k.2) λe he=>gen e (fc (ks.length - 1 - q) Y e he);refine(h1.add (h2.mul (F.neg S.one))).congr λj hj=>?_;show _=S.add (clr F _ k.2 j) _;rw[JF,JE,XF,VF,<- S.add_assoc,F.add_neg,JD]
 . intro m vs h2 e he;have h3:∀i,i<=ks.length->∀e∈echI F ks i,M8 S n m vs e.2:=by
    intro i
    induction i with
    | zero=>intro _ e he;cases he
    | succ i ih=>
     intro hi e he;rw[Q7 Y (ah (show ks.length - 1 - i < ks.length by omega))]at he;rcases aH.mp he with he | he
     . exact ih Y e he
     . rw[ax.mp he];have a:=h2 _ (aJ (show ks.length - 1 - i < ks.length by omega));have b:=Bd (F:=F) (u:=(ks[ks.length - 1 - i]'Y).2) (ih Y);refine(b.add a).congr λj hj=>?_;rw[S.add_assoc,S.add_comm (F.neg _),F.add_neg,S.add_zero]
   have hm:=pm.mem_iff.mp he;rw[<- W0]at hm;exact h3 _ (ae _) _ hm
def L5.span(h:L5 F n rs es):(∀r∈rs,M8 S n es.length (kv es) r)/\∀i,i < es.length->M8 S n rs.length (AD rs) (kv es i):=by
 obtain⟨h1,h2⟩:=VL (n:=n) h.pm;constructor
 . intro r hr;have z:rs.length≠0:=λz=>by rw[bz.mp z]at hr;cases hr
   rw[if_neg z]at h1;obtain⟨c,hc⟩:=NG (F:=F) (w:=n) rs r hr;have:M8 S n es.length (kv es) (lin S c (kv (kpL F n rs)) (kpL F n rs).length):=M8.lin λi hi=>h1 _ (AW hi);exact this.congr hc
 . intro i hi;rw[GA (ah hi)];refine h2 _ _ (λk hk=>?_) _ (aJ hi);have z:rs.length≠0:=λz=>by
    rw[bz.mp z]at hk;cases hk
   rw[if_neg z]at hk;exact Fm _ (λr hr=>by
    obtain⟨q,hq,rfl⟩:=Fv hr;exact M8.gen hq) k hk
end
section
variable{S:SR}{F:S7 S}{C:Cb S}
def V5:C0 S (lin S c vs m) y n=sm S (λk=>S.mul (c k) (C0 S (vs k) y n)) m:=BY c vs y m n
def F9(h:∀j,j < n->x j=x' j):C0 S x y n=C0 S x' y n:=j0 λi hi=>by rw[h i hi]
def Et(h:∀j,j < n->y j=y' j):C0 S x y n=C0 S x y' n:=j0 λi hi=>by rw[h i hi]
def VN:C0 S (FZ S n A x) y n=C0 S x (Yp S n A y) n:=BY x A y n n
def mir:∀u:List Nat,j5 S n x (λc i j=>B c j i) u=P3 S n B x u.reverse:=by
 have fc:∀k (u:List Nat),u.length=k->j5 S n x (λc i j=>B c j i) u=P3 S n B x u.reverse:=by
  intro k
  induction k with
  | zero=>intro u e;rw[bz.mp e];rfl
  | succ k ih=>
   intro u e;have ne:u≠[]:=λz=>by rw[z]at e;cases e
   rw[<- de ne,B8,ih _ (by rw[df];omega),List.reverse_append];show _=Yp S n _ (P3 S n B x u.dropLast.reverse);rw[b0m]
 exact λu=>fc _ u rfl
structure Ks(F:S7 S)(l:List Nat)(n:Nat)(st:Nat->S.W)(tb:Nat->Nat->Nat->S.W)(es:List (Nat × (Nat->S.W))):Prop where
 ech:Ta S n es
 all:∀u,(∀d∈u,d∈l)->M8 S n es.length (kv es) (j5 S n st (w4 l tb) u)
 few:∀i,i < es.length->M8 S n (E3 l (n - 1)).length (AD ((E3 l (n - 1)).map (j5 S n st (w4 l tb)))) (kv es i)
 stp:∀i,i < es.length->∀c∈l,M8 S n es.length (kv es) (FZ S n (w4 l tb c) (kv es i))
def HY(E:L5 F n ((Ae F n (j5 S n st (w4 l tb)) (gB l)).map (j5 S n st (w4 l tb))) es):Ks F l n st tb es:=by
 obtain⟨s1,s2⟩:=E.span;have fa:=PV (F:=F) (ρ:=j5 S n st (w4 l tb)) (L:=λc=>FZ S n (w4 l tb c)) (Ml (l:=l)) (λc _=>Ic) (λc u _ j _=>by rw[B8]);have all:∀u,(∀d∈u,d∈l)->M8 S n es.length (kv es) (j5 S n st (w4 l tb) u):=λu hu=>by
  obtain⟨c,hc⟩:=fa u hu;have:M8 S n es.length (kv es) (lin S c (AD ((Ae F n (j5 S n st (w4 l tb)) (gB l)).map (j5 S n st (w4 l tb)))) (Ae F n (j5 S n st (w4 l tb)) (gB l)).length):=M8.lin λi hi=>s1 _ (LU (by rw[af];exact hi));exact this.congr hc
 refine⟨E.ech,all,λi hi=>?_,λi hi c hc=>?_⟩
 . obtain⟨d,hd⟩:=s2 i hi;refine(M8.lin (c:=d) λk hk=>?_:M8 S n _ _ (lin S d (AD ((Ae F n (j5 S n st (w4 l tb)) (gB l)).map (j5 S n st (w4 l tb)))) _)).congr hd;obtain⟨w,hw,e⟩:=aw.mp (LU hk);rw[<- e];have:=V1 AX hw;obtain⟨q,hq,eq⟩:=Fv (List.mem_map_of_mem (f:=j5 S n st (w4 l tb)) (ED (l:=l) (n - 1) w Y this.2));rw[<- eq];rw[af]at hq;exact M8.gen hq
 . obtain⟨d,hd⟩:=s2 i hi;have e1:∀j,j < n->FZ S n (w4 l tb c) (kv es i) j=lin S d (λk=>FZ S n (w4 l tb c) (AD ((Ae F n (j5 S n st (w4 l tb)) (gB l)).map (j5 S n st (w4 l tb))) k)) ((Ae F n (j5 S n st (w4 l tb)) (gB l)).map (j5 S n st (w4 l tb))).length j:=λj hj=>by
    rw[Ic.co _ _ hd j hj,Ic.li _ _ _ j hj]
   refine(M8.lin (c:=d) λk hk=>?_:M8 S n es.length (kv es) (lin S d _ _)).congr e1;obtain⟨w,hw,e⟩:=aw.mp (LU hk);have:=V1 AX hw;rw[<- e,<- B8];exact all _ λq hq=>by
    rcases aH.mp hq with hq | hq
    . exact this.2 q hq
    . rw[ax.mp hq];exact hc
theorem Ks.col(N:Ks F l n st tb es)(en:Nat->S.W):∀u,(∀d∈u,d∈l)->∀i,i < es.length->P3 S es.length (w4 l (GL n es tb)) (Nm n es en) u i=C0 S (kv es i) (P3 S n (w4 l tb) en u) n
 | [],_,i,_=>rfl
 | c::u,hu,i,hi=>by
  have hc:=hu c (aF ..);have ih:=Ks.col N en u λd hd=>hu d (aC _ hd);show C0 S (λj=>FZ S n (w4 l tb c) (kv es i) (PM es j)) (P3 S es.length (w4 l (GL n es tb)) (Nm n es en) u) es.length=C0 S (kv es i) (Yp S n (w4 l tb c) (P3 S n (w4 l tb) en u)) n;rw[Et ih,<- VN,F9 (N.ech.parts (N.stp i hi c hc)),V5];rfl
def Fw{α:Type}{f:α->Nat->S.W}{ws:List α}{j:Nat}(d:α)(h:j < ws.length):AD (ws.map f) j=f (ws.getD j d):=by
 rw[Gm (r:=f ws[j]) (by rw[aE,ah h];rfl),aR,ah h];rfl
abbrev AL(l u:List Nat):Prop:=∀d∈u,d∈l
def QZ(h:j < (E3 l m).length):(E3 l m).getD j []∈E3 l m:=by
 rw[aR,ah h];exact aJ h
abbrev DB(tb:Nat->Nat->Nat->α):Nat->Nat->Nat->α:=λa i j=>tb a j i
def a0j(u:List Nat):j5 S n x (w4 l (DB tb)) u=P3 S n (w4 l tb) x u.reverse:=mir (B:=w4 l tb) u
def n0f(u:List Nat):P3 S n (w4 l (DB tb)) x u=j5 S n x (w4 l tb) u.reverse:=by
 have:=mir (S:=S) (n:=n) (x:=x) (B:=w4 l (DB tb)) u.reverse;rw[List.reverse_reverse]at this;exact this.symm
def Qm(h:AL l u):AL l u.reverse:=λd hd=>h d (List.mem_reverse.mp hd)
def Ks.rowT(N:Ks F l n en (DB tb) es)(u:List Nat)(hu:AL l u)(i:Nat)(hi:i < es.length):j5 S es.length (Nm n es st) (w4 l (DB (GL n es (DB tb)))) u i=C0 S (kv es i) (j5 S n st (w4 l tb) u) n:=by
 rw[a0j,N.col st _ (Qm hu) i hi,n0f,List.reverse_reverse]
def cnt(F:S7 S){r c o:Nat}{M P:Nat->Nat->S.W}(I:Qr S o r M)(h:∀j,j < o->∃d:Nat->S.W,∀i,i < r->M i j=sm S (λk=>S.mul (d k) (P i k)) c):r<=c:=by
 have J:Qr S c r P:=λx hx=>I x λj hj=>by
  obtain⟨d,hd⟩:=h j hj;show sm S (λi=>S.mul (x i) (M i j)) r=S.zero;rw[j0 (g:=λi=>S.mul (x i) (sm S (λk=>S.mul (P i k) (d k)) c)) λi hi=>by
   rw[hd i hi];congr 1;exact j0 λk _=>S.mul_comm _ _,<- BY]
  rw[j0 (g:=λ_=>S.zero) λk hk=>by
   have:=hx k hk;unfold lin at this;rw[this,AZ],D8]
 refine AG F (w:=c) (n:=c) (vs:=λk j=>if k=j then S.one else S.zero) J λi hi=>⟨P i,λj hj=>?_⟩;unfold lin;rw[P9 (i:=j) hj λk _ ne=>by dsimp only;rw[if_neg ne,S.mul_zero]];dsimp only;rw[if_pos U,S.mul_one]
def b0e:Qr S w (Ae F w ρ g).length (AD ((Ae F w ρ g).map ρ)):=by
 have K:=LQ (F:=F) (w:=w) (ρ:=ρ) (g:=g) (w+1);refine(VD (F:=F)).mp ?_;show(kpL F w ((x6 F w ρ g (w+1)).told.map ρ)).length=(x6 F w ρ g (w+1)).told.length;rw[<- K.is];exact K.fu
end
section
variable{S:SR}{F:S7 S}{C:Cb S}
def ZN{l:List Nat}{n:Nat}{st:Nat->S.W}{tb:Nat->Nat->Nat->S.W}{en:Nat->S.W}{es:List (Nat × (Nat->S.W))}(N:Ks F l n en (DB tb) es)(u:List Nat)(hu:AL l u):C0 S (j5 S es.length (Nm n es st) (w4 l (DB (GL n es (DB tb)))) u) (Xf es en) es.length=C0 S (j5 S n st (w4 l tb) u) en n:=by
 have hp:=N.ech.parts (N.all [] λd hd=>nomatch hd);have hp:∀j,j < n->en j=lin S (λi=>en (PM es i)) (kv es) es.length j:=hp;rw[Et hp,Ba (j5 S n st (w4 l tb) u),V5];exact j0 λi hi=>by
  rw[N.rowT u hu i hi,S.mul_comm];rfl
end
section
variable{S:SR}{F:S7 S}{C:Cb S}
def K7(S:SR)(l:List Nat)(n:Nat)(st:Nat->S.W)(tb:Nat->Nat->Nat->S.W)(en:Nat->S.W)(u:List Nat):S.W:=C0 S (j5 S n st (w4 l tb) u) en n
theorem o0c{n:Nat}{tc:Nat->Nat->Nat->S.W}{en:Nat->S.W}:∀(v:List Nat) (x:Nat->S.W),C0 S (j5 S n x tc v) en n=C0 S x (P3 S n tc en v) n
 | [],_=>rfl
 | c::v,x=>(o0c v (FZ S n (tc c) x)).trans VN
def Qg{n:Nat}{st:Nat->S.W}{tc:Nat->Nat->Nat->S.W}{en:Nat->S.W}(u v:List Nat):C0 S (j5 S n st tc (u++v)) en n=C0 S (j5 S n st tc u) (P3 S n tc en v) n:=by
 have:j5 S n st tc (u++v)=j5 S n (j5 S n st tc u) tc v:=cM;rw[this,o0c]
def Qn{l u v:List Nat}(h:AL l u)(g:AL l v):AL l (u++v):=λd hd=>by
 rcases aH.mp hd with hd | hd
 . exact h d hd
 . exact g d hd
def K0{ws:List (List Nat)}{k:Nat}(h:k < ws.length):ws.getD k []∈ws:=by
 rw[aR,ah h];exact aJ h
noncomputable abbrev Xg{S:SR}(l:List Nat)(n:Nat)(es:List (Nat × (Nat->S.W)))(st:Nat->S.W)(tb:Nat->Nat->Nat->S.W):List Nat->Nat->S.W:=j5 S es.length (Nm n es st) (w4 l (DB (GL n es (DB tb))))
section
variable{l:List Nat}{n:Nat}{st:Nat->S.W}{tb:Nat->Nat->Nat->S.W}{en:Nat->S.W}{es:List (Nat × (Nat->S.W))}{ws:List (List Nat)}{c:Nat->S.W}
def Ks.cutN(N:Ks F l n en (DB tb) es){u v:List Nat}(hu:AL l u)(hv:AL l v):K7 S l n st tb en (u++v)=C0 S (Xg l n es st tb u) (P3 S es.length (w4 l (DB (GL n es (DB tb)))) (Xf es en) v) es.length:=by
 rw[<- Qg,ZN N _ (Qn hu hv)];rfl
def Ks.smw(N:Ks F l n en (DB tb) es)(hw:∀u∈ws,AL l u){v:List Nat}(hv:AL l v):sm S (λk=>S.mul (c k) (K7 S l n st tb en (ws.getD k []++v))) ws.length=C0 S (lin S c (AD (ws.map (Xg l n es st tb))) ws.length) (P3 S es.length (w4 l (DB (GL n es (DB tb)))) (Xf es en) v) es.length:=by
 rw[V5];exact j0 λk hk=>by rw[Fw [] hk,N.cutN (hw _ (K0 hk)) hv]
def Ks.spread(N:Ks F l n en (DB tb) es)(hw:∀u∈ws,AL l u){u:List Nat}(hu:AL l u)(h:∀i,i < es.length->Xg l n es st tb u i=lin S c (AD (ws.map (Xg l n es st tb))) ws.length i){v:List Nat}(hv:AL l v):K7 S l n st tb en (u++v)=sm S (λk=>S.mul (c k) (K7 S l n st tb en (ws.getD k []++v))) ws.length:=by
 rw[N.smw hw hv,N.cutN hu hv,F9 h]
def Ks.back(N:Ks F l n en (DB tb) es)(hw:∀u∈ws,AL l u)(h:∀v,AL l v->v.length<=n - 1->sm S (λk=>S.mul (c k) (K7 S l n st tb en (ws.getD k []++v))) ws.length=S.zero):∀i,i < es.length->lin S c (AD (ws.map (Xg l n es st tb))) ws.length i=S.zero:=λi hi=>by
 have e1:lin S c (AD (ws.map (Xg l n es st tb))) ws.length i=C0 S (lin S c (λk=>j5 S n st (w4 l tb) (ws.getD k [])) ws.length) (kv es i) n:=by
  rw[V5];exact j0 λk hk=>by rw[Fw [] hk,show Xg l n es st tb (ws.getD k []) i=_ from N.rowT _ (hw _ (K0 hk)) i hi,Ba]
 obtain⟨d,hd⟩:=N.few i hi;rw[e1,Et hd,Ba,V5];rw[j0 (g:=λ_=>S.zero) λq hq=>?_,D8];have up:=X7 _ _ (QZ hq);have:=h _ (Qm up.2) (by rw[List.length_reverse];exact up.1);rw[Fw [] hq,a0j,Ba,V5];have e2:sm S (λk=>S.mul (c k) (C0 S (j5 S n st (w4 l tb) (ws.getD k [])) (P3 S n (w4 l tb) en ((E3 l (n - 1)).getD q []).reverse) n)) ws.length=S.zero:=by
  rw[<- this];exact j0 λk hk=>by rw[<- Qg];rfl
 rw[e2,S.mul_zero]
end
section
variable{l:List Nat}{n n':Nat}{st dY:Nat->S.W}{tb bY:Nat->Nat->Nat->S.W}{en ed:Nat->S.W}{es jM:List (Nat × (Nat->S.W))}
def W9(S:SR)(n:Nat)(x y:Nat->S.W):Nat->S.W:=λj=>if j < n then x j else y (j - n)
end
section
variable{l:List Nat}{n:Nat}{st dY:Nat->S.W}{tb bY:Nat->Nat->Nat->S.W}{en ed:Nat->S.W}
def Mj(e:(∀i,i < n->dY i=st i)/\(∀c,c < l.length->∀i,i < n->∀j,j < n->bY c i j=tb c i j))
    (g:(∀c,c < l.length->∀j,j < n->bY c n j=S.zero)\/(dY n=S.zero/\∀c,c < l.length->∀i,i < n->bY c i n=S.zero)):∀u,AL l u->(∀i,i < n->j5 S (n+1) dY (w4 l bY) u i=j5 S n st (w4 l tb) u i)/\((∀c,c < l.length->∀j,j < n->bY c n j=S.zero)\/j5 S (n+1) dY (w4 l bY) u n=S.zero):=by
 refine(Ml (l:=l)).ind _ ⟨e.1,g.imp id And.left⟩ λc u hc hu ih=>?_;have hx:l.idxOf c < l.length:=cR.mpr hc;rw[B8,B8];have eq:∀j,j < n->FZ S (n+1) (w4 l bY c) (j5 S (n+1) dY (w4 l bY) u) j=S.add (FZ S n (w4 l tb c) (j5 S n st (w4 l tb) u) j) (S.mul (j5 S (n+1) dY (w4 l bY) u n) (bY (l.idxOf c) n j)):=λj hj=>by
  show S.add (sm S _ n) _=S.add (sm S _ n) _;congr 1;exact j0 λi hi=>by
   rw[ih.1 i hi];show S.mul _ (bY (l.idxOf c) i j)=S.mul _ (tb (l.idxOf c) i j);rw[e.2 _ hx i hi j hj]
 rcases ih.2 with z | z
 . exact⟨λj hj=>by rw[eq j hj,z _ hx j hj,S.mul_zero,S.add_zero],.inl z⟩
 . refine⟨λj hj=>by rw[eq j hj,z,AZ,S.add_zero],?_⟩;rcases g with g | g
   . exact .inl g
   . right;show S.add (sm S (λi=>S.mul (j5 S (n+1) dY (w4 l bY) u i) (bY (l.idxOf c) i n)) n) (S.mul (j5 S (n+1) dY (w4 l bY) u n) _)=_;rw[z,AZ,S.add_zero,j0 (g:=λ_=>S.zero) λi hi=>by rw[g.2 _ hx i hi,S.mul_zero],D8]
def Wj(e:(∀i,i < n->dY i=st i)/\(∀c,c < l.length->∀i,i < n->∀j,j < n->bY c i j=tb c i j)/\∀i,i < n->ed i=en i)
    (g:(ed n=S.zero/\∀c,c < l.length->∀j,j < n->bY c n j=S.zero)\/(dY n=S.zero/\∀c,c < l.length->∀i,i < n->bY c i n=S.zero)) (u:List Nat) (hu:AL l u):K7 S l (n+1) dY bY ed u=K7 S l n st tb en u:=by
 have d:K7 S l (n+1) dY bY ed u=S.add (C0 S (j5 S (n+1) dY (w4 l bY) u) ed n) (S.mul (j5 S (n+1) dY (w4 l bY) u n) (ed n)):=rfl;have f:(∀i,i < n->j5 S (n+1) dY (w4 l bY) u i=j5 S n st (w4 l tb) u i)->C0 S (j5 S (n+1) dY (w4 l bY) u) ed n=K7 S l n st tb en u:=λa=>j0 λi hi=>by rw[a i hi,e.2.2 i hi]
 rcases g with g | g
 . have a:=(Mj (S:=S) ⟨e.1,e.2.1⟩ (.inl g.2) u hu).1;rw[d,g.1,S.mul_zero,S.add_zero,f a]
 . rcases Mj (S:=S) ⟨e.1,e.2.1⟩ (.inr g) u hu with ⟨a,b | b⟩
   . have r0:j5 S (n+1) dY (w4 l bY) u n=S.zero:=by
      have fc:∀u,AL l u->j5 S (n+1) dY (w4 l bY) u n=S.zero:=by
       refine(Ml (l:=l)).ind _ g.1 λc u hc hu ih=>?_;have hx:l.idxOf c < l.length:=cR.mpr hc;rw[B8];show S.add (sm S (λi=>S.mul (j5 S (n+1) dY (w4 l bY) u i) (bY (l.idxOf c) i n)) n) (S.mul (j5 S (n+1) dY (w4 l bY) u n) _)=_;rw[ih,AZ,S.add_zero,j0 (g:=λ_=>S.zero) λi hi=>by rw[g.2 _ hx i hi,S.mul_zero],D8]
      exact fc u hu
     rw[d,r0,AZ,S.add_zero,f a]
   . rw[d,b,AZ,S.add_zero,f a]
end
end
section
variable{S:SR}{F:S7 S}{C:Cb S}
def Fx{w m:Nat}{vs:Nat->Nat->S.W}{u y:Nat->S.W}(h:M8 S w m vs u)(z:∀k,k < m->C0 S (vs k) y w=S.zero):C0 S u y w=S.zero:=by
 obtain⟨c,hc⟩:=h;rw[F9 hc,V5,j0 (g:=λ_=>S.zero) λk hk=>by rw[z k hk,S.mul_zero],D8]
open Classical in
noncomputable def He(D:List Nat->S.W)(ws:List (List Nat)):List (List Nat):=ws.filter λu=>decide (D u≠S.zero)
def QK{D:List Nat->S.W}{ws:List (List Nat)}:(He D ws).length<=ws.length:=List.length_filter_le _ _
def Lf{D:List Nat->S.W}{ws:List (List Nat)}{u:List Nat}:u∈He D ws↔u∈ws/\D u≠S.zero:=by
 unfold He;rw[cV];simp
def ET{D:List Nat->S.W}{ws:List (List Nat)}:He D ws=[]↔∀u∈ws,D u=S.zero:=by
 rw[List.eq_nil_iff_forall_not_mem];exact⟨λh u hu=>Classical.byContradiction λn=>h u (Lf.mpr ⟨hu,n⟩),λh u hu=>(Lf.mp hu).2 (h u (Lf.mp hu).1)⟩
def Zx{D:List Nat->S.W}{ws:List (List Nat)}{u:List Nat}{j:Nat}(h:ws[j]? = some u)(e:D u=S.zero):He D (ws.take (j+1))=He D (ws.take j):=by
 unfold He;rw[J2 h,dF];simp[e]
def WU{D:List Nat->S.W}{ws:List (List Nat)}{u:List Nat}{j:Nat}(h:ws[j]? = some u)(e:D u≠S.zero):He D (ws.take (j+1))=He D (ws.take j)++[u]:=by
 unfold He;rw[J2 h,dF];simp[e]
noncomputable def gP(l:List Nat)(D:List Nat->S.W)(ws:List (List Nat)):List (List Nat):=if(He D ws).length=0 then gB l ws else []
def Kh{l:List Nat}{D:List Nat->S.W}:Gw l (gP l D):=by
 refine⟨?_,λws i h u hu=>?_⟩
 . unfold gP;split <;>rfl
 . unfold gP at hu;split at hu
   . exact AX.2 ws i h u hu
   . cases hu
section
variable{l:List Nat}{n:Nat}{ρ:List Nat->Nat->S.W}{D:List Nat->S.W}
theorem Hj:∀i,(∀u∈(x6 F n ρ (gP l D) i).told,D u=S.zero)->x6 F n ρ (gP l D) i=x6 F n ρ (gB l) i
 | 0,_=>rfl
 | i+1,h=>by
  have h0:∀u∈(x6 F n ρ (gP l D) i).told,D u=S.zero:=λu hu=>h u (bC _ hu);have e:=Hj i h0;have hf:He D (FD F n ρ (x6 F n ρ (gP l D) i).ks (x6 F n ρ (gP l D) i).last)=[]:=ET.mpr λu hu=>h u (aP _ hu);have eg:gP l D (FD F n ρ (x6 F n ρ (gP l D) i).ks (x6 F n ρ (gP l D) i).last)=gB l (FD F n ρ (x6 F n ρ (gP l D) i).ks (x6 F n ρ (gP l D) i).last):=if_pos (by rw[hf];rfl);show(⟨_,_,gP l D _⟩:Yw S)=⟨_,_,gB l _⟩;rw[eg,e]
end
section
variable{l:List Nat}{n:Nat}{st:Nat->S.W}{tb:Nat->Nat->Nat->S.W}{en:Nat->S.W}
def Rc(h:He (K7 S l n st tb en) (Ae F n (j5 S n st (w4 l tb)) (gP l (K7 S l n st tb en)))=[]):∀u,AL l u->K7 S l n st tb en u=S.zero:=λu hu=>by
 have h:=ET.mp h;have e:=Hj (F:=F) (l:=l) (n:=n) (ρ:=j5 S n st (w4 l tb)) (D:=K7 S l n st tb en) (n+1) h;have e2:Ae F n (j5 S n st (w4 l tb)) (gP l (K7 S l n st tb en))=Ae F n (j5 S n st (w4 l tb)) (gB l):=congrArg Yw.told e;rw[e2]at h;have sp:=PV (F:=F) (l:=l) (w:=n) (ρ:=j5 S n st (w4 l tb)) (L:=λc=>FZ S n (w4 l tb c)) Ml (λc _=>Ic) (λc u _ j _=>by rw[B8]) u hu;refine Fx sp λk hk=>?_;rw[Fw [] hk];exact h _ (K0 hk)
end
end
end Mine
namespace L2
open PySem Mine
def Q9(C:Addr)(fs:List (Str × V))(H:Hp)(k:V):Prop:=∃p dx,k=.ref p/\H p=some (.ins C dx fs)
def Q9.same{C:Addr}{fs:List (Str × V)}{H H':Hp}{k:V}(e:h9 H H')(h:Q9 C fs H k):Q9 C fs H' k:=by
 obtain⟨p,dx,rfl,h⟩:=h;exact⟨p,dx,U,e _ _ h⟩
def X0(S:SR)(n:Nat):Prop:=n<=60000000\/∀k y,S.sz k y
def X0.le{S:SR}{m n:Nat}(h:X0 S n)(e:m<=n):X0 S m:=h.imp (ag e) id
def JS(C:Addr)(fs:List (Str × V))(S:SR)(is:Hp->V->S.W->Prop)(f:S.W->S.W->S.W):Sp:=λvs H Q _=>∃k x y a b m n,vs=[k,x,y]/\
 (Q9 C fs H k/\is H x a/\is H y b/\S.sz m a/\S.sz n b/\X0 S (m+n))/\∀v H',h9 H H'->is H' v (f a b)->Q v H'
def JR(C:Addr)(fs:List (Str × V))(S:SR)(is:Hp->V->S.W->Prop)(z:S.W):Sp:=λvs H Q _=>∃k,vs=[k]/\Q9 C fs H k/\∀v H',h9 H H'->is H' v z->Q v H'
def TQ(C:Addr)(fs:List (Str × V))(S:SR)(is:Hp->V->S.W->Prop):Sp:=λvs H Q _=>∃k x a,vs=[k,x]/\(Q9 C fs H k/\is H x a)/\Q (.bl true) H
def d0a(b:Bool):Sp:=λvs H Q _=>∃x,vs=[x]/\Q (.bl b) H
def TN(C:Addr)(fs:List (Str × V))(S:SR)(is:Hp->V->S.W->Prop)(f:S.W->S.W):Sp:=λvs H Q _=>∃k x a,vs=[k,x]/\(Q9 C fs H k/\is H x a)/\∀v H',h9 H H'->is H' v (f a)->Q v H'
def TR(C:Addr)(fs:List (Str × V))(S:SR)(is:Hp->V->S.W->Prop)(f:S.W->S.W):Sp:=λvs H Q _=>∃k x a,vs=[k,x]/\(Q9 C fs H k/\is H x a/\a≠S.zero)/\∀v H',h9 H H'->is H' v (f a)->Q v H'
set_option genInjectivity false in
set_option genSizeOfSpec false in
structure g9(P:Program)(w:World)(K:aa)(mg:Str->Option Value)(base:Heap)where
 S:SR
 C:Addr
 fs:List (Str × V)
 cl:Qs K C
 is:Hp->V->S.W->Prop
 same:∀{H H':Hp} {v:V} {x:S.W},x4 H H'->is H v x->is H' v x
 isd:∀{H:Hp} {v:V} {x:S.W},is H v x->Is K H v (S.data x)
 F:S7 S
 B:Cb S
 f_minus:Addr
 d_minus:FuncData
 t_minus:Gp K C "minus" f_minus
 b_minus:M1 K d_minus ["self","x"] []
 l_minus:fs.lookup ("minus":Str)=none
 G_minus:∀{base:Heap},r8 P w K mg base E7 40 f_minus d_minus ["self","x"] (TN C fs S is F.neg)
 f_inverse:Addr
 d_inverse:FuncData
 t_inverse:Gp K C "inverse" f_inverse
 b_inverse:M1 K d_inverse ["self","x"] []
 l_inverse:fs.lookup ("inverse":Str)=none
 G_inverse:∀{base:Heap},r8 P w K mg base E7 40 f_inverse d_inverse ["self","x"] (TR C fs S is F.inv)
 f_is_field:Addr
 d_is_field:FuncData
 t_is_field:Gp K C "is_field" f_is_field
 b_is_field:M1 K d_is_field ["self"] []
 l_is_field:fs.lookup ("is_field":Str)=none
 G_is_field:∀{base:Heap},r8 P w K mg base E7 40 f_is_field d_is_field ["self"] (d0a true)
 f_plus:Addr
 d_plus:FuncData
 t_plus:Gp K C "plus" f_plus
 b_plus:M1 K d_plus ["self","x","y"] []
 l_plus:fs.lookup ("plus":Str)=none
 G_plus:∀{base:Heap},r8 P w K mg base E7 40 f_plus d_plus ["self","x","y"] (JS C fs S is S.add)
 f_times:Addr
 d_times:FuncData
 t_times:Gp K C "times" f_times
 b_times:M1 K d_times ["self","x","y"] []
 l_times:fs.lookup ("times":Str)=none
 G_times:∀{base:Heap},r8 P w K mg base E7 40 f_times d_times ["self","x","y"] (JS C fs S is S.mul)
 f_nought:Addr
 d_nought:FuncData
 t_nought:Gp K C "nought" f_nought
 b_nought:M1 K d_nought ["self"] []
 l_nought:fs.lookup ("nought":Str)=none
 G_nought:∀{base:Heap},r8 P w K mg base E7 40 f_nought d_nought ["self"] (JR C fs S is S.zero)
 f_is_weight:Addr
 d_is_weight:FuncData
 t_is_weight:Gp K C "is_weight" f_is_weight
 b_is_weight:M1 K d_is_weight ["self","thing"] []
 l_is_weight:fs.lookup ("is_weight":Str)=none
 G_is_weight:∀{base:Heap},r8 P w K mg base E7 40 f_is_weight d_is_weight ["self","thing"] (TQ C fs S is)
 f_one:Addr
 d_one:FuncData
 t_one:Gp K C "one" f_one
 b_one:M1 K d_one ["self"] []
 l_one:fs.lookup ("one":Str)=none
 G_one:∀{base:Heap},r8 P w K mg base E7 40 f_one d_one ["self"] (JR C fs S is S.one)
def g9.re{P:Program}{w:World}{K:aa}{mg:Str->Option Value}{base:Heap}(R:g9 P w K mg base)(oH:Heap):g9 P w K mg oH:={ R with }
section
variable{P:Program}{w:World}{K:aa}{mg:Str->Option Value}{base:Heap}
def g9.neD(R:g9 P w K mg base){H:Hp}{x y:V}{a b:R.S.W}{Q:VK}(hx:R.is H x a)(hy:R.is H y b)(e:a=b)(q:Q (.bl false) H):OU K x y H Q:=
 ⟨_,_,R.isd hx,R.isd hy,R.S.sh _,R.S.sh _,R.S.nm _ _,by subst e;rw[R.S.eq];exact q⟩
def g9.neT(R:g9 P w K mg base){H:Hp}{x y:V}{a b:R.S.W}{Q:VK}(hx:R.is H x a)(hy:R.is H y b)(e:a≠b)(q:Q (.bl true) H):OU K x y H Q:=
 ⟨_,_,R.isd hx,R.isd hy,R.S.sh _,R.S.sh _,R.S.nm _ _,by rw[R.S.ne _ _ e];exact q⟩
end
def GX(H:Hp)(v:V)(a b:Int):Prop:=∃p,v=.ref p/\H p=some (.tup [.int a,.int b])
def GX.same{H H':Hp}{v:V}{a b:Int}(e:x4 H H')(h:GX H v a b):GX H' v a b:=by
 obtain⟨p,rfl,h⟩:=h;exact⟨p,U,e _ _ h⟩
def GX.is{K:aa}{H:Hp}{v:V}{a b:Int}(h:GX H v a b):Is K H v (.tuple [.int a,.int b]):=by
 obtain⟨p,rfl,h⟩:=h;exact .tup (l9.of h) (.cons (.int _) (.cons (.int _) .nil))
def GX.new{H:Hp}{p:Addr}{a b:Int}:GX (upd H p (.tup [.int a,.int b])) (.ref p) a b:=⟨p,U,b9⟩
def NN(H:Hp)(v:V)(x:Fr):Prop:=GX H v x.t x.b
def NL(p:Int)(_:Hp)(v:V)(x:Re p):Prop:=v=.int x.x
def Pb(p:Int):List (Str × V):=Cr "prime" (.int p) []
def AQ(p:Int):(Pb p).lookup ("prime":Str)=some (.int p):=by
 unfold Pb;rw[As,if_pos rfl]
def Bt(p:Int){m:Str}(h:¬m="prime"):(Pb p).lookup m=none:=by
 unfold Pb;rw[As,if_neg h];rfl
def JU{H:Hp}{C x dx:Addr}{fs:List (Str × V)}(n:H x=none)(m:H dx=none):h9 H (upd (upd H dx (.own x)) x (.ins C dx fs)):=λb o e=>by
 rw[l6 (j7 e n),l6 (j7 e m)];exact e
def VP(xs:List V)(k:Nat):Dy xs none (some (k:Int))=xs.take k:=by
 unfold Dy;rw[HT.MO,HT.QF,List.drop_zero,Nat.sub_zero];by_cases h:k<=xs.length
 . rw[Nat.min_eq_left h]
 . rw[Nat.min_eq_right Y,bb,dH Y]
def decI{i j:Int}(e:i=j):decide (V.int i=V.int j)=true:=decide_eq_true (congrArg V.int e)
def Ms{x:Int}{n:Nat}(h:x.natAbs<=2 ^ n):Builtin.Int.intBits x<=n+1:=intBits_le_iff.mpr (Nat.lt_of_le_of_lt h (Nat.pow_lt_pow_right bD (ck _)))
def Ia{x y:Int}{m n:Nat}(h1:x.natAbs<=2 ^ m)(h2:y.natAbs<=2 ^ n)(h:m+n<=60000000):GE x y:=by
 have a:=Ms h1;have b:=Ms h2;show _<=2 ^ 27;have e:(2:Nat) ^ 27=134217728:=by decide
 omega
section
variable{P:Program}{w:World}{K:aa}{mg:Str->Option Value}{base:Heap}{R:g9 P w K mg base}{h n m:Nat}{x:Nat->R.S.W}{y:Nat->Nat->R.S.W}{v:V}{H H':Hp}
end
end L2
namespace L2
open PySem PySem.Spec PyProof.Rows
def c0t(ta:TA):TE:=λσ H Q=>ta σ H λvs H1=>∃n:Nat,vs=[.int n]/\n<=1000/\∀p,H1 p=none->Q (.ref p) (upd H1 p (.lst ((List.range n).map λi=>V.int (i:Nat))))
def Sh{X:Cx}{a:Expr}{ta:TA}{p p' pos fJ:Pos}(hc:X.calm=true)(hg:Gl X "list")(hm:X.mg "list"=none)(hg':Gl X "range")(fK:X.mg "range"=none)(ha:PA X [a] ta)
    (hs:starEach [a] X.env=[(false,eval a X.env)]:=by rfl) (vK:starEach [.Call (.Name "range" p') [a] [] fJ] X.env=[(false,eval (.Call (.Name "range" p') [a] [] fJ) X.env)]:=by rfl) :
    PE X (.Call (.Name "list" p) [.Call (.Name "range" p') [a] [] fJ] [] pos) (c0t ta):=by
 intro aS s σ H Q I h;refine wpAny_Call_Name_kw (AB I hg hm boot_list ?_);refine cj ?_ vK rfl;rw[vK];refine Calls.spliced_cons ?_;refine Call_ (AB I hg' fK boot_range (cj (I9 (ha fJ aS s σ H _ I h) λus s1 ⟨vs,H1,I1,r1,q1⟩=>?_) hs U));obtain⟨n,e,hn,q⟩:=q1;subst e;have line:1000 < sizeLine:=by decide
 cases r1 with
 | cons r rr=>
  cases rr;obtain⟨t,rfl⟩:=r;refine call_range_1 ?_;refine Calls.spliced_nil ?_;have sz:(s1.heap.push { cls:=.type "range",data:=.fields #[.int 0 s1.toks,.int n t,.int 1 (s1.toks+1)] }).objs.size=s1.heap.objs.size+1:=bu ..;refine call_list_range (n:=n) (I1.ok.hd hc) (IsRange.new ..) (small_one Y Y Y Y) (by rw[rangeSize_one];split <;>omega) Y λh' tk lI c' hk hS tU=>?_;have up:∀b o,s1.heap.get? b=some o->h'.get? b=some o:=λb o e=>hk b o (ak _ e);have uZ:s1.heap.objs.size<=(s1.heap.push { cls:=.type "range",data:=.fields #[.int 0 s1.toks,.int n t,.int 1 (s1.toks+1)] }).objs.size:=by rw[sz];omega
  obtain⟨kS,iQ⟩:=tU;have vals:x8 ((List.range n).map λi=>V.int (i:Nat)) lI.toList:=by
   have fc:∀(m k:Nat) (ls:List Value),ls.length=m->(∀i v,ls[i]? = some v->∃t,v=Value.int ((k+i:Nat):Int) t)->x8 ((List.range' k m).map λi=>V.int (i:Nat)) ls:=by
    intro m
    induction m with
    | zero=>intro k ls e _;cases bz.mp e;exact .nil
    | succ m ih=>
     intro k ls e g;cases ls with
     | nil=>cases e
     | cons v ls=>
      rw[List.range'_succ,aZ];obtain⟨t,rfl⟩:=g 0 v rfl;exact .cons ⟨t,U⟩ (ih (k+1) ls (by simpa using e) λi v hv=>by
       obtain⟨t,e2⟩:=g (i+1) v (by simpa using hv);exact⟨t,by rw[e2,show k+(i+1)=k+1+i by omega]⟩)
   have:=fc n 0 lI.toList (by simpa using kS) λi v hv=>by
    obtain⟨t,e2⟩:=iQ i v (by rw[<- Array.getElem?_toList];exact hv);exact⟨t,by rw[e2];congr 1;omega⟩
   rw[<- List.range_eq_range']at this;exact this
  exact⟨.ref _,_,I1.laid (t':=tk) up uZ (show M7 X.prog X.w _ h' _ (.lst _)from⟨by rw[af,bO];omega,lI.toList,c',vals,by rw[Array.toArray_toList];exact hS⟩),U,q _ (I1.hok.fresh uZ)⟩
end L2
namespace L2
open PySem PySem.Spec PyProof.Rows PySem.Builtin PySem.Builtin.Str
section
variable{X:Cx}
def AO{st:Stmt}{t:TS}(i:Nat)(h:PS X st t):PS X st (λD σ H=>t D (σ.set i none) H):=by
 intro aS s σ H D I q;refine h aS s (σ.set i none) H D (I.weak bJ λj v e=>?_) q;by_cases z:i=j
 . subst z;by_cases z2:i < σ.length
   . rw[cg z2]at e;cases e
   . rw[List.getElem?_eq_none (by rw[bJ];omega)]at e;cases e
 . rwa [bL z]at e
end
end L2
namespace L2
open PySem PySem.Spec PyProof.Rows
section
variable{P:Program}{w:World}{H H':Hp}{h h':Heap}
def AE.there(x:AE P w H h)(e:H a=some o):∃ob,h.get? a=some ob:=by
 have y:=x a o e;clear e x
 induction o with
 | lst xs=>obtain⟨_,its,n,r,e⟩:=y;exact⟨_,e⟩
 | tup xs=>obtain⟨_,its,r,⟨ob,e,c⟩,_⟩:=y;exact⟨_,e⟩
 | dK fi=>obtain⟨_,_,vs,r,ob,es,ep,e,c⟩:=y;exact⟨_,e⟩
 | dT fi=>obtain⟨_,_,xs,r,ob,es,ep,e,c⟩:=y;exact⟨_,e⟩
 | set S n=>obtain⟨ob,es,ep,t,e,c⟩:=y;exact⟨_,e⟩
 | ins C dx fs=>obtain⟨d,z,ne,e,_⟩:=y;exact⟨_,e⟩
 | own y'=>exact y
 | xd fs=>obtain⟨mA,⟨od,es,ep,e,c⟩,r⟩:=y;exact⟨_,e⟩
 | rng lo hi=>obtain⟨t,u,v,e⟩:=y;exact⟨_,e⟩
 | frz ob u ih=>exact⟨_,y.1⟩
 | tbl ps=>exact⟨_,y⟩
 | met f y'=>exact⟨_,y⟩
 | ext φ=>exact y.2.1
def AE.loose(x:AE P w H h)(k:∀b u,H b≠none->h.get? b=some u->h'.get? b=some u):AE P w H h':=λa o e=>
 (x a o e).stay (λb u hb q=>k b u (by
  rcases hb with z | z
  . rw[z,e];exact nofun
  . rw[z];exact nofun) q) (λ_ q=>q) λ_ _ q=>q
def XT(h:Heap)(a T C:Addr):Prop:=∃oe vs a0 oT ts,h.get? a=some oe/\(oe.cls=.ref C/\vs[0]? = some a0)/\oe.data=.fields vs/\vs[1]? = some (.ref T)/\T≠a/\h.get? T=some oT/\oT.data=.fields ts/\ts[3]? = some .none
structure Fly(P:Program)(w:World)(fs:List Addr)(H H':Hp)(s s':Shared)(a T C:Addr):Prop where
 os:s'.os=s.os
 bare:AllBare s'.gens
 un:Un fs [] H H' s.heap s'.heap
 hok:AE P w H' s'.heap
 xt:XT s'.heap a T C
 na:s.heap.get? a=none
 nT:s.heap.get? T=none
 ha:H' a=none
 hT:H' T=none
def CX1(P:Program)(w:World):RE:=λouter H s E e s'=>∃a T C H',e=.ref a/\Fly P w (Hi outer) H H' s s' a T C/\E (.ref C) none H'
theorem GB:∀{l:List Env},h.FunFrames base l->(∀b∈Hi l,eQ.get? b=none)->h.FunFrames eQ l
 | [],_,_=>trivial
 | env::r,⟨k,⟨L,o,hf,_,ho,hd⟩,t⟩,hb=>⟨k,⟨L,o,hf,hb L (by unfold Hi;rw[cW,hf];exact aF),ho,hd⟩,
     GB t λb hm=>hb b (by unfold Hi;rw[cW,hf];exact aC _ hm)⟩
abbrev hid(h:Heap)(a T:Addr)(fs:List Addr):Heap:=PySem.W.hideAll h (a::T::fs)
end
section
variable{P:Program}{w:World}{H H':Hp}{s s':Shared}{a T C:Addr}{l:List Env}{oI:Heap}
def Fly.base(F:Fly P w (Hi l) H H' s s' a T C)(ff:s'.heap.FunFrames oI l):∃a0,Heap.FlyingW (hid s'.heap a T (Hi l)) l a (.ref C) a0 s'.heap:=by
 obtain⟨oe,vs,a0,oT,ts,e1,e2,e3,e4,e5,e6,e7,e8⟩:=F.xt;exact⟨a0,λb o e=>PySem.W.of_hideAll _ e,dj _ (by simp),GB ff λb hb=>dj _ (by simp[hb]),
  oe,vs,T,oT,ts,e1,e2,e3,e4,dj _ (by simp),e5,e6,e7,e8⟩
end
def XP(X:Cx)(aS:List (Addr × Obj))(σ:St)(E:XK)(e:Value)(s':Shared):Prop:=∃s H,o9 X aS σ H s/\CX1 X.prog X.w X.stack H s E e s'
structure o0j(X:Cx)(E:XK):Prop where
 stk:X.stack=X.env::X.outer
 fr:X.env.frame=some X.env.locals
 ex:X.ex=[]
 xe:X.xe=λe s'=>wpAny (model X.prog X.w) X.A (leaving X.env e) (λ_ iH=>CX1 X.prog X.w X.outer X.H₀ X.s₀ E e iH) (λe' iH=>CX1 X.prog X.w X.outer X.H₀ X.s₀ E e' iH) s'
section
variable{X:Cx}{aS:List (Addr × Obj)}{σ:St}{H:Hp}{s s':Shared}{E:XK}{e:Value}
end
abbrev bmV:List Value:=[.type "ValueError",.type "Exception",.type "BaseException",.type "object"]
section
variable{P:Program}{w:World}{K:aa}{mg:Str->Option Value}{base:Heap}
def o0j.own(R:o0j X E):PassesOwn (model X.prog X.w) X.A X.env X.xe:=by rw[R.xe];exact PassesOwn.leaving
end
section
variable{X:Cx}{k:Nat}{f C:Addr}{fd:FuncData}{ps:List Str}{sp:Sp}{fY:List V}{ds:List Value}{E:XK}{x m:Str}{p np gA pos fB:Pos}{e o:Expr}{es:List Expr}{ta:TE}{t:TA}{tx:TX}
end
section
variable{X:Cx}{aS:List (Addr × Obj)}{σ:St}{H:Hp}{s:Shared}{a:Addr}
end
section
variable{X:Cx}{e:Expr}{te:TE}{tx:TX}{pos:Pos}{st:Stmt}{t u:TSX}
end
end L2
namespace Mine
open PySem PySem.W PySem.Spec PySem.Calls PyProof.Rows
section
variable{prog:Program}{w:World}{A:Around}{E:Value->Shared->Prop}{s:Shared}{K:Frag}{x D:Addr}{o:Obj}{c:Value}
open Builtin Builtin.Getset_descriptor in
end
end Mine
namespace L2
open PySem PySem.Spec PyProof.Rows
structure ExcK(K:aa)(C:Addr):Prop where
 ga:PySem.W.findIn K (.ref C) "__getattribute__"=some (some (.builtin "BaseException.__getattribute__"))
 gt:PySem.W.findIn K (.ref C) "__getattr__"=some none
 cl:PySem.W.findIn K (.ref C) "__class__"=some (some (.builtin "object.__class__"))
 ob:PySem.W.mroIn K C (.type "object")=some true
 be:PySem.W.mroIn K C (.type "BaseException")=some true
 ex:PySem.W.excIn K C bmV "ValueError.__new__"=true
section
variable{X:Cx}
theorem PS.nox{st:Stmt}{t:TS}(h:PS X.nox st t):PS X st t:=λaS s σ H D I hw=>
 wpAny_mono (h aS s σ H D (I.wish _) hw) (λ_ _ q=>q.unwish) λ_ _ z=>False.elim z
end
section
variable{X:Cx}
end
end L2
namespace L2
open PySem PySem.Spec PyProof.Rows PySem.W
structure Tb(mg:Str->Option Value)(h:Heap)(c P:Addr):Prop where
 cd:CodeHd h c P
 bl:h.BuiltinsAt mg P
 gl:mainGlobals≠P
section
variable{P:Program}{w:World}{H:Hp}{h h':Heap}{p:Addr}{ps qs:Array Value}
def AE.tab(x:AE P w H h)(hp:H p=some (.tbl ps))(hx:Heap.ExtBut p h h')(e:h'.get? p=some (tabObj qs)):AE P w (upd H p (.tbl qs)) h':=λb u q=>by
 have own:∀c a,H c=some (.own a)->upd H p (.tbl qs) c=some (.own a):=λc a z=>by rw[l6 (Ar z hp (by simp))];exact z
 have tup:∀c xs,H c=some (.tup xs)->upd H p (.tbl qs) c=some (.tup xs):=λc xs z=>by rw[l6 (Ar z hp (by simp))];exact z
 by_cases hb:b=p
 . subst hb;rw[b9]at q;cases q;exact e
 . rw[l6 hb]at q;refine(x b u q).stay (λc o hc z=>hx c o ?_ z) (λc z=>own c b z) tup;rcases hc with rfl | hc
   . exact hb
   . exact Ar hc hp (by simp)
def Un.tab(hp:H p=some (.tbl ps))(hx:Heap.ExtBut p h h')(e:h'.get? p=some (tabObj (ps++qs))):Un fs ex H (upd H p (.tbl (ps++qs))) h h' where
 keep:=λb o q n _ _=>hx b o (λz=>by rw[z,hp]at n;cases n) q
 slot:=λb o q n _ _=>⟨o.slots,hx b o (λz=>by rw[z,hp]at n;cases n) q⟩
 free:=λb o q n _=>by rw[l6 (λz=>by rw[z,hp]at n;cases n)];exact n
 there:=λb o q _=>by
  by_cases hb:b=p
  . exact⟨_,hb▸e⟩
  . exact⟨o,hx b o hb q⟩
 tups:=λb xs z=>by rw[l6 (Ar z hp (by simp))];exact z
 frzs:=λb o u z=>by rw[l6 (Ar z hp (by simp))];exact z
 tbls:=λb qs' z=>by
  by_cases hb:b=p
  . subst hb;rw[hp]at z;cases z;exact⟨qs,b9⟩
  . exact⟨#[],by rw[l6 hb,z];simp⟩
end
section
variable{X:Cx}{aS:List (Addr × Obj)}{σ:St}{H:Hp}{s:Shared}
theorem Tb.keeps(t:Tb mg h c P)(k:∀b o,h.get? b=some o->h'.get? b=some o):Tb mg h' c P:=
 ⟨t.cd.keeps k,let⟨bm,o,a1,a2,a3,a4,a5,r⟩:=t.bl;⟨bm,o,a1,a2,a3,a4,k _ _ a5,r⟩,t.gl⟩
def Il(hx:Heap.ExtBut P h h'):Heap.ExtBut P h (h'.push o):=λb u hb e=>ak _ (hx b u hb e)
end
def Yt(ts:List Addr)(H:Hp):Prop:=∀p∈ts,H p=some (.tbl #[])
def OA{K:Frag}{x qual:Str}{st:Stmt}{f c P:Addr}{fd:FuncData}{oc:Value}{od:Option Addr}{iD:Array (Option Value)}(ht:tabIn K x=some (c,P))(hn:nsIn K mainGlobals x=some (some (.ref f)))(lk:K.lookup f=some ⟨oc,od,.func fd,iD⟩):fd.code=.ref c:=by
 unfold tabIn at ht;rw[hn]at ht;simp only[lk]at ht;split at ht
 . rename_i c₂ hc;split at ht
   . split at ht
     . cases ht;exact hc
     . cases ht
   . cases ht
 . cases ht
section
variable{P:Program}{w:World}{K:aa}{mg:Str->Option Value}{base:Heap}
def Mi.okC{x qual:Str}{st:Stmt}{f c p:Addr}{fd:FuncData}{N ps:List Str}{k:Nat}{sp:Sp}(F:Mi K x qual st f fd)(S:c7 N ps (a8 st))(ht:tabIn K x=some (c,p))(hn:nsIn K mainGlobals x=some (some (.ref f)))(len:∀vs H Q E,sp vs H Q E->vs.length=ps.length)
    (fg:∀(A:Around) (outer:List Env) (s:Shared) (H:Hp) (vs:List V) (Q:VK) (E:XK),M0 k (A.deeper (envOfC qual (a8 st) s.heap.objs.size f (.ref c)))->sp vs H Q E->
     ∃t,Mg (GV E7 P w K mg base N qual (a8 st) f (.ref c) A outer s H E).nox (C7 st) t/\t { nx:=λ_ H'=>Q .non H',rt:=Q } (DC N vs) H):r8 P w K mg base E7 (k+1) f fd ps sp:=by
 obtain⟨oc,od,kV,gj,pm,an,fF,ct,iD,rfl,lk,gn⟩:=F.ex;have hc:fF=.ref c:=OA (st:=st) (qual:=qual) ht hn lk;subst hc;refine Yo lk gn S len λA outer s H vs Q E hr fR=>?_;obtain⟨t,h,q⟩:=fg A outer s H vs Q E hr fR;exact⟨t,h.nox,q⟩
end
def Sy{P:Program}{w:World}{K:aa}{mg mb:Str->Option Value}{CX:RE}{k:Nat}{fa a:Addr}{fd:FuncData}{x:Str}{sp:Sp}{s₁:Shared}{vs:List Value}{ns:List Int}{tabs:List (Addr × Addr)}
    (KX:K.In s₁.heap) (mh:s₁.heap.Ns mainGlobals mg) (hb:s₁.heap.Ns builtinsNs mb) (hbb:∀x:Str,x≠"__name__"->mb x=bootBuiltins x) (sY:s₁.heap.NoLimit) (jB:s₁.heap.NoSeer) (hg:s₁.gens=#[])
    (ha:s₁.heap.get? a=some { cls:=.type "list",data:=.seq vs.toArray }) (hi:IntsAre vs ns) (hl:ns.length<=sizeLine) (hr:M0 k callerA)
    (hT:∀q∈tabs,Tb mg s₁.heap q.1 q.2/\s₁.heap.TableAt q.1 q.2 #[]/\K.lookup q.2=none)
    (F:∀base:Heap,K.In base->base.Ns mainGlobals mg->(∀q∈tabs,Tb mg base q.1 q.2)->r8 P w K mg base CX k fa fd [x] sp) (fz:∀(s:Shared) (u:Value),BindsTo s fd ⟨[u],[]⟩ [(x,u)])
    (fR:∀H:Hp,Yt (tabs.map (·.2)) H->o7 K H a (ns.map V.int)->sp [.ref a] H (λv _=>v=.bl true) λ_ _ _=>False)
    (uh:∀H e s',CX [] H s₁ (λ_ _ _=>False) e s'->False) :
    codeAny (model P w) callerA (.call (.ref fa) ⟨[.ref a],[]⟩) (λr s'=>r=.ok (.ret (.bool true))/\OldK s₁.heap s'.heap/\s'.os=s₁.os/\AllBare s'.gens) s₁:=by
 have rv:=JL hi;have rR:=hi.length;have lB:∀p∈tabs.map (·.2),s₁.heap.get? p=some (tabObj #[])/\K.lookup p=none/\∃c,s₁.heap.TableAt c p #[]:=λp hp=>by
  obtain⟨q,hq,rfl⟩:=aw.mp hp;exact⟨(hT q hq).2.1.2,(hT q hq).2.2,_,(hT q hq).2.1⟩
 have oF:∀H:Hp,(∀b,H b=none\/(∃o xs,H b=some (.frz o (.lst xs))/\b=a/\K.lookup a=none)\/(H b=some (.tbl #[])/\b∈tabs.map (·.2)))->Yt (tabs.map (·.2)) H->o7 K H a (ns.map V.int)->AE P w H s₁.heap->
     codeAny (model P w) callerA (.call (.ref fa) ⟨[.ref a],[]⟩) (λr s'=>r=.ok (.ret (.bool true))/\OldK s₁.heap s'.heap/\s'.os=s₁.os/\AllBare s'.gens) s₁:=by
  intro H hO hOT hS hok;have fH:∀{b:Addr} {o:Obj},s₁.heap.get? b=some o->H b=none->(JB s₁.heap H).get? b=some o:=λe n=>Vr e n;have rZ:∀{b:Addr} {o:Obj},s₁.heap.get? b=some o->o.cls≠.none->o.cls≠.type "list"->H b=none:=λ{b o} e c1 c2=>by
   rcases hO b with z | ⟨_,_,_,rfl,_⟩ | ⟨_,hm⟩
   . exact z
   . rw[ha]at e;cases e;exact absurd rfl c2
   . rw[(lB _ hm).1]at e;cases e;exact absurd rfl c1
  have jv:∀{b:Addr} {o:Obj} {es:Array DictEntry} {ep:Nat},s₁.heap.get? b=some o->o.data=.dict es ep->H b=none:=λ{b o es ep} e d=>by
   rcases hO b with z | ⟨_,_,_,rfl,_⟩ | ⟨_,hm⟩
   . exact z
   . rw[ha]at e;cases e;cases (show Data.seq vs.toArray _=Data.dict es ep from d)
   . rw[(lB _ hm).1]at e;cases e;cases (show Data.fields #[]=Data.dict es ep from d)
  have jV:∀{b:Addr} {m:Str->Option Value},s₁.heap.Ns b m->(JB s₁.heap H).Ns b m:=λ{b m} ⟨o,es,ep,e,d,r⟩=>⟨o,es,ep,fH e (jv e d),d,r⟩;have we:K.In (JB s₁.heap H):=λb o e=>fH (KX b o e) (by
   rcases hO b with z | ⟨_,_,_,rfl,hk⟩ | ⟨_,hm⟩
   . exact z
   . rw[hk]at e;cases e
   . rw[(lB _ hm).2.1]at e;cases e)
  have ty:∀{x y:String},x≠y->Value.type x≠Value.type y:=λn z=>by injection z with z;exact n z
  have hM:Mod K mg (JB s₁.heap H):=⟨we,jV mh,⟨mb,jV hb,hbb⟩,let⟨mc,h1,h2⟩:=sY;⟨mc,jV h1,h2⟩,⟨let⟨mc,h1,h2⟩:=jB.statics;⟨mc,jV h1,h2⟩,let⟨mc,h1,h2⟩:=jB.mods;⟨mc,jV h1,h2⟩,let⟨mc,h1,h2⟩:=jB.imp;⟨mc,jV h1,h2⟩,by
    obtain⟨mg',bm,ob,n1,n2,n3,n4,n5⟩:=jB.main;exact⟨mg',bm,ob,jV n1,n2,fH n3 (rZ n3 (by rw[n4];nofun) (by rw[n4];exact ty bD)),n4,n5⟩⟩⟩
  have e0:JK P w K mg (JB s₁.heap H) callerA [] s₁ H:=⟨U,hM,λb o e=>Xe e,Nat.le_of_eq (SE _ _),trivial,λb hb=>absurd (show b∈([]:List Addr)from hb) (by simp),hok,.of_eq hg⟩;have fP:∀q∈tabs,Tb mg (JB s₁.heap H) q.1 q.2:=λq hq=>by
   obtain⟨o,ws,uv,tf,ow,tg,inF,qM,tt,e1,r1,r2⟩:=(hT q hq).1.cd;obtain⟨bm,ob,a1,a2,a3,a4,a5,a6,a7⟩:=(hT q hq).1.bl;exact⟨⟨o,ws,uv,tf,ow,tg,inF,qM,tt,fH e1 (rZ e1 (by rw[r1];nofun) (by rw[r1];exact ty bD)),r1,r2⟩,⟨bm,ob,a1,a2,a3,a4,fH a5 (rZ a5 (by rw[a6];nofun) (by rw[a6];exact ty bD)),a6,a7⟩,(hT q hq).1.gl⟩
  refine codeAny_mono ((F _ we (jV mh) fP).run callerA [] s₁ H ⟨[.ref a],[]⟩ [.ref a] [.ref a] _ _ hr e0 (fz s₁ (.ref a)) (.cons U .nil) (fR H hOT hS)) λr s' h=>?_;cases r with
  | error e=>exact(uh H e s' h).elim
  | ok fl=>
   cases fl with
   | next=>exact False.elim h
   | brk=>exact False.elim h
   | cont=>exact False.elim h
   | ret u=>
    obtain⟨v,H',os,bare,un,nN,r',q⟩:=h;have q':v=.bl true:=q;subst q';obtain rfl:u=Value.bool true:=r';refine⟨U,⟨λb o e=>?_,λb o e=>un.there b o e (by simp)⟩,os,bare⟩;rcases hO b with z | ⟨ob,xs,z,_,_⟩ | ⟨z,hm⟩
    . exact .inl (un.keep b o e z (by intro z;exact absurd (show b∈([]:List Addr)from z) (by simp)) (by simp))
    . have z2:=un.frzs b ob _ z;obtain⟨e1,_⟩:=hok b _ z;obtain⟨e2,_⟩:=nN b _ z2;rw[e]at e1;cases e1;exact .inl e2
    . obtain⟨g1,_,c,g3⟩:=lB b hm;rw[g1]at e;cases e;obtain⟨more,z2⟩:=un.tbls b _ z;exact .inr (.inl ⟨g3.isCodeTable,U,#[],more,U,nN b _ z2⟩)
 have aT:a ∉ tabs.map (·.2):=λz=>by have e:=(lB a z).1;rw[ha]at e;cases e
 cases hk:K.lookup a with
 | some o=>
  have e:=KX a o hk;rw[ha]at e;cases e;refine oF (λb=>if b∈tabs.map (·.2)then some (.tbl #[])else none) (λb=>?_) (λp hp=>if_pos hp) (.inr ⟨_,vs.toArray,_,hk,U,U,U,by rw[au,rR];exact hl,by simpa using rv⟩) λb u z=>?_
  . by_cases hb:b∈tabs.map (·.2)
    . exact .inr (.inr ⟨if_pos hb,hb⟩)
    . exact .inl (if_neg hb)
  . by_cases hb:b∈tabs.map (·.2)
    . have z':=(if_pos hb).symm.trans z;cases z';exact(lB b hb).1
    . have z':=(if_neg hb).symm.trans z;cases z'
 | none=>
  refine oF (λb=>if b=a then some (.frz { cls:=.type "list",data:=.seq vs.toArray } (.lst (ns.map V.int)))else if b∈tabs.map (·.2)then some (.tbl #[])else none) (λb=>?_) (λp hp=>?_) (.inl (.inr ⟨{ cls:=.type "list",data:=.seq vs.toArray },if_pos U⟩)) λb u z=>?_
  . by_cases hb:b=a
    . exact .inr (.inl (za ⟨if_pos hb,hb,hk⟩))
    . by_cases ia:b∈tabs.map (·.2)
      . exact .inr (.inr ⟨(if_neg hb).trans (if_pos ia),ia⟩)
      . exact .inl ((if_neg hb).trans (if_neg ia))
  . exact(if_neg (λe:p=a=>aT (by rw[<- e];exact hp))).trans (if_pos hp)
  . by_cases hb:b=a
    . have z':=(if_pos hb).symm.trans z;cases z';subst hb;exact⟨ha,by rw[af];exact hl,vs,_,rv,ha⟩
    . have z':=(if_neg hb).symm.trans z;by_cases ia:b∈tabs.map (·.2)
      . have z2:=(if_pos ia).symm.trans z';cases z2;exact(lB b ia).1
      . have z2:=(if_neg ia).symm.trans z';cases z2
def Jl{K:Frag}(hK:noTabs K=true){P:Addr}{h:Heap}{ps:Array Value}(X:K.In h)(e:h.get? P=some (tabObj ps)):K.lookup P=none:=by
 cases q:K.lookup P with
 | none=>rfl
 | some o=>
  have e2:=X _ _ q;rw[e]at e2;cases e2;have h2:=cJ.mp hK (P,tabObj ps) (mem_of_lookupK q);exact absurd (show false=true from h2) aO
def Td{l:PySem.W.OpenLaw}{n k:Nat}{q:Program}{loose:List Str}{XP:(Str->Option Value)->Heap->Prop}{YP:World->Heap->Prop}{d:DefRec}{K:Params->aa}{CX:RE}{sp:aa->Sp}{x:Str}(lU:List Str)
    (hn:l.most=some n) (lg:n<=sizeLine) (tO:d.params.defaults=[]) (hr:M0 k callerA) (hq:importsNone q=true)
    (hY:∀(w:World) (h:Heap),YP w h->(K w.params).In h)
    (hnt:∀w:World,noTabs (K w.params)=true) (kU:∀y∈lU,((recsOf q).find? (λe=>e.name == y)).isSome=true)
    (F:∀(w:World) (mg:Str->Option Value) (fa:Addr) (h:Heap),(K w.params).In h->h.Ns mainGlobals mg->mg d.name=some (.ref fa)->
     ∃fd:FuncData,(∀(s:Shared) (u:Value),BindsTo s fd ⟨[u],[]⟩ [(x,u)])/\
      ∀base:Heap,(K w.params).In base->base.Ns mainGlobals mg->(∀y∈lU,∀c P,tabIn (K w.params) y=some (c,P)->Tb mg base c P)->r8 l.prog w (K w.params) mg base CX k fa fd [x] (sp (K w.params)))
    (fR:∀(K:aa) (H:Hp) (a:Addr) (ns:List Int),ns.length<=n->(∀y∈lU,∀c P,tabIn K y=some (c,P)->H P=some (.tbl #[]))->o7 K H a (ns.map V.int)->sp K [.ref a] H (λv _=>v=.bl true) λ_ _ _=>False)
    (uh:∀(H:Hp) (s:Shared) (e:Value) (s':Shared),CX [] H s (λ_ _ _=>False) e s'->False) :
    PySem.W.WalkO q loose XP YP l.row.toRowW d [] (λf vs=>PySem.call f vs):=by
 refine Att.Oe hn tO λw s₀ s₁ mg mb fa o pm cd gj a vs ns G a1c ho hd gn nQ kY iR eJ hg=>?_;have KX:=hY w _ a1c;obtain⟨fd,hb,hF⟩:=F w mg fa _ KX G.T.g nQ;have nR:∀{y c P},y∈lU->tabIn (K w.params) y=some (c,P)->(c,P)∈lU.filterMap (tabIn (K w.params)):=λhy ht=>cf.mpr ⟨_,hy,ht⟩;refine Sy (tabs:=lU.filterMap (tabIn (K w.params))) KX G.T.g G.T.b G.T.builtins G.T.nolimit (G.T.seer hq) hg kY iR (ag eJ lg) hr (λt ht=>?_) (λbase kb nb hT=>hF base kb nb λy hy c P e=>hT (c,P) (nR hy e)) hb (λH hO hS=>fR (K w.params) H a ns eJ (λy hy c P e=>hO P (aw.mpr ⟨(c,P),nR hy e,U⟩)) hS) λH e s'=>uh H s₁ e s';obtain⟨y,hy,ht⟩:=cf.mp ht;obtain⟨c,P⟩:=t;obtain⟨r,gv⟩:=Option.isSome_iff_exists.mp (kU y hy);obtain⟨C,e⟩:=tab_of G.T KX gv ht;obtain⟨bm,ob,b1,b2,b3,b4,b5,b6⟩:=G.T.bmain;have gP:mainGlobals≠P:=λz=>by
  obtain⟨o',es,ep,e',iE,_⟩:=G.T.g;rw[z,e]at e';cases e';cases iE
 have bP:bm≠P:=λz=>by
  rw[z,e]at b3;cases b3;cases b4
 have bG:bm≠mainGlobals:=λz=>by
  obtain⟨o',es,ep,e',iE,_⟩:=G.T.g;rw[z,e']at b3;cases b3;rw[b6]at iE;cases iE
 exact⟨⟨C,⟨bm,ob,b1,b2,bG,bP,b3,b4,b5,b6⟩,gP⟩,C.tab e,Jl (hnt w) KX e⟩
end L2
namespace L2
open PySem PySem.Spec PyProof.Rows
section
variable{X:Cx}
end
section
variable{prog:Program}{w:World}{A:Around}{E:Value->Shared->Prop}{s:Shared}
inductive o0r:Value->Value->Prop
 | int (i j:Int) (t u:Tok):o0r (.int i t) (.int j u)
 | str (x y:Str) (t u:Tok):o0r (.str x t) (.str y u)
variable{R:Result->Shared->Prop}{I l:Addr}
end
section
variable{X:Cx}
theorem Ho:∀{cs:List Addr} {its:List Value},x8 (cs.map V.ref) its->its=cs.map Value.ref
 | [],_,.nil=>rfl
 | c::r,_,.cons e t=>by
  cases (show _=Value.ref c from e);rw[Ho t];rfl
end
end L2
namespace L2
open PySem PySem.Spec PyProof.Rows PySem.W
section
variable{X:Cx}{aS:List (Addr × Obj)}{σ:St}{H:Hp}{R:Result->Shared->Prop}{Iv l S q:Addr}{ps:List Addr}
def Xr(I:o9 X aS σ H s)(hq:o7 X.K H l (ps.map V.ref)):s.heap.IsList l (ps.map Value.ref).toArray:=by
 obtain⟨its,rv,p,_⟩:=I.list hq;cases Ho rv;exact p.isList
end
section
variable{X:Cx}
end
end L2
namespace L2
open PySem PySem.Spec PyProof.Rows
def c0d(K:aa)(a:Addr)(n:Nat):It:=
 ⟨λi H=>i < n/\∃xs x,o7 K H a xs/\xs[n - 1 - i]? = some x,λi H x H'=>H'=H/\∀xs,o7 K H a xs->xs[n - 1 - i]? = some x,λi _=>i=n⟩
def Tq{P:Program}{w:World}{K:aa}{tg:Expr}(a it:Addr)(n:Nat):Md P w K tg (c0d K a n) [it] it (λi h=>h.IsRevIter it a ((n:Int) - 1 - (i:Int)))where
 mem:=by simp
 obj:=λi h st b hb=>by
  have e:b=it:=by simpa using hb
  subst e;obtain⟨o,e,c,d⟩:=st;exact⟨o,e,λv z=>by rw[d]at z;cases z⟩
 keep:=λi h h' st k=>st.at λo e=>k it (by simp) o e
 item:=by
  intro X hP hw hK hc i aS s σ H E I hf st hg;subst hP hw hK;obtain⟨hi,xs,x,hq,hx⟩:=hg;obtain⟨its,rv,p,hz⟩:=I.list hq;obtain⟨u,hu,ru⟩:=rv.get hx;obtain⟨f0,f1,f2,f3,f4,f5⟩:=hf it (by simp);have e1:((n:Int) - 1 - i)=((n - 1 - i:Nat):Int):=by omega
  rw[e1]at st;refine wpAny_pyNext_rev_item st p.isList (x:=u) (by simpa using hu) λh' dY sb=>?_;have I1:o9 X aS σ H { s with heap:=h' }:=I.turned (t':=s.toks) (λb o hb e=>(sb.2 b hb).trans e) f0 f1 f3 f4 f5;obtain⟨o,e,c,d⟩:=id dY;have e2:((n - 1 - i:Nat):Int) - 1=(n:Int) - 1 - ((i+1:Nat):Int):=by omega
  rw[e2]at dY;exact⟨u,U,Kf (s:={ s with heap:=h' }) e c d bD ⟨x,H,I1,ru,⟨U,λys hy=>by rw[I.list_inj hy hq];exact hx⟩,dY,λb hb=>(hf b hb).1⟩⟩
 done:=by
  intro X hP hw hK hc i aS s σ H E I hf st hg;subst hP hw hK;have hg:i=n:=hg;obtain⟨f0,f1,f2,f3,f4,f5⟩:=hf it (by simp);have e:(n:Int) - 1 - i = -1:=by omega
  rw[e]at st;exact wpAny_pyNext_rev_end (I.ok.hd hc) st λh' eb=>⟨U,I.turned (t':=s.toks) (λb o hb e=>eb b o hb e) f0 f1 f3 f4 f5⟩
 self:=λ_ _ _ _ _ st h=>wpAny_pyIter_revIter st h
def n0n(K:aa)(ta:TA):TI:=λσ H R=>ta σ H λvs H1=>∃a xs,vs=[.ref a]/\o7 K H1 a xs/\R (c0d K a xs.length) H1
def WV(hg:Gl X "reversed")(hm:X.mg "reversed"=none)(ha:PA X [a] ta)(hs:starEach [a] X.env=[(false,eval a X.env)]:=by rfl) :
    PI X tg (.Call (.Name "reversed" p) [a] [] pos) (n0n X.K ta):=by
 intro aS s σ H R I h;refine Call_ (AB I hg hm boot_reversed (cj (I9 (ha pos aS s σ H _ I h) λus s1 ⟨vs,H1,I1,r1,q1⟩=>?_) hs U));obtain⟨l,xs,e,hq,q⟩:=q1;subst e;cases r1 with
 | cons r rr=>
  cases rr;cases r;obtain⟨its,rv,pl,hz⟩:=I1.list hq;have len:=rv.length;refine call_reversed_list pl.isList ?_;have iQ:(s1.heap.push (revObj l ((its.toArray.size:Int) - 1))).IsRevIter s1.heap.objs.size l ((its.toArray.size:Int) - 1):=⟨_,ay _ U,U,U⟩;refine wpAny_pyIter_revIter iQ ⟨_,[s1.heap.objs.size],_,c0d X.K l xs.length,H1,U,I1.kept (t':=s1.toks) λb o e=>ak _ e,Tq l _ _,?_,λb hb=>?_,q⟩
  . have e:((its.toArray.size:Int) - 1)=(xs.length:Int) - 1 - ((0:Nat):Int):=by rw[au,<- len];omega
    rw[e]at iQ ⊢;exact iQ
  . have e:b=s1.heap.objs.size:=by simpa using hb
    subst e;exact I1.fpOk (ae _) (I1.hok.fresh (ae _))
def VE{K:aa}{a:Addr}{xs:List V}{g:TG}{tb:TS}{D:GY}{σ:St}{H:Hp}(Pv:Nat->St->Hp->Prop)(h0:Pv 0 σ H)(hl:∀i σ H,i<=xs.length->Pv i σ H->o7 K H a xs)
    (hs:∀i x σ H,i < xs.length->xs[xs.length - 1 - i]? = some x->Pv i σ H->g x σ H λσ2 H2=>tb { D with nx:=Pv (i+1),ct:=Pv (i+1),bk:=D.nx } σ2 H2) (hd:∀σ H,Pv xs.length σ H->D.nx σ H) :
    ∃W:Nat->Nat->St->Hp->Prop,(∃m,W 0 m σ H)/\∀i m σ H,W i m σ H->
     ((c0d K a xs.length).stop i H/\D.nx σ H)\/((c0d K a xs.length).go i H/\∃N:St->Hp->Prop,(∀σ' H',N σ' H'->∃m',m' < m/\W (i+1) m' σ' H')/\∀x H',(c0d K a xs.length).yld i H x H'->g x σ H' λσ2 H2=>tb { D with nx:=N,ct:=N,bk:=D.nx } σ2 H2):=by
 refine⟨λi m σ H=>m=xs.length - i/\i<=xs.length/\Pv i σ H,⟨xs.length,by simp,aY _,h0⟩,?_⟩;rintro i m σ H ⟨rfl,hi,p⟩;have q:=hl i σ H hi p;by_cases fE:i < xs.length
 . refine .inr ⟨⟨fE,xs,xs[xs.length - 1 - i],q,ah _⟩,Pv (i+1),λσ' H' p'=>⟨xs.length - (i+1),Y,U,fE,p'⟩,λx H' y=>?_⟩;obtain⟨e,y⟩:=y;subst e;exact hs i x σ _ fE (y xs q) p
 . have e:i=xs.length:=by omega
   subst e;exact .inl ⟨U,hd σ H p⟩
end L2
namespace L2
open PySem PySem.Spec PyProof.Rows PySem.W
def SI(qual:Str)(scope:Scope)(L a:Addr)(cd:Value)(fh:List (Str × Addr)):Env:=
 { scope:=scope,locals:=L,globals:=mainGlobals,cells:=fh,qual:=qual++".<locals>.",func:=some a,code:=cd,frame:=some L,builtins:=builtinsNs }
def o0b(P:Program)(w:World)(K:aa)(mg:Str->Option Value)(base:Heap)(N:List Str)(qual:Str)(scope:Scope)(f:Addr)(cd:Value)(fh:List (Str × Addr))(A:Around)(outer:List Env)(s:Shared)(H:Hp):Cx where
 prog:=P
 w:=w
 K:=K
 mg:=mg
 base:=base
 A:=A.deeper (SI qual scope s.heap.objs.size f cd fh)
 N:=N
 s₀:=s
 H₀:=H
 env:=SI qual scope s.heap.objs.size f cd fh
 outer:=outer
 stack:=SI qual scope s.heap.objs.size f cd fh::outer
 ex:=[]
 calm:=true
 fn:=λ_=>false
 pn:=[]
 xe:=λ_ _=>False
structure RB(pn:Str)(fr:List Str)(sc:Scope):Prop where
 kind:sc.kind=.function
 co:sc.isCoroutine=false
 gen:sc.isGenerator=false
 nd:(pn::fr).Nodup
 par:sc.names.lookup pn=some .local
 fre:∀x∈fr,sc.names.lookup x=some .free
 nocell:∀y∈sc.names,y.2≠.cell
 all:∀y∈sc.names,y.2=.free->y.1∈fr
def o0p(base:Heap)(f c:Addr)(qual:Str)(params:Arguments)(body:Expr)(scope:Scope)(fr:List Str)(ws:List V):Prop:=
 ∃(fh:List (Str × Addr)) (pm fm:Value),base.get? f=some (kla_obj "<lambda>" qual params body scope fh pm c fm)/\
  (∀x y c,fh.lookup x=some c->fh.lookup y=some c->x=y)/\(∀x c,fh.lookup x=some c->∃v,base.IsCell c v)/\(∀x∈fr,∃c,fh.lookup x=some c)/\
  ∀(i:Nat) x v,fr[i]? = some x->ws[i]? = some v->∃c u,fh.lookup x=some c/\base.IsCell c (some u)/\D2 v u
def Iy{h h':Heap}{c:Addr}{v:Option Value}(x:h.IsCell c v)(k:∀b o,h.get? b=some o->h'.get? b=some o):h'.IsCell c v:=let⟨o,e,d⟩:=x;⟨o,k _ _ e,d⟩
section
variable{P:Program}{w:World}{K:aa}{mg:Str->Option Value}{base:Heap}{k:Nat}{f c0:Addr}{qual pn:Str}{params:Arguments}{body:Expr}{scope:Scope}{A:Around}{outer:List Env}{s:Shared}{H:Hp}{v:V}{u:Value}{tb:TE}{Q:VK}{fr:List Str}{ws:List V}
def Vk(S:RB pn fr scope)(F:o0p base f c0 qual params body scope fr ws)(gn:s.heap.CodeRec (.ref c0) qual)(hw:ws.length=fr.length)
    (fg:∀cd fh,M0 k (A.deeper (SI qual scope s.heap.objs.size f cd fh))->PE (o0b P w K mg base (pn::fr) qual scope f cd fh A outer s H) body tb)
    (fz:∀fh pm cd fm,bindArgs (kla_fn "<lambda>" qual params body scope fh pm cd fm) ⟨[u],[]⟩=pure [(pn,u)])
    (hr:M0 (k+1) A) (e0:JK P w K mg base A outer s H) (rv:D2 v u) (q:tb (some v::ws.map some) H Q) :
    codeAny (model P w) A (.call (.ref f) ⟨[u],[]⟩) (CR E7 outer P w H s Q E0) s:=by
 obtain⟨fh,pm,fm,ho,tE,gz,tF,sF⟩:=F;have bk:∀b o,base.get? b=some o->s.heap.get? b=some o:=λb o e=>(e0.bs b o e).1;have kK:s.heap.NoLimit:=e0.mod.nolimit.keeps bk;refine kla_callFunE hr.depth (bk _ _ ho) rfl S.co S.gen rfl gn (BindsTo.of_eq (s:=s) (fz fh pm (.ref c0) fm) _ _ _ _ ?_);refine wpAny_newFunctionEnv S.nocell (λy hy=>by rw[ax.mp hy];exact S.par) (λh' mh sM=>?_) S.kind;have kp:∀b o,s.heap.get? b=some o->h'.get? b=some o:=λb o e=>sM.extBut b o (aB (ao e)) (ak _ e);refine⟨kK.keeps kp,kla_codeExpr ?_⟩;have jv:∀b:Addr,b ∉ (o0b P w K mg base (pn::fr) qual scope f (.ref c0) fh A outer s H).ex:=λb z=>absurd (show b∈([]:List Addr)from z) (by simp);have I:o9 (o0b P w K mg base (pn::fr) qual scope f (.ref c0) fh A outer s H) [] (some v::ws.map some) H { s with heap:=h',toks:=s.toks+[(pn,u)].length }:=by
  refine⟨⟨e0.mod,S.kind,U,U,ae _,tE,λy hy=>?_,λy c z=>(nomatch z),λ_=>hr.hd,Around.frames_deeper e0.frames,.inr ⟨U,U⟩,λb z=>absurd z (jv b),e0.bs,e0.bsz,λb _ _=>jv b,λb z=>absurd z (jv b),e0.funs,e0.frf⟩,
   rfl,e0.bare,Un.kept kp,⟨_,mh,λi y v' h1 h2 h3=>?_⟩,λy c h=>?_,e0.hok.fresh (ae _),λy c h=>?_,λp hp=>absurd (show p∈([]:List (Addr × Obj))from hp) (by simp),e0.hok.kept kp,?_⟩
  . have hy:scope.names.lookup y=some .cell\/scope.names.lookup y=some .free:=hy;rcases hy with hy | hy
    . exact absurd rfl (S.nocell _ (bg hy))
    . exact tF y (S.all _ (bg hy) U)
  . cases i with
    | zero=>
     have e1:pn=y:=Option.some.inj h1;have e2:v=v':=Option.some.inj (Option.some.inj h2);subst e1 e2;exact⟨u,rv,.inl ⟨S.par,by simp⟩⟩
    | succ i=>
     have h1:fr[i]? = some y:=h1;have h2:(ws.map some)[i]? = some (some v'):=h2;rw[aE]at h2;obtain⟨v2,e2,e3⟩:=cA.mp h2;cases e3;obtain⟨c,u',a1,a2,a3⟩:=sF i y _ h1 e2;exact⟨u',a3,.inr ⟨.inr (S.fre y (aK h1)),c,a1,Iy a2 λb o e=>kp b o (bk b o e)⟩⟩
  . obtain⟨v',a⟩:=gz y c h;exact⟨v',Iy a λb o e=>kp b o (bk b o e)⟩
  . obtain⟨v',o,e,_⟩:=gz y c h;exact(e0.bs _ _ e).2
  . show(ws.map some).length+1=fr.length+1;rw[af,hw]
 refine wpAny_mono (fg (.ref c0) fh (hr.deeper _) [] _ _ H _ I q) (λz s' hs=>?_) λe s' hs=>False.elim hs;obtain⟨v',H',J,oX,q'⟩:=hs;exact⟨v',H',J.os,J.bare,J.base,J.hok,oX,q'⟩
structure IF(P:Program)(w:World)(K:aa)(mg:Str->Option Value)(base:Heap)(k:Nat)(f:Addr)(sp:Sp):Prop where
 fn:∃o fd,base.get? f=some o/\o.data=.func fd
 run:∀(A:Around) (outer:List Env) (s:Shared) (H:Hp) (u:Value) (v:V) (Q:VK),M0 k A->JK P w K mg base A outer s H->D2 v u->sp [v] H Q E0->codeAny (model P w) A (.call (.ref f) ⟨[u],[]⟩) (CR E7 outer P w H s Q E0) s
end
section
variable{X:Cx}{aS:List (Addr × Obj)}{σ:St}{H:Hp}{s:Shared}
def YK(P:Program)(w:World)(K:aa)(mg:Str->Option Value)(base:Heap)(i k:Nat)(t:TA):TE:=λσ H Q=>∃f sp,σ[i]? = some (some (.ref f))/\IF P w K mg base k f sp/\t σ H λvs H1=>vs.length=1/\sp vs H1 Q E0
def IF.at{P:Program}{w:World}{K:aa}{mg:Str->Option Value}{base h:Heap}{k:Nat}{f:Addr}{sp:Sp}(F:IF P w K mg base k f sp)(bk:∀b o,base.get? b=some o->h.get? b=some o):FnAt f h:=by
 obtain⟨⟨oc,od,dt,sl⟩,fd,e,d⟩:=F.fn;cases d;exact⟨oc,od,fd,sl,bk _ _ e⟩
def UC{i k:Nat}{x:Str}{e:Expr}{t:TA}{p pos:Pos}(hr:M0 k X.A)(ha:PA X [e] t)(hN:X.N[i]? = some x:=by rfl)(hv:Vis X.env.scope x:=by first | exact Or.inl rfl | exact Or.inr (Or.inl rfl) | exact Or.inr (Or.inr rfl))(hd:(x == ("__debug__":Str))=false:=by decide)(gn:(x == ("__classdict__":Str))=false:=by decide)
    (he:starEach [e] X.env=(false,eval e X.env)::starEach [] X.env:=by rfl):PE X (.Call (.Name x p) [e] [] pos) (YK X.prog X.w X.K X.mg X.base i k t):=by
 intro aS s σ H Q I h;obtain⟨f,sp,hf,F,h⟩:=h;refine wpAny_Call_Name_kw (wpAny_mono (Ux hN hv hd gn aS s σ H (λv H'=>v=.ref f/\H'=H) I ⟨_,hf,U,U⟩) (λu s1 hu=>?_) λ_ _ z=>z);obtain⟨v,H',I1,rv,rfl,rfl⟩:=hu;obtain rfl:u=Value.ref f:=rv;refine callWith_F (F.at I1.bk) (I9 (ha pos aS s1 σ H' _ I1 h) λus s2 ⟨vs,H2,I2,r,hl,q⟩=>⟨F.at I2.bk,?_⟩) he rfl;obtain⟨v,rfl⟩:∃v,vs=[v]:=by
  match vs,hl with
  | [v],_=>exact⟨v,U⟩
 obtain⟨u,rfl,ru⟩:=r.one;refine wpAny_call (codeAny_mono (F.run X.A X.stack s2 H2 u v Q hr I2.env0 ru q) λr s' hq=>?_);cases r with
 | error e=>exact False.elim hq
 | ok fl=>
  cases fl with
  | ret u=>exact I2.after hq
  | next=>exact False.elim hq
  | brk=>exact False.elim hq
  | cont=>exact False.elim hq
def O0(H:Hp)(c:Addr)(qual:Str):Prop:=∃oc vs t,H c=some (.frz oc (.own 0))/\oc.data=.fields vs/\vs[1]? = some (.str qual t)
def Q8(H:Hp)(P:Addr)(qual:Str):Prop:=∃ps,H P=some (.tbl ps)/\TriplesOk ps.toList/\∀eZ v,codeAmong eZ ps.toList=some v->∃c,v=.ref c/\O0 H c qual
def SO(l:List Value)(h:TriplesOk l)(e:codeAmong pos (l++[rawInt a,rawInt b,c])=some v):codeAmong pos l=some v\/v=c:=by
 fun_induction TriplesOk l with
 | case1=>
  simp only[List.nil_append,codeAmong,rawInt]at e;split at e
  . exact .inr (Option.some.inj e).symm
  . cases e
 | case2 a t b u x R9 ih=>
  simp only[List.cons_append,codeAmong]at e ⊢;split at e
  . rename_i hc;rw[if_pos hc];exact .inl e
  . rename_i hc;rw[if_neg hc];exact ih h e
 | case3 l h1 h2=>exact h.elim
def O0.rec(x:O0 H c qual)(hok:AE P w H h):h.CodeRec (.ref c) qual:=by
 obtain⟨oc,vs,t,e,d,q⟩:=x;exact⟨c,oc,vs,t,U,(hok c _ e).1,d,q⟩
def Og(P:Addr)(H H':Hp):Prop:=∀b o,b≠P->H b=some o->H' b=some o
def NF{c P:Addr}{params:Arguments}{body:Expr}{scope:Scope}{eZ:Pos}{Q:Value->Shared->Prop}{E:Value->Shared->Prop}(I:o9 X aS σ H s)(tb:Tb X.mg X.base c P)(gh:X.env.code=.ref c)(lr:params.defaults=[])(jI:params.kw_defaults=[])
    (ml:∀y∈scope.names,y.2=.free->X.env.scope.names.lookup y.1=some .cell\/X.env.scope.names.lookup y.1=some .free) (hT:Q8 H P (X.env.qual++"<lambda>"))
    (h:∀f c' pm fm s' H',o9 X aS σ H' s'->Og P H H'->Q8 H' P (X.env.qual++"<lambda>")->O0 H' c' (X.env.qual++"<lambda>")->Bf X aS H' f->s'.heap.get? f=some (kla_obj "<lambda>" (X.env.qual++"<lambda>") params body scope (N7 X.env.cells scope.names []) pm c' fm)->Q (.ref f) s') :
    wpAny (model X.prog X.w) X.A (eval (.Lambda params body scope eZ) X.env) Q E s:=by
 obtain⟨iX,hP,ht,hc⟩:=hT;rw[arm_eval_Lambda,defaultsOf_eq,lr,jI];refine wpAny_bind (wpAny_pure ?_);refine wpAny_bind (wpAny_holding (wpAny_pure ?_));have iz:=CQ (env:=X.env) (scope:=scope) λn hn=>I.ok.has n (ml _ hn U);have mI:=tb.keeps I.bk;have tZ:s.heap.get? P=some (tabObj iX):=I.hok P _ hP;cases hf:codeAmong eZ iX.toList with
 | none=>
  have hnf:=hf;refine kla_makeFunction (mg:=X.mg) iz I.ok.glob (I.mod.glob.keeps I.bk) gh mI.cd tZ ht hnf mI.gl mI.bl λc' fm h' tk iN je fE kU htb=>?_;have e:(h'.push (kla_obj "<lambda>" (X.env.qual++"<lambda>") params body scope (N7 X.env.cells scope.names []) ((X.mg "__name__").getD .none) c' fm)).get? P=some (tabObj (iX++#[rawInt eZ.line,rawInt eZ.col,.ref c'])):=ak _ htb;have I2:=I.un (t':=tk) (Un.tab (fs:=X.fs) (ex:=[]) hP (Il iN) e) (I.hok.tab hP (Il iN) e);obtain⟨c2,oc,vs,tq,ec,uD,uE,uC⟩:=kU;cases ec;have wo:=ak (kla_obj "<lambda>" (X.env.qual++"<lambda>") params body scope (N7 X.env.cells scope.names []) ((X.mg "__name__").getD .none) c' fm) uD;have gf:(h'.push (kla_obj "<lambda>" (X.env.qual++"<lambda>") params body scope (N7 X.env.cells scope.names []) ((X.mg "__name__").getD .none) c' fm)).get? h'.objs.size=some (kla_obj "<lambda>" (X.env.qual++"<lambda>") params body scope (N7 X.env.cells scope.names []) ((X.mg "__name__").getD .none) c' fm):=ay _ rfl;have vJ:s.heap.objs.size<=h'.objs.size:=bF (Nat.lt_of_le_of_lt je fE);have pP:P < s.heap.objs.size:=ao tZ;have nH:∀b,s.heap.objs.size<=b->upd H P (.tbl (iX++#[rawInt eZ.line,rawInt eZ.col,.ref c'])) b=none:=λb hb=>by
   rw[l6 (bT (aA pP hb))];exact I.hok.fresh hb
  have I3:o9 X aS σ (upd (upd H P (.tbl (iX++#[rawInt eZ.line,rawInt eZ.col,.ref c']))) c' (.frz oc (.own 0))) { s with heap:=h'.push (kla_obj "<lambda>" (X.env.qual++"<lambda>") params body scope (N7 X.env.cells scope.names []) ((X.mg "__name__").getD .none) c' fm),toks:=tk }:=by
   refine I.un (t':=tk) ((Un.tab (fs:=X.fs) (ex:=[]) hP (Il iN) e).track je (nH _ je)) (I2.hok.track (nH _ je) ⟨wo,⟨_,wo⟩⟩)
  have ncP:P≠c':=aB (aA pP je);have nfc:h'.objs.size≠c':=bT fE;have yt:O0 (upd (upd H P (.tbl (iX++#[rawInt eZ.line,rawInt eZ.col,.ref c']))) c' (.frz oc (.own 0))) c' (X.env.qual++"<lambda>"):=⟨oc,vs,tq,b9,uE,uC⟩;refine h _ c' _ fm _ _ I3 (λb o hb q=>?_) ⟨_,(l6 ncP).trans b9,?_,λlp v ev=>?_⟩ yt (I.fpOk vJ ((l6 nfc).trans (nH _ vJ))) gf
  . rw[l6 (λz=>by have:=I.hok.fresh je;rw[<- z,q]at this;cases this),l6 hb];exact q
  . rw[Array.toList_append];exact TriplesOk_snoc _ _ _ _ ht
  . rw[Array.toList_append]at ev;rcases SO _ ht ev with z | z
    . obtain⟨c3,e3,rC,qH,t3,y1,y2⟩:=hc lp v z;have n1:c3≠P:=Ar y1 hP (by simp);have n2:c3≠c':=λz=>by have:=I.hok.fresh je;rw[<- z,y1]at this;cases this
      exact⟨c3,e3,rC,qH,t3,(by rw[l6 n2,l6 n1];exact y1),y2⟩
    . exact⟨c',z,yt⟩
 | some cv=>
  obtain⟨cc,rfl,pS⟩:=hc eZ cv hf;refine kla_makeFunctionHit (mg:=X.mg) iz I.ok.glob (I.mod.glob.keeps I.bk) gh mI.cd tZ ht hf mI.bl λfm h' tk kp je=>?_;have I2:o9 X aS σ H { s with heap:=h'.push (kla_obj "<lambda>" (X.env.qual++"<lambda>") params body scope (N7 X.env.cells scope.names []) ((X.mg "__name__").getD .none) cc fm),toks:=tk }:=I.kept (t':=tk) λb u e=>ak _ (kp b u e);exact h _ cc _ fm _ _ I2 (λ_ _ _ q=>q) ⟨iX,hP,ht,hc⟩ pS (I.fpOk je (I.hok.fresh je)) (ay _ U)
def BB(X:Cx)(H:Hp)(h:Heap):Heap:=hideAll h (YE h H++Hi X.stack)
theorem Mod.keeps{K:aa}{mg:Str->Option Value}{h h':Heap}(m:Mod K mg h)(k:∀b o,h.get? b=some o->h'.get? b=some o):Mod K mg h':=
 ⟨m.kin.keeps k,m.glob.keeps k,let⟨mb,a,b⟩:=m.blt;⟨mb,a.keeps k,b⟩,m.nolimit.keeps k,m.seer.keeps k⟩
def Mb(I:o9 X aS σ H s)(e:s.heap.get? b=some o)(n:H b=none)(nf:b ∉ Hi X.stack):(BB X H s.heap).get? b=some o:=
 hideAll_get _ e λz=>by
  rcases aH.mp z with z | z
  . have:=(cV.mp z).2;rw[n]at this;cases this
  . exact nf z
def Qk(I:o9 X aS σ H s):∀b o,X.base.get? b=some o->(BB X H s.heap).get? b=some o:=λb o e=>
 Mb I (I.bs b o e).1 (I.bs b o e).2 λz=>by
  have:=(I.stack.mem z).1;rw[e]at this;cases this
def VU(I:o9 X aS σ H s):JK X.prog X.w X.K X.mg (BB X H s.heap) X.A X.stack s H:=by
 refine⟨I.ok.frames,I.ok.mod.keeps (Qk I),λb o e=>⟨of_hideAll _ e,?_⟩,Nat.le_of_eq (hideAll_size _ _),funFrames_hide I.stack (λenv he a ha=>aP _ (cf.mpr ⟨env,he,ha⟩)),I.stkFree,I.hok,I.bare⟩;cases q:H b with
 | none=>rfl
 | some u=>
  have hin:b∈YE s.heap H++Hi X.stack:=bC _ (cV.mpr ⟨aN.mpr (ao (of_hideAll _ e)),by rw[q];rfl⟩);have:=hideAll_none _ (h:=s.heap) hin;rw[show hideAll s.heap (YE s.heap H++Hi X.stack)=BB X H s.heap from rfl,e]at this;cases this
structure Yu(X:Cx)(pn:Str)(fr:List Str)(js:List Nat)(scope:Scope):Prop where
 fn:∀x,X.fn x=true
 sc:RB pn fr scope
 vis:∀x∈fr,X.env.scope.names.lookup x=some .cell\/X.env.scope.names.lookup x=some .free
 all:∀x∈fr,(x,NameKind.free)∈scope.names
 at_:js.map (λj=>X.N[j]?)=fr.map some
def n0s{f c0:Addr}{kf:Nat}{pn:Str}{fr:List Str}{js:List Nat}{params:Arguments}{body:Expr}{scope:Scope}{pm fm:Value}{qual:Str}{tb:TE}{ws:List V}(I:o9 X aS σ H s)(S:Yu X pn fr js scope)(ff:Bf X aS H f)
    (ho:s.heap.get? f=some (kla_obj "<lambda>" qual params body scope (N7 X.env.cells scope.names []) pm c0 fm))
    (pI:js.map (λj=>σ[j]?)=ws.map λv=>some (some v))
    (fg:∀cd fh A outer s0 H0,M0 kf (A.deeper (SI qual scope s0.heap.objs.size f cd fh))->PE (o0b X.prog X.w X.K X.mg (BB X H s.heap) (pn::fr) qual scope f cd fh A outer s0 H0) body tb)
    (fz:∀fh pm cd fm u,bindArgs (kla_fn "<lambda>" qual params body scope fh pm cd fm) ⟨[u],[]⟩=pure [(pn,u)]) :
    IF X.prog X.w X.K X.mg (BB X H s.heap) (kf+1) f (λvs H Q _=>O0 H c0 qual/\∃v,vs=[v]/\tb (some v::ws.map some) H Q):=by
 have nf:∀b,b≠X.env.locals->b ∉ X.fs->b ∉ Hi X.stack:=λb h1 h2 z=>by
  rcases aD.mp (I.stkSub b z)with z | z
  . exact h1 z
  . exact h2 z
 have hf:=Mb I ho ff.1 (nf f ff.2.1 ff.2.2.1);have iz:∀n,(n,NameKind.free)∈scope.names->∃c,X.env.cells.lookup n=some c:=λn hn=>I.ok.has n (S.vis n (S.sc.all _ hn U));have up:∀{y c},(N7 X.env.cells scope.names []).lookup y=some c->X.env.cells.lookup y=some c:=λe=>by
  rcases LY iz e with z | z
  . cases z
  . exact z
 have yw:∀{y c v},X.env.cells.lookup y=some c->s.heap.IsCell c v->(BB X H s.heap).IsCell c v:=λ{y c v} e ⟨o,h1,h2⟩=>by
  refine⟨o,Mb I h1 (I.freeC y c e) (nf c (I.cne y c e) λz=>?_),h2⟩;obtain⟨_,o',e',_⟩:=I.ok.funs.mem z;exact absurd (aA (ao e') (I.ok.cab y c (S.fn y) e)) (aM _)
 have jl:js.length=fr.length:=by
  have:=congrArg List.length S.at_;rwa [af,af]at this
 have wl:ws.length=fr.length:=by
  have:=congrArg List.length pI;rw[af,af,jl]at this;exact this.symm
 have F:o0p (BB X H s.heap) f c0 qual params body scope fr ws:=by
  refine⟨_,pm,fm,hf,λx y c h1 h2=>I.ok.inj x y c (up h1) (up h2),λx c h=>?_,λx hx=>Fz (.inr (S.all x hx)),λi x v h1 h2=>?_⟩
  . obtain⟨v,z⟩:=I.cell x c (up h);exact⟨v,yw (up h) z⟩
  . obtain⟨j,j1⟩:∃j,js[i]? = some j:=⟨_,ah (by rw[jl];exact(aU.mp h1).1)⟩;have j2:X.N[j]? = some x:=by
     have:=congrArg (λl=>l[i]?) S.at_;simp only[aE,j1,h1,Option.map_some]at this;exact Option.some.inj this
    have hσ:σ[j]? = some (some v):=by
     have:=congrArg (λl=>l[i]?) pI;simp only[aE,j1,h2,Option.map_some]at this;exact Option.some.inj this
    obtain⟨m,hn,hl⟩:=I.loc;have hv:=S.vis x (aK h1);obtain⟨u,rv,lk⟩:=hl j x v j2 hσ (.inr hv);rcases lk with ⟨z,_⟩ | ⟨_,c,e1,e2⟩
    . have z:X.env.scope.names.lookup x=some .local:=z;rw[z]at hv;rcases hv with hv | hv <;>cases hv
    . obtain⟨c',ec⟩:=Fz (cells:=X.env.cells) (names:=scope.names) (cs:=[]) (.inr (S.all x (aK h1)));have:=up ec;rw[e1]at this;cases this;exact⟨c,u,ec,yw e1 e2,rv⟩
 refine⟨za ⟨hf,U⟩,λA outer s0 H0 u v Q hr e0 rv fR=>?_⟩;obtain⟨hc,v',e,q⟩:=fR;cases e;exact Vk S.sc F (hc.rec e0.hok) wl (λcd fh gv=>fg cd fh A outer s0 H0 gv) (λfh pm cd fm=>fz fh pm cd fm u) hr e0 rv q
abbrev TAL:=St->Hp->(List V->Addr->Addr->Hp->Prop)->Prop
def LP(X:Cx)(params:Arguments)(body:Expr)(scope:Scope)(aS:List (Addr × Obj))(σ:St)(R:List V->Addr->Addr->Hp->Prop)(us:List Value)(s':Shared):Prop:=
 ∃jm vs f c' pm fm H',us=jm++[.ref f]/\x8 vs jm/\o9 X aS σ H' s'/\Bf X aS H' f/\s'.heap.get? f=some (kla_obj "<lambda>" (X.env.qual++"<lambda>") params body scope (N7 X.env.cells scope.names []) pm c' fm)/\R vs f c' H'
def PAL(X:Cx)(params:Arguments)(body:Expr)(scope:Scope)(es:List Expr)(t:TAL):Prop:=
 ∀(pos:Pos) (aS:List (Addr × Obj)) (s:Shared) (σ:St) (H:Hp) (R:List V->Addr->Addr->Hp->Prop),o9 X aS σ H s->t σ H R->wpAny (model X.prog X.w) X.A (spliced (backTo pos (starEach es X.env))) (LP X params body scope aS σ R) X.xe s
def tLam(P:Addr)(qual:Str):TAL:=λ_ H R=>Q8 H P qual/\∀f c H',Og P H H'->Q8 H' P qual->O0 H' c qual->H' f=none->R [] f c H'
def QM{c P:Addr}{params:Arguments}{body:Expr}{scope:Scope}{eZ:Pos}(tb:Tb X.mg X.base c P)(gh:X.env.code=.ref c)(lr:params.defaults=[])(jI:params.kw_defaults=[])
    (ml:∀y∈scope.names,y.2=.free->X.env.scope.names.lookup y.1=some .cell\/X.env.scope.names.lookup y.1=some .free)
    (hs:starEach [.Lambda params body scope eZ] X.env=(false,eval (.Lambda params body scope eZ) X.env)::starEach [] X.env:=by rfl):PAL X params body scope [.Lambda params body scope eZ] (tLam P (X.env.qual++"<lambda>")):=by
 intro pos aS s σ H R I h;obtain⟨hT,h⟩:=h;rw[hs];show wpAny _ _ (spliced ((false,eval (.Lambda params body scope eZ) X.env)::backTo pos (starEach [] X.env))) _ _ s;refine Calls.spliced_cons (NF I tb gh lr jI ml hT λf c' pm fm s' H' I' sp hT' hc ff ho=>?_);exact Calls.spliced_nil ⟨[],[],f,c',pm,fm,H',U,.nil,I',ff,ho,h f c' H' sp hT' hc ff.1⟩
def EV(ha:PE X e te)(hr:PAL X params body scope es t)(hs:starEach (e::es) X.env=(false,eval e X.env)::starEach es X.env:=by rfl) :
    PAL X params body scope (e::es) (λσ H R=>te σ H λx H1=>t σ H1 λvs f c H2=>R (x::vs) f c H2):=by
 intro pos aS s σ H R I h;rw[hs];show wpAny _ _ (spliced ((false,eval e X.env)::backTo pos (starEach es X.env))) _ _ s;refine Calls.spliced_cons (I9 (ha aS s σ H _ I h) λu s1 ⟨x,H1,I1,r1,q1⟩=>?_);refine I9 (hr pos aS s1 σ H1 _ I1 q1) λus s2 hζ=>?_;obtain⟨jm,vs,f,c',pm,fm,H2,e2,r2,I2,ff,ho,q2⟩:=hζ;exact⟨u::jm,x::vs,f,c',pm,fm,H2,by rw[e2];rfl,.cons r1 r2,I2,ff,ho,q2⟩
def Tx(P:Program)(w:World)(K:aa)(mg:Str->Option Value)(kf:Nat)(qual:Str)(js:List Nat)(tb:Heap->TE)(oW:Heap->Sp)(t:TAL):TE:=λσ H Q=>∃ws:List V,js.map (λj=>σ[j]?)=ws.map (λv=>some (some v))/\
 t σ H λvs f c H2=>∀eQ:Heap,IF P w K mg eQ (kf+1) f (λxs H Q _=>O0 H c qual/\∃v,xs=[v]/\tb eQ (some v::ws.map some) H Q)->oW eQ (vs++[.ref f]) H2 Q E0
def HJ{k kf:Nat}{g:Addr}{fd:FuncData}{ps:List Str}{oW:Heap->Sp}{x pn:Str}{fr:List Str}{js:List Nat}{p pos:Pos}{e:Expr}{es:List Expr}{params:Arguments}{body:Expr}{scope:Scope}{t:TAL}{tb:Heap->TE}
    (G:∀eQ:Heap,r8 X.prog X.w X.K X.mg eQ E7 k g fd ps (oW eQ)) (hr:M0 k X.A) (hg:Gl X x) (hm:X.mg x=some (.ref g)) (hk:PySem.W.keepIn X.K (.ref g)=true) (hb:M1 X.K fd ps []) (hL:PAL X params body scope (e::es) t) (S:Yu X pn fr js scope)
    (fg:∀eQ f cd fh A outer s0 H0,M0 kf (A.deeper (SI (X.env.qual++"<lambda>") scope s0.heap.objs.size f cd fh))->PE (o0b X.prog X.w X.K X.mg eQ (pn::fr) (X.env.qual++"<lambda>") scope f cd fh A outer s0 H0) body (tb eQ))
    (fz:∀fh pm cd fm u,bindArgs (kla_fn "<lambda>" (X.env.qual++"<lambda>") params body scope fh pm cd fm) ⟨[u],[]⟩=pure [(pn,u)])
    (iy:(x == ("__debug__":Str))=false:=by decide) (he:starEach (e::es) X.env=(false,eval e X.env)::starEach es X.env:=by rfl) (fV:(backTo pos (starEach es X.env)).any (·.1)=false:=by rfl) :
    PE X (.Call (.Name x p) (e::es) [] pos) (Tx X.prog X.w X.K X.mg kf (X.env.qual++"<lambda>") js tb oW t):=by
 intro aS s σ H Q I h;obtain⟨ws,pI,h⟩:=h;refine wpAny_Call_Name_kw (Fl I hg hm ?_ iy);refine dk (h₀:=X.base) I.ok.mod.kin hk (I9 (hL pos aS s σ H _ I h) λus s1 hζ=>?_) he fV;obtain⟨jm,vs,f,c',pm,fm,H1,e1,r,I1,ff,ho,q⟩:=hζ;refine ⟨I1.kIn,?_⟩;subst e1;have q1:=q _ (n0s I1 S ff ho pI (fg _ f) fz);have F:=G (BB X H1 s1.heap);have r2:x8 (vs++[.ref f]) (jm++[Value.ref f]):=r.append (.cons U .nil);have hl:((jm++[Value.ref f])++[]).length=ps.length:=by rw[bI,<- r2.length];exact F.len _ _ _ _ q1
 have kg:=hb s1 (jm++[Value.ref f]) I1.kIn hl;rw[bI]at kg;refine wpAny_call (codeAny_mono (F.run X.A X.stack s1 H1 ⟨jm++[Value.ref f],[]⟩ _ _ Q E0 hr (VU I1) kg r2 q1) λr s' hq=>?_);cases r with
 | error e=>exact False.elim hq
 | ok fl=>
  cases fl with
  | ret u=>exact I1.after hq
  | next=>exact False.elim hq
  | brk=>exact False.elim hq
  | cont=>exact False.elim hq
end
def SA{P:Program}{w:World}{A:Around}{s:Shared}{q c' a:Addr}{pn qual:Str}{params:Arguments}{scope:Scope}{pm fm:Value}{fh:List (Str × Addr)}{its:Array Value}{n:Int}{t:Tok}{p1 p2 p3:Pos}{j:Nat}
    (nK:A.depth < recursionLimit) (kK:s.heap.NoLimit) (ho:s.heap.get? q=some (kla_obj "<lambda>" qual params (.Subscript (.Name pn p1) (.Constant (.int 0) j p2) p3) scope fh pm c' fm)) (gn:s.heap.CodeRec (.ref c') qual) (Sc:RB pn [] scope)
    (fz:bindArgs (kla_fn "<lambda>" qual params (.Subscript (.Name pn p1) (.Constant (.int 0) j p2) p3) scope fh pm (.ref c') fm) ⟨[.ref a],[]⟩=pure [(pn,.ref a)]) (ht:IsTup s.heap a its) (h0:its[0]? = some (.int n t)) (sQ:(pn == ("__debug__":Str))=false) :
    wpAny (model P w) A (call (.ref q) [.ref a]) (λu s'=>∃h' tk t',u=.int n t'/\s'={ s with heap:=h',toks:=tk }/\∀b o,s.heap.get? b=some o->h'.get? b=some o) (λ_ _=>False) s:=by
 refine wpAny_call ?_;refine kla_callFunE nK ho rfl Sc.co Sc.gen rfl gn (BindsTo.of_eq (s:=s) fz _ _ _ _ ?_);refine wpAny_newFunctionEnv Sc.nocell (λy hy=>by rw[ax.mp hy];exact Sc.par) (λh' mh sM=>?_) Sc.kind;have kp:∀b o,s.heap.get? b=some o->h'.get? b=some o:=λb o e=>sM.extBut b o (aB (ao e)) (ak _ e);refine⟨kK.keeps kp,kla_codeExpr ?_⟩;have vI:IsTup h' a its:=by
  obtain⟨o,e,c⟩:=ht;exact⟨o,kp _ _ e,c⟩
 have hz:0 < its.size:=(Array.getElem?_eq_some_iff.mp h0).1;refine Subscript_ (wpAny_Name (wpAny_loadName_local Sc.kind (show Env.kindOf _ pn=some .local from Sc.par) mh (v:=.ref a) (by simp) ?_) sQ);refine wpAny_Constant_int ?_;refine subscriptTail_builtinR (x:=.int n t) (s:={ s with heap:=h',toks:=_ }) vI.typeIs slot_tuple_getitem.lookup (getItem_tuple (j:=0) vI bD bD ?_ h0 ⟨U,?_⟩) bR
 . unfold seqIndex?;simp[hz]
 . exact⟨h',_,t,U,U,kp⟩
def adr:Value->Addr
 | .ref a=>a
 | _=>0
def Uw{kz:List Int}{as:List Addr}{ps:List (Int × Value)}(h:ps.Perm (kz.zip (as.map Value.ref))):∃zs:List (Int × Addr),zs.Perm (kz.zip as)/\ps=zs.map λz=>(z.1,Value.ref z.2):=by
 have e0:kz.zip (as.map Value.ref)=(kz.zip as).map λz=>(z.1,Value.ref z.2):=by rw[List.zip_map_right];rfl
 refine⟨ps.map λp=>(p.1,adr p.2),?_,?_⟩
 . have:=h.map λp:Int × Value=>(p.1,adr p.2);rw[e0,cq]at this;have e1:(kz.zip as).map ((λp:Int × Value=>(p.1,adr p.2)) ∘ λz=>(z.1,Value.ref z.2))=kz.zip as:=by
    conv=>rhs;rw[<- List.map_id (kz.zip as)]
    rfl
   rwa [e1]at this
 . rw[cq]
   conv=>lhs;rw[<- List.map_id ps]
   refine List.map_congr_left λp hp=>?_;have:=h.mem_iff.mp hp;rw[e0]at this;obtain⟨z,_,rfl⟩:=aw.mp this;rfl
section
variable{X:Cx}
def YH(K:aa)(P:Addr)(qual:Str)(ta:TA):TE:=λσ H Q=>ta σ H λvs H1=>∃(l:Addr) (ps:List Addr) (kz:List Int),vs=[.ref l]/\o7 K H1 l (ps.map V.ref)/\kz.length=ps.length/\ps.length < 64/\Q8 H1 P qual/\
 (∀(i:Nat) p n,ps[i]? = some p->kz[i]? = some n->∃r,H1 p=some (.tup (.int n::r)))/\
 ∀(H2:Hp) (d:Addr) (zs:List (Int × Addr)),Og P H1 H2->Q8 H2 P qual->H2 d=some (.lst (zs.map λz:Int × Addr=>V.ref z.2))->zs.Perm (kz.zip ps)->zs.Pairwise (λp q=>p.1<=q.1)->Q (.ref d) H2
def Uy{c P:Addr}{k:Nat}{pn:Str}{p pos eZ nv p1 p2 p3:Pos}{jj:Nat}{e:Expr}{params:Arguments}{scope:Scope}{ta:TA}(hr:M0 (k+3) X.A)(bY:Tb X.mg X.base c P)(gh:X.env.code=.ref c)
    (hg:Gl X "sorted") (hm:X.mg "sorted"=none) (ha:PA X [e] ta) (lr:params.defaults=[]) (jI:params.kw_defaults=[]) (Sc:RB pn [] scope)
    (fz:∀fh pm cd fm u,bindArgs (kla_fn "<lambda>" (X.env.qual++"<lambda>") params (.Subscript (.Name pn p1) (.Constant (.int 0) jj p2) p3) scope fh pm cd fm) ⟨[u],[]⟩=pure [(pn,u)])
    (sQ:(pn == ("__debug__":Str))=false:=by decide)
    (kT:backTo pos (starEach [e] X.env)=(false,eval e X.env)::backTo pos (starEach [] X.env):=by rfl) (fV:(backTo pos (starEach [e] X.env)).any (·.1)=false:=by rfl) :
    PE X (.Call (.Name "sorted" p) [e] [⟨some "key",.Lambda params (.Subscript (.Name pn p1) (.Constant (.int 0) jj p2) p3) scope eZ,nv⟩] pos) (YH X.K P (X.env.qual++"<lambda>") ta):=by
 intro aS s σ H Q I h;refine wpAny_Call_Name_kw (AB I hg hm (show bootBuiltins "sorted"=some (.builtin "sorted") by decide +kernel) ?_);refine callWith_kw (I9 (ha pos aS s σ H _ I h) λus s1 ⟨vs,H1,I1,r1,q1⟩=>?_) kT fV;obtain⟨l,ps,kz,rfl,hl,eJ,h64,hT,hk,q⟩:=q1;obtain⟨u,rfl,ru⟩:=r1.one;cases (show u=Value.ref l from ru);show wpAny _ _ (evalAll [(eval (.Lambda params (.Subscript (.Name pn p1) (.Constant (.int 0) jj p2) p3) scope eZ) X.env >>= λv=>(standAt pos >>= λ_=>pure v))]) _ _ _;unfold evalAll;refine wpAny_bind (wpAny_bind ?_);refine NF I1 bY gh lr jI (λy hy hf=>nomatch Sc.all y hy hf) hT λf c' pm fm s2 H2 I2 sp gi hc ff ho=>?_;refine wpAny_bind (wpAny_standAt (wpAny_pure ?_));refine wpAny_bind (wpAny_holding (wpAny_pure (wpAny_pure ?_)));show wpAny _ _ (call (.builtin "sorted") [.ref l] [(Str.ofString "key",.ref f)]) _ _ _;obtain⟨iX,hP,_⟩:=id hT;have jc:o7 X.K H2 l (ps.map V.ref):=by
  rcases hl with (z | ⟨o,z⟩) | z
  . exact .inl (.inl (sp _ _ (Ar z hP (by simp)) z))
  . exact .inl (.inr ⟨o,sp _ _ (Ar z hP (by simp)) z⟩)
  . exact .inr z
 have jd:∀(i:Nat) p n,ps[i]? = some p->kz[i]? = some n->∃r,H2 p=some (.tup (.int n::r)):=λi p n e1 e2=>by
  obtain⟨r,z⟩:=hk i p n e1 e2;exact⟨r,sp _ _ (Ar z hP (by simp)) z⟩
 have hL:=Xr I2 jc;obtain⟨m,hF⟩:=I2.fr;have hN:=UQ (g:=X.base) (h:=s2.heap) (L:=X.env.locals);have all:∀{h':Heap} {own:List (Addr × Obj)},Fr X.base X.env.locals h' m->News X.base X.env.locals h' (Dj X.base s2.heap X.env.locals++own)->∀b o,b≠X.env.locals->s2.heap.get? b=some o->h'.get? b=some o:=λ{h' own} F N b o hb e=>by
  cases z:X.base.get? b with
  | some u=>
   have:=I2.bk b u z;rw[e]at this;cases this;exact F.keep b _ z
  | none=>exact(N (b,o) (bC _ (Gy hb z e))).1
 have lX:∀{b o},H2 b=some o->b≠X.env.locals:=λe z=>by rw[z,I2.free]at e;cases e
 refine ksk_sorted (b:=false) (f:=.ref f) (kz:=kz) (vs:=ps.map Value.ref) hF hN hL (by rw[af];exact eJ) (by rw[af];exact h64) (ksk_s1 _ _) (λx=>ksk_l1 _ _) (λx=>ksk_t1 _ _) ?turn ?fin
 case turn=>
  intro i v n hv hn h' tk own F N;rw[aE]at hv;obtain⟨a,ea,rfl⟩:=cA.mp hv;obtain⟨r,vL⟩:=jd i a n ea hn;have kp:=all F N;obtain⟨_,its,rv,⟨o,eo,co⟩,_⟩:=(show M7 X.prog X.w H2 s2.heap a (.tup (.int n::r))from I2.hok a _ vL);have lj:∃t,its[0]? = some (Value.int n t):=by
   obtain⟨u,e1,t,e2⟩:=rv.get (i:=0) (x:=.int n) rfl;exact⟨t,by rw[e1,e2]⟩
  obtain⟨t,lj⟩:=lj;have hcr:=hc.rec I2.hok;obtain⟨c2,oc,ws,tq,ec,uD,uE,uC⟩:=hcr;cases ec;have ncL:c'≠X.env.locals:=by
   obtain⟨oc',gU,t',z,_⟩:=hc;exact lX z
  have kK:h'.NoLimit:=I2.ok.mod.nolimit.keeps F.keep;refine wpAny_mono (SA (s:={ s2 with heap:=h',toks:=tk }) (n:=n) (t:=t) (its:=its.toArray) (a:=a) (by have:=hr.depth;exact this) kK (kp f _ ff.2.1 ho) ⟨c',oc,ws,tq,U,kp c' oc ncL uD,uE,uC⟩ Sc (fz _ _ _ _ _) ⟨o,kp a o (lX vL) eo,co⟩ (by simpa using lj) sQ) (λu s' hu=>?_) λ_ _ z=>z;obtain⟨h2,tk2,t2,rfl,rfl,kk⟩:=hu;exact⟨h2,tk2,t2,U,U,⟨F.ns.keeps kk,λb o e=>kk b o (F.keep b o e),F.above⟩,λp hp=>⟨kk _ _ (N p hp).1,(N p hp).2⟩⟩
 case fin=>
  intro D h' tk out cc F N lt kH;have N':News X.base X.env.locals h' (Dj X.base s2.heap X.env.locals++[]):=λp hp=>N p (aC _ (by simpa using hp));have kp:=all F N';obtain⟨gD,nDL,nDB⟩:=N (D,seqObj "list" out cc) aF;have neD:∀b o,s2.heap.get? b=some o->b≠X.env.locals->b≠D:=λb o e hb z=>by
   cases zz:X.base.get? b with
   | some u=>rw[z,show X.base.get? D=none from nDB]at zz;cases zz
   | none=>exact aM _ (z▸lt (b,o) (Gy hb zz e))
  have HD:H2 D=none:=by
   cases zz:H2 D with
   | none=>rfl
   | some u=>
    obtain⟨ob,eo⟩:=I2.hok.there zz;exact absurd rfl (neD D ob eo (lX zz))
  obtain⟨prs,pm1,ph,pm3⟩:=kH;obtain⟨zs,z1,rfl⟩:=Uw pm1;have zl:zs.length=ps.length:=by rw[z1.length_eq,List.length_zip,eJ,Nat.min_self]
  have vz:∀zs:List (Int × Addr),x8 (zs.map λz=>V.ref z.2) ((zs.map λz=>(z.1,Value.ref z.2)).map Prod.snd):=λzs=>by
   induction zs with
   | nil=>exact .nil
   | cons z r ih=>exact .cons rfl ih
  have sV:AE X.prog X.w H2 h':=I2.hok.loose λb u hb e=>kp b u (λz=>hb (by rw[z];exact I2.free)) e;have sU:AE X.prog X.w (upd H2 D (.lst (zs.map λz=>V.ref z.2))) h':=sV.track HD ⟨by rw[af,zl,sizeLine_eq];omega,_,cc,vz zs,by
   rw[<- ph];exact gD⟩
  have I3:o9 X aS σ (upd H2 D (.lst (zs.map λz=>V.ref z.2))) { s2 with heap:=h',toks:=tk }:=by
   refine I2.step (g':=s2.gens) (d':=s2.drawn) (t':=tk) (ch:=[]) (λ_ z=>nomatch z) (λb o hL _ _ e _=>kp b o hL e) (λb o hL _ _ e _=>⟨o.slots,kp b o hL e⟩) (λb o _ e n=>?_) (λb o _ e=>?_) (λb xs e=>?_) (λb o u e=>?_) (λb iX e=>⟨#[],?_⟩) (λm' hm=>?_) sU I2.bare
   . by_cases hb:b=D
     . by_cases hbL:b=X.env.locals
       . exact absurd (hb.symm.trans hbL) nDL
       . exact absurd hb (neD b o e hbL)
     . rw[l6 hb];exact n
   . by_cases hb:b=X.env.locals
     . obtain⟨o',_,_,e',_⟩:=F.ns;exact⟨o',by rw[hb];exact e'⟩
     . exact⟨o,kp b o hb e⟩
   . rw[l6 (j7 e HD)];exact e
   . rw[l6 (j7 e HD)];exact e
   . rw[l6 (j7 e HD)];simpa using e
   . have:m'=m:=by
      obtain⟨o1,es1,ep1,a1,a2,_,a4⟩:=hm;obtain⟨o2,lG,ep2,b1,b2,_,b4⟩:=hF.ns;rw[a1]at b1;cases b1;rw[a2]at b2;cases b2;funext y;rw[<- a4 y,<- b4 y]
     rw[this];exact F.ns
  refine⟨.ref D,_,I3,U,q _ D zs (λb o hb e=>?_) ?_ b9 z1 ?_⟩
  . have e2:=sp b o hb e;rw[l6 (j7 e2 HD)];exact e2
  . obtain⟨qL,wa,ht2,ly⟩:=gi;refine⟨qL,(by rw[l6 (j7 wa HD)];exact wa),ht2,?_⟩;intro lp v ev;obtain⟨c3,z,rC,qH,t3,y1,y2⟩:=ly lp v ev;exact⟨c3,z,rC,qH,t3,(by rw[l6 (j7 y1 HD)];exact y1),y2⟩
  . have:=cH.mp pm3;exact this.imp λh=>by simpa using h
end
end L2
namespace L2
open PySem PySem.Spec PyProof.Rows PySem.Builtin PySem.Builtin.Str
section
variable{X:Cx}
theorem Mp:∀{ls:List Str} {its:List Value},x8 (ls.map V.str) its->∃l:List (Str × Tok),its=strValues l/\l.map (·.1)=ls
 | [],_,.nil=>⟨[],U,U⟩
 | x::ls,_,.cons r rs=>by
  obtain⟨t,rfl⟩:=r;obtain⟨l,rfl,e⟩:=Mp rs;exact⟨(x,t)::l,U,by rw[aZ,e]⟩
def Ye(K:aa):V->List V->Hp->VK->Prop:=λx xs H Q=>∃z a ls,x=.str z/\xs=[.ref a]/\o7 K H a (ls.map V.str)/\JoinOk z ls=true/\Q (.str (Txt.join z ls)) H
def Xn:MtR X "str.join" (Ye X.K):=by
 intro aS s σ H x xs v us Q I rx rs h;obtain⟨z,a,ls,rfl,rfl,hq,ok,q⟩:=h;obtain⟨t,rfl⟩:=rx;obtain⟨u,rfl,ru⟩:=rs.one;cases (show u=Value.ref a from ru);obtain⟨its,rv,p,hz⟩:=I.list hq;obtain⟨l,rfl,e⟩:=Mp rv;exact PySem.SC.join (l:=l) p.isList e ok λt' k=>⟨.str _,H,I.tok _,⟨_,U⟩,q⟩
end
end L2
namespace HT
open PySem PyProof.Rows
section
open PySem.SeqAt
open PySem.AutoSeq1 (wpAny_loadPart')
open PySem.MeetsSeq PySem.MeetsSeq2 PySem.MeetsSeq3
end
end HT
namespace L2
open PySem PySem.Spec PyProof.Rows PySem.SeqAt
section
variable{X:Cx}
end
section
variable{X:Cx}
end
end L2
namespace L2
open PySem PySem.Spec PyProof.Rows
end L2
namespace HT
open PySem PySem.Spec PyProof.Rows L2
section
variable{prog:Program}{w:World}{A:Around}{E:Value->Shared->Prop}{s:Shared}
def Fs{t sl:Addr}{items:Array Value}{vl vu:Value}{lo hi:Option Int}{Q:Value->Shared->Prop}(ht:IsTup s.heap t items)(hs:s.heap.IsSliceOf sl vl vu .none)(pl:IsPart vl lo)(pu:IsPart vu hi)
    (hw:T2 items.size 0 lo=0/\T2 items.size items.size hi=items.size) (h:Q (.ref t) s):wpAny (model prog w) A (getItem (.ref t) (.ref sl)) Q E s:=by
 obtain⟨os,kX,mq,oa⟩:=id hs;have iF:s.TypeIs (.ref sl) "slice":=⟨os,kX,mq⟩;unfold getItem
 try with_reducible refine wpAny_holding ?_
 first | refine wpAny_bind (wpAny_pure ?_) | skip
 refine wpAny_bind (wpAny_sequenceKey ht.typeIs bD ?_);refine wpAny_bind (wpAny_callSpecial?_slot (name:=Str.ofString "__getitem__") ht.typeIs dq
  (wpAny_call_entry dq ht.typeIs entry_tuple_getitem ?_ (args_tuple_getitem _ _)))
 show wpAny _ _ (Builtin.Tuple.tupleItemsOf (.ref t) >>= _) _ _ s;refine wpAny_bind (tupleItemsOf_ ht ?_);refine wpAny_bind (wpAny_typeOf iF ?_);rw[if_pos bD];refine wpAny_bind (AH hs pl pu ?_);rw[hw.1,hw.2];have su:((((0:Nat):Int) == 0 && (1:Int) == 1 && (items.size - 0) == items.size)=true):=by simp
 show wpAny _ _ (if((((0:Nat):Int) == 0 && (1:Int) == 1 && (items.size - 0) == items.size)=true)then _ else _) _ _ s;rw[if_pos su];refine wpAny_bind (wpAny_bind (m:=typeOf (.ref t)) (wpAny_typeOf ht.typeIs (wpAny_pure ?_)));rw[if_pos bD];refine wpAny_bind (wpAny_rule ?_);exact wpAny_pure ⟨_,rfl,wpAny_pure h⟩
end
end HT
namespace L2
open PySem PySem.Spec PyProof.Rows
def Yd(K:aa):V->Option Int->Option Int->Hp->VK->Prop:=λx lo hi H Q=>∃a xs,x=.ref a/\l9 K H a xs/\H a=some (.tup xs)/\
 ∀p H',h9 H H'->H' p=some (.tup (Dy xs lo hi))->Q (.ref p) H'
def WD:c0c X (Yd X.K):=by
 intro aS s σ H x v vl vu lo hi sl Q I rx hs pl pu h;obtain⟨a,xs,rfl,hx,iN,q⟩:=h;by_cases hw:HT.T2 xs.length 0 lo=0/\HT.T2 xs.length xs.length hi=xs.length
 . cases rx;obtain⟨its,r,ht,hz⟩:=I.tuple hx;have eJ:its.toArray.size=xs.length:=by rw[au];exact r.length.symm
   refine⟨"tuple",_,PyProof.Rows.slot_tuple_getitem.lookup,ht.typeIs,?_⟩;refine HT.Fs ht hs pl pu (by rw[eJ];exact hw) ?_;refine⟨.ref a,H,I,U,q a H (h9.refl _) ?_⟩;rw[iN];unfold Dy;rw[hw.1,hw.2,Nat.sub_zero,List.drop_zero,bb]
 . exact YR aS s σ H _ v vl vu lo hi sl Q I rx hs pl pu ⟨a,xs,U,hx,hw,λp n=>q p _ (c6 n) b9⟩
def JW:Manifest.owners.lookup (String.ofList ['d','e','s','r','e','v','e','r'].reverse)=some Manifest.sig_reversed:=by kernel_rfl
def O9:Slot "reversed" "__next__" "reversed.__next__":=
 .of (owner:="reversed") (n:="__next__") (by rw[typeLookup_type,builtinLookup_eq_fast];kernel_rfl) dK dK dK
  (by first | exact .inl dK | exact .inr dK) (by rw[isSubtype_type];kernel_rfl)
def CP:entryFor table "reversed.__next__"=some Builtin.«reversed.__next__»:=entryFor_of_tree (by kernel_rfl)
def DJ(a:Value):argsOk "reversed.__next__" ⟨[a],[]⟩:=by
 unfold argsOk;rw[signature?_of (id:="reversed.__next__") (n:=['_','_','t','x','e','n','_','_']) (o:=['d','e','s','r','e','v','e','r']) (by kernel_rfl) JW];kernel_rfl
def DD:Slot "reversed" "__iter__" "reversed.__iter__":=
 .of (owner:="reversed") (n:="__iter__") (by rw[typeLookup_type,builtinLookup_eq_fast];kernel_rfl) dK dK dK
  (by first | exact .inl dK | exact .inr dK) (by rw[isSubtype_type];kernel_rfl)
def JI(a:Value):argsOk "reversed.__iter__" ⟨[a],[]⟩:=by
 unfold argsOk;rw[signature?_of (id:="reversed.__iter__") (n:=['_','_','r','e','t','i','_','_']) (o:=['d','e','s','r','e','v','e','r']) (by kernel_rfl) JW];kernel_rfl
def Io:entryFor table "reversed.__iter__"=some Builtin.«dict_keyiterator.__iter__»:=
 entryFor_alias (id':="dict_keyiterator.__iter__") (by kernel_rfl) (by first | rfl | decide +kernel | (unfold String.splitOn;simp +decide [String.splitOnAux])) dK (by kernel_rfl)
def OC:typeLookup (.type "str") "__reversed__"=pure none:=by rw[typeLookup_type,builtinLookup_eq_fast];kernel_rfl
def Mt:isSubtype (.type "str") (.type "dict")=pure false:=by rw[isSubtype_type];kernel_rfl
def GW:TypeCalled "reversed" "reversed.__new__" "object.__init__":=
 ⟨dK,dK,⟨_,_,F.mro_reversed⟩,F.made_reversed,dK,by rw[isSubtype_type];kernel_rfl,
  .of (owner:="object") (n:="__init__") (by rw[typeLookup_type,builtinLookup_eq_fast];kernel_rfl) dK dK dK
   (by first | exact .inl dK | exact .inr dK) (by rw[isSubtype_type];kernel_rfl)⟩
def rvO(z:Str)(t:Tok)(i:Int):Obj:={ cls:=.type "reversed",data:=.fields #[.str z t,rawInt i] }
def IE(h:Heap)(a:Addr)(z:Str)(t:Tok)(i:Int):Prop:=∃o,h.get? a=some o/\o.cls=.type "reversed"/\o.data=.fields #[.str z t,rawInt i]
section
variable{prog:Program}{w:World}{A:Around}{E:Value->Shared->Prop}{s:Shared}
def Up(z:Str)(t:Tok)(hz:z.length<=sizeLine) :
    Meets (Builtin.«reversed.__new__» ⟨[.type "reversed",.str z t],[]⟩) (λ_ R s=>
     R (.ok (.ret (.ref s.heap.objs.size))) { s with heap:=s.heap.push (rvO z t ((z.length:Int) - 1)),toks:=s.toks+1+1 }):=
 .of_wp λprog w A R s h=>by
  have hl:=CN;unfold Builtin.«reversed.__new__»;refine wpAny_bind (wpAny_of_eq (newClass_reversed _) ?_)
  try dsimp only
  refine wpAny_bind (wpAny_of_eq (a:=()) (by first | rfl | kernel_rfl) ?_);refine wpAny_bind (wpAny_of_eq (a:=()) (by first | rfl | kernel_rfl) ?_)
  try dsimp only
  refine wpAny_bind (wpAny_specialOf (T:="str") (v:=.str z t) U OC ?_);dsimp only;refine wpAny_bind ?_;show wpAny _ _ (isInstance (Value.str z t) (.type "dict") >>= _) _ _ s;refine wpAny_bind (wpAny_isInstance (T:="str") (v:=.str z t) U Mt ?_);show wpAny _ _ (specialOf (Value.str z t) "__getitem__" >>= _) _ _ s;refine wpAny_bind (wpAny_specialOf (T:="str") (v:=.str z t) U F.slot_str_getitem.lookup ?_);show wpAny _ _ (if _ then _ else _) _ _ s;rw[if_pos dK];refine wpAny_pure ?_;show wpAny _ _ (call (Value.builtin "len") [Value.str z t] >>= _) _ _ s;refine wpAny_bind (len_str Y ?_);refine wpAny_bind (wpAny_pure ?_);show wpAny _ _ (newObj (.type "reversed") (.fields #[.str z t,rawInt ((z.length:Int) - 1)]) >>= _) _ _ _;exact wpAny_bind (wpAny_newObj_type (wpAny_pure ⟨_,U,h⟩))
def IA{z:Str}{t:Tok}{Q:Value->Shared->Prop}(hz:z.length<=sizeLine)
    (h:∀h',IE h' s.heap.objs.size z t ((z.length:Int) - 1)->(∀b o,s.heap.get? b=some o->h'.get? b=some o)->Q (.ref s.heap.objs.size) { s with heap:=h',toks:=s.toks+1+1 }) :
    wpAny (model prog w) A (call (.type "reversed") [.str z t]) Q E s:=by
 refine callType_new GW bD (F.typeCall_reversed_1 _) (F.newCall_reversed_1 _) (λobj=>F.args_object_init_2 obj _) F.entry_reversed_new (Up z t hz) ?_;have e:(s.heap.push (rvO z t ((z.length:Int) - 1))).get? s.heap.objs.size=some (rvO z t ((z.length:Int) - 1)):=ay _ rfl;exact⟨⟨_,e,U⟩,h _ ⟨_,e,U,U⟩ λb o x=>ak _ x⟩
def UP{it:Addr}{z:Str}{t:Tok}{i c:Nat}{Q:Option Value->Shared->Prop}(iQ:IE s.heap it z t (i:Int))(hz:z.length<=sizeLine)(hc:z.cps[i]? = some c)
    (hQ:∀h' tk u,IE h' it z t ((i:Int) - 1)->Heap.SameBut it s.heap h'->Q (some (.str ⟨#[c]⟩ u)) { s with heap:=h',toks:=tk }):wpAny (model prog w) A (pyNext (.ref it)) Q E s:=by
 obtain⟨o,ho,iz,hd⟩:=id iQ;have hl:=CN;have hi:i < z.length:=(Array.getElem?_eq_some_iff.mp hc).1;have ty:s.TypeIs (.ref it) "reversed":=⟨o,ho,iz⟩;unfold pyNext;refine wpAny_bind (wpAny_attempt (wpAny_callSpecial?_slot (name:=Str.ofString "__next__") ty O9 (wpAny_call_entry O9 ty CP ?_ (DJ _))));unfold Builtin.«reversed.__next__»;refine wpAny_bind (wpAny_of_eq (a:=(Value.ref it,[])) U ?_)
 try dsimp only
 refine wpAny_bind (wpAny_field ho hd (x:=.str z t) U ?_);refine wpAny_bind (wpAny_field ho hd (x:=rawInt (i:Int)) U ?_);show wpAny _ _ (if(i:Int) < 0 then _ else _) _ _ s;rw[if_neg Y];refine wpAny_bind (wpAny_specialOf (T:="str") (v:=.str z t) U F.slot_str_getitem.lookup ?_);show wpAny _ _ (mkInt (i:Int) >>= _) _ _ s;refine wpAny_bind (wpAny_mkInt ?_);have e:seqIndex? (i:Int) z.length=some (i:Int).toNat:=PySem.StrLaws.seqIndex_nonneg Y Y;refine wpAny_bind (wpAny_attempt (getItem_str (c:=c) (by
  have e1:decide ((i:Int) < -(2 ^ 63:Int))=false:=decide_eq_false Y;have e2:decide ((i:Int) ≥ 2 ^ 63)=false:=decide_eq_false Y;rw[e1,e2,Bool.or_false]) (by rw[e];simpa using hc) ?_))
 show wpAny _ _ (field (.ref it) 1 >>= _) _ _ _;refine wpAny_bind (wpAny_field (s:={ s with toks:=_ }) ho hd (x:=rawInt (i:Int)) U ?_);show wpAny _ _ (setField (.ref it) 1 (rawInt ((i:Int) - 1)) >>= _) _ _ _;refine wpAny_bind (wpAny_setField (s:={ s with toks:=_ }) ho hd (by simp) ?_);refine wpAny_pure ⟨_,U,wpAny_pure (hQ _ _ _ ?_ (Heap.SameBut.update ..))⟩;exact⟨_,du _ ho (Obj.isFreed_of_fields (Obj.data_mapFields hd _)),(Obj.cls_mapFields ..).trans iz,by
  rw[Obj.data_mapFields hd];simp⟩
def XI{it:Addr}{z:Str}{t:Tok}{Q:Option Value->Shared->Prop}(hh:A.handled=none)(iQ:IE s.heap it z t (-1))
    (hQ:∀h',Heap.ExtBut it s.heap h'->Q none { s with heap:=h' }):wpAny (model prog w) A (pyNext (.ref it)) Q E s:=by
 obtain⟨o,ho,iz,hd⟩:=id iQ;have ty:s.TypeIs (.ref it) "reversed":=⟨o,ho,iz⟩;unfold pyNext;refine wpAny_bind (wpAny_attempt (wpAny_callSpecial?_slot (name:=Str.ofString "__next__") ty O9 (wpAny_call_entry O9 ty CP ?_ (DJ _))));unfold Builtin.«reversed.__next__»;refine wpAny_bind (wpAny_of_eq (a:=(Value.ref it,[])) U ?_)
 try dsimp only
 refine wpAny_bind (wpAny_field ho hd (x:=.str z t) U ?_);refine wpAny_bind (wpAny_field ho hd (x:=rawInt (-1)) U ?_);show wpAny _ _ (if(-1:Int) < 0 then _ else _) _ _ s;rw[if_pos bD];refine wpAny_bind (wpAny_rule ?_);refine wpAny_bind ?_;show wpAny _ _ (setField (.ref it) 1 (rawInt (-1)) >>= λ_=>setField (.ref it) 0 .none) _ _ _;refine wpAny_bind (wpAny_setField ho hd (by simp) ?_);have ho1:=du (Obj.mapFields (·.setIfInBounds 1 (rawInt (-1)))) ho (Obj.isFreed_of_fields (Obj.data_mapFields hd _));refine wpAny_setField ho1 (Obj.data_mapFields hd _) (by simp) ?_;refine wpAny_bind ?_;show wpAny _ _ (newExc (.type "StopIteration") [] >>= _) _ _ _;refine wpAny_bind ?_;simp only[newExc,newTuple];refine wpAny_bind (wpAny_newObj_type ?_ (by size_fits));refine wpAny_bind (m:=firstArgMember _ _) (wpAny_of_eq (a:=Value.none) (by first | rfl | (simp only[firstArgMember];rfl)) ?_);refine wpAny_newObj_type ?_ (by size_fits);simp only[raiseNew];refine wpAny_bind (wpAny_handled ?_)
 first | rw[show A.in1.handled=none from hh] | rw[hh]
 refine wpAny_bind (wpAny_pure (wpAny_throw ?_));refine wpAny_bind (wpAny_isInstance (T:="StopIteration") (b:=true) ⟨_,ay _ rfl,rfl⟩ isSubtype_stop ?_);exact wpAny_pure (hQ _ ((((Heap.SameBut.update ..).extBut.trans (Heap.SameBut.update ..).extBut).push _).push _))
def NK(iQ:IE s.heap it z t i)(h:Q (.ref it) s):wpAny (model prog w) A (pyIter (.ref it)) Q E s:=by
 obtain⟨o,ho,iz,hd⟩:=id iQ;have ty:s.TypeIs (.ref it) "reversed":=⟨o,ho,iz⟩;refine wpAny_pyIter_slot ty DD (wpAny_call_entry DD ty Io ?_ (JI _));show wpAny _ _ (ret (.ref it)) _ _ s;exact wpAny_pure ⟨_,rfl,"reversed",_,ty,O9.lookup,h⟩
end
def b0u(z:Str):It:=⟨λi _=>i < z.cps.size,λi H x H'=>H'=H/\∃c,z.cps[z.cps.size - 1 - i]? = some c/\x=.str ⟨#[c]⟩,λi _=>i=z.cps.size⟩
def Tr{P:Program}{w:World}{K:aa}{tg:Expr}(z:Str)(t:Tok)(hz:z.length<=sizeLine)(it:Addr):Md P w K tg (b0u z) [it] it (λi h=>IE h it z t ((z.length:Int) - 1 - i))where
 mem:=by simp
 obj:=λi h st b hb=>by
  have e:b=it:=by simpa using hb
  subst e;obtain⟨o,e,c,d⟩:=st;exact⟨o,e,λv q=>by rw[d]at q;cases q⟩
 keep:=λi h h' st k=>by
  obtain⟨o,e,r⟩:=st;exact⟨o,k it (by simp) o e,r⟩
 item:=by
  intro X hP hw hK hc i aS s σ H E I hf st hg;subst hP hw hK;have hg:i < z.length:=hg;obtain⟨f0,f1,f2,f3,f4,f5⟩:=hf it (by simp);have e1:((z.length:Int) - 1 - i)=((z.length - 1 - i:Nat):Int):=by omega
  have lt:z.length - 1 - i < z.cps.size:=by show z.cps.size - 1 - i < z.cps.size;have:i < z.cps.size:=hg;omega
  rw[e1]at st;refine UP st hz (c:=z.cps[z.length - 1 - i]) (by simp[lt]) λh' tk u dY sb=>?_;have I1:o9 X aS σ H { s with heap:=h',toks:=tk }:=I.turned (t':=tk) (λb o hb e=>(sb.2 b hb).trans e) f0 f1 f3 f4 f5;obtain⟨o,e,c,d⟩:=id dY;have e2:((z.length - 1 - i:Nat):Int) - 1=(z.length:Int) - 1 - ((i+1:Nat):Int):=by omega
  rw[e2]at dY;exact⟨_,U,Kf (s:={ s with heap:=h',toks:=tk }) e c d bD ⟨.str ⟨#[z.cps[z.length - 1 - i]]⟩,H,I1,⟨_,U⟩,⟨U,_,by show z.cps[z.length - 1 - i]? = _;simp[lt],U⟩,dY,λb hb=>(hf b hb).1⟩⟩
 done:=by
  intro X hP hw hK hc i aS s σ H E I hf st hg;subst hP hw hK;have hg:i=z.length:=hg;obtain⟨f0,f1,f2,f3,f4,f5⟩:=hf it (by simp);have e:(z.length:Int) - 1 - i = -1:=by omega
  rw[e]at st;exact XI (I.ok.hd hc) st λh' eb=>⟨U,I.turned (t':=s.toks) (λb o hb e=>eb b o hb e) f0 f1 f3 f4 f5⟩
 self:=λ_ _ _ _ _ st h=>NK st h
def iRev(ta:TA):TI:=λσ H R=>ta σ H λvs H1=>∃z,vs=[.str z]/\z.length<=sizeLine/\R (b0u z) H1
def ZD{X:Cx}{tg a:Expr}{ta:TA}{p pos:Pos}(hg:Gl X "reversed")(hm:X.mg "reversed"=none)(ha:PA X [a] ta)(hs:starEach [a] X.env=[(false,eval a X.env)]:=by rfl) :
    PI X tg (.Call (.Name "reversed" p) [a] [] pos) (iRev ta):=by
 intro aS s σ H R I h;refine Call_ (AB I hg hm boot_reversed (cj (I9 (ha pos aS s σ H _ I h) λus s1 ⟨vs,H1,I1,r1,q1⟩=>?_) hs U));obtain⟨z,e,hz,q⟩:=q1;subst e;cases r1 with
 | cons r rr=>
  cases rr;obtain⟨t,rfl⟩:=r;refine IA hz λh' hi up=>NK hi ⟨_,[s1.heap.objs.size],_,b0u z,H1,U,I1.kept (t':=s1.toks+1+1) up,Tr z t hz _,(by show IE _ _ _ _ _;simpa using hi),λb hb=>?_,q⟩;have e:b=s1.heap.objs.size:=by simpa using hb
  subst e;exact I1.fpOk (ae _) (I1.hok.fresh (ae _))
section
variable{prog:Program}{w:World}{A:Around}{E:Value->Shared->Prop}{s:Shared}
end
end L2
namespace L2
open PySem PySem.W PyProof.Rows PySem.AutoSeq1
section
variable{X:Cx}
end
end L2
namespace L2
open PySem PySem.Spec PyProof.Rows
def iSeq(K:aa)(tl:TE):TI:=λσ H R=>tl σ H λx H1=>∃a,x=.ref a/\(((∃xs,o7 K H1 a xs)/\R (VX K a) H1)\/((∃xs,l9 K H1 a xs)/\R (VW K a) H1))
def ZC{X:Cx}{tg l:Expr}{tl:TE}(hl:PE X l tl):PI X tg l (iSeq X.K tl):=by
 intro aS s σ H R I h;refine I9 (hl aS s σ H _ I h) λv s1 ⟨x,H1,I1,r1,q1⟩=>?_;obtain⟨a,e,q1⟩:=q1;subst e;cases r1;rcases q1 with ⟨⟨xs,hq⟩,q⟩ | ⟨⟨xs,hq⟩,q⟩
 . obtain⟨its,rv,p,hz⟩:=I1.list hq;refine wpAny_pyIter_list p.isList ?_;refine⟨s1.heap.objs.size,[s1.heap.objs.size],za ⟨H1,U,I1.kept (t':=s1.toks) λb o e=>ak _ e,JN a _,⟨_,ay _ U,U,U⟩,λb hb=>?_,q⟩⟩;have e:b=s1.heap.objs.size:=by simpa using hb
   subst e;exact I1.fpOk (ae _) (I1.hok.fresh (ae _))
 . obtain⟨its,rv,p,hz⟩:=I1.tuple hq;refine wpAny_pyIter_tuple (show s1.heap.IsTuple a its.toArray from p) ?_;refine⟨s1.heap.objs.size,[s1.heap.objs.size],za ⟨H1,U,I1.kept (t':=s1.toks) λb o e=>ak _ e,Hq a _,⟨_,ay _ U,U,U⟩,λb hb=>?_,q⟩⟩;have e:b=s1.heap.objs.size:=by simpa using hb
   subst e;exact I1.fpOk (ae _) (I1.hok.fresh (ae _))
end L2
set_option maxHeartbeats 0
def PySem.W.Fast.tw10492374260977217762:PySem.Program:=PySem.Challenge.pw_weighwalk_k53_turned_into_one_another
local macro_rules | `(tactic| trivial)=>`(tactic| ((try rw[Fast.te15667345088766844465]);(try rw[Fast.te14082659384304107361]);(try rw[Fast.te14374325043358763698]);(try rw[Fast.te10110043849684766642]);(try rw[Fast.te14364793385576792824]);(try rw[Fast.te11892475500146522536]);(try rw[Fast.te4187177175401517315]);(try rw[Fast.te5923862056798008813]);(try rw[Fast.te8920871248978507458]);kernel_rfl))
def PySem.W.Fast.te10492374260977217762:PySem.Challenge.pw_weighwalk_k53_turned_into_one_another=PySem.W.Fast.tw10492374260977217762:=rfl
namespace H53
open PySem PySem.W
noncomputable section
abbrev q0:=SL.s658472552662922059x5
abbrev q1:=SL.s14018661285674007319x4
abbrev q2:=SL.s6070975301684473832x10
abbrev q3:=SL.s11030030927630378310x26
abbrev q4:=SL.s10062305145149207511x16
abbrev q5:=SL.s17162191345867700912x4
abbrev q6:=SL.s5946037652744460706x9
abbrev q7:=SL.s4278001404047624695x13
abbrev q8:=SL.s2742458400755230247x6
abbrev q9:=SL.s4209523147560561109x18
abbrev q10:=SL.s14755015743595814543x17
abbrev q11:=SL.s4290257624100764138x5
abbrev Oo:=SL.s4860613602091757760x24
abbrev q13:=SL.s11443829558043349243x14
def i(n:Int):Value:=.int n 0
def r(n:Addr):Value:=.ref n
def tu(a:Array Value)(n:Nat):Obj:=⟨.type SL.s2766695959194262286x5,none,.seq a n,#[]⟩
def co(a:Array Value):Obj:=⟨.type SL.s5856160107412720595x4,none,.fields a,#[]⟩
def fo(n q:Str)(s:Stmt)(m c:Value):Obj:=⟨.type SL.s7174869446012820540x8,none,.func ⟨n,q,L2.F1 s,.stmts (L2.C7 s),L2.a8 s,3,[],.none,.none,.none,m,none,c,.none,0⟩,#[]⟩
def f0(n q:Str)(s:Stmt):Obj:=⟨.none,none,.func ⟨n,q,L2.F1 s,.stmts (L2.C7 s),L2.a8 s,0,[],.none,.none,.none,.none,none,.none,.none,0⟩,#[]⟩
abbrev nd:=@BT.node
abbrev nl:=BT.nil
abbrev lf(x:Obj):BT:=.node x .nil .nil
abbrev kh:=@PySem.PyData.keyHash
abbrev pW:=PySem.Challenge.pw_weighwalk_k53_turned_into_one_another
def h8(i:Nat):Stmt:=pW.main.body.getD i (.Pass ⟨0,0,0,0⟩)
def dN:Nat->Nat->List Nat
 | 0,_=>[]
 | f+1,n=>match n.beq 0 with
  | true=>[]
  | false=>n % 128::dN f (n / 128)
def sn(n:Nat):Str:=⟨⟨dN 99 n⟩⟩
def s0:=sn 35350842279982780
def s1:=sn 2357460733860917196365705647
def s2:=sn 53901867955744735
def s3:=sn 53901559791857631
def s4:=sn 223009580545469305257298795009060385975375874064712045206219431384085384315378492895468
def s5:=sn 421105403244511
def s6:=sn 113039760542812094607327
def s7:=sn 883130438894441148383
def s8:=sn 53901488956436447
def s9:=sn 30344151541145318921183520387039
def Wb:=sn 14469218985635115783729119
def SY:=sn 53901559540068319
def IH:=sn 883122557733039566815
def Le:=sn 29219126239
def WM:=sn 1059527485210603713239
def Yb:=sn 3465723181006
def s16:=sn 7268148298414553431
def s17:=sn 65763158886053838
def s18:=sn 3499278153557
def s19:=sn 4018155108302
def s20:=sn 509789213652974
def s21:=sn 8637845807904290036
def s22:=sn 8413708677377898467
def JV:=sn 948836330527398770659
def Me:=sn 1914852
def YY:=sn 4184036210674
def s26:=sn 7988215201394064610
def s27:=sn 57336327856192738
def s28:=sn 31100499954
def s29:=sn 601770825760040032270655173063963374
def s30:=sn 3497399218914
def s31:=sn 938825954143424559856
def s32:=sn 56743145087218925
def s33:=sn 930176747112159081198
def YX:=sn 456806758904556
def XZ:=sn 67483170374514288
def s36:=sn 443305791420003
def s37:=sn 236548843
def s38:=sn 8354106484738241259
def s39:=sn 57912370749060343
def s40:=sn 487628251738597
def s41:=sn 1067958212234468489574
def s42:=sn 67036844960590972611422421793785066743
def YW:=sn 929384109007898769766
def s44:=sn 8343920028383967841
def On:=sn 56743316885909742
def s46:=sn 492194607364067
def s47:=sn 1078180824080776378356
def b0x:=sn 31081394920
def s49:=sn 243069676
def s50:=sn 456806792737008
def s51:=sn 528795963481232634269054977774975335
def s52:=sn 57336327837528311
def s53:=sn 27338110561
def s54:=sn 456806780156660
def s55:=sn 57336776418130409
def s56:=sn 505222325449956
def b0w:=sn 62416317159340390
def Wa:=sn 57340970975885801
def s59:=sn 367430873507014
def s60:=sn 529798632943928514736
def s61:=sn 12624828682026729331812301
def s62:=sn 172336251032527473007704238407
def s63:=sn 1021914557058473523689
def s64:=sn 939405744834617045746
def s65:=sn 8426683116950221550
def YV:=sn 211530955
def s67:=sn 27071706310
def s68:=sn 8349039631521052998
def b0v:=sn 65187494496105170
def s70:=sn 8426682910831572575
def s71:=sn 939974376926731597407
def s72:=sn 17359306920133061789644383
def s73:=sn 67482964224144991
def s74:=sn 8352967321978435167
def s75:=sn 1068027428587418711647
def s76:=sn 1069180912801460811359
def s77:=sn 452440427624031
def RY:=sn 8423349363374847583
def s79:=sn 7268149395797341791
def s80:=sn 137915340185300882716255
def s81:=sn 15393529555129685134308959
def s82:=sn 929681940731938764383
def s83:=sn 15231853642127473347425887
def s84:=sn 7342485246647498335
def s85:=sn 15231881530645660210591327
def s86:=sn 65793839485974111
def s87:=sn 8127822628061214303
def s88:=sn 7984784961380578911
def s89:=sn 15399515318161908050720351
def s90:=sn 7772517610208917087
def s91:=sn 1067958212234506171999
def s92:=sn 929384109007936452191
def s93:=sn 119081358037559998445151
def s94:=sn 38620670303267514011383101945439
def s95:=sn 17513836086728843905758815
def s96:=sn 535556634736223
def s97:=sn 120234281834201912735327
def s98:=sn 1068678814460085302879
def s99:=sn 1077463595637947266655
def Zk:=sn 1962220
def s101:=sn 107
def AK:=sn 883123151916293124063
def BM:=sn 4701359296062669796661670190936823
def Je:=sn 14469089781839015725264863
def AJ:=sn 30344074158132277796980072755167
def AI:=sn 133454983862861831018029446609853876543483871
def WR:=sn 113039831549272488013791
def s108:=sn 4697231691935424025109761959293687
def GJ:=sn 211530987
def Sd:=sn 1964018
def s111:=sn 3809077835747
def s112:=sn 29196367860
def HB:=sn 120
def Ui:=sn 121
def WQ:=sn 448010674303213
def s116:=sn 76959527405706993652690204727243862775
def Jd:=sn 1668975
def Zj:=sn 30815173231
def s119:=sn 69030685704087611582940400770510123767
def s120:=sn 36719194879237978350877717197559
def Zh:=sn 28162209015
def WO:=sn 27321202288
def WN:=sn 245117675
def Zg:=sn 245166834
def Zf:=sn 243136498
def Jc:=sn 211498996
def s127:=sn 31381566694
def s128:=sn 29779294567
def e0n:=sn 245166316
def s130:=sn 28160129382
def s131:=sn 240808176
def s132:=sn 37048485259150746188863889896183
def s133:=sn 32275144254994814856296232809207
def s134:=sn 220018658
def Ze:=sn 27881272436
def s136:=sn 4700393738964033752103621815333623
def s137:=sn 65811471622830439
def e0m:=sn 244953836
def e0l:=sn 1849332
def e0k:=sn 3775253002210
def s141:=sn 3463326495859
def e0j:=sn 3944329476846
def s143:=sn 3947051413734
def s144:=sn 36694686467767925459708255302391
def WL:=sn 245248756
def e0i:=sn 53902072520191967
def WK:=sn 56773483100109289
def WJ:=sn 31096108272
def Z3:=sn 215692019
def e0h:=sn 249692419271657566055171716294
def e0g:=sn 136762130496189453923526
def MW:=sn 4013864876014
def MV:=sn 243103344
def MU:=sn 31083689204
def MT:=sn 31117260013
def MS:=sn 448184882935657
def MR:=sn 8417684337481742825
def MQ:=sn 29779293299
def MP:=sn 211317490
def e0f:=sn 249693942900369443720068102470
def e0e:=sn 4738735239314492059302342734412102
def e0d:=sn 1970378332810994856972810566
def e0c:=sn 287005771327406520212613790022
def e0b:=sn 36697143015659284620394997774662
def e0a:=sn 36736776431465389278236685924678
def d0z:=sn 529123317326050987060295870736529734
def d0y:=sn 9937847594675139374987317671213250672966
def d0x:=sn 35157184140118180154008019695942
def s169:=sn 3978691179760
def d0w:=sn 249479658437659509264028825926
def WI:=sn 53902074141372383
def Zd:=sn 27342305648
def d0v:=sn 497158883364006940381786093148500690
def d0u:=sn 1950733928909096901437878994
def d0t:=sn 37021369057144469173921927459538
def d0s:=sn 15393580725046519694947026
def d0r:=sn 2242232588495324061535892178
def d0q:=sn 286696429809838121719210767058
def d0p:=sn 287006065870823314358598955730
def s180:=sn 513606627883376
def s181:=sn 3501140572403
def d0o:=sn 4133775916609773336369183864976082
def d0n:=sn 77639434333399526367088379928728367826
def d0m:=sn 274665501094673243075562500818
def d0l:=sn 1949059831544175538500072146
def Uh:=sn 32292397437976189666475158042207
def WH:=sn 8781323754941216351
def d0k:=sn 930329895887808525919
def d0j:=sn 137989276334399845594719
def s190:=sn 7263065528908412511
def s191:=sn 7843466381129971295
def Ug:=sn 57345570095265375
def Ue:=sn 1058801290007509759583
def s194:=sn 63542589428102751
def s195:=sn 129716705428967878325855
def d0i:=sn 15398215025977782705878623
def FW:=sn 252284354985268781312971929183
def RZ:=sn 4148921136735
def Zc:=sn 4183280875103
def d0h:=sn 135526128861644626359903
def s201:=sn 939474468468921235039
def YZ:=sn 529078639623794880859091104005912159
def d0g:=sn 8423912107169838687
def s204:=sn 3702244537951
def s205:=sn 3633525061215
def s206:=sn 3667884799583
def d0f:=sn 67483170382575199
def s208:=sn 130878917859640350373471
def s209:=sn 1003179560991236585055
def s210:=sn 1058807961740987889247
def d0e:=sn 7270427996206954079
def s212:=sn 135527429768549519357535
def d0d:=sn 252284354984113581345394423391
def s214:=sn 57375978463721055
def s215:=sn 529078639625915187390690262777362015
def x0:Obj:=⟨.none,none,.fields #[],#[]⟩
def e0:Obj:=tu #[] 0
def dI(P:Params)(l:List (Str × Nat × Value))(n:Nat):Obj:=⟨.type q1,none,.dict ⟨l.map λx=>⟨kh P x.1,.str x.1 x.2.1,x.2.2⟩⟩ n,#[]⟩
def tV:List Nat->List Value
 | a::b::c::l=>i a::i b::r c::tV l
 | _=>[]
def tB(l:List Nat):Obj:=⟨.none,none,.fields ⟨tV l⟩,#[]⟩
def cC(n:Str)(t l a:Nat):Obj:=co #[.str n t,.str n (t+1),.str s1 (t+2),i l,i 0,i 0,i 0,i 0,r a,.bool false,i 181,r (a+1),.none,.none,.none,.none,i (t+3),i l,.str s1 (t+4)]
def pL(a b:Nat)(s:Value):Obj:=⟨.type q0,none,.plain,#[some (r a),some (r 3),some (r b),none,some s,none,some (r 0)]⟩
def cL(n:Str)(b m:List Value)(d:Nat)(s:List Value)(a t u:Nat)(z:String):Obj:=⟨.type q5,none,.cls ⟨n,b,m,d,n,true,[],s,false,none,false⟩,#[some (r a),none,some (.str n t),some (.str n u),some (.builtin z),some (.bool true)]⟩
def x3(a:Nat):Obj:=⟨.type q11,none,.fields #[r a,r a,r a],#[]⟩
def x2(a:Nat):Obj:=⟨.type q3,none,.fields #[.builtin Oo,r a],#[]⟩
def x1:Obj:=⟨.type q3,none,.fields #[.builtin q4,.type q5],#[]⟩
def m0:Value:=.str s2 164
def m1:Value:=.str s108 294
def m2:Value:=.str s116 350
def m3:Value:=.str s119 359
def m4:Value:=.str s120 387
def m5:Value:=.str s132 465
def m6:Value:=.str s133 529
def m7:Value:=.str s136 570
def m8:Value:=.str s144 607
def m9:Value:=.str s4 892
def vr:List Str->Nat->List Value
 | [],_=>[]
 | x::l,t=>.str x t::vr l (t+1)
def cO(n q:Str)(t l k a v:Nat):Obj:=co #[.str n t,.str q (t+1),.str s1 (t+2),i l,i k,i 0,i 0,i 3,r a,.bool true,i 181,r (a+1),.none,r (a+2),r (a+3),r (a+4),i (t+3+v),i l,.str s1 (t+4+v)]
def cN(n:Str)(t l k a v:Nat):Obj:=cO n n t l k a v
def fN(n:Str)(j:Nat)(m:Value)(c:Nat):Obj:=fo n n (h8 j) m (r c)
def f1:Obj->Obj
 | ⟨_,_,.func ⟨n,q,a,b,s,_,_,_,_,_,_,_,_,_,_⟩,_⟩=>⟨.none,none,.func ⟨n,q,a,b,s,0,[],.none,.none,.none,.none,none,.none,.none,0⟩,#[]⟩
 | o=>o
def D(t:Nat)(vs:List Str)(c f:Obj)(l:List Obj):List Obj:=e0::x0::tu ⟨vr vs t⟩ 0::e0::f1 f::c::f::l
def oL:List Obj->Nat->BT->BT
 | [],_,t=>t
 | o::l,n,t=>oL l (n+1) (t.ins n o)
def eO(n q:Str)(t l k a:Nat):Obj:=co #[.str n t,.str q (t+1),.str s1 (t+2),i l,i k,i 0,i 0,i 3,r a,.bool true,i 181,r (a+1),.none,.none,.none,r (a+2),i (t+3),i l,.str s1 (t+4)]
def eN(n:Str)(t l k a:Nat):Obj:=eO n n t l k a
def E(c f:Obj)(l:List Obj):List Obj:=e0::x0::f1 f::c::f::l
def ZJ:Obj:=e0
def m0c:Obj:=x0
def ZI:Obj:=cC s0 182 1 11
def ZH:Obj:=pL 13 3 m0
def o3(P:Params):Obj:=dI P [(s3,165,m9),(s5,166,.none),(s6,167,.none),(s7,168,.builtin SL.s7097527257260152453x26),(s8,169,.none),(s9,170,r 6),(Wb,171,r 4),(SY,173,.str s1 172),(IH,174,.none),(Le,193,r 21),(WM,213,r 31),(Yb,229,r 44),(s16,245,r 56),(s17,261,r 68),(s18,277,r 80),(s19,293,r 92),(s20,301,r 99),(s21,307,r 104),(s22,313,r 109),(JV,319,r 114),(Me,331,r 121),(YY,337,r 126),(s26,343,r 131),(s27,349,r 136),(s28,358,r 143),(s29,368,r 150),(s30,374,r 155),(s31,380,r 160),(s32,386,r 165),(s33,395,r 172),(YX,405,r 179),(XZ,411,r 184),(s36,423,r 191),(s37,435,r 198),(s38,446,r 205),(s39,453,r 212),(s40,464,r 219),(s41,480,r 226),(s42,486,r 231),(YW,496,r 238),(s44,502,r 243),(On,508,r 248),(s46,514,r 253),(s47,522,r 260),(b0x,528,r 265),(s49,536,r 270),(s50,542,r 275),(s51,551,r 282),(s52,557,r 287),(s53,563,r 292),(s54,569,r 297),(s55,578,r 304),(s56,589,r 311),(b0w,598,r 318),(Wa,606,r 325),(s59,610,.str s60 609),(s61,612,.int 30 611),(s62,614,.int 1000000 613),(s63,620,r 330),(s64,627,r 337),(s65,634,r 344),(YV,654,r 354),(s67,684,r 382),(s68,782,r 464),(b0v,891,r 553),(s70,902,r 562),(s71,911,r 569),(s72,919,r 576),(s73,928,r 583),(s74,937,r 590),(s75,946,r 597),(s76,954,r 604),(s77,962,r 611),(RY,970,r 618),(s79,977,r 625),(s80,985,r 632),(s81,991,r 637),(s82,997,r 642),(s83,1003,r 647),(s84,1009,r 652),(s85,1023,r 659),(s86,1035,r 666),(s87,1041,r 671),(s88,1048,r 678),(s89,1061,r 685),(s90,1067,r 690),(s91,1073,r 695),(s92,1084,r 702),(s93,1090,r 707),(s94,1096,r 712),(s95,1102,r 717),(s96,1108,r 722),(s97,1119,r 729),(s98,1125,r 734),(s99,1137,r 741),(Zk,1153,r 748)] 96
def o20:=cN Le 187 1 1 15 1
def o21:=fN Le 0 m0 20
def o30(P:Params):Obj:=dI P [(AK,203,.str BM 194),(AJ,207,.int 5 206),(AI,208,r 29),(WR,210,r 32),(s5,211,.none)] 3
def o31:Obj:=cL WM [.type q2] [r 31,.type q2,.type q6,.type q7,.type q8] 30 [r 44,r 56,r 68,r 80,r 92] 22 196 204 q9
def o43(P:Params):Obj:=dI P [(AK,221,.str BM 194),(AJ,225,.int 7 224),(AI,226,r 42),(s5,227,.none)] 2
def o44:Obj:=cL Yb [r 31] [r 44,r 31,.type q2,.type q6,.type q7,.type q8] 43 [] 35 214 222 q9
def o55(P:Params):Obj:=dI P [(AK,237,.str BM 194),(AJ,241,.int 9 240),(AI,242,r 54),(s5,243,.none)] 2
def o56:Obj:=cL s16 [r 31] [r 56,r 31,.type q2,.type q6,.type q7,.type q8] 55 [] 47 230 238 q9
def o67(P:Params):Obj:=dI P [(AK,253,.str BM 194),(AJ,257,.int 11 256),(AI,258,r 66),(s5,259,.none)] 2
def o68:Obj:=cL s17 [r 31] [r 68,r 31,.type q2,.type q6,.type q7,.type q8] 67 [] 59 246 254 q9
def o79(P:Params):Obj:=dI P [(AK,269,.str BM 194),(AJ,273,.int 13 272),(AI,274,r 78),(s5,275,.none)] 2
def o80:Obj:=cL s18 [r 31] [r 80,r 31,.type q2,.type q6,.type q7,.type q8] 79 [] 71 262 270 q9
def o91(P:Params):Obj:=dI P [(AK,285,.str BM 194),(AJ,289,.int 15 288),(AI,290,r 90),(s5,291,.none)] 2
def o92:Obj:=cL s19 [r 31] [r 92,r 31,.type q2,.type q6,.type q7,.type q8] 91 [] 83 278 286 q9
def o98:=eN s20 296 18 2 95
def o99:=fN s20 9 m1 98
def m0m:=eN s21 302 20 3 100
def m0l:=fN s21 10 m1 103
def m0k:=eN s22 308 22 2 105
def m0j:=fN s22 11 m1 108
def m0i:=eN JV 314 24 1 110
def m0h:=fN JV 12 m1 113
def m0g:=cN Me 320 28 3 115 6
def m0f:=fN Me 13 m1 120
def m0e:=eN YY 332 33 3 122
def m0d:=fN YY 14 m1 125
def m0b:=eN s26 338 35 3 127
def m0a:=fN s26 15 m1 130
def l0z:=eN s27 344 37 3 132
def l0y:=fN s27 16 m1 135
def l0x:=cN s28 352 40 1 137 1
def l0w:=fN s28 18 m2 142
def l0v:=cN s29 361 43 2 144 2
def l0u:=fN s29 20 m3 149
def l0t:=eN s30 369 46 4 151
def l0s:=fN s30 21 m3 154
def l0r:=eN s31 375 50 3 156
def l0q:=fN s31 22 m3 159
def l0p:=eN s32 381 54 1 161
def l0o:=fN s32 23 m3 164
def l0n:=cN s33 389 58 1 166 1
def l0m:=fN s33 25 m4 171
def l0l:=cN YX 396 61 3 173 4
def l0k:=fN YX 26 m4 178
def l0j:=eN XZ 406 66 3 180
def l0i:=fN XZ 27 m4 183
def l0h:=cN s36 412 68 3 185 6
def l0g:=fN s36 28 m4 190
def l0f:=cN s37 424 74 4 192 6
def l0e:=fN s37 29 m4 197
def l0d:=cN s38 436 83 3 199 5
def l0c:=fN s38 30 m4 204
def l0b:=cN s39 447 88 1 206 1
def l0a:=fN s39 31 m4 211
def k0z:=cN s40 454 90 2 213 5
def k0y:=fN s40 32 m4 218
def k0x:=cN s41 467 96 3 220 8
def k0w:=fN s41 34 m5 225
def k0v:=eN s42 481 108 3 227
def k0u:=fN s42 35 m5 230
def k0t:Obj:=co #[.str YW 487,.str YW 488,.str s1 489,i 113,i 2,i 0,i 0,i 3,r 232,.bool true,i 181,r 233,.none,r 234,r 235,r 236,i 494,i 113,.str s1 495]
def k0s:Obj:=fo YW YW (h8 36) m5 (r 237)
def k0r:=eN s44 497 115 2 239
def k0q:=fN s44 37 m5 242
def k0p:=eN On 503 117 3 244
def k0o:=fN On 38 m5 247
def k0n:=eN s46 509 124 2 249
def k0m:=fN s46 39 m5 252
def k0l:=cN s47 515 127 2 254 2
def k0k:=fN s47 40 m5 259
def k0j:=eN b0x 523 129 2 261
def k0i:=fN b0x 41 m5 264
def k0h:=eN s49 531 133 3 266
def k0g:=fN s49 43 m6 269
def k0f:=eN s50 537 136 3 271
def k0e:=fN s50 44 m6 274
def k0d:=cN s51 543 138 3 276 3
def k0c:=fN s51 45 m6 281
def k0b:=eN s52 552 142 3 283
def k0a:=fN s52 46 m6 286
def j0z:=eN s53 558 147 3 288
def j0y:=fN s53 47 m6 291
def j0x:=eN s54 564 156 3 293
def j0w:=fN s54 48 m6 296
def j0v:=cN s55 572 163 1 298 1
def j0u:=fN s55 50 m7 303
def j0t:=cN s56 579 165 2 305 5
def j0s:=fN s56 51 m7 310
def j0r:=cN b0w 590 173 2 312 3
def j0q:=fN b0w 52 m7 317
def j0p:=cN Wa 599 182 1 319 2
def j0o:=fN Wa 53 m7 324
def j0n:=eN s63 615 195 1 326
def j0m:=fN s63 58 m8 329
def j0l:=cN s64 621 204 1 331 1
def j0k:=fN s64 59 m8 336
def j0j:=cN s65 628 208 1 338 1
def j0i:=fN s65 60 m8 343
def j0h(P:Params):Obj:=dI P [(AK,642,m8),(AJ,646,.int 211 645),(AI,647,r 352),(e0i,649,r 355),(WR,651,r 356),(s5,652,.none)] 4
def j0g:Obj:=⟨.type q5,none,.cls ⟨YV,[.type q8],[r 354,.type q8],353,YV,true,[],[r 382],false,none,false⟩,#[none,none,some (.str YV 635),some (.str YV 643),some (.builtin q13),some (.bool true)]⟩
def j0f:=cO WK e0h 667 215 1 366 1
def j0e:=fo WK e0h (L2.w6 (h8 62) 0) m8 (r 371)
def j0d:=cO WJ e0g 674 218 1 373 1
def j0c:=fo WJ e0g (L2.w6 (h8 62) 1) m8 (r 378)
def j0b(P:Params):Obj:=dI P [(AK,662,m8),(AJ,666,.int 213 665),(WK,673,r 372),(WJ,680,r 379),(AI,681,r 380),(s5,682,.none)] 2
def j0a:Obj:=cL s67 [r 354] [r 382,r 354,.type q8] 381 [r 464,r 553] 359 655 663 q13
def i0z:=cO Jc e0f 697 222 1 392 1
def i0y:=fo Jc e0f (L2.w6 (h8 63) 0) m8 (r 397)
def i0x:=cO MW e0e 704 225 1 399 1
def i0w:=fo MW e0e (L2.w6 (h8 63) 1) m8 (r 404)
def i0v:=cO Jd e0d 711 228 1 406 1
def i0u:=fo Jd e0d (L2.w6 (h8 63) 2) m8 (r 411)
def i0t:=cO MV e0c 718 231 3 413 3
def i0s:=fo MV e0c (L2.w6 (h8 63) 3) m8 (r 418)
def i0r:=cO MU e0b 727 234 3 420 3
def i0q:=fo MU e0b (L2.w6 (h8 63) 4) m8 (r 425)
def i0p:=cO MT e0a 736 237 2 427 2
def i0o:=fo MT e0a (L2.w6 (h8 63) 5) m8 (r 432)
def i0n:=cO MS d0z 744 240 2 434 2
def i0m:=fo MS d0z (L2.w6 (h8 63) 6) m8 (r 439)
def i0l:=cO MR d0y 752 243 2 441 2
def i0k:=fo MR d0y (L2.w6 (h8 63) 7) m8 (r 446)
def i0j:=cO MQ d0x 760 250 2 448 2
def i0i:=fo MQ d0x (L2.w6 (h8 63) 8) m8 (r 453)
def i0h:=cO MP d0w 768 253 2 455 5
def i0g:=fo MP d0w (L2.w6 (h8 63) 9) m8 (r 460)
def i0f(P:Params):Obj:=dI P [(AK,692,m8),(AJ,696,.int 220 695),(Jc,703,r 398),(MW,710,r 405),(Jd,717,r 412),(MV,726,r 419),(MU,735,r 426),(MT,743,r 433),(MS,751,r 440),(MR,759,r 447),(MQ,767,r 454),(MP,778,r 461),(AI,779,r 462),(s5,780,.none)] 2
def i0e:Obj:=cL s68 [r 382] [r 464,r 382,r 354,.type q8] 463 [] 385 685 693 q13
def i0d:=cO WI d0v 795 265 2 474 2
def i0c:=fo WI d0v (L2.w6 (h8 64) 0) m8 (r 479)
def i0b:=cO Jc d0u 803 270 1 481 2
def i0a:=fo Jc d0u (L2.w6 (h8 64) 1) m8 (r 486)
def h0z:=cO MW d0t 811 274 1 488 1
def h0y:=fo MW d0t (L2.w6 (h8 64) 2) m8 (r 493)
def h0x:=cO Jd d0s 818 277 1 495 1
def h0w:=fo Jd d0s (L2.w6 (h8 64) 3) m8 (r 500)
def h0v:=cO MV d0r 825 280 3 502 3
def h0u:=fo MV d0r (L2.w6 (h8 64) 4) m8 (r 507)
def h0t:=cO MU d0q 834 283 3 509 3
def h0s:=fo MU d0q (L2.w6 (h8 64) 5) m8 (r 514)
def h0r:=cO MT d0p 843 286 2 516 2
def h0q:=fo MT d0p (L2.w6 (h8 64) 6) m8 (r 521)
def h0p:=cO MS d0o 851 289 2 523 5
def h0o:=fo MS d0o (L2.w6 (h8 64) 7) m8 (r 528)
def h0n:=cO MR d0n 862 302 2 530 2
def h0m:=fo MR d0n (L2.w6 (h8 64) 8) m8 (r 535)
def h0l:=cO MQ d0m 870 305 2 537 2
def h0k:=fo MQ d0m (L2.w6 (h8 64) 9) m8 (r 542)
def h0j:=cO MP d0l 878 308 2 544 3
def h0i:=fo MP d0l (L2.w6 (h8 64) 10) m8 (r 549)
def h0h(P:Params):Obj:=dI P [(AK,790,m8),(AJ,794,.int 263 793),(WI,802,r 480),(Jc,810,r 487),(MW,817,r 494),(Jd,824,r 501),(MV,833,r 508),(MU,842,r 515),(MT,850,r 522),(MS,861,r 529),(MR,869,r 536),(MQ,877,r 543),(MP,886,r 550),(AI,888,r 551),(s5,889,.none)] 2
def h0g:Obj:=cL b0v [r 382] [r 553,r 382,r 354,.type q8] 552 [] 467 783 791 q13
def h0f:=cN s70 894 314 2 556 3
def h0e:=fN s70 66 m9 561
def h0d:=cN s71 903 323 1 563 3
def h0c:=fN s71 67 m9 568
def h0b:=cN s72 912 330 2 570 2
def h0a:=fN s72 68 m9 575
def g0z:=cN s73 920 334 2 577 3
def g0y:=fN s73 69 m9 582
def g0x:=cN s74 929 337 3 584 3
def g0w:=fN s74 70 m9 589
def g0v:=cN s75 938 341 3 591 3
def g0u:=fN s75 71 m9 596
def g0t:=cN s76 947 345 2 598 2
def g0s:=fN s76 72 m9 603
def g0r:=cN s77 955 349 2 605 2
def g0q:=fN s77 73 m9 610
def g0p:=cN RY 963 353 1 612 2
def g0o:=fN RY 74 m9 617
def g0n:=cN s79 971 356 1 619 1
def g0m:=fN s79 75 m9 624
def g0l:=cN s80 978 360 2 626 2
def g0k:=fN s80 76 m9 631
def g0j:=eN s81 986 366 4 633
def g0i:=fN s81 77 m9 636
def g0h:=eN s82 992 375 5 638
def g0g:=fN s82 78 m9 641
def g0f:=eN s83 998 391 3 643
def g0e:=fN s83 79 m9 646
def g0d:=eN s84 1004 400 4 648
def g0c:=fN s84 80 m9 651
def g0b:=cN s85 1010 417 4 653 8
def g0a:=fN s85 81 m9 658
def f0z:=cN s86 1024 430 3 660 6
def f0y:=fN s86 82 m9 665
def f0x:=eN s87 1036 435 3 667
def f0w:=fN s87 83 m9 670
def f0v:=cN s88 1042 437 1 672 1
def f0u:=fN s88 84 m9 677
def f0t:=cN s89 1049 441 2 679 7
def f0s:=fN s89 85 m9 684
def f0r:=eN s90 1062 453 2 686
def f0q:=fN s90 86 m9 689
def f0p:=eN s91 1068 466 2 691
def f0o:=fN s91 87 m9 694
def f0n:=cN s92 1074 476 3 696 5
def f0m:=fN s92 88 m9 701
def f0l:=eN s93 1085 481 3 703
def f0k:=fN s93 89 m9 706
def f0j:=eN s94 1091 487 2 708
def f0i:=fN s94 90 m9 711
def f0h:=eN s95 1097 495 1 713
def f0g:=fN s95 91 m9 716
def f0f:=eN s96 1103 500 3 718
def f0e:=fN s96 92 m9 721
def f0d:=cN s97 1109 502 3 723 5
def f0c:=fN s97 93 m9 728
def f0b:=eN s98 1120 508 5 730
def f0a:=fN s98 94 m9 733
def e0z:=cN s99 1126 523 4 735 6
def e0y:=fN s99 95 m9 740
def e0x:=cN Zk 1138 533 1 742 10
def e0w:=fN Zk 96 m9 747
def b0h:Env:={ scope:=pW.main.scope,locals:=mainNs,globals:=mainNs,cells:=[],code:=(r 13),frame:=some 14 }
def cT:Code:=.body (behindTheImports pW) b0h
def qP:Pos:=⟨0,0,0,0⟩
def Ha(P:Params):Heap:=⟨⟨[boot_o_0 P,boot_o_1 P,boot_o_2 P,boot_o_3 P,boot_o_4 P,boot_o_5 P,boot_o_6 P,boot_o_7 P,boot_o_8 P,boot_o_9 P,boot_o_10 P,ZJ,m0c,ZI,ZH]⟩,PySem.Life.mk [] [] [] 0 [] [] false #[] [] 0 false false false 0 [2000,10,10] false 0 true [] [] 0 false⟩
def Sa(w:World)(os:OsState):Shared:=⟨Ha w.params,⟨[]⟩,PySem.Drawn.mk 0 0 0 0,187,os⟩
def Tb(P:Params):BT:=(nd (boot_o_0 P) (nd (boot_o_1 P) (nd (boot_o_3 P) (lf (boot_o_7 P)) (lf ZJ)) (nd (boot_o_5 P) (lf (boot_o_9 P)) (lf ZI))) (nd (boot_o_2 P) (nd (boot_o_4 P) (lf (boot_o_8 P)) (lf m0c)) (nd (boot_o_6 P) (lf (boot_o_10 P)) (lf ZH))))
def Sb(w:World)(os:OsState):SharedT:=⟨Tb w.params,15,PySem.Life.mk [] [] [] 0 [] [] false #[] [] 0 false false false 0 [2000,10,10] false 0 true [] [] 0 false,⟨[]⟩,PySem.Drawn.mk 0 0 0 0,187,os⟩
def oA(P:Params):List Obj:=boot_o_0 P::boot_o_1 P::boot_o_2 P::o3 P::boot_o_4 P::boot_o_5 P::boot_o_6 P::boot_o_7 P::boot_o_8 P::boot_o_9 P::boot_o_10 P::ZJ::tB [1,0,20,5,0,27,7,0,40,9,0,52,11,0,64,13,0,76,15,0,88,18,0,98,20,0,103,22,0,108,24,0,113,28,0,120,33,0,125,35,0,130,37,0,135,40,0,142,43,0,149,46,0,154,50,0,159,54,0,164,58,0,171,61,0,178,66,0,183,68,0,190,74,0,197,83,0,204,88,0,211,90,0,218,96,0,225,108,0,230,113,0,237,115,0,242,117,0,247,124,0,252,127,0,259,129,0,264,133,0,269,136,0,274,138,0,281,142,0,286,147,0,291,156,0,296,163,0,303,165,0,310,173,0,317,182,0,324,195,0,329,204,0,336,208,0,343,211,0,350,213,0,364,220,0,390,263,0,472,314,0,561,323,0,568,330,0,575,334,0,582,337,0,589,341,0,596,345,0,603,349,0,610,353,0,617,356,0,624,360,0,631,366,0,636,375,0,641,391,0,646,400,0,651,417,0,658,430,0,665,435,0,670,437,0,677,441,0,684,453,0,689,466,0,694,476,0,701,481,0,706,487,0,711,495,0,716,500,0,721,502,0,728,508,0,733,523,0,740,533,0,747]::ZI::ZH::D 190 [s101] o20 o21 (tu #[.type q2] 0::x1::dI P [(AK,203,.str BM 194),(Je,205,.str WM 204),(AJ,207,.int 5 206),(AI,208,r 29)] 4::e0::x0::cC WM 198 5 25::pL 27 24 (.str BM 194)::e0::o30 P::o31::⟨.type q10,none,.fields #[.str WR 209,r 31,.builtin SL.s10220274742760427390x26,.none],#[]⟩::x3 31::x2 31::tu #[r 31] 0::x1::dI P [(AK,221,.str BM 194),(Je,223,.str Yb 222),(AJ,225,.int 7 224),(AI,226,r 42)] 4::e0::x0::cC Yb 216 7 38::pL 40 37 (.str BM 194)::e0::o43 P::o44::x3 44::x2 44::tu #[r 31] 0::x1::dI P [(AK,237,.str BM 194),(Je,239,.str s16 238),(AJ,241,.int 9 240),(AI,242,r 54)] 4::e0::x0::cC s16 232 9 50::pL 52 49 (.str BM 194)::e0::o55 P::o56::x3 56::x2 56::tu #[r 31] 0::x1::dI P [(AK,253,.str BM 194),(Je,255,.str s17 254),(AJ,257,.int 11 256),(AI,258,r 66)] 4::e0::x0::cC s17 248 11 62::pL 64 61 (.str BM 194)::e0::o67 P::o68::x3 68::x2 68::tu #[r 31] 0::x1::dI P [(AK,269,.str BM 194),(Je,271,.str s18 270),(AJ,273,.int 13 272),(AI,274,r 78)] 4::e0::x0::cC s18 264 13 74::pL 76 73 (.str BM 194)::e0::o79 P::o80::x3 80::x2 80::tu #[r 31] 0::x1::dI P [(AK,285,.str BM 194),(Je,287,.str s19 286),(AJ,289,.int 15 288),(AI,290,r 90)] 4::e0::x0::cC s19 280 15 86::pL 88 85 (.str BM 194)::e0::o91 P::o92::x3 92::x2 92::E o98 o99 (E m0m m0l (E m0k m0j (E m0i m0h (D 323 [GJ,Sd,s111,s112,HB,Ui] m0g m0f (E m0e m0d (E m0b m0a (E l0z l0y (D 355 [WQ] l0x l0w (D 364 [Jd,Zj] l0v l0u (E l0t l0s (E l0r l0q (E l0p l0o (D 392 [GJ] l0n l0m (D 399 [GJ,Sd,Zh,WO] l0l l0k (E l0j l0i (D 415 [GJ,WN,Sd,Zg,WO,Zj] l0h l0g (D 427 [GJ,WN,Sd,Zh,Zg,WO] l0f l0e (D 439 [GJ,Zf,Zh,WN,Sd] l0d l0c (D 450 [Zf] l0b l0a (D 457 [GJ,Zf,Jc,WO,Sd] k0z k0y (D 470 [GJ,s127,s128,WN,Jc,e0n,s130,s131] k0x k0w (E k0v k0u (e0::x0::tu #[.str GJ 490,.str WQ 491] 0::tu #[.str GJ 492,.str WQ 493] 0::f0 YW YW (h8 36)::k0t::k0s::E k0r k0q (E k0p k0o (E k0n k0m (D 518 [GJ,WQ] k0l k0k (E k0j k0i (E k0h k0g (E k0f k0e (D 546 [GJ,s134,e0n] k0d k0c (E k0b k0a (E j0z j0y (E j0x j0w (D 575 [Ze] j0v j0u (D 582 [Jd,Zj,s137,Zg,e0m] j0t j0s (D 593 [e0l,e0k,s141] j0r j0q (D 602 [e0j,s143] j0p j0o (E j0n j0m (D 624 [WL] j0l j0k (D 631 [WL] j0j j0i (e0::x1::dI P [(AK,642,m8),(Je,644,.str YV 643),(AJ,646,.int 211 645),(AI,647,r 352)] 4::e0::x0::cC YV 637 211 348::pL 350 347 m8::e0::j0h P::j0g::⟨.type q10,none,.fields #[.str e0i 648,r 354,.builtin SL.s6511155373996960695x17,.builtin SL.s12411053484034534018x21],#[]⟩::⟨.type q10,none,.fields #[.str WR 650,r 354,.builtin SL.s10220274742760427390x26,.none],#[]⟩::x3 354::x2 354::tu #[r 354] 0::x1::dI P [(AK,662,m8),(Je,664,.str s67 663),(AJ,666,.int 213 665),(WK,673,r 372),(WJ,680,r 379),(AI,681,r 380)] 6::e0::tB [215,4,371,218,4,378]::cC s67 657 213 362::pL 364 361 m8::D 670 [Z3] j0f j0e (D 677 [Z3] j0d j0c (e0::j0b P::j0a::x3 382::x2 382::tu #[r 382] 0::x1::dI P [(AK,692,m8),(Je,694,.str s68 693),(AJ,696,.int 220 695),(Jc,703,r 398),(MW,710,r 405),(Jd,717,r 412),(MV,726,r 419),(MU,735,r 426),(MT,743,r 433),(MS,751,r 440),(MR,759,r 447),(MQ,767,r 454),(MP,778,r 461),(AI,779,r 462)] 14::e0::tB [222,4,397,225,4,404,228,4,411,231,4,418,234,4,425,237,4,432,240,4,439,243,4,446,250,4,453,253,4,460]::cC s68 687 220 388::pL 390 387 m8::D 700 [Z3] i0z i0y (D 707 [Z3] i0x i0w (D 714 [Z3] i0v i0u (D 721 [Z3,HB,Ui] i0t i0s (D 730 [Z3,HB,Ui] i0r i0q (D 739 [Z3,HB] i0p i0o (D 747 [Z3,HB] i0n i0m (D 755 [Z3,Ze] i0l i0k (D 763 [Z3,HB] i0j i0i (D 771 [Z3,WL,s169,e0l,e0k] i0h i0g (e0::i0f P::i0e::x3 464::x2 464::tu #[r 382] 0::x1::dI P [(AK,790,m8),(Je,792,.str b0v 791),(AJ,794,.int 263 793),(WI,802,r 480),(Jc,810,r 487),(MW,817,r 494),(Jd,824,r 501),(MV,833,r 508),(MU,842,r 515),(MT,850,r 522),(MS,861,r 529),(MR,869,r 536),(MQ,877,r 543),(MP,886,r 550),(AI,888,r 551)] 15::e0::tB [265,4,479,270,4,486,274,4,493,277,4,500,280,4,507,283,4,514,286,4,521,289,4,528,302,4,535,305,4,542,308,4,549]::cC b0v 785 263 470::pL 472 469 m8::D 798 [Z3,Zd] i0d i0c (D 806 [Z3,Zd] i0b i0a (D 814 [Z3] h0z h0y (D 821 [Z3] h0x h0w (D 828 [Z3,HB,Ui] h0v h0u (D 837 [Z3,HB,Ui] h0t h0s (D 846 [Z3,HB] h0r h0q (D 854 [Z3,HB,s180,s181,e0m] h0p h0o (D 865 [Z3,Ze] h0n h0m (D 873 [Z3,HB] h0l h0k (D 881 [Z3,WL,e0j] h0j h0i (tu #[.str Zd 887] 0::h0h P::h0g::x3 553::x2 553::D 897 [Uh,WH,d0k] h0f h0e (D 906 [d0j,s190,s191] h0d h0c (D 915 [Ug,Ue] h0b h0a (D 923 [s194,s195,d0i] g0z g0y (D 932 [FW,RZ,Zc] g0x g0w (D 941 [FW,RZ,Zc] g0v g0u (D 950 [FW,RZ] g0t g0s (D 958 [FW,d0h] g0r g0q (D 966 [Uh,s201] g0p g0o (D 974 [FW] g0n g0m (D 981 [Uh,FW] g0l g0k (E g0j g0i (E g0h g0g (E g0f g0e (E g0d g0c (D 1013 [Uh,FW,YZ,d0g,s204,WH,s205,s206] g0b g0a (D 1027 [FW,d0f,s208,s209,RZ,Zc] f0z f0y (E f0x f0w (D 1045 [d0h] f0v f0u (D 1052 [FW,RZ,Ug,Ue,d0i,s210,WH] f0t f0s (E f0r f0q (E f0p f0o (D 1077 [FW,YZ,d0e,d0f,s212] f0n f0m (E f0l f0k (E f0j f0i (E f0h f0g (E f0f f0e (D 1112 [FW,Ug,Ue,d0e,RZ] f0d f0c (E f0b f0a (D 1129 [d0d,FW,Ug,Ue,d0k,s214] e0z e0y (D 1141 [d0j,Uh,FW,d0d,s215,WH,YZ,d0g,Ug,Ue] e0x e0w ([]))))))))))))))))))))))))))))))))))))))))))))))))))))))))))))))))))))))))))))))))))))))))))))))))
def T0(P:Params):BT:=oL (oA P) 0 .nil
def S0(w:World)(os:OsState):SharedT:=⟨T0 w.params,749,PySem.Life.mk [] [] [] 0 [] [] false #[] [] 0 false false false 0 [2000,10,10] false 0 true [] [] 0 false,⟨[]⟩,PySem.Drawn.mk 0 0 0 0,1154,os⟩
def Hf(P:Params):Heap:=⟨⟨oA P⟩,PySem.Life.mk [] [] [] 0 [] [] false #[] [] 0 false false false 0 [2000,10,10] false 0 true [] [] 0 false⟩
def Sf(w:World)(os:OsState):Shared:=⟨Hf w.params,⟨[]⟩,PySem.Drawn.mk 0 0 0 0,1154,os⟩
def pre_(w:World)(os:OsState):topGo treeTable pW w 11 ((some (r 6))) 12 ⟨boot_heap w.params,⟨[]⟩,boot_drawn,boot_toks,os⟩ (topStub pW)=some (Sa w os,⟨denote treeTable cT,cT,⟨0,0,0,0⟩,[topFrame qP]⟩):=by trivial
def b0o(w:World)(os:OsState):segRun treeTable pW w 11 ((some (r 6))) 1 1 (Sa w os) (blockOf (behindTheImports pW) b0h cT ⟨0,0,0,0⟩ [topFrame qP])=some (.next,(Sb w os).abs,cT,⟨0,0,0,0⟩):=by trivial
def c0x:List Stmt:=[h8 0,h8 1,h8 2,h8 3,h8 4,h8 5,h8 6,h8 7,h8 8,h8 9,h8 10,h8 11,h8 12,h8 13,h8 14,h8 15,h8 16,h8 17,h8 18,h8 19,h8 20,h8 21,h8 22,h8 23,h8 24,h8 25,h8 26,h8 27,h8 28,h8 29,h8 30,h8 31,h8 32,h8 33,h8 34,h8 35,h8 36,h8 37,h8 38,h8 39,h8 40,h8 41,h8 42,h8 43,h8 44,h8 45,h8 46,h8 47,h8 48,h8 49,h8 50,h8 51,h8 52,h8 53,h8 54,h8 55,h8 56,h8 57,h8 58,h8 59,h8 60,h8 61,h8 62,h8 63,h8 64,h8 65,h8 66,h8 67,h8 68,h8 69,h8 70,h8 71,h8 72,h8 73,h8 74,h8 75,h8 76,h8 77,h8 78,h8 79,h8 80,h8 81,h8 82,h8 83,h8 84,h8 85,h8 86,h8 87,h8 88,h8 89,h8 90,h8 91,h8 92,h8 93,h8 94,h8 95,h8 96]
def pc0(w:World)(os:OsState):segRunT treeTable pW w 11 ((some (r 6))) 1 5110 (Sb w os) (piecesOf c0x b0h cT ⟨0,0,0,0⟩ [topFrame qP])=some (.next,S0 w os,cT,⟨533,0,547,142⟩):=by trivial
def fin_(w:World)(os:OsState):topRun treeTable pW w 11 ((some (r 6))) 2 (S0 w os).abs ⟨doneF .next,cT,⟨533,0,547,142⟩,[topFrame qP]⟩=some (Sf w os):=by trivial
def XQ:behindTheImports pW=(c0x++[]):=by kernel_rfl
def run_(w:World)(os:OsState):topRun treeTable pW w 11 ((some (r 6))) (12+(1+(5110+2))) ⟨boot_heap w.params,⟨[]⟩,boot_drawn,boot_toks,os⟩ (topStub pW)=some (Sf w os):=by
 have h:=(piece_app (segRun_of (pc0 w os)) (piece_nil (fin_ w os)));rw[<- XQ]at h;exact go_top (pre_ w os) (piece_block (b0o w os) h)
def K(P:Params):Frag:=(nat_lit 2,boot_o_2 P)::(nat_lit 3,o3 P)::(nat_lit 20,o20)::(nat_lit 21,o21)::(nat_lit 30,o30 P)::(nat_lit 31,o31)::(nat_lit 43,o43 P)::(nat_lit 44,o44)::(nat_lit 55,o55 P)::(nat_lit 56,o56)::(nat_lit 67,o67 P)::(nat_lit 68,o68)::(nat_lit 79,o79 P)::(nat_lit 80,o80)::(nat_lit 91,o91 P)::(nat_lit 92,o92)::(nat_lit 98,o98)::(nat_lit 99,o99)::(nat_lit 103,m0m)::(nat_lit 104,m0l)::(nat_lit 108,m0k)::(nat_lit 109,m0j)::(nat_lit 113,m0i)::(nat_lit 114,m0h)::(nat_lit 120,m0g)::(nat_lit 121,m0f)::(nat_lit 125,m0e)::(nat_lit 126,m0d)::(nat_lit 130,m0b)::(nat_lit 131,m0a)::(nat_lit 135,l0z)::(nat_lit 136,l0y)::(nat_lit 142,l0x)::(nat_lit 143,l0w)::(nat_lit 149,l0v)::(nat_lit 150,l0u)::(nat_lit 154,l0t)::(nat_lit 155,l0s)::(nat_lit 159,l0r)::(nat_lit 160,l0q)::(nat_lit 164,l0p)::(nat_lit 165,l0o)::(nat_lit 171,l0n)::(nat_lit 172,l0m)::(nat_lit 178,l0l)::(nat_lit 179,l0k)::(nat_lit 183,l0j)::(nat_lit 184,l0i)::(nat_lit 190,l0h)::(nat_lit 191,l0g)::(nat_lit 197,l0f)::(nat_lit 198,l0e)::(nat_lit 204,l0d)::(nat_lit 205,l0c)::(nat_lit 211,l0b)::(nat_lit 212,l0a)::(nat_lit 218,k0z)::(nat_lit 219,k0y)::(nat_lit 225,k0x)::(nat_lit 226,k0w)::(nat_lit 230,k0v)::(nat_lit 231,k0u)::(nat_lit 237,k0t)::(nat_lit 238,k0s)::(nat_lit 242,k0r)::(nat_lit 243,k0q)::(nat_lit 247,k0p)::(nat_lit 248,k0o)::(nat_lit 252,k0n)::(nat_lit 253,k0m)::(nat_lit 259,k0l)::(nat_lit 260,k0k)::(nat_lit 264,k0j)::(nat_lit 265,k0i)::(nat_lit 269,k0h)::(nat_lit 270,k0g)::(nat_lit 274,k0f)::(nat_lit 275,k0e)::(nat_lit 281,k0d)::(nat_lit 282,k0c)::(nat_lit 286,k0b)::(nat_lit 287,k0a)::(nat_lit 291,j0z)::(nat_lit 292,j0y)::(nat_lit 296,j0x)::(nat_lit 297,j0w)::(nat_lit 303,j0v)::(nat_lit 304,j0u)::(nat_lit 310,j0t)::(nat_lit 311,j0s)::(nat_lit 317,j0r)::(nat_lit 318,j0q)::(nat_lit 324,j0p)::(nat_lit 325,j0o)::(nat_lit 329,j0n)::(nat_lit 330,j0m)::(nat_lit 336,j0l)::(nat_lit 337,j0k)::(nat_lit 343,j0j)::(nat_lit 344,j0i)::(nat_lit 353,j0h P)::(nat_lit 354,j0g)::(nat_lit 371,j0f)::(nat_lit 372,j0e)::(nat_lit 378,j0d)::(nat_lit 379,j0c)::(nat_lit 381,j0b P)::(nat_lit 382,j0a)::(nat_lit 397,i0z)::(nat_lit 398,i0y)::(nat_lit 404,i0x)::(nat_lit 405,i0w)::(nat_lit 411,i0v)::(nat_lit 412,i0u)::(nat_lit 418,i0t)::(nat_lit 419,i0s)::(nat_lit 425,i0r)::(nat_lit 426,i0q)::(nat_lit 432,i0p)::(nat_lit 433,i0o)::(nat_lit 439,i0n)::(nat_lit 440,i0m)::(nat_lit 446,i0l)::(nat_lit 447,i0k)::(nat_lit 453,i0j)::(nat_lit 454,i0i)::(nat_lit 460,i0h)::(nat_lit 461,i0g)::(nat_lit 463,i0f P)::(nat_lit 464,i0e)::(nat_lit 479,i0d)::(nat_lit 480,i0c)::(nat_lit 486,i0b)::(nat_lit 487,i0a)::(nat_lit 493,h0z)::(nat_lit 494,h0y)::(nat_lit 500,h0x)::(nat_lit 501,h0w)::(nat_lit 507,h0v)::(nat_lit 508,h0u)::(nat_lit 514,h0t)::(nat_lit 515,h0s)::(nat_lit 521,h0r)::(nat_lit 522,h0q)::(nat_lit 528,h0p)::(nat_lit 529,h0o)::(nat_lit 535,h0n)::(nat_lit 536,h0m)::(nat_lit 542,h0l)::(nat_lit 543,h0k)::(nat_lit 549,h0j)::(nat_lit 550,h0i)::(nat_lit 552,h0h P)::(nat_lit 553,h0g)::(nat_lit 561,h0f)::(nat_lit 562,h0e)::(nat_lit 568,h0d)::(nat_lit 569,h0c)::(nat_lit 575,h0b)::(nat_lit 576,h0a)::(nat_lit 582,g0z)::(nat_lit 583,g0y)::(nat_lit 589,g0x)::(nat_lit 590,g0w)::(nat_lit 596,g0v)::(nat_lit 597,g0u)::(nat_lit 603,g0t)::(nat_lit 604,g0s)::(nat_lit 610,g0r)::(nat_lit 611,g0q)::(nat_lit 617,g0p)::(nat_lit 618,g0o)::(nat_lit 624,g0n)::(nat_lit 625,g0m)::(nat_lit 631,g0l)::(nat_lit 632,g0k)::(nat_lit 636,g0j)::(nat_lit 637,g0i)::(nat_lit 641,g0h)::(nat_lit 642,g0g)::(nat_lit 646,g0f)::(nat_lit 647,g0e)::(nat_lit 651,g0d)::(nat_lit 652,g0c)::(nat_lit 658,g0b)::(nat_lit 659,g0a)::(nat_lit 665,f0z)::(nat_lit 666,f0y)::(nat_lit 670,f0x)::(nat_lit 671,f0w)::(nat_lit 677,f0v)::(nat_lit 678,f0u)::(nat_lit 684,f0t)::(nat_lit 685,f0s)::(nat_lit 689,f0r)::(nat_lit 690,f0q)::(nat_lit 694,f0p)::(nat_lit 695,f0o)::(nat_lit 701,f0n)::(nat_lit 702,f0m)::(nat_lit 706,f0l)::(nat_lit 707,f0k)::(nat_lit 711,f0j)::(nat_lit 712,f0i)::(nat_lit 716,f0h)::(nat_lit 717,f0g)::(nat_lit 721,f0f)::(nat_lit 722,f0e)::(nat_lit 728,f0d)::(nat_lit 729,f0c)::(nat_lit 733,f0b)::(nat_lit 734,f0a)::(nat_lit 740,e0z)::(nat_lit 741,e0y)::(nat_lit 747,e0x)::(nat_lit 748,e0w)::[]
def KA:List Addr:=[2,3,20,21,30,31,43,44,55,56,67,68,79,80,91,92,98,99,103,104,108,109,113,114,120,121,125,126,130,131,135,136,142,143,149,150,154,155,159,160,164,165,171,172,178,179,183,184,190,191,197,198,204,205,211,212,218,219,225,226,230,231,237,238,242,243,247,248,252,253,259,260,264,265,269,270,274,275,281,282,286,287,291,292,296,297,303,304,310,311,317,318,324,325,329,330,336,337,343,344,353,354,371,372,378,379,381,382,397,398,404,405,411,412,418,419,425,426,432,433,439,440,446,447,453,454,460,461,463,464,479,480,486,487,493,494,500,501,507,508,514,515,521,522,528,529,535,536,542,543,549,550,552,553,561,562,568,569,575,576,582,583,589,590,596,597,603,604,610,611,617,618,624,625,631,632,636,637,641,642,646,647,651,652,658,659,665,666,670,671,677,678,684,685,689,690,694,695,701,702,706,707,711,712,716,717,721,722,728,729,733,734,740,741,747,748]
def o0n(P:Params):KA=(K P).map (·.1):=by kernel_rfl
def qT:Program:={ pW with main:={ pW.main with body:=[h8 0,h8 2,h8 3,h8 4,h8 5,h8 6,h8 7,h8 9,h8 10,h8 11,h8 12,h8 13,h8 14,h8 15,h8 16,h8 18,h8 20,h8 21,h8 22,h8 23,h8 25,h8 26,h8 27,h8 28,h8 29,h8 30,h8 31,h8 32,h8 34,h8 35,h8 36,h8 37,h8 38,h8 39,h8 40,h8 41,h8 43,h8 44,h8 45,h8 46,h8 47,h8 48,h8 50,h8 51,h8 52,h8 53,h8 55,h8 56,h8 57,h8 58,h8 59,h8 60,h8 61,h8 62,h8 63,h8 64,h8 66,h8 67,h8 68,h8 69,h8 70,h8 71,h8 72,h8 73,h8 74,h8 75,h8 76,h8 77,h8 78,h8 79,h8 80,h8 81,h8 82,h8 83,h8 84,h8 85,h8 86,h8 87,h8 88,h8 89,h8 90,h8 91,h8 92,h8 93,h8 94,h8 95,h8 96] } }
def recs:=RowW.records (OpenRow.toRowW (OpenLaw.row PySem.Challenge.rw_weighwalk_k53_turned_into_one_another))
abbrev Xt(q:Program)(s:Shared):Bool:=xlAt q [] s && recOk recs s
abbrev Ij:Hook:=kHook K KA o0n
def d0b(w:World):((boot_heap w.params).isNs mainGlobals && (⟨[]⟩:Array GenState).size == 0,(boot_heap w.params).objs.size,(boot_heap w.params).nsMap mainGlobals "__annotations__")=(true,11,(some (r 6))):=by trivial
def e0t:∀w:World,(fencedOpening treeTable pW w 10344).map (λs=>(s.heap,s.gens,s.drawn,s.toks))=some (boot_heap w.params,⟨[]⟩,boot_drawn,boot_toks):=boot_open (by kernel_rfl) bD (λs=>by trivial)
def n0j(w:World)(os:OsState):(staticsOk (importedModules pW.main.body) (boot_heap w.params) (Hf w.params) && namesBound pW (Hf w.params) && gensDone (Sf w os) && laidKept (boot_heap w.params) (Hf w.params))=true:=by trivial
def n0i(w:World)(os:OsState):openSeen qT [] (importedModules pW.main.body) (Xt qT) true (Sf w os)=openGood qT []:=by trivial
def n0h(w:World)(os:OsState):Ij.obs (Sf w os)=Ij.val w:=by kernel_rfl
def left:LeftO pW qT [] (Xt qT) Ij.obs Ij.val 10344:=LeftO.of_pieces (H₁:=Hf) e0t d0b run_ bD (λw=>funext λos=>looks_pair (n0j w os) (looks_pair (n0i w os) (n0h w os)))
def dO:DefRec:=⟨PySem.Str.ofString "law",L2.F1 (h8 96),L2.C7 (h8 96),L2.a8 (h8 96),⟨533,0,547,142⟩⟩
def b0c(qW:(OpenLaw.row PySem.Challenge.rw_weighwalk_k53_turned_into_one_another).wellSaid=true)(hw:(OpenLaw.row PySem.Challenge.rw_weighwalk_k53_turned_into_one_another).toRowW.promised)(hc:WalkO qT [] (XL qT []) (Hook.says Ij) (OpenLaw.row PySem.Challenge.rw_weighwalk_k53_turned_into_one_another).toRowW dO [] (λf vs=>PySem.call f vs)):(OpenLaw.row PySem.Challenge.rw_weighwalk_k53_turned_into_one_another).Holds:=
 holds_open (r:=(OpenLaw.row PySem.Challenge.rw_weighwalk_k53_turned_into_one_another)) (q:=qT) (loose:=[]) (Xt:=Xt qT) (XP:=XL qT []) (Yf:=Ij.obs) (Ya:=Ij.val) (YP:=Ij.says) (d:=dO) (kwd:=[]) (N:=10344) left Ij.of Ij.keeps (λs e=>xl_of s (Bool.and_eq_true_iff.mp e).1) XL.keeps (by kernel_rfl) (by kernel_rfl) (by kernel_rfl) (λs e=>recFacts_of (Bool.and_eq_true_iff.mp e).2) (by kernel_rfl) qW (by decide +kernel) ⟨U,U,U,U,U,by decide +kernel⟩ hw hc
abbrev fO(n q:String)(s:Stmt)(m c:Value):Obj:=⟨.type SL.s7174869446012820540x8,none,.func (fnOf (PySem.Str.ofString n) (PySem.Str.ofString q) (L2.F1 s) (L2.C7 s) (L2.a8 s) .none .none .none m none c .none),#[]⟩
def lp P a n j m c(h:(K P).lookup a=some (fO n n (h8 j) m (r c)):=by kernel_rfl):=h
def lc P a n q j k m c(h:(K P).lookup a=some (fO n q (L2.w6 (h8 j) k) m (r c)):=by kernel_rfl):=h
def Py P:=lp P 99 "noughts" 9 m1 98
def Lv P:=lp P 104 "times_row" 10 m1 103
def Lx P:=lp P 109 "column_at" 11 m1 108
def Jr P:=lp P 114 "columns_of" 12 m1 113
def a0l P:=lp P 121 "dot" 13 m1 120
def Sw P:=lp P 126 "row_by" 14 m1 125
def Ly P:=lp P 131 "by_column" 15 m1 130
def NB P:=lp P 136 "by_table" 16 m1 135
def Vg P:=lp P 143 "rooms" 18 m2 142
def CJ P:=lp P 150 "need_same_letters" 20 m3 149
def Sx P:=lp P 155 "beside" 21 m3 154
def Jn P:=lp P 160 "put_beside" 22 m3 159
def Nx P:=lp P 165 "mirrored" 23 m3 164
def Jo P:=lp P 172 "need_field" 25 m4 171
def Pz P:=lp P 179 "leading" 26 m4 178
def Nv P:=lp P 184 "plus_row" 27 m4 183
def PH P:=lp P 191 "cleared" 28 m4 190
def Xq P:=lp P 198 "keep" 29 m4 197
def Lw P:=lp P 205 "kept_rows" 30 m4 204
def Nt P:=lp P 212 "width_of" 31 m4 211
def PB P:=lp P 219 "echelon" 32 m4 218
def Jp P:=lp P 226 "free_words" 34 m5 225
def BP P:=lp P 231 "with_letter_behind" 35 m5 230
def Jq P:=lp P 238 "free_ahead" 36 m5 237
def Lz P:=lp P 243 "at_places" 37 m5 242
def Nw P:=lp P 248 "narrowed" 38 m5 247
def PF P:=lp P 253 "come_to" 39 m5 252
def Jm P:=lp P 260 "told_apart" 40 m5 259
def Vh P:=lp P 265 "heads" 41 m5 264
def Xp P:=lp P 270 "less" 43 m6 269
def Px P:=lp P 275 "parting" 44 m6 274
def CK P:=lp P 282 "grown_while_alike" 45 m6 281
def Nu P:=lp P 287 "walkable" 46 m6 286
def Vi P:=lp P 292 "alike" 47 m6 291
def Pw P:=lp P 297 "turning" 48 m6 296
def Ny P:=lp P 304 "is_whole" 50 m7 303
def PD P:=lp P 311 "divisor" 51 m7 310
def NA P:=lp P 318 "fraction" 52 m7 317
def Nz P:=lp P 325 "is_prime" 53 m7 324
def Fk P:=lc P 372 "is_field" "Field.is_field" 62 0 m8 371
def Dw P:=lc P 405 "nought" "Fractions.nought" 63 1 m8 404
def Gi P:=lc P 412 "one" "Fractions.one" 63 2 m8 411
def Fj P:=lc P 419 "plus" "Fractions.plus" 63 3 m8 418
def Em P:=lc P 426 "times" "Fractions.times" 63 4 m8 425
def En P:=lc P 433 "minus" "Fractions.minus" 63 5 m8 432
def CM P:=lc P 440 "inverse" "Fractions.inverse" 63 6 m8 439
def By P:=lc P 447 "is_weight" "Fractions.is_weight" 63 7 m8 446
def CL P:=lc P 480 "__init__" "Residues.__init__" 64 0 m8 479
def El P:=lc P 494 "nought" "Residues.nought" 64 2 m8 493
def GS P:=lc P 501 "one" "Residues.one" 64 3 m8 500
def Gh P:=lc P 508 "plus" "Residues.plus" 64 4 m8 507
def Fh P:=lc P 515 "times" "Residues.times" 64 5 m8 514
def Fi P:=lc P 522 "minus" "Residues.minus" 64 6 m8 521
def Dv P:=lc P 529 "inverse" "Residues.inverse" 64 7 m8 528
def BQ P:=lc P 536 "is_weight" "Residues.is_weight" 64 8 m8 535
def LG P:=lp P 562 "_law_next" 66 m9 561
def Jv P:=lp P 569 "_law_state" 67 m9 568
def GR P:=lp P 576 "_law_divisor" 68 m9 575
def NC P:=lp P 583 "_law_low" 69 m9 582
def LF P:=lp P 590 "_law_plus" 70 m9 589
def Ju P:=lp P 597 "_law_times" 71 m9 596
def Jy P:=lp P 604 "_law_minus" 72 m9 603
def PJ P:=lp P 611 "_law_of" 73 m9 610
def LB P:=lp P 618 "_law_sort" 74 m9 617
def LI P:=lp P 625 "_law_kind" 75 m9 624
def Ie P:=lp P 632 "_law_weight" 76 m9 631
def GN P:=lp P 637 "_law_machine" 77 m9 636
def Jx P:=lp P 642 "_law_moved" 78 m9 641
def GM P:=lp P 647 "_law_swapped" 79 m9 646
def LH P:=lp P 652 "_law_more" 80 m9 651
def GQ P:=lp P 659 "_law_dressed" 81 m9 658
def ND P:=lp P 666 "_law_dot" 82 m9 665
def LA P:=lp P 671 "_law_step" 83 m9 670
def LC P:=lp P 678 "_law_sign" 84 m9 677
def GP P:=lp P 685 "_law_inverse" 85 m9 684
def LD P:=lp P 690 "_law_rank" 86 m9 689
def Js P:=lp P 695 "_law_words" 87 m9 694
def Jz P:=lp P 702 "_law_ahead" 88 m9 701
def Ih P:=lp P 707 "_law_behind" 89 m9 706
def Ek P:=lp P 712 "_law_least_many" 90 m9 711
def GO P:=lp P 717 "_law_letters" 91 m9 716
def PK P:=lp P 722 "_law_by" 92 m9 721
def Ig P:=lp P 729 "_law_unlike" 93 m9 728
def Jt P:=lp P 734 "_law_turns" 94 m9 733
def Jw P:=lp P 741 "_law_right" 95 m9 740
def a0k P:=lp P 748 "law" 96 m9 747
end
end H53
set_option maxHeartbeats 4000000
abbrev D5:PySem.Str:="_law_sort_here"
abbrev X6:PySem.Str:="_law_machine_here"
abbrev X5:PySem.Str:="_law_state_here"
abbrev w9:PySem.Str:="kind"
abbrev BJ:PySem.Str:="_law_letters_here"
abbrev R0:PySem.Str:="machine"
abbrev Bh:PySem.Str:="_law_table"
abbrev AF:PySem.Str:="_law_line"
abbrev BI:PySem.Str:="_law_other"
abbrev C8:PySem.Str:="row"
abbrev Dp:PySem.Str:="_law_many"
abbrev GH:PySem.Str:="_law_by_here"
abbrev BH:PySem.Str:="_law_row"
abbrev FI:PySem.Str:="_law_tables"
abbrev FH:PySem.Str:="_law_start"
abbrev T1:PySem.Str:="self"
abbrev Mo:PySem.Str:="_law_kind_here"
abbrev Av:PySem.Str:="table"
abbrev FG:PySem.Str:="_law_one"
abbrev V6:PySem.Str:="rows"
abbrev BV:PySem.Str:="_law_k"
abbrev Hn:PySem.Str:="_law_word"
abbrev KC:PySem.Str:="_law_letter"
abbrev Bg:PySem.Str:="other"
abbrev IM:PySem.Str:="_law_rows"
abbrev Kz:PySem.Str:="_law_found"
abbrev Mn:PySem.Str:="_law_script"
abbrev Ky:PySem.Str:="_law_ends"
abbrev Kx:PySem.Str:="_law_made"
abbrev Do:PySem.Str:="place"
abbrev FF:PySem.Str:="_law_x"
abbrev Ot:PySem.Str:="_law_nought"
abbrev GG:PySem.Str:="_law_j"
abbrev BG:PySem.Str:="kept"
abbrev Os:PySem.Str:="_law_first"
abbrev RK:PySem.Str:="_law_column"
abbrev Dn:PySem.Str:="both"
abbrev Kw:PySem.Str:="_law_at"
abbrev RJ:PySem.Str:="_law_lines"
abbrev IL:PySem.Str:="_law_i"
abbrev EB:PySem.Str:="word"
abbrev Tg:PySem.Str:="_law_places"
abbrev Tf:PySem.Str:="_law_number"
abbrev RI:PySem.Str:="_law_last"
abbrev BF:PySem.Str:="one"
abbrev Kv:PySem.Str:="tables"
abbrev RH:PySem.Str:="_law_most"
abbrev Wo:PySem.Str:="_law_low_here"
abbrev IK:PySem.Str:="first"
abbrev IJ:PySem.Str:="width"
abbrev Wn:PySem.Str:="_law_columns"
abbrev Mm:PySem.Str:="column"
abbrev Te:PySem.Str:="_law_base"
abbrev Wm:PySem.Str:="_law_looked"
abbrev Wl:PySem.Str:="_law_bottom"
abbrev Wk:PySem.Str:="_law_taken"
abbrev n0N:List PySem.Str:=[X5,D5,X6,"_law_seen",BJ,FH,FI,Ky,Dp,Ot,Kx,Bh,RJ,AF,RI,"_law_begin","_law_end"]
abbrev n1N:List PySem.Str:=[D5,X6,IL,GG,GH,BJ,FH,FI,Ky,Wk,Os,RI,Kx,Bh,RJ,"#1",Wo]
abbrev n2N:List PySem.Str:=[X6,IL,GG,BJ,FH,FI,Ky,"_law_order",Kx,Bh,"_law_q"]
abbrev n3N:List PySem.Str:=[X6,IL,GG,BJ,FH,FI,Ky,"_law_order",Kx,Bh]
abbrev n4N:List PySem.Str:=[D5,X6,IL,GG,GH,BJ,FH,FI,Ky,Wk,Os,RI,Kx,Bh,RJ,AF,Wo,FF,"_law_y"]
abbrev n5N:List PySem.Str:=[X5,D5,X6,"_law_seen",BJ,FH,FI,Ky,Dp,Ot,Kx,Bh,RJ,AF,RI,"_law_begin","_law_end",BV]
abbrev II:List PySem.Str:=[w9,BF,Bg]
abbrev n7N:List PySem.Str:=[D5,X6,IL,GG,GH,BJ,FH,FI,Ky,Wk,Os,RI,Kx,Bh,RJ,"#1",Wo,AF]
abbrev n8N:List PySem.Str:=[D5,X6,IL,GG,GH,BJ,FH,FI,Ky,Wk,Os,RI,Kx,Bh,RJ,AF,Wo]
abbrev n9N:List PySem.Str:=[D5,IM,Ot,Te,BH,AF,Kw,BI,GH,Tg]
abbrev Nq:List PySem.Str:=[D5,FG,BI]
abbrev BO:List PySem.Str:=[w9,R0]
abbrev Xm:List PySem.Str:=[w9,R0,BG,"places",V6,Kv,Av,Do,C8]
abbrev n0d:List PySem.Str:=[D5,IM,Ot,Te,BH,AF,Kw,BI,GH,Tg,FF,"_law_y"]
abbrev Sq:List PySem.Str:=[D5,X6,Hn]
abbrev Np:List PySem.Str:=[D5,FF,"_law_y"]
abbrev n0c:List PySem.Str:=[X5,D5,BJ,Dp,FH,FI,KC,Bh,"#1",BV]
abbrev Du:List PySem.Str:=[T1,"x","y"]
abbrev n0b:List PySem.Str:=[X5,D5,BJ,Dp,FH,FI,KC,Bh,BV]
abbrev n0a:List PySem.Str:=[X5,D5,BJ,Dp,FH,FI,KC,Bh,"#1"]
abbrev m0z:List PySem.Str:=[D5,IM,Ot,Te,BH,AF,"#1",BI,GH,Tg]
abbrev Xl:List PySem.Str:=[w9,R0,BG,"places",V6,Kv,Av]
abbrev a0h:List PySem.Str:=[Mo,D5,FG,BI,Kz]
abbrev m0y:List PySem.Str:=[Mo,D5,FG,BI,Kz,Dp,AF,Kw]
abbrev a0g:List PySem.Str:=[D5,X6,IL,GG,GH]
abbrev UZ:List PySem.Str:=[D5,BH,Bh]
abbrev m0x:List PySem.Str:=[D5,X6,Wm,Wn,IM,Hn,BH]
abbrev a0f:List PySem.Str:=[X5,D5,BJ,Dp]
abbrev a0e:List PySem.Str:=[X5,D5,X6,"_law_seen"]
abbrev a0d:List PySem.Str:=[X5,D5,X6,RH]
abbrev m0w:List PySem.Str:=[D5,X6,Wm,Wn,IM,"#1",BH]
abbrev m0v:List PySem.Str:=[BJ,RH,Kz,"_law_level",BV,"_law_beyond",Hn]
abbrev Pn:List PySem.Str:=[D5,FF]
abbrev Ei:List PySem.Str:=[T1,"x"]
abbrev m0u:List PySem.Str:=[D5,X6,Hn,RK,KC,Bh]
abbrev a0c:List PySem.Str:=[Mo,D5,FG,BI]
abbrev a0b:List PySem.Str:=[w9,IK,"second","step","upper","lower"]
abbrev a0a:List PySem.Str:=[w9,Dn,V6,BG,"narrow","steps"]
abbrev Xk:List PySem.Str:=[X5,D5]
abbrev m0t:List PySem.Str:=[w9,R0,"last","told",EB,C8,"letter",Av]
abbrev m0s:List PySem.Str:=[w9,IK,"second","step","upper","lower",C8,"extra"]
abbrev Nn:List PySem.Str:=[T1,"thing"]
abbrev UY:List PySem.Str:=[w9,Av,Mm]
abbrev ZZ:List PySem.Str:=[w9,BF,Bg,"no_step",Kv]
abbrev ZY:List PySem.Str:=[D5,BH,RK]
abbrev m0r:List PySem.Str:=[w9,Dn,V6,BG,"narrow","steps",Do,C8]
abbrev Xj:List PySem.Str:=[D5,Tf]
abbrev m0q:List PySem.Str:=[w9,BF,Bg,Dn,"found","parted",EB,C8]
abbrev m0p:List PySem.Str:=[w9,BF,Bg,"no_step",Kv,IK,"second"]
abbrev UX:List PySem.Str:=[w9,Dn,"found"]
abbrev ZX:List PySem.Str:=[X6,IL,GG]
abbrev UW:List PySem.Str:=[w9,C8,Av]
abbrev m0o:List PySem.Str:=[w9,Dn,V6,BG,"narrow","steps",Av]
abbrev ZW:List PySem.Str:=[D5,X6]
abbrev Pm:List PySem.Str:=[BF,Bg]
abbrev Sn:List PySem.Str:=[Av,Do]
abbrev UV:List PySem.Str:=[w9,"by",C8]
abbrev ZV:List PySem.Str:=[w9,IK,"second","step"]
abbrev Xi:List PySem.Str:=[FG,BI]
abbrev ZU:List PySem.Str:=[BJ,RH]
abbrev ZT:List PySem.Str:=[w9,BG,C8,IJ]
abbrev Xh:List PySem.Str:=[w9,Dn,"last"]
abbrev ZR:List PySem.Str:=[X5,Dp]
abbrev ZQ:List PySem.Str:=[D5,IM]
abbrev UU:List PySem.Str:=[C8,"places"]
abbrev UT:List PySem.Str:=[w9,"size"]
namespace L2
open PySem
@[elab_as_elim] def E6{iK:Hp->Prop}{H:Hp}{a:Addr}{o:HO}(n:H a=none)(h:∀G,h9 H G->G a=some o->iK G):iK (upd H a o):=h _ (c6 n) b9
def gL{X:Cx}{x:Str}{pos:Pos}(i:Nat)(L:List Str)(hn:L.Nodup:=by decide +kernel)(hL:X.N=L:=by rfl)(h:X.N[i]? = some x:=by rfl)(hx:X.env.scope.names.lookup x=some .local:=by rfl)(hf:X.fn x=true\/X.env.scope.names.lookup x=some .local:=by first | exact .inl rfl | exact .inr rfl | assumption):PG X (.Name x pos) (L3 i):=p9 (hL ▸ hn) h (Or.inl hx) hf
def B5{X:Cx}{a b:Expr}{ta tb:TE}{pos:Pos}{r:R2}(hr:Ku X r)(ha:PE X a ta)(hb:PE X b tb)(hs:RA b:=by exact λ_ _=>rfl):PE X (.Subscript a b pos) (c0p r ta tb):=e0s hr ha hb hs
abbrev sr(a:Addr):Option V:=some (.ref a)
abbrev si(i:Nat):Option V:=some (.int i)
def gN{X:Cx}{pos:Pos}(i:Nat){x:Str}(hN:X.N.Nodup)(hi:X.N[i]? = some x:=by rfl)(hx:X.env.scope.names.lookup x=some .local:=by rfl)(hf:X.fn x=true\/X.env.scope.names.lookup x=some .local:=by first | exact .inl rfl | exact .inr rfl | assumption):PG X (.Name x pos) (L3 i):=p9 hN hi (Or.inl hx) hf
def sT{X:Cx}{pos fJ:Pos}(i:Nat){x:Str}{e:Expr}{te:TE}(hN:X.N.Nodup)(he:PE X e te)(hi:X.N[i]? = some x:=by rfl)(hx:X.env.scope.names.lookup x=some .local:=by rfl)(hs:swapsWith e (some (.Name x fJ)) pos.line X.env=pure false:=by rfl)(hf:X.fn x=true\/X.env.scope.names.lookup x=some .local:=by first | exact .inl rfl | exact .inr rfl | assumption):PS X (.Assign [.Name x fJ] e pos) (KH te (L3 i)):=M6 hN hi (Or.inl hx) he hs hf
end L2
namespace K53
open PySem L2 Mine PyProof.Rows PySem.SeqAt
abbrev Pr:Program:=PySem.Challenge.pw_weighwalk_k53_turned_into_one_another
def Qw:Pr.given.tree=none:=rfl
def top(i:Nat):Stmt:=PySem.Challenge.pw_weighwalk_k53_turned_into_one_another.main.body.getD i (.Pass ⟨0,0,0,0⟩)
abbrev DZ:Stmt:=top 50
abbrev FU:Stmt:=top 51
abbrev Eb:Stmt:=top 52
abbrev Ea:Stmt:=top 53
abbrev Q1:Stmt:=w6 (top 63) 1
abbrev W7:Stmt:=w6 (top 63) 2
abbrev U5:Stmt:=w6 (top 63) 3
abbrev R7:Stmt:=w6 (top 63) 4
abbrev M5:Stmt:=w6 (top 63) 7
abbrev O5:Stmt:=w6 (top 64) 0
abbrev R6:Stmt:=w6 (top 64) 2
abbrev Z0:Stmt:=w6 (top 64) 3
abbrev W6:Stmt:=w6 (top 64) 4
abbrev U2:Stmt:=w6 (top 64) 5
abbrev M9:Stmt:=w6 (top 64) 8
abbrev U6:Stmt:=w6 (top 62) 0
abbrev R8:Stmt:=w6 (top 63) 5
abbrev O6:Stmt:=w6 (top 63) 6
abbrev U3:Stmt:=w6 (top 64) 6
abbrev Q0:Stmt:=w6 (top 64) 7
abbrev Ah:Stmt:=top 10
abbrev CV:Stmt:=top 9
abbrev Aj:Stmt:=top 11
abbrev Y4:Stmt:=top 12
abbrev Ud:Stmt:=top 13
abbrev EO:Stmt:=top 14
abbrev Ak:Stmt:=top 15
abbrev Bs:Stmt:=top 16
abbrev Bo:Stmt:=top 23
abbrev Lc:Stmt:=top 18
abbrev O3:Stmt:=top 20
abbrev Cq:Stmt:=top 21
abbrev R5:Stmt:=top 22
abbrev Bn:Stmt:=top 25
abbrev FQ:Stmt:=top 26
abbrev Bm:Stmt:=top 27
abbrev FV:Stmt:=top 28
abbrev OR:Stmt:=top 29
abbrev Cp:Stmt:=top 30
abbrev DR:Stmt:=top 31
abbrev FT:Stmt:=top 32
abbrev Br:Stmt:=top 34
abbrev J6:Stmt:=top 35
abbrev L7:Stmt:=top 36
abbrev Al:Stmt:=top 37
abbrev U0:Stmt:=top 38
abbrev CW:Stmt:=top 39
abbrev Bl:Stmt:=top 40
abbrev Hd:Stmt:=top 41
abbrev Ld:Stmt:=top 43
abbrev CU:Stmt:=top 44
abbrev O4:Stmt:=top 45
abbrev T7:Stmt:=top 46
abbrev Am:Stmt:=top 47
abbrev CT:Stmt:=top 48
abbrev DW:Stmt:=top 66
abbrev Ck:Stmt:=top 67
abbrev AA:Stmt:=top 68
abbrev FR:Stmt:=top 69
abbrev DV:Stmt:=top 70
abbrev Cj:Stmt:=top 71
abbrev Cn:Stmt:=top 72
abbrev HA:Stmt:=top 73
abbrev DS:Stmt:=top 74
abbrev DY:Stmt:=top 75
abbrev Bp:Stmt:=top 76
abbrev M3:Stmt:=top 77
abbrev Q3:Stmt:=top 78
abbrev K6:Stmt:=top 79
abbrev Y9:Stmt:=top 80
abbrev Az:Stmt:=top 81
abbrev DU:Stmt:=top 84
abbrev Ay:Stmt:=top 85
abbrev U1:Stmt:=top 86
abbrev Ai:Stmt:=top 87
abbrev FS:Stmt:=top 82
abbrev Y8:Stmt:=top 83
abbrev Co:Stmt:=top 88
abbrev Y3:Stmt:=top 89
abbrev K9:Stmt:=top 90
abbrev V2:Stmt:=top 91
abbrev ER:Stmt:=top 92
abbrev Bq:Stmt:=top 93
abbrev V9:Stmt:=top 94
abbrev Cm:Stmt:=top 95
abbrev Uc:Stmt:=top 96
def _root_.L2.M0.m{j k:Nat}{A:Around}(r:M0 k A)(h:j<=k:=by decide):M0 j A:=r.mono h
def o5{N P:List Str}{s:Scope}(a:s.kind=.function:=by rfl)(b:s.isCoroutine=false:=by rfl)(c:s.isGenerator=false:=by rfl)(d:N.Nodup:=by decide +kernel)(e:N.take P.length=P:=by rfl)(f:∀x∈P,s.names.lookup x=some .local\/s.names.lookup x=some .cell:=by decide +kernel)(g:∀y∈s.names,y.2≠.free:=by decide +kernel):c7 N P s:=⟨a,b,c,d,e,f,g⟩
def MM:c7 ["thing"] ["thing"] (a8 DZ):=o5
def T6:c7 [BF,Bg,"greatest","rest","left"] Pm (a8 FU):=o5
def Cf:c7 ["top","bottom","shared"] ["top","bottom"] (a8 Eb):=o5
def Cd:c7 ["number","factor"] ["number"] (a8 Ea):=o5
def Dq:c7 [T1] [T1] (a8 Q1):=o5
def FP:c7 [T1] [T1] (a8 W7):=o5
def EM:c7 Du Du (a8 U5):=o5
def DO:c7 Du Du (a8 R7):=o5
def Bk:c7 Nn Nn (a8 M5):=o5
def Cg:c7 [T1,"prime"] [T1,"prime"] (a8 O5):=o5
def DN:c7 [T1] [T1] (a8 R6):=o5
def GI:c7 [T1] [T1] (a8 Z0):=o5
def FO:c7 Du Du (a8 W6):=o5
def EK:c7 Du Du (a8 U2):=o5
def BL:c7 Nn Nn (a8 M9):=o5
def EN:c7 [T1] [T1] (a8 U6):=o5
def DP:c7 Ei Ei (a8 R8):=o5
def Ci:c7 Ei Ei (a8 O6):=o5
def EL:c7 Ei Ei (a8 U3):=o5
def B7:c7 [T1,"x","product","square","left"] Ei (a8 Q0):=o5
def KS:c7 UV UV (a8 Ah):=o5
def OQ:c7 UT UT (a8 CV):=o5
def KZ:c7 Sn Sn (a8 Aj):=o5
def Jb:c7 [Av] [Av] (a8 Y4):=o5
def Hy:c7 [w9,C8,Mm,"total","x","y"] [w9,C8,Mm] (a8 Ud):=o5
def RV:c7 UW UW (a8 EO):=o5
def La:c7 UY UY (a8 Ak):=o5
def MN:c7 II II (a8 Bs):=o5
def Gq:c7 [R0,Kv] [R0] (a8 Bo):=o5
def Ua:c7 [R0] [R0] (a8 Lc):=o5
def Ca:c7 Pm Pm (a8 O3):=o5
def FN:c7 a0b ZV (a8 Cq):=o5
def Aw:c7 ZZ II (a8 R5):=o5
def IY:c7 [w9] [w9] (a8 Bn):=o5
def Hw:c7 [w9,C8,IJ,Do] [w9,C8,IJ] (a8 FQ):=o5
def MH:c7 II II (a8 Bm):=o5
def Y7:c7 [w9,BG,C8,"rest",Do,Bg] [w9,BG,C8] (a8 FV):=o5
def KY:c7 [w9,BG,C8,IJ,"rest",Do] ZT (a8 OR):=o5
def Bi:c7 [w9,V6,IJ,BG,C8] [w9,V6,IJ] (a8 Cp):=o5
def MG:c7 [V6] [V6] (a8 DR):=o5
def Bj:c7 [w9,V6,"told",Do,C8] [w9,V6] (a8 FT):=o5
def K5:c7 [w9,IK,"grown",BG,"told","last","fresh","pair"] [w9,IK,"grown"] (a8 Br):=o5
def I0:c7 [w9,R0,"last","told",EB,C8] [w9,R0,"last"] (a8 J6):=o5
def Ja:c7 BO BO (a8 L7):=o5
def Lb:c7 UU UU (a8 Al):=o5
def V8:c7 Xl [w9,R0,BG] (a8 U0):=o5
def Hz:c7 [w9,R0,V6] BO (a8 CW):=o5
def IW:c7 BO BO (a8 Bl):=o5
def Ub:c7 BO BO (a8 Hd):=o5
def QE:c7 [w9,BF,Bg,"minus_ends"] II (a8 Ld):=o5
def OP:c7 UX UX (a8 CU):=o5
def Ce:c7 Xh Xh (a8 O4):=o5
def Af:c7 a0a [w9,Dn,V6] (a8 T7):=o5
def EJ:c7 [w9,BF,Bg,Dn,"found","parted"] II (a8 Am):=o5
def DM:c7 [w9,BF,Bg,"told","size"] II (a8 CT):=o5
def Gs:c7 [X5,Dp,Kz] ZR (a8 DW):=o5
def X9:c7 [Mn,"_law_seed","_law_cell"] [Mn] (a8 Ck):=o5
def Cc:c7 Xi Xi (a8 AA):=o5
def Hx:c7 ["_law_top",Wl,GH] ["_law_top",Wl] (a8 FR):=o5
def MK:c7 Np Np (a8 DV):=o5
def KU:c7 Np Np (a8 Cj):=o5
def KW:c7 Pn Pn (a8 Cn):=o5
def RW:c7 Xj Xj (a8 HA):=o5
def Gr:c7 [X5,"_law_prime"] [X5] (a8 DS):=o5
def ML:c7 [D5] [D5] (a8 DY):=o5
def IZ:c7 Xk Xk (a8 Bp):=o5
def K8:c7 n0b a0f (a8 M3):=o5
def B9:c7 n8N a0g (a8 Q3):=o5
def E4:c7 n3N ZX (a8 K6):=o5
def B3:c7 n0N a0e (a8 Y9):=o5
def C5:c7 [X5,D5,X6,RH,BV,Dp,IL,GG] a0d (a8 Az):=o5
def MJ:c7 [Tf] [Tf] (a8 DU):=o5
def E5:c7 [D5,FF,FG,BI,GH,"_law_later",Dp] Pn (a8 Ay):=o5
def F6:c7 n9N ZQ (a8 U1):=o5
def F4:c7 m0v ZU (a8 Ai):=o5
def Y6:c7 [D5,BH,RK,"_law_total",FF,"_law_y"] ZY (a8 FS):=o5
def MI:c7 UZ UZ (a8 Y8):=o5
def Y0:c7 [D5,X6,Hn,BH,KC] Sq (a8 Co):=o5
def P0:c7 m0u Sq (a8 Y3):=o5
def J5:c7 m0x ZW (a8 K9):=o5
def R4:c7 [X5,"_law_size",Os,"_law_far"] [X5] (a8 V2):=o5
def RX:c7 Nq Nq (a8 ER):=o5
def Ax:c7 [D5,FG,BI,Hn,FF] Nq (a8 Bq):=o5
def X8:c7 m0y a0h (a8 V9):=o5
def R3:c7 [Mo,D5,FG,BI,Kz,"_law_due"] a0c (a8 Cm):=o5
def W5:c7 [Mn,X5,D5,Mo,BJ,Dp,X6,RH,FG,BI] [Mn] (a8 Uc):=o5
def sp_whole:Sp:=λvs H Q _=>∃i,vs=[.int i]/\Q (.bl true) H
def sp_divisor:Sp:=λvs H Q _=>∃a b,vs=[.int a,.int b]/\Q (.int (dv a b)) H
def sp_fraction:Sp:=λvs H Q _=>∃a b,vs=[.int a,.int b]/\b≠0/\∀v H',h9 H H'->GX H' v (tp a b) (bt a b)->Q v H'
def sp_prime:Sp:=λvs H Q _=>∃n,vs=[.int n]/\(2<=n/\n<=1000000/\Mf n=true)/\Q (.bl true) H
def WC(C:Addr):Sp:=λvs H Q _=>∃x dx n,vs=[.ref x,.int n]/\(2<=n/\n<=1000000/\Mf n=true)/\H x=some (.ins C dx [])/\Q .non (upd H x (.ins C dx (Pb n)))
set_option genInjectivity false in
set_option genSizeOfSpec false in
structure Qu where
 c_alike:Addr
 P_alike:Addr
 c_free_ahead:Addr
 P_free_ahead:Addr
 c_echelon:Addr
 P_echelon:Addr
 x0i:Addr
 v0h:FuncData
 y0h:Addr
 v0n:FuncData
 w0u:Addr
 v0b:FuncData
 x0e:Addr
 u0l:FuncData
 q0a:Addr
 p0k:FuncData
 r0j:Addr
 q0n:FuncData
 q0v:Addr
 q0e:FuncData
 q0m:Addr
 p0p:FuncData
 p0e:Addr
 o0t:FuncData
 p0n:Addr
 o0y:FuncData
 q0j:Addr
 p0q:FuncData
 r0z:Addr
 q0q:FuncData
 r0a:Addr
 q0k:FuncData
 q0u:Addr
 q0g:FuncData
 p0j:Addr
 o0x:FuncData
 q0s:Addr
 q0b:FuncData
 q0o:Addr
 p0r:FuncData
 p0t:Addr
 p0g:FuncData
 q0w:Addr
 q0d:FuncData
 q0c:Addr
 p0l:FuncData
 w0b:Addr
 s0q:FuncData
 y0c:Addr
 w0h:FuncData
 v0r:Addr
 s0y:FuncData
 v0f:Addr
 r0t:FuncData
 dot:Addr
 y0q:FuncData
 y0o:Addr
 x0o:FuncData
 w0c:Addr
 t0i:FuncData
 x0f:Addr
 t0z:FuncData
 x0p:Addr
 u0f:FuncData
 y0u:Addr
 y0f:FuncData
 p0o:Addr
 p0a:FuncData
 y0p:Addr
 x0q:FuncData
 u0p:Addr
 r0y:FuncData
 u0c:Addr
 r0n:FuncData
 x0s:Addr
 v0i:FuncData
 x0h:Addr
 t0o:FuncData
 x0w:Addr
 v0p:FuncData
 keep:Addr
 y0m:FuncData
 w0d:Addr
 t0a:FuncData
 x0c:Addr
 v0c:FuncData
 echelon:Addr
 v0k:FuncData
 t0w:Addr
 r0m:FuncData
 p0m:Addr
 o0u:FuncData
 free_ahead:Addr
 s0b:FuncData
 w0j:Addr
 t0j:FuncData
 w0v:Addr
 u0h:FuncData
 y0d:Addr
 v0x:FuncData
 u0r:Addr
 r0p:FuncData
 y0s:Addr
 y0e:FuncData
 y0x:Addr
 d_less:FuncData
 x0x:Addr
 w0f:FuncData
 p0s:Addr
 p0d:FuncData
 x0d:Addr
 u0d:FuncData
 alike:Addr
 y0a:FuncData
 y0g:Addr
 v0j:FuncData
 w0x:Addr
 u0x:FuncData
 v0t:Addr
 s0t:FuncData
 t0m:Addr
 q0y:FuncData
 x0z:Addr
 w0l:FuncData
 w0z:Addr
 u0u:FuncData
 v0u:Addr
 t0f:FuncData
 w0i:Addr
 s0z:FuncData
 y0k:Addr
 x0g:FuncData
 x0k:Addr
 u0w:FuncData
 w0r:Addr
 u0j:FuncData
 u0i:Addr
 s0c:FuncData
 s0k:Addr
 r0h:FuncData
 v0q:Addr
 t0k:FuncData
 s0p:Addr
 r0f:FuncData
 w0w:Addr
 u0m:FuncData
 t0n:Addr
 r0b:FuncData
 w0q:Addr
 t0y:FuncData
 s0h:Addr
 r0c:FuncData
 x0b:Addr
 t0q:FuncData
 w0o:Addr
 t0b:FuncData
 x0t:Addr
 v0w:FuncData
 x0n:Addr
 u0q:FuncData
 w0k:Addr
 t0l:FuncData
 u0a:Addr
 r0s:FuncData
 q0t:Addr
 p0x:FuncData
 s0x:Addr
 q0x:FuncData
 y0j:Addr
 w0s:FuncData
 v0a:Addr
 r0u:FuncData
 v0z:Addr
 s0n:FuncData
 v0o:Addr
 t0g:FuncData
 law:Addr
 y0w:FuncData
 w0m:Addr
 x0l:Addr
 y0v:Addr
def x5{X:Cx}{e0:Expr}{t0:TE}(h0:PE X e0 t0)(s0:starEach [e0] X.env=(false,eval e0 X.env)::starEach [] X.env:=by rfl):PA X [e0] (BC t0 tNil):=(J7 h0 J1 s0)
def D9{X:Cx}{e0:Expr}{t0:TE}{e1:Expr}{t1:TE}(h0:PE X e0 t0)(h1:PE X e1 t1)(s0:starEach [e0,e1] X.env=(false,eval e0 X.env)::starEach [e1] X.env:=by rfl)(s1:starEach [e1] X.env=(false,eval e1 X.env)::starEach [] X.env:=by rfl):PA X [e0,e1] (BC t0 (BC t1 tNil)):=(J7 h0 (J7 h1 J1 s1) s0)
def S6{X:Cx}{e0:Expr}{t0:TE}{e1:Expr}{t1:TE}{e2:Expr}{t2:TE}(h0:PE X e0 t0)(h1:PE X e1 t1)(h2:PE X e2 t2)(s0:starEach [e0,e1,e2] X.env=(false,eval e0 X.env)::starEach [e1,e2] X.env:=by rfl)(s1:starEach [e1,e2] X.env=(false,eval e1 X.env)::starEach [e2] X.env:=by rfl)(s2:starEach [e2] X.env=(false,eval e2 X.env)::starEach [] X.env:=by rfl):PA X [e0,e1,e2] (BC t0 (BC t1 (BC t2 tNil))):=(J7 h0 (J7 h1 (J7 h2 J1 s2) s1) s0)
def Jg{X:Cx}{e0:Expr}{t0:TE}{e1:Expr}{t1:TE}{e2:Expr}{t2:TE}{e3:Expr}{t3:TE}(h0:PE X e0 t0)(h1:PE X e1 t1)(h2:PE X e2 t2)(h3:PE X e3 t3)(s0:starEach [e0,e1,e2,e3] X.env=(false,eval e0 X.env)::starEach [e1,e2,e3] X.env:=by rfl)(s1:starEach [e1,e2,e3] X.env=(false,eval e1 X.env)::starEach [e2,e3] X.env:=by rfl)(s2:starEach [e2,e3] X.env=(false,eval e2 X.env)::starEach [e3] X.env:=by rfl)(s3:starEach [e3] X.env=(false,eval e3 X.env)::starEach [] X.env:=by rfl):PA X [e0,e1,e2,e3] (BC t0 (BC t1 (BC t2 (BC t3 tNil)))):=(J7 h0 (J7 h1 (J7 h2 (J7 h3 J1 s3) s2) s1) s0)
structure Df(K:aa)(mg:Str->Option Value)(n:Str)(s:Stmt)(ps:List Str)(a:Addr)(d:FuncData):Prop where
 F:Mi K n n s a d
 b:M1 K d ps []
 m:mg n=some (.ref a)
structure Dm(K:aa)(C:Addr)(n q:Str)(s:Stmt)(ps:List Str)(a:Addr)(d:FuncData):Prop where
 F:Mi K n q s a d
 b:M1 K d ps []
 t:Gp K C n a
def C1{X:Cx}{x:Str}{p pos:Pos}{k:Nat}{f:Addr}{fd:FuncData}{ps:List Str}{sp:Sp}{s:Stmt}{e:Expr}{es:List Expr}{t:TA}(F:r8 X.prog X.w X.K X.mg X.base E7 k f fd ps sp)(hr:M0 k X.A)(D:Df X.K X.mg x s ps f fd)(ha:PA X (e::es) t)(hg:Gl X x:=by rfl)(iy:(x==("__debug__":Str))=false:=by decide)(he:starEach (e::es) X.env=(false,eval e X.env)::starEach es X.env:=by rfl)(fV:(backTo pos (starEach es X.env)).any (·.1)=false:=by rfl):PE X (.Call (.Name x p) (e::es) [] pos) (XX sp [] E0 t):=x9 F hr hg D.m D.F.kp D.b .nil B4 ha iy he fV
structure Txt(K:aa)(mg:Str->Option Value)(t:Qu):Prop where
 u0t:Df K mg "is_whole" DZ ["thing"] t.x0i t.v0h
 v0l:Df K mg "divisor" FU Pm t.y0h t.v0n
 u0y:Df K mg "fraction" Eb ["top","bottom"] t.w0u t.v0b
 u0k:Df K mg "is_prime" Ea ["number"] t.x0e t.u0l
 p0i:Dm K t.w0m "nought" "Fractions.nought" Q1 [T1] t.q0a t.p0k
 q0p:Dm K t.w0m "one" "Fractions.one" W7 [T1] t.r0j t.q0n
 q0i:Dm K t.w0m "plus" "Fractions.plus" U5 Du t.q0v t.q0e
 p0u:Dm K t.w0m "times" "Fractions.times" R7 Du t.q0m t.p0p
 o0s:Dm K t.w0m "is_weight" "Fractions.is_weight" M5 Nn t.p0e t.o0t
 p0f:Dm K t.x0l "__init__" "Residues.__init__" O5 [T1,"prime"] t.p0n t.o0y
 p0w:Dm K t.x0l "nought" "Residues.nought" R6 [T1] t.q0j t.p0q
 q0r:Dm K t.x0l "one" "Residues.one" Z0 [T1] t.r0z t.q0q
 q0l:Dm K t.x0l "plus" "Residues.plus" W6 Du t.r0a t.q0k
 q0f:Dm K t.x0l "times" "Residues.times" U2 Du t.q0u t.q0g
 o0v:Dm K t.x0l "is_weight" "Residues.is_weight" M9 Nn t.p0j t.o0x
 p0z:Dm K t.y0v "is_field" "Field.is_field" U6 [T1] t.q0s t.q0b
 p0v:Dm K t.w0m "minus" "Fractions.minus" R8 Ei t.q0o t.p0r
 o0z:Dm K t.w0m "inverse" "Fractions.inverse" O6 Ei t.p0t t.p0g
 q0h:Dm K t.x0l "minus" "Residues.minus" U3 Ei t.q0w t.q0d
 p0h:Dm K t.x0l "inverse" "Residues.inverse" Q0 Ei t.q0c t.p0l
 s0o:Df K mg "times_row" Ah UV t.w0b t.s0q
 v0m:Df K mg "noughts" CV UT t.y0c t.w0h
 s0w:Df K mg "column_at" Aj Sn t.v0r t.s0y
 s0a:Df K mg "columns_of" Y4 [Av] t.v0f t.r0t
 y0r:Df K mg "dot" Ud [w9,C8,Mm] t.dot t.y0q
 x0a:Df K mg "row_by" EO UW t.y0o t.x0o
 s0m:Df K mg "by_column" Ak UY t.w0c t.t0i
 t0t:Df K mg "by_table" Bs II t.x0f t.t0z
 u0v:Df K mg "mirrored" Bo [R0] t.x0p t.u0f
 x0r:Df K mg "rooms" Lc [R0] t.y0u t.y0f
 p0b:Df K mg "need_same_letters" O3 Pm t.p0o t.p0a
 w0y:Df K mg "beside" Cq ZV t.y0p t.x0q
 r0r:Df K mg "put_beside" R5 II t.u0p t.r0y
 s0e:Df K mg "need_field" Bn [w9] t.u0c t.r0n
 w0a:Df K mg "leading" FQ [w9,C8,IJ] t.x0s t.v0i
 t0x:Df K mg "plus_row" Bm II t.x0h t.t0o
 w0n:Df K mg "cleared" FV [w9,BG,C8] t.x0w t.v0p
 y0l:Df K mg "keep" OR ZT t.keep t.y0m
 s0i:Df K mg "kept_rows" Cp [w9,V6,IJ] t.w0d t.t0a
 t0s:Df K mg "width_of" DR [V6] t.x0c t.v0c
 v0v:Df K mg "echelon" FT [w9,V6] t.echelon t.v0k
 r0v:Df K mg "free_words" Br [w9,IK,"grown"] t.t0w t.r0m
 o0w:Df K mg "with_letter_behind" J6 [w9,R0,"last"] t.p0m t.o0u
 r0w:Df K mg "free_ahead" L7 BO t.free_ahead t.s0b
 t0e:Df K mg "at_places" Al UU t.w0j t.t0j
 u0e:Df K mg "narrowed" U0 [w9,R0,BG] t.w0v t.u0h
 v0s:Df K mg "come_to" CW BO t.y0d t.v0x
 r0x:Df K mg "told_apart" Bl BO t.u0r t.r0p
 y0i:Df K mg "heads" Hd BO t.y0s t.y0e
 y0n:Df K mg "less" Ld II t.y0x t.d_less
 v0y:Df K mg "parting" CU UX t.x0x t.w0f
 p0c:Df K mg "grown_while_alike" O4 Xh t.p0s t.p0d
 v0g:Df K mg "walkable" T7 [w9,Dn,V6] t.x0d t.u0d
 y0b:Df K mg "alike" Am II t.alike t.y0a
 w0p:Df K mg "turning" CT II t.y0g t.v0j
 u0g:Df K mg "_law_next" DW ZR t.w0x t.u0x
 s0l:Df K mg "_law_state" Ck [Mn] t.v0t t.s0t
 r0d:Df K mg "_law_divisor" AA Xi t.t0m t.q0y
 w0g:Df K mg "_law_low" FR ["_law_top",Wl] t.x0z t.w0l
 t0v:Df K mg "_law_plus" DV Np t.w0z t.u0u
 t0d:Df K mg "_law_times" Cj Np t.v0u t.t0f
 t0c:Df K mg "_law_minus" Cn Pn t.w0i t.s0z
 x0j:Df K mg "_law_of" HA Xj t.y0k t.x0g
 v0d:Df K mg "_law_sort" DS [X5] t.x0k t.u0w
 u0o:Df K mg "_law_kind" DY [D5] t.w0r t.u0j
 r0o:Df K mg "_law_weight" Bp Xk t.u0i t.s0c
 q0z:Df K mg "_law_machine" M3 a0f t.s0k t.r0h
 s0s:Df K mg "_law_moved" Q3 a0g t.v0q t.t0k
 r0i:Df K mg "_law_swapped" K6 ZX t.s0p t.r0f
 u0b:Df K mg "_law_more" Y9 a0e t.w0w t.u0m
 r0g:Df K mg "_law_dressed" Az a0d t.t0n t.r0b
 t0u:Df K mg "_law_sign" DU [Tf] t.w0q t.t0y
 r0l:Df K mg "_law_inverse" Ay Pn t.s0h t.r0c
 t0p:Df K mg "_law_rank" U1 ZQ t.x0b t.t0q
 t0h:Df K mg "_law_words" Ai ZU t.w0o t.t0b
 w0e:Df K mg "_law_dot" FS ZY t.x0t t.v0w
 u0s:Df K mg "_law_step" Y8 UZ t.x0n t.u0q
 s0u:Df K mg "_law_ahead" Co Sq t.w0k t.t0l
 s0d:Df K mg "_law_behind" Y3 Sq t.u0a t.r0s
 p0y:Df K mg "_law_least_many" K9 ZW t.q0t t.p0x
 r0e:Df K mg "_law_letters" V2 [X5] t.s0x t.q0x
 x0m:Df K mg "_law_by" ER Nq t.y0j t.w0s
 r0q:Df K mg "_law_unlike" Bq Nq t.v0a t.r0u
 s0v:Df K mg "_law_turns" V9 a0h t.v0z t.s0n
 s0f:Df K mg "_law_right" Cm a0c t.v0o t.t0g
 y0t:Df K mg "law" Uc [Mn] t.law t.y0w
 s0r:Qs K t.w0m
 s0j:mg "Fractions"=some (.ref t.w0m)
 s0g:MkO K t.w0m
 u0n:Qs K t.x0l
 v0e:mg "Residues"=some (.ref t.x0l)
 u0z:Mk K t.x0l t.p0n
 x0v:Qs K t.y0v
 x0y:mg "Field"=some (.ref t.y0v)
 x0u:MkO K t.y0v
 z_isinstance:mg "isinstance"=none
 z_int:mg "int"=none
 z_bool:mg "bool"=none
 z_abs:mg "abs"=none
 z_tuple:mg "tuple"=none
 z_len:mg "len"=none
 c_GREATEST_PRIME:∃tk,mg "GREATEST_PRIME"=some (Value.int 1000000 tk)
 z_range:mg "range"=none
 z_zip:mg "zip"=none
 z_reversed:mg "reversed"=none
 z_sorted:mg "sorted"=none
 z_list:mg "list"=none
 z_max:mg "max"=none
 z_all:mg "all"=none
 k_ii:PySem.W.kitOne K (.type "int") (.type "int")=some true
 k_ib:PySem.W.kitOne K (.type "int") (.type "bool")=some false
 k_tt:PySem.W.kitOne K (.type "tuple") (.type "tuple")=some true
 k_bb:PySem.W.kitOne K (.type "bool") (.type "bool")=some true
 nP:EA K t.x0l "prime"
 iF_is_field:PySem.W.findIn K (.ref t.w0m) "is_field"=some (some (.ref t.q0s))
 iR_is_field:PySem.W.findIn K (.ref t.x0l) "is_field"=some (some (.ref t.q0s))
 k_ll:PySem.W.kitOne K (.type "list") (.type "list")=some true
 d_tabs:([t.P_echelon,t.P_free_ahead,t.P_alike]:List Addr).Nodup
 k_ss:PySem.W.kitOne K (.type "str") (.type "str")=some true
 tb_echelon:PySem.W.tabIn K "echelon"=some (t.c_echelon,t.P_echelon)
 t0r:PySem.W.nsIn K mainGlobals "echelon"=some (some (.ref t.echelon))
 tb_free_ahead:PySem.W.tabIn K "free_ahead"=some (t.c_free_ahead,t.P_free_ahead)
 r0k:PySem.W.nsIn K mainGlobals "free_ahead"=some (some (.ref t.free_ahead))
 tb_alike:PySem.W.tabIn K "alike"=some (t.c_alike,t.P_alike)
 w0t:PySem.W.nsIn K mainGlobals "alike"=some (some (.ref t.alike))
structure Wc(mg:Str->Option Value)(base:Heap)(t:Qu):Prop where
 echelon:Tb mg base t.c_echelon t.P_echelon
 free_ahead:Tb mg base t.c_free_ahead t.P_free_ahead
 alike:Tb mg base t.c_alike t.P_alike
def Dx{K:aa}{a:Addr}{xs:List V}{u:V}{i:Nat}{G:Hp}{M:V->Hp->Prop}(h:l9 K G a xs)(e:xs[i]?=some u)(m:M u G):(VW K a).go i G/\∀x H',(VW K a).yld i G x H'->M x H':=⟨za ⟨h,e⟩,λx H' y=>by
 obtain⟨rfl,y⟩:=y;have:=y _ h;rw[e]at this;cases this;exact m⟩
def Fp{K:aa}{a:Addr}{xs:List V}{u:V}{i:Nat}{G:Hp}{M:V->Hp->Prop}(h:o7 K G a xs)(e:xs[i]?=some u)(m:M u G):(VX K a).go i G/\∀x H',(VX K a).yld i G x H'->M x H':=⟨za ⟨h,e⟩,λx H' y=>by
 obtain⟨rfl,y⟩:=y;have:=y _ h;rw[e]at this;cases this;exact m⟩
def JA{lo:Int}{n i:Nat}{G:Hp}{M:V->Hp->Prop}(h:i<n)(m:M (.int (lo+i)) G):(Yv lo n).go i G/\∀x H',(Yv lo n).yld i G x H'->M x H':=⟨h,λx H' y=>by
 obtain⟨rfl,rfl⟩:=y;exact m⟩
seal L2.Mg L2.PS L2.PE L2.PT L2.PW L2.PA L2.PG L2.o0m L2.PI
local macro_rules | `(tactic| fail)=>`(tactic| (first | apply Exists.intro | refine And.intro rfl ?_ | refine And.intro (by with_reducible assumption) ?_ | refine And.intro (l9.of (by assumption)) ?_ | refine And.intro (o7.of (by assumption)) ?_ | refine And.intro (BR.int _) ?_ | refine And.intro (BR.tup (by assumption)) ?_ | refine And.intro (‹Txt _ _ _›.k_ii) ?_ | refine And.intro (‹Txt _ _ _›.k_ib) ?_ | refine And.intro (‹Txt _ _ _›.k_tt) ?_ | refine And.intro (‹Txt _ _ _›.k_bb) ?_ | refine And.intro (‹Txt _ _ _›.nP) ?_ | refine And.intro (‹Txt _ _ _›.iF_is_field) ?_ | refine And.intro (‹Txt _ _ _›.iR_is_field) ?_ | refine And.intro (‹Txt _ _ _›.k_ll) ?_ | refine And.intro (‹Txt _ _ _›.d_tabs) ?_ | refine And.intro (‹Txt _ _ _›.k_ss) ?_))
section
variable{w:World}{K:aa}{mg:Str->Option Value}{base:Heap}{t:Qu}
def Q5(T:Txt K mg t):r8 Pr w K mg base E7 1 t.x0i t.v0h ["thing"] sp_whole:=by
 refine T.u0t.F.okA MM λ_ _ _ _ _ _ _ _ hr h=>?_;obtain⟨i,rfl,k⟩:=h;refine⟨_,(c4 (c9 (Ge (l4 CS bR T.z_isinstance boot_isinstance (D9 (O 0) (EU (v:=.ty "int") U T.z_int boot_int U))) (Ed (Pc (l4 CS bR T.z_isinstance boot_isinstance (D9 (O 0) (EU (v:=.ty "bool") U T.z_bool boot_bool U)))))))),?_⟩;dsimp only[z8,u7,y9,z5]
 (repeat fail)
 (try refine Bz ?_)
 (repeat fail)
 exact k
def HV(T:Txt K mg t):r8 Pr w K mg base E7 1 t.y0h t.v0n Pm sp_divisor:=by
 refine T.v0l.F.okA T6 λ_ _ _ _ H _ _ _ hr h=>?_;obtain⟨a,b,rfl,k⟩:=h;refine⟨_,(c5 (sT 2 T6.nd (l4 FA bR T.z_abs boot_abs (x5 (O 0)))) (c5 (sT 3 T6.nd (l4 FA bR T.z_abs boot_abs (x5 (O 1)))) (c5 (AM ar (l8 Ao (O 3) a9 (o4 _)) (c5 (sT 4 T6.nd (l7 E9 (O 2) (O 3))) (c5 (sT 2 T6.nd (O 3)) (c4 (sT 3 T6.nd (O 4)))))) (c4 (c9 (O 2)))))),?_⟩;refine vc U U U (Z U ?_);refine⟨λm σ H'=>∃g r l,σ=[some (.int a),some (.int b),some (.int g),some (.int r),l]/\m=r.toNat/\(0<=g/\0<=r/\dv g r=dv a b)/\H'=H,zf ⟨U,U,YM a b,U⟩,?_⟩;rintro m σ H' ⟨g,r,l,rfl,rfl,⟨g0,r0,e⟩,rfl⟩
 (repeat fail)
 refine AC (λpM=>?_) (λpM=>?_)
 . refine⟨λσ' gJ=>∃g' r' l',σ'=[some (.int a),some (.int b),some (.int g'),some (.int r'),l']/\r'.toNat < r.toNat/\(0<=g'/\0<=r'/\dv g' r'=dv a b)/\gJ=H',λσ' gJ ⟨g',r',l',e1,e2,e3,e4⟩=>⟨_,e2,g',r',l',e1,U,e3,e4⟩,?_⟩;refine vb U U (za ⟨U,U,(show r≠0 by omega),vb U U ?_⟩);exact zd ⟨U,d_less pM,b0l e pM,U⟩
 . refine Z U ?_
   (try dsimp only)
   rw[o0a e g0 r0 pM];exact k
def NR{a b:Int}(pb:0 < b):a.fdiv (dv a b)=tp a b/\b.fdiv (dv a b)=bt a b:=by
 unfold tp bt;rw[TY Y];exact⟨U,U⟩
def Qd{a b:Int}(nb:b < 0):a.fdiv (-(dv a b))=tp a b/\b.fdiv (-(dv a b))=bt a b:=by
 unfold tp bt;rw[TZ nb];exact⟨U,U⟩
def CF(T:Txt K mg t):r8 Pr w K mg base E7 36 t.w0u t.v0b ["top","bottom"] sp_fraction:=by
 refine T.u0y.F.okA Cf λ_ _ _ _ _ _ _ _ hr h=>?_;obtain⟨a,b,rfl,nb,k⟩:=h;have hd:dv a b≠0:=cZ (Iq nb);refine⟨_,(c5 (y8 (PW.pt (DE (U7 (O7 (C1 (Q5 T) hr.m T.u0t (x5 (O 0))))) (Ec (U7 (O7 (C1 (Q5 T) hr.m T.u0t (x5 (O 1)))))))) (c4 AN) o8) (c5 (y8 (l8 J8 (O 1) a9 (o4 _)) (c4 AN) o8) (c5 (sT 2 Cf.nd (C1 (HV T) hr.m T.v0l (D9 (O 0) (O 1)))) (c5 (y8 (l8 MZ (O 1) a9 (o4 _)) (c4 (sT 2 Cf.nd (QL KD (O 2)))) o8) (c4 (c9 (C9 (D9 (l7 (EW hr bD Qw) (O 0) (O 2)) (l7 (EW hr bD Qw) (O 1) (O 2)))))))))),?_⟩
 (repeat fail)
 (try refine T3 ?_)
 (repeat fail)
 (try refine T3 ?_)
 (repeat fail)
 refine Ep (λh0=>absurd h0 nb) (λ_=>?_)
 (repeat fail)
 refine AC (λh0=>?_) (λh0=>?_)
 . have iE:-(dv a b)≠0:=by omega
   (repeat fail)
   refine⟨sL,λp hp=>?_⟩;refine k _ _ (c6 hp) ?_
   (try dsimp only)
   rw[(Qd h0).1,(Qd h0).2];exact GX.new
 . (repeat fail)
   refine⟨sL,λp hp=>?_⟩;refine k _ _ (c6 hp) ?_
   (try dsimp only)
   rw[(NR Y).1,(NR Y).2];exact GX.new
def Ni(T:Txt K mg t):r8 Pr w K mg base E7 1 t.x0e t.u0l ["number"] sp_prime:=by
 refine T.u0k.F.okA Cd λ_ _ _ _ H _ _ _ hr h=>?_;obtain⟨n,rfl,⟨n2,n6,hp⟩,k⟩:=h;have PP:=NM hp;refine⟨_,(c5 (y8 (l8 MZ (O 0) a9 (o4 _)) (c4 (c9 X1)) o8) (c5 (sT 1 Cd.nd a9) (c5 (AM ar (l8 Yi (l7 Cw (O 1) (O 1)) (O 0) (o4 _)) (c5 (y8 (l8 J8 (l7 E9 (O 0) (O 1)) a9 (o4 _)) (c4 (c9 X1)) o8) (c4 (sT 1 Cd.nd (l7 N3 (O 1) a9))))) (c4 (c9 X1))))),?_⟩;refine Z U (za ⟨U,U,Z U ?_⟩);refine AC (λh0=>absurd h0 Y) (λ_=>?_);refine⟨λm σ H'=>∃f:Int,σ=[some (.int n),some (.int f)]/\m=(n+2 - f).toNat/\(2<=f/\f<=n+1)/\H'=H,za ⟨U,U,⟨Y,Y⟩,U⟩,?_⟩;rintro m σ H' ⟨f,rfl,rfl,⟨f2,fn⟩,rfl⟩;have cm:SX f f:=.inl ⟨Y,Y⟩;refine vb U U (za ⟨U,U,cm,Z U (za ⟨U,U,Z U ?_⟩)⟩);refine AC (λh0=>?_) (λh0=>?_)
 . refine⟨λσ' gJ=>∃f':Int,σ'=[some (.int n),some (.int f')]/\(n+2 - f').toNat < (n+2 - f).toNat/\(2<=f'/\f'<=n+1)/\gJ=H',λσ' gJ ⟨f',e1,e2,e3,e4⟩=>⟨_,e2,f',e1,U,e3,e4⟩,?_⟩;refine vb U U (za ⟨U,U,(show f≠0 by omega),U,Z U ?_⟩);have hs:=c0z f2 h0;refine Ep (λh1=>absurd h1 (PP.2 f f2 h0)) (λ_=>?_);refine Z U (za ⟨U,U,?_⟩);exact Z U ⟨Y,⟨Y,Y⟩,U⟩
 . exact k
def CG(T:Txt K mg t):r8 Pr w K mg base E7 2 t.p0n t.o0y [T1,"prime"] (WC t.x0l):=by
 refine T.p0f.F.okA Cg λ_ _ _ _ _ _ _ _ hr h=>?_;obtain⟨x,dx,n,rfl,hn,hx,k⟩:=h;refine⟨_,(c5 (y8 (PW.pt (DE (U7 (O7 (C1 (Q5 T) hr.m T.u0t (x5 (O 1))))) (DE (l8 Ao (O 1) (WX (v:=.int 1000000) U T.c_GREATEST_PRIME.choose_spec ⟨_,U⟩) (o4 _)) (Ec (U7 (O7 (C1 (Ni T) hr.m T.u0k (x5 (O 1))))))))) (c4 AN) o8) (c4 (Zv (O 0) (O 1) U))),?_⟩;dsimp only[z8,u7,y9,z5];refine vc U U U ?_
 (try refine T3 ?_)
 refine Z U (za ⟨U,U,Z U ?_⟩);refine AC (λh0=>absurd h0 (by have:=hn.2.1;omega)) (λ_=>?_);refine vb U U ⟨hn,Z U ?_⟩
 (try refine T3 ?_)
 refine vb U U ⟨x,_,dx,Z U ⟨hx,T.u0n,T.nP,(by show 0 < 1000;decide),?_⟩⟩;exact k
def Ht{n:Nat}(h:X0 JC n):n<=60000000:=by
 rcases h with h | h
 . exact h
 . have:=h 0 (⟨2,1,bD,by unfold dv;decide⟩:Fr);exact absurd this.1 bD
def Dt(T:Txt K mg t):r8 Pr w K mg base E7 1 t.q0a t.p0k [T1] (JR t.w0m [] JC NN Fr.zero):=by
 refine T.p0i.F.okA Dq λ_ _ _ _ _ _ _ _ hr h=>?_;obtain⟨x,rfl,_,k⟩:=h;refine⟨_,(c4 (c9 (C9 (D9 a9 a9)))),?_⟩;exact⟨sL,λp hp=>k _ _ (c6 hp) GX.new⟩
def Ff(T:Txt K mg t):r8 Pr w K mg base E7 38 t.q0v t.q0e Du (JS t.w0m [] JC NN Fr.add):=by
 refine T.q0i.F.okA EM λ_ _ _ _ _ _ _ _ hr h=>?_;obtain⟨k0,x,y,a,b,m,n,rfl,⟨_,⟨px,rfl,hx⟩,⟨py,rfl,hy⟩,sa,sb,ip⟩,k⟩:=h;have sa:a.sz m:=sa;have sb:b.sz n:=sb;have ip:=Ht ip;have m1:GE a.t b.b:=Ia (n:=n) sa.1 sb.2 Y;have m2:GE b.t a.b:=Ia (n:=m) sb.1 sa.2 Y;have m3:GE a.b b.b:=Ia (n:=n) sa.2 sb.2 Y;refine⟨_,(c4 (c9 (C1 (CF T) hr.m T.u0y (D9 (l7 N3 (l7 S4 (B5 g6 (O 1) a9) (B5 g6 (O 2) a9)) (l7 S4 (B5 g6 (O 2) a9) (B5 g6 (O 1) a9))) (l7 S4 (B5 g6 (O 1) a9) (B5 g6 (O 2) a9)))))),?_⟩;dsimp only[z8,u7,y9,z5]
 (repeat fail)
 exact⟨cZ (aL a.p b.p),k⟩
def Eg(T:Txt K mg t):r8 Pr w K mg base E7 38 t.q0m t.p0p Du (JS t.w0m [] JC NN Fr.mul):=by
 refine T.p0u.F.okA DO λ_ _ _ _ _ _ _ _ hr h=>?_;obtain⟨k0,x,y,a,b,m,n,rfl,⟨_,⟨px,rfl,hx⟩,⟨py,rfl,hy⟩,sa,sb,ip⟩,k⟩:=h;have sa:a.sz m:=sa;have sb:b.sz n:=sb;have ip:=Ht ip;have m1:GE a.t b.t:=Ia (n:=n) sa.1 sb.1 Y;have m3:GE a.b b.b:=Ia (n:=n) sa.2 sb.2 Y;refine⟨_,(c4 (c9 (C1 (CF T) hr.m T.u0y (D9 (l7 S4 (B5 g6 (O 1) a9) (B5 g6 (O 2) a9)) (l7 S4 (B5 g6 (O 1) a9) (B5 g6 (O 2) a9)))))),?_⟩;dsimp only[z8,u7,y9,z5]
 (repeat fail)
 exact⟨cZ (aL a.p b.p),k⟩
def Ef(T:Txt K mg t)(p:Int)(hp:2<=p):r8 Pr w K mg base E7 1 t.q0j t.p0q [T1] (JR t.x0l (Pb p) (An p hp) (NL p) (An p hp).zero):=by
 refine T.p0w.F.okA DN λ_ _ _ _ _ _ _ _ hr h=>?_;obtain⟨x,rfl,_,k⟩:=h;refine⟨_,(c4 (c9 a9)),?_⟩;exact k _ _ (h9.refl _) rfl
def Gf(T:Txt K mg t)(p:Int)(hp:2<=p):r8 Pr w K mg base E7 1 t.r0a t.q0k Du (JS t.x0l (Pb p) (An p hp) (NL p) (An p hp).add):=by
 refine T.q0l.F.okA FO λ_ _ _ _ _ _ _ _ hr h=>?_;obtain⟨k0,x,y,a,b,m,n,rfl,⟨⟨q,dx,rfl,hq⟩,rfl,rfl,sa,sb,ip⟩,k⟩:=h;refine⟨_,(c4 (c9 (l7 E9 (l7 N3 (O 1) (O 2)) (HI (O 0) U)))),?_⟩;dsimp only[z8,u7,y9,z5];refine vb U U (za ⟨U,U,Z U ⟨q,_,dx,za ⟨U,hq,T.u0n,T.nP,AQ p,za ⟨U,U,(show p≠0 by omega),?_⟩⟩⟩⟩);exact k _ _ (h9.refl _) rfl
def S5(T:Txt K mg t)(p:Int)(hp:2<=p)(hq:p<=1000000):r8 Pr w K mg base E7 1 t.q0u t.q0g Du (JS t.x0l (Pb p) (An p hp) (NL p) (An p hp).mul):=by
 refine T.q0f.F.okA EK λ_ _ _ _ _ _ _ _ hr h=>?_;obtain⟨k0,x,y,a,b,m,n,rfl,⟨⟨q,dx,rfl,hk⟩,rfl,rfl,sa,sb,ip⟩,k⟩:=h;have cm:SX a.x b.x:=.inl ⟨by have:=a.h0;omega,by have:=a.h1;omega⟩;refine⟨_,(c4 (c9 (l7 E9 (l7 Cw (O 1) (O 2)) (HI (O 0) U)))),?_⟩;dsimp only[z8,u7,y9,z5];refine vb U U (za ⟨U,U,cm,Z U ⟨q,_,dx,za ⟨U,hk,T.u0n,T.nP,AQ p,za ⟨U,U,(show p≠0 by omega),?_⟩⟩⟩⟩);exact k _ _ (h9.refl _) rfl
def Bw(T:Txt K mg t):r8 Pr w K mg base E7 2 t.p0e t.o0t Nn (TQ t.w0m [] JC NN):=by
 refine T.o0s.F.okA Bk λ_ _ _ _ H _ _ _ hr h=>?_;obtain⟨k0,x,a,rfl,⟨_,⟨px,rfl,hx⟩⟩,k⟩:=h;have hl:DA K (.ref px) H 2:=.inr ⟨_,l9.of hx,U⟩;refine⟨_,(c5 (y8 (PW.pt (DE (U7 (O7 (l4 CS bR T.z_isinstance boot_isinstance (D9 (O 1) (EU (v:=.ty "tuple") U T.z_tuple boot_tuple U))))) (Ec (l8 HK (l4 r9 bR T.z_len PySem.boot_len (x5 (O 1))) a9 (o4 _))))) (c4 (c9 X1)) o8) (c5 (y8 (PW.pt (DE (U7 (O7 (C1 (Q5 T) hr.m T.u0t (x5 (B5 g6 (O 1) a9))))) (Ec (U7 (O7 (C1 (Q5 T) hr.m T.u0t (x5 (B5 g6 (O 1) a9)))))))) (c4 (c9 X1)) o8) (c4 (c9 (Ge (P6 e0u (B5 g6 (O 1) a9) a9 (o4 _)) (Ed (P6 J8 (C1 (HV T) hr.m T.v0l (D9 (B5 g6 (O 1) a9) (B5 g6 (O 1) a9))) a9 (o4 _)))))))),?_⟩;dsimp only[z8,u7,y9,z5];refine Z U (zf ⟨U,BR.tup hx,T.k_tt,Z U ?_⟩)
 (try refine T3 ?_)
 refine Z U (za ⟨U,hl,U,Z U ?_⟩)
 (try dsimp only)
 refine Ke (λne=>absurd U ne) (λ_=>?_);refine Z U (zf ⟨U,U,l9.of hx,U,vb U U ?_⟩)
 (try refine T3 ?_)
 refine Z U (zf ⟨U,U,l9.of hx,U,vb U U ?_⟩)
 (try refine T3 ?_)
 (try refine T3 ?_)
 refine Z U (zf ⟨U,U,l9.of hx,U,za ⟨U,U,Z U ?_⟩⟩);refine AC (λ_=>?_) (λh0=>absurd a.p Y);refine Z U (zf ⟨U,U,l9.of hx,U,Z U (zf ⟨U,U,l9.of hx,U,za ⟨U,U,?_⟩⟩)⟩);rw[show decide (V.int (dv a.t a.b)=V.int 1)=true from decI a.l];exact k
def BN(T:Txt K mg t)(p:Int)(hp:2<=p):r8 Pr w K mg base E7 2 t.p0j t.o0x Nn (TQ t.x0l (Pb p) (An p hp) (NL p)):=by
 refine T.o0v.F.okA BL λ_ _ _ _ H _ Q _ hr h=>?_;obtain⟨k0,x,a,rfl,⟨⟨q,dx,rfl,hq⟩,rfl⟩,k⟩:=h;have a0:=a.h0;have a1:=a.h1;refine⟨_,(c4 (c9 (Ge (C1 (Q5 T) hr.m T.u0t (x5 (O 1))) (Ed (UB Yi MZ a9 (O 1) (HI (O 0) U)))))),?_⟩;dsimp only[z8,u7,y9,z5];refine vc U U U ?_;refine Bz ?_;refine Z U (za ⟨U,U,Z U ?_⟩);refine AC (λ_=>?_) (λh0=>absurd a0 Y);refine Z U ⟨q,_,dx,za ⟨U,hq,T.u0n,T.nP,AQ p,za ⟨U,U,?_⟩⟩⟩;have e:Q (V.bl (decide (Re.x (p:=p) a < p))) H:=by rw[decide_eq_true a1];exact k
 exact e
def Gg(T:Txt K mg t):r8 Pr w K mg base E7 1 t.r0j t.q0n [T1] (JR t.w0m [] JC NN Fr.one):=by
 refine T.q0p.F.okA FP λ_ _ _ _ _ _ _ _ hr h=>?_;obtain⟨x,rfl,_,k⟩:=h;refine⟨_,(c4 (c9 (C9 (D9 a9 a9)))),?_⟩;exact⟨sL,λp hp=>k _ _ (c6 hp) GX.new⟩
def GK(T:Txt K mg t)(p:Int)(hp:2<=p):r8 Pr w K mg base E7 1 t.r0z t.q0q [T1] (JR t.x0l (Pb p) (An p hp) (NL p) (An p hp).one):=by
 refine T.q0r.F.okA GI λ_ _ _ _ _ _ _ _ hr h=>?_;obtain⟨x,rfl,_,k⟩:=h;refine⟨_,(c4 (c9 a9)),?_⟩;exact k _ _ (h9.refl _) rfl
def Aq(T:Txt K mg t):r8 Pr w K mg base E7 1 t.q0s t.q0b [T1] (d0a true):=by
 refine T.p0z.F.okA EN λ_ _ _ _ _ _ _ _ hr h=>?_;obtain⟨x,rfl,k⟩:=h;exact⟨_,(c4 (c9 X1)),k⟩
def Yx(x:Fr):Fr:=⟨-x.t,x.b,x.p,by rw[b0i];exact x.l⟩
def T5(x:Fr):Fr:=if h:x.t≠0 then⟨tp x.b x.t,bt x.b x.t,Ew h,n0g h⟩else x
def BE{x:Fr}(h:x≠Fr.zero):x.t≠0:=λe=>by
 refine h (Fr.eq_of e ?_);have h1:=x.l;rw[e]at h1;have h2:dv 0 x.b=x.b:=by rw[Hl,LW];have:=x.p;omega
 rw[h2]at h1;exact h1
def Oi{x:Fr}(h:x.t≠0):T5 x=⟨tp x.b x.t,bt x.b x.t,Ew h,n0g h⟩:=by unfold T5;rw[dif_pos h]
def Dk{x:Fr}(h:x.t≠0):(T5 x).t=tp x.b x.t:=by rw[Oi h]
def Dl{x:Fr}(h:x.t≠0):(T5 x).b=bt x.b x.t:=by rw[Oi h]
def Eh(T:Txt K mg t):r8 Pr w K mg base E7 1 t.q0o t.p0r Ei (TN t.w0m [] JC NN Yx):=by
 refine T.p0v.F.okA DP λ_ _ _ _ _ _ _ _ hr h=>?_;obtain⟨k0,x,a,rfl,⟨_,⟨px,rfl,hx⟩⟩,k⟩:=h;refine⟨_,(c4 (c9 (C9 (D9 (QL KD (B5 g6 (O 1) a9)) (B5 g6 (O 1) a9))))),?_⟩;dsimp only[z8,u7,y9,z5]
 (repeat fail)
 exact⟨sL,λp hp=>k _ _ (c6 hp) GX.new⟩
def CH(T:Txt K mg t):r8 Pr w K mg base E7 37 t.p0t t.p0g Ei (TR t.w0m [] JC NN T5):=by
 refine T.o0z.F.okA Ci λ_ _ _ _ _ _ _ _ hr h=>?_;obtain⟨k0,x,a,rfl,⟨_,⟨px,rfl,hx⟩,na⟩,k⟩:=h;have h0:=BE (x:=a) na;refine⟨_,(c4 (c9 (C1 (CF T) hr.m T.u0y (D9 (B5 g6 (O 1) a9) (B5 g6 (O 1) a9))))),?_⟩;dsimp only[z8,u7,y9,z5]
 (repeat fail)
 refine λv H' q f=>k v H' q ?_;show GX H' v (T5 a).t (T5 a).b;rw[Dk h0,Dl h0];exact f
def Yr(p:Int)(hp:2<=p)(a:Re p):Re p:=Re.of p Y (-a.x)
def Ys(p:Int)(hp:2<=p)(a:Re p):Re p:=⟨ri p a.x,(Yc Y).1,(Yc Y).2⟩
def Fe(T:Txt K mg t)(p:Int)(hp:2<=p):r8 Pr w K mg base E7 1 t.q0w t.q0d Ei (TN t.x0l (Pb p) (An p hp) (NL p) (Yr p hp)):=by
 refine T.q0h.F.okA EL λ_ _ _ _ _ _ _ _ hr h=>?_;obtain⟨k0,x,a,rfl,⟨⟨q,dx,rfl,hq⟩,rfl⟩,k⟩:=h;refine⟨_,(c4 (c9 (l7 E9 (QL KD (O 1)) (HI (O 0) U)))),?_⟩;dsimp only[z8,u7,y9,z5];refine vc U U U ⟨q,_,dx,za ⟨U,hq,T.u0n,T.nP,AQ p,za ⟨U,U,(show p≠0 by omega),?_⟩⟩⟩;exact k _ _ (h9.refl _) rfl
def half{l:Int}(h:0 < l):0<=l.fdiv 2/\(l.fdiv 2).toNat < l.toNat:=by
 rw[dy l bD];omega
def Ds(T:Txt K mg t)(p:Int)(hp:2<=p)(hq:p<=1000000):r8 Pr w K mg base E7 3 t.q0c t.p0l Ei (TR t.x0l (Pb p) (An p hp) (NL p) (Ys p hp)):=by
 refine T.p0h.F.okA B7 λ_ _ _ _ H _ _ _ hr h=>?_;obtain⟨k0,x,a,rfl,⟨⟨q,dx,rfl,jI⟩,rfl,na⟩,k⟩:=h;have hk:∀{H':Hp},h9 H H'->H' q=some (.ins t.x0l dx (Pb p)):=λe=>e _ _ jI;have nt:(Pb p).lookup ("times":Str)=none:=Bt p dK;refine⟨_,(c5 (y8 (l8 J8 (O 1) a9 (o4 _)) (c4 AN) o8) (c5 (sT 2 B7.nd a9) (c5 (sT 3 B7.nd (O 1)) (c5 (sT 4 B7.nd (l7 Aa (HI (O 0) U) a9)) (c5 (AM ar (l8 Ao (O 4) a9 (o4 _)) (c5 (y8 (l8 J8 (l7 E9 (O 4) a9) a9 (o4 _)) (c4 (sT 2 B7.nd (V4 (O 0) T.u0n T.q0f.t (S5 T p hp hq) hr.m T.q0f.b .nil B4 (D9 (O 2) (O 3))))) o8) (c5 (sT 3 B7.nd (V4 (O 0) T.u0n T.q0f.t (S5 T p hp hq) hr.m T.q0f.b .nil B4 (D9 (O 3) (O 3)))) (c4 (sT 4 B7.nd (l7 Cy (O 4) a9)))))) (c4 (c9 (O 2)))))))),?_⟩;dsimp only[z8,u7,y9,z5];refine Z U ⟨U,Z U ?_⟩;refine Ep (λh0=>absurd (Re.eq_of h0) na) (λh0=>?_);refine vb U U ⟨q,_,dx,za ⟨U,jI,T.u0n,T.nP,AQ p,za ⟨U,U,?_⟩⟩⟩;refine⟨λm σ H'=>∃l pr sq:Int,σ=[sr q,some (.int a.x),some (.int pr),some (.int sq),some (.int l)]/\m=l.toNat/\(0<=l/\0<=sq/\sq < p/\Oh p a.x l pr sq)/\h9 H H',zf ⟨U,U,⟨Y,a.h0,a.h1,Uo hp⟩,h9.refl _⟩,?_⟩;rintro m σ H' ⟨l,pr,sq,rfl,rfl,⟨l0,s0,s1,ri⟩,qq⟩;refine Z U (za ⟨U,U,Z U ?_⟩);refine AC (λhl=>?_) (λhl=>?_)
 . refine⟨λσ' gJ=>∃l' pf lQ:Int,σ'=[sr q,some (.int a.x),some (.int pf),some (.int lQ),some (.int l')]/\l'.toNat < l.toNat/\(0<=l'/\0<=lQ/\lQ < p/\Oh p a.x l' pf lQ)/\h9 H gJ,λσ' gJ ⟨l',pf,lQ,e1,e2,e3,e4⟩=>⟨_,e2,l',pf,lQ,e1,U,e3,e4⟩,?_⟩;have fd:=half hl;have m0:∀S:SR,X0 S (0+0):=λ_=>.inl bD;refine Z U (za ⟨U,U,(show(2:Int)≠0 by decide),U,Z U ?_⟩);refine Ep (λho=>?_) (λho=>?_)
   . refine Z U (zd ⟨U,hk qq,nt,vb U U (zd ⟨(⟨pr,ri.2.1,ri.2.2⟩:Re p),(⟨sq,s0,s1⟩:Re p),0,0,U,⟨za ⟨U,hk qq⟩,U,U,trivial,trivial,m0 _⟩,λv1 H1 q1 f1=>?_⟩)⟩);obtain rfl:v1=.int ((pr * sq).fmod p):=f1;have s2:=qq.trans q1;refine Z U (zd ⟨U,hk s2,nt,vb U U (zd ⟨(⟨sq,s0,s1⟩:Re p),(⟨sq,s0,s1⟩:Re p),0,0,U,⟨za ⟨U,hk s2⟩,U,U,trivial,trivial,m0 _⟩,λv2 H2 q2 f2=>?_⟩)⟩);obtain rfl:v2=.int ((sq * sq).fmod p):=f2;refine Z U (za ⟨U,U,⟨by decide,bD⟩,?_⟩);exact zd ⟨U,fd.2,⟨fd.1,(OT Y).1,(OT Y).2,Zq Y ri hl (by rw[<- fe bD];exact ho)⟩,s2.trans q2⟩
   . refine Z U (zd ⟨U,hk qq,nt,vb U U (zd ⟨(⟨sq,s0,s1⟩:Re p),(⟨sq,s0,s1⟩:Re p),0,0,U,⟨za ⟨U,hk qq⟩,U,U,trivial,trivial,m0 _⟩,λv2 H2 q2 f2=>?_⟩)⟩);obtain rfl:v2=.int ((sq * sq).fmod p):=f2;refine Z U (za ⟨U,U,⟨by decide,bD⟩,?_⟩);exact zd ⟨U,fd.2,⟨fd.1,(OT Y).1,(OT Y).2,WT Y ri hl (by rw[<- fe bD];exact ho)⟩,qq.trans q2⟩
 . refine Z U ?_;have e:=Zn ri hl;refine k _ _ qq ?_;show V.int pr=.int (Mine.ri p a.x);rw[e]
def b0s{p:Int}{hp:2<=p}{x:Re p}(h:x≠(An p hp).zero):0 < x.x:=by
 have h0:=x.h0;by_cases e:x.x=0
 . exact absurd (Re.eq_of e) h
 . omega
def R_fr(T:Txt K mg t):g9 Pr w K mg base where
 S:=JC
 C:=t.w0m
 fs:=[]
 cl:=T.s0r
 is:=NN
 same e h:=GX.same e h
 isd h:=GX.is h
 F:={
  neg:=Yx
  inv:=T5
  add_neg:=λx=>Fr.eq_of (HF x.p).1 (HF x.p).2
  mul_inv:=λx h=>Fr.eq_of (by show tp (x.t * (T5 x).t) (x.b * (T5 x).b)=1;rw[Dk (BE h),Dl (BE h)];exact(JP (BE h) x.nb).1) (by show bt (x.t * (T5 x).t) (x.b * (T5 x).b)=1;rw[Dk (BE h),Dl (BE h)];exact(JP (BE h) x.nb).2)
  sz_neg:=λm x h=>⟨by show(-x.t).natAbs<=_;rw[Int.natAbs_neg];exact h.1,h.2⟩
  sz_inv:=λm x h s=>⟨by rw[Dk (BE h)];exact ag (Qx (BE h)) s.2,by rw[Dl (BE h)];exact ag (Rx (BE h)) s.1⟩ }
 B:=n0t
 f_plus:=_
 d_plus:=_
 t_plus:=T.q0i.t
 b_plus:=T.q0i.b
 l_plus:=rfl
 G_plus:=(Ff T).mono bD
 f_times:=_
 d_times:=_
 t_times:=T.p0u.t
 b_times:=T.p0u.b
 l_times:=rfl
 G_times:=(Eg T).mono bD
 f_nought:=_
 d_nought:=_
 t_nought:=T.p0i.t
 b_nought:=T.p0i.b
 l_nought:=rfl
 G_nought:=(Dt T).mono bD
 f_one:=_
 d_one:=_
 t_one:=T.q0p.t
 b_one:=T.q0p.b
 l_one:=rfl
 G_one:=(Gg T).mono bD
 f_is_weight:=_
 d_is_weight:=_
 t_is_weight:=T.o0s.t
 b_is_weight:=T.o0s.b
 l_is_weight:=rfl
 G_is_weight:=(Bw T).mono bD
 f_minus:=_
 d_minus:=_
 t_minus:=T.p0v.t
 b_minus:=T.p0v.b
 l_minus:=rfl
 G_minus:=(Eh T).mono bD
 f_inverse:=_
 d_inverse:=_
 t_inverse:=T.o0z.t
 b_inverse:=T.o0z.b
 l_inverse:=rfl
 G_inverse:=(CH T).mono bD
 f_is_field:=_
 d_is_field:=_
 t_is_field:=⟨T.iF_is_field,T.p0z.t.2,T.p0z.t.3⟩
 b_is_field:=T.p0z.b
 l_is_field:=rfl
 G_is_field:=(Aq T).mono bD
def SV(T:Txt K mg t)(p:Int)(hp:2<=p)(hq:p<=1000000)(hP:Mf p=true):g9 Pr w K mg base where
 S:=An p hp
 C:=t.x0l
 fs:=Pb p
 cl:=T.u0n
 is:=NL p
 same _ h:=h
 isd {H v x} h:=by cases (show v=.int x.x from h);exact .int _
 F:={
  neg:=Yr p hp
  inv:=Ys p hp
  add_neg:=λx=>Re.eq_of (r_pm Y)
  mul_inv:=λx h=>Re.eq_of (Zp (NM hP).nat (b0s (hp:=hp) h) x.h1)
  sz_neg:=λ_ _ _=>trivial
  sz_inv:=λ_ _ _ _=>trivial }
 B:=e0p p hp
 f_plus:=_
 d_plus:=_
 t_plus:=T.q0l.t
 b_plus:=T.q0l.b
 l_plus:=Bt p dK
 G_plus:=(Gf T p hp).mono bD
 f_times:=_
 d_times:=_
 t_times:=T.q0f.t
 b_times:=T.q0f.b
 l_times:=Bt p dK
 G_times:=(S5 T p hp hq).mono bD
 f_nought:=_
 d_nought:=_
 t_nought:=T.p0w.t
 b_nought:=T.p0w.b
 l_nought:=Bt p dK
 G_nought:=(Ef T p hp).mono bD
 f_one:=_
 d_one:=_
 t_one:=T.q0r.t
 b_one:=T.q0r.b
 l_one:=Bt p dK
 G_one:=(GK T p hp).mono bD
 f_is_weight:=_
 d_is_weight:=_
 t_is_weight:=T.o0v.t
 b_is_weight:=T.o0v.b
 l_is_weight:=Bt p dK
 G_is_weight:=(BN T p hp).mono bD
 f_minus:=_
 d_minus:=_
 t_minus:=T.q0h.t
 b_minus:=T.q0h.b
 l_minus:=Bt p dK
 G_minus:=(Fe T p hp).mono bD
 f_inverse:=_
 d_inverse:=_
 t_inverse:=T.p0h.t
 b_inverse:=T.p0h.b
 l_inverse:=Bt p dK
 G_inverse:=(Ds T p hp hq).mono bD
 f_is_field:=_
 d_is_field:=_
 t_is_field:=⟨T.iR_is_field,T.p0z.t.2,T.p0z.t.3⟩
 b_is_field:=T.p0z.b
 l_is_field:=Bt p dK
 G_is_field:=(Aq T).mono bD
inductive So(T:Txt K mg t):g9 Pr w K mg base->Str->Int->Prop
 | fr:So T (R_fr T) "fractions" 0
 | re (p:Int) (hp:2<=p) (hq:p<=1000000) (hi:Mf p=true):So T (SV T p hp hq hi) "residues" p
def F5(_:Hp)(v:V)(_:Str)(p:Int):Prop:=v=.int p
def F5.same{H H':Hp}{v:V}{nm:Str}{p:Int}(_:x4 H H')(h:F5 H v nm p):F5 H' v nm p:=h
def Dr(H:Hp)(a:Addr):Prop:=∃x:Int,H a=some (.lst [.int x])\/∃d:Int,H a=some (.lst [.int d,.int x])
def j9(a:Addr)(H H':Hp):Prop:=∀b o,b≠a->H b=some o->H' b=some o
def j9.refl(a:Addr)(H:Hp):j9 a H H:=λ_ _ _ h=>h
def j9.trans{a:Addr}{H H1 H2:Hp}(x:j9 a H H1)(y:j9 a H1 H2):j9 a H H2:=λb o n h=>y b o n (x b o n h)
theorem j9.upd{a:Addr}{H:Hp}{o:HO}:j9 a H (upd H a o):=λb u n h=>by rw[l6 n];exact h
def j9.of{a:Addr}{H H':Hp}(x:h9 H H'):j9 a H H':=λb o _ h=>x b o h
def sp_next:Sp:=λvs H Q _=>∃(a:Addr) (m:Int),vs=[.ref a,.int m]/\(Dr H a/\0 < m/\m<=1000000000000000)/\∀(r:Int) H',j9 a H H'->Dr H' a->0<=r->r < m->Q (.int r) H'
def Tz(K:aa):Sp:=λvs H Q _=>∃(a:Addr) (ns:List Int),vs=[.ref a]/\o7 K H a (ns.map V.int)/\ns.length<=63/\∀b H',H b=none->h9 H H'->Dr H' b->Q (.ref b) H'
def JT{m:Int}(h:0 < m)(h':m<=1000000000000000)(x:Int):Yz x m:=by
 refine⟨Y,?_⟩;have:m.natAbs<=2 ^ 50:=by
  have e:(2:Nat) ^ 50=1125899906842624:=by decide
  omega
 by_cases e:m.natAbs=0
 . rw[e];decide
 . rw[Nat.log2_lt e];exact Nat.lt_of_le_of_lt this (Nat.pow_lt_pow_right bD bD)
def w8(T:Txt K mg t):r8 Pr w K mg base E7 1 t.w0x t.u0x ZR sp_next:=by
 refine T.u0g.F.okA Gs λ_ _ _ _ H _ _ _ hr h=>?_;obtain⟨a,m,rfl,⟨⟨x,hD⟩,m0,m1⟩,k⟩:=h;refine⟨_,(c5 (y8 (l8 J8 (l4 r9 bR T.z_len PySem.boot_len (x5 (O 0))) a9 (o4 _)) (c5 (sT 2 Gs.nd (l7 E9 (B5 z9 (O 0) a9) (O 1))) (c5 (Z4 (l7 Cy (B5 z9 (O 0) a9) (O 1)) (Ct (O 0) a9 V7)) (c5 (y8 (l8 J8 (B5 z9 (O 0) a9) a9 (o4 _)) (c4 (E8 (S3 bf PySem.F.slot_list_pop PySem.F.type_list_pop Vb (O 0) (x5 a9)))) o8) (c4 (c9 (O 2)))))) o8) (c5 (Z4 (l7 E9 (l7 N3 (l7 Cw (B5 z9 (O 0) a9) a9) a9) a9) (Ct (O 0) a9 V7)) (c4 (c9 (l7 E9 (l7 Cy (B5 z9 (O 0) a9) a9) (O 1)))))),?_⟩;dsimp only[z8,u7,y9,z5];rcases hD with hD | ⟨d,hD⟩
 . have lc:DA K (.ref a) H 1:=.inl ⟨_,o7.of hD,U⟩;refine Z U (za ⟨U,lc,U,Z U ?_⟩);refine Ep (λh=>absurd h bD) (λ_=>?_);refine Z U (zf ⟨U,U,o7.of hD,U,za ⟨U,U,.inr ⟨by decide,bD⟩,za ⟨U,U,za ⟨U,U,(show(2305843009213693951:Int)≠0 by decide),?_⟩⟩⟩⟩);refine Z U (zf ⟨U,U,hD,U,?_⟩);refine Z U (zf ⟨U,U,o7.of b9,U,za ⟨U,U,⟨by decide,bD⟩,Z U (za ⟨U,U,(show m≠0 by omega),?_⟩)⟩⟩);exact k _ _ j9.upd ⟨_,.inl b9⟩ (bK _ m0) (bE _ m0)
 . have lc:DA K (.ref a) H 2:=.inl ⟨_,o7.of hD,U⟩;refine Z U (za ⟨U,lc,U,Z U ?_⟩);refine Ep (λ_=>?_) (λh=>absurd U h);refine Z U (zf ⟨U,U,o7.of hD,U,Z U (za ⟨U,U,(show m≠0 by omega),?_⟩)⟩);refine Z U (zf ⟨U,U,o7.of hD,U,Z U (za ⟨U,U,JT m0 m1 _,?_⟩)⟩);refine Z U (zf ⟨U,U,hD,U,?_⟩);refine Z U (zf ⟨U,U,o7.of b9,U,U,Z U ?_⟩);refine Ep (λ_=>?_) (λ_=>?_)
   . refine Z U ⟨.inl ⟨U,_,o7.of b9⟩,zg ⟨U,U,b9,bD,bD,U,U,?_⟩⟩;refine Z U ?_;exact k _ _ (j9.upd.trans j9.upd) ⟨x,.inl b9⟩ (bK _ m0) (bE _ m0)
   . refine Z U ?_;exact k _ _ j9.upd ⟨x,.inr ⟨_,b9⟩⟩ (bK _ m0) (bE _ m0)
def Ll(T:Txt K mg t):r8 Pr w K mg base E7 1 t.v0t t.s0t [Mn] (Tz K):=by
 refine T.s0l.F.okA X9 λ_ _ _ _ H _ Q _ hr h=>?_;obtain⟨a,ns,rfl,hS,eJ,k⟩:=h;refine⟨_,(c5 (sT 1 X9.nd a9) (c5 (C6 ar U (B6 (HH WE (O 0) Lh (Lg a9))) (gN 2 X9.nd) (c4 (sT 1 X9.nd (l7 E9 (l7 N3 (l7 N3 (l7 Cw (O 1) a9) (l7 E9 (O 2) (l7 ZF a9 a9))) a9) a9)))) (c5 (y8 (PW.pt (OV (l8 Ao (l4 r9 bR T.z_len PySem.boot_len (x5 (O 0))) a9 (o4 _)) (OV (l8 Ao (B5 z9 (O 0) a9) a9 (o4 _)) (QI (l8 J8 (l7 E9 (B5 z9 (O 0) a9) a9) a9 (o4 _)))))) (c4 (c9 (D0 (D9 (l7 Cy (B5 z9 (O 0) a9) a9) (O 1))))) o8) (c4 (c9 (D0 (x5 (O 1)))))))),?_⟩;dsimp only[z8,u7,y9,z5];refine vb U U (za ⟨U,hS,λc1 vU=>?_⟩);have ec:Dy (ns.map V.int) none (some 200)=(ns.take 200).map V.int:=by
  rw[show(200:Int)=((200:Nat):Int)from rfl,VP,List.map_take]
 have s1:=c6 (o:=.lst (Dy (ns.map V.int) none (some 200))) vU;have k1:=b9 (H:=H) (a:=c1) (o:=.lst (Dy (ns.map V.int) none (some 200)));have kj:=s1.seq hS;clear vU;revert s1 k1 kj;generalize upd H c1 (.lst (Dy (ns.map V.int) none (some 200)))=H1;intro s1 k1 kj;rw[ec]at k1;refine⟨c1,U,⟨_,o7.of k1⟩,P1 (K:=K) (a:=c1) (xs:=(ns.take 200).map V.int) (λi σ H'=>∃(x:Int) (v:Option V),σ=[sr a,some (.int x),v]/\H'=H1) ⟨_,Z U U⟩ (λi σ H' _ ⟨_,_,_,e⟩=>e▸o7.of k1) ?_ ?_⟩
 . rintro i y σ H' hi ⟨x,v,rfl,rfl⟩;obtain⟨z,rfl⟩:∃z,y=V.int z:=by
    rw[aE]at hi;cases e:(ns.take 200)[i]? with
    | none=>rw[e]at hi;cases hi
    | some z=>rw[e]at hi;exact⟨z,(Option.some.inj hi).symm⟩
   refine Z U (za ⟨U,U,.inr ⟨by decide,bD⟩,Z U (za ⟨U,U,⟨by decide,bD,bD⟩,za ⟨U,U,(show((10:Int) ^ (30:Int).toNat)≠0 by decide),za ⟨U,U,za ⟨U,U,za ⟨U,U,(show(2305843009213693951:Int)≠0 by decide),?_⟩⟩⟩⟩⟩)⟩);exact za ⟨U,U⟩
 . rintro σ H' ⟨x,v,rfl,rfl⟩;have lc:DA K (.ref a) H' (ns.map V.int).length:=.inl ⟨_,kj,U⟩;rw[af]at lc;have last:c0m tNext (c0n (c0s (BC (YG 1) tNil))) { nx:=λ_ gJ=>Q .non gJ,rt:=Q } [sr a,some (.int x),v] H':=by
    refine Z U ⟨sL,λb hb=>?_⟩;exact k b _ (s1.free hb) (s1.trans (c6 hb)) ⟨x,.inl b9⟩
   refine Z U (za ⟨U,lc,za ⟨U,U,Z U ?_⟩⟩);refine AC (λh0=>?_) (λ_=>?_)
   . obtain⟨n0,g0⟩:∃n,ns[0]? = some n:=⟨ns[0]'Y,by simp⟩;have a0:Ry (ns.map V.int) 0=some (V.int n0):=B0 (j:=0) (by rw[aE,g0];rfl);refine Z U (zf ⟨U,U,kj,a0,za ⟨U,U,Z U ?_⟩⟩);refine AC (λ_=>?_) (λ_=>?_)
     . refine Z U (zf ⟨U,U,kj,a0,za ⟨U,U,(show(2:Int)≠0 by decide),U,Z U ?_⟩⟩);refine Ep (λ_=>?_) (λ_=>?_)
       . refine Z U (zf ⟨U,U,kj,a0,za ⟨U,U,⟨by decide,bD⟩,Z U ⟨sL,λb hb=>?_⟩⟩⟩);exact k b _ (s1.free hb) (s1.trans (c6 hb)) ⟨x,.inr ⟨_,b9⟩⟩
       . exact last
     . exact last
   . exact last
def Dr.same{H H':Hp}{a:Addr}(e:h9 H H')(h:Dr H a):Dr H' a:=by
 obtain⟨x,h | ⟨d,h⟩⟩:=h
 . exact⟨x,.inl (e _ _ h)⟩
 . exact⟨x,.inr ⟨d,e _ _ h⟩⟩
theorem Dr.lst{H:Hp}{a:Addr}(h:Dr H a):∃xs,H a=some (.lst xs):=by
 obtain⟨x,h | ⟨d,h⟩⟩:=h
 . exact⟨_,h⟩
 . exact⟨_,h⟩
def j9.tt{a:Addr}{H H':Hp}(s:j9 a H H')(d:Dr H a):x4 H H':=λp vs h=>s p _ (by
 rintro rfl;obtain⟨xs,e⟩:=d.lst;rw[h]at e;cases e) h
def j9.tup{a p:Addr}{H:Hp}{o:HO}(n:H p=none)(d:Dr H a):j9 a H (L2.upd H p o)/\Dr (L2.upd H p o) a:=⟨.of (c6 n),d.same (c6 n)⟩
def y6{H:Hp}{a:Addr}{xs:List V}{o:HO}(h:H a=some (.lst xs)):x4 H (upd H a o):=λb vs hb=>by
 rw[l6 (by rintro rfl;rw[h]at hb;cases hb)];exact hb
def Ag{H H1:Hp}{a:Addr}{o:HO}(s:h9 H H1)(n:H a=none):h9 H (upd H1 a o):=λb u hb=>by
 rw[l6 (j7 hb n)];exact s _ _ hb
def j9.put{a b:Addr}{H H1:Hp}{o:HO}(s:j9 a H H1)(n:H b=none):j9 a H (L2.upd H1 b o):=λc u hc hu=>by
 rw[l6 (j7 hu n)];exact s c u hc hu
def Dr.put{a b:Addr}{H:Hp}{o:HO}(d:Dr H a)(n:b≠a):Dr (L2.upd H b o) a:=by
 obtain⟨x,h | ⟨y,h⟩⟩:=d
 . exact⟨x,.inl (by rw[l6 (Ne.symm n)];exact h)⟩
 . exact⟨x,.inr ⟨y,by rw[l6 (Ne.symm n)];exact h⟩⟩
def US{H:Hp}{a p:Addr}(d:Dr H a)(n:H p=none):p≠a:=λe=>by
 obtain⟨xs,z⟩:=d.lst;rw[<- e,n]at z;cases z
def tx(l:List Nat):Str:=⟨l.toArray⟩
def vT(l:List Nat):V:=.str (tx l)
def Tj(a b:List Nat):tx a++tx b=tx (a++b):=by
 show(⟨a.toArray++b.toArray⟩:Str)=⟨(a++b).toArray⟩;simp
def P8(a:List Nat):(tx a).length=a.length:=by
 show a.toArray.size=a.length;simp
def Ou{l:List Nat}{i c:Nat}(h:(tx l).cps[i]? = some c):l[i]? = some c:=by simpa [tx] using h
def VG:(Str.ofString "")=tx []:=by decide +kernel
def Ti{l:List Nat}(h:∀c∈l,c < 128):(tx l).cps.all (· < 128)=true:=by
 show l.toArray.all (· < 128)=true;simp only[List.all_toArray,cJ,decide_eq_true_eq];exact h
def EH(l:List Nat):L2.EI (tx l)=l.map λc=>vT [c]:=by
 unfold L2.EI tx;simp only[List.map_inj_left];intro c _;rfl
abbrev i0(R:g9 Pr w K mg base)(n:Nat)(x:Nat->R.S.W):V->Hp->Prop:=N8 (λj u H=>R.is H u (x j)) n
theorem i0.same{R:g9 Pr w K mg base}{n:Nat}{x:Nat->R.S.W}{v:V}{H H':Hp}(s:x4 H H')(e:i0 R n x v H):i0 R n x v H':=e.mono s λ_ _ _ q=>R.same s q
def i0.congr{R:g9 Pr w K mg base}{n:Nat}{x y:Nat->R.S.W}{v:V}{H:Hp}(h:∀i,i < n->x i=y i)(r:i0 R n x v H):i0 R n y v H:=
 r.mono (x4.refl _) λj _ hj q=>by rw[<- h j hj];exact q
def i0.at{R:g9 Pr w K mg base}{n:Nat}{x:Nat->R.S.W}{v:V}{H:Hp}(r:i0 R n x v H){j:Nat}(hj:j < n):∃p vs u,v=.ref p/\l9 K H p vs/\Ry vs (j:Int)=some u/\R.is H u (x j):=by
 obtain⟨p,vs,rfl,hp,e⟩:=r;obtain⟨u,eu,q⟩:=e.2 j hj;exact⟨p,vs,u,U,l9.of hp,B0 eu,q⟩
def KJ(w:World)(K:aa)(mg:Str->Option Value)(base:Heap):Sp:=λvs H Q _=>∃(R:g9 Pr w K mg base),∃kv bv row n b x r,vs=[kv,bv,row]/\(Q9 R.C R.fs H kv/\R.is H bv b/\R.S.sz r b/\i0 R n x row H/\(∀i,i < n->R.S.sz r (x i))/\n<=1000/\X0 R.S (r+r))/\
 ∀v H',h9 H H'->i0 R n (λi=>R.S.mul b (x i)) v H'->Q v H'
def EX(T:Txt K mg t):r8 Pr w K mg base E7 41 t.w0b t.s0q UV (KJ w K mg base):=by
 refine T.s0o.F.okA KS λ_ _ _ _ H _ _ _ hr h=>?_;obtain⟨R,kv,bv,row,n,b,x,r,rfl,⟨⟨kp,dx,rfl,hk⟩,hb,lb,⟨p,us,rfl,hp,fW⟩,lx,hn,hz⟩,k⟩:=h;refine⟨_,(c4 (c9 (j6 h7 bR T.z_tuple boot_tuple (x5 (w5 (xs:=["x"]) U (oC UV (a8 Ah)) (G0 (O 2)) (p9 (i:=3) (by show List.Nodup ([w9,"by",C8,"x"]:List Str);decide +kernel) U (Or.inl U)) (V4 (O 0) R.cl R.t_times R.G_times hr.m R.b_times .nil B4 (D9 (O 1) (O 3)))))))),?_⟩;dsimp only[z8,u7,y9,z5];refine Z U ⟨p,U,⟨_,l9.of hp⟩,o6 (n:=n) (λj ys H2=>h9 H H2/\i3 (λi u H=>R.is H u (R.S.mul b (x i))) ys j H2) hn ⟨h9.refl _,i3.nil⟩ (λj ys H2 q=>q.2.1) ?_ ?_ ?_⟩
 . rintro j ys H2 hj ⟨q,e⟩;obtain⟨u,eu,pu⟩:=fW.2 j hj;refine Dx (l9.of (q _ _ hp)) eu ?_;refine⟨⟨[some _],U,U⟩,Z U (zd ⟨U,q _ _ hk,R.l_times,vb U U (zg ⟨r,r,U,⟨za ⟨U,q _ _ hk⟩,R.same q.t hb,R.same q.t pu,lb,lx j hj,hz⟩,λv H3 s3 f3=>?_⟩)⟩)⟩;exact⟨q.trans s3,(e.mono λ_ _ _ z=>R.same s3.t z).snoc f3⟩
 . rintro ys H2 ⟨q,e⟩;exact⟨_,l9.of (q _ _ hp),by rw[fW.1];exact ae _⟩
 . rintro ys H2 l ⟨q,e⟩ nl;have fU:=c6 (o:=.lst ys) nl;refine⟨l,ys,U,.inl ⟨o7.of b9,λl2 n2=>?_⟩⟩;have s2:=c6 (o:=.tup ys) n2;exact k _ _ (q.trans (fU.trans s2)) ⟨l2,ys,U,b9,e.mono λ_ _ _ z=>R.same (fU.trans s2).t z⟩
def IR(w:World)(K:aa)(mg:Str->Option Value)(base:Heap):Sp:=λvs H Q _=>∃(R:g9 Pr w K mg base),∃kv,vs=[kv]/\Q9 R.C R.fs H kv/\Q .non H
def DF(T:Txt K mg t):r8 Pr w K mg base E7 41 t.u0c t.r0n [w9] (IR w K mg base):=by
 refine T.s0e.F.okA IY λ_ _ _ _ _ _ _ _ hr h=>?_;obtain⟨R,kv,rfl,⟨kp,dx,rfl,hk⟩,k⟩:=h;refine⟨_,(c4 (y8 (U7 (O7 (AR (O 0) R.cl R.t_is_field R.G_is_field hr.m R.b_is_field .nil B4))) (c4 AN) o8)),?_⟩;refine Z U (zd ⟨U,hk,R.l_is_field,vb U U ?_⟩)
 (try refine T3 ?_)
 exact k
def Yk:Option Nat->V
 | none=>.non
 | some p=>.int (p:Nat)
def Xu{S:SR}{x:Nat->S.W}{i w:Nat}(h:AU x i=none)(n:x i≠S.zero)(hi:i < w):AU x w=some i:=by
 cases e:AU x w with
 | none=>exact absurd (V0 e i hi) n
 | some p=>
  obtain⟨a,b,c⟩:=M4 e;by_cases h1:p < i
  . exact absurd (V0 h p h1) b
  . by_cases h2:i < p
    . exact absurd (c i h2) n
    . rw[show p=i by omega]
def OI(w:World)(K:aa)(mg:Str->Option Value)(base:Heap):Sp:=λvs H Q _=>∃(R:g9 Pr w K mg base),∃kv rv,∃(n l:Nat),∃x,vs=[kv,rv,.int (l:Nat)]/\(Q9 R.C R.fs H kv/\i0 R n x rv H/\l<=n/\n<=1000)/\∀H',h9 H H'->Q (Yk (AU x l)) H'
def Pg(T:Txt K mg t):r8 Pr w K mg base E7 41 t.x0s t.v0i [w9,C8,IJ] (OI w K mg base):=by
 refine T.w0a.F.okA Hw λ_ _ _ _ H _ _ _ hr h=>?_;obtain⟨R,kv,rv,n,l,x,rfl,⟨⟨kp,dx,rfl,hk⟩,gv,hl,hn⟩,k⟩:=h;refine⟨_,(c5 (C6 ar U (C4 U T.z_range (x5 (O 2))) (gN 3 Hw.nd) (c4 (y8 (l8 (Cv hr.units) (B5 g6 (O 1) (O 3)) (AR (O 0) R.cl R.t_nought R.G_nought hr.m R.b_nought .nil B4) (o4 _)) (c4 (c9 (O 3))) o8))) (c4 (c9 Li))),?_⟩;dsimp only[z8,u7,y9,z5];refine vb U U ⟨Y,Y,AY (lo:=0) (n:=(l:Int).toNat) (λi σ H2=>∃v3,σ=[sr kp,some rv,si l,v3]/\h9 H H2/\AU x i=none) (Z U ⟨h9.refl _,U⟩) ?_ ?_⟩
 . rintro i σ H2 hi ⟨v3,rfl,q,z⟩;have hi:i < l:=by omega
   obtain⟨p,us,u,rfl,hp,hu,iu⟩:=i0.at (i0.same q.t gv) (show i < n by omega);rw[show(i:Int)=0+(i:Int) by omega]at hu;refine vb U U (zf ⟨U,U,hp,hu,Z U (zd ⟨U,q _ _ hk,R.l_nought,Z U ⟨za ⟨U,q _ _ hk⟩,λzv H3 s3 f3=>?_⟩⟩)⟩);by_cases e:x i=R.S.zero
   . refine R.neD (R.same s3.t iu) f3 e (Z U ?_)
     (try refine T3 ?_)
     refine Z U ⟨q.trans s3,?_⟩;exact LK λj hj=>by
      by_cases ej:j=i
      . rw[ej];exact e
      . exact V0 z j Y
   . refine R.neT (R.same s3.t iu) f3 e (Z U ?_)
     (try refine Bz ?_)
     have:=k _ (q.trans s3);rw[Xu z e hi]at this;refine Z U ?_;rw[show(0:Int)+(i:Int)=((i:Nat):Int) by omega];exact this
 . rintro σ H2 ⟨v3,rfl,q,z⟩;rw[show(l:Int).toNat=l by omega]at z;have:=k _ q;rw[z]at this;exact this
def Mx(w:World)(K:aa)(mg:Str->Option Value)(base:Heap):Sp:=λvs H Q _=>∃(R:g9 Pr w K mg base),∃kv ov hv,∃(n m m':Nat),∃x y,vs=[kv,ov,hv]/\(Q9 R.C R.fs H kv/\i0 R n x ov H/\i0 R n y hv H/\(∀i,i < n->R.S.sz m (x i)/\R.S.sz m' (y i))/\n<=1000/\X0 R.S (m+m'))/\
 ∀v H',h9 H H'->i0 R n (λi=>R.S.add (x i) (y i)) v H'->Q v H'
def Nc(T:Txt K mg t):r8 Pr w K mg base E7 41 t.x0h t.t0o II (Mx w K mg base):=by
 refine T.t0x.F.okA MH λ_ _ _ _ H _ _ _ hr h=>?_;obtain⟨R,kv,ov,hv,n,m,m',x,y,rfl,⟨⟨kp,dx,rfl,hk⟩,⟨fp,fs,rfl,hf,ef⟩,⟨gp,gs,rfl,hg,eg⟩,lx,hn,hz⟩,k⟩:=h;refine⟨_,(c4 (c9 (j6 h7 bR T.z_tuple boot_tuple (x5 (w5 (xs:=["x","y"]) U (oC II (a8 Bm)) (Cs U T.z_zip (D9 (O 1) (O 2))) (show PG _ _ (Ft K 2 _)from(J0 U (j8 (p9 (i:=3) (by show List.Nodup ([w9,BF,Bg,"x","y"]:List Str);decide +kernel) U (Or.inl U)) (j8 (p9 (i:=4) (by show List.Nodup ([w9,BF,Bg,"x","y"]:List Str);decide +kernel) U (Or.inl U)) D3)))) (V4 (O 0) R.cl R.t_plus R.G_plus hr.m R.b_plus .nil B4 (D9 (O 3) (O 4)))))))),?_⟩;dsimp only[z8,u7,y9,z5];refine vb U U ⟨.tup fp,.tup gp,za ⟨fs,gs,U,U,U,l9.of hf,l9.of hg,o6 (n:=n) (λj ys H2=>h9 H H2/\i3 (λi u H=>R.is H u (R.S.add (x i) (y i))) ys j H2) Y ⟨h9.refl _,i3.nil⟩ (λj ys H2 q=>q.2.1) ?_ ?_ ?_⟩⟩
 . rintro j ys H2 hj ⟨q,e⟩;obtain⟨u,eu,pu⟩:=ef.2 j hj;obtain⟨v,ev,O⟩:=eg.2 j hj;refine⟨⟨fs,gs,u,v,l9.of (q _ _ hf),l9.of (q _ _ hg),eu,ev⟩,λy' H' hy=>?_⟩;obtain⟨pp,x',y',rfl,np,rfl,f1,f2⟩:=hy;have e1:=f1 _ (l9.of (q _ _ hf));rw[eu]at e1;cases e1;have e2:=f2 _ (l9.of (q _ _ hg));rw[ev]at e2;cases e2;have s3:=c6 (o:=.tup [u,v]) np;have q3:=q.trans s3;refine⟨pp,Z U ⟨l9.of b9,U,za ⟨U,za ⟨U,U,⟨[some _,some _],U,U⟩,Z U (zd ⟨U,q3 _ _ hk,R.l_plus,vb U U (zg ⟨m,m',U,⟨za ⟨U,q3 _ _ hk⟩,R.same q3.t pu,R.same q3.t O,(lx j hj).1,(lx j hj).2,hz⟩,λv4 H4 s4 f4=>?_⟩)⟩)⟩⟩⟩⟩;exact⟨q3.trans s4,(e.mono λ_ _ _ z=>R.same (s3.trans s4).t z).snoc f4⟩
 . rintro ys H2 ⟨q,e⟩;exact⟨fs,gs,l9.of (q _ _ hf),l9.of (q _ _ hg),.inl ef.1.symm⟩
 . rintro ys H2 l ⟨q,e⟩ nl;have fU:=c6 (o:=.lst ys) nl;refine⟨l,ys,U,.inl ⟨o7.of b9,λl2 n2=>?_⟩⟩;have s2:=c6 (o:=.tup ys) n2;exact k _ _ (q.trans (fU.trans s2)) ⟨l2,ys,U,b9,e.mono λ_ _ _ z=>R.same (fU.trans s2).t z⟩
def FC(R:g9 Pr w K mg base)(W:Nat)(ks:List (Nat × (Nat->R.S.W))):Nat->V->Hp->Prop:=λi u H=>∃k q rv,ks[i]? = some k/\u=.ref q/\H q=some (.tup [.int (k.1:Nat),rv])/\i0 R W k.2 rv H
theorem FC.same{R:g9 Pr w K mg base}{W i:Nat}{ks:List (Nat × (Nat->R.S.W))}{u:V}{H H':Hp}(s:x4 H H')(h:FC R W ks i u H):FC R W ks i u H':=by
 obtain⟨k,q,rv,e,rfl,hq,r⟩:=h;exact⟨k,q,rv,e,U,s _ _ hq,i0.same s r⟩
def N9(R:g9 Pr w K mg base)(W:Nat)(ks:List (Nat × (Nat->R.S.W)))(a:Addr)(H:Hp):Prop:=∃us,H a=some (.lst us)/\i3 (FC R W ks) us ks.length H
theorem N9.same{R:g9 Pr w K mg base}{W:Nat}{ks:List (Nat × (Nat->R.S.W))}{a:Addr}{H H':Hp}(s:h9 H H')(h:N9 R W ks a H):N9 R W ks a H':=by
 obtain⟨us,ha,e⟩:=h;exact⟨us,s _ _ ha,e.mono λ_ _ _ q=>q.same s.t⟩
def OM(w:World)(K:aa)(mg:Str->Option Value)(base:Heap):Sp:=λvs H Q _=>∃(R:g9 Pr w K mg base),∃kv a rv,∃(W r:Nat),∃ks x,vs=[kv,.ref a,rv]/\(Q9 R.C R.fs H kv/\N9 R W ks a H/\(∀k∈ks,k.1 < W)/\i0 R W x rv H/\W<=1000/\Ol R.F W r ks x/\X0 R.S (3 * r))/\
 ∀v H',h9 H H'->i0 R W (clr R.F ks x) v H'->Q v H'
def HW(T:Txt K mg t):r8 Pr w K mg base E7 42 t.x0w t.v0p [w9,BG,C8] (OM w K mg base):=by
 refine T.w0n.F.okA Y7 λ_ _ _ _ H _ _ _ hr h=>?_;obtain⟨R,kv,a,rv,W,r,ks,x,rfl,⟨⟨kp,dx,rfl,hk⟩,⟨us,ha,eK⟩,fE,hR,hW,⟨zc,zr⟩,hS⟩,k⟩:=h;refine⟨_,(c5 (sT 3 Y7.nd (O 2)) (c5 (C6 ar U (B6 (O 1)) (J0 U (j8 (gN 4 Y7.nd) (j8 (gN 5 Y7.nd) D3))) (c4 (y8 (l8 (Cv hr.units) (B5 g6 (O 3) (O 4)) (AR (O 0) R.cl R.t_nought R.G_nought hr.m R.b_nought .nil B4) (o4 _)) (c4 (sT 3 Y7.nd (C1 (Nc T) hr.m T.t0x (S6 (O 0) (O 3) (C1 (EX T) hr.m T.s0o (S6 (O 0) (V4 (O 0) R.cl R.t_minus R.G_minus hr.m R.b_minus .nil B4 (x5 (B5 g6 (O 3) (O 4)))) (O 5))))))) o8))) (c4 (c9 (O 3))))),?_⟩;dsimp only[z8,u7,y9,z5];refine Z U ?_;refine Z U ⟨a,U,⟨_,o7.of ha⟩,P1 (K:=K) (a:=a) (xs:=us) (λi σ H2=>∃v3 v4 v5,σ=[sr kp,sr a,some rv,some v3,v4,v5]/\h9 H H2/\i0 R W (clr R.F (ks.take i) x) v3 H2) ⟨_,_,Z U ⟨h9.refl _,hR⟩⟩ (λi σ H2 _ ⟨_,_,_,_,q,_⟩=>o7.of (q _ _ ha)) ?_ ?_⟩
 . rintro i y σ H2 hi ⟨v3,v4,v5,rfl,q,jb⟩;obtain⟨il,kq,qa,ov,ek,rfl,hq,ro⟩:=eK.at hi;have fX:kq.1 < W:=fE kq (aK ek);have z0:=zc i Y;have ts:ks.take (i+1)=ks.take i++[kq]:=J2 ek;refine⟨qa,Z U ⟨l9.of (q _ _ hq),U,za ⟨U,za ⟨U,U,?_⟩⟩⟩⟩;obtain⟨p,gc,u,rfl,hp,hu,iu⟩:=i0.at jb fX;refine vb U U (zf ⟨U,U,hp,hu,Z U (zd ⟨U,q _ _ hk,R.l_nought,Z U ⟨za ⟨U,q _ _ hk⟩,λzv H3 s3 f3=>?_⟩⟩)⟩);have q3:=q.trans s3;by_cases e:clr R.F (ks.take i) x kq.1=R.S.zero
   . refine R.neD (R.same s3.t iu) f3 e (Z U ?_)
     (try refine T3 ?_)
     refine zd ⟨U,q3,?_⟩;rw[ts,Bc,Mu e];exact i0.same s3.t jb
   . refine R.neT (R.same s3.t iu) f3 e (Z U ?_)
     (try refine Bz ?_)
     obtain⟨p',us2,u2,e',sS,hu2,iu2⟩:=i0.at (i0.same s3.t jb) fX;cases e';refine vc U U U (Z U (zd ⟨U,q3 _ _ hk,R.l_minus,vb U U (zf ⟨U,U,sS,hu2,zd ⟨U,⟨za ⟨U,q3 _ _ hk⟩,iu2⟩,λmv H4 s4 f4=>?_⟩⟩)⟩));have q4:=q3.trans s4;refine Z U ⟨R,zI _ _ _ W _ kq.2 r ⟨U,⟨za ⟨U,q4 _ _ hk⟩,f4,R.F.sz_neg _ _ (z0 kq.1 fX),i0.same q4.t ro,zr kq (aK ek),hW,hS.le Y⟩,λtv H5 s5 r5=>?_⟩⟩;have q5:=q4.trans s5;refine⟨R,zJ _ _ _ W r (r+r) _ _ ⟨U,⟨za ⟨U,q5 _ _ hk⟩,i0.same (s3.trans (s4.trans s5)).t jb,r5,λj hj=>⟨z0 j hj,R.S.sz_mul _ _ _ _ (R.F.sz_neg _ _ (z0 kq.1 fX)) (zr kq (aK ek) j hj)⟩,hW,hS.le Y⟩,λO H6 s6 r6=>?_⟩⟩;refine zd ⟨U,q5.trans s6,?_⟩;rw[ts,Bc];exact r6
 . rintro σ H2 ⟨v3,v4,v5,rfl,q,r3⟩;have e1:=eK.1;refine Z U ?_;rw[e1,bb]at r3;exact k _ _ q r3
def Vn{S:SR}{F:S7 S}{w:Nat}{ks:List (Nat × (Nat->S.W))}{r:Nat->S.W}(h:ks.length=w):AV F w ks r=ks:=by
 unfold AV;rw[if_pos h]
def NI{S:SR}{F:S7 S}{w:Nat}{ks:List (Nat × (Nat->S.W))}{r:Nat->S.W}(h:AU (clr F ks r) w=none):AV F w ks r=ks:=by
 unfold AV;split
 . rfl
 . rw[h]
def NH{S:SR}{F:S7 S}{w p:Nat}{ks:List (Nat × (Nat->S.W))}{r:Nat->S.W}(n:ks.length≠w)(h:AU (clr F ks r) w=some p):AV F w ks r=ks++[(p,λj=>S.mul (F.inv (clr F ks r p)) (clr F ks r j))]:=by
 unfold AV;rw[if_neg n,h]
def FC.app{R:g9 Pr w K mg base}{W i:Nat}{ks:List (Nat × (Nat->R.S.W))}{k:Nat × (Nat->R.S.W)}{u:V}{H:Hp}(hi:i < ks.length)(h:FC R W ks i u H):FC R W (ks++[k]) i u H:=by
 obtain⟨k',q,rv,e,r⟩:=h;exact⟨k',q,rv,by rw[aW hi];exact e,r⟩
def WB(w:World)(K:aa)(mg:Str->Option Value)(base:Heap):Sp:=λvs H Q _=>∃(R:g9 Pr w K mg base),∃kv a rv,∃(W l r:Nat),∃ks x,vs=[kv,.ref a,rv,.int (l:Nat)]/\(Q9 R.C R.fs H kv/\N9 R W ks a H/\Kp R.S l ks/\i0 R W x rv H/\l<=W/\W<=1000/\(ks.length≠l->Ol R.F W r ks x)/\X0 R.S (3 * r))/\
 ∀H',j9 a H H'->N9 R W (AV R.F l ks x) a H'->Q (.bl (decide ((AV R.F l ks x).length≠ks.length))) H'
def QN(T:Txt K mg t):r8 Pr w K mg base E7 43 t.keep t.y0m ZT (WB w K mg base):=by
 refine T.y0l.F.okA KY λ_ _ _ _ H _ Q _ hr h=>?_;obtain⟨R,kv,a,rv,W,l,r,ks,x,rfl,⟨⟨kp,dx,rfl,hk⟩,hK,KP,hR,hl,hW,hz,hS⟩,k⟩:=h;have wg:=hK;obtain⟨us,ha,eK⟩:=hK;have e0:=eK.1;have kl:=KP.len;have sl:1000 < sizeLine:=by decide
 have kf:∀H',h9 H H'->AV R.F l ks x=ks->Q (.bl false) H':=λH' s' e=>by
  have:=k H' (.of s') (by rw[e];exact wg.same s');rw[e,decide_eq_false (λz=>z U)]at this;exact this
 refine⟨_,(c5 (y8 (l8 J8 (l4 r9 bR T.z_len PySem.boot_len (x5 (O 1))) (O 3) (o4 _)) (c4 (c9 X1)) o8) (c5 (sT 4 KY.nd (C1 (HW T) hr.m T.w0n (S6 (O 0) (O 1) (O 2)))) (c5 (sT 5 KY.nd (C1 (Pg T) hr.m T.w0a (S6 (O 0) (O 4) (O 3)))) (c5 (y8 (l8 UF (O 5) Li (o4 _)) (c4 (c9 X1)) o8) (c5 (E8 (S3 bf bA bB F8 (O 1) (x5 (C9 (D9 (O 5) (C1 (EX T) hr.m T.s0o (S6 (O 0) (V4 (O 0) R.cl R.t_inverse R.G_inverse hr.m R.b_inverse .nil B4 (x5 (B5 g6 (O 4) (O 5)))) (O 4)))))))) (c4 (c9 X1))))))),?_⟩;dsimp only[z8,u7,y9,z5];refine Z U (za ⟨U,(show DA K (.ref a) H ks.length from .inl ⟨_,o7.of ha,e0.symm⟩),Z U ⟨U,Z U ?_⟩⟩);refine Ep (λe=>?_) (λne=>?_)
 . exact kf _ (h9.refl _) (Vn Y)
 have nl:ks.length≠l:=λe=>ne (by rw[e]);refine vc U U U ⟨R,zI _ a rv W r ks x ⟨U,⟨za ⟨U,hk⟩,wg,λq hq=>aA (KP.lt q hq) hl,hR,hW,hz nl,hS⟩,λR9 H1 s1 r1=>?_⟩⟩;show L3 4 R9 [sr kp,sr a,some rv,si l,none,none] H1 _;refine vc U U U ⟨R,zE _ _ W l _ ⟨U,⟨za ⟨U,s1 _ _ hk⟩,r1,hl,hW⟩,λH2 s2=>?_⟩⟩;show L3 5 (Yk (AU (clr R.F ks x) l)) [sr kp,sr a,some rv,si l,some R9,none] H2 _;have IH:=s1.trans s2;cases e:AU (clr R.F ks x) l with
 | none=>
  refine Z U ⟨U,Z U ?_⟩;refine Bz ?_;exact kf _ IH (NI e)
 | some p=>
  obtain⟨pl,pn,_⟩:=M4 e;show L3 5 (V.int (p:Nat)) [sr kp,sr a,some rv,si l,some R9,none] H2 _;have z0:=(hz nl).1 ks.length (ae _);rw[bb]at z0;obtain⟨q,gc,u,rfl,hq,hu,iu⟩:=i0.at (i0.same s2.t r1) (show p < W by omega);refine Z U ⟨U,Z U ?_⟩;refine T3 ?_;refine Z U ⟨.inl ⟨U,_,o7.of (IH _ _ ha)⟩,vc U U U (zd ⟨U,IH _ _ hk,R.l_inverse,vb U U (zf ⟨U,U,hq,hu,zd ⟨U,⟨za ⟨U,IH _ _ hk⟩,iu,pn⟩,λiv H3 s3 f3=>?_⟩⟩)⟩)⟩;have Le:=IH.trans s3;refine Z U ⟨R,zI _ _ _ W _ _ r ⟨U,⟨za ⟨U,Le _ _ hk⟩,f3,R.F.sz_inv _ _ pn (z0 p Y),i0.same (s2.trans s3).t r1,z0,hW,hS.le Y⟩,λtv H4 s4 r4=>?_⟩⟩;have WM:=Le.trans s4;refine⟨sL,λp5 n5=>?_⟩;have t5:=c6 (o:=.tup [V.int (p:Nat),tv]) n5;have k5:upd H4 p5 (.tup [V.int (p:Nat),tv]) p5=some (.tup [V.int (p:Nat),tv]):=b9;revert t5 k5;generalize upd H4 p5 (.tup [V.int (p:Nat),tv])=H5;intro t5 k5;have Yb:=WM.trans t5;have lA:=Yb _ _ ha;refine⟨a,us,V.ref p5,U,U,lA,Y,?_⟩;have st:=y6 (o:=.lst (us++[V.ref p5])) lA;have ek:=NH (F:=R.F) nl e;have:=k (upd H5 a (.lst (us++[V.ref p5]))) ((j9.of Yb).trans j9.upd) (by
   rw[ek];refine⟨_,b9,?_⟩;rw[aq];refine i3.snoc (eK.mono λi w' hi q=>(FC.app hi (q.same Yb.t)).same st) ⟨(p,λj=>R.S.mul (R.F.inv (clr R.F ks x p)) (clr R.F ks x j)),p5,tv,?_,U,st _ _ k5,?_⟩
   . rw[ba (ae _),cz];rfl
   . exact i0.same st (i0.same t5.t r4))
  rw[ek,aq,decide_eq_true (show ks.length+[_].length≠ks.length by show ks.length+1≠_;omega)]at this;exact this
def FB(R:g9 Pr w K mg base)(W n:Nat)(rs:Nat->Nat->R.S.W)(v:V)(H:Hp):Prop:=∃a us,v=.ref a/\H a=some (.lst us)/\i3 (λi u H=>i0 R W (rs i) u H) us n H
theorem FB.same{R:g9 Pr w K mg base}{W n:Nat}{rs:Nat->Nat->R.S.W}{v:V}{H H':Hp}(s:h9 H H')(h:FB R W n rs v H):FB R W n rs v H':=by
 obtain⟨a,us,rfl,ha,e⟩:=h;exact⟨a,us,U,s _ _ ha,e.mono λ_ _ _ q=>i0.same s.t q⟩
def FY{α:Type}(rs:Nat->α)(n:Nat):List α:=(List.range n).map rs
def Uj{α:Type}(rs:Nat->α)(n:Nat):FY rs (n+1)=FY rs n++[rs n]:=by
 unfold FY;rw[cG,bc];rfl
def QG{α:Type}{rs:Nat->α}{n:Nat}{r:α}(h:r∈FY rs n):∃i,i < n/\r=rs i:=by
 obtain⟨i,hi,rfl⟩:=aw.mp h;exact⟨i,aN.mp hi,U⟩
def WS{α:Type}{rs:Nat->α}{n:Nat}:(FY rs n).length=n:=by unfold FY;rw[af,bO]
def KL(w:World)(K:aa)(mg:Str->Option Value)(base:Heap):Sp:=λvs H Q _=>∃(R:g9 Pr w K mg base),∃kv rv,∃(W l r n:Nat),∃rs,vs=[kv,rv,.int (l:Nat)]/\(Q9 R.C R.fs H kv/\FB R W n rs rv H/\l<=W/\W<=1000/\(∀i,i < n->(kpL R.F l (FY rs i)).length≠l->Ol R.F W r (kpL R.F l (FY rs i)) (rs i))/\X0 R.S (3 * r))/\
 ∀a H',H a=none->h9 H H'->N9 R W (kpL R.F l (FY rs n)) a H'->Q (.ref a) H'
def Ln(T:Txt K mg t):r8 Pr w K mg base E7 44 t.w0d t.t0a [w9,V6,IJ] (KL w K mg base):=by
 refine T.s0i.F.okA Bi λ_ _ _ _ H _ _ _ hr h=>?_;obtain⟨R,kv,rv,W,l,r,n,rs,rfl,⟨hk,⟨b,us,rfl,hb,eR⟩,hl,hW,hz,hS⟩,k⟩:=h;refine⟨_,(c5 (sT 3 Bi.nd (D0 J1)) (c5 (C6 ar U (B6 (O 1)) (gN 4 Bi.nd) (c4 (E8 (C1 (QN T) hr.m T.y0l (Jg (O 0) (O 3) (O 4) (O 2)))))) (c4 (c9 (O 3))))),?_⟩;dsimp only[z8,u7,y9,z5];refine⟨sL,λa na=>?_⟩;have s1:=c6 (o:=.lst []) na;have k1:upd H a (.lst []) a=some (.lst []):=b9;refine Z U ⟨b,U,⟨_,o7.of (s1 _ _ hb)⟩,P1 (K:=K) (a:=b) (xs:=us) (λi σ H2=>∃v4,σ=[some kv,sr b,si l,sr a,v4]/\h9 H H2/\N9 R W (kpL R.F l (FY rs i)) a H2) (Z U ⟨s1,⟨_,k1,i3.nil⟩⟩) (λi σ H2 _ ⟨_,_,q,_⟩=>o7.of (q _ _ hb)) ?_ ?_⟩
 . rintro i y σ H2 hi ⟨v4,rfl,q,hK⟩;obtain⟨iq,ry⟩:=eR.at hi;refine vc U U U (Z U ⟨R,zJ kv a y W l r _ _ ⟨U,⟨hk.same q,hK,W8 _,i0.same q.t ry,hl,hW,hz i iq,hS⟩,λH3 s3 K3=>?_⟩⟩);refine Z U ⟨λc o hc=>?_,?_⟩
   . exact s3 c o (j7 hc na) (q _ _ hc)
   . rw[Uj,Fn];exact K3
 . rintro σ H2 ⟨v4,rfl,q,hK⟩;rw[eR.1]at hK;exact Z U (k _ _ na q hK)
def Rz(R:g9 Pr w K mg base)(W n:Nat)(rs:Nat->Nat->R.S.W)(v:V)(H:Hp):Prop:=FB R W n rs v H\/N8 (λi u H=>i0 R W (rs i) u H) n v H
theorem Rz.same{R:g9 Pr w K mg base}{W n:Nat}{rs:Nat->Nat->R.S.W}{v:V}{H H':Hp}(s:h9 H H')(h:Rz R W n rs v H):Rz R W n rs v H':=h.imp (FB.same s) λe=>e.mono s.t λ_ _ _ q=>i0.same s.t q
def Mv(w:World)(K:aa)(mg:Str->Option Value)(base:Heap):Sp:=λvs H Q _=>∃(R:g9 Pr w K mg base),∃rv,∃(W n:Nat),∃rs,vs=[rv]/\Rz R W n rs rv H/\Q (.int ((if n=0 then 0 else W):Nat)) H
def Na(T:Txt K mg t):r8 Pr w K mg base E7 1 t.x0c t.v0c [V6] (Mv w K mg base):=by
 refine T.t0s.F.okA MG λ_ _ _ _ H _ _ _ hr h=>?_;obtain⟨R,rv,W,n,rs,rfl,hR,k⟩:=h;refine⟨_,(c4 (c9 (UA (l8 Ao (l4 r9 bR T.z_len PySem.boot_len (x5 (O 0))) a9 (o4 _)) (l4 r9 bR T.z_len PySem.boot_len (x5 (B5 a0s (O 0) a9))) a9))),?_⟩;dsimp only[z8,u7,y9,z5];have eJ:DA K rv H n:=by
  rcases hR with ⟨b,us,rfl,hb,eR⟩ | hR
  . exact .inl ⟨_,o7.of hb,eR.1.symm⟩
  . exact hR.len
 refine Z U (za ⟨U,eJ,za ⟨U,U,Z U ?_⟩⟩);refine AC (λh0=>?_) (λh0=>?_)
 . rw[if_neg Y]at k;rcases hR with ⟨b,us,rfl,hb,eR⟩ | ⟨b,us,rfl,hb,eR⟩
   . obtain⟨u,eu,ru⟩:=eR.2 0 Y;exact Z U (.inl (zf ⟨U,U,o7.of hb,B0 (j:=0) eu,za ⟨U,ru.len,k⟩⟩))
   . obtain⟨u,eu,ru⟩:=eR.2 0 Y;exact Z U (.inr (.inl (zf ⟨U,U,l9.of hb,B0 (j:=0) eu,za ⟨U,ru.len,k⟩⟩)))
 . rw[if_pos Y]at k;exact k
def Q8.same{H H':Hp}{P:Addr}{q:Str}(s:h9 H H')(h:Q8 H P q):Q8 H' P q:=by
 obtain⟨ps,h1,h2,h3⟩:=h;refine⟨ps,s _ _ h1,h2,λlp v e=>?_⟩;obtain⟨c,e1,oc,vs,t,y1,y2⟩:=h3 lp v e;exact⟨c,e1,oc,vs,t,s _ _ y1,y2⟩
def MX{α β:Type}{f:α->β}{zs ys:List β}(h:zs.Perm ys):∀L0:List α,ys=L0.map f->∃L:List α,L.Perm L0/\zs=L.map f:=by
 induction h with
 | nil=>intro L0 e;exact⟨L0,.refl _,e⟩
 | cons x _ ih=>
  intro L0 e
  match L0,e with
  | y::L1,e=>
   rw[aZ]at e;injection e with e1 e2;obtain⟨L,h1,h2⟩:=ih L1 e2;exact⟨y::L,h1.cons y,by rw[aZ,e1,h2]⟩
 | swap x y l=>
  intro L0 e
  match L0,e with
  | a::b::L1,e=>
   rw[aZ,aZ]at e;injection e with e1 e;injection e with e2 e3;exact⟨b::a::L1,.swap _ _ _,by rw[aZ,aZ,e1,e2,e3]⟩
 | trans _ _ i1 i2=>
  intro L0 e;obtain⟨L,h1,h2⟩:=i2 L0 e;obtain⟨L',h3,h4⟩:=i1 L h2;exact⟨L',h3.trans h1,h4⟩
def adV:V->Addr
 | .ref a=>a
 | _=>0
def N9.refs{R:g9 Pr w K mg base}{W:Nat}{es:List (Nat × (Nat->R.S.W))}{a:Addr}{H:Hp}(h:N9 R W es a H):∃ps:List Addr,H a=some (.lst (ps.map V.ref))/\ps.length=es.length/\
    ∀(i:Nat) p e,ps[i]? = some p->es[i]? = some e->∃rv,H p=some (.tup [.int (e.1:Nat),rv])/\i0 R W e.2 rv H:=by
 obtain⟨us,ha,en⟩:=h;have el:=en.1;have hu:us=(us.map adV).map V.ref:=by
  apply List.ext_getElem?;intro i;rw[aE,aE];cases hi:us[i]? with
  | none=>rfl
  | some u=>
   obtain⟨_,k,q,rv,_,rfl,_⟩:=en.at hi;rfl
 refine⟨us.map adV,by rw[<- hu];exact ha,by rw[af,el],λi p e h1 h2=>?_⟩;rw[aE]at h1;obtain⟨u,hu',rfl⟩:=cA.mp h1;obtain⟨_,k,q,rv,e1,rfl,hq,ro⟩:=en.at hu';rw[h2]at e1;cases e1;exact⟨rv,hq,ro⟩
def qE:Str:=(("echelon":Str)++".<locals>.")++"<lambda>"
def OK(w:World)(K:aa)(mg:Str->Option Value)(base:Heap)(t:Qu):Sp:=λvs H Q _=>∃(R:g9 Pr w K mg base),∃kv rv,∃(W r n:Nat),∃rs,vs=[kv,rv]/\(Q9 R.C R.fs H kv/\FB R W n rs rv H/\W < 64/\
 (∀i,i < n->(kpL R.F (if n=0 then 0 else W) (FY rs i)).length≠(if n=0 then 0 else W)->Ol R.F W r (kpL R.F (if n=0 then 0 else W) (FY rs i)) (rs i))/\
 (∀i k,i < (kpL R.F (if n=0 then 0 else W) (FY rs n)).length->(kpL R.F (if n=0 then 0 else W) (FY rs n))[(kpL R.F (if n=0 then 0 else W) (FY rs n)).length - 1 - i]? = some k->Ol R.F W r (echI R.F (kpL R.F (if n=0 then 0 else W) (FY rs n)) i) k.2)/\
 X0 R.S (3 * r)/\Q8 H t.P_echelon qE)/\
 ∀es a H',Og t.P_echelon H H'->Q8 H' t.P_echelon qE->N9 R W es a H'->es.Perm (JG R.F (kpL R.F (if n=0 then 0 else W) (FY rs n)))->es.Pairwise (λp q=>p.1<=q.1)->Q (.ref a) H'
def HU(T:Txt K mg t)(fP:Wc mg base t):r8 Pr w K mg base E7 46 t.echelon t.v0k [w9,V6] (OK w K mg base t):=by
 refine T.v0v.F.okC Bj T.tb_echelon T.t0r (by rintro _ _ _ _ ⟨_,_,_,_,_,_,_,rfl,_⟩;rfl) λA outer s H vs Q E hr h=>?_;obtain⟨R,kv,rv,W,r,n,rs,rfl,⟨hk,hR,hW,hz,he,hS,hT⟩,k⟩:=h;have zl:=sZ;have mw:Kp R.S (if n=0 then 0 else W) (kpL R.F (if n=0 then 0 else W) (FY rs n)):=W8 _;have lW:(if n=0 then 0 else W)<=W:=by split <;>omega
 refine⟨_,(c5 (sT 2 Bj.nd (D0 J1)) (c5 (C6 ar U (WV U T.z_reversed (x5 (C1 (Ln T) hr.m T.s0i (S6 (O 0) (O 1) (C1 (Na T) hr.m T.t0s (x5 (O 1))))))) (J0 U (j8 (gN 3 Bj.nd) (j8 (gN 4 Bj.nd) D3))) (c4 (E8 (S3 bf bA bB F8 (O 2) (x5 (C9 (D9 (O 3) (C1 (HW T) hr.m T.w0n (S6 (O 0) (O 2) (O 4)))))))))) (c4 (c9 (Uy (k:=0) (pn:="pair") hr.m fP.echelon U bR T.z_sorted (x5 (O 2)) U U (by exact⟨U,U,U,dK,U,dK,dK,dK⟩) (λ_ _ _ _ _=>rfl)))))),?_⟩;dsimp only[z8,u7,y9,z5];refine⟨(by show 0<=sizeLine;omega),λa na=>?_⟩;refine E6 (o:=.lst []) na λH1 s1 k1=>?_;have mr:=hR.same s1;refine vc U U U ⟨R,zB rv W n rs ⟨U,.inl mr,?_⟩⟩;revert hz he mw k lW;generalize (if n=0 then 0 else W)=l;intro k hz he mw lW;refine⟨R,zI kv rv W l r n rs ⟨U,⟨hk.same s1,mr,lW,Y,hz,hS⟩,λb H2 nb s2 hK=>?_⟩⟩;revert he mw k hK;generalize kpL R.F l (FY rs n)=ks;intro k he mw hK;have ksl:=mw.len;obtain⟨us,hb,eK⟩:=hK;have ul:=eK.1;have ab:b≠a:=λz=>by rw[z,k1]at nb;cases nb
 have up:∀{G},j9 a H2 G->h9 H G:=λsG c o hc=>sG c o (j7 hc na) (s2 _ _ (s1 _ _ hc));have uS:∀{G},j9 a H2 G->x4 H2 G:=λsG p vs hp=>sG p _ (λz=>by
  have z2:=s2 _ _ k1;rw[<- z,hp]at z2;cases z2) hp
 refine⟨b,us,U,o7.of hb,VE (a:=b) (xs:=us) (λi σ G=>∃v3 v4:Option V,σ=[some kv,some rv,sr a,v3,v4]/\j9 a H2 G/\N9 R W (echI R.F ks i) a G) ⟨none,none,U,j9.refl _ _,⟨[],s2 _ _ k1,i3.nil⟩⟩ (λi σ G _ ⟨_,_,_,sG,_⟩=>o7.of (sG _ _ ab hb)) ?_ ?_⟩
 . rintro i x σ G hi hx ⟨v3,v4,rfl,sG,lD⟩;obtain⟨_,kq,qa,ov,ek,rfl,hq,ro⟩:=eK.at hx;rw[ul]at ek;have sO:=uS sG _ _ hq;refine⟨qa,Z U ⟨l9.of sO,U,za ⟨U,za ⟨U,U,?_⟩⟩⟩⟩;have ud:=lD;obtain⟨ts,vH,fW⟩:=lD;have tl:=fW.1;rw[Ac Y]at tl;refine Z U ⟨.inl ⟨U,_,o7.of vH⟩,vc U U U (Z U ⟨R,zI kv a ov W r (echI R.F ks i) kq.2 ⟨U,⟨hk.same (up sG),ud,λe he'=>?_,i0.same (uS sG) ro,Y,he i kq Y ek,hS⟩,λR9 G1 t1 r1=>?_⟩⟩)⟩
   . obtain⟨k',iP,e1⟩:=NX Y e he';rw[e1];exact aA (mw.lt k' iP) lW
   refine⟨(by show 2<=sizeLine;omega),λp5 n5=>?_⟩;refine E6 (o:=.tup [V.int (kq.1:Nat),R9]) n5 λG5 t5 k5=>?_;have qQ:=t1.trans t5;have lA:=qQ _ _ vH;refine⟨a,ts,V.ref p5,U,U,lA,Y,?_⟩;have st:=y6 (o:=.lst (ts++[V.ref p5])) lA;refine za ⟨U,sG.trans ((j9.of qQ).trans j9.upd),?_⟩;rw[Q7 Y ek];refine⟨_,b9,?_⟩;rw[aq];refine i3.snoc (fW.mono λj w' hj q=>(FC.app hj (q.same qQ.t)).same st) ⟨(kq.1,clr R.F (echI R.F ks i) kq.2),p5,R9,?_,U,st _ _ k5,?_⟩
   . rw[ba (ae _),cz];rfl
   . exact i0.same st (i0.same t5.t r1)
 . rintro σ G ⟨v3,v4,rfl,sG,lD⟩;rw[ul,W0]at lD;have vR:(JG R.F ks).length=ks.length:=by rw[<- W0,Ac (ae _)]
   revert lD vR k;generalize JG R.F ks=lH;intro k lD vR;obtain⟨ps,hpa,pl,nL⟩:=lD.refs;have vX:=Q8.same (up sG) hT;refine Z U ⟨a,ps,lH.map λe=>((e.1:Nat):Int),U,o7.of hpa,by rw[af,pl],Y,vX,λi p m h1 h2=>?_,λH5 d zs sp oj hd pm pw=>?_⟩
   . rw[aE]at h2;obtain⟨e,e1,rfl⟩:=cA.mp h2;obtain⟨oX,z,_⟩:=nL i p e h1 e1;exact⟨_,z⟩
   . obtain⟨iX,hP,_⟩:=id vX;have sT:x4 G H5:=λp vs hp=>sp p _ (Ar hp hP (by simp)) hp;have ez:(lH.map λe=>((e.1:Nat):Int)).zip ps=(lH.zip ps).map λx=>(((x.1.1:Nat):Int),x.2):=by
      rw[List.zip_map_left];rfl
     rw[ez]at pm;obtain⟨L,l1,rfl⟩:=MX pm _ rfl;have pe:(L.map Prod.fst).Perm lH:=by
      have:=l1.map Prod.fst;rwa [List.map_fst_zip Y]at this
     refine k (L.map Prod.fst) d H5 (λc o hc e=>sp c o hc (up sG c o e)) oj ⟨_,hd,?_⟩ pe ?_
     . refine⟨by simp,λj hj=>?_⟩;rw[af]at hj;have hm:L[j]∈lH.zip ps:=l1.mem_iff.mp (aJ hj);obtain⟨i,hi,ei⟩:=cQ.mp hm;have iq:i < lH.length/\i < ps.length:=by rw[List.length_zip]at hi;omega
       rw[List.getElem_zip]at ei;obtain⟨oX,z1,z2⟩:=nL i ps[i] lH[i] (ah iq.2) (ah iq.1);refine⟨V.ref L[j].2,by rw[cq,aE,ah hj];rfl,L[j].1,L[j].2,oX,by rw[aE,ah hj];rfl,U,?_,?_⟩
       . rw[<- ei];exact sT _ _ z1
       . rw[<- ei];exact i0.same sT z2
     . have:=cH.mp pw;exact cH.mpr (this.imp λh=>by
        have h:((_:Nat):Int)<=((_:Nat):Int):=h;exact Int.ofNat_le.mp h)
def YQ(w:World)(K:aa)(mg:Str->Option Value)(base:Heap):Sp:=λvs H Q _=>∃(R:g9 Pr w K mg base),∃kv row col n x y r,vs=[kv,row,col]/\(Q9 R.C R.fs H kv/\i0 R n x row H/\i0 R n y col H/\Oj R.S r n x y/\X0 R.S (3 * r))/\
 ∀v H',h9 H H'->R.is H' v (C0 R.S x y n)->Q v H'
def Ph(T:Txt K mg t):r8 Pr w K mg base E7 41 t.dot t.y0q [w9,C8,Mm] (YQ w K mg base):=by
 refine T.y0r.F.okA Hy λ_ _ _ _ H _ _ _ hr h=>?_;obtain⟨R,kv,row,col,n,x,y,r,rfl,⟨⟨kp,dx,rfl,hk⟩,⟨fp,xs,rfl,hf,e1⟩,⟨gp,ys,rfl,hg,e2⟩,⟨z1,z2⟩,hz⟩,k⟩:=h;refine⟨_,(c5 (sT 3 Hy.nd (AR (O 0) R.cl R.t_nought R.G_nought hr.m R.b_nought .nil B4)) (c5 (C6 ar U (Cs U T.z_zip (D9 (O 1) (O 2))) (J0 U (j8 (gN 4 Hy.nd) (j8 (gN 5 Hy.nd) D3))) (c4 (sT 3 Hy.nd (V4 (O 0) R.cl R.t_plus R.G_plus hr.m R.b_plus .nil B4 (D9 (O 3) (V4 (O 0) R.cl R.t_times R.G_times hr.m R.b_times .nil B4 (D9 (O 4) (O 5)))))))) (c4 (c9 (O 3))))),?_⟩;dsimp only[z8,u7,y9,z5];refine Z U (zd ⟨U,hk,R.l_nought,Z U ⟨za ⟨U,hk⟩,λz H1 s1 f1=>?_⟩⟩);refine vb U U ⟨.tup fp,.tup gp,za ⟨xs,ys,U,U,U,l9.of (s1 _ _ hf),l9.of (s1 _ _ hg),Rf (K:=K) (xs:=xs) (ys:=ys) (λi σ H2=>∃jo v4 v5,σ=[sr kp,sr fp,sr gp,some jo,v4,v5]/\h9 H H2/\R.is H2 jo (C0 R.S x y i)) (by rw[e1.1,e2.1]) ⟨_,_,Z U ⟨s1,f1⟩⟩ (λi σ H2 _ ⟨_,_,_,_,q,_⟩=>⟨l9.of (q _ _ hf),l9.of (q _ _ hg)⟩) ?_ ?_⟩⟩
 . rintro i u v p σ H2 hu hv np ⟨jo,v4,v5,rfl,q,f⟩;obtain⟨hi,pu⟩:=e1.at hu;obtain⟨_,O⟩:=e2.at hv;have sp:=c6 (o:=.tup [u,v]) np;have q2:=q.trans sp;refine⟨p,Z U ⟨l9.of b9,U,za ⟨U,za ⟨U,U,?_⟩⟩⟩⟩;refine Z U (zd ⟨U,q2 _ _ hk,R.l_plus,vb U U (zd ⟨U,q2 _ _ hk,R.l_times,vb U U (zg ⟨r,r,U,⟨za ⟨U,q2 _ _ hk⟩,R.same q2.t pu,R.same q2.t O,(z1 i hi).1,(z1 i hi).2,hz.le Y⟩,λpr H3 s3 f3=>?_⟩)⟩)⟩);have q3:=q2.trans s3;refine zg ⟨r,r+r,U,⟨za ⟨U,q3 _ _ hk⟩,R.same (sp.trans s3).t f,f3,z2 i Y,R.S.sz_mul _ _ _ _ (z1 i hi).1 (z1 i hi).2,hz.le Y⟩,λtt H4 s4 f4=>?_⟩;exact zd ⟨U,q3.trans s4,f4⟩
 . rintro σ H2 ⟨jo,v4,v5,rfl,q,f⟩;rw[e1.1]at f;exact Z U (k _ _ q f)
abbrev y7(R:g9 Pr w K mg base)(h n:Nat)(x:Nat->Nat->R.S.W):V->Hp->Prop:=N8 (λi u H=>i0 R n (x i) u H) h
theorem y7.same{R:g9 Pr w K mg base}{h n:Nat}{x:Nat->Nat->R.S.W}{v:V}{H H':Hp}(s:x4 H H')(e:y7 R h n x v H):y7 R h n x v H':=e.mono s λ_ _ _ q=>i0.same s q
def KM(w:World)(K:aa)(mg:Str->Option Value)(base:Heap):Sp:=λvs H Q _=>∃(R:g9 Pr w K mg base),∃tb,∃(z:Int),∃(i:Nat),∃h n x,vs=[tb,.int z]/\(y7 R h n x tb H/\i < n/\h<=1000/\z=i)/\
 ∀v H',h9 H H'->i0 R h (λj=>x j i) v H'->Q v H'
def Lo(T:Txt K mg t):r8 Pr w K mg base E7 1 t.v0r t.s0y Sn (KM w K mg base):=by
 refine T.s0w.F.okA KZ λ_ _ _ _ H _ _ _ hr h=>?_;obtain⟨R,tb,z,i,h,n,x,rfl,⟨⟨p,rows,rfl,hp,fW⟩,hi,hh,rfl⟩,k⟩:=h;refine⟨_,(c4 (c9 (j6 h7 bR T.z_tuple boot_tuple (x5 (w5 (xs:=[C8]) U (oC Sn (a8 Aj)) (G0 (O 0)) (p9 (i:=2) (by show List.Nodup ([Av,Do,C8]:List Str);decide +kernel) U (Or.inl U)) (B5 (show Ku _ (HC K)from g6) (O 2) (O 1))))))),?_⟩;dsimp only[z8,u7,y9,z5];refine Z U ⟨p,U,⟨_,l9.of hp⟩,o6 (n:=h) (λj ys H2=>i3 (λj u H=>R.is H u (x j i)) ys j H/\H2=H) hh ⟨i3.nil,U⟩ (λj ys H2 q=>q.1.1) ?_ ?_ ?_⟩
 . rintro j ys H2 hj ⟨e,rfl⟩;obtain⟨u,eu,pu⟩:=fW.2 j hj;refine Dx (l9.of hp) eu ?_;obtain⟨q,cs,rfl,hq,ec⟩:=pu;obtain⟨z,ez,pz⟩:=ec.2 i hi;refine⟨⟨[sr q],U,U⟩,vb U U (zf ⟨U,U,l9.of hq,B0 ez,?_⟩)⟩;exact⟨e.snoc pz,U⟩
 . rintro ys H2 ⟨e,rfl⟩;exact⟨_,l9.of hp,by rw[fW.1];exact ae _⟩
 . rintro ys H2 l ⟨e,rfl⟩ nl;have s1:=c6 (o:=.lst ys) nl;refine⟨l,ys,U,.inl ⟨o7.of b9,λl2 n2=>?_⟩⟩;have s2:=c6 (o:=.tup ys) n2;exact k _ _ (s1.trans s2) ⟨l2,ys,U,b9,e.mono λ_ _ _ q=>R.same (s1.trans s2).t q⟩
def IU(w:World)(K:aa)(mg:Str->Option Value)(base:Heap):Sp:=λvs H Q _=>∃(R:g9 Pr w K mg base),∃tb h n x,vs=[tb]/\(y7 R h n x tb H/\h<=1000/\n<=1000)/\
 ∀v H',h9 H H'->y7 R (if h=0 then 0 else n) h (λj i=>x i j) v H'->Q v H'
def DI(T:Txt K mg t):r8 Pr w K mg base E7 2 t.v0f t.r0t [Av] (IU w K mg base):=by
 refine T.s0a.F.okA Jb λ_ _ _ _ H _ _ _ hr h=>?_;obtain⟨R,tb,h,n,x,rfl,⟨ht,hh,hn⟩,k⟩:=h;refine⟨_,(c5 (y8 (l8 J8 (l4 r9 bR T.z_len PySem.boot_len (x5 (O 0))) a9 (o4 _)) (c4 (c9 (C9 J1))) o8) (c4 (c9 (j6 h7 bR T.z_tuple boot_tuple (x5 (w5 (xs:=[Do]) U (oC [Av] (a8 Y4)) (C4 U T.z_range (x5 (l4 r9 bR T.z_len PySem.boot_len (x5 (B5 g6 (O 0) a9))))) (gL 1 Sn) (x9 (Lo (w:=w) (base:=base) T) hr.m U T.s0w.m T.s0w.F.kp T.s0w.b .nil B4 (D9 (O 0) (O 1))))))))),?_⟩;dsimp only[z8,u7,y9,z5];refine Z U (za ⟨U,ht.len,U,Z U ?_⟩);refine Ep (λe0=>?_) (λe0=>?_)
 . have e:h=0:=by omega
   subst e;refine⟨sL,λp np=>k _ _ (c6 np) ⟨p,[],U,b9,i3.nil⟩⟩
 . obtain⟨p,rows,rfl,hp,fW⟩:=ht;obtain⟨u,eu,pu⟩:=fW.2 0 Y;have e0:h≠0:=by omega
   rw[if_neg e0]at k;refine Z U (zf ⟨U,U,l9.of hp,B0 (j:=0) eu,za ⟨U,pu.len,Z U ⟨Y,Y,o6 (n:=n) (λj ys H2=>h9 H H2/\i3 (λj u H=>i0 R h (λi=>x i j) u H) ys j H2) hn ⟨h9.refl _,i3.nil⟩ (λj ys H2 q=>q.2.1) ?_ ?_ ?_⟩⟩⟩)
   . rintro j ys H2 hj ⟨q,e⟩;refine JA (by omega) ?_;refine⟨⟨[some (.int (0+(j:Int)))],U,U⟩,vb U U ⟨R,zG _ _ j h n x ⟨U,⟨y7.same q.t ⟨p,rows,U,hp,fW⟩,hj,hh,Y⟩,λv H3 s3 r3=>?_⟩⟩⟩;exact⟨q.trans s3,(e.mono λ_ _ _ z=>i0.same s3.t z).snoc r3⟩
   . rintro ys H2 ⟨q,e⟩;show(n:Int).toNat<=n;omega
   . rintro ys H2 l ⟨q,e⟩ nl;have s1:=c6 (o:=.lst ys) nl;refine⟨l,ys,U,.inl ⟨o7.of b9,λl2 n2=>?_⟩⟩;have s2:=c6 (o:=.tup ys) n2;exact k _ _ (q.trans (s1.trans s2)) ⟨l2,ys,U,b9,e.mono λ_ _ _ z=>i0.same (s1.trans s2).t z⟩
def RL(w:World)(K:aa)(mg:Str->Option Value)(base:Heap):Sp:=λvs H Q _=>∃(R:g9 Pr w K mg base),∃kv row tb h n x A r,vs=[kv,row,tb]/\(Q9 R.C R.fs H kv/\i0 R h x row H/\y7 R h n A tb H/\h<=1000/\n<=1000/\(∀j,j < n->Oj R.S r h x (λi=>A i j))/\X0 R.S (3 * r))/\
 ∀v H',h9 H H'->i0 R (if h=0 then 0 else n) (λj=>C0 R.S x (λi=>A i j) h) v H'->Q v H'
def JX(T:Txt K mg t):r8 Pr w K mg base E7 42 t.y0o t.x0o UW (RL w K mg base):=by
 refine T.x0a.F.okA RV λ_ _ _ _ H _ _ _ hr h=>?_;obtain⟨R,kv,row,tb,h,n,x,B,r,rfl,⟨hk,hx,ht,hh,hn,hz,hS⟩,k⟩:=h;refine⟨_,(c4 (c9 (j6 h7 bR T.z_tuple boot_tuple (x5 (w5 (xs:=[Mm]) U (oC UW (a8 EO)) (G0 (C1 (DI T) hr.m T.s0a (x5 (O 2)))) (p9 (i:=3) (by show List.Nodup ([w9,C8,Av,Mm]:List Str);decide +kernel) U (Or.inl U)) (x9 (Ph (w:=w) (base:=base) T) hr.m U T.y0r.m T.y0r.F.kp T.y0r.b .nil B4 (S6 (O 0) (O 1) (O 3)))))))),?_⟩;dsimp only[z8,u7,y9,z5];refine Z U ⟨R,zB _ h n B ⟨U,⟨ht,hh,hn⟩,?_⟩⟩;rintro cv H1 s1 ⟨p,cols,rfl,hp,fW⟩;refine⟨p,U,⟨_,l9.of hp⟩,o6 (n:=if h=0 then 0 else n) (λj ys H2=>h9 H1 H2/\i3 (λj u H=>R.is H u (C0 R.S x (λi=>B i j) h)) ys j H2) (by split <;>omega) ⟨h9.refl _,i3.nil⟩ (λj ys H2 q=>q.2.1) ?_ ?_ ?_⟩
 . rintro j ys H2 hj ⟨q,e⟩;obtain⟨u,eu,pu⟩:=fW.2 j hj;refine Dx (l9.of (q _ _ hp)) eu ?_;refine⟨⟨[some _],U,U⟩,vc U U U ⟨R,zI _ _ _ h x (λi=>B i j) r ⟨U,⟨hk.same (s1.trans q),i0.same (s1.trans q).t hx,i0.same q.t pu,hz j (by split at hj <;>omega),hS⟩,λv H3 s3 f3=>?_⟩⟩⟩;exact⟨q.trans s3,(e.mono λ_ _ _ z=>R.same s3.t z).snoc f3⟩
 . rintro ys H2 ⟨q,e⟩;exact⟨_,l9.of (q _ _ hp),by rw[fW.1];exact ae _⟩
 . rintro ys H2 l ⟨q,e⟩ nl;have fU:=c6 (o:=.lst ys) nl;refine⟨l,ys,U,.inl ⟨o7.of b9,λl2 n2=>?_⟩⟩;have s2:=c6 (o:=.tup ys) n2;exact k _ _ ((s1.trans q).trans (fU.trans s2)) ⟨l2,ys,U,b9,e.mono λ_ _ _ z=>R.same (fU.trans s2).t z⟩
def KN(w:World)(K:aa)(mg:Str->Option Value)(base:Heap):Sp:=λvs H Q _=>∃(R:g9 Pr w K mg base),∃kv tb col h n A y r,vs=[kv,tb,col]/\(Q9 R.C R.fs H kv/\y7 R h n A tb H/\i0 R n y col H/\h<=1000/\(∀i,i < h->Oj R.S r n (A i) y)/\X0 R.S (3 * r))/\
 ∀v H',h9 H H'->i0 R h (λi=>C0 R.S (A i) y n) v H'->Q v H'
def Lp(T:Txt K mg t):r8 Pr w K mg base E7 42 t.w0c t.t0i UY (KN w K mg base):=by
 refine T.s0m.F.okA La λ_ _ _ _ H _ _ _ hr h=>?_;obtain⟨R,kv,tb,col,h,n,B,y,r,rfl,⟨hk,⟨p,rows,rfl,hp,fW⟩,hy,hh,hz,hS⟩,k⟩:=h;refine⟨_,(c4 (c9 (j6 h7 bR T.z_tuple boot_tuple (x5 (w5 (xs:=[C8]) U (oC UY (a8 Ak)) (G0 (O 1)) (p9 (i:=3) (by show List.Nodup ([w9,Av,Mm,C8]:List Str);decide +kernel) U (Or.inl U)) (x9 (Ph (w:=w) (base:=base) T) hr.m U T.y0r.m T.y0r.F.kp T.y0r.b .nil B4 (S6 (O 0) (O 3) (O 2)))))))),?_⟩;dsimp only[z8,u7,y9,z5];refine Z U ⟨p,U,⟨_,l9.of hp⟩,o6 (n:=h) (λj ys H2=>h9 H H2/\i3 (λi u H=>R.is H u (C0 R.S (B i) y n)) ys j H2) hh ⟨h9.refl _,i3.nil⟩ (λj ys H2 q=>q.2.1) ?_ ?_ ?_⟩
 . rintro j ys H2 hj ⟨q,e⟩;obtain⟨u,eu,pu⟩:=fW.2 j hj;refine Dx (l9.of (q _ _ hp)) eu ?_;refine⟨⟨[some _],U,U⟩,vc U U U ⟨R,zI _ _ _ n (B j) y r ⟨U,⟨hk.same q,i0.same q.t pu,i0.same q.t hy,hz j hj,hS⟩,λv H3 s3 f3=>?_⟩⟩⟩;exact⟨q.trans s3,(e.mono λ_ _ _ z=>R.same s3.t z).snoc f3⟩
 . rintro ys H2 ⟨q,e⟩;exact⟨_,l9.of (q _ _ hp),by rw[fW.1];exact ae _⟩
 . rintro ys H2 l ⟨q,e⟩ nl;have fU:=c6 (o:=.lst ys) nl;refine⟨l,ys,U,.inl ⟨o7.of b9,λl2 n2=>?_⟩⟩;have s2:=c6 (o:=.tup ys) n2;exact k _ _ (q.trans (fU.trans s2)) ⟨l2,ys,U,b9,e.mono λ_ _ _ z=>R.same (fU.trans s2).t z⟩
def MF(w:World)(K:aa)(mg:Str->Option Value)(base:Heap):Sp:=λvs H Q _=>∃(R:g9 Pr w K mg base),∃kv ov tb h n A B r,vs=[kv,ov,tb]/\(Q9 R.C R.fs H kv/\y7 R h n A ov H/\y7 R n n B tb H/\h<=1000/\n<=1000/\(∀i,i < h->∀j,j < n->Oj R.S r n (A i) (λk=>B k j))/\X0 R.S (3 * r))/\
 ∀v H',h9 H H'->y7 R h n (λi j=>C0 R.S (A i) (λk=>B k j) n) v H'->Q v H'
def Nj(T:Txt K mg t):r8 Pr w K mg base E7 43 t.x0f t.t0z II (MF w K mg base):=by
 refine T.t0t.F.okA MN λ_ _ _ _ H _ _ _ hr h=>?_;obtain⟨R,kv,ov,tb,h,n,A',B,r,rfl,⟨hk,⟨p,rows,rfl,hp,fW⟩,ht,hh,hn,hz,hS⟩,k⟩:=h;refine⟨_,(c4 (c9 (j6 h7 bR T.z_tuple boot_tuple (x5 (w5 (xs:=[C8]) U (oC II (a8 Bs)) (G0 (O 1)) (p9 (i:=3) (by show List.Nodup ([w9,BF,Bg,C8]:List Str);decide +kernel) U (Or.inl U)) (x9 (JX (w:=w) (base:=base) T) hr.m U T.x0a.m T.x0a.F.kp T.x0a.b .nil B4 (S6 (O 0) (O 3) (O 2)))))))),?_⟩;dsimp only[z8,u7,y9,z5];refine Z U ⟨p,U,⟨_,l9.of hp⟩,o6 (n:=h) (λj ys H2=>h9 H H2/\i3 (λi u H=>i0 R n (λj=>C0 R.S (A' i) (λk=>B k j) n) u H) ys j H2) hh ⟨h9.refl _,i3.nil⟩ (λj ys H2 q=>q.2.1) ?_ ?_ ?_⟩
 . rintro j ys H2 hj ⟨q,e⟩;obtain⟨u,eu,pu⟩:=fW.2 j hj;refine Dx (l9.of (q _ _ hp)) eu ?_;refine⟨⟨[some _],U,U⟩,vc U U U ⟨R,zJ _ _ _ n n (A' j) B r ⟨U,⟨hk.same q,i0.same q.t pu,y7.same q.t ht,hn,hn,hz j hj,hS⟩,λv H3 s3 f3=>?_⟩⟩⟩;rw[show(if n=0 then 0 else n)=n by split <;>omega]at f3;exact⟨q.trans s3,(e.mono λ_ _ _ z=>i0.same s3.t z).snoc f3⟩
 . rintro ys H2 ⟨q,e⟩;exact⟨_,l9.of (q _ _ hp),by rw[fW.1];exact ae _⟩
 . rintro ys H2 l ⟨q,e⟩ nl;have fU:=c6 (o:=.lst ys) nl;refine⟨l,ys,U,.inl ⟨o7.of b9,λl2 n2=>?_⟩⟩;have s2:=c6 (o:=.tup ys) n2;exact k _ _ (q.trans (fU.trans s2)) ⟨l2,ys,U,b9,e.mono λ_ _ _ z=>i0.same (fU.trans s2).t z⟩
abbrev IC(R:g9 Pr w K mg base)(m n:Nat)(tb:Nat->Nat->Nat->R.S.W):V->Hp->Prop:=N8 (λj u H=>y7 R n n (tb j) u H) m
theorem IC.same{R:g9 Pr w K mg base}{m n:Nat}{tb:Nat->Nat->Nat->R.S.W}{v:V}{H H':Hp}(s:x4 H H')(h:IC R m n tb v H):IC R m n tb v H':=h.mono s λ_ _ _ q=>y7.same s q
def l5(R:g9 Pr w K mg base)(l:List Nat)(n:Nat)(st:Nat->R.S.W)(tb:Nat->Nat->Nat->R.S.W)(en:Nat->R.S.W)(v:V)(H:Hp):Prop:=
 ∃p sv tv ev,v=.ref p/\H p=some (.tup [vT l,sv,tv,ev])/\i0 R n st sv H/\IC R l.length n tb tv H/\i0 R n en ev H
theorem l5.same{R:g9 Pr w K mg base}{l:List Nat}{n:Nat}{st:Nat->R.S.W}{tb:Nat->Nat->Nat->R.S.W}{en:Nat->R.S.W}{v:V}{H H':Hp}(s:x4 H H')(h:l5 R l n st tb en v H):l5 R l n st tb en v H':=by
 obtain⟨p,sv,tv,ev,rfl,hp,h1,h2,h3⟩:=h;exact⟨p,sv,tv,ev,U,s _ _ hp,i0.same s h1,IC.same s h2,i0.same s h3⟩
def Mz(w:World)(K:aa)(mg:Str->Option Value)(base:Heap):Sp:=λvs H Q _=>∃(R:g9 Pr w K mg base),∃mv l n st tb en,vs=[mv]/\(l5 R l n st tb en mv H/\l.length<=1000/\n<=1000)/\
 ∀v H',h9 H H'->l5 R l n en (λa i j=>tb a j i) st v H'->Q v H'
def Gv(T:Txt K mg t):r8 Pr w K mg base E7 3 t.x0p t.u0f [R0] (Mz w K mg base):=by
 refine T.u0v.F.okA Gq λ_ _ _ _ H _ _ _ hr h=>?_;obtain⟨R,mv,l,n,st,tb,en,rfl,⟨⟨mp,sv,tv,ev,rfl,hm,h1,⟨p,tabs,rfl,hp,fW⟩,h3⟩,hl,hn⟩,k⟩:=h;refine⟨_,(c5 (V3 (i₀:=1) (xs:=[Av]) Gq.nd U (Or.inl U) U (oC [R0,Kv] (a8 Bo)) (G0 (B5 g6 (O 0) a9)) (p9 (i:=2) (by show List.Nodup ([R0,Kv,Av]:List Str);decide +kernel) U (Or.inl U)) (x9 (DI (w:=w) (base:=base) T) hr.m U T.s0a.m T.s0a.F.kp T.s0a.b .nil B4 (x5 (O 2)))) (c4 (c9 (C9 (Jg (B5 g6 (O 0) a9) (B5 g6 (O 0) a9) (j6 h7 bR T.z_tuple boot_tuple (x5 (O 1))) (B5 g6 (O 0) a9)))))),?_⟩;dsimp only[z8,u7,y9,z5];refine Z U (zf ⟨U,U,l9.of hm,U,p,U,⟨_,l9.of hp⟩,o6 (n:=l.length) (λj ys H2=>h9 H H2/\i3 (λa u H=>y7 R n n (λi j=>tb a j i) u H) ys j H2) hl ⟨h9.refl _,i3.nil⟩ (λj ys H2 q=>q.2.1) ?_ ?_ ?_⟩)
 . rintro j ys H2 hj ⟨q,e⟩;obtain⟨u,eu,pu⟩:=fW.2 j hj;refine Dx (l9.of (q _ _ hp)) eu ?_;refine⟨⟨[some _],U,U⟩,Z U ⟨R,zB _ n n (tb j) ⟨U,⟨y7.same q.t pu,hn,hn⟩,λv H3 s3 f3=>?_⟩⟩⟩;rw[show(if n=0 then 0 else n)=n by split <;>omega]at f3;exact⟨q.trans s3,(e.mono λ_ _ _ z=>y7.same s3.t z).snoc f3⟩
 . rintro ys H2 ⟨q,e⟩;exact⟨_,l9.of (q _ _ hp),by rw[fW.1];exact ae _⟩
 . rintro ys H2 z ⟨q,e⟩ nl;refine E6 (o:=.lst ys) nl λH3 fU k1=>?_;have q3:=q.trans fU;refine Z U (zf ⟨U,U,l9.of (q3 _ _ hm),U,Z U (zf ⟨U,U,l9.of (q3 _ _ hm),U,Z U ⟨z,ys,U,.inl ⟨o7.of k1,λl2 n2=>?_⟩⟩⟩)⟩);refine E6 (o:=.tup ys) n2 λH4 s2 k2=>?_;have q4:=q3.trans s2;refine Z U (zf ⟨U,U,l9.of (q4 _ _ hm),U,sL,λl3 n3=>?_⟩);have s3:=c6 (o:=.tup [vT l,ev,V.ref l2,sv]) n3;refine k _ _ (q4.trans s3) ⟨l3,ev,.ref l2,sv,U,b9,i0.same (q4.trans s3).t h3,⟨l2,ys,U,s3 _ _ k2,e.mono λ_ _ _ x=>y7.same (fU.trans (s2.trans s3)).t x⟩,i0.same (q4.trans s3).t h1⟩
def Dz(R:g9 Pr w K mg base)(W:Nat)(ρ:List Nat->Nat->R.S.W)(ws:List (List Nat)):Nat->V->Hp->Prop:=λi u H=>∃wd q rv,ws[i]? = some wd/\u=.ref q/\H q=some (.tup [vT wd,rv])/\i0 R W (ρ wd) rv H
theorem Dz.same{R:g9 Pr w K mg base}{W i:Nat}{ρ:List Nat->Nat->R.S.W}{ws:List (List Nat)}{u:V}{H H':Hp}(s:x4 H H')(h:Dz R W ρ ws i u H):Dz R W ρ ws i u H':=by
 obtain⟨wd,q,rv,e,rfl,hq,r⟩:=h;exact⟨wd,q,rv,e,U,s _ _ hq,i0.same s r⟩
def L4(R:g9 Pr w K mg base)(W:Nat)(ρ:List Nat->Nat->R.S.W)(ws:List (List Nat))(a:Addr)(H:Hp):Prop:=∃us,H a=some (.lst us)/\i3 (Dz R W ρ ws) us ws.length H
theorem L4.same{R:g9 Pr w K mg base}{W:Nat}{ρ:List Nat->Nat->R.S.W}{ws:List (List Nat)}{a:Addr}{H H':Hp}(s:h9 H H')(h:L4 R W ρ ws a H):L4 R W ρ ws a H':=by
 obtain⟨us,ha,e⟩:=h;exact⟨us,s _ _ ha,e.mono λ_ _ _ q=>q.same s.t⟩
def Dz.up{R:g9 Pr w K mg base}{W i:Nat}{ρ:List Nat->Nat->R.S.W}{ws vs:List (List Nat)}{u:V}{H:Hp}(hi:i < ws.length)(h:Dz R W ρ ws i u H):Dz R W ρ (ws++vs) i u H:=by
 obtain⟨wd,q,rv,e,r⟩:=h;exact⟨wd,q,rv,by rw[aW hi];exact e,r⟩
def Dz.lift{R:g9 Pr w K mg base}{W i:Nat}{ρ:List Nat->Nat->R.S.W}{ws vs:List (List Nat)}{u:V}{H:Hp}(h:Dz R W ρ vs i u H):Dz R W ρ (ws++vs) (ws.length+i) u H:=by
 obtain⟨wd,q,rv,e,r⟩:=h;exact⟨wd,q,rv,by rw[ba Y,show ws.length+i - ws.length=i by omega];exact e,r⟩
def Im{R:g9 Pr w K mg base}{W:Nat}{ρ:List Nat->Nat->R.S.W}{ws vs:List (List Nat)}{us xs:List V}{H:Hp}(h:i3 (Dz R W ρ ws) us ws.length H)(g:i3 (Dz R W ρ vs) xs vs.length H):i3 (Dz R W ρ (ws++vs)) (us++xs) (ws++vs).length H:=by
 refine⟨by rw[aq,aq,h.1,g.1],λj hj=>?_⟩;rw[aq]at hj;by_cases z:j < ws.length
 . obtain⟨u,e,p⟩:=h.2 j z;exact⟨u,by rw[aW (by rw[h.1];exact z)];exact e,p.up z⟩
 . obtain⟨u,e,p⟩:=g.2 (j - ws.length) Y;refine⟨u,by rw[ba (by rw[h.1];omega),h.1];exact e,?_⟩;have:=p.lift (ws:=ws);rwa [show ws.length+(j - ws.length)=j by omega]at this
def D6(D:Addr->Prop)(H H':Hp):Prop:=∀b o,¬D b->H b=some o->H' b=some o
def D6.of{D:Addr->Prop}{H H':Hp}(s:h9 H H'):D6 D H H':=λb o _ h=>s b o h
def D6.trans{D:Addr->Prop}{H H1 H2:Hp}(s:D6 D H H1)(s':D6 D H1 H2):D6 D H H2:=λb o n h=>s' b o n (s b o n h)
def spG(R:g9 Pr w K mg base)(W:Nat)(ρ:List Nat->Nat->R.S.W)(g:List (List Nat)->List (List Nat))(Ok:List (List Nat)->Prop)(D:Addr->Prop)(J:Hp->Prop):Sp:=λvs H Q _=>∃a ws,vs=[.ref a]/\(L4 R W ρ ws a H/\Ok ws/\J H)/\
 ∀b H',D6 D H H'->J H'->H b=none->L4 R W ρ (g ws) b H'->Q (.ref b) H'
theorem D6.tup{D:Addr->Prop}{H H':Hp}(s:D6 D H H')(h:∀b,D b->∃o,H b=some o/\(∀ts,o≠.tup ts)/\∀C dx fs,o≠.ins C dx fs):x4 H H':=λp ts e=>s p _ (λd=>by
 obtain⟨o,h1,h2,_⟩:=h p d;rw[e]at h1;exact h2 ts (Option.some.inj h1).symm) e
def Q9.sameD{D:Addr->Prop}{H H':Hp}{C:Addr}{fs:List (Str × V)}{v:V}(s:D6 D H H')(h:∀b,D b->∃o,H b=some o/\(∀ts,o≠.tup ts)/\∀C dx fs,o≠.ins C dx fs)(k:Q9 C fs H v):Q9 C fs H' v:=by
 obtain⟨p,dx,rfl,e⟩:=k;refine⟨p,dx,U,s p _ (λd=>?_) e⟩;obtain⟨o,h1,_,h2⟩:=h p d;rw[e]at h1;exact h2 _ _ _ (Option.some.inj h1).symm
def j9.lt{a:Addr}{xs:List V}{H H':Hp}(s:j9 a H H')(h:H a=some (.lst xs)):x4 H H':=λp ts e=>s p _ (λz=>by rw[z,h]at e;cases e) e
def L4.sameX{R:g9 Pr w K mg base}{W:Nat}{ρ:List Nat->Nat->R.S.W}{ws:List (List Nat)}{a b:Addr}{xs:List V}{H H':Hp}(s:j9 b H H')(hb:H b=some (.lst xs))(n:a≠b)(h:L4 R W ρ ws a H):L4 R W ρ ws a H':=by
 obtain⟨us,ha,e⟩:=h;exact⟨us,s _ _ n ha,e.mono λ_ _ _ q=>q.same (s.lt hb)⟩
def N9.sameX{R:g9 Pr w K mg base}{W:Nat}{ks:List (Nat × (Nat->R.S.W))}{a b:Addr}{xs:List V}{H H':Hp}(s:j9 b H H')(hb:H b=some (.lst xs))(n:a≠b)(h:N9 R W ks a H):N9 R W ks a H':=by
 obtain⟨us,ha,e⟩:=h;exact⟨us,s _ _ n ha,e.mono λ_ _ _ q=>q.same (s.lt hb)⟩
def L4.sameD{R:g9 Pr w K mg base}{W:Nat}{ρ:List Nat->Nat->R.S.W}{ws:List (List Nat)}{a:Addr}{D:Addr->Prop}{H H':Hp}(s:D6 D H H')(t:x4 H H')(n:¬D a)(h:L4 R W ρ ws a H):L4 R W ρ ws a H':=by
 obtain⟨us,ha,e⟩:=h;exact⟨us,s _ _ n ha,e.mono λ_ _ _ q=>q.same t⟩
def N9.sameD{R:g9 Pr w K mg base}{W:Nat}{ks:List (Nat × (Nat->R.S.W))}{a:Addr}{D:Addr->Prop}{H H':Hp}(s:D6 D H H')(t:x4 H H')(n:¬D a)(h:N9 R W ks a H):N9 R W ks a H':=by
 obtain⟨us,ha,e⟩:=h;exact⟨us,s _ _ n ha,e.mono λ_ _ _ q=>q.same t⟩
def IF.imp{P:Program}{w:World}{K:aa}{mg:Str->Option Value}{base:Heap}{k:Nat}{f:Addr}{sp qU:Sp}(F:IF P w K mg base k f sp)(h:∀v H Q,qU [v] H Q E0->sp [v] H Q E0):IF P w K mg base k f qU:=
 ⟨F.fn,λA outer s H u v Q hr e rv q=>F.run A outer s H u v Q hr e rv (h v H Q q)⟩
def IS(w:World)(K:aa)(mg:Str->Option Value)(base:Heap):Sp:=λvs H Q _=>∃(R:g9 Pr w K mg base),∃kv fv f,∃(W β r:Nat),∃ρ g Ok D J,vs=[kv,fv,.ref f]/\(Q9 R.C R.fs H kv/\i0 R W (ρ []) fv H/\W<=60/\IF Pr w K mg base 48 f (spG R W ρ g Ok D J)/\(J H/\(∀G G',h9 G G'->J G->J G')/\∀a xs G G',H a=none->G a=some (.lst xs)->j9 a G G'->J G->J G')/\(∀G,J G->∀b,D b->∃o,G b=some o/\(∀ts,o≠.tup ts)/\∀C dx fs,o≠.ins C dx fs)/\g []=[]/\
    (∀i,(x6 R.F W ρ g i).last≠[]->Ok (FD R.F W ρ (x6 R.F W ρ g i).ks (x6 R.F W ρ g i).last))/\(∀i,∀u∈(x6 R.F W ρ g i).last,XB R.B W β r (ρ u))/\X0 R.S (3 * (β+(r+1) * 2 ^ W)))/\
 ∀b H',D6 D H H'->J H'->H b=none->L4 R W ρ (Ae R.F W ρ g) b H'->Q (.ref b) H'
def DG(T:Txt K mg t):r8 Pr w K mg base E7 51 t.t0w t.r0m [w9,IK,"grown"] (IS w K mg base):=by
 refine T.r0v.F.okA K5 λ_ _ _ _ H _ _ _ hr h=>?_;obtain⟨R,kv,fv,f,W,β,r,ρ,g,Ok,D,J,rfl,⟨hk,hf,hW,hG,⟨hJ,wj,uf⟩,hD,vQ,hOk,hX,hS⟩,k⟩:=h;refine⟨_,(c5 (sT 3 K5.nd (D0 J1)) (c5 (sT 4 K5.nd (D0 J1)) (c5 (sT 5 K5.nd (D0 (x5 (C9 (D9 Cu (O 1)))))) (c5 (AM ar (l8 Ao (l4 r9 bR T.z_len PySem.boot_len (x5 (O 5))) a9 (o4 _)) (c5 (sT 6 K5.nd (D0 J1)) (c5 (C6 ar U (B6 (O 5)) (gN 7 K5.nd) (c4 (y8 (O7 (C1 (QN T) hr.m T.y0l (Jg (O 0) (O 3) (B5 g6 (O 7) a9) (l4 r9 bR T.z_len PySem.boot_len (x5 (O 1)))))) (c4 (E8 (S3 bf bA bB F8 (O 6) (x5 (O 7))))) o8))) (c5 (E8 (S3 bf PySem.F.slot_list_extend PySem.F.type_list_extend Kc (O 4) (x5 (O 6)))) (c4 (sT 5 K5.nd (UC (i:=2) (k:=48) hr.m (x5 (O 6))))))))) (c4 (c9 (O 4))))))),?_⟩;dsimp only[z8,u7,y9,z5];refine⟨sL,λka nk=>?_⟩;refine E6 (o:=.lst []) nk λH1 s1 k1=>?_;refine⟨sL,λta nt=>?_⟩;refine E6 (o:=.lst []) nt λH2 s2 k2=>?_;have tk:ta≠ka:=λz=>by rw[z,k1]at nt;cases nt
 refine Z U ⟨sL,λtp mT=>?_⟩;rw[VG];refine E6 (o:=.tup [V.str (tx []),fv]) mT λH3 s3 k3=>?_;refine⟨sL,λla nl=>?_⟩;refine E6 (o:=.lst [V.ref tp]) nl λH4 s4 k4=>?_;have q2:=s1.trans s2;have q3:=q2.trans s3;have q4:=q3.trans s4;have pj:H ta=none:=by
  cases e:H ta with
  | none=>rfl
  | some o=>rw[s1 _ _ e]at nt;cases nt
 have vv:H la=none:=by
  cases e:H la with
  | none=>rfl
  | some o=>rw[q3 _ _ e]at nl;cases nl
 have lk:la≠ka:=λz=>by rw[z,s3 _ _ (s2 _ _ k1)]at nl;cases nl
 have lt:la≠ta:=λz=>by rw[z,s3 _ _ k2]at nl;cases nl
 refine⟨λm σ G=>∃(i:Nat) (la:Addr) (v6 v7:Option V),σ=[some kv,some fv,sr f,sr ka,sr ta,sr la,v6,v7]/\m=b0z W (x6 R.F W ρ g i)/\D6 D H G/\J G/\N9 R W (x6 R.F W ρ g i).ks ka G/\L4 R W ρ (x6 R.F W ρ g i).told ta G/\L4 R W ρ (x6 R.F W ρ g i).last la G/\H la=none/\la≠ka/\la≠ta,⟨_,0,la,za ⟨U,U,D6.of q4,wj _ _ q4 hJ,⟨_,(s2.trans (s3.trans s4)) _ _ k1,i3.nil⟩,⟨_,(s3.trans s4) _ _ k2,i3.nil⟩,⟨_,k4,i3.snoc i3.nil ⟨[],tp,fv,U,U,s4 _ _ k3,i0.same q4.t hf⟩⟩,vv,lk,lt⟩⟩,?_⟩
 rintro m σ G ⟨i,la,v6,v7,rfl,rfl,sD,jG,hK,hT,hL,vv,lk,lt⟩;have hL0:=hL;obtain⟨us,jZ,eL⟩:=hL;have eJ:DA K (.ref la) G (x6 R.F W ρ g i).last.length:=.inl ⟨_,o7.of jZ,eL.1.symm⟩;refine Z U (za ⟨U,eJ,za ⟨U,U,Z U ?_⟩⟩);refine AC (λh0=>?_) (λh0=>?_)
 . have ne:(x6 R.F W ρ g i).last≠[]:=λz=>by rw[z]at h0;exact absurd h0 bD
   refine⟨λσ' G'=>∃(la:Addr) (v6 v7:Option V),σ'=[some kv,some fv,sr f,sr ka,sr ta,sr la,v6,v7]/\D6 D H G'/\J G'/\N9 R W (x6 R.F W ρ g (i+1)).ks ka G'/\L4 R W ρ (x6 R.F W ρ g (i+1)).told ta G'/\L4 R W ρ (x6 R.F W ρ g (i+1)).last la G'/\H la=none/\la≠ka/\la≠ta,
    λσ' G' ⟨la,v6,v7,e1,e2,e3,e4,e5,e6,e7,e8,e9⟩=>⟨_,Vy vQ ne,i+1,la,v6,v7,e1,U,e2,e3,e4,e5,e6,e7,e8,e9⟩,?_⟩
   have dG:=hD _ jG;have nd:∀{b:Addr},H b=none->¬D b:=λ{b} e d=>by
    obtain⟨o,h1,_⟩:=hD _ hJ b d;rw[e]at h1;cases h1
   have nn:∀{b:Addr} {G:Hp},D6 D H G->J G->G b=none->H b=none:=λ{b G} sG jG e=>by
    cases e':H b with
    | none=>rfl
    | some o=>
     by_cases d:D b
     . obtain⟨o,h1,_⟩:=hD _ jG b d;rw[e]at h1;cases h1
     . rw[sG b o d e']at e;cases e
   refine⟨sL,λfa nf=>?_⟩;have t1:=c6 (o:=.lst ([]:List V)) nf;have f1:=b9 (H:=G) (a:=fa) (o:=.lst []);have vx:=nn sD jG nf;have fk:fa≠ka:=λz=>by obtain⟨_,e,_⟩:=hK;rw[<- z,nf]at e;cases e
   have ft:fa≠ta:=λz=>by obtain⟨_,e,_⟩:=hT;rw[<- z,nf]at e;cases e
   have fl:fa≠la:=λz=>by rw[<- z,nf]at jZ;cases jZ
   revert t1 f1;generalize upd G fa (.lst [])=G1;intro t1 f1;have KP:∀j,Kp R.S W (Fu R.F W ρ (x6 R.F W ρ g i).ks ((x6 R.F W ρ g i).last.take j)):=λj=>Qb (O8 i);have KB:∀j,Kb R.B W r (Fu R.F W ρ (x6 R.F W ρ g i).ks ((x6 R.F W ρ g i).last.take j)):=λj=>Qc (β:=β) (ae _) (Vx (β:=β) (ae _) hX i) λu hu=>hX i u (List.mem_of_mem_take hu);have FL:∀j,(FD R.F W ρ (x6 R.F W ρ g i).ks ((x6 R.F W ρ g i).last.take j)).length<=W:=λj=>by
    have:=Au (F:=R.F) (l:=W) (ρ:=ρ) (ws:=(x6 R.F W ρ g i).last.take j) (ks:=(x6 R.F W ρ g i).ks);have:=(KP j).len;omega
   have zl:=sZ;refine Z U ⟨la,U,⟨_,o7.of (t1 _ _ jZ)⟩,P1 (K:=K) (a:=la) (xs:=us) (λj σ G2=>∃v7,σ=[some kv,some fv,sr f,sr ka,sr ta,sr la,sr fa,v7]/\D6 D H G2/\J G2/\N9 R W (Fu R.F W ρ (x6 R.F W ρ g i).ks ((x6 R.F W ρ g i).last.take j)) ka G2/\L4 R W ρ (x6 R.F W ρ g i).told ta G2/\(G2 la=some (.lst us)/\i3 (Dz R W ρ (x6 R.F W ρ g i).last) us (x6 R.F W ρ g i).last.length G2)/\L4 R W ρ (FD R.F W ρ (x6 R.F W ρ g i).ks ((x6 R.F W ρ g i).last.take j)) fa G2)
    (Z U ⟨sD.trans (.of t1),wj _ _ t1 jG,hK.same t1,hT.same t1,⟨t1 _ _ jZ,eL.mono λ_ _ _ q=>q.same t1.t⟩,⟨_,f1,i3.nil⟩⟩) (λj σ G2 _ ⟨_,_,_,_,_,_,e,_⟩=>o7.of e.1) ?_ ?_⟩
   . rintro j y σ G2 hj ⟨v7,rfl,gg,pG,oo,gi,⟨nW,qr⟩,oq⟩;obtain⟨jl,wd,q,rv,ew,rfl,hq,ro⟩:=qr.at hj;have kr:=hD _ pG;have fL:x4 H G2:=gg.tup (hD _ hJ);have jd:Q9 R.C R.fs G2 kv:=Q9.sameD gg (hD _ hJ) hk;have ts:(x6 R.F W ρ g i).last.take (j+1)=(x6 R.F W ρ g i).last.take j++[wd]:=J2 ew;have ek:Fu R.F W ρ (x6 R.F W ρ g i).ks ((x6 R.F W ρ g i).last.take (j+1))=AV R.F W (Fu R.F W ρ (x6 R.F W ρ g i).ks ((x6 R.F W ρ g i).last.take j)) (ρ wd):=by rw[ts,Vz]
     have ef:FD R.F W ρ (x6 R.F W ρ g i).ks ((x6 R.F W ρ g i).last.take (j+1))=FD R.F W ρ (x6 R.F W ρ g i).ks ((x6 R.F W ρ g i).last.take j)++(if(AV R.F W (Fu R.F W ρ (x6 R.F W ρ g i).ks ((x6 R.F W ρ g i).last.take j)) (ρ wd)).length≠(Fu R.F W ρ (x6 R.F W ρ g i).ks ((x6 R.F W ρ g i).last.take j)).length then [wd]else []):=by rw[ts,NQ]
     refine vc U U U (zf ⟨U,U,l9.of hq,U,Z U (za ⟨U,(i0.same fL hf).len,R,zJ kv ka rv W W (β+(r+1) * 2 ^ W) _ (ρ wd) ⟨U,⟨jd,oo,KP j,ro,ae _,Y,λ_=>(KB j).clrZ (hX i wd (aK ew)) (KP j).len (ae _),hS⟩,λG3 s3 K3=>?_⟩⟩)⟩);obtain⟨kus,jH,_⟩:=id oo;have mx:=oq.sameX s3 jH fk;have gG:=gi.sameX s3 jH tk;have iC:=s3.lt jH;have gE:D6 D H G3:=λb o d e=>s3 b o (j7 e nk) (gg b o d e);have jY:=uf ka _ _ _ nk jH s3 pG;have nV:=s3 _ _ lk nW;have qp:=qr.mono λ_ _ _ (q:Dz R W ρ (x6 R.F W ρ g i).last _ _ _)=>q.same iC;by_cases hc:(AV R.F W (Fu R.F W ρ (x6 R.F W ρ g i).ks ((x6 R.F W ρ g i).last.take j)) (ρ wd)).length≠(Fu R.F W ρ (x6 R.F W ρ g i).ks ((x6 R.F W ρ g i).last.take j)).length
     . rw[if_pos hc]at ef;rw[decide_eq_true hc];refine Z U ?_;refine Bz ?_;obtain⟨ji,ir,yo⟩:=mx;have:=FL j;refine Z U ⟨.inl ⟨U,_,o7.of ir⟩,Z U ⟨fa,ji,V.ref q,U,U,ir,(by rw[yo.1];omega),?_⟩⟩;have sx:j9 fa G3 (upd G3 fa (.lst (ji++[V.ref q]))):=j9.upd;have sl:=y6 (o:=.lst (ji++[V.ref q])) ir;refine Z U ⟨λb o d e=>sx b o (j7 e vx) (gE b o d e),uf fa _ _ _ vx ir sx jY,?_,gG.sameX sx ir (Ne.symm ft),⟨sx _ _ (Ne.symm fl) nV,qp.mono λ_ _ _ q=>q.same sl⟩,?_⟩
       . rw[ek];exact K3.sameX sx ir (Ne.symm fk)
       . rw[ef];refine⟨_,b9,Im (yo.mono λ_ _ _ q=>q.same sl) (i3.snoc i3.nil ⟨wd,q,rv,U,U,sl _ _ (iC _ _ hq),i0.same sl (i0.same iC ro)⟩)⟩
     . rw[if_neg hc,bI]at ef;rw[decide_eq_false hc];refine Z U ?_;refine T3 ?_;refine Z U ⟨gE,jY,?_,gG,⟨nV,qp⟩,?_⟩
       . rw[ek];exact K3
       . rw[ef];exact mx
   . rintro σ G2 ⟨v7,rfl,gg,pG,oo,gi,⟨nW,qr⟩,oq⟩;rw[qr.1,bb]at oo oq;have FL:=FL (x6 R.F W ρ g i).last.length;rw[bb]at FL;obtain⟨ji,tL,yq⟩:=id oq;obtain⟨lN,ik,yk⟩:=id gi;have tl:=Dc (F:=R.F) (l:=W) (ρ:=ρ) (g:=g) i;have tl2:=(O8 (F:=R.F) (l:=W) (ρ:=ρ) (g:=g) i).len;refine Z U ⟨.inl ⟨U,_,o7.of ik⟩,Z U ⟨ta,fa,lN,ji,U,U,ik,tL,(by rw[yq.1,yk.1];omega),?_⟩⟩;have sx:j9 ta G2 (upd G2 ta (.lst (lN++ji))):=j9.upd;have sl:=y6 (o:=.lst (lN++ji)) ik;have gE:D6 D H (upd G2 ta (.lst (lN++ji))):=λb o d e=>sx b o (j7 e pj) (gg b o d e);have jY:=uf ta _ _ _ pj ik sx pG;have pX:=oo.sameX sx ik (Ne.symm tk);have mx:=oq.sameX sx ik ft;have gG:L4 R W ρ (x6 R.F W ρ g (i+1)).told ta (upd G2 ta (.lst (lN++ji))):=⟨_,b9,Im (yk.mono λ_ _ _ q=>q.same sl) (yq.mono λ_ _ _ q=>q.same sl)⟩;revert gE jY pX mx gG;generalize upd G2 ta (.lst (lN++ji))=G3;intro gE jY pX mx gG;refine⟨f,Z U ⟨hG,Z U ⟨U,fa,Z U ⟨⟨mx,hOk i ne,jY⟩,λb G4 s4 j4 n4 P4=>?_⟩⟩⟩⟩;have mJ:=s4.tup (hD _ jY);obtain⟨_,e1,_⟩:=id pX;obtain⟨_,e2,_⟩:=id gG;exact⟨b,za ⟨U,gE.trans s4,j4,pX.sameD s4 mJ (nd nk),gG.sameD s4 mJ (nd pj),P4,nn gE jY n4,(λz=>by rw[<- z,n4]at e1;cases e1),(λz=>by rw[<- z,n4]at e2;cases e2)⟩⟩
 . have ne:(x6 R.F W ρ g i).last=[]:=by
    cases e:(x6 R.F W ρ g i).last with
    | nil=>rfl
    | cons a b=>rw[e]at h0;exact absurd (by simp) h0
   refine Z U ?_;rw[Vv vQ ne]at hT;exact k _ _ sD jG pj hT
def KO(w:World)(K:aa)(mg:Str->Option Value)(base:Heap):Sp:=λvs H Q _=>∃(R:g9 Pr w K mg base),∃rv,∃a,∃(n:Nat),∃x,∃(ps:List Nat),vs=[rv,.ref a]/\(i0 R n x rv H/\H a=some (.lst (ps.map λp:Nat=>V.int (p:Int)))/\(∀p∈ps,p < n)/\ps.length<=1000)/\
 ∀v H',h9 H H'->i0 R ps.length (λj=>x (ps.getD j 0)) v H'->Q v H'
def Fd(T:Txt K mg t):r8 Pr w K mg base E7 1 t.w0j t.t0j UU (KO w K mg base):=by
 refine T.t0e.F.okA Lb λ_ _ _ _ H _ _ _ hr h=>?_;obtain⟨R,rv,a,n,x,ps,rfl,⟨hx,ha,hp,hn⟩,k⟩:=h;refine⟨_,(c4 (c9 (j6 h7 bR T.z_tuple boot_tuple (x5 (w5 (xs:=[Do]) U (oC UU (a8 Al)) (B6 (O 1)) (p9 (i:=2) (by show List.Nodup ([C8,"places",Do]:List Str);decide +kernel) U (Or.inl U)) (B5 (show Ku _ (HC K)from g6) (O 0) (O 2))))))),?_⟩;dsimp only[z8,u7,y9,z5];refine Z U ⟨a,U,⟨_,o7.of ha⟩,o6 (n:=ps.length) (λj ys H2=>i3 (λj u H=>R.is H u (x (ps.getD j 0))) ys j H/\H2=H) hn ⟨i3.nil,U⟩ (λj ys H2 q=>q.1.1) ?_ ?_ ?_⟩
 . rintro j ys H2 hj ⟨e,rfl⟩;have ej:(ps.map λp:Nat=>V.int (p:Int))[j]? = some (V.int ((ps[j]:Nat):Int)):=by rw[aE,ah hj];rfl
   refine Fp (o7.of ha) ej ?_;obtain⟨p,us,u,rfl,h1,h2,h3⟩:=i0.at hx (hp _ (aJ hj));refine⟨⟨[some _],U,U⟩,vb U U (zf ⟨U,U,h1,h2,?_⟩)⟩;have eg:ps.getD j 0=ps[j]:=by rw[aR,ah hj];rfl
   exact⟨e.snoc (by rw[eg];exact h3),U⟩
 . rintro ys H2 ⟨e,rfl⟩;exact⟨_,o7.of ha,by rw[af];exact ae _⟩
 . rintro ys H2 l ⟨e,rfl⟩ nl;have s1:=c6 (o:=.lst ys) nl;refine⟨l,ys,U,.inl ⟨o7.of b9,λl2 n2=>?_⟩⟩;have s2:=c6 (o:=.tup ys) n2;exact k _ _ (s1.trans s2) ⟨l2,ys,U,b9,e.mono λ_ _ _ q=>R.same (s1.trans s2).t q⟩
structure P5(l:List Nat):Prop where
 nd:l.Nodup
 as:∀c∈l,c < 128
 h3:l.length<=3
def P5.asc{l:List Nat}(L:P5 l):(tx l).cps.all (· < 128)=true:=Ti L.as
def a0z{l:List Nat}(nd:l.Nodup){j c:Nat}(h:l[j]? = some c):l.idxOf c=j:=by
 obtain⟨hj,e⟩:=aU.mp h;have h1:l.idxOf c < l.length:=cR.mpr (by rw[<- e];exact aJ hj);have h2:=List.getElem_idxOf h1;exact(List.getElem_inj nd).mp (h2.trans e.symm)
def BK(w:World)(K:aa)(mg:Str->Option Value)(base:Heap):Sp:=λvs H Q _=>∃(R:g9 Pr w K mg base),∃kv mv a l,∃(n μ:Nat),∃st tb en ws,vs=[kv,mv,.ref a]/\(Q9 R.C R.fs H kv/\l5 R l n st tb en mv H/\MB R.B n l.length μ st tb en/\P5 l/\n<=60/\L4 R n (j5 R.S n st (w4 l tb)) ws a H/\(∀u∈ws,u.length<=n/\∀c∈u,c∈l)/\ws.length<=1000/\X0 R.S (3 * ((n+2) * (μ+n))))/\
 ∀b H',h9 H H'->H b=none->L4 R n (j5 R.S n st (w4 l tb)) (gB l ws) b H'->Q (.ref b) H'
def T4(T:Txt K mg t):r8 Pr w K mg base E7 45 t.p0m t.o0u [w9,R0,"last"] (BK w K mg base):=by
 refine T.o0w.F.okA I0 λ_ _ _ _ H _ _ _ hr h=>?_;obtain⟨R,kv,mv,a,l,n,μ,st,tb,en,ws,rfl,⟨hk,hM,hB,L,hn,⟨us,ha,eP⟩,hw,kR,hS⟩,k⟩:=h;obtain⟨mp,sv,tv,ev,rfl,hm,_,hT,_⟩:=id hM;have zl:=sZ;refine⟨_,(c5 (sT 3 I0.nd (D0 J1)) (c5 (C6 ar U (B6 (O 2)) (J0 U (j8 (p9 (i:=4) I0.nd U (Or.inr U)) (j8 (p9 (i:=5) I0.nd U (Or.inr U)) D3))) (c4 (E8 (S3 bf PySem.F.slot_list_extend PySem.F.type_list_extend Kc (O 3) (x5 (w5 (xs:=["letter",Av]) U (oC [w9,R0,"last","told",EB,C8] (a8 J6)) (Cs U T.z_zip (D9 (B5 g6 (O 1) a9) (B5 g6 (O 1) a9))) (show PG _ _ (Ft K 2 _)from(J0 U (j8 (gL 6 m0t) (j8 (gL 7 m0t) D3)))) (C9 (D9 (l7 HL (O 4) (O 6)) (x9 (JX (w:=w) (base:=base) T) hr.m U T.x0a.m T.x0a.F.kp T.x0a.b .nil B4 (S6 (O 0) (O 5) (O 7))))))))))) (c4 (c9 (O 3))))),?_⟩;dsimp only[z8,u7,y9,z5];refine⟨sL,λb nb=>?_⟩;refine E6 (o:=.lst []) nb λH1 s1 k1=>?_;have ab:a≠b:=λz=>by rw[z,nb]at ha;cases ha
 refine Z U ⟨a,U,⟨_,o7.of (s1 _ _ ha)⟩,P1 (K:=K) (a:=a) (xs:=us) (λj σ G=>∃v4 v5,σ=[some kv,sr mp,sr a,sr b,v4,v5]/\h9 H G/\L4 R n (j5 R.S n st (w4 l tb)) (gB l (ws.take j)) b G) ⟨_,Z U ⟨s1,⟨_,k1,i3.nil⟩⟩⟩ (λj σ G _ ⟨_,_,_,q,_⟩=>o7.of (q _ _ ha)) ?_ ?_⟩
 . rintro j y σ G hj ⟨v4,v5,rfl,q,hP⟩;obtain⟨jl,wd,p,rv,ew,rfl,hp,ro⟩:=eP.at hj;obtain⟨wl,wc⟩:=hw wd (aK ew);refine⟨p,Z U ⟨l9.of (q _ _ hp),U,za ⟨U,za ⟨U,U,?_⟩⟩⟩⟩;obtain⟨tp,tabs,rfl,fA,eT⟩:=id hT;obtain⟨uM,hb,eB⟩:=id hP;have bl:=eB.1;rw[LN]at bl;have wt:(ws.take j).length * l.length<=1000 * 3:=aX (by rw[bN];omega) L.h3;have zx:XB R.B n ((n+1) * (μ+n)) ((n+1) * (μ+n)) (j5 R.S n st (w4 l tb) wd):=(hB.row wd wc).mono (L6 wl) (L6 wl);have e2:(n+2) * (μ+n)=(n+1) * (μ+n)+(μ+n):=bq ..;refine Z U ⟨.inl ⟨U,_,o7.of hb⟩,Z U (zf ⟨U,U,l9.of (q _ _ hm),U,Z U (zf ⟨U,U,l9.of (q _ _ hm),U,.str (tx l),.tup tp,za ⟨l.map (λc=>vT [c]),tabs,U,U,U,(EH l).symm,l9.of (q _ _ fA),o6 (n:=l.length) (λi ys G2=>h9 G G2/\i3 (Dz R n (j5 R.S n st (w4 l tb)) (l.map λc=>wd++[c])) ys i G2) (by have:=L.h3;omega) ⟨h9.refl _,i3.nil⟩ (λj ys H2 q=>q.2.1) ?_ ?_ ?_⟩⟩)⟩)⟩
   . rintro i ys G2 hi ⟨q2,e⟩;obtain⟨u,eu,pu⟩:=eT.2 i hi;have ec:(l.map λc=>vT [c])[i]? = some (vT [l[i]]):=by rw[aE,ah hi];rfl
     have rh:=q.trans q2;refine⟨⟨_,tabs,_,u,(EH l).symm,l9.of (rh _ _ fA),ec,eu⟩,λy' H' hy=>?_⟩;obtain⟨pp,x',y',rfl,np,rfl,f1,f2⟩:=hy;have e1:=f1 _ (EH l).symm;rw[ec]at e1;cases e1;have yr:=f2 _ (l9.of (rh _ _ fA));rw[eu]at yr;cases yr;have s3:=c6 (o:=.tup [vT [l[i]],u]) np;have q3:=rh.trans s3;refine⟨pp,Z U ⟨l9.of b9,U,za ⟨U,za ⟨U,U,⟨[some _,some _],U,U⟩,vb U U (za ⟨U,U,(by show(tx wd).length+(tx [l[i]]).length<=_;rw[P8,P8];simp;omega),?_⟩)⟩⟩⟩⟩;refine vc U U U ⟨R,zJ _ _ _ n n (j5 R.S n st (w4 l tb) wd) (tb i) ((n+2) * (μ+n)) ⟨U,⟨hk.same q3,i0.same q3.t ro,y7.same q3.t pu,Y,Y,λj hj=>N4 zx ((hB.tb i hi).col hj) Y Y,hS⟩,λv H3 vg f3=>?_⟩⟩;rw[show(if n=0 then 0 else n)=n by split <;>omega]at f3;refine⟨sL,λp5 n5=>?_⟩;rw[Tj];have s5:=c6 (o:=.tup [V.str (tx (wd++[l[i]])),v]) n5;refine⟨q2.trans (s3.trans (vg.trans s5)),(e.mono λ_ _ _ z=>z.same (s3.trans (vg.trans s5)).t).snoc ⟨wd++[l[i]],p5,v,by rw[aE,ah hi];rfl,U,b9,i0.same s5.t ?_⟩⟩;have ei:w4 l tb l[i]=tb i:=by unfold w4;rw[a0z L.nd (ah hi)]
     rw[B8,ei];exact f3
   . rintro ys G2 ⟨q2,e⟩;exact⟨_,tabs,(EH l).symm,l9.of ((q.trans q2) _ _ fA),.inl (by rw[af])⟩
   . rintro ys G2 z ⟨q2,e⟩ nl;refine E6 (o:=.lst ys) nl λG3 s3 k3=>?_;have q3:=q2.trans s3;have tT:=q3 _ _ hb;have l3:=L.h3;refine⟨b,z,uM,ys,U,U,tT,k3,(by rw[bl,e.1];omega),?_⟩;have sx:j9 b G3 (upd G3 b (.lst (uM++ys))):=j9.upd;have sl:=y6 (o:=.lst (uM++ys)) tT;refine za ⟨U,λc o hc=>sx c o (j7 hc nb) ((q.trans q3) c o hc),?_⟩;rw[Ra ew];have el:l.length=(l.map λc=>wd++[c]).length:=by rw[af]
     rw[el]at e;exact⟨_,b9,Im (eB.mono λ_ _ _ z=>(z.same q3.t).same sl) (e.mono λ_ _ _ z=>(z.same s3.t).same sl)⟩
 . rintro σ G ⟨v4,v5,rfl,q,hP⟩;rw[eP.1,bb]at hP;exact Z U (k _ _ q nb hP)
def qFA:Str:=(("free_ahead":Str)++".<locals>.")++"<lambda>"
def qAL:Str:=(("alike":Str)++".<locals>.")++"<lambda>"
def tabs(t:Qu):List (Addr × Str):=[(t.P_echelon,qE),(t.P_free_ahead,qFA),(t.P_alike,qAL)]
def Ws(T:Txt K mg t):((tabs t).map Prod.fst).Nodup:=T.d_tabs
def Qy:(t.P_echelon,qE)∈tabs t:=by simp[tabs]
def Tt:(t.P_free_ahead,qFA)∈tabs t:=by simp[tabs]
def Tu:(t.P_alike,qAL)∈tabs t:=by simp[tabs]
def DT(t:Qu)(b:Addr):Prop:=∃q,(b,q)∈tabs t
def D7(t:Qu)(H:Hp):Prop:=∀p∈tabs t,Q8 H p.1 p.2
theorem D7.same{H H':Hp}(s:h9 H H')(h:D7 t H):D7 t H':=λp hp=>Q8.same s (h p hp)
def Q8.sameX{a P:Addr}{q:Str}{xs:List V}{H H':Hp}(s:j9 a H H')(ha:H a=some (.lst xs))(h:Q8 H P q):Q8 H' P q:=by
 obtain⟨ps,h1,h2,h3⟩:=h;refine⟨ps,s _ _ (Ar h1 ha (by simp)) h1,h2,λlp v e=>?_⟩;obtain⟨c,e1,oc,vs,t,y1,y2⟩:=h3 lp v e;exact⟨c,e1,oc,vs,t,s _ _ (Ar y1 ha (by simp)) y1,y2⟩
theorem D7.sameX{a:Addr}{xs:List V}{H H':Hp}(s:j9 a H H')(ha:H a=some (.lst xs))(h:D7 t H):D7 t H':=λp hp=>Q8.sameX s ha (h p hp)
def O0.sameX{a c:Addr}{q:Str}{xs:List V}{H H':Hp}(s:j9 a H H')(ha:H a=some (.lst xs))(h:O0 H c q):O0 H' c q:=by
 obtain⟨oc,vs,t,y1,y2⟩:=h;exact⟨oc,vs,t,s _ _ (Ar y1 ha (by simp)) y1,y2⟩
def O0.same0{c:Addr}{q:Str}{H H':Hp}(s:h9 H H')(h:O0 H c q):O0 H' c q:=by
 obtain⟨oc,vs,t,y1,y2⟩:=h;exact⟨oc,vs,t,s _ _ y1,y2⟩
def D7.not{H:Hp}(h:D7 t H):∀b,DT t b->∃o,H b=some o/\(∀ts,o≠.tup ts)/\∀C dx fs,o≠.ins C dx fs:=λb ⟨q,hq⟩=>by
 obtain⟨ps,h1,_⟩:=h _ hq;exact⟨_,h1,λ_=>by simp,λ_ _ _=>by simp⟩
theorem D7.lst{H:Hp}{b:Addr}{xs:List V}(h:D7 t H)(e:H b=some (.lst xs)):¬DT t b:=λ⟨q,hq⟩=>by
 obtain⟨ps,h1,_⟩:=h _ hq;rw[e]at h1;cases h1
theorem D7.none{H:Hp}{b:Addr}(h:D7 t H)(e:H b=none):¬DT t b:=λ⟨q,hq⟩=>by
 obtain⟨ps,h1,_⟩:=h _ hq;rw[e]at h1;cases h1
theorem JZ{α β:Type}:∀{l:List (α × β)},(l.map Prod.fst).Nodup->∀{p q},p∈l->q∈l->p.1=q.1->p=q
 | [],_,_,_,h,_,_=>nomatch h
 | a::l,nd,p,q,hp,hq,e=>by
  rw[aZ,cn]at nd;rcases aD.mp hp with e1 | h1
  . rcases aD.mp hq with e2 | h2
    . rw[e1,e2]
    . exact absurd (aw.mpr ⟨q,h2,by rw[<- e,e1]⟩) nd.1
  . rcases aD.mp hq with e2 | h2
    . exact absurd (aw.mpr ⟨p,h1,by rw[e,e2]⟩) nd.1
    . exact JZ nd.2 h1 h2 e
def D7.step{P:Addr}{q:Str}{H H':Hp}(T:Txt K mg t)(h:D7 t H)(m:(P,q)∈tabs t)(s:Og P H H')(g:Q8 H' P q):D7 t H'/\D6 (DT t) H H':=by
 refine⟨λp hp=>?_,λb o d e=>s b o (λz=>d (by rw[z];exact⟨q,m⟩)) e⟩;by_cases z:p.1=P
 . cases JZ (Ws T) hp m z;exact g
 . obtain⟨pp,hP,_⟩:=h _ m;obtain⟨ps,h1,h2,h3⟩:=h p hp;refine⟨ps,s _ _ z h1,h2,λlp v e=>?_⟩;obtain⟨c,e1,oc,vs,t,y1,y2⟩:=h3 lp v e;exact⟨c,e1,oc,vs,t,s _ _ (Ar y1 hP (by simp)) y1,y2⟩
def My(w:World)(K:aa)(mg:Str->Option Value)(base:Heap):Sp:=λvs H Q _=>∃(R:g9 Pr w K mg base),∃kd mv a l,∃(n μ u:Nat),∃st tb en es,vs=[kd,mv,.ref a]/\(Q9 R.C R.fs H kd/\l5 R l n st tb en mv H/\MB R.B n l.length μ st tb en/\N9 R n es a H/\(∀k∈es,k.1 < n/\XB R.B n u u k.2)/\n<=60/\es.length<=60/\l.length<=1000/\X0 R.S (3 * (u+μ+n)))/\
 ∀v H',h9 H H'->l5 R l es.length (Xf es st) (GL n es tb) (Nm n es en) v H'->Q v H'
def Gu(T:Txt K mg t):r8 Pr w K mg base E7 46 t.w0v t.u0h [w9,R0,BG] (My w K mg base):=by
 refine T.u0e.F.okA V8 λ_ _ _ _ H _ _ _ hr h=>?_;obtain⟨R,kd,mv,a,l,n,μ,u,st,tb,en,es,rfl,⟨hk,hM,hB,⟨us,ha,eK⟩,hX,hn,he,hl,hS⟩,k⟩:=h;obtain⟨mp,sv,tv,ev,rfl,hm,h1,⟨tp,tabs,rfl,fA,eT⟩,h3⟩:=id hM;have zl:=sZ;refine⟨_,(c5 (M6 (i:=3) V8.nd U (Or.inr U) (w5 (xs:=[Do,C8]) U (oC Xl (a8 U0)) (B6 (O 2)) (show PG _ _ (Ft K 2 _)from(J0 U (j8 (gL 7 Xm) (j8 (gL 8 Xm) D3)))) (O 7))) (c5 (sT 4 V8.nd (j6 h7 bR T.z_tuple boot_tuple (x5 (w5 (xs:=[Do,C8]) U (oC Xl (a8 U0)) (B6 (O 2)) (show PG _ _ (Ft K 2 _)from(J0 U (j8 (gL 7 Xm) (j8 (gL 8 Xm) D3)))) (O 8))))) (c5 (sT 5 V8.nd (D0 J1)) (c5 (C6 ar U (G0 (B5 g6 (O 1) a9)) (gN 6 V8.nd) (c4 (E8 (S3 bf bA bB F8 (O 5) (x5 (j6 h7 bR T.z_tuple boot_tuple (x5 (w5 (xs:=[C8]) U (oC Xl (a8 U0)) (G0 (C1 (Nj T) hr.m T.t0t (S6 (O 0) (O 4) (O 6)))) (p9 (i:=7) (by show List.Nodup ([w9,R0,BG,"places",V6,Kv,Av,C8]:List Str);decide +kernel) U (Or.inl U)) (x9 (Fd (w:=w) (base:=base) T) hr.m U T.t0e.m T.t0e.F.kp T.t0e.b .nil B4 (D9 (O 7) (O 3))))))))))) (c4 (c9 (C9 (Jg (B5 g6 (O 1) a9) (C1 (Fd T) hr.m T.t0e (D9 (B5 g6 (O 1) a9) (O 3))) (j6 h7 bR T.z_tuple boot_tuple (x5 (O 5))) (C1 (Lp T) hr.m T.s0m (S6 (O 0) (O 4) (B5 g6 (O 1) a9))))))))))),?_⟩;dsimp only[z8,u7,y9,z5];refine Z U ⟨a,U,⟨_,o7.of ha⟩,o6 (n:=es.length) (λj ys H2=>ys.length=j/\ys=((es.take j).map Prod.fst).map (λp:Nat=>V.int (p:Int))/\H2=H) Y ⟨U,U,U⟩ (λj ys H2 q=>q.1) ?_ ?_ ?_⟩
 . rintro j ys H2 hj ⟨e0,e1,rfl⟩;obtain⟨y,ey,k',q,rv,ek,rfl,hq,ro⟩:=eK.2 j hj;refine Fp (o7.of ha) ey ?_;refine⟨q,Z U ⟨l9.of hq,U,za ⟨U,za ⟨U,U,⟨[some _,some _],U,U⟩,Z U ⟨by rw[aq,e0];rfl,?_,U⟩⟩⟩⟩⟩;rw[J2 ek,bc,bc,<- e1];rfl
 . rintro ys H2 ⟨e0,e1,rfl⟩;exact⟨_,o7.of ha,by rw[eK.1];exact ae _⟩
 . rintro ys H2 pa ⟨e0,e1,rfl⟩ npa;rw[bb]at e1;subst e1;refine E6 (o:=.lst ((es.map Prod.fst).map (λp:Nat=>V.int (p:Int)))) npa λH1 s1 k1=>?_;refine Z U ⟨a,U,⟨_,o7.of (s1 _ _ ha)⟩,o6 (n:=es.length) (λj ys H3=>i3 (λi u H=>i0 R n (kv es i) u H) ys j H1/\H3=H1) Y ⟨i3.nil,U⟩ (λj ys H3 q=>q.1.1) ?_ ?_ ?_⟩
   . rintro j ys H3 hj ⟨e,rfl⟩;obtain⟨y,ey,k',q,rv,ek,rfl,hq,ro⟩:=eK.2 j hj;refine Fp (o7.of (s1 _ _ ha)) ey ?_;refine⟨q,Z U ⟨l9.of (s1 _ _ hq),U,za ⟨U,za ⟨U,U,⟨[some _,some _],U,U⟩,Z U ⟨e.snoc ?_,U⟩⟩⟩⟩⟩;rw[GA ek];exact i0.same s1.t ro
   . rintro ys H3 ⟨e,rfl⟩;exact⟨_,o7.of (s1 _ _ ha),by rw[eK.1];exact ae _⟩
   . rintro ys H3 z ⟨e,rfl⟩ nz;have s2:=c6 (o:=.lst ys) nz;refine⟨z,ys,U,.inl ⟨o7.of b9,λz2 n2=>?_⟩⟩;have s3:=c6 (o:=.tup ys) n2;have Le:=s2.trans s3;have hR:y7 R es.length n (kv es) (.ref z2) (upd (upd H3 z (.lst ys)) z2 (.tup ys)):=⟨z2,ys,U,b9,e.mono λ_ _ _ q=>i0.same Le.t q⟩;revert Le hR;generalize upd (upd H3 z (.lst ys)) z2 (.tup ys)=H4;intro Le hR;have q4:=s1.trans Le;refine⟨sL,λb nb=>?_⟩;refine E6 (o:=.lst []) nb λH5 s5 k5=>?_;have hb0:∀{c o},H2 c=some o->c≠b:=λ{c o} e z=>by rw[z]at e;rw[q4 _ _ e]at nb;cases nb
     have q5:=q4.trans s5;have pk:=λi (hi:i < es.length)=>hX _ (aJ hi);have vC:∀i,i < es.length->XB R.B n u u (kv es i):=λi hi=>by rw[GA (ah hi)];exact(pk i hi).2
     have nL:∀p∈es.map Prod.fst,p < n:=λp hp=>by
      obtain⟨k',iP,rfl⟩:=aw.mp hp;exact(hX k' iP).1
     have fV:(es.map Prod.fst).length=es.length:=af ..;refine Z U (zf ⟨U,U,l9.of (q5 _ _ hm),U,tp,U,⟨_,l9.of (q5 _ _ fA)⟩,BA (K:=K) (a:=tp) (xs:=tabs) (λi σ G=>∃v6,σ=[some kd,sr mp,sr a,sr pa,sr z2,sr b,v6]/\h9 H4 G/\∃ts,G b=some (.lst ts)/\i3 (λa u H=>y7 R es.length es.length (GL n es tb a) u H) ts i G) (Z U ⟨s5,[],k5,i3.nil⟩) (λi σ G _ ⟨_,_,q,_⟩=>l9.of (q _ _ (q4 _ _ fA))) ?_ ?_⟩)
     . rintro i y σ G hi ⟨v6,rfl,q,ts,pK,eB⟩;obtain⟨il,O⟩:=eT.at hi;have q0:=q4.trans q;refine Z U ⟨.inl ⟨U,_,o7.of pK⟩,vc U U U ⟨R,zJ kd (.ref z2) y es.length n (kv es) (tb i) (u+μ+n) ⟨U,⟨hk.same q0,y7.same q.t hR,y7.same q0.t O,Y,Y,λi' iq j hj=>N4 (vC i' iq) ((hB.tb i il).col hj) Y Y,hS⟩,?_⟩⟩⟩;rintro bv G1 t1 ⟨bp,brs,rfl,og,eR⟩;refine⟨bp,U,⟨_,l9.of og⟩,o6 (n:=es.length) (λj ys G2=>h9 G1 G2/\i3 (λi' u H=>i0 R es.length (GL n es tb i i') u H) ys j G2) Y ⟨h9.refl _,i3.nil⟩ (λj ys H2 q=>q.2.1) ?_ ?_ ?_⟩
       . rintro j ys G2 hj ⟨q2,e⟩;obtain⟨y2,ey,py⟩:=eR.2 j hj;refine Dx (l9.of (q2 _ _ og)) ey ?_;refine⟨⟨[some _],U,U⟩,vb U U ⟨R,zE _ pa n _ (es.map Prod.fst) ⟨U,⟨i0.same q2.t py,(Le.trans (q.trans (t1.trans q2))) _ _ k1,nL,by rw[fV];omega⟩,λv G3 t3 f3=>?_⟩⟩⟩;rw[fV]at f3;exact⟨q2.trans t3,(e.mono λ_ _ _ z=>i0.same t3.t z).snoc f3⟩
       . rintro ys G2 ⟨q2,e⟩;exact⟨_,l9.of (q2 _ _ og),by rw[eR.1];exact ae _⟩
       . rintro ys G2 z3 ⟨q2,e⟩ nz3;have t3:=c6 (o:=.lst ys) nz3;refine⟨z3,ys,U,.inl ⟨o7.of b9,λz4 n4=>?_⟩⟩;have t4:=c6 (o:=.tup ys) n4;have qO:=q2.trans (t3.trans t4);have tX:y7 R es.length es.length (GL n es tb i) (.ref z4) (upd (upd G2 z3 (.lst ys)) z4 (.tup ys)):=⟨z4,ys,U,b9,e.mono λ_ _ _ z=>i0.same (t3.trans t4).t z⟩;revert qO tX;generalize upd (upd G2 z3 (.lst ys)) z4 (.tup ys)=G4;intro qO tX;have jP:=t1.trans qO;have nI:=jP _ _ pK;have tl:=eB.1;refine⟨b,ts,V.ref z4,U,U,nI,Y,?_⟩;have sx:j9 b G4 (upd G4 b (.lst (ts++[V.ref z4]))):=j9.upd;have sl:=y6 (o:=.lst (ts++[V.ref z4])) nI;refine Z U ⟨λc o e=>sx c o (j7 e nb) ((q.trans jP) c o e),_,b9,i3.snoc (eB.mono λ_ _ _ z=>y7.same sl (y7.same jP.t z)) (y7.same sl tX)⟩
     . rintro σ G ⟨v6,rfl,q,ts,pK,eB⟩;rw[eT.1]at eB;have q0:=q4.trans q;refine Z U (zf ⟨U,U,l9.of (q0 _ _ hm),U,Z U (zf ⟨U,U,l9.of (q0 _ _ hm),U,Z U ⟨R,zE sv pa n st (es.map Prod.fst) ⟨U,⟨i0.same q0.t h1,(Le.trans q) _ _ k1,nL,by rw[fV];omega⟩,λv1 G1 t1 r1=>?_⟩⟩⟩)⟩);rw[fV]at r1;refine Z U ⟨b,ts,U,.inl ⟨o7.of (t1 _ _ pK),λz6 n6=>?_⟩⟩;refine E6 (o:=.tup ts) n6 λG2 t2 k6=>?_;have gK:=t1.trans t2;have q2:=q0.trans gK;refine vc U U U (zf ⟨U,U,l9.of (q2 _ _ hm),U,R,zJ kd (.ref z2) ev es.length n (kv es) en (u+μ+n) ⟨U,⟨hk.same q2,y7.same (q.trans gK).t hR,i0.same q2.t h3,Y,λi hi=>N4 (vC i hi) hB.en Y Y,hS⟩,λv3 G3 t3 r3=>?_⟩⟩);refine⟨sL,λz7 n7=>?_⟩;have t4:=c6 (o:=.tup [vT l,v1,V.ref z6,v3]) n7;have uX:=t2.trans (t3.trans t4);refine k _ _ (q2.trans (t3.trans t4)) ⟨z7,v1,.ref z6,v3,U,b9,i0.same uX.t r1,⟨z6,ts,U,(t3.trans t4) _ _ k6,eB.mono λ_ _ _ z=>y7.same (t1.trans uX).t z⟩,i0.same t4.t r3⟩
def IT(w:World)(K:aa)(mg:Str->Option Value)(base:Heap)(t:Qu):Sp:=λvs H Q _=>∃(R:g9 Pr w K mg base),∃kv mv l,∃(n μ:Nat),∃st tb en,vs=[kv,mv]/\(Q9 R.C R.fs H kv/\l5 R l n st tb en mv H/\MB R.B n l.length μ st tb en/\P5 l/\n<=60/\X0 R.S (3 * zF n μ)/\D7 t H)/\
 ∀b H',D6 (DT t) H H'->D7 t H'->H b=none->L4 R n (j5 R.S n st (w4 l tb)) (Ae R.F n (j5 R.S n st (w4 l tb)) (gB l)) b H'->Q (.ref b) H'
def DH(T:Txt K mg t)(fP:Wc mg base t):r8 Pr w K mg base E7 52 t.free_ahead t.s0b BO (IT w K mg base t):=by
 refine T.r0w.F.okC Ja T.tb_free_ahead T.r0k (by rintro _ _ _ _ ⟨_,_,_,_,_,_,_,_,_,rfl,_⟩;rfl) λA outer s H vs Q E hr h=>?_;obtain⟨R,kv,mv,l,n,μ,st,tb,en,rfl,⟨hk,hM,hB,L,hn,hS,hT⟩,k⟩:=h;obtain⟨mp,sv,tv,ev,rfl,hm,h1,h2,h3⟩:=id hM;refine⟨_,(c4 (c9 (HJ (kf:=47) (pn:="last") (fr:=BO) (js:=[0,1]) (λbase=>DG (w:=w) (base:=base) T) hr.m U T.r0v.m T.r0v.F.kp T.r0v.b (EV (O 0) (EV (B5 g6 (O 1) a9) (QM fP.free_ahead U U U (show ∀y:Str × NameKind,y∈_->y.2=.free->(a8 L7).names.lookup y.1=some .cell\/(a8 L7).names.lookup y.1=some .free from by decide +kernel)))) (by exact⟨λ_=>rfl,⟨U,U,U,dK,U,dK,dK,dK⟩,(show ∀y:Str,y∈(BO)->(a8 L7).names.lookup y=some .cell\/(a8 L7).names.lookup y=some .free from by decide +kernel),dK,U⟩) (λbase _ _ _ _ _ _ _ hr=>(x9 (T4 (w:=w) (base:=base) T) hr.m U T.o0w.m T.o0w.F.kp T.o0w.b .nil B4 (S6 (O 1) (O 2) (O 0)))) (λ_ _ _ _ _=>rfl)))),?_⟩;dsimp only[z8,u7,y9,z5];refine⟨[kv,.ref mp],U,vb U U (zf ⟨U,U,l9.of hm,U,hT _ Tt,λf c H1 sP fQ hC nf eQ hF=>?_⟩)⟩;obtain⟨iF,sD⟩:=hT.step T Tt sP fQ;have jR:x4 H H1:=sD.tup hT.not;have kc:Q9 R.C R.fs H1 kv:=Q9.sameD sD hT.not hk;have fS:=l5.same jR hM;have zl:∀i,∀u∈(x6 R.F n (j5 R.S n st (w4 l tb)) (gB l) i).last,u.length<=n/\∀c∈u,c∈l:=λi u hu=>PZ AX hu;refine⟨R.re eQ,kv,sv,f,n,(n+1) * (μ+n),(n+1) * (μ+n),j5 R.S n st (w4 l tb),gB l,λws=>(∀u∈ws,u.length<=n/\∀c∈u,c∈l)/\ws.length<=1000,λ_=>False,λG=>O0 G c qFA/\Q9 R.C R.fs G kv/\l5 R l n st tb en (.ref mp) G/\D7 t G,U,⟨kc,i0.same jR h1,hn,?_,⟨⟨hC,kc,fS,iF⟩,λG G' s' j=>⟨O0.same0 s' j.1,j.2.1.same s',l5.same s'.t j.2.2.1,j.2.2.2.same s'⟩,λa xs G G' _ ha s' j=>⟨O0.sameX s' ha j.1,?_,l5.same (s'.lt ha) j.2.2.1,j.2.2.2.sameX s' ha⟩⟩,λG j b d=>d.elim,Vu,λi ne=>?_,λi u hu=>(hB.row u (zl i u hu).2).mono (L6 (zl i u hu).1) (L6 (zl i u hu).1),hS.le (aQ _ Wg)⟩,λb H2 s2 j2 nb hP=>?_⟩
 . refine IF.imp hF λv G Q' h=>?_;obtain⟨a,ws,e,⟨hL,⟨o1,o2⟩,j1,j2,j3,j4⟩,k'⟩:=h;cases e;refine⟨j1,vc U U U (Z U ⟨R.re eQ,kv,.ref mp,a,l,n,μ,st,tb,en,ws,U,⟨j2,j3,hB,L,hn,hL,o1,o2,hS.le (aQ _ YA)⟩,λb G' s' nb hP=>?_⟩)⟩;exact k' b G' (.of s') ⟨O0.same0 s' j1,j2.same s',l5.same s'.t j3,j4.same s'⟩ nb hP
 . obtain⟨kp,dx,rfl,fX⟩:=j.2.1;exact⟨kp,dx,U,s' _ _ (λz=>by rw[z,ha]at fX;cases fX) fX⟩
 . refine⟨λu hu=>zl i u (Dd hu),?_⟩;have e:=Au (F:=R.F) (l:=n) (ρ:=j5 R.S n st (w4 l tb)) (ws:=(x6 R.F n (j5 R.S n st (w4 l tb)) (gB l) i).last) (ks:=(x6 R.F n (j5 R.S n st (w4 l tb)) (gB l) i).ks);have k':=(O8 (F:=R.F) (l:=n) (ρ:=j5 R.S n st (w4 l tb)) (g:=gB l) (i+1)).len;have k':(Fu R.F n (j5 R.S n st (w4 l tb)) (x6 R.F n (j5 R.S n st (w4 l tb)) (gB l) i).ks (x6 R.F n (j5 R.S n st (w4 l tb)) (gB l) i).last).length<=n:=k';show(FD R.F n (j5 R.S n st (w4 l tb)) (x6 R.F n (j5 R.S n st (w4 l tb)) (gB l) i).ks (x6 R.F n (j5 R.S n st (w4 l tb)) (gB l) i).last).length<=1000;omega
 . refine k b H2 (sD.trans λc o _ e=>s2 c o (λz=>z) e) j2.2.2.2 ?_ hP;cases e:H b with
   | none=>rfl
   | some o=>
    by_cases d:DT t b
    . obtain⟨o',h',_⟩:=iF.not b d;rw[h']at nb;cases nb
    . rw[sD b o d e]at nb;cases nb
def QH{α β:Type}{f:α->β}{ws:List α}{d:α}:FY (λi=>f (ws.getD i d)) ws.length=ws.map f:=by
 unfold FY;apply List.ext_getElem (by simp);intro i h1 h2;simp at h1;rw[dJ,dJ,List.getElem_range];congr 1;rw[aR,ah h1];rfl
def K0{α:Type}{ws:List α}{d:α}{i:Nat}(h:i < ws.length):ws.getD i d∈ws:=by
 rw[aR,ah h];exact aJ h
def OL(w:World)(K:aa)(mg:Str->Option Value)(base:Heap)(t:Qu):Sp:=λvs H Q _=>∃(R:g9 Pr w K mg base),∃kv mv l,∃(n μ:Nat),∃st tb en,vs=[kv,mv]/\(Q9 R.C R.fs H kv/\l5 R l n st tb en mv H/\MB R.B n l.length μ st tb en/\P5 l/\n<=60/\X0 R.S (3 * zC n μ)/\D7 t H)/\
 ∀es v H',L5 R.F n ((Ae R.F n (j5 R.S n st (w4 l tb)) (gB l)).map (j5 R.S n st (w4 l tb))) es->D6 (DT t) H H'->D7 t H'->l5 R l es.length (Xf es st) (GL n es tb) (Nm n es en) v H'->Q v H'
def Pi(T:Txt K mg t)(fP:Wc mg base t):r8 Pr w K mg base E7 54 t.y0d t.v0x BO (OL w K mg base t):=by
 refine T.v0s.F.okA Hz λ_ _ _ _ H _ _ _ hr h=>?_;obtain⟨R,kv,mv,l,n,μ,st,tb,en,rfl,⟨hk,hM,hB,L,hn,hS,hT⟩,k⟩:=h;refine⟨_,(c5 (V3 (i₀:=2) (xs:=[EB,C8]) Hz.nd U (Or.inl U) U (oC [w9,R0,V6] (a8 CW)) (B6 (C1 (DH T fP) hr.m T.r0w (D9 (O 0) (O 1)))) (show PG _ _ (Ft K 2 _)from(J0 U (j8 (p9 (i:=3) (by show List.Nodup ([w9,R0,V6,EB,C8]:List Str);decide +kernel) U (Or.inl U)) (j8 (p9 (i:=4) (by show List.Nodup ([w9,R0,V6,EB,C8]:List Str);decide +kernel) U (Or.inl U)) D3)))) (O 4)) (c4 (c9 (C1 (Gu T) hr.m T.u0e (S6 (O 0) (O 1) (C1 (HU T fP) hr.m T.v0v (D9 (O 0) (O 2)))))))),?_⟩;dsimp only[z8,u7,y9,z5];refine vb U U ⟨R,zJ kv mv l n μ st tb en ⟨U,⟨hk,hM,hB,L,hn,hS.le (aQ _ Wh),hT⟩,λb H1 gr fQ nb hP=>?_⟩⟩;have hw:∀u∈Ae R.F n (j5 R.S n st (w4 l tb)) (gB l),u.length<=n/\∀c∈u,c∈l:=λu hu=>LO AX _ u hu;have kR:(Ae R.F n (j5 R.S n st (w4 l tb)) (gB l)).length<=n:=by
  unfold Ae;rw[Dc];exact(O8 _).len
 have hx:∀x∈(Ae R.F n (j5 R.S n st (w4 l tb)) (gB l)).map (j5 R.S n st (w4 l tb)),XB R.B n ((n+1) * (μ+n)) ((n+1) * (μ+n)) x:=λx hx=>by
  obtain⟨u,hu,rfl⟩:=aw.mp hx;exact(hB.row u (hw u hu).2).mono (L6 (hw u hu).1) (L6 (hw u hu).1)
 revert hP hw kR hx k;generalize Ae R.F n (j5 R.S n st (w4 l tb)) (gB l)=ws;generalize j5 R.S n st (w4 l tb)=ρ;intro k hP hw kR hx;obtain⟨us,hb,eP⟩:=hP;have jR:x4 H H1:=gr.tup hT.not;refine⟨b,U,⟨_,o7.of hb⟩,o6 (n:=ws.length) (λj ys G=>i3 (λi u H=>i0 R n (ρ (ws.getD i [])) u H) ys j H1/\G=H1) Y ⟨i3.nil,U⟩ (λj ys H3 q=>q.1.1) ?_ ?_ ?_⟩
 . rintro j ys G hj ⟨e,rfl⟩;obtain⟨y,ey,wd,q,rv,ew,rfl,hq,ro⟩:=eP.2 j hj;refine Fp (o7.of hb) ey ?_;refine⟨q,Z U ⟨l9.of hq,U,za ⟨U,za ⟨U,U,⟨[some _,some _],U,U⟩,Z U ⟨e.snoc ?_,U⟩⟩⟩⟩⟩;rw[aR,ew];exact ro
 . rintro ys G ⟨e,rfl⟩;exact⟨_,o7.of hb,by rw[eP.1];exact ae _⟩
 . rintro ys G z ⟨e,rfl⟩ nz;refine E6 (o:=.lst ys) nz λH2 s2 k2=>?_;have gi:=fQ.same s2;have gg:D6 (DT t) H H2:=gr.trans (.of s2);have fL:x4 H H2:=gg.tup hT.not;have jd:Q9 R.C R.fs H2 kv:=Q9.sameD gg hT.not hk;have hR:FB R n ws.length (λi=>ρ (ws.getD i [])) (.ref z) H2:=⟨z,ys,U,k2,e.mono λ_ _ _ q=>i0.same s2.t q⟩;have mf:∀i,i<=ws.length->∀x∈FY (λi=>ρ (ws.getD i [])) i,XB R.B n ((n+1) * (μ+n)) ((n+1) * (μ+n)) x:=λi hi x iN=>by
    obtain⟨j,hj,rfl⟩:=QG iN;exact hx _ (List.mem_map_of_mem (K0 Y))
   have zb:=Wg (n:=n) (μ:=μ);have zc:=Wh (n:=n) (μ:=μ);refine vc U U U (Z U ⟨R,zG kv (.ref z) n (zC n μ) ws.length (λi=>ρ (ws.getD i [])) ⟨U,⟨jd,hR,Y,λi hi _=>VJ (rs:=[]) (mf i Y) (hx _ (List.mem_map_of_mem (K0 hi))) Y,λi k' hi ek=>VI (mf _ (ae _)) Y (aK ek) c0g,hS,gi _ Qy⟩,λes a H3 sP gG hK pm pw=>?_⟩⟩);obtain⟨iF,gE⟩:=gi.step T Qy sP gG;have lT:=gg.trans gE;have iC:x4 H H3:=lT.tup hT.not;rw[QH]at pm;have EC:L5 R.F n (ws.map ρ) es:=⟨by rw[af];exact pm,pw⟩;have el:=EC.le;refine⟨R,zO kv mv a l n μ (zU n μ) st tb en es ⟨U,⟨Q9.sameD lT hT.not hk,l5.same iC hM,hB,hK,EC.xb hx,hn,Y,by have:=L.h3;omega,hS.le (aQ _ c0e)⟩,λv H4 s4 hN=>?_⟩⟩;exact k es v H4 EC (lT.trans (.of s4)) (iF.same s4) hN
def IP(w:World)(K:aa)(mg:Str->Option Value)(base:Heap)(t:Qu):Sp:=λvs H Q _=>∃(R:g9 Pr w K mg base),∃kv mv l,∃(n μ:Nat),∃st tb en,vs=[kv,mv]/\(Q9 R.C R.fs H kv/\l5 R l n st tb en mv H/\MB R.B n l.length μ st tb en/\P5 l/\n<=60/\X0 R.S (3 * zC n μ)/\D7 t H)/\
 ∀es v H',L5 R.F n ((Ae R.F n (j5 R.S n en (w4 l λa i j=>tb a j i)) (gB l)).map (j5 R.S n en (w4 l λa i j=>tb a j i))) es->D6 (DT t) H H'->D7 t H'->l5 R l es.length (Nm n es st) (λa i j=>GL n es (λa i j=>tb a j i) a j i) (Xf es en) v H'->Q v H'
def Jh(T:Txt K mg t)(fP:Wc mg base t):r8 Pr w K mg base E7 56 t.u0r t.r0p BO (IP w K mg base t):=by
 refine T.r0x.F.okA IW λ_ _ _ _ _ _ _ _ hr h=>?_;obtain⟨R,kv,mv,l,n,μ,st,tb,en,rfl,⟨hk,hM,hB,L,hn,hS,hT⟩,k⟩:=h;have l3:=L.h3;refine⟨_,(c4 (c9 (C1 (Gv T) hr.m T.u0v (x5 (C1 (Pi T fP) hr.m T.v0s (D9 (O 0) (C1 (Gv T) hr.m T.u0v (x5 (O 1))))))))),?_⟩;dsimp only[z8,u7,y9,z5];refine vb U U ⟨R,zG mv l n st tb en ⟨U,⟨hM,Y,Y⟩,λv1 H1 s1 fS=>?_⟩⟩;refine⟨R,zJ kv v1 l n μ en _ st ⟨U,⟨hk.same s1,fS,hB.mirror,L,hn,hS,hT.same s1⟩,λes v2 H2 EC gg gi uc=>?_⟩⟩;have:=EC.le;refine⟨R,zG v2 l es.length _ _ _ ⟨U,⟨uc,Y,Y⟩,λv3 H3 s3 jK=>?_⟩⟩;exact k es v3 H3 EC ((D6.of s1).trans (gg.trans (.of s3))) (gi.same s3) jK
noncomputable def Oq{R:g9 Pr w K mg base}(l:List Nat)(m:Nat)(st:Nat->R.S.W)(tb:Nat->Nat->Nat->R.S.W):List (List Nat):=Ae R.F m (j5 R.S m st (w4 l tb)) (gB l)
def TL(w:World)(K:aa)(mg:Str->Option Value)(base:Heap)(t:Qu):Sp:=λvs H Q _=>∃(R:g9 Pr w K mg base),∃kv mv l,∃(n μ:Nat),∃st tb en,vs=[kv,mv]/\(Q9 R.C R.fs H kv/\l5 R l n st tb en mv H/\MB R.B n l.length μ st tb en/\P5 l/\n<=60/\X0 R.S (3 * zH n μ)/\D7 t H)/\
 ∀es b H',L5 R.F n ((Ae R.F n (j5 R.S n en (w4 l λa i j=>tb a j i)) (gB l)).map (j5 R.S n en (w4 l λa i j=>tb a j i))) es->D6 (DT t) H H'->D7 t H'->H b=none->H' b=some (.lst ((Oq (R:=R) l es.length (Nm n es st) (λa i j=>GL n es (λa i j=>tb a j i) a j i)).map vT))->Q (.ref b) H'
def Yn{R:g9 Pr w K mg base}{m:Nat}{ρ:List Nat->Nat->R.S.W}{g:List (List Nat)->List (List Nat)}:(Ae R.F m ρ g).length<=m:=by
 unfold Ae;rw[Dc];exact(O8 _).len
def none_of{H H':Hp}{b:Addr}(s:D6 (DT t) H H')(h:D7 t H')(n:H' b=none):H b=none:=by
 cases e:H b with
 | none=>rfl
 | some o=>
  by_cases d:DT t b
  . obtain⟨o',h',_⟩:=h.not b d;rw[h']at n;cases n
  . rw[s b o d e]at n;cases n
def UG(T:Txt K mg t)(fP:Wc mg base t):r8 Pr w K mg base E7 58 t.y0s t.y0e BO (TL w K mg base t):=by
 refine T.y0i.F.okA Ub λ_ _ _ _ _ _ _ _ hr h=>?_;obtain⟨R,kv,mv,l,n,μ,st,tb,en,rfl,⟨hk,hM,hB,L,hn,hS,hT⟩,k⟩:=h;refine⟨_,(c5 (E8 (C1 (DF T) hr.m T.s0e (x5 (O 0)))) (c4 (c9 (w5 (xs:=[EB,C8]) U (oC BO (a8 Hd)) (B6 (C1 (DH T fP) hr.m T.r0w (D9 (O 0) (C1 (Jh T fP) hr.m T.r0x (D9 (O 0) (O 1)))))) (show PG _ _ (Ft K 2 _)from(J0 U (j8 (p9 (i:=2) (by show List.Nodup ([w9,R0,EB,C8]:List Str);decide +kernel) U (Or.inl U)) (j8 (p9 (i:=3) (by show List.Nodup ([w9,R0,EB,C8]:List Str);decide +kernel) U (Or.inl U)) D3)))) (O 2))))),?_⟩;dsimp only[z8,u7,y9,z5];refine Z U ⟨R,kv,U,hk,?_⟩;refine vc U U U ⟨R,zJ kv mv l n μ st tb en ⟨U,⟨hk,hM,hB,L,hn,hS.le (aQ _ (Nat.le_add_right ..)),hT⟩,λes v1 H1 EC gr fQ fS=>?_⟩⟩;have el:=EC.le;have uk:=(ZO hB.mirror EC).mirror;refine⟨R,zJ kv v1 l es.length (zN n μ) _ _ _ ⟨U,⟨Q9.sameD gr hT.not hk,fS,uk,L,Y,hS.le (aQ _ (ag (Wf el (ae _)) (Nat.le_add_left ..))),fQ⟩,λb H2 gg gi nb hP=>?_⟩⟩;have lT:=gr.trans gg;have k':=k es;have fl:=Yn (R:=R) (m:=es.length) (ρ:=j5 R.S es.length (Nm n es st) (w4 l (λa i j=>GL n es (λa i j=>tb a j i) a j i))) (g:=gB l);unfold Oq at k';revert hP k' fl;generalize Ae R.F es.length (j5 R.S es.length (Nm n es st) (w4 l (λa i j=>GL n es (λa i j=>tb a j i) a j i))) (gB l)=ws;generalize j5 R.S es.length (Nm n es st) (w4 l (λa i j=>GL n es (λa i j=>tb a j i) a j i))=ρ;intro hP k' fl;obtain⟨us,hb,eP⟩:=hP;refine⟨b,U,⟨_,o7.of hb⟩,o6 (n:=ws.length) (λj ys G=>ys.length=j/\ys=(ws.take j).map vT/\G=H2) Y ⟨U,U,U⟩ (λj ys H3 q=>q.1) ?_ ?_ ?_⟩
 . rintro j ys G hj ⟨e0,e1,rfl⟩;obtain⟨y,ey,wd,q,rv,ew,rfl,hq,ro⟩:=eP.2 j hj;refine Fp (o7.of hb) ey ?_;refine⟨q,Z U ⟨l9.of hq,U,za ⟨U,za ⟨U,U,⟨[some _,some _],U,U⟩,Z U ⟨by rw[aq,e0];rfl,?_,U⟩⟩⟩⟩⟩;rw[J2 ew,bc,<- e1];rfl
 . rintro ys G ⟨e0,e1,rfl⟩;exact⟨_,o7.of hb,by rw[eP.1];exact ae _⟩
 . rintro ys G z ⟨e0,e1,rfl⟩ nz;rw[bb]at e1;subst e1;have s3:=c6 (o:=.lst (ws.map vT)) nz;exact k' z _ EC (lT.trans (.of s3)) (gi.same s3) (none_of lT gi nz) b9
def i3.app{Pd:Nat->V->Hp->Prop}{xs ys:List V}{n k:Nat}{H:Hp}(h1:i3 Pd xs n H)(h2:i3 (λj=>Pd (n+j)) ys k H):i3 Pd (xs++ys) (n+k) H:=
 ⟨by rw[aq,h1.1,h2.1],λj hj=>by
  by_cases hn:j < n
  . obtain⟨u,e,q⟩:=h1.2 j hn;exact⟨u,by rw[aW (by rw[h1.1];exact hn)];exact e,q⟩
  . obtain⟨u,e,q⟩:=h2.2 (j - n) Y;rw[show n+(j - n)=j by omega]at q;exact⟨u,by rw[ba (by rw[h1.1];omega),h1.1];exact e,q⟩⟩
def VQ{xs:List V}{k:Nat}(h:k<=xs.length):Dy xs (some (k:Int)) none=xs.drop k:=by
 unfold Dy;rw[HT.MO,HT.QF,Nat.min_eq_left h];exact dH (by rw[cY];exact ae _)
def OF(w:World)(K:aa)(mg:Str->Option Value)(base:Heap):Sp:=λvs H Q _=>∃(R:g9 Pr w K mg base),∃kv,∃(z:Int),∃(n:Nat),vs=[kv,.int z]/\(Q9 R.C R.fs H kv/\n<=1000/\z=n)/\
 ∀v H',h9 H H'->i0 R n (λ_=>R.S.zero) v H'->Q v H'
def HN(T:Txt K mg t):r8 Pr w K mg base E7 41 t.y0c t.w0h UT (OF w K mg base):=by
 refine T.v0m.F.okA OQ λ_ _ _ _ H _ _ _ hr h=>?_;obtain⟨R,kv,z,n,rfl,⟨⟨kp,dx,rfl,hk⟩,hn,rfl⟩,k⟩:=h;refine⟨_,(c4 (c9 (j6 h7 bR T.z_tuple boot_tuple (x5 (w5 (xs:=[Do]) U (oC UT (a8 CV)) (C4 U T.z_range (x5 (O 1))) (p9 (i:=2) (by show List.Nodup ([w9,"size",Do]:List Str);decide +kernel) U (Or.inl U)) (AR (O 0) R.cl R.t_nought R.G_nought hr.m R.b_nought .nil B4)))))),?_⟩;dsimp only[z8,u7,y9,z5];refine vb U U ⟨Y,Y,o6 (n:=n) (λj ys H2=>h9 H H2/\i3 (λ_ u H=>R.is H u R.S.zero) ys j H2) hn ⟨h9.refl _,i3.nil⟩ (λj ys H2 q=>q.2.1) ?_ ?_ ?_⟩
 . rintro j ys H2 hj ⟨q,e⟩;refine JA (by omega) ?_;refine⟨⟨[some _],U,U⟩,Z U (zd ⟨U,q _ _ hk,R.l_nought,Z U ⟨za ⟨U,q _ _ hk⟩,λv H3 s3 f3=>?_⟩⟩)⟩;exact⟨q.trans s3,(e.mono λ_ _ _ z=>R.same s3.t z).snoc f3⟩
 . rintro ys H2 ⟨q,e⟩;show(n:Int).toNat<=n;omega
 . rintro ys H2 l ⟨q,e⟩ nl;have fU:=c6 (o:=.lst ys) nl;refine⟨l,ys,U,.inl ⟨o7.of b9,λl2 n2=>?_⟩⟩;have s2:=c6 (o:=.tup ys) n2;exact k _ _ (q.trans (fU.trans s2)) ⟨l2,ys,U,b9,e.mono λ_ _ _ z=>R.same (fU.trans s2).t z⟩
def N5{S:SR}{n i:Nat}{x y:Nat->S.W}(h:i < n):W9 S n x y i=x i:=if_pos h
def P7{S:SR}{n i:Nat}{x y:Nat->S.W}:W9 S n x y (n+i)=y i:=by
 unfold W9;rw[if_neg Y,cS]
def De{R:g9 Pr w K mg base}{n l:Nat}{x y:Nat->R.S.W}{xs ys:List V}{H:Hp}(a:i3 (λj u H=>R.is H u (x j)) xs n H)(b:i3 (λj u H=>R.is H u (y j)) ys l H):i3 (λj u H=>R.is H u (W9 R.S n x y j)) (xs++ys) (n+l) H:=
 i3.app (a.mono λj _ hj q=>by rw[N5 hj];exact q) (b.mono λj _ _ q=>by rw[P7];exact q)
def IB(S:SR)(n:Nat)(A B:Nat->Nat->S.W):Nat->Nat->S.W:=λi=>if i < n then W9 S n (A i) λ_=>S.zero else W9 S n (λ_=>S.zero) (B (i - n))
def TC(w:World)(K:aa)(mg:Str->Option Value)(base:Heap):Sp:=λvs H Q _=>∃(R:g9 Pr w K mg base),∃mv l,∃(n:Nat),∃st tb en,vs=[mv]/\l5 R l n st tb en mv H/\Q (.int (n:Nat)) H
def EY(T:Txt K mg t):r8 Pr w K mg base E7 1 t.y0u t.y0f [R0] (TC w K mg base):=by
 refine T.x0r.F.okA Ua λ_ _ _ _ _ _ _ _ hr h=>?_;obtain⟨R,mv,l,n,st,tb,en,rfl,hM,k⟩:=h;obtain⟨mp,sv,tv,ev,rfl,hm,h1,h2,h3⟩:=hM;refine⟨_,(c4 (c9 (l4 r9 bR T.z_len PySem.boot_len (x5 (B5 g6 (O 0) a9))))),?_⟩;dsimp only[z8,u7,y9,z5];exact Z U (zf ⟨U,U,l9.of hm,U,za ⟨U,h1.len,k⟩⟩)
def RN(w:World)(K:aa)(mg:Str->Option Value)(base:Heap):Sp:=λvs H Q _=>∃(R:g9 Pr w K mg base),∃mv ov l,∃(n n':Nat),∃st tb en dY bY ed,vs=[mv,ov]/\(l5 R l n st tb en mv H/\l5 R l n' dY bY ed ov H)/\Q .non H
def Cz(T:Txt K mg t):r8 Pr w K mg base E7 1 t.p0o t.p0a Pm (RN w K mg base):=by
 refine T.p0b.F.okA Ca λ_ _ _ _ _ _ _ _ hr h=>?_;obtain⟨R,mv,ov,l,n,n',st,tb,en,dY,bY,ed,rfl,⟨hM,fw⟩,k⟩:=h;obtain⟨mp,sv,tv,ev,rfl,hm,h1,h2,h3⟩:=hM;obtain⟨ja,lP,lM,lF,rfl,fK,gI,pY,ot⟩:=fw;refine⟨_,(c4 (y8 (l8 HK (B5 g6 (O 0) a9) (B5 g6 (O 1) a9) (o4 _)) (c4 AN) o8)),?_⟩;dsimp only[z8,u7,y9,z5];refine Z U (zf ⟨U,U,l9.of hm,U,Z U (zf ⟨U,U,l9.of fK,U,U,Z U ?_⟩)⟩);refine Fo (by rw[decide_eq_true rfl];rfl) ?_;exact k
def RT(w:World)(K:aa)(mg:Str->Option Value)(base:Heap):Sp:=λvs H Q _=>∃(R:g9 Pr w K mg base),∃kv fv sv ep,∃(n n':Nat),∃A B us,vs=[kv,fv,sv,.ref ep]/\(Q9 R.C R.fs H kv/\y7 R n n A fv H/\y7 R n' n' B sv H/\H ep=some (.lst us)/\i3 (λ_ u H=>i0 R n' (λ_=>R.S.zero) u H) us n H/\n<=60/\n'<=60)/\
 ∀v H',h9 H H'->y7 R (n+n') (n+n') (IB R.S n A B) v H'->Q v H'
def Sj(T:Txt K mg t):r8 Pr w K mg base E7 42 t.y0p t.x0q ZV (RT w K mg base):=by
 refine T.w0y.F.okA FN λ_ _ _ _ H _ Q _ hr h=>?_;obtain⟨R,kv,fv,sv,ep,n,n',X,a1c,us,rfl,⟨hk,⟨fp,fs,rfl,nZ,eF⟩,⟨sp,ss,rfl,fR,eS⟩,jf,eE,hn,mj⟩,k⟩:=h;have zl:=sZ;refine⟨_,(c5 (V3 (i₀:=4) (xs:=[C8,"extra"]) FN.nd U (Or.inl U) U (oC a0b (a8 Cq)) (Cs U T.z_zip (D9 (O 1) (O 3))) (show PG _ _ (Ft K 2 _)from(J0 U (j8 (gL 6 m0s) (j8 (gL 7 m0s) D3)))) (l7 Bu (O 6) (O 7))) (c5 (V3 (i₀:=5) (xs:=[C8]) FN.nd U (Or.inl U) U (oC a0b (a8 Cq)) (G0 (O 2)) (p9 (i:=6) (by show List.Nodup ([w9,IK,"second","step","upper","lower",C8]:List Str);decide +kernel) U (Or.inl U)) (l7 Bu (x9 (HN (w:=w) (base:=base) T) hr.m U T.v0m.m T.v0m.F.kp T.v0m.b .nil B4 (D9 (O 0) (l4 (show Ad _ (.builtin "len") (λxs H Q=>∃x n,xs=[x]/\DA K x H n/\Q (V.int (n:Nat)) H)from r9) bR T.z_len PySem.boot_len (x5 (O 1))))) (O 6))) (c4 (c9 (j6 h7 bR T.z_tuple boot_tuple (x5 (l7 Lj (O 4) (O 5)))))))),?_⟩;dsimp only[z8,u7,y9,z5];refine vb U U ⟨.tup fp,.lst ep,za ⟨fs,us,U,U,U,l9.of nZ,o7.of jf,o6 (n:=n) (λi ys G=>h9 H G/\i3 (λi u H=>i0 R (n+n') (W9 R.S n (X i) λ_=>R.S.zero) u H) ys i G) Y ⟨h9.refl _,i3.nil⟩ (λj ys G q=>q.2.1) ?_ ?_ ?_⟩⟩
 . rintro i ys G hi ⟨q,e⟩;obtain⟨u,eu,pu⟩:=eF.2 i hi;obtain⟨x,ex,px⟩:=eE.2 i hi;refine⟨⟨fs,us,u,x,l9.of (q _ _ nZ),o7.of (q _ _ jf),eu,ex⟩,λy' H' hy=>?_⟩;obtain⟨pp,x',y',rfl,np,rfl,f1,f2⟩:=hy;have e1:=f1 _ (l9.of (q _ _ nZ));rw[eu]at e1;cases e1;have e2:=f2 _ (o7.of (q _ _ jf));rw[ex]at e2;cases e2;refine E6 (o:=.tup [u,x]) np λG1 s3 k3=>?_;have q3:=q.trans s3;obtain⟨up,mH,rfl,gY,eU⟩:=i0.same q3.t pu;obtain⟨xp,xvs,rfl,sC,eX⟩:=i0.same q3.t px;have ul:=eU.1;have xl:=eX.1;refine⟨pp,Z U ⟨l9.of k3,U,za ⟨U,za ⟨U,U,⟨[some _,some _],U,U⟩,vb U U (zf ⟨U,U,gY,sC,Y,λp4 G4 s4 h4=>?_⟩)⟩⟩⟩⟩;exact⟨q3.trans s4,(e.mono λ_ _ _ z=>i0.same (s3.trans s4).t z).snoc ⟨p4,Z U ⟨h4,(De eU eX).mono λ_ _ _ z=>R.same s4.t z⟩⟩⟩
 . rintro ys G ⟨q,e⟩;exact⟨fs,us,l9.of (q _ _ nZ),o7.of (q _ _ jf),.inl (by rw[eF.1])⟩
 . rintro ys G z ⟨q,e⟩ nz;refine E6 (o:=.lst ys) nz λH1 s1 k1=>?_;have q1:=q.trans s1;have e1:=e.mono (H':=H1) λ_ _ _ z=>i0.same s1.t z;refine Z U ⟨sp,U,⟨_,l9.of (q1 _ _ fR)⟩,o6 (n:=n') (λi ys G=>h9 H1 G/\i3 (λi u H=>i0 R (n+n') (W9 R.S n (λ_=>R.S.zero) (a1c i)) u H) ys i G) Y ⟨h9.refl _,i3.nil⟩ (λj ys G q=>q.2.1) ?_ ?_ ?_⟩
   . rintro i zs G2 hi ⟨q2,e2⟩;obtain⟨u,eu,pu⟩:=eS.2 i hi;have Oo:=q1.trans q2;refine Dx (l9.of (Oo _ _ fR)) eu ?_;have hl:DA K (.ref fp) G2 n:=.inr ⟨_,l9.of (Oo _ _ nZ),eF.1.symm⟩;refine⟨⟨[some _],U,U⟩,vb U U (za ⟨U,hl,R,zw kv _ n ⟨U,⟨hk.same Oo,Y,U⟩,λv G3 s3 r3=>?_⟩⟩)⟩;obtain⟨vp,vvs,rfl,hvp,eV⟩:=r3;obtain⟨up,mH,rfl,gY,eU⟩:=i0.same (Oo.trans s3).t pu;have vl:=eV.1;have ul:=eU.1;refine Z U (zf ⟨U,U,hvp,gY,Y,λp4 G4 s4 h4=>?_⟩);exact⟨q2.trans (s3.trans s4),(e2.mono λ_ _ _ z=>i0.same (s3.trans s4).t z).snoc ⟨p4,Z U ⟨h4,(De eV eU).mono λ_ _ _ z=>R.same s4.t z⟩⟩⟩
   . rintro zs G2 ⟨q2,e2⟩;exact⟨_,l9.of ((q1.trans q2) _ _ fR),by rw[eS.1];exact ae _⟩
   . rintro zs G2 z2 ⟨q2,e2⟩ kI;refine E6 (o:=.lst zs) kI λH2 s2 k2=>?_;have Oo:=q2.trans s2;have yl:=e1.1;have lL:=e2.1;refine vb U U ⟨z,z2,ys,zs,U,U,Oo _ _ k1,k2,Y,λp3 n3=>?_⟩;refine E6 (o:=.lst (ys++zs)) n3 λH3 s3 k3=>?_;refine⟨p3,Z U (.inl ⟨o7.of k3,λp4 n4=>?_⟩)⟩;have s4:=c6 (o:=.tup (ys++zs)) n4;have YX:=s3.trans s4;refine k _ _ (q1.trans (Oo.trans YX)) ⟨p4,Z U ⟨b9,i3.app (e1.mono λi _ hi z=>?_) (e2.mono λi _ hi z=>?_)⟩⟩
     . show i0 R (n+n') (IB R.S n X a1c i) _ _;unfold IB;rw[if_pos hi];exact i0.same (Oo.trans YX).t z
     . show i0 R (n+n') (IB R.S n X a1c (n+i)) _ _;unfold IB;rw[if_neg Y,cS];exact i0.same (s2.trans YX).t z
def IQ(w:World)(K:aa)(mg:Str->Option Value)(base:Heap):Sp:=λvs H Q _=>∃(R:g9 Pr w K mg base),∃kv mv ov l,∃(n n':Nat),∃st tb en dY bY ed,vs=[kv,mv,ov]/\(Q9 R.C R.fs H kv/\l5 R l n st tb en mv H/\l5 R l n' dY bY ed ov H/\P5 l/\n<=60/\n'<=60)/\
 ∀v H',h9 H H'->l5 R l (n+n') (W9 R.S n st dY) (λa=>IB R.S n (tb a) (bY a)) (W9 R.S n en ed) v H'->Q v H'
def Ji(T:Txt K mg t):r8 Pr w K mg base E7 43 t.u0p t.r0y II (IQ w K mg base):=by
 refine T.r0r.F.okA Aw λ_ _ _ _ H _ _ _ hr h=>?_;obtain⟨R,kv,mv,ov,l,n,n',st,tb,en,dY,bY,ed,rfl,⟨hk,hM,fw,L,hn,mj⟩,k⟩:=h;have zl:=sZ;have l3:=L.h3;obtain⟨mp,sv,tv,ev,rfl,hm,⟨sp,ss,rfl,fR,eS⟩,⟨tp,ts,rfl,fA,eT⟩,⟨ep,es,rfl,jf,eE⟩⟩:=id hM;obtain⟨ja,lP,lM,lF,rfl,fK,⟨qU,ss',rfl,sJ,ym⟩,⟨uU,oS,rfl,ig,uG⟩,⟨my,jM,rfl,iT,oB⟩⟩:=id fw;have lS:=eS.1;have lS':=ym.1;have lE:=eE.1;have lE':=oB.1;refine⟨_,(c5 (M6 (i:=3) Aw.nd U (Or.inr U) (w5 (xs:=["room"]) U (oC ZZ (a8 R5)) (C4 U T.z_range (x5 (C1 (EY T) hr.m T.x0r (x5 (O 1))))) (p9 (i:=5) (by show List.Nodup ([w9,BF,Bg,"no_step",Kv,"room"]:List Str);decide +kernel) U (Or.inl U)) (x9 (HN (w:=w) (base:=base) T) hr.m U T.v0m.m T.v0m.F.kp T.v0m.b .nil B4 (D9 (O 0) (x9 (EY (w:=w) (base:=base) T) hr.m U T.x0r.m T.x0r.F.kp T.x0r.b .nil B4 (x5 (O 2))))))) (c5 (V3 (i₀:=4) (xs:=[IK,"second"]) Aw.nd U (Or.inl U) U (oC ZZ (a8 R5)) (Cs U T.z_zip (D9 (B5 g6 (O 1) a9) (B5 g6 (O 2) a9))) (show PG _ _ (Ft K 2 _)from(J0 U (j8 (gL 5 m0p) (j8 (gL 6 m0p) D3)))) (x9 (Sj (w:=w) (base:=base) T) hr.m U T.w0y.m T.w0y.F.kp T.w0y.b .nil B4 (Jg (O 0) (O 5) (O 6) (O 3)))) (c4 (c9 (C9 (Jg (B5 g6 (O 1) a9) (l7 Bu (B5 g6 (O 1) a9) (B5 g6 (O 2) a9)) (j6 h7 bR T.z_tuple boot_tuple (x5 (O 4))) (l7 Bu (B5 g6 (O 1) a9) (B5 g6 (O 2) a9)))))))),?_⟩;dsimp only[z8,u7,y9,z5];refine Z U ⟨R,zG (.ref mp) l n st tb en ⟨U,hM,?_⟩⟩;refine Z U ⟨Y,Y,o6 (n:=n) (λi ys G=>h9 H G/\i3 (λi u H=>i0 R n' (λ_=>R.S.zero) u H) ys i G) Y ⟨h9.refl _,i3.nil⟩ (λj ys G q=>q.2.1) ?_ ?_ ?_⟩
 . rintro i ys G hi ⟨q,e⟩;refine JA (by omega) ?_;refine⟨⟨[some _],U,U⟩,vb U U ⟨R,zG (.ref ja) l n' dY bY ed ⟨U,l5.same q.t fw,R,zw kv _ n' ⟨U,⟨hk.same q,Y,U⟩,λv G3 s3 r3=>?_⟩⟩⟩⟩;exact⟨q.trans s3,(e.mono λ_ _ _ z=>i0.same s3.t z).snoc r3⟩
 . rintro ys G ⟨q,e⟩;show(n:Int).toNat<=n;omega
 . rintro us G up ⟨q,e⟩ nup;refine E6 (o:=.lst us) nup λH1 s1 k1=>?_;have q1:=q.trans s1;have e1:=e.mono (H':=H1) λ_ _ _ z=>i0.same s1.t z;refine Z U (zf ⟨U,U,l9.of (q1 _ _ hm),U,Z U (zf ⟨U,U,l9.of (q1 _ _ fK),U,.tup tp,.tup uU,za ⟨ts,oS,U,U,U,l9.of (q1 _ _ fA),l9.of (q1 _ _ ig),o6 (n:=l.length) (λi ys G=>h9 H1 G/\i3 (λa u H=>y7 R (n+n') (n+n') (IB R.S n (tb a) (bY a)) u H) ys i G) Y ⟨h9.refl _,i3.nil⟩ (λj ys G q=>q.2.1) ?_ ?_ ?_⟩⟩)⟩)
   . rintro i ys G2 hi ⟨q2,e2⟩;have Oo:=q1.trans q2;obtain⟨u,eu,pu⟩:=eT.2 i hi;obtain⟨x,ex,px⟩:=uG.2 i hi;refine⟨⟨ts,oS,u,x,l9.of (Oo _ _ fA),l9.of (Oo _ _ ig),eu,ex⟩,λy' H' hy=>?_⟩;obtain⟨pp,x',y',rfl,np,rfl,f1,f2⟩:=hy;have g1:=f1 _ (l9.of (Oo _ _ fA));rw[eu]at g1;cases g1;have g2:=f2 _ (l9.of (Oo _ _ ig));rw[ex]at g2;cases g2;refine E6 (o:=.tup [u,x]) np λG3 s3 k3=>?_;have q3:=Oo.trans s3;have rg:=q2.trans s3;refine⟨pp,Z U ⟨l9.of k3,U,za ⟨U,za ⟨U,U,⟨[some _,some _],U,U⟩,vc U U U (Z U ⟨R,zL kv u x up n n' (tb i) (bY i) us ⟨U,⟨hk.same q3,y7.same q3.t pu,y7.same q3.t px,rg _ _ k1,e1.mono λ_ _ _ z=>i0.same rg.t z,hn,mj⟩,λv G4 s4 r4=>?_⟩⟩)⟩⟩⟩⟩;exact⟨rg.trans s4,(e2.mono λ_ _ _ z=>y7.same (s3.trans s4).t z).snoc r4⟩
   . rintro ys G2 ⟨q2,e2⟩;exact⟨ts,oS,l9.of ((q1.trans q2) _ _ fA),l9.of ((q1.trans q2) _ _ ig),.inl (by rw[eT.1])⟩
   . rintro ys G2 bp ⟨q2,e2⟩ lY;refine E6 (o:=.lst ys) lY λH2 s2 k2=>?_;have u2:=q1.trans (q2.trans s2);refine Z U (zf ⟨U,U,l9.of (u2 _ _ hm),U,?_⟩);refine Z U (zf ⟨U,U,l9.of (u2 _ _ hm),U,Z U (zf ⟨U,U,l9.of (u2 _ _ fK),U,zf ⟨U,U,u2 _ _ fR,u2 _ _ sJ,Y,λp3 H3 s3 h3=>?_⟩⟩)⟩);refine Z U ⟨bp,ys,U,.inl ⟨o7.of (s3 _ _ k2),λp4 n4=>?_⟩⟩;refine E6 (o:=.tup ys) n4 λH4 s4 k4=>?_;have u4:=u2.trans (s3.trans s4);refine Z U (zf ⟨U,U,l9.of (u4 _ _ hm),U,Z U (zf ⟨U,U,l9.of (u4 _ _ fK),U,zf ⟨U,U,u4 _ _ jf,u4 _ _ iT,Y,λp5 H5 s5 h5=>?_⟩⟩)⟩);refine⟨sL,λp6 n6=>?_⟩;have s6:=c6 (o:=.tup [vT l,V.ref p3,V.ref p4,V.ref p5]) n6;have u6:=u4.trans (s5.trans s6);exact k _ _ u6 ⟨p6,_,_,Z U ⟨b9,⟨p3,Z U ⟨(s4.trans (s5.trans s6)) _ _ h3,(De eS ym).mono λ_ _ _ z=>R.same u6.t z⟩⟩,⟨p4,ys,U,(s5.trans s6) _ _ k4,e2.mono λ_ _ _ z=>y7.same (s2.trans (s3.trans (s4.trans (s5.trans s6)))).t z⟩,⟨p5,Z U ⟨s6 _ _ h5,(De eE oB).mono λ_ _ _ z=>R.same u6.t z⟩⟩⟩⟩
def Ob{J:It}{n k:Nat}{g:TG}{tc:TT}{te:TE}{σ:L2.St}{Q:VK}{H1:Hp}(Pv:Nat->List V->Hp->Prop)(hn:n<=10000)(h0:Pv 0 [] H1)(hl:∀i ys H,Pv i ys H->ys.length<=i)
    (tH:∀i ys H,i < n->Pv i ys H->J.go i H/\∀x H',J.yld i H x H'->g x (σ++List.replicate k none) H' λσ2 H2=>(∃zs,σ2=σ++zs/\zs.length=k)/\tc σ2 H2 λb H3=>if b=true then te σ2 H3 λv H4=>Pv (i+1) (ys++[v]) H4 else Pv (i+1) ys H3)
    (iO:∀ys H,Pv n ys H->J.stop n H) (iU:∀ys H p,Pv n ys H->H p=none->Q (.ref p) (upd H p (.lst ys))) :
    IG J k g tc te σ Q H1:=by
 have z:=sZ;refine⟨λi m ys H=>m=n - i/\i<=n/\Pv i ys H,⟨n,U,aY _,h0⟩,?_⟩;rintro i m ys H ⟨rfl,hi,p⟩;have yl:=hl i ys H p;by_cases fE:i < n
 . obtain⟨a,b⟩:=tH i ys H fE p;refine .inr ⟨a,Y,λx H' y=>?_⟩;have c:=b x H' y;have e1:∀ys H3,(∃m',m' < n - i/\m'=n - (i+1)/\i+1<=n/\Pv (i+1) ys H3)=Pv (i+1) ys H3:=λys H3=>propext ⟨λ⟨_,_,_,_,q⟩=>q,λq=>⟨_,Y,U,fE,q⟩⟩;simp only[e1];exact c
 . have e:i=n:=by omega
   subst e;exact .inl ⟨iO ys H p,Y,λq nq=>iU ys H q p nq⟩
def Wy(w:World)(K:aa)(mg:Str->Option Value)(base:Heap):Sp:=λvs H Q _=>∃(R:g9 Pr w K mg base),∃kv mv ov l,∃(n n':Nat),∃st tb en dY bY ed,vs=[kv,mv,ov]/\(Q9 R.C R.fs H kv/\l5 R l n st tb en mv H/\l5 R l n' dY bY ed ov H/\P5 l/\n<=60/\n'<=60)/\
 ∀v H',h9 H H'->l5 R l (n+n') (W9 R.S n st dY) (λa=>IB R.S n (tb a) (bY a)) (W9 R.S n en λi=>R.F.neg (ed i)) v H'->Q v H'
def Xd(T:Txt K mg t):r8 Pr w K mg base E7 44 t.y0x t.d_less II (Wy w K mg base):=by
 refine T.y0n.F.okA QE λ_ _ _ _ H _ _ _ hr h=>?_;obtain⟨R,kv,mv,ov,l,n,n',st,tb,en,dY,bY,ed,rfl,⟨⟨kp,dx,rfl,hk⟩,hM,fw,L,hn,mj⟩,k⟩:=h;obtain⟨ja,lP,lM,lF,rfl,fK,gI,pY,⟨my,jM,rfl,iT,oB⟩⟩:=id fw;refine⟨_,(c5 (sT 3 QE.nd (j6 h7 bR T.z_tuple boot_tuple (x5 (w5 (xs:=["x"]) U (oC [w9,BF,Bg,"minus_ends"] (a8 Ld)) (G0 (B5 g6 (O 2) a9)) (p9 (i:=4) (by show List.Nodup ([w9,BF,Bg,"minus_ends","x"]:List Str);decide +kernel) U (Or.inl U)) (V4 (O 0) R.cl R.t_minus R.G_minus hr.m R.b_minus .nil B4 (x5 (O 4))))))) (c4 (c9 (C1 (Ji T) hr.m T.r0r (S6 (O 0) (O 1) (C9 (Jg (B5 g6 (O 2) a9) (B5 g6 (O 2) a9) (B5 g6 (O 2) a9) (O 3)))))))),?_⟩;dsimp only[z8,u7,y9,z5];refine Z U (zf ⟨U,U,l9.of fK,U,my,U,⟨_,l9.of iT⟩,o6 (n:=n') (λi ys G=>h9 H G/\i3 (λi u H=>R.is H u (R.F.neg (ed i))) ys i G) Y ⟨h9.refl _,i3.nil⟩ (λj ys G q=>q.2.1) ?_ ?_ ?_⟩)
 . rintro i ys G hi ⟨q,e⟩;obtain⟨u,eu,pu⟩:=oB.2 i hi;refine Dx (l9.of (q _ _ iT)) eu ?_;refine⟨⟨[some _],U,U⟩,Z U (zd ⟨U,q _ _ hk,R.l_minus,Z U (zd ⟨U,⟨za ⟨U,q _ _ hk⟩,R.same q.t pu⟩,λv G3 s3 r3=>?_⟩)⟩)⟩;exact⟨q.trans s3,(e.mono λ_ _ _ z=>R.same s3.t z).snoc r3⟩
 . rintro ys G ⟨q,e⟩;exact⟨_,l9.of (q _ _ iT),by rw[oB.1];exact ae _⟩
 . rintro ys G lp ⟨q,e⟩ nl;have s1:=c6 (o:=.lst ys) nl;refine⟨lp,ys,U,.inl ⟨o7.of b9,λp2 n2=>?_⟩⟩;have s2:=c6 (o:=.tup ys) n2;have k2:=b9 (H:=upd G lp (.lst ys)) (a:=p2) (o:=.tup ys);revert s1 s2 k2;generalize upd (upd G lp (.lst ys)) p2 (.tup ys)=H2;intro s1 s2 k2;have u2:=q.trans (s1.trans s2);refine vc U U U (zf ⟨U,U,l9.of (u2 _ _ fK),U,Z U (zf ⟨U,U,l9.of (u2 _ _ fK),U,Z U (zf ⟨U,U,l9.of (u2 _ _ fK),U,Z U ⟨sL,λp3 n3=>?_⟩⟩)⟩)⟩);refine E6 (o:=.tup [vT l,lP,lM,V.ref p2]) n3 λH3 s3 k3=>?_;have u3:=u2.trans s3;refine⟨R,zP (.ref kp) mv (.ref p3) l n n' st tb en dY bY _ ⟨U,⟨za ⟨U,u3 _ _ hk⟩,l5.same u3.t hM,⟨p3,zd ⟨U,k3,i0.same u3.t gI,IC.same u3.t pY,⟨p2,ys,U,s3 _ _ k2,e.mono λ_ _ _ z=>R.same (s1.trans (s2.trans s3)).t z⟩⟩⟩,L,hn,mj⟩,λv H4 s4 r4=>?_⟩⟩;exact k _ _ (u3.trans s4) r4
structure VY(R:g9 Pr w K mg base)(l:List Nat)(n μ:Nat)(st:Nat->R.S.W)(tb:Nat->Nat->Nat->R.S.W)(en:Nat->R.S.W)(ws:List (List Nat)):Prop where
 mb:MB R.B n l.length μ st tb en
 L:P5 l
 hn:n<=60
 al:∀u∈ws,u.length<=n/\∀c∈u,c∈l
 wl:ws.length<=1000
 sm:X0 R.S (3 * ((n+2) * (μ+n)))
def OE(w:World)(K:aa)(mg:Str->Option Value)(base:Heap):Sp:=λvs H Q _=>∃(R:g9 Pr w K mg base),∃kv mv a l,∃(n μ:Nat),∃st tb en ws,vs=[kv,mv,.ref a]/\(Q9 R.C R.fs H kv/\l5 R l n st tb en mv H/\L4 R n (j5 R.S n st (w4 l tb)) ws a H/\VY R l n μ st tb en ws)/\
 ∀b H',h9 H H'->H b=none->H' b=some (.lst ((He (K7 R.S l n st tb en) ws).map vT))->Q (.ref b) H'
def HM(T:Txt K mg t):r8 Pr w K mg base E7 42 t.x0x t.w0f UX (OE w K mg base):=by
 refine T.v0y.F.okA OP λ_ _ _ _ H _ _ _ hr h=>?_;obtain⟨R,kv,mv,a,l,n,μ,st,tb,en,ws,rfl,⟨⟨kp,dx,rfl,hk⟩,hM,⟨us,ha,eP⟩,P⟩,k⟩:=h;obtain⟨mp,sv,tv,ev,rfl,hm,h1,h2,h3⟩:=id hM;have hn:=P.hn;have wl:=P.wl;refine⟨_,(c4 (c9 (Si (xs:=[EB,C8]) U (oC UX (a8 CU)) (B6 (O 2)) (show PG _ _ (Ft K 2 _)from(J0 U (j8 (p9 (i:=3) (by show List.Nodup ([w9,Dn,"found",EB,C8]:List Str);decide +kernel) U (Or.inl U)) (j8 (p9 (i:=4) (by show List.Nodup ([w9,Dn,"found",EB,C8]:List Str);decide +kernel) U (Or.inl U)) D3)))) (l8 (show Ez _ (compareOp .NotEq) (OU K)from Cv hr.units) (x9 (Ph (w:=w) (base:=base) T) hr.m U T.y0r.m T.y0r.F.kp T.y0r.b .nil B4 (S6 (O 0) (O 4) (B5 (show Ku _ (HC K)from g6) (O 1) a9))) (AR (O 0) R.cl R.t_nought R.G_nought hr.m R.b_nought .nil B4) (o4 _)) (O 3)))),?_⟩;dsimp only[z8,u7,y9,z5];refine Z U ⟨a,U,⟨_,o7.of ha⟩,Ob (n:=ws.length) (λj ys G=>h9 H G/\ys=(He (K7 R.S l n st tb en) (ws.take j)).map vT) Y ⟨h9.refl _,U⟩ (λj ys G q=>by rw[q.2,af];exact ag QK (by rw[bN];omega)) ?_ ?_ ?_⟩
 . rintro j ys G hj ⟨q,rfl⟩;obtain⟨y,ey,wd,pp,rv,ew,rfl,hq,ro⟩:=eP.2 j hj;obtain⟨a1,a2⟩:=P.al wd (aK ew);refine Fp (o7.of (q _ _ ha)) ey ?_;have zx:=(P.mb.row wd a2).mono (L6 a1) (L6 a1);have e2:(n+2) * (μ+n)=(n+1) * (μ+n)+(μ+n):=bq ..;refine⟨pp,Z U ⟨l9.of (q _ _ hq),U,za ⟨U,za ⟨U,U,⟨[some _,some _],U,U⟩,?_⟩⟩⟩⟩;refine vc U U U (zf ⟨U,U,l9.of (q _ _ hm),U,R,zI _ rv ev n _ en ((n+2) * (μ+n)) ⟨U,⟨za ⟨U,q _ _ hk⟩,i0.same q.t ro,i0.same q.t h3,N4 zx P.mb.en Y Y,P.sm⟩,λv G1 s1 f1=>?_⟩⟩);have q1:=q.trans s1;refine Z U (zd ⟨U,q1 _ _ hk,R.l_nought,Z U ⟨za ⟨U,q1 _ _ hk⟩,λzv G2 s2 f2=>?_⟩⟩);by_cases e:K7 R.S l n st tb en wd=R.S.zero
   . refine R.neD (R.same s2.t f1) f2 e (Z U ?_)
     (try refine T3 ?_)
     exact⟨q1.trans s2,by rw[Zx ew e]⟩
   . refine R.neT (R.same s2.t f1) f2 e (Z U ?_)
     (try refine Bz ?_)
     exact Z U ⟨q1.trans s2,by rw[WU ew e,bc];rfl⟩
 . rintro ys G ⟨q,rfl⟩;exact⟨_,o7.of (q _ _ ha),by rw[eP.1];exact ae _⟩
 . rintro ys G z ⟨q,rfl⟩ nz;rw[bb];refine k z _ (q.trans (c6 nz)) ?_ b9;cases e:H z with
   | none=>rfl
   | some o=>rw[q _ _ e]at nz;cases nz
def BW(w:World)(K:aa)(mg:Str->Option Value)(base:Heap):Sp:=λvs H Q _=>∃(R:g9 Pr w K mg base),∃kv mv a l,∃(n μ:Nat),∃st tb en ws,vs=[kv,mv,.ref a]/\(Q9 R.C R.fs H kv/\l5 R l n st tb en mv H/\L4 R n (j5 R.S n st (w4 l tb)) ws a H/\VY R l n μ st tb en ws)/\
 ∀b H',h9 H H'->H b=none->L4 R n (j5 R.S n st (w4 l tb)) (gP l (K7 R.S l n st tb en) ws) b H'->Q (.ref b) H'
def CD(T:Txt K mg t):r8 Pr w K mg base E7 46 t.p0s t.p0d Xh (BW w K mg base):=by
 refine T.p0c.F.okA Ce λ_ _ _ _ H _ _ _ hr h=>?_;obtain⟨R,kv,mv,a,l,n,μ,st,tb,en,ws,rfl,⟨hk,hM,hP,P⟩,k⟩:=h;refine⟨_,(c5 (y8 (l8 Ao (l4 r9 bR T.z_len PySem.boot_len (x5 (C1 (HM T) hr.m T.v0y (S6 (O 0) (O 1) (O 2))))) a9 (o4 _)) (c4 (c9 (D0 J1))) o8) (c4 (c9 (C1 (T4 T) hr.m T.o0w (S6 (O 0) (O 1) (O 2)))))),?_⟩;dsimp only[z8,u7,y9,z5];refine vc U U U ⟨R,zM kv mv a l n μ st tb en ws ⟨U,⟨hk,hM,hP,P⟩,λb H1 s1 nb hb=>?_⟩⟩;have hl:DA K (.ref b) H1 (He (K7 R.S l n st tb en) ws).length:=.inl ⟨_,o7.of hb,by rw[af]⟩;refine za ⟨U,hl,za ⟨U,U,Z U ?_⟩⟩;have bn:∀{z:Addr},H1 z=none->H z=none:=λ{z} nz=>by
  cases e:H z with
  | none=>rfl
  | some o=>rw[s1 _ _ e]at nz;cases nz
 refine AC (λgt=>?_) (λgt=>?_)
 . refine⟨sL,λz nz=>?_⟩;refine k z _ (s1.trans (c6 nz)) (bn nz) ?_;unfold gP;rw[if_neg Y];exact⟨[],b9,i3.nil⟩
 . refine vc U U U ⟨R,zM kv mv a l n μ st tb en ws ⟨U,⟨hk.same s1,l5.same s1.t hM,P.mb,P.L,P.hn,hP.same s1,P.al,P.wl,P.sm⟩,λz H2 s2 nz hz=>?_⟩⟩;refine k z _ (s1.trans s2) (bn nz) ?_;unfold gP;rw[if_pos Y];exact hz
def Of(R:g9 Pr w K mg base)(n:Nat)(es:List (Nat × (Nat->R.S.W)))(v:V)(H:Hp):Prop:=∃q z x y us,v=.ref q/\H q=some (.tup [.ref z,x,y])/\H z=some (.lst us)/\i3 (λi u H=>i0 R n (Mine.kv es i) u H) us es.length H
theorem Of.same{R:g9 Pr w K mg base}{n:Nat}{es:List (Nat × (Nat->R.S.W))}{v:V}{H H':Hp}(s:h9 H H')(h:Of R n es v H):Of R n es v H':=by
 obtain⟨q,z,x,y,us,rfl,h1,h2,h3⟩:=h;exact⟨q,z,x,y,us,U,s _ _ h1,s _ _ h2,h3.mono λ_ _ _ g=>i0.same s.t g⟩
def Mw(w:World)(K:aa)(mg:Str->Option Value)(base:Heap)(t:Qu):Sp:=λvs H Q _=>∃(R:g9 Pr w K mg base),∃kv mv rv l,∃(n μ k:Nat),∃st tb en rs,vs=[kv,mv,rv]/\(Q9 R.C R.fs H kv/\l5 R l n st tb en mv H/\MB R.B n l.length μ st tb en/\P5 l/\n<=60/\k<=60/\FB R n k rs rv H/\(∀i,i < k->XB R.B n ((n+1) * (μ+n)) ((n+1) * (μ+n)) (rs i))/\X0 R.S (3 * zC n μ)/\D7 t H)/\
 ∀es v H',L5 R.F n (FY rs k) es->Of R n es v H'->D6 (DT t) H H'->D7 t H'->Q v H'
def Nb(T:Txt K mg t)(fP:Wc mg base t):r8 Pr w K mg base E7 54 t.x0d t.u0d [w9,Dn,V6] (Mw w K mg base t):=by
 refine T.v0g.F.okA Af λ_ _ _ _ H _ Q _ hr h=>?_;obtain⟨R,kv,mv,rv,l,n,μ,k0,st,tb,en,rs,rfl,⟨hk,hM,hB,L,hn,jI,hR,hx,hS,hT⟩,k⟩:=h;have l3:=L.h3;have sl:=sZ;refine⟨_,(c5 (sT 3 Af.nd (C1 (HU T fP) hr.m T.v0v (D9 (O 0) (O 2)))) (c5 (sT 4 Af.nd (C1 (Gu T) hr.m T.u0e (S6 (O 0) (O 1) (O 3)))) (c5 (V3 (i₀:=5) (xs:=[Av]) Af.nd U (Or.inl U) U (oC a0a (a8 T7)) (G0 (B5 g6 (O 4) a9)) (gL 6 m0o) (w5 (xs:=[C8]) U (show Q2 m0o (rlS (a8 T7) _) _ from⟨U,dK,dK,dK,dK,dK⟩) (show PI _ _ _ (b0a K _)from G0 (O 6)) (p9 (i:=7) (by show List.Nodup ([w9,Dn,V6,BG,"narrow","steps",Av,C8]:List Str);decide +kernel) U (Or.inl U)) (j6 (show Ad _ (.type "list") (λxs H Q=>∃p ys,xs=[.ref p]/\(o7 K H p ys\/l9 K H p ys)/\∀l,H l=none->Q (.ref l) (upd H l (.lst ys)))from N6) bR T.z_list boot_list (x5 (O 7))))) (c4 (c9 (C9 (S6 (w5 (xs:=[Do,C8]) U (oC a0a (a8 T7)) (B6 (O 3)) (show PG _ _ (Ft K 2 _)from(J0 U (j8 (gL 6 m0r) (j8 (gL 7 m0r) D3)))) (O 7)) (j6 N6 bR T.z_list boot_list (x5 (B5 g6 (O 4) a9))) (O 5)))))))),?_⟩;dsimp only[z8,u7,y9,z5];have mf:∀i,i<=k0->∀x∈FY rs i,XB R.B n ((n+1) * (μ+n)) ((n+1) * (μ+n)) x:=λi hi x iN=>by
  obtain⟨j,hj,rfl⟩:=QG iN;exact hx j Y
 have zb:=Wg (n:=n) (μ:=μ);have zc:=Wh (n:=n) (μ:=μ);refine vb U U ⟨R,zG kv rv n (zC n μ) k0 rs ⟨U,⟨hk,hR,Y,λi hi _=>VJ (rs:=[]) (mf i Y) (hx i hi) Y,λi k' hi ek=>VI (mf _ (ae _)) Y (aK ek) c0g,hS,hT _ Qy⟩,λes a H3 sP gG hK pm pw=>?_⟩⟩;obtain⟨iF,gE⟩:=hT.step T Qy sP gG;have iC:x4 H H3:=gE.tup hT.not;have EC:L5 R.F n (FY rs k0) es:=⟨by rw[WS];exact pm,pw⟩;have el:=EC.le;have pQ:=Q9.sameD gE hT.not hk;refine vc U U U ⟨R,zO kv mv a l n μ (zU n μ) st tb en es ⟨U,⟨pQ,l5.same iC hM,hB,hK,EC.xb (mf _ (ae _)),hn,Y,Y,hS.le (aQ _ c0e)⟩,λv H4 s4 hN=>?_⟩⟩;obtain⟨mp,sv,tv,ev,rfl,hm,⟨sp,ss,rfl,fR,eS⟩,⟨tp,ts,rfl,fA,eT⟩,h3⟩:=hN;refine Z U (zf ⟨U,U,l9.of hm,U,tp,U,⟨_,l9.of fA⟩,o6 (n:=l.length) (λi ys G=>h9 H4 G/\ys.length=i) Y ⟨h9.refl _,U⟩ (λj ys G q=>q.2) ?_ ?_ ?_⟩)
 . rintro i ys G hi ⟨q,e⟩;obtain⟨u,eu,pu⟩:=eT.2 i hi;refine Dx (l9.of (q _ _ fA)) eu ?_;obtain⟨up,us,rfl,gY,eU⟩:=y7.same q.t pu;refine⟨⟨[some _],U,U⟩,Z U ⟨up,U,⟨_,l9.of gY⟩,o6 (n:=es.length) (λj zs G2=>h9 G G2/\zs.length=j) Y ⟨h9.refl _,U⟩ (λj ys G q=>q.2) ?_ ?_ ?_⟩⟩
   . rintro j zs G2 hj ⟨q2,e2⟩;obtain⟨x,ex,px⟩:=eU.2 j hj;refine Dx (l9.of (q2 _ _ gY)) ex ?_;obtain⟨xp,xs,rfl,sC,eX⟩:=i0.same q2.t px;refine⟨⟨[some _],U,U⟩,Z U ⟨xp,xs,U,.inr (l9.of sC),λlp nl=>?_⟩⟩;exact⟨q2.trans (c6 nl),by rw[aq,e2];rfl⟩
   . rintro zs G2 ⟨q2,e2⟩;exact⟨_,l9.of (q2 _ _ gY),by rw[eU.1];exact ae _⟩
   . rintro zs G2 z ⟨q2,e2⟩ nz;exact⟨(q.trans q2).trans (c6 nz),by rw[aq,e];rfl⟩
 . rintro ys G ⟨q,e⟩;exact⟨_,l9.of (q _ _ fA),by rw[eT.1];exact ae _⟩
 . rintro ys G z ⟨q,e⟩ nz;refine E6 (o:=.lst ys) nz λH5 s5 k5=>?_;have q5:=q.trans s5;obtain⟨kus,tD,eK⟩:=hK.same (s4.trans q5);refine Z U ⟨a,U,⟨_,o7.of tD⟩,o6 (n:=es.length) (λi zs G=>h9 H5 G/\i3 (λi u H=>i0 R n (Mine.kv es i) u H) zs i G) Y ⟨h9.refl _,i3.nil⟩ (λj ys G q=>q.2.1) ?_ ?_ ?_⟩
   . rintro i zs G2 hi ⟨q2,e2⟩;obtain⟨u,eu,kq,qa,ov,ek,rfl,hq,ro⟩:=eK.2 i hi;refine Fp (o7.of (q2 _ _ tD)) eu ?_;refine⟨qa,Z U ⟨l9.of (q2 _ _ hq),U,za ⟨U,za ⟨U,U,⟨[some _,some _],U,U⟩,Z U ⟨q2,e2.snoc ?_⟩⟩⟩⟩⟩;rw[show Mine.kv es i=kq.2 from GA ek];exact i0.same q2.t ro
   . rintro zs G2 ⟨q2,e2⟩;exact⟨_,o7.of (q2 _ _ tD),by rw[eK.1];exact ae _⟩
   . rintro zs G2 z2 ⟨q2,e2⟩ kI;refine E6 (o:=.lst zs) kI λH6 s6 k6=>?_;have q6:=q5.trans (q2.trans s6);refine Z U (zf ⟨U,U,l9.of (q6 _ _ hm),U,sp,ss,U,.inr (l9.of (q6 _ _ fR)),λp7 n7=>?_⟩);have s7:=c6 (o:=.lst ss) n7;refine Z U ⟨sL,λp8 n8=>?_⟩;have s8:=s7.trans (c6 (o:=.tup [V.ref z2,V.ref p7,V.ref z]) n8);have b0x:=s4.trans (q6.trans s8);exact k es _ _ EC ⟨p8,z2,_,_,zs,U,b9,s8 _ _ k6,e2.mono λ_ _ _ g=>i0.same (s6.trans s8).t g⟩ (gE.trans (.of b0x)) (iF.same b0x)
noncomputable abbrev X3{S:SR}(n:Nat)(st dY:Nat->S.W):Nat->S.W:=W9 S n st dY
noncomputable abbrev X2{S:SR}(n:Nat)(tb bY:Nat->Nat->Nat->S.W):Nat->Nat->Nat->S.W:=λa=>IB S n (tb a) (bY a)
noncomputable abbrev Di{S:SR}(F:S7 S)(n:Nat)(en ed:Nat->S.W):Nat->S.W:=W9 S n en λi=>F.neg (ed i)
noncomputable def NW{S:SR}(F:S7 S)(l:List Nat)(m:Nat)(st:Nat->S.W)(tb:Nat->Nat->Nat->S.W)(en:Nat->S.W):List (List Nat):=Ae F m (j5 S m st (w4 l tb)) (gP l (K7 S l m st tb en))
def TM(w:World)(K:aa)(mg:Str->Option Value)(base:Heap)(t:Qu):Sp:=λvs H Q _=>∃(R:g9 Pr w K mg base),∃kv mv ov l,∃(n n' μ:Nat),∃st tb en dY bY ed,vs=[kv,mv,ov]/\(Q9 R.C R.fs H kv/\l5 R l n st tb en mv H/\l5 R l n' dY bY ed ov H/\MB R.B (n+n') l.length μ (X3 n st dY) (X2 n tb bY) (Di R.F n en ed)/\P5 l/\n+n'<=60/\X0 R.S (3 * zC (n+n') μ)/\D7 t H)/\
 ∀p v H',D6 (DT t) H H'->D7 t H'->(∀ws,He (K7 R.S l (n+n') (X3 n st dY) (X2 n tb bY) (Di R.F n en ed)) (NW R.F l (n+n') (X3 n st dY) (X2 n tb bY) (Di R.F n en ed))=ws->(ws=[]/\H' p=some (.tup [.str (Str.ofString "yes"),v])/\∃es,L5 R.F (n+n') ((NW R.F l (n+n') (X3 n st dY) (X2 n tb bY) (Di R.F n en ed)).map (j5 R.S (n+n') (X3 n st dY) (w4 l (X2 n tb bY)))) es/\Of R (n+n') es v H')\/∃u T,ws=u::T/\H' p=some (.tup [.str (Str.ofString "no"),vT u]))->Q (.ref p) H'
def UH(T:Txt K mg t)(fP:Wc mg base t):r8 Pr w K mg base E7 56 t.alike t.y0a II (TM w K mg base t):=by
 refine T.y0b.F.okC EJ T.tb_alike T.w0t (by rintro _ _ _ _ ⟨_,_,_,_,_,_,_,_,_,_,_,_,_,_,rfl,_⟩;rfl) λA outer s H vs Q E hr h=>?_;obtain⟨R,kv,mv,ov,l,n,n',μ,st,tb,en,dY,bY,ed,rfl,⟨hk,hM,fw,hB,L,hn,hS,hT⟩,k⟩:=h;refine⟨_,(c5 (E8 (C1 (DF T) hr.m T.s0e (x5 (O 0)))) (c5 (E8 (C1 (Cz T) hr.m T.p0b (D9 (O 1) (O 2)))) (c5 (M6 (i:=3) EJ.nd U (Or.inr U) (C1 (Xd T) hr.m T.y0n (S6 (O 0) (O 1) (O 2)))) (c5 (sT 4 EJ.nd (HJ (kf:=47) (pn:="last") (fr:=[w9,Dn]) (js:=[0,3]) (λbase=>DG (w:=w) (base:=base) T) hr.m U T.r0v.m T.r0v.F.kp T.r0v.b (EV (O 0) (EV (B5 g6 (O 3) a9) (QM fP.alike U U U (show ∀y:Str × NameKind,y∈_->y.2=.free->(a8 Am).names.lookup y.1=some .cell\/(a8 Am).names.lookup y.1=some .free from by decide +kernel)))) (by exact⟨λ_=>rfl,⟨U,U,U,dK,U,dK,dK,dK⟩,(show ∀y:Str,y∈([w9,Dn]:List Str)->(a8 Am).names.lookup y=some .cell\/(a8 Am).names.lookup y=some .free from by decide +kernel),dK,U⟩) (λbase _ _ _ _ _ _ _ hr=>(x9 (CD (w:=w) (base:=base) T) hr.m U T.p0c.m T.p0c.F.kp T.p0c.b .nil B4 (S6 (O 1) (O 2) (O 0)))) (λ_ _ _ _ _=>rfl))) (c5 (sT 5 EJ.nd (C1 (HM T) hr.m T.v0y (S6 (O 0) (O 3) (O 4)))) (c5 (y8 (l8 Ao (l4 r9 bR T.z_len PySem.boot_len (x5 (O 5))) a9 (o4 _)) (c4 (c9 (C9 (D9 Cu (B5 z9 (O 5) a9))))) o8) (c4 (c9 (C9 (D9 Cu (C1 (Nb T fP) hr.m T.v0g (S6 (O 0) (O 3) (w5 (xs:=[EB,C8]) U (oC [w9,BF,Bg,Dn,"found","parted"] (a8 Am)) (B6 (O 4)) (show PG _ _ (Ft K 2 _)from(J0 U (j8 (gL 6 m0q) (j8 (gL 7 m0q) D3)))) (O 7)))))))))))))),?_⟩;dsimp only[z8,u7,y9,z5];refine Z U ⟨R,kv,U,hk,?_⟩;refine vb U U ⟨R,zO mv ov l n n' st tb en dY bY ed ⟨U,⟨hM,fw⟩,?_⟩⟩;refine vc U U U ⟨R,zP kv mv ov l n n' st tb en dY bY ed ⟨U,⟨hk,hM,fw,L,Y,Y⟩,λbv H1 s1 fS=>?_⟩⟩;have fQ:=hT.same s1;have kc:=hk.same s1;have fd:∀u∈NW R.F l (n+n') (X3 n st dY) (X2 n tb bY) (Di R.F n en ed),u.length<=n+n'/\∀c∈u,c∈l:=λu hu=>LO Kh _ u hu;have fl:(NW R.F l (n+n') (X3 n st dY) (X2 n tb bY) (Di R.F n en ed)).length<=n+n':=by
  unfold NW Ae;rw[Dc];exact(O8 _).len
 have fS:l5 R l (n+n') (X3 n st dY) (X2 n tb bY) (Di R.F n en ed) bv H1:=fS;have k':=k;unfold NW at k' fd fl;revert fS hB k' fd fl;generalize X3 n st dY=bs;generalize X2 n tb bY=bt;generalize Di R.F n en ed=be;generalize n+n'=m at *;intro hB fd fl fS k';obtain⟨mp,sv,tv,ev,rfl,hm,h1,h2,h3⟩:=id fS;have zl:∀i,∀u∈(x6 R.F m (j5 R.S m bs (w4 l bt)) (gP l (K7 R.S l m bs bt be)) i).last,u.length<=m/\∀c∈u,c∈l:=λi u hu=>PZ Kh hu;have zFC:=Wh (n:=m) (μ:=μ);have ve:=hS.le (aQ 3 zFC);have vf:X0 R.S (3 * ((m+2) * (μ+m))):=ve.le (aQ _ YA);have tN:∀ws:List (List Nat),(∀u∈ws,u.length<=m/\∀c∈u,c∈l)->ws.length<=1000->VY R l m μ bs bt be ws:=λws h1 h2=>⟨hB,L,hn,h1,h2,vf⟩;refine⟨[kv,.ref mp],U,vb U U (zf ⟨U,U,l9.of hm,U,fQ _ Tu,λf c H2 sP gi hC nf eQ hF=>?_⟩)⟩;obtain⟨iF,sD⟩:=fQ.step T Tu sP gi;have fL:x4 H1 H2:=sD.tup fQ.not;have jd:Q9 R.C R.fs H2 kv:=Q9.sameD sD fQ.not kc;have uc:=l5.same fL fS;refine⟨R.re eQ,kv,sv,f,m,(m+1) * (μ+m),(m+1) * (μ+m),j5 R.S m bs (w4 l bt),gP l (K7 R.S l m bs bt be),λws=>(∀u∈ws,u.length<=m/\∀c∈u,c∈l)/\ws.length<=1000,λ_=>False,λG=>O0 G c qAL/\Q9 R.C R.fs G kv/\l5 R l m bs bt be (.ref mp) G/\D7 t G,U,⟨jd,i0.same fL h1,hn,?_,⟨⟨hC,jd,uc,iF⟩,λG G' s' j=>⟨O0.same0 s' j.1,j.2.1.same s',l5.same s'.t j.2.2.1,j.2.2.2.same s'⟩,λa xs G G' _ ha s' j=>⟨O0.sameX s' ha j.1,?_,l5.same (s'.lt ha) j.2.2.1,j.2.2.2.sameX s' ha⟩⟩,λG j b d=>d.elim,Kh.1,λi ne=>?_,λi u hu=>(hB.row u (zl i u hu).2).mono (L6 (zl i u hu).1) (L6 (zl i u hu).1),ve.le (aQ _ Wg)⟩,λb H3 s3 j3 nb hP=>?_⟩
 . refine IF.imp hF λv G Q' h=>?_;obtain⟨a,ws,e,⟨hL,⟨o1,o2⟩,j1,j2,j3,j4⟩,k'⟩:=h;cases e;refine⟨j1,vc U U U (Z U ⟨R.re eQ,kv,.ref mp,a,l,m,μ,bs,bt,be,ws,U,⟨j2,j3,hL,⟨hB,L,hn,o1,o2,vf⟩⟩,λb G' s' nb hP=>?_⟩)⟩;exact k' b G' (.of s') ⟨O0.same0 s' j1,j2.same s',l5.same s'.t j3,j4.same s'⟩ nb hP
 . obtain⟨kp,dx,rfl,fX⟩:=j.2.1;exact⟨kp,dx,U,s' _ _ (λz=>by rw[z,ha]at fX;cases fX) fX⟩
 . refine⟨λu hu=>zl i u (Dd hu),?_⟩;have e:=Au (F:=R.F) (l:=m) (ρ:=j5 R.S m bs (w4 l bt)) (ws:=(x6 R.F m (j5 R.S m bs (w4 l bt)) (gP l (K7 R.S l m bs bt be)) i).last) (ks:=(x6 R.F m (j5 R.S m bs (w4 l bt)) (gP l (K7 R.S l m bs bt be)) i).ks);have k2:=(O8 (F:=R.F) (l:=m) (ρ:=j5 R.S m bs (w4 l bt)) (g:=gP l (K7 R.S l m bs bt be)) (i+1)).len;have k2:(Fu R.F m (j5 R.S m bs (w4 l bt)) (x6 R.F m (j5 R.S m bs (w4 l bt)) (gP l (K7 R.S l m bs bt be)) i).ks (x6 R.F m (j5 R.S m bs (w4 l bt)) (gP l (K7 R.S l m bs bt be)) i).last).length<=m:=k2;show(FD R.F m (j5 R.S m bs (w4 l bt)) (x6 R.F m (j5 R.S m bs (w4 l bt)) (gP l (K7 R.S l m bs bt be)) i).ks (x6 R.F m (j5 R.S m bs (w4 l bt)) (gP l (K7 R.S l m bs bt be)) i).last).length<=1000;omega
 . have hP:L4 R m (j5 R.S m bs (w4 l bt)) (Ae R.F m (j5 R.S m bs (w4 l bt)) (gP l (K7 R.S l m bs bt be))) b H3:=hP;have gG:=j3.2.2.2;have pQ:Q9 R.C R.fs H3 kv:=j3.2.1;have jK:=j3.2.2.1;have gE:D6 (DT t) H1 H3:=sD.trans λc o _ e=>s3 c o (λz=>z) e;have hx:∀u∈Ae R.F m (j5 R.S m bs (w4 l bt)) (gP l (K7 R.S l m bs bt be)),XB R.B m ((m+1) * (μ+m)) ((m+1) * (μ+m)) (j5 R.S m bs (w4 l bt) u):=λu hu=>(hB.row u (fd u hu).2).mono (L6 (fd u hu).1) (L6 (fd u hu).1);revert hP k' fd fl hx;generalize Ae R.F m (j5 R.S m bs (w4 l bt)) (gP l (K7 R.S l m bs bt be))=ws;intro fd fl k' hP hx;have hd:=tN ws fd Y;refine vc U U U ⟨R,zM kv (.ref mp) b l m μ bs bt be ws ⟨U,⟨pQ,jK,hP,hd⟩,λpb H4 s4 npb sR=>?_⟩⟩;have pl:=QK (D:=K7 R.S l m bs bt be) (ws:=ws);have hl:DA K (.ref pb) H4 (He (K7 R.S l m bs bt be) ws).length:=.inl ⟨_,o7.of sR,by rw[af]⟩;have sD4:=gE.trans (.of s4);refine Z U (za ⟨U,hl,za ⟨U,U,Z U ?_⟩⟩);cases ep:He (K7 R.S l m bs bt be) ws with
   | cons u Tl=>
    refine AC (λgt=>?_) (λgt=>absurd (show(0:Int) < ((u::Tl).length:Nat) by rw[bM];omega) gt);rw[ep]at sR;refine Z U (zf ⟨U,U,o7.of sR,(show Ry ((u::Tl).map vT) 0=some (vT u)from B0 (j:=0) U),sL,λp np=>?_⟩);have s5:=c6 (o:=.tup [V.str (Str.ofString "no"),vT u]) np;refine k' p .non _ ((D6.of s1).trans (sD4.trans (.of s5))) ((gG.same s4).same s5) λws' e'=>.inr ⟨u,Tl,?_,b9⟩;rw[<- e',ep]
   | nil=>
    refine AC (λgt=>absurd gt (by simp)) (λgt=>?_);obtain⟨us,hb,eP⟩:=hP.same s4;refine vc U U U ⟨b,U,⟨_,o7.of hb⟩,o6 (n:=ws.length) (λj ys G=>i3 (λi u H=>i0 R m (j5 R.S m bs (w4 l bt) (ws.getD i [])) u H) ys j H4/\G=H4) Y ⟨i3.nil,U⟩ (λj ys H3 q=>q.1.1) ?_ ?_ ?_⟩
    . rintro j ys G hj ⟨e,rfl⟩;obtain⟨y,ey,wd,q,rv,ew,rfl,hq,ro⟩:=eP.2 j hj;refine Fp (o7.of hb) ey ?_;refine⟨q,Z U ⟨l9.of hq,U,za ⟨U,za ⟨U,U,⟨[some _,some _],U,U⟩,Z U ⟨e.snoc ?_,U⟩⟩⟩⟩⟩;rw[aR,ew];exact ro
    . rintro ys G ⟨e,rfl⟩;exact⟨_,o7.of hb,by rw[eP.1];exact ae _⟩
    . rintro ys G z ⟨e,rfl⟩ nz;refine E6 (o:=.lst ys) nz λH5 s5 k5=>?_;have On:=s4.trans s5;refine⟨R,zO kv (.ref mp) (.ref z) l m μ ws.length bs bt be (λi=>j5 R.S m bs (w4 l bt) (ws.getD i [])) ⟨U,⟨pQ.same On,l5.same On.t jK,hB,L,hn,Y,⟨z,ys,U,k5,e.mono λ_ _ _ q=>i0.same s5.t q⟩,λi hi=>hx _ (Mine.K0 hi),hS,gG.same On⟩,λes v H6 EC hW sD6 tW=>?_⟩⟩;refine⟨sL,λp np=>?_⟩;have s7:=c6 (o:=.tup [V.str (Str.ofString "yes"),v]) np;refine k' p v _ ((D6.of s1).trans (gE.trans ((D6.of On).trans (sD6.trans (.of s7))))) (tW.same s7) λws' e'=>.inl ⟨by rw[<- e',ep],b9,es,?_,hW.same s7⟩;rw[QH]at EC;exact EC
def XS(R:g9 Pr w K mg base)(l:List Nat)(n:Nat)(st:Nat->R.S.W)(tb:Nat->Nat->Nat->R.S.W)(en:Nat->R.S.W)(m:Nat):Prop:=∃es,L5 R.F n ((Ae R.F n (j5 R.S n en (w4 l λa i j=>tb a j i)) (gB l)).map (j5 R.S n en (w4 l λa i j=>tb a j i))) es/\(Oq (R:=R) l es.length (Nm n es st) (λa i j=>GL n es (λa i j=>tb a j i) a j i)).length=m
def o0i(R:g9 Pr w K mg base)(l:List Nat)(n n':Nat)(st:Nat->R.S.W)(tb:Nat->Nat->Nat->R.S.W)(en:Nat->R.S.W)(dY:Nat->R.S.W)(bY:Nat->Nat->Nat->R.S.W)(ed:Nat->R.S.W)(v:V)(H:Hp):Prop:=
 (v=.non/\(He (K7 R.S l (n+n') (X3 n st dY) (X2 n tb bY) (Di R.F n en ed)) (NW R.F l (n+n') (X3 n st dY) (X2 n tb bY) (Di R.F n en ed))≠[]\/n'≠n\/∃m,XS R l n st tb en m/\m≠n))\/
 (He (K7 R.S l (n+n') (X3 n st dY) (X2 n tb bY) (Di R.F n en ed)) (NW R.F l (n+n') (X3 n st dY) (X2 n tb bY) (Di R.F n en ed))=[]/\n'=n/\XS R l n st tb en n/\∃es,L5 R.F (n+n') ((NW R.F l (n+n') (X3 n st dY) (X2 n tb bY) (Di R.F n en ed)).map (j5 R.S (n+n') (X3 n st dY) (w4 l (X2 n tb bY)))) es/\N8 (λi u H=>i0 R n' (λj=>Mine.kv es i (n+j)) u H) es.length v H)
def SJ{P:Nat->V->Hp->Prop}{us:List V}{n m:Nat}{H:Hp}(h:i3 P us (n+m) H):i3 (λj=>P (n+j)) (us.drop n) m H:=⟨by rw[cY,h.1];omega,λj hj=>by
 obtain⟨u,e,q⟩:=h.2 (n+j) Y;exact⟨u,by rw[List.getElem?_drop];exact e,q⟩⟩
def OD(w:World)(K:aa)(mg:Str->Option Value)(base:Heap)(t:Qu):Sp:=λvs H Q _=>∃(R:g9 Pr w K mg base),∃kv mv ov l,∃(n n' μ:Nat),∃st tb en dY bY ed,vs=[kv,mv,ov]/\(Q9 R.C R.fs H kv/\l5 R l n st tb en mv H/\l5 R l n' dY bY ed ov H/\MB R.B (n+n') l.length μ (X3 n st dY) (X2 n tb bY) (Di R.F n en ed)/\MB R.B n l.length μ st tb en/\P5 l/\n+n'<=60/\X0 R.S (3 * zC (n+n') μ)/\X0 R.S (3 * zH n μ)/\D7 t H)/\
 ∀v H',D6 (DT t) H H'->D7 t H'->o0i R l n n' st tb en dY bY ed v H'->Q v H'
def Pf(T:Txt K mg t)(fP:Wc mg base t):r8 Pr w K mg base E7 60 t.y0g t.v0j II (OD w K mg base t):=by
 refine T.w0p.F.okA DM λ_ _ _ _ H _ _ _ hr h=>?_;obtain⟨R,kv,mv,ov,l,n,n',μ,st,tb,en,dY,bY,ed,rfl,⟨hk,hM,fw,hB,uk,L,hn,hS,kj,hT⟩,k⟩:=h;have zl:=sZ;refine⟨_,(c8 (sT 3 DM.nd (C1 (UH T fP) hr.m T.y0b (S6 (O 0) (O 1) (O 2)))) (c8 (M6 (i:=4) DM.nd U (Or.inr U) (C1 (EY T) hr.m T.x0r (x5 (O 1)))) (c8 (y8 (PW.pt (DE (l8 J8 (B5 g6 (O 3) a9) Cu (o4 _)) (DE (l8 HK (C1 (EY T) hr.m T.x0r (x5 (O 2))) (O 4) (o4 _)) (Ec (l8 HK (l4 r9 bR T.z_len PySem.boot_len (x5 (C1 (UG T fP) hr.m T.y0i (D9 (O 0) (O 1))))) (O 4) (o4 _)))))) (c4 (c9 Li)) o8) (c4 (c9 (j6 h7 bR T.z_tuple boot_tuple (x5 (w5 (xs:=[C8]) U (oC [w9,BF,Bg,"told","size"] (a8 CT)) (B6 (B5 g6 (B5 g6 (O 3) a9) a9)) (p9 (i:=5) (by show List.Nodup ([w9,BF,Bg,"told","size",C8]:List Str);decide +kernel) U (Or.inl U)) (HH (show c0c _ (Yd K)from WD) (O 5) (Lg (O 4)) Lh))))))))),?_⟩;dsimp only[z8,u7,y9,z5];intro xR xE;refine vc U U U ⟨R,kv,mv,ov,l,n,n',μ,st,tb,en,dY,bY,ed,U,⟨hk,hM,fw,hB,L,hn,hS,hT⟩,λp x H1 gr fQ a1=>?_⟩;have u1:x4 H H1:=gr.tup hT.not;have fS:=l5.same u1 hM;have kn:=l5.same u1 fw;have kc:=Q9.sameD gr hT.not hk;subst xE;intro xR xE;refine Z U ⟨R,zG mv l n st tb en ⟨U,fS,?_⟩⟩;show L3 4 (.int (n:Nat)) [some kv,some mv,some ov,sr p,none] H1 _;rcases a1 _ rfl with ⟨e0,hp,es,EC,hW⟩ | ⟨u,Tl,e0,hp⟩
 . subst xE;intro xR xE;refine Z U (zf ⟨U,U,l9.of hp,U,U,Z U ?_⟩);refine Fo (decide_eq_false (λz=>by have:=V.str.inj z;revert this;decide +kernel)) ?_;refine Z U ⟨R,zG ov l n' dY bY ed ⟨U,kn,Z U ⟨U,Z U ?_⟩⟩⟩;refine Ke (λne=>?_) (λee=>?_)
   . exact k _ _ gr fQ (.inl ⟨U,.inr (.inl λz=>ne (by rw[z]))⟩)
   refine vb U U ⟨R,zJ kv mv l n μ st tb en ⟨U,⟨kc,fS,uk,L,Y,kj,fQ⟩,λlG b2 H2 uP gg gi nb2 oi=>?_⟩⟩;have wl:=Yn (R:=R) (m:=lG.length) (ρ:=j5 R.S lG.length (Nm n lG st) (w4 l (λa i j=>GL n lG (λa i j=>tb a j i) a j i))) (g:=gB l);have el:=uP.le;have sS:=gg.tup fQ.not _ _ hp;refine za ⟨U,.inl ⟨_,o7.of oi,U⟩,Z U ⟨U,Z U ?_⟩⟩;refine Ke (λne=>?_) (λeh=>?_)
   . exact k _ _ (gr.trans gg) gi (.inl ⟨U,.inr (.inr ⟨_,⟨lG,uP,U⟩,λz=>ne (congrArg (λm:Nat=>(m:Int)) ((af ..).trans z))⟩)⟩)
   obtain⟨q,z,x2,y2,us,rfl,hq,hz,eR⟩:=hW;have hq2:=gg.tup fQ.not _ _ hq;have sd:H2 z=some (.lst us):=gg _ _ (fQ.lst hz) hz;have u2:x4 H1 H2:=gg.tup fQ.not;subst xE;refine Z U (zf ⟨U,U,l9.of sS,U,zf ⟨U,U,l9.of hq2,U,z,U,⟨_,o7.of sd⟩,o6 (n:=es.length) (λj ys G=>h9 H2 G/\i3 (λi u H=>i0 R n' (λj=>Mine.kv es i (n+j)) u H) ys j G) (by have:=EC.le;omega) ⟨h9.refl _,i3.nil⟩ (λj ys H3 q=>q.2.1) ?_ ?_ ?_⟩⟩)
   . rintro j ys G hj ⟨q,e0⟩;obtain⟨u,eu,pu⟩:=eR.2 j hj;refine Fp (o7.of (q _ _ sd)) eu ?_;obtain⟨up,qI,rfl,gY,eU⟩:=i0.same (u2.trans q.t) pu;refine⟨⟨[some _],U,U⟩,vc U U U ⟨up,qI,U,l9.of gY,gY,λp5 G5 s5 h5=>?_⟩⟩;rw[VQ (by rw[eU.1];omega)]at h5;exact⟨q.trans s5,(e0.mono λ_ _ _ z=>i0.same s5.t z).snoc ⟨p5,Z U ⟨h5,(SJ eU).mono λ_ _ _ z=>R.same s5.t z⟩⟩⟩
   . rintro ys G ⟨q,e0⟩;exact⟨_,o7.of (q _ _ sd),by rw[eR.1];exact ae _⟩
   . rintro ys G z ⟨q,e1⟩ nz;have s3:=c6 (o:=.lst ys) nz;refine⟨z,ys,U,.inl ⟨o7.of b9,λl2 n2=>?_⟩⟩;have s4:=s3.trans (c6 (o:=.tup ys) n2);refine k _ _ (gr.trans (gg.trans (.of (q.trans s4)))) (gi.same (q.trans s4)) (.inr ⟨e0,?_,⟨lG,uP,?_⟩,es,EC,l2,ys,U,b9,e1.mono λ_ _ _ z=>i0.same s4.t z⟩)
     . exact Int.ofNat.inj ee
     . rw[af]at eh;exact Int.ofNat.inj eh
 . subst xE;intro xR xE;refine Z U (zf ⟨U,U,l9.of hp,U,U,Z U ?_⟩);refine CO (decide_eq_true U) ?_;exact k _ _ gr fQ (.inl ⟨U,.inl (by rw[e0];simp)⟩)
def HS(T:Txt K mg t):r8 Pr w K mg base E7 1 t.t0m t.q0y Xi sp_divisor:=by
 refine T.r0d.F.okA Cc λ_ _ _ _ H _ _ _ hr h=>?_;obtain⟨a,b,rfl,k⟩:=h;refine⟨_,(c5 (AM ar (l8 HK (O 1) a9 (o4 _)) (c4 (OW (i:=0) (j:=1) U Cc.nd U U bD U U (D9 (O 1) (l7 E9 (O 0) (O 1))) U))) (c4 (c9 (l4 FA bR T.z_abs boot_abs (x5 (O 0)))))),?_⟩;refine⟨λm σ H'=>∃x y,σ=[some (.int x),some (.int y)]/\m=y.natAbs/\dv x y=dv a b/\H'=H,zd ⟨U,U,U,U⟩,?_⟩;rintro m σ H' ⟨x,y,rfl,rfl,e,rfl⟩
 (repeat fail)
 refine Ke (λh0=>?_) (λh0=>?_)
 . refine⟨λσ' gJ=>∃x' y',σ'=[some (.int x'),some (.int y')]/\y'.natAbs < y.natAbs/\dv x' y'=dv a b/\gJ=H',λσ' gJ ⟨x',y',e1,e2,e3,e4⟩=>⟨_,e2,x',y',e1,U,e3,e4⟩,?_⟩;refine vc U U U (za ⟨U,U,h0,za ⟨U,?_⟩⟩);exact za ⟨U,NU _ _ h0,Vl e,U⟩
 . refine vb U U ?_
   (try dsimp only)
   rw[out2 e h0];exact k
def sp_low:Sp:=λvs H Q _=>∃a b,vs=[.int a,.int b]/\0 < b/\∀v H',h9 H H'->GX H' v (tp a b) (bt a b)->Q v H'
def Ee(T:Txt K mg t):r8 Pr w K mg base E7 36 t.x0z t.w0l ["_law_top",Wl] sp_low:=by
 refine T.w0g.F.okA Hx λ_ _ _ _ _ _ _ _ hr h=>?_;obtain⟨a,b,rfl,pb,k⟩:=h;have hd:dv a b≠0:=cZ (Iq Y);refine⟨_,(c5 (sT 2 Hx.nd (C1 (HS T) hr.m T.r0d (D9 (O 0) (O 1)))) (c4 (c9 (C9 (D9 (l7 (EW hr bD Qw) (O 0) (O 2)) (l7 (EW hr bD Qw) (O 1) (O 2))))))),?_⟩
 (repeat fail)
 refine⟨sL,λp hp=>?_⟩;refine k _ _ (c6 hp) ?_
 (try dsimp only)
 rw[(NR pb).1,(NR pb).2];exact GX.new
def Qz(T:Txt K mg t)(f:∀S:SR,S.W->S.W->S.W):Sp:=λvs H Q _=>∃(R:g9 Pr w K mg base),∃nm p so x y a b m n,So T R nm p/\vs=[so,x,y]/\
 (F5 H so nm p/\R.is H x a/\R.is H y b/\R.S.sz m a/\R.S.sz n b/\X0 R.S (m+n))/\∀v H',h9 H H'->R.is H' v (f R.S a b)->Q v H'
def Q4(T:Txt K mg t):r8 Pr w K mg base E7 37 t.w0z t.u0u Np (Qz (w:=w) (base:=base) T λS=>S.add):=by
 refine T.t0v.F.okA MK λ_ _ _ _ _ _ _ _ hr h=>?_;obtain⟨R,nm,p,so,x,y,a,b,m,n,hS,rfl,⟨rfl,hx,hy,sa,sb,ip⟩,k⟩:=h;refine⟨_,(c5 (y8 (l8 J8 (O 0) a9 (o4 _)) (c4 (c9 (C1 (Ee T) hr.m T.w0g (D9 (l7 N3 (l7 S4 (B5 g6 (O 1) a9) (B5 g6 (O 2) a9)) (l7 S4 (B5 g6 (O 2) a9) (B5 g6 (O 1) a9))) (l7 S4 (B5 g6 (O 1) a9) (B5 g6 (O 2) a9)))))) o8) (c4 (c9 (l7 E9 (l7 N3 (O 1) (O 2)) (O 0))))),?_⟩;dsimp only[z8,u7,y9,z5];cases hS with
 | fr=>
  obtain⟨px,rfl,hx⟩:=hx;obtain⟨py,rfl,hy⟩:=hy;have sa:a.sz m:=sa;have sb:b.sz n:=sb;have ip:=Ht ip;refine Z U ⟨U,Z U ?_⟩;refine CO (decide_eq_true U) ?_;refine Z U (zf ⟨U,U,l9.of hx,U,Z U (zf ⟨U,U,l9.of hy,U,za ⟨U,U,Ia (n:=n) sa.1 sb.2 Y,Z U (zf ⟨U,U,l9.of hy,U,Z U (zf ⟨U,U,l9.of hx,U,za ⟨U,U,Ia (n:=m) sb.1 sa.2 Y,za ⟨U,U,?_⟩⟩⟩)⟩)⟩⟩)⟩);refine Z U (zf ⟨U,U,l9.of hx,U,Z U (zf ⟨U,U,l9.of hy,U,za ⟨U,U,Ia (n:=n) sa.2 sb.2 Y,za ⟨U,aL a.p b.p,λv H' s' f'=>k v H' s' f'⟩⟩⟩)⟩)
 | re p hp gb hi=>
  cases (show x=.int a.x from hx);cases (show y=.int b.x from hy);refine Z U ⟨U,Z U ?_⟩;refine Fo (decide_eq_false λz=>by injection z with z;omega) ?_;refine vb U U (za ⟨U,U,Z U (za ⟨U,U,(show p≠0 by omega),?_⟩)⟩);exact k _ _ (h9.refl _) rfl
def L8(T:Txt K mg t):r8 Pr w K mg base E7 37 t.v0u t.t0f Np (Qz (w:=w) (base:=base) T λS=>S.mul):=by
 refine T.t0d.F.okA KU λ_ _ _ _ _ _ _ _ hr h=>?_;obtain⟨R,nm,p,so,x,y,a,b,m,n,hS,rfl,⟨rfl,hx,hy,sa,sb,ip⟩,k⟩:=h;refine⟨_,(c5 (y8 (l8 J8 (O 0) a9 (o4 _)) (c4 (c9 (C1 (Ee T) hr.m T.w0g (D9 (l7 S4 (B5 g6 (O 1) a9) (B5 g6 (O 2) a9)) (l7 S4 (B5 g6 (O 1) a9) (B5 g6 (O 2) a9)))))) o8) (c4 (c9 (l7 E9 (l7 Cw (O 1) (O 2)) (O 0))))),?_⟩;dsimp only[z8,u7,y9,z5];cases hS with
 | fr=>
  obtain⟨px,rfl,hx⟩:=hx;obtain⟨py,rfl,hy⟩:=hy;have sa:a.sz m:=sa;have sb:b.sz n:=sb;have ip:=Ht ip;refine Z U ⟨U,Z U ?_⟩;refine CO (decide_eq_true U) ?_;refine Z U (zf ⟨U,U,l9.of hx,U,Z U (zf ⟨U,U,l9.of hy,U,za ⟨U,U,Ia (n:=n) sa.1 sb.1 Y,?_⟩⟩)⟩);refine Z U (zf ⟨U,U,l9.of hx,U,Z U (zf ⟨U,U,l9.of hy,U,za ⟨U,U,Ia (n:=n) sa.2 sb.2 Y,za ⟨U,aL a.p b.p,λv H' s' f'=>k v H' s' f'⟩⟩⟩)⟩)
 | re p hp gb hi=>
  cases (show x=.int a.x from hx);cases (show y=.int b.x from hy);refine Z U ⟨U,Z U ?_⟩;refine Fo (decide_eq_false λz=>by injection z with z;omega) ?_;have cm:SX a.x b.x:=.inl ⟨by have:=a.h0;omega,by have:=a.h1;omega⟩;refine vb U U (za ⟨U,U,cm,Z U (za ⟨U,U,(show p≠0 by omega),?_⟩)⟩);exact k _ _ (h9.refl _) rfl
def RM(T:Txt K mg t):Sp:=λvs H Q _=>∃(R:g9 Pr w K mg base),∃nm p so,∃(n:Int),So T R nm p/\vs=[so,.int n]/\(F5 H so nm p/\-2<=n/\n<=2)/\∀v H' x,h9 H H'->R.is H' v x->(n=0->x=R.S.zero)->(n=1->x=R.S.one)->R.S.sz 1 x->R.B.cb 1 2 x->Q v H'
def AS(T:Txt K mg t):r8 Pr w K mg base E7 1 t.y0k t.x0g Xj (RM (w:=w) (base:=base) T):=by
 refine T.x0j.F.okA RW λ_ _ _ _ _ _ _ _ hr h=>?_;obtain⟨R,nm,p,so,n,hS,rfl,⟨rfl,n0,n1⟩,k⟩:=h;refine⟨_,(c5 (y8 (l8 J8 (O 0) a9 (o4 _)) (c4 (c9 (C9 (D9 (O 1) a9)))) o8) (c4 (c9 (l7 E9 (O 1) (O 0))))),?_⟩;cases hS with
 | fr=>
  refine Z U ⟨U,Z U ?_⟩;refine CO (decide_eq_true U) ?_;refine Z U ⟨sL,λp1 np=>?_⟩;refine k _ _ (⟨n,1,bD,by unfold dv;rw[Int.gcd_one_right];rfl⟩:Fr) (c6 np) GX.new (λe=>Fr.eq_of e U) (λe=>Fr.eq_of e U) ⟨?_,by show(1:Int).natAbs<=2 ^ 1;decide⟩ ?_
  . show n.natAbs<=2 ^ 1;rw[Nat.pow_one];omega
  . exact⟨by decide,n,U,by show n.natAbs<=2;omega⟩
 | re p hp gb hi=>
  refine Z U ⟨U,Z U ?_⟩;refine Fo (decide_eq_false λz=>by injection z with z;omega) ?_;refine vb U U (za ⟨U,U,(show p≠0 by omega),?_⟩);refine k _ _ (Re.of p Y n) (h9.refl _) rfl (λe=>?_) (λe=>?_) trivial trivial
  . subst e;exact Re.eq_of (by show(0:Int).fmod p=0;exact Ga Y Y)
  . subst e;exact Re.eq_of (by show(1:Int).fmod p=1;exact Ga Y Y)
def p13':Mf 13=true:=p13
def m0n{r:Int}(h0:0<=r)(h1:r < 9):∃p:Int,Ry ([2,3,5,7,11,13,101,65537,999983].map V.int) r=some (V.int p)/\2<=p/\p<=1000000/\Mf p=true:=by
 rcases(by omega:r=0\/r=1\/r=2\/r=3\/r=4\/r=5\/r=6\/r=7\/r=8)with rfl | rfl | rfl | rfl | rfl | rfl | rfl | rfl | rfl
 . exact⟨2,U,bD,bD,p2⟩
 . exact⟨3,U,bD,bD,p3⟩
 . exact⟨5,U,bD,bD,p5⟩
 . exact⟨7,U,bD,bD,p7⟩
 . exact⟨11,U,bD,bD,p11⟩
 . exact⟨13,U,bD,bD,p13'⟩
 . exact⟨101,U,bD,bD,p101⟩
 . exact⟨65537,U,bD,bD,ZE⟩
 . exact⟨999983,U,bD,bD,WZ⟩
def Ww(T:Txt K mg t):Sp:=λvs H Q _=>∃(a:Addr),vs=[.ref a]/\Dr H a/\∀(R:g9 Pr w K mg base) nm p v H',So T R nm p->F5 H' v nm p->j9 a H H'->Dr H' a->Q v H'
def Nd(T:Txt K mg t):r8 Pr w K mg base E7 2 t.x0k t.u0w [X5] (Ww (w:=w) (base:=base) T):=by
 refine T.v0d.F.okA Gr λ_ _ _ _ H _ _ _ hr h=>?_;obtain⟨a,rfl,hD,k⟩:=h;refine⟨_,(c5 (sT 1 Gr.nd (B5 z9 (D0 (J7 a9 (J7 a9 (J7 a9 (J7 a9 (J7 a9 (Jg a9 a9 a9 a9))))))) (C1 (w8 T) hr.m T.u0g (D9 (O 0) a9)))) (c4 (c9 (B5 z9 (D0 (S6 a9 (O 1) (O 1))) (C1 (w8 T) hr.m T.u0g (D9 (O 0) a9)))))),?_⟩;dsimp only[z8,u7,y9,z5];refine⟨sL,λp1 n1=>?_⟩;have t1:=c6 (o:=.lst [V.int 2,V.int 3,V.int 5,V.int 7,V.int 11,V.int 13,V.int 101,V.int 65537,V.int 999983]) n1;have k1:upd H p1 (.lst [V.int 2,V.int 3,V.int 5,V.int 7,V.int 11,V.int 13,V.int 101,V.int 65537,V.int 999983]) p1=some (.lst [V.int 2,V.int 3,V.int 5,V.int 7,V.int 11,V.int 13,V.int 101,V.int 65537,V.int 999983]):=b9;have b1:p1≠a:=US hD n1;revert t1 k1;generalize upd H p1 (.lst [V.int 2,V.int 3,V.int 5,V.int 7,V.int 11,V.int 13,V.int 101,V.int 65537,V.int 999983])=H1;intro t1 k1;have d1:=hD.same t1;refine Z U ⟨a,9,U,⟨d1,bD,bD⟩,λr2 H2 s2 d2 a2 b2=>?_⟩;obtain⟨p,ep,p2,p3,p4⟩:=m0n a2 b2;refine zf ⟨U,U,o7.of (s2 _ _ b1 k1),ep,?_⟩;refine vb U U ⟨sL,λp5 n5=>?_⟩;have t5:=c6 (o:=.lst [V.int 0,V.int p,V.int p]) n5;have k5:=b9 (H:=H2) (a:=p5) (o:=.lst [V.int 0,V.int p,V.int p]);have b5:p5≠a:=US d2 n5;revert t5 k5;generalize upd H2 p5 (.lst [V.int 0,V.int p,V.int p])=H5;intro t5 k5;refine Z U ⟨a,3,U,⟨d2.same t5,bD,bD⟩,λr6 H6 s6 d6 a6 b6=>?_⟩;have sA:j9 a H H6:=((j9.of t1).trans s2).trans ((j9.of t5).trans s6);rcases(by omega:r6=0\/r6=1\/r6=2)with rfl | rfl | rfl
 . exact zf ⟨U,U,o7.of (s6 _ _ b5 k5),U,k _ _ _ _ _ .fr U sA d6⟩
 . exact zf ⟨U,U,o7.of (s6 _ _ b5 k5),U,k _ _ _ _ _ (.re p p2 p3 p4) U sA d6⟩
 . exact zf ⟨U,U,o7.of (s6 _ _ b5 k5),U,k _ _ _ _ _ (.re p p2 p3 p4) U sA d6⟩
def WA(T:Txt K mg t):Sp:=λvs H Q _=>∃(R:g9 Pr w K mg base),∃nm p so,So T R nm p/\vs=[so]/\F5 H so nm p/\∀v H',h9 H H'->Q9 R.C R.fs H' v->Q v H'
def Nh(T:Txt K mg t):r8 Pr w K mg base E7 4 t.w0r t.u0j [D5] (WA (w:=w) (base:=base) T):=by
 refine T.u0o.F.okA ML λ_ _ _ _ _ _ _ _ hr h=>?_;obtain⟨R,nm,p,so,hS,rfl,rfl,k⟩:=h;refine⟨_,(c5 (y8 (l8 J8 (O 0) a9 (o4 _)) (c4 (c9 (Uz T.s0g U T.s0j))) o8) (c4 (c9 (WW T.u0z (CG T) hr.m U T.v0e T.p0f.b .nil B4 (x5 (O 0)))))),?_⟩;cases hS with
 | fr=>
  refine Z U ⟨U,Z U ?_⟩;refine CO (decide_eq_true U) ?_;intro x dx nx rN nex;exact k _ _ (JU nx rN) ⟨x,dx,U,b9⟩
 | re p hp gb hi=>
  refine Z U ⟨U,Z U ?_⟩;refine Fo (decide_eq_false λz=>by injection z with z;omega) ?_;refine Z U (λx dx nx rN nex=>?_);refine⟨x,dx,p,U,⟨hp,gb,hi⟩,b9,?_⟩;refine⟨U,k _ _ (λb o e=>?_) ⟨x,dx,U,b9⟩⟩;rw[l6 (j7 e nx)];exact JU nx rN b o e
def OG(T:Txt K mg t):Sp:=λvs H Q _=>∃(R:g9 Pr w K mg base),∃nm p,∃(a:Addr),∃so,So T R nm p/\vs=[.ref a,so]/\(Dr H a/\F5 H so nm p)/\∀v H' x,j9 a H H'->Dr H' a->R.is H' v x->R.B.cb 12 48 x->Q v H'
def F7(T:Txt K mg t):r8 Pr w K mg base E7 37 t.u0i t.s0c Xk (OG (w:=w) (base:=base) T):=by
 refine T.r0o.F.okA IZ λ_ _ _ _ _ _ _ _ hr h=>?_;obtain⟨R,nm,p,a,so,hS,rfl,⟨hD,rfl⟩,k⟩:=h;refine⟨_,(c5 (y8 (l8 J8 (C1 (w8 T) hr.m T.u0g (D9 (O 0) a9)) a9 (o4 _)) (c4 (c9 (C1 (AS T) hr.m T.x0j (D9 (O 1) a9)))) o8) (c5 (y8 (l8 J8 (O 1) a9 (o4 _)) (c4 (c9 (C1 (Ee T) hr.m T.w0g (D9 (l7 Aa (C1 (w8 T) hr.m T.u0g (D9 (O 0) a9)) a9) (l7 N3 a9 (C1 (w8 T) hr.m T.u0g (D9 (O 0) a9))))))) o8) (c4 (c9 (C1 (w8 T) hr.m T.u0g (D9 (O 0) (O 1))))))),?_⟩;dsimp only[z8,u7,y9,z5];refine Z U ⟨a,4,U,⟨hD,bD,bD⟩,λr0 H0 s0 d0 a0 b0=>⟨U,Z U ?_⟩⟩;refine Ep (λ_=>?_) (λ_=>?_)
 . refine Z U ⟨R,zB nm p _ 0 ⟨hS,U,⟨U,bD,bD⟩,λv H' x s' f' _ _ z _=>?_⟩⟩;exact k v H' x (s0.trans (.of s')) (d0.same s') f' (R.B.dr _ (R.S.sz_mono _ _ _ bD z))
 . cases hS with
   | fr=>
    refine Z U ⟨U,Z U ?_⟩;refine CO (decide_eq_true U) ?_;refine Z U ⟨a,9,U,⟨d0,bD,bD⟩,λr2 H2 s2 d2 a2 b2=>?_⟩;refine za ⟨U,U,Z U ⟨a,3,U,⟨d2,bD,bD⟩,λr3 H3 s3 d3 a3 b3=>?_⟩⟩;refine za ⟨U,U,za ⟨U,(show(0:Int) < 1+r3 by omega),λv H4 s4 f4=>?_⟩⟩;have e:(2:Nat) ^ 2=4:=rfl;exact k v H4 (Fr.of _ _ (show(0:Int) < 1+r3 by omega)) (((s0.trans s2).trans s3).trans (.of s4)) (d3.same s4) f4 (n0t.dr _ (UI (by rw[e];omega) (by rw[e];omega)))
   | re p hp gb hi=>
    refine Z U ⟨U,Z U ?_⟩;refine Fo (decide_eq_false λz=>by injection z with z;omega) ?_;refine vb U U ⟨a,Z U ⟨⟨d0,Y,Y⟩,λr2 H2 s2 d2 a2 b2=>?_⟩⟩;exact k _ _ ⟨r2,a2,b2⟩ (s0.trans s2) d2 rfl trivial
def Hk{α:Type}(d:α){P:Nat->α->V->Hp->Prop}{us:List V}{n:Nat}{H:Hp}(h:i3 (λi u H=>∃x,P i x u H) us n H):∃f:Nat->α,i3 (λi u H=>P i (f i) u H) us n H:=by
 have h2:∀i,∃x,i < n->∃u,us[i]? = some u/\P i x u H:=λi=>by
  by_cases hi:i < n
  . obtain⟨u,e,x,p⟩:=h.2 i hi;exact⟨x,λ_=>⟨u,e,p⟩⟩
  . exact⟨d,λz=>absurd z hi⟩
 exact⟨λi=>(h2 i).choose,h.1,λj hj=>(h2 j).choose_spec hj⟩
def Oy{α:Type}(d:α){P:Nat->α->V->Hp->Prop}{v:V}{n:Nat}{H:Hp}(h:N8 (λi u H=>∃x,P i x u H) n v H):∃f:Nat->α,N8 (λi u H=>P i (f i) u H) n v H:=by
 obtain⟨p,vs,rfl,hp,e⟩:=h;obtain⟨f,hf⟩:=Hk d e;exact⟨f,p,vs,U,hp,hf⟩
def KF{P:Nat->V->Hp->Prop}{a1d:Nat->Prop}{v:V}{n:Nat}{H:Hp}(h:N8 P n v H)(g:∀i u,P i u H->a1d i):∀i,i < n->a1d i:=λi hi=>by
 obtain⟨p,vs,rfl,hp,e⟩:=h;obtain⟨u,_,q⟩:=e.2 i hi;exact g i u q
abbrev BS(R:g9 Pr w K mg base)(b m n:Nat):V->Hp->Prop:=N8 (λ_ u H=>∃x,R.is H u x/\R.B.cb b m x) n
theorem BS.same{R:g9 Pr w K mg base}{b m n:Nat}{v:V}{H H':Hp}(s:x4 H H')(h:BS R b m n v H):BS R b m n v H':=h.mono s λ_ _ _ ⟨x,q,z⟩=>⟨x,R.same s q,z⟩
def BS.ch{R:g9 Pr w K mg base}{b m n:Nat}{v:V}{H:Hp}(h:BS R b m n v H):∃x,i0 R n x v H/\∀i,i < n->R.B.cb b m (x i):=by
 obtain⟨f,hf⟩:=Oy R.S.zero h;exact⟨f,hf.mono (x4.refl _) λ_ _ _ q=>q.1,KF hf λi u q=>q.2⟩
abbrev Ex(R:g9 Pr w K mg base)(b m n:Nat):V->Hp->Prop:=N8 (λ_ u H=>BS R b m n u H) n
theorem Ex.same{R:g9 Pr w K mg base}{b m n:Nat}{v:V}{H H':Hp}(s:x4 H H')(h:Ex R b m n v H):Ex R b m n v H':=h.mono s λ_ _ _ q=>BS.same s q
theorem Ex.ch{R:g9 Pr w K mg base}{b m n:Nat}{v:V}{H:Hp}(h:Ex R b m n v H):∃A,y7 R n n A v H/\∀i,i < n->∀j,j < n->R.B.cb b m (A i j):=by
 have h2:N8 (λ_ u H=>∃x,i0 R n x u H/\∀i,i < n->R.B.cb b m (x i)) n v H:=h.mono (x4.refl _) λ_ _ _ q=>BS.ch q;obtain⟨f,hf⟩:=Oy (λ_=>R.S.zero) h2;exact⟨f,hf.mono (x4.refl _) λ_ _ _ q=>q.1,KF hf λi u q=>q.2⟩
theorem TabsE.ch{R:g9 Pr w K mg base}{b m n k:Nat}{v:V}{H:Hp}(h:N8 (λ_ u H=>Ex R b m n u H) k v H):∃A,IC R k n A v H/\∀a,a < k->∀i,i < n->∀j,j < n->R.B.cb b m (A a i j):=by
 have h2:N8 (λ_ u H=>∃x,y7 R n n x u H/\∀i,i < n->∀j,j < n->R.B.cb b m (x i j)) k v H:=h.mono (x4.refl _) λ_ _ _ q=>Ex.ch q;obtain⟨f,hf⟩:=Oy (λ_ _=>R.S.zero) h2;exact⟨f,hf.mono (x4.refl _) λ_ _ _ q=>q.1,KF hf λi u q=>q.2⟩
structure MC(R:g9 Pr w K mg base)(b m n k:Nat)(st:Nat->R.S.W)(tb:Nat->Nat->Nat->R.S.W)(en:Nat->R.S.W):Prop where
 st:∀i,i < n->R.B.cb b m (st i)
 tb:∀a,a < k->∀i,i < n->∀j,j < n->R.B.cb b m (tb a i j)
 en:∀i,i < n->R.B.cb b m (en i)
def MC.mb{R:g9 Pr w K mg base}{b m n k μ:Nat}{st:Nat->R.S.W}{tb:Nat->Nat->Nat->R.S.W}{en:Nat->R.S.W}(h:MC R b m n k st tb en)(b0:0 < b)(b1:b<=2 ^ μ)(m1:m<=2 ^ μ):MB R.B n k μ st tb en:=
 ⟨⟨b,b0,b1,λj hj=>R.B.mono _ _ _ _ m1 (h.st j hj)⟩,λa ha=>⟨b,b0,b1,λi hi j hj=>R.B.mono _ _ _ _ m1 (h.tb a ha i hi j hj)⟩,⟨b,b0,b1,λj hj=>R.B.mono _ _ _ _ m1 (h.en j hj)⟩⟩
theorem MC.up{R:g9 Pr w K mg base}{b m n k:Nat}{st:Nat->R.S.W}{tb:Nat->Nat->Nat->R.S.W}{en:Nat->R.S.W}(c:Nat)(c0:0 < c)(h:MC R b m n k st tb en):MC R (b * c) (m * c) n k st tb en:=
 ⟨λi hi=>R.B.up _ _ c _ c0 (h.st i hi),λa ha i hi j hj=>R.B.up _ _ c _ c0 (h.tb a ha i hi j hj),λi hi=>R.B.up _ _ c _ c0 (h.en i hi)⟩
theorem MC.mono{R:g9 Pr w K mg base}{b m m' n k:Nat}{st:Nat->R.S.W}{tb:Nat->Nat->Nat->R.S.W}{en:Nat->R.S.W}(h:MC R b m n k st tb en)(e:m<=m'):MC R b m' n k st tb en:=
 ⟨λi hi=>R.B.mono _ _ _ _ e (h.st i hi),λa ha i hi j hj=>R.B.mono _ _ _ _ e (h.tb a ha i hi j hj),λi hi=>R.B.mono _ _ _ _ e (h.en i hi)⟩
def Dr.ne{H:Hp}{a p:Addr}(d:Dr H a)(n:H p=none):p≠a:=US d n
def MD(T:Txt K mg t):Sp:=λvs H Q _=>∃(R:g9 Pr w K mg base),∃nm p,∃(a:Addr),∃so l,∃(n:Nat),∃(z:Int),So T R nm p/\vs=[.ref a,so,vT l,.int z]/\(Dr H a/\F5 H so nm p/\P5 l/\n<=60/\z=n)/\∀v H' st tb en,j9 a H H'->Dr H' a->l5 R l n st tb en v H'->MC R 12 48 n l.length st tb en->Q v H'
def CB(T:Txt K mg t):r8 Pr w K mg base E7 40 t.s0k t.r0h a0f (MD (w:=w) (base:=base) T):=by
 refine T.q0z.F.okA K8 λ_ _ _ _ H _ _ _ hr h=>?_;obtain⟨R,nm,p,a,so,l,n,z,hS,rfl,⟨hD,eI,L,hn,rfl⟩,k⟩:=h;have l3:=L.h3;have z20:1000 < sizeLine:=by decide
 refine⟨_,(c8 (sT 4 K8.nd (j6 h7 bR T.z_tuple boot_tuple (x5 (Hg 8 "#1" (w5 (xs:=[BV]) U (oC n0a (a8 M3)) (C4 U T.z_range (x5 (O 3))) (gL 9 n0c) (x9 (F7 (w:=w) (base:=base) T) hr.m U T.r0o.m T.r0o.F.kp T.r0o.b .nil B4 (D9 (O 0) (O 1)))))))) (c8 (sT 5 K8.nd (D0 J1)) (c8 (C6 ar U (Pa (O 2)) (gN 6 K8.nd) (c8 (sT 7 K8.nd (D0 J1)) (c8 (C6 ar U (C4 U T.z_range (x5 (O 3))) (gN 8 K8.nd) (c4 (E8 (S3 bf bA bB F8 (O 7) (x5 (j6 h7 bR T.z_tuple boot_tuple (x5 (w5 (xs:=[GG]) U (oC n0b (a8 M3)) (C4 U T.z_range (x5 (O 3))) (p9 (i:=9) (by show List.Nodup ([X5,D5,BJ,Dp,FH,FI,KC,Bh,BV,GG]:List Str);decide +kernel) U (Or.inl U)) (x9 (F7 (w:=w) (base:=base) T) hr.m U T.r0o.m T.r0o.F.kp T.r0o.b .nil B4 (D9 (O 0) (O 1))))))))))) (c4 (E8 (S3 bf bA bB F8 (O 5) (x5 (j6 h7 bR T.z_tuple boot_tuple (x5 (O 7)))))))))) (c4 (AO 8 (c9 (C9 (Jg (O 2) (O 4) (j6 h7 bR T.z_tuple boot_tuple (x5 (O 5))) (j6 h7 bR T.z_tuple boot_tuple (x5 (Hg 8 "#1" (w5 (xs:=[BV]) U (oC n0a (a8 M3)) (C4 U T.z_range (x5 (O 3))) (gL 9 n0c) (x9 (F7 (w:=w) (base:=base) T) hr.m U T.r0o.m T.r0o.F.kp T.r0o.b .nil B4 (D9 (O 0) (O 1))))))))))))))),?_⟩;dsimp only[z8,u7,y9,z5];intro xR xE;refine⟨U,vb U U ⟨Y,Y,o6 (n:=n) (λj ys H2=>j9 a H H2/\Dr H2 a/\i3 (λ_ u H=>∃x,R.is H u x/\R.B.cb 12 48 x) ys j H2) Y ⟨j9.refl _ _,hD,i3.nil⟩ (λj ys H2 q=>q.2.2.1) ?_ ?_ ?_⟩⟩
 . rintro j ys H2 hj ⟨q,d2,e2⟩;refine JA (by omega) ?_;refine⟨⟨[some _],U,U⟩,vb U U ⟨R,zB nm p a so ⟨hS,U,⟨d2,eI.same (q.tt hD)⟩,λv H3 x s3 d3 iv cv=>?_⟩⟩⟩;exact⟨q.trans s3,d3,(e2.mono λ_ _ _ ⟨x,z1,z2⟩=>⟨x,R.same (s3.tt d2) z1,z2⟩).snoc ⟨x,iv,cv⟩⟩
 . rintro ys H2 ⟨q,d2,e2⟩;show(n:Int).toNat<=n;omega
 rintro gq H0 l0 ⟨q0,d0,e0⟩ vw;have t1:=c6 (o:=.lst gq) vw;refine⟨l0,Z U (.inl ⟨o7.of b9,λsp vo=>?_⟩)⟩;have t2:=t1.trans (c6 (o:=.tup gq) vo);have r1:BS R 12 48 n (.ref sp) (upd (upd H0 l0 (.lst gq)) sp (.tup gq)):=⟨sp,gq,U,b9,e0.mono λ_ _ _ ⟨x,z1,z2⟩=>⟨x,R.same t2.t z1,z2⟩⟩;have s1:j9 a H (upd (upd H0 l0 (.lst gq)) sp (.tup gq)):=q0.trans (.of t2);have d1:=d0.same t2;clear t1 t2 vw vo;revert r1 s1 d1;generalize upd (upd H0 l0 (.lst gq)) sp (.tup gq)=H1;intro r1 s1 d1;subst xE;intro xR xE;refine⟨aY _,λtp mT=>?_⟩;have s2:=c6 (o:=.lst []) mT;have k2:=b9 (H:=H1) (a:=tp) (o:=.lst []);have d2:=d1.same s2;have na:tp≠a:=d1.ne mT;revert s2 k2 d2;generalize upd H1 tp (.lst [])=H2;intro s2 k2 d2;subst xE;intro xR xE;refine vb U U ⟨L.asc,Ik (n:=l.length) (λi σ H3=>∃v6 v7 v8 ys,σ=[sr a,some so,some (vT l),some (.int n),sr sp,sr tp,v6,v7,v8]/\j9 a H1 H3/\Dr H3 a/\H3 tp=some (.lst ys)/\
  i3 (λ_ u H=>Ex R 12 48 n u H) ys i H3) ⟨_,_,_,[],U,.of s2,d2,k2,i3.nil⟩ ?_ ?_⟩
 . rintro i σ H3 hi ⟨v6,v7,v8,ys,rfl,s3,d3,k3,e3⟩;refine⟨(by show i < l.toArray.size;simpa using hi),λy G3 hy=>?_⟩;obtain⟨rfl,c,hc,rfl⟩:=hy;intro xR xE;refine⟨aY _,λbp lY=>?_⟩;have s4:=c6 (o:=.lst []) lY;have k4:=b9 (H:=G3) (a:=bp) (o:=.lst []);have d4:=d3.same s4;have nb:bp≠a:=d3.ne lY;have nt:tp≠bp:=λz=>by rw[z,lY]at k3;cases k3
   revert s4 k4 d4;generalize upd G3 bp (.lst [])=H4;intro s4 k4 d4;subst xE;intro xR xE;refine vb U U ⟨Y,Y,Ik (n:=n) (λj σ H5=>∃v8 zs,σ=[sr a,some so,some (vT l),some (.int n),sr sp,sr tp,some (.str ⟨#[c]⟩),sr bp,v8]/\j9 a G3 H5/\Dr H5 a/\H5 bp=some (.lst zs)/\
    i3 (λ_ u H=>BS R 12 48 n u H) zs j H5) ⟨_,[],U,.of s4,d4,k4,i3.nil⟩ ?_ ?_⟩
   . rintro j σ H5 hj ⟨v8,zs,rfl,s5,d5,k5,e5⟩;refine⟨(show j < (n:Int).toNat by omega),λy G5 hy=>?_⟩;obtain⟨rfl,rfl⟩:=hy;refine Z U ⟨.inl ⟨U,_,o7.of k5⟩,?_⟩;refine vb U U ⟨Y,Y,o6 (n:=n) (λj ys H2=>j9 a G5 H2/\Dr H2 a/\i3 (λ_ u H=>∃x,R.is H u x/\R.B.cb 12 48 x) ys j H2) Y ⟨j9.refl _ _,d5,i3.nil⟩ (λj ys H2 q=>q.2.2.1) ?_ ?_ ?_⟩
     . rintro j' fj H2 hj' ⟨q,d2,e2⟩;refine JA (by omega) ?_;have u1:=((((s1.trans s3).trans s5).trans q).tt hD);refine⟨⟨[some _],U,U⟩,vb U U ⟨R,zB nm p a so ⟨hS,U,⟨d2,eI.same u1⟩,λv H3 x s3 d3 iv cv=>?_⟩⟩⟩;exact⟨q.trans s3,d3,(e2.mono λ_ _ _ ⟨x,z1,z2⟩=>⟨x,R.same (s3.tt d2) z1,z2⟩).snoc ⟨x,iv,cv⟩⟩
     . rintro fj H2 ⟨q,d2,e2⟩;show(n:Int).toNat<=n;omega
     . rintro fj H6 lp ⟨s6,d6,e6⟩ nl;have t1:=c6 (o:=.lst fj) nl;refine⟨lp,Z U (.inl ⟨o7.of b9,λl2 n2=>?_⟩)⟩;have t2:=c6 (o:=.tup fj) n2;have gK:=t1.trans t2;have k6:=gK _ _ (s6 bp _ nb k5);have sN:BS R 12 48 n (.ref l2) (upd (upd H6 lp (.lst fj)) l2 (.tup fj)):=⟨l2,fj,U,b9,e6.mono λ_ _ _ ⟨x,z1,z2⟩=>⟨x,R.same gK.t z1,z2⟩⟩;have uK:=d6.same gK;have jS:j9 a G5 (upd (upd H6 lp (.lst fj)) l2 (.tup fj)):=s6.trans (.of gK);clear t1 t2 gK nl n2;revert k6 sN uK jS;generalize upd (upd H6 lp (.lst fj)) l2 (.tup fj)=H7;intro k6 sN uK jS;refine⟨bp,zs,Z U ⟨U,k6,(by rw[e5.1];omega),?_⟩⟩;have nx:=y6 (o:=.lst (zs++[.ref l2])) k6;refine⟨_,zs++[.ref l2],U,λc' o nc iA=>?_,?_,b9,(e5.mono λ_ _ _ h=>BS.same nx (BS.same (jS.tt d5) h)).snoc (BS.same nx sN)⟩
       . rw[l6 (j7 iA lY)];exact jS c' o nc (s5 c' o nc iA)
       . exact uK.put nb
   . rintro σ H5 ⟨v8,zs,rfl,s5,d5,k5,e5⟩;refine⟨(by show(n:Int).toNat<=n;omega),?_⟩;have vD:=s5 tp _ na k3;subst xE;refine Z U ⟨.inl ⟨U,_,o7.of vD⟩,Z U ⟨bp,zs,U,.inl ⟨o7.of k5,λl2 n2=>?_⟩⟩⟩;have t2:=c6 (o:=.tup zs) n2;have k6:=t2 _ _ vD;have sH:Ex R 12 48 n (.ref l2) (upd H5 l2 (.tup zs)):=⟨l2,zs,U,b9,e5.mono λ_ _ _ q=>BS.same t2.t q⟩;have d6:=d5.same t2;have s6:j9 a G3 (upd H5 l2 (.tup zs)):=s5.trans (.of t2);clear t2 n2;revert k6 sH d6 s6;generalize upd H5 l2 (.tup zs)=H7;intro k6 sH d6 s6;refine⟨tp,ys,Z U ⟨U,k6,(by rw[e3.1];omega),?_⟩⟩;have nx:=y6 (o:=.lst (ys++[.ref l2])) k6;refine zd ⟨ys++[.ref l2],U,λc' o nc iA=>?_,?_,b9,(e3.mono λ_ _ _ h=>Ex.same nx (Ex.same (s6.tt d3) h)).snoc (Ex.same nx sH)⟩
     . rw[l6 (j7 iA mT)];exact s6 c' o nc (s3 c' o nc iA)
     . exact d6.put na
 . rintro σ H3 ⟨v6,v7,v8,ys,rfl,s3,d3,k3,e3⟩;refine⟨(by show l.toArray.size<=_;simp),?_⟩;subst xE;refine vc U U U ⟨tp,ys,U,.inl ⟨o7.of k3,λl2 n2=>?_⟩⟩;have t1:=c6 (o:=.tup ys) n2;have ht:N8 (λ_ u H=>Ex R 12 48 n u H) l.length (.ref l2) (upd H3 l2 (.tup ys)):=⟨l2,ys,U,b9,e3.mono λ_ _ _ q=>Ex.same t1.t q⟩;have d4:=d3.same t1;have s4:j9 a H1 (upd H3 l2 (.tup ys)):=s3.trans (.of t1);clear t1 n2;revert ht d4 s4;generalize upd H3 l2 (.tup ys)=H4;intro ht d4 s4;refine⟨U,vb U U ⟨Y,Y,o6 (n:=n) (λj ys H2=>j9 a H4 H2/\Dr H2 a/\i3 (λ_ u H=>∃x,R.is H u x/\R.B.cb 12 48 x) ys j H2) Y ⟨j9.refl _ _,d4,i3.nil⟩ (λj ys H2 q=>q.2.2.1) ?_ ?_ ?_⟩⟩
   . rintro j' fj H2 hj' ⟨q,d2,e2⟩;refine JA (by omega) ?_;refine⟨⟨[some _],U,U⟩,vb U U ⟨R,zB nm p a so ⟨hS,U,⟨d2,eI.same (((s1.trans s4).trans q).tt hD)⟩,λv H3 x s3 d3 iv cv=>?_⟩⟩⟩;exact⟨q.trans s3,d3,(e2.mono λ_ _ _ ⟨x,z1,z2⟩=>⟨x,R.same (s3.tt d2) z1,z2⟩).snoc ⟨x,iv,cv⟩⟩
   . rintro fj H2 ⟨q,d2,e2⟩;show(n:Int).toNat<=n;omega
   . rintro fj H5 lp ⟨s5,d5,e5⟩ nl;have t1:=c6 (o:=.lst fj) nl;refine⟨lp,Z U (.inl ⟨o7.of b9,λl3 n3=>?_⟩)⟩;have t2:=t1.trans (c6 (o:=.tup fj) n3);have re:BS R 12 48 n (.ref l3) (upd (upd H5 lp (.lst fj)) l3 (.tup fj)):=⟨l3,fj,U,b9,e5.mono λ_ _ _ ⟨x,z1,z2⟩=>⟨x,R.same t2.t z1,z2⟩⟩;refine⟨sL,λp6 n6=>?_⟩;have t7:=c6 (o:=.tup [vT l,.ref sp,.ref l2,.ref l3]) n6;have t6:=t2.trans t7;have u5:x4 H4 _:=(s5.tt d4).trans t6.t;obtain⟨st,q1,c1⟩:=BS.ch ((r1.same (s4.tt d1)).same u5);obtain⟨en,q3,c3⟩:=BS.ch (re.same t7.t);obtain⟨tb,q2,c2⟩:=TabsE.ch (ht.mono u5 λ_ _ _ q=>Ex.same u5 q);exact k _ _ st tb en (((s1.trans s4).trans s5).trans (.of t6)) (d5.same t6) ⟨p6,_,_,Z U ⟨b9,q1,q2,q3⟩⟩ ⟨c1,c2,c3⟩
theorem BX{S:SR}(f:Nat->S.W)(n:Nat):∀m,sm S f (n+m)=S.add (sm S f n) (sm S (λi=>f (n+i)) m)
 | 0=>(S.add_zero _).symm
 | m+1=>by
  show S.add (sm S f (n+m)) (f (n+m))=_;rw[BX f n m,S.add_assoc];rfl
theorem ON{S:SR}{F:S7 S}(f:Nat->S.W):∀m,sm S (λi=>F.neg (f i)) m=F.neg (sm S f m)
 | 0=>(XE (F:=F)).symm
 | m+1=>by
  show S.add (sm S (λi=>F.neg (f i)) m) (F.neg (f m))=F.neg (S.add (sm S f m) (f m));rw[ON f m,XF]
section
variable{S:SR}{F:S7 S}{l:List Nat}{n n':Nat}{st dY:Nat->S.W}{tb bY:Nat->Nat->Nat->S.W}{en ed:Nat->S.W}
def Hm:∀u,AL l u->∀j,j < n+n'->j5 S (n+n') (X3 n st dY) (w4 l (X2 n tb bY)) u j=W9 S n (j5 S n st (w4 l tb) u) (j5 S n' dY (w4 l bY) u) j:=by
 refine(Ml (l:=l)).ind _ (λj _=>rfl) λc u hc hu ih j hj=>?_;rw[B8,B8,B8];show sm S (λi=>S.mul (j5 S (n+n') (X3 n st dY) (w4 l (X2 n tb bY)) u i) (IB S n (tb (l.idxOf c)) (bY (l.idxOf c)) i j)) (n+n')=_;rw[BX];have b1:∀i,i < n->IB S n (tb (l.idxOf c)) (bY (l.idxOf c)) i=W9 S n (tb (l.idxOf c) i) λ_=>S.zero:=λi hi=>if_pos hi;have b2:∀i,IB S n (tb (l.idxOf c)) (bY (l.idxOf c)) (n+i)=W9 S n (λ_=>S.zero) (bY (l.idxOf c) i):=λi=>by
  unfold IB;rw[if_neg Y,cS]
 by_cases z:j < n
 . rw[N5 z,j0 (f:=λi=>S.mul (j5 S (n+n') (X3 n st dY) (w4 l (X2 n tb bY)) u (n+i)) (IB S n (tb (l.idxOf c)) (bY (l.idxOf c)) (n+i) j)) (g:=λ_=>S.zero) λi hi=>by rw[b2,N5 z,S.mul_zero],D8,S.add_zero];exact j0 λi hi=>by rw[ih i Y,N5 hi,b1 i hi,N5 z];rfl
 . obtain⟨q,rfl⟩:∃q,j=n+q:=⟨j - n,Y⟩;rw[P7,j0 (f:=λi=>S.mul (j5 S (n+n') (X3 n st dY) (w4 l (X2 n tb bY)) u i) (IB S n (tb (l.idxOf c)) (bY (l.idxOf c)) i (n+q))) (g:=λ_=>S.zero) λi hi=>by rw[b1 i hi,P7,S.mul_zero],D8,JD];exact j0 λi hi=>by rw[ih (n+i) Y,P7,b2,P7];rfl
def XM(u:List Nat)(hu:AL l u):K7 S l (n+n') (X3 n st dY) (X2 n tb bY) (Di F n en ed) u=S.add (K7 S l n st tb en u) (F.neg (K7 S l n' dY bY ed u)):=by
 show sm S _ (n+n')=_;rw[BX];congr 1
 . exact j0 λi hi=>by rw[Hm u hu i Y,N5 hi,show Di F n en ed i=en i from N5 hi]
 . rw[j0 (g:=λi=>F.neg (S.mul (j5 S n' dY (w4 l bY) u i) (ed i))) λi hi=>by rw[Hm u hu (n+i) Y,P7,show Di F n en ed (n+i)=F.neg (ed i)from P7,SH],ON];rfl
def Ir(u:List Nat)(hu:AL l u):K7 S l (n+n') (X3 n st dY) (X2 n tb bY) (Di F n en ed) u=S.zero↔K7 S l n st tb en u=K7 S l n' dY bY ed u:=by
 rw[XM u hu];exact⟨λh=>n0x (F:=F) h,λh=>by rw[h,F.add_neg]⟩
end
def MC.both{R:g9 Pr w K mg base}{b m n n' k:Nat}{st:Nat->R.S.W}{tb:Nat->Nat->Nat->R.S.W}{en:Nat->R.S.W}{dY:Nat->R.S.W}{bY:Nat->Nat->Nat->R.S.W}{ed:Nat->R.S.W}(b0:0 < b)(h:MC R b m n k st tb en)(h':MC R b m n' k dY bY ed):MC R b m (n+n') k (X3 n st dY) (X2 n tb bY) (Di R.F n en ed):=by
 have z0:R.B.cb b m R.S.zero:=R.B.mono _ _ _ _ (aY _) (R.B.zero b b0);refine⟨λi hi=>?_,λa ha i hi j hj=>?_,λi hi=>?_⟩
 . show R.B.cb b m (W9 R.S n st dY i);unfold W9;split
   . exact h.st i (by assumption)
   . exact h'.st _ Y
 . show R.B.cb b m (IB R.S n (tb a) (bY a) i j);unfold IB W9;split
   . (try dsimp only)
     split
     . exact h.tb a ha i (by assumption) j (by assumption)
     . exact z0
   . (try dsimp only)
     split
     . exact z0
     . exact h'.tb a ha _ Y _ Y
 . show R.B.cb b m (W9 R.S n en (λi=>R.F.neg (ed i)) i);unfold W9;split
   . exact h.en i (by assumption)
   . exact R.B.neg _ _ _ _ (R.F.add_neg _) (h'.en _ Y)
section
variable{S:SR}{F:S7 S}{l:List Nat}{n:Nat}{st:Nat->S.W}{tb:Nat->Nat->Nat->S.W}{en:Nat->S.W}{es:List (Nat × (Nat->S.W))}
structure PpW(S:SR)(k n:Nat)(st:Nat->S.W)(tb:Nat->Nat->Nat->S.W)(en:Nat->S.W)(es:List (Nat × (Nat->S.W)))(c:Nat->S.W)(D:Nat->Nat->Nat->S.W):Prop where
 fst:∀j,j < n->st j=C0 S c (λi=>kv es i j) es.length
 stp:∀a,a < k->∀i,i < es.length->∀j,j < n->FZ S n (tb a) (kv es i) j=C0 S (D a i) (λq=>kv es q j) es.length
 nul:∀i,i < es.length->C0 S (kv es i) en n=S.zero
def Zy(nd:l.Nodup)(E:L5 F n ((Ae F n (j5 S n st (w4 l tb)) (gP l (K7 S l n st tb en))).map (j5 S n st (w4 l tb))) es)(h:He (K7 S l n st tb en) (Ae F n (j5 S n st (w4 l tb)) (gP l (K7 S l n st tb en)))=[]):PpW S l.length n st tb en es (Xf es st) (GL n es tb):=by
 have h:=ET.mp h;have e:=Hj (F:=F) (l:=l) (n:=n) (ρ:=j5 S n st (w4 l tb)) (D:=K7 S l n st tb en) (n+1) h;have e2:Ae F n (j5 S n st (w4 l tb)) (gP l (K7 S l n st tb en))=Ae F n (j5 S n st (w4 l tb)) (gB l):=congrArg Yw.told e;rw[e2]at h E;have N:=HY E;refine⟨λj hj=>N.ech.parts (N.all [] λd hd=>nomatch hd) j hj,λa ha i hi j hj=>?_,λi hi=>?_⟩
 . obtain⟨c,hc,iz⟩:∃c,l.idxOf c=a/\c∈l:=⟨l[a],nd.idxOf_getElem a ha,aJ ha⟩;have:=N.ech.parts (N.stp i hi c iz) j hj;unfold w4 at this;rw[hc]at this;exact this
 . refine Fx ((E.span).2 i hi) λk hk=>?_;rw[af]at hk;rw[Fw [] hk];exact h _ (Mine.K0 hk)
end
theorem VR{S:SR}{F:S7 S}{p:Nat}:∀{ks:List (Nat × (Nat->S.W))} {r:Nat->S.W},(∀k∈ks,∀j,j < k.1->k.2 j=S.zero)->(∀j,j < p->r j=S.zero)->∀j,j < p->clr F ks r j=S.zero
 | [],_,_,h=>h
 | k::ks,r,hk,h=>by
  rw[P2];refine VR (λq hq=>hk q (aC _ hq)) λj hj=>?_;show S.add (r j) (S.mul (F.neg (r k.1)) (k.2 j))=S.zero;by_cases e:k.1 < p
  . rw[h j hj,h k.1 e,XE,AZ,S.add_zero]
  . rw[h j hj,hk k (aF ..) j Y,S.mul_zero,S.add_zero]
def a0n{S:SR}{F:S7 S}{w:Nat}(rs:List (Nat->S.W)):∀k∈kpL F w rs,∀j,j < k.1->k.2 j=S.zero:=(CZ (F:=F) (w:=w) (λ_ ks=>∀k∈ks,∀j,j < k.1->k.2 j=S.zero) (by simp) (λrs ks r K M k hk j hj=>by
 unfold AV at hk;split at hk
 . exact M k hk j hj
 . split at hk
   . exact M k hk j hj
   . rename_i p e;rcases aH.mp hk with hk | hk
     . exact M k hk j hj
     . rw[ax.mp hk]at hj ⊢;show S.mul _ (clr F ks r j)=S.zero;rw[(M4 e).2.2 j hj,S.mul_zero]) rs).2
def XJ{S:SR}{F:S7 S}{ks:List (Nat × (Nat->S.W))}(h:∀k∈ks,∀j,j < k.1->k.2 j=S.zero):∀k∈JG F ks,∀j,j < k.1->k.2 j=S.zero:=by
 have fc:∀(qs told:List (Nat × (Nat->S.W))),(∀k∈qs,∀j,j < k.1->k.2 j=S.zero)->(∀k∈told,∀j,j < k.1->k.2 j=S.zero)->∀k∈qs.foldl (λtold k=>told++[(k.1,clr F told k.2)]) told,∀j,j < k.1->k.2 j=S.zero:=by
  intro qs
  induction qs with
  | nil=>intro told _ ht;exact ht
  | cons q qs ih=>
   intro told hq ht;refine ih _ (λk hk=>hq k (aC _ hk)) λk hk j hj=>?_;rcases aH.mp hk with hk | hk
   . exact ht k hk j hj
   . rw[ax.mp hk]at hj ⊢;exact VR ht (hq q (aF ..)) j hj
 exact fc _ _ (λk hk=>h k (List.mem_reverse.mp hk)) λk hk=>nomatch hk
def L5.ld{S:SR}{F:S7 S}{n:Nat}{rs:List (Nat->S.W)}{es:List (Nat × (Nat->S.W))}(E:L5 F n rs es):∀k∈es,∀j,j < k.1->k.2 j=S.zero:=λk hk=>XJ (a0n rs) k (E.pm.mem_iff.mp hk)
section
variable{S:SR}{F:S7 S}{l:List Nat}{n:Nat}{st dY:Nat->S.W}{tb bY:Nat->Nat->Nat->S.W}{en ed:Nat->S.W}{es:List (Nat × (Nat->S.W))}
noncomputable def hW(F:S7 S)(l:List Nat)(n:Nat)(es:List (Nat × (Nat->S.W)))(st:Nat->S.W)(tb:Nat->Nat->Nat->S.W):List (List Nat):=Ae F es.length (Xg l n es st tb) (gB l)
def n0p{u:List Nat}(le:es.length<=n)(h:u∈hW F l n es st tb):u.length<=n - 1/\AL l u:=by
 obtain⟨a,b⟩:=V1 AX h;exact⟨Y,b⟩
def n0o(N:Ks F l n en (DB tb) es){c:Nat->S.W}(h:∀v,AL l v->v.length<=n - 1->sm S (λk=>S.mul (c k) (K7 S l n st tb en ((hW F l n es st tb).getD k []++v))) (hW F l n es st tb).length=S.zero):∀k,k < (hW F l n es st tb).length->c k=S.zero:=
 b0e (F:=F) c (N.back (λu hu=>(V1 AX hu).2) h)
def hd_S(N:Ks F l n en (DB tb) es){u:List Nat}(hu:AL l u):∃c:Nat->S.W,∀v,AL l v->K7 S l n st tb en (u++v)=sm S (λk=>S.mul (c k) (K7 S l n st tb en ((hW F l n es st tb).getD k []++v))) (hW F l n es st tb).length:=by
 obtain⟨c,hc⟩:=PV (F:=F) (w:=es.length) (ρ:=Xg l n es st tb) (L:=λc=>FZ S es.length (w4 l (DB (GL n es (DB tb))) c)) (Ml (l:=l)) (λc _=>Ic) (λc u _ j _=>by show j5 S _ _ _ (u++[c]) j=_;rw[B8]) u hu;exact⟨c,λv hv=>N.spread (λu hu=>(V1 AX hu).2) hu hc hv⟩
noncomputable def GU(S:SR)(l:List Nat)(n:Nat)(st:Nat->S.W)(tb:Nat->Nat->Nat->S.W)(en:Nat->S.W)(u:List Nat):Nat->S.W:=λj=>K7 S l n st tb en (u++(E3 l (n - 1)).getD j [])
noncomputable def QY(F:S7 S)(l:List Nat)(n:Nat)(st:Nat->S.W)(tb:Nat->Nat->Nat->S.W)(en:Nat->S.W):Nat:=(kpL F (E3 l (n - 1)).length ((E3 l (n - 1)).map (GU S l n st tb en))).length
def LM{α:Type}{ws:List α}{v d:α}{j:Nat}(hj:j < ws.length)(e:ws[j]=v):ws.getD j d=v:=by rw[aR,ah hj,e];rfl
def Um(N:Ks F l n en (DB tb) es)(le:es.length<=n):QY F l n st tb en=(hW F l n es st tb).length:=by
 refine Da (vs:=λk=>GU S l n st tb en ((hW F l n es st tb).getD k [])) _ (λr hr=>?_) (λc h=>n0o N λv hv vn=>?_) (λi hi=>?_)
 . obtain⟨u,hu,rfl⟩:=aw.mp hr;obtain⟨c,hc⟩:=hd_S (st:=st) N (X7 _ _ hu).2;exact⟨c,λj hj=>hc _ (X7 _ _ (QZ hj)).2⟩
 . obtain⟨j,hj,e⟩:=dC (ED (n - 1) v vn hv);have:sm S (λk=>S.mul (c k) (K7 S l n st tb en ((hW F l n es st tb).getD k []++(E3 l (n - 1)).getD j []))) (hW F l n es st tb).length=S.zero:=h j hj;rw[LM hj e]at this;exact this
 . obtain⟨a,b⟩:=n0p (F:=F) (st:=st) (tb:=tb) le (Mine.K0 hi);exact⟨_,aw.mpr ⟨_,ED (n - 1) _ a b,U⟩,λj _=>rfl⟩
def VB{vs:Nat->Nat->S.W}(F:S7 S)(I:Qr S n n vs)(x:Nat->S.W):M8 S n n vs x:=by
 have hl:(kpL F n ((List.range n).map vs)).length=n:=Da _ (λr hr=>by
  obtain⟨i,hi,rfl⟩:=aw.mp hr;exact M8.gen (aN.mp hi)) I λi hi=>⟨_,aw.mpr ⟨i,aN.mpr hi,U⟩,λ_ _=>rfl⟩
 have sp:∀k∈kpL F n ((List.range n).map vs),M8 S n n vs k.2:=Fm _ λr hr=>by
  obtain⟨i,hi,rfl⟩:=aw.mp hr;exact M8.gen (aN.mp hi)
 have z:=Kp.full (F:=F) (u:=x) (W8 (F:=F) ((List.range n).map vs)) hl;refine((Bd (F:=F) (u:=x) sp).mul (F.neg S.one)).congr λj hj=>?_;rw[z j hj,JD,JF,JE,VF]
end
def a0y{n:Nat}{f:Nat->Nat}(lt:∀i,i < n->f i < n)(mo:∀i j,i < j->j < n->f i < f j):∀i,i < n->f i=i:=by
 have lo:∀i,i < n->i<=f i:=λi=>by
  induction i with
  | zero=>intro _;omega
  | succ i ih=>intro h;have:=mo i (i+1) Y h;have:=ih Y;omega
 have up:∀k i,i+k+1=n->f i<=i:=λk=>by
  induction k with
  | zero=>intro i h;have:=lt i Y;omega
  | succ k ih=>intro i h;have:=mo i (i+1) Y Y;have:=ih (i+1) Y;omega
 exact λi hi=>Nat.le_antisymm (up (n - 1 - i) i Y) (lo i hi)
section
variable{S:SR}{F:S7 S}{l:List Nat}{n:Nat}{st dY:Nat->S.W}{tb bY:Nat->Nat->Nat->S.W}{en ed:Nat->S.W}{es jM:List (Nat × (Nat->S.W))}
def a0x(F:S7 S){w m:Nat}{us:Nat->Nat->S.W}(h:Qr S w m us):m<=w:=AG F (vs:=λi k=>if k=i then S.one else S.zero) h λi _=>⟨us i,λj hj=>by
 unfold lin;rw[P9 (i:=j) hj λk hk ne=>by dsimp only;rw[if_neg (λz=>ne z.symm),S.mul_zero]];dsimp only;rw[if_pos U,S.mul_one]⟩
def VM(F:S7 S)(n:Nat)(rs:List (Nat->S.W)):∃es,L5 F n rs es:=⟨(JG F (kpL F (if rs.length=0 then 0 else n) rs)).mergeSort λp q=>decide (p.1<=q.1),List.mergeSort_perm _ _,(List.pairwise_mergeSort (le:=λ(p q:Nat × (Nat->S.W))=>decide (p.1<=q.1)) (λa b c h g=>decide_eq_true (ag (of_decide_eq_true h) (of_decide_eq_true g))) (λa b=>by rcases Nat.le_total a.1 b.1 with h | h <;>simp[h]) _).imp λh=>of_decide_eq_true h⟩
def UK(N:Ks F l n en (DB tb) es)(he:es.length=n){x:Nat->S.W}(h:∀v,AL l v->C0 S x (P3 S n (w4 l tb) en v) n=S.zero):∀j,j < n->x j=S.zero:=λj hj=>by
 have h1:∀i,i < es.length->C0 S (kv es i) x n=S.zero:=λi hi=>Fx (N.few i hi) λk hk=>by
  have e:AD ((E3 l (n - 1)).map (j5 S n en (w4 l (DB tb)))) k=j5 S n en (w4 l (DB tb)) (E3 l (n - 1))[k]:=Gm (by rw[aE,ah hk];rfl);rw[e,a0j,Ba];exact h _ (Qm (X7 _ _ (aJ hk)).2)
 have I:Qr S n n (kv es):=by have:=N.ech.Kp.ind;rwa [he]at this
 have h2:=Fx (y:=x) (VB F I λk=>if k=j then S.one else S.zero) λk hk=>h1 k Y;unfold C0 at h2;rw[P9 (i:=j) hj λk hk ne=>by dsimp only;rw[if_neg ne,AZ]]at h2;dsimp only at h2;rw[if_pos U,JE]at h2;exact h2
def QX(N:Ks F l n en (DB tb) es)(le:es.length<=n)(h:(hW F l n es st tb).length=n):es.length=n:=by
 have:(hW F l n es st tb).length<=es.length:=by
  show(x6 F es.length _ (gB l) (es.length+1)).told.length<=_;rw[Dc];exact(O8 _).len
 omega
structure VV(S:SR)(k n:Nat)(st:Nat->S.W)(tb:Nat->Nat->Nat->S.W)(en:Nat->S.W)(dY:Nat->S.W)(bY:Nat->Nat->Nat->S.W)(ed:Nat->S.W)(A:Nat->Nat->S.W):Prop where
 fst:∀j,j < n->FZ S n A st j=dY j
 stp:∀a,a < k->∀i,i < n->∀j,j < n->FZ S n A (tb a i) j=FZ S n (bY a) (A i) j
 lst:∀i,i < n->C0 S (A i) ed n=en i
 ind:Qr S n n A
def Qv(kA:∀u,AL l u->K7 S l n st tb en u=K7 S l n dY bY ed u){ws:List (List Nat)}(hw:∀u∈ws,AL l u){x:Nat->S.W}(hx:M8 S (n+n) ws.length (AD (ws.map (j5 S (n+n) (X3 n st dY) (w4 l (X2 n tb bY))))) x){v:List Nat}(hv:AL l v):C0 S x (P3 S n (w4 l tb) en v) n=C0 S (λj=>x (n+j)) (P3 S n (w4 l bY) ed v) n:=by
 obtain⟨c,hc⟩:=hx;have fk:∀k,k < ws.length->AL l (ws.getD k [])/\∀j,j < n+n->AD (ws.map (j5 S (n+n) (X3 n st dY) (w4 l (X2 n tb bY)))) k j=W9 S n (j5 S n st (w4 l tb) (ws.getD k [])) (j5 S n dY (w4 l bY) (ws.getD k [])) j:=λk hk=>by
  have ha:=hw _ (Mine.K0 hk);have e:AD (ws.map (j5 S (n+n) (X3 n st dY) (w4 l (X2 n tb bY)))) k=j5 S (n+n) (X3 n st dY) (w4 l (X2 n tb bY)) (ws.getD k []):=by rw[Gm (r:=j5 S (n+n) (X3 n st dY) (w4 l (X2 n tb bY)) ws[k]) (by rw[aE,ah hk];rfl),LM hk rfl]
  exact⟨ha,λj hj=>by rw[e,Hm _ ha j hj]⟩
 rw[F9 (x':=lin S c (AD (ws.map (j5 S (n+n) (X3 n st dY) (w4 l (X2 n tb bY))))) ws.length) λj hj=>hc j Y,V5];rw[F9 (x:=λj=>x (n+j)) (x':=lin S c (λk j=>AD (ws.map (j5 S (n+n) (X3 n st dY) (w4 l (X2 n tb bY)))) k (n+j)) ws.length) λj hj=>hc (n+j) Y,V5];refine j0 λk hk=>?_;obtain⟨ha,hj⟩:=fk k hk;rw[F9 (x':=j5 S n st (w4 l tb) (ws.getD k [])) λj h=>by rw[hj j Y,N5 h],F9 (x:=λj=>AD (ws.map (j5 S (n+n) (X3 n st dY) (w4 l (X2 n tb bY)))) k (n+j)) (x':=j5 S n dY (w4 l bY) (ws.getD k [])) λj h=>by rw[hj (n+j) Y,P7],<- Qg,<- Qg];have:=kA _ (Qn ha hv);unfold K7 at this;rw[this]
def Wq(nd:l.Nodup)(E:L5 F (n+n) ((NW F l (n+n) (X3 n st dY) (X2 n tb bY) (Di F n en ed)).map (j5 S (n+n) (X3 n st dY) (w4 l (X2 n tb bY)))) es)(h:He (K7 S l (n+n) (X3 n st dY) (X2 n tb bY) (Di F n en ed)) (NW F l (n+n) (X3 n st dY) (X2 n tb bY) (Di F n en ed))=[])(hr:QY F l n st tb en=n)(gv:QY F l n dY bY ed=n):es.length=n/\VV S l.length n st tb en dY bY ed λi j=>kv es i (n+j):=by
 have kA:∀u,AL l u->K7 S l n st tb en u=K7 S l n dY bY ed u:=λu hu=>(Ir (F:=F) u hu).mp (Rc h u hu);have P:=Zy nd E h;obtain⟨e1,E1⟩:=VM F n ((Ae F n (j5 S n en (w4 l (DB tb))) (gB l)).map (j5 S n en (w4 l (DB tb))));obtain⟨e2,E2⟩:=VM F n ((Ae F n (j5 S n ed (w4 l (DB bY))) (gB l)).map (j5 S n ed (w4 l (DB bY))));have N1:=HY E1;have N2:=HY E2;rw[Um N1 E1.le]at hr;rw[Um N2 E2.le]at gv;have O1:=λx=>UK (x:=x) N1 (QX N1 E1.le hr);have O2:=λx=>UK (x:=x) N2 (QX N2 E2.le gv);have wy:∀u∈NW F l (n+n) (X3 n st dY) (X2 n tb bY) (Di F n en ed),AL l u:=λu hu=>(V1 Kh hu).2;have sE:∀c,M8 S (n+n) (NW F l (n+n) (X3 n st dY) (X2 n tb bY) (Di F n en ed)).length (AD ((NW F l (n+n) (X3 n st dY) (X2 n tb bY) (Di F n en ed)).map (j5 S (n+n) (X3 n st dY) (w4 l (X2 n tb bY))))) (lin S c (kv es) es.length):=λc=>M8.lin λi hi=>by
  have:=E.span.2 i hi;rwa [af]at this
 have toR:∀c,(∀j,j < n->lin S c (kv es) es.length j=S.zero)->∀j,j < n->lin S c (kv es) es.length (n+j)=S.zero:=λc hz=>O2 (λj=>lin S c (kv es) es.length (n+j)) λv hv=>by
  rw[<- Qv kA wy (sE c) hv,F9 hz];exact(j0 λi _=>AZ _).trans (D8 _)
 have toL:∀c,(∀j,j < n->lin S c (kv es) es.length (n+j)=S.zero)->∀j,j < n->lin S c (kv es) es.length j=S.zero:=λc hz=>O1 (lin S c (kv es) es.length) λv hv=>by
  rw[Qv kA wy (sE c) hv,F9 hz];exact(j0 λi _=>AZ _).trans (D8 _)
 have zz:∀c,(∀j,j < n->lin S c (kv es) es.length j=S.zero)->(∀j,j < n->lin S c (kv es) es.length (n+j)=S.zero)->∀k,k < es.length->c k=S.zero:=λc h1 h2=>E.ech.Kp.ind c λj hj=>by
  by_cases z:j < n
  . exact h1 j z
  . have:=h2 (j - n) Y;rwa [show n+(j - n)=j by omega]at this
 have I1:Qr S n es.length (kv es):=λc hc=>zz c hc (toR c hc);have le:=a0x F I1;have ge:n<=es.length:=by
  have fs:=Hj (F:=F) (l:=l) (n:=n+n) (ρ:=j5 S (n+n) (X3 n st dY) (w4 l (X2 n tb bY))) (D:=K7 S l (n+n) (X3 n st dY) (X2 n tb bY) (Di F n en ed)) (n+n+1) (ET.mp h);have ko:NW F l (n+n) (X3 n st dY) (X2 n tb bY) (Di F n en ed)=Ae F (n+n) (j5 S (n+n) (X3 n st dY) (w4 l (X2 n tb bY))) (gB l):=congrArg Yw.told fs;rw[ko]at E;have NJ:=HY E;have:=AG F (w:=n+n) (m:=(hW F l n e1 st tb).length) (us:=λk=>j5 S (n+n) (X3 n st dY) (w4 l (X2 n tb bY)) ((hW F l n e1 st tb).getD k [])) (n:=es.length) (vs:=kv es) (λc hc=>n0o N1 λv hv _=>?_) λk hk=>NJ.all _ (V1 AX (Mine.K0 hk)).2
  . omega
  . have hd:C0 S (lin S c (λk=>j5 S (n+n) (X3 n st dY) (w4 l (X2 n tb bY)) ((hW F l n e1 st tb).getD k [])) (hW F l n e1 st tb).length) (P3 S n (w4 l tb) en v) n=S.zero:=by
     rw[F9 λj hj=>hc j Y];exact(j0 λi _=>AZ _).trans (D8 _)
    rw[V5]at hd;rw[<- hd];refine j0 λk hk=>?_;have ha:AL l ((hW F l n e1 st tb).getD k []):=(V1 AX (Mine.K0 hk)).2;rw[F9 (x:=j5 S (n+n) _ _ _) (x':=j5 S n st (w4 l tb) ((hW F l n e1 st tb).getD k [])) λj hj=>by rw[Hm _ ha j Y,N5 hj],<- Qg];rfl
 have el:es.length=n:=by omega
 have kl:∀i,i < n->es[i]? = some (es.getD i (0,λ_=>S.zero)):=λi hi=>by rw[aR,ah Y];rfl
 have ap:∀i,i < n->PM es i < n:=λi hi=>by
  have ei:=kl i hi;have mi:=aK ei;refine Nat.lt_of_not_le λge'=>?_;have z1:∀j,j < n->kv es i j=S.zero:=λj hj=>by
   rw[GA ei];rw[Eo ei]at ge';exact L5.ld E _ mi j Y
  have:=I1 (λk=>if k=i then S.one else S.zero) (λj hj=>by rw[QO Y];exact z1 j hj) i Y;rw[if_pos rfl]at this;exact S.zo this.symm
 have ki:∀i,i < n->PM es i=i:=a0y ap λi j iS hj=>by
  have a:=dg.mp E.pw i j Y Y iS;have b:=dg.mp E.ech.mu i j Y Y iS;have c:=E.ech.one es[j] (aJ Y);rw[Eo (ah Y),Eo (ah Y)];refine Nat.lt_of_le_of_ne a λz=>?_;rw[<- z,b.2]at c;exact S.zo c
 have at':∀i,i < n->∀j,j < n->kv es i j=if i=j then S.one else S.zero:=λi hi j hj=>by
  have:=E.ech.at (show i < es.length by omega) (show j < es.length by omega);rwa [ki j hj]at this
 have mO:∀(x:Nat->S.W) (i:Nat),i < n->C0 S (kv es i) x n=x i:=λx i hi=>by
  unfold C0;rw[P9 (i:=i) hi λk hk ne=>by rw[at' i hi k hk,if_neg (λz=>ne z.symm),AZ],at' i hi i hi,if_pos U,JE]
 have uW:∀a i,i < n->∀q,FZ S (n+n) (X2 n tb bY a) (kv es i) q=if q < n then tb a i q else FZ S n (bY a) (λj=>kv es i (n+j)) (q - n):=λa i hi q=>by
  have b1:∀k,k < n->IB S n (tb a) (bY a) k=W9 S n (tb a k) λ_=>S.zero:=λk hk=>if_pos hk;have b2:∀k,IB S n (tb a) (bY a) (n+k)=W9 S n (λ_=>S.zero) (bY a k):=λk=>by
   unfold IB;rw[if_neg Y,cS]
  show sm S (λk=>S.mul (kv es i k) (IB S n (tb a) (bY a) k q)) (n+n)=_;rw[BX];by_cases z:q < n
  . rw[if_pos z,j0 (f:=λk=>S.mul (kv es i (n+k)) (IB S n (tb a) (bY a) (n+k) q)) (g:=λ_=>S.zero) λk hk=>by rw[b2,N5 z,S.mul_zero],D8,S.add_zero,j0 (g:=λk=>S.mul (kv es i k) (tb a k q)) λk hk=>by rw[b1 k hk,N5 z]];exact mO (λk=>tb a k q) i hi
  . obtain⟨r,rfl⟩:∃r,q=n+r:=⟨q - n,Y⟩;rw[if_neg z,j0 (f:=λk=>S.mul (kv es i k) (IB S n (tb a) (bY a) k (n+r))) (g:=λ_=>S.zero) λk hk=>by rw[b1 k hk,P7,S.mul_zero],D8,JD,cS];exact j0 λk hk=>by rw[b2,P7]
 refine⟨el,λj hj=>?_,λa ha i hi j hj=>?_,λi hi=>?_,λc hc=>?_⟩
 . have:=P.fst (n+j) Y;rw[el,show X3 n st dY (n+j)=dY j from P7]at this;rw[this];exact F9 λi hi=>by
    show _=X3 n st dY (PM es i);rw[ki i hi];exact(N5 hi).symm
 . have hD:∀q,q < n->GL (n+n) es (X2 n tb bY) a i q=tb a i q:=λq hq=>by
    have:=P.stp a ha i Y q Y;rw[uW a i hi,if_pos hq,el]at this;rw[this];unfold C0;rw[P9 (i:=q) hq λk hk ne=>by dsimp only;rw[at' k hk q hq,if_neg ne,S.mul_zero]];dsimp only;rw[at' q hq q hq,if_pos U,S.mul_one]
   have:=P.stp a ha i Y (n+j) Y;rw[uW a i hi,if_neg Y,cS,el]at this;rw[this];exact(F9 λq hq=>hD q hq).symm
 . have:=P.nul i Y;unfold C0 at this;rw[BX,j0 (f:=λk=>S.mul (kv es i k) (Di F n en ed k)) (g:=λk=>S.mul (kv es i k) (en k)) λk hk=>by rw[show Di F n en ed k=en k from N5 hk],j0 (f:=λk=>S.mul (kv es i (n+k)) (Di F n en ed (n+k))) (g:=λk=>F.neg (S.mul (kv es i (n+k)) (ed k))) λk hk=>by rw[show Di F n en ed (n+k)=F.neg (ed k)from P7,SH],ON]at this;have e:=mO en i hi;unfold C0 at e;rw[e]at this;exact(n0x (F:=F) this).symm
 . intro k hk;have h2:∀j,j < n->lin S c (kv es) es.length (n+j)=S.zero:=λj hj=>by rw[el];exact hc j hj
   exact zz c (toL c h2) h2 k Y
end
def jn(sep:List Nat):List (List Nat)->List Nat
 | []=>[]
 | [p]=>p
 | p::q::r=>p++sep++jn sep (q::r)
theorem Kg(sep:List Nat):∀(ls:List (List Nat)) (fI:List Nat),(ls.map tx).foldl (λa p=>a++(tx sep).cps++p.cps) fI.toArray=(ls.foldl (λa p=>a++sep++p) fI).toArray
 | [],fI=>rfl
 | p::ls,fI=>by
  rw[aZ,List.foldl_cons,List.foldl_cons];have:fI.toArray++(tx sep).cps++(tx p).cps=(fI++sep++p).toArray:=by simp[tx]
  rw[this];exact Kg sep ls _
theorem QU(sep:List Nat):∀(ls:List (List Nat)) (p:List Nat),ls.foldl (λa p=>a++sep++p) p=jn sep (p::ls)
 | [],p=>rfl
 | q::ls,p=>by
  rw[List.foldl_cons,QU sep ls];cases ls with
  | nil=>rfl
  | cons r ls=>simp[jn]
def Xy(sep:List Nat):∀ls:List (List Nat),Txt.join (tx sep) (ls.map tx)=tx (jn sep ls)
 | []=>rfl
 | p::ls=>by
  show(⟨_⟩:Str)=⟨_⟩;rw[aZ,List.drop_succ_cons,List.drop_zero,List.headD_cons];have:=Kg sep ls p;rw[show(tx p).cps=p.toArray from rfl,this,QU]
def XY{p:List Nat}{q:Int}(h0:0<=q)(h1:q<=p.length):Txt.slice (tx p) none (some q)=tx (p.take q.toNat):=by
 have e:=PyProof.Rows.slice_closes_toL (x:=tx p) (j:=q) h0 (by rw[P8];exact h1);rw[beq_iff_eq]at e;rw[e];show(⟨_⟩:Str)=⟨_⟩;simp[tx]
theorem Rg{sep:Str}{k:Nat}:∀{ls:List Str} {a:Nat},(∀p∈ls,p.length<=k)->ls.foldl (λx y=>x+y.length+sep.length) a<=a+ls.length * (k+sep.length)
 | [],a,_=>by simp
 | p::ls,a,h=>by
  have h1:=h p (by simp);have h2:=Rg (sep:=sep) (k:=k) (ls:=ls) (a:=a+p.length+sep.length) (λx hx=>h x (aC _ hx));rw[List.foldl_cons,bM,bq];omega
def Zr{sep:List Nat}{sz:Str}(hz:sz=tx sep){a:Addr}{ls:List (List Nat)}{k:Nat}{H:Hp}{Q:VK}(hk:∀p∈ls,p.length<=k)(hl:ls.length * (k+sep.length)<=16777216)(hq:o7 K H a (ls.map vT))(q:Q (vT (jn sep ls)) H) :
    Ye K (.str sz) [.ref a] H Q:=by
 subst hz;refine⟨tx sep,a,ls.map tx,U,U,by rw[cq];exact hq,?_,by rw[Xy];exact q⟩;unfold PySem.JoinOk Builtin.Str.tooLong;have:=Rg (sep:=tx sep) (k:=k) (ls:=ls.map tx) (a:=0) (λp hp=>by
  obtain⟨x,hx,rfl⟩:=aw.mp hp;rw[P8];exact hk x hx)
 have vO:ls.length * (k+(tx sep).length)<=16777216:=by rw[P8];exact hl
 rw[af]at this;have z:sizeLine=16777216:=by decide
 rw[List.foldl_toArray];simp only[Bool.not_eq_true',decide_eq_false_iff_not];omega
def Xz{sep p:List Nat}{ls:List (List Nat)}(h:ls≠[]):jn sep (p::ls)=p++sep++jn sep ls:=by
 cases ls with
 | nil=>exact absurd rfl h
 | cons q ls=>simp[jn]
def ZL:(Str.ofString "")=tx []:=VG
def a0u{b:Bool}{A B:Prop}(h:b=false)(q:B):if b=true then A else B:=by subst h;exact T3 q
def a0t{b:Bool}{A B:Prop}(h:b=true)(q:A):if b=true then A else B:=by subst h;exact Bz q
def azs:List Nat:=[97,98,99,100,101,102,103,104,105,106,107,108,109,110,111,112,113,114,115,116,117,118,119,120,121,122]
def o0h:(Str.ofString "abcdefghijklmnopqrstuvwxyz")=tx azs:=by decide +kernel
theorem QT:∀ls:List Nat,jn [] (ls.map λc=>[c])=ls
 | []=>rfl
 | [a]=>rfl
 | a::b::ls=>by
  have:=QT (b::ls);rw[aZ,Xz (by simp),this];rfl
def o0g{i:Nat}(h:i < 26):azs[i]? = some (97+i):=by
 have:∀i,i < 26->azs[i]? = some (97+i):=by decide
 exact this i h
def cL(a b:Int)(k:Nat):Nat:=97+((a+b * (k:Int)).fmod 26).toNat
def o0e{a b:Int}{k:Nat}:Ry (tx azs).cps.toList ((a+b * (k:Int)).fmod 26)=some (cL a b k):=by
 have m0:0<=(a+b * (k:Int)).fmod 26:=bK _ bD;have m1:(a+b * (k:Int)).fmod 26 < 26:=bE _ bD;unfold cL;revert m0 m1;generalize (a+b * (k:Int)).fmod 26=r;intro m0 m1;obtain⟨i,rfl⟩:∃i:Nat,r=(i:Int):=⟨r.toNat,Y⟩;have e:(tx azs).cps.toList=azs:=by simp[tx]
 rw[e];exact B0 (o0g Y)
def o0d{a b:Int}(a0:0<=a)(a1:a < 26)(b0:1<=b)(b1:b<=8){n:Nat}(hn:n<=3):P5 ((List.range n).map (cL a b)):=by
 have lt:∀k,cL a b k < 128:=λk=>by
  have m1:(a+b * (k:Int)).fmod 26 < 26:=bE _ bD;unfold cL;omega
 refine⟨?_,λc hc=>?_,by rw[af,bO];exact hn⟩
 . refine cH.mpr ((List.pairwise_lt_range).imp_of_mem λ{i j} hi hj iS e=>?_);have hi:=aN.mp hi;have hj:=aN.mp hj;unfold cL at e;have f:∀k:Nat,(a+b * (k:Int)).fmod 26=(a+b * (k:Int)) % 26:=λk=>dW _ bD;rw[f i,f j]at e;rcases(by omega:(i=0/\j=1)\/(i=0/\j=2)\/(i=1/\j=2))with ⟨rfl,rfl⟩ | ⟨rfl,rfl⟩ | ⟨rfl,rfl⟩ <;>simp at e <;>omega
 . obtain⟨k,_,rfl⟩:=aw.mp hc;exact lt k
def sp_lletters:Sp:=λvs H Q _=>∃(a:Addr),vs=[.ref a]/\Dr H a/\∀l H',j9 a H H'->Dr H' a->P5 l->1<=l.length->Q (vT l) H'
def HQ(T:Txt K mg t):r8 Pr w K mg base E7 2 t.s0x t.q0x [X5] sp_lletters:=by
 refine T.r0e.F.okA R4 λ_ _ _ _ _ _ _ _ hr h=>?_;obtain⟨a,rfl,hD,k⟩:=h;have zl:=sZ;refine⟨_,(c5 (sT 1 R4.nd (l7 N3 a9 (C1 (w8 T) hr.m T.u0g (D9 (O 0) a9)))) (c5 (M6 (i:=2) R4.nd U (Or.inr U) (C1 (w8 T) hr.m T.u0g (D9 (O 0) a9))) (c5 (M6 (i:=3) R4.nd U (Or.inr U) (l7 N3 a9 (C1 (w8 T) hr.m T.u0g (D9 (O 0) a9)))) (c4 (c9 (S3 dX PySem.F.slot_str_join PySem.F.type_str_join Xn Cu (x5 (w5 (xs:=[BV]) U (oC [X5,"_law_size",Os,"_law_far"] (a8 V2)) (C4 U T.z_range (x5 (O 1))) (p9 (i:=4) (by show List.Nodup ([X5,"_law_size",Os,"_law_far",BV]:List Str);decide +kernel) U (Or.inl U)) (B5 Vo Cu (l7 E9 (l7 N3 (O 2) (l7 Cw (O 3) (O 4))) a9)))))))))),?_⟩;dsimp only[z8,u7,y9,z5];rw[o0h];refine Z U ⟨a,3,U,⟨hD,bD,bD⟩,λr1 H1 s1 d1 a1 b1=>za ⟨U,U,?_⟩⟩;refine Z U ⟨a,26,U,⟨d1,bD,bD⟩,λr2 H2 s2 d2 a2 b2=>?_⟩;refine Z U ⟨a,8,U,⟨d2,bD,bD⟩,λr3 H3 s3 d3 a3 b3=>za ⟨U,U,?_⟩⟩;have Le:=(s1.trans s2).trans s3;obtain⟨n,en⟩:∃n:Nat,1+r1=(n:Int):=⟨(1+r1).toNat,Y⟩;refine⟨U,vb U U ⟨Y,Y,o6 (n:=n) (λj ys G=>G=H3/\ys=(((List.range j).map (cL r2 (1+r3))).map λc=>[c]).map vT) Y ⟨U,U⟩ (λj ys G q=>by rw[q.2];simp) ?_ ?_ ?_⟩⟩
 . rintro j ys G hj ⟨rfl,rfl⟩;refine⟨(show j < (1+r1).toNat by omega),λy H' hy=>?_⟩;obtain⟨rfl,rfl⟩:=hy;have ec:=o0e (a:=r2) (b:=1+r3) (k:=j);rw[show((j:Nat):Int)=0+(j:Int) by omega]at ec;refine⟨⟨[some _],U,U⟩,vc U U U (za ⟨U,U,.inl ⟨Y,Y⟩,za ⟨U,U,za ⟨U,U,(by show(26:Int)≠0;decide),zd ⟨U,U,(by rw[P8];show 26<=_;omega),ec,U,?_⟩⟩⟩⟩)⟩;rw[cG,bc,bc,bc];rfl
 . rintro ys G ⟨rfl,rfl⟩;show(1+r1).toNat<=n;omega
 . rintro ys G p ⟨rfl,rfl⟩ np;have e2:=c6 (o:=.lst ((((List.range n).map (cL r2 (1+r3))).map λc=>[c]).map vT)) np;refine Zr (sep:=[]) (k:=1) ZL ?_ ?_ (o7.of b9) ?_
   . intro x hx;obtain⟨c,_,rfl⟩:=aw.mp hx;exact ae _
   . rw[af,af,bO];show n * (1+0)<=_;omega
   . rw[QT];exact k _ _ (Le.trans (.of e2)) (d3.same e2) (o0d a2 b2 Y Y Y) (by rw[af,bO];omega)
def RR(T:Txt K mg t):Sp:=λvs H Q _=>∃(R:g9 Pr w K mg base),∃nm p so x a,So T R nm p/\vs=[so,x]/\(F5 H so nm p/\R.is H x a)/\∀v H',h9 H H'->R.is H' v (R.F.neg a)->Q v H'
def Fc(T:Txt K mg t):r8 Pr w K mg base E7 1 t.w0i t.s0z Pn (RR (w:=w) (base:=base) T):=by
 refine T.t0c.F.okA KW λ_ _ _ _ H _ _ _ hr h=>?_;obtain⟨R,nm,p,so,x,a,hS,rfl,⟨rfl,ha⟩,k⟩:=h;refine⟨_,(c5 (y8 (l8 J8 (O 0) a9 (o4 _)) (c4 (c9 (C9 (D9 (l7 Aa a9 (B5 g6 (O 1) a9)) (B5 g6 (O 1) a9))))) o8) (c4 (c9 (l7 E9 (l7 Aa a9 (O 1)) (O 0))))),?_⟩;dsimp only[z8,u7,y9,z5];cases hS with
 | fr=>
  obtain⟨px,rfl,hx⟩:=ha;refine Z U ⟨U,Z U ?_⟩;refine CO (decide_eq_true U) ?_;refine Z U (zf ⟨U,U,l9.of hx,U,za ⟨U,U,Z U (zf ⟨U,U,l9.of hx,U,sL,λp1 np=>?_⟩)⟩⟩);refine k _ _ (c6 np) ?_;show GX (upd H p1 (.tup [V.int (0 - a.t),V.int a.b])) (.ref p1) (-a.t) a.b;rw[Int.zero_sub];exact GX.new
 | re p hp gb hi=>
  cases (show x=.int a.x from ha);refine Z U ⟨U,Z U ?_⟩;refine Fo (decide_eq_false λz=>by injection z with z;omega) ?_;refine Z U (za ⟨U,U,Z U (za ⟨U,U,(show p≠0 by omega),?_⟩)⟩);refine k _ _ (h9.refl _) ?_;show V.int ((0 - a.x).fmod p)=V.int ((-a.x).fmod p);rw[Int.zero_sub]
def W3{S:SR}(i j:Nat)(b:S.W)(x:Nat->S.W):Nat->S.W:=λk=>if k=j then S.add (x j) (S.mul b (x i))else x k
def Om{S:SR}(i j:Nat)(b c:S.W)(A:Nat->Nat->S.W):Nat->Nat->S.W:=λr=>if r=i then λk=>S.add (W3 i j b (A i) k) (S.mul c (W3 i j b (A j) k))else W3 i j b (A r)
def Gk{n j:Nat}(h:j < n):XA n (j:Int)=some j:=by
 unfold XA;rw[if_pos Y,if_pos Y];congr 1
def LL(R:g9 Pr w K mg base)(n:Nat)(H0:Hp)(x:Nat->Nat->R.S.W)(rs:List Addr)(G:Hp):Prop:=rs.Nodup/\∀q r,rs[q]? = some r->H0 r=none/\∃vs,G r=some (.lst vs)/\i3 (λk u H=>R.is H u (x q k)) vs n G
section
variable{R:g9 Pr w K mg base}{n:Nat}{H0 G G':Hp}{x:Nat->Nat->R.S.W}{rs:List Addr}{r:Addr}
theorem LL.same(s:h9 G G')(h:LL R n H0 x rs G):LL R n H0 x rs G':=⟨h.1,λq r e=>let⟨z,vs,a,b⟩:=h.2 q r e;⟨z,vs,s _ _ a,b.mono λ_ _ _ z=>R.same s.t z⟩⟩
def LL.not(h:LL R n H0 x rs G)(hr:G r=none):r ∉ rs:=λm=>by
 obtain⟨q,hq,e⟩:=dC m;obtain⟨_,vs,a,_⟩:=h.2 q r (by rw[ah hq,e]);rw[hr]at a;cases a
def LL.snoc{vs:List V}(h:LL R n H0 x rs G)(s:h9 H0 G)(hr:G r=none)(e:i3 (λk u H=>R.is H u (x rs.length k)) vs n G):LL R n H0 x (rs++[r]) (upd G r (.lst vs)):=by
 have s1:=c6 (o:=.lst vs) hr;refine⟨List.nodup_append.mpr ⟨h.1,cn.mpr ⟨cy,List.nodup_nil⟩,λa ha b hb=>?_⟩,λq r' hq=>?_⟩
 . rw[ax.mp hb];exact λz=>h.not hr (z▸ha)
 . by_cases z:q < rs.length
   . rw[aW z]at hq;exact(h.same s1).2 q r' hq
   . rw[ba Y]at hq;have z0:q - rs.length=0:=by
      by_cases y:q - rs.length=0
      . exact y
      . rw[List.getElem?_eq_none (by simp;omega)]at hq;cases hq
     rw[z0]at hq;cases hq;refine⟨?_,vs,b9,?_⟩
     . cases e0:H0 r with
       | none=>rfl
       | some o=>rw[s _ _ e0]at hr;cases hr
     . rw[show q=rs.length by omega];exact e.mono λ_ _ _ z=>R.same s1.t z
def LL.put{vs:List V}{q:Nat}{y:Nat->R.S.W}{vs0:List V}(h:LL R n H0 x rs G)(hq:rs[q]? = some r)(h0:G r=some (.lst vs0))(e:i3 (λk u H=>R.is H u (y k)) vs n (upd G r (.lst vs))):LL R n H0 (λq'=>if q'=q then y else x q') rs (upd G r (.lst vs)):=by
 have t1:=y6 (o:=.lst vs) h0;refine⟨h.1,λq' r' e'=>?_⟩;obtain⟨z,gU,a,b⟩:=h.2 q' r' e';by_cases eq:q'=q
 . subst eq;rw[hq]at e';cases e';exact⟨z,vs,b9,by dsimp only;rw[if_pos rfl];exact e⟩
 . have ne:r'≠r:=λw=>by
    rw[w]at e';have h1:=(aU.mp e').1;exact eq ((List.getElem?_inj h1 h.1).mp (e'.trans hq.symm))
   exact⟨z,gU,by rw[l6 ne];exact a,by dsimp only;rw[if_neg eq];exact b.mono λ_ _ _ z=>R.same t1 z⟩
end
def LV{R:g9 Pr w K mg base}{n i j:Nat}{b:R.S.W}{x:Nat->R.S.W}{us:List V}{O:V}{G:Hp}(e:i3 (λk u H=>R.is H u (x k)) us n G)(f:R.is G O (R.S.add (x j) (R.S.mul b (x i)))):i3 (λk u H=>R.is H u (W3 i j b x k)) (us.set j O) n G:=by
 refine⟨by rw[bJ,e.1],λq hq=>?_⟩;by_cases z:q=j
 . subst z;refine⟨O,cg (by rw[e.1];exact hq),?_⟩;dsimp only;rw[show W3 (S:=R.S) i q b x q=R.S.add (x q) (R.S.mul b (x i))from if_pos rfl];exact f
 . obtain⟨uq,euq,puq⟩:=e.2 q hq;refine⟨uq,by rw[bL (Ne.symm z)];exact euq,?_⟩;dsimp only;rw[show W3 (S:=R.S) i j b x q=x q from if_neg z];exact puq
def Qp(R:g9 Pr w K mg base)(n:Nat)(x:Nat->R.S.W)(v:V)(H:Hp):Prop:=∃p us,v=.ref p/\H p=some (.lst us)/\i3 (λk u H=>R.is H u (x k)) us n H
theorem Qp.same{R:g9 Pr w K mg base}{n:Nat}{x:Nat->R.S.W}{v:V}{H H':Hp}(s:h9 H H')(h:Qp R n x v H):Qp R n x v H':=by
 obtain⟨p,us,rfl,hp,e⟩:=h;exact⟨p,us,U,s _ _ hp,e.mono λ_ _ _ q=>R.same s.t q⟩
def LL.rows{R:g9 Pr w K mg base}{n:Nat}{H0 G:Hp}{x:Nat->Nat->R.S.W}{rs:List Addr}(h:LL R n H0 x rs G):i3 (λr u H=>Qp R n (x r) u H) (rs.map V.ref) rs.length G:=⟨by rw[af],λq hq=>by
 have e:=ah hq;obtain⟨_,vs,a,b⟩:=h.2 q _ e;exact⟨V.ref rs[q],by rw[aE,e];rfl,_,vs,U,a,b⟩⟩
def c0w{R:g9 Pr w K mg base}{i j n m:Nat}{b:R.S.W}{x:Nat->R.S.W}(hi:i < n)(hj:j < n)(hb:R.S.sz m b)(h:∀k,k < n->R.S.sz m (x k)):∀k,k < n->R.S.sz (m+(m+m)+1) (W3 i j b x k):=λk hk=>by
 unfold W3;split
 . exact R.S.sz_add _ _ _ _ (h j hj) (R.S.sz_mul _ _ _ _ hb (h i hi))
 . exact R.S.sz_mono _ _ _ Y (h k hk)
def e0o{T:Txt K mg t}{R:g9 Pr w K mg base}{nm:Str}{p:Int}(hS:So T R nm p){n:Nat}{G:Hp}{r q r1 i:Nat}{x:Nat->R.S.W}{us xs ys:List V}(n0:i < n)(hq:G q=some (.lst us))(e:us[i]? = some (.ref r1))(h1:G r1=some (.lst xs))(h:G r=some (.lst ys))(b:i3 (λk u H=>R.is H u (x k)) ys n G):r≠q:=λz=>by
 rw[z,hq]at h;cases h;obtain⟨u,eu,ix⟩:=b.2 i n0;rw[e]at eu;cases eu;cases hS with
 | fr=>
  obtain⟨px,ep,hx⟩:=ix;cases ep;rw[h1]at hx;cases hx
 | re p hp gb hi=>cases (show V.ref r1=.int (x i).x from ix)
structure SzM(R:g9 Pr w K mg base)(n k m:Nat)(st:Nat->R.S.W)(tb:Nat->Nat->Nat->R.S.W)(en:Nat->R.S.W):Prop where
 st:∀i,i < n->R.S.sz m (st i)
 tb:∀a,a < k->∀i,i < n->∀j,j < n->R.S.sz m (tb a i j)
 en:∀i,i < n->R.S.sz m (en i)
def RQ(T:Txt K mg t):Sp:=λvs H Q _=>∃(R:g9 Pr w K mg base),∃nm p so mv bv l,∃(n i j m:Nat),∃st tb en b,So T R nm p/\vs=[so,mv,.int (i:Nat),.int (j:Nat),bv]/\(F5 H so nm p/\l5 R l n st tb en mv H/\P5 l/\R.is H bv b/\R.S.sz m b/\i < n/\j < n/\n<=60/\SzM R n l.length m st tb en/\X0 R.S (10 * m+10))/\
 ∀v H',h9 H H'->l5 R l n (W3 i j b st) (λa=>Om i j b (R.F.neg b) (tb a)) (W3 j i (R.F.neg b) en) v H'->Q v H'
def Lm(T:Txt K mg t):r8 Pr w K mg base E7 40 t.v0q t.t0k a0g (RQ (w:=w) (base:=base) T):=by
 refine T.s0s.F.okA B9 λ_ _ _ _ H _ Q _ hr h=>?_;obtain⟨R,nm,p,so,mv,bv,l,n,i,j,m,st,tb,en,b,hS,rfl,⟨eI,hM,L,hb,zb,hi,hj,hn,a1d,hz⟩,k⟩:=h;obtain⟨mp,sv,tv,ev,rfl,hm,⟨sp,ss,rfl,fR,eS⟩,⟨tp,tabs,rfl,fA,eT⟩,⟨ep,es,rfl,jf,eE⟩⟩:=id hM;have l3:=L.h3;have sl:=sZ;refine⟨_,(c8 (Z4 (O 1) (J0 U (j8 (gN 5 B9.nd) (j8 (gN 6 B9.nd) (j8 (gN 7 B9.nd) (j8 (gN 8 B9.nd) D3)))))) (c8 (M6 (i:=9) B9.nd U (Or.inr U) (C1 (Fc T) hr.m T.t0c (D9 (O 0) (O 4)))) (c8 (sT 10 B9.nd (j6 N6 bR T.z_list boot_list (x5 (O 6)))) (c8 (Z4 (C1 (Q4 T) hr.m T.t0v (S6 (O 0) (B5 z9 (O 10) (O 3)) (C1 (L8 T) hr.m T.t0d (S6 (O 0) (O 4) (B5 z9 (O 10) (O 2)))))) (Ct (O 10) (O 3) V7)) (c8 (sT 11 B9.nd (j6 N6 bR T.z_list boot_list (x5 (O 8)))) (c8 (Z4 (C1 (Q4 T) hr.m T.t0v (S6 (O 0) (B5 z9 (O 11) (O 2)) (C1 (L8 T) hr.m T.t0d (S6 (O 0) (O 9) (B5 z9 (O 11) (O 3)))))) (Ct (O 11) (O 2) V7)) (c8 (sT 12 B9.nd (D0 J1)) (c8 (C6 ar U (G0 (O 7)) (gN 13 B9.nd) (c8 (AO 15 (HE 15 "#1" bD (V3 (i₀:=14) (xs:=[AF]) (by show List.Nodup (n1N);decide +kernel) U (Or.inl U) U (oC n1N (a8 Q3)) (G0 (O 13)) (gL 17 n7N) (j6 (show Ad _ (.type "list") (λxs H Q=>∃p ys,xs=[.ref p]/\(o7 K H p ys\/l9 K H p ys)/\∀l,H l=none->Q (.ref l) (upd H l (.lst ys)))from N6) bR T.z_list boot_list (x5 (O 17)))))) (c8 (C6 ar U (B6 (O 14)) (gN 15 B9.nd) (c4 (Z4 (C1 (Q4 T) hr.m T.t0v (S6 (O 0) (B5 z9 (O 15) (O 3)) (C1 (L8 T) hr.m T.t0d (S6 (O 0) (O 4) (B5 z9 (O 15) (O 2)))))) (Ct (O 15) (O 3) V7)))) (c8 (sT 16 B9.nd (B5 z9 (O 14) (O 3))) (c8 (Z4 (w5 (xs:=[FF,"_law_y"]) U (oC n8N (a8 Q3)) (Cs U T.z_zip (D9 (B5 z9 (O 14) (O 2)) (O 16))) (show PG _ _ (Ft K 2 _)from(J0 U (j8 (gL 17 n4N) (j8 (gL 18 n4N) D3)))) (x9 (Q4 (w:=w) (base:=base) T) hr.m U T.t0v.m T.t0v.F.kp T.t0v.b .nil B4 (S6 (O 0) (O 17) (x9 (L8 (w:=w) (base:=base) T) hr.m U T.t0d.m T.t0d.F.kp T.t0d.b .nil B4 (S6 (O 0) (O 9) (O 18)))))) (Ct (O 14) (O 2) V7)) (c4 (AO 15 (E8 (S3 bf bA bB F8 (O 12) (x5 (j6 h7 bR T.z_tuple boot_tuple (x5 (Hg 15 "#1" (w5 (xs:=[AF]) U (oC n1N (a8 Q3)) (B6 (O 14)) (gL 17 n7N) (j6 (show Ad _ (.type "tuple") (λxs H Q=>∃p ys,xs=[.ref p]/\((o7 K H p ys/\∀l,H l=none->Q (.ref l) (upd H l (.tup ys)))\/(l9 K H p ys/\Q (.ref p) H)))from h7) bR T.z_tuple boot_tuple (x5 (O 17))))))))))))))))) (c4 (c9 (C9 (Jg (O 5) (j6 h7 bR T.z_tuple boot_tuple (x5 (O 10))) (j6 h7 bR T.z_tuple boot_tuple (x5 (O 12))) (j6 h7 bR T.z_tuple boot_tuple (x5 (O 11))))))))))))))),?_⟩;dsimp only[z8,u7,y9,z5];intro xR xE;refine Z U ⟨mp,Z U ⟨l9.of hm,U,za ⟨U,za ⟨U,za ⟨U,za ⟨U,U,?_⟩⟩⟩⟩⟩⟩;subst xE;intro xR xE;refine vb U U ⟨R,zE nm p so bv b ⟨hS,U,⟨eI,hb⟩,λcv H1 s1 f1=>?_⟩⟩;have zc:R.S.sz m (R.F.neg b):=R.F.sz_neg _ _ zb;subst xE;intro xR xE;refine Z U ⟨sp,ss,U,.inr (l9.of (s1 _ _ fR)),λfp lV=>?_⟩;refine E6 (o:=.lst ss) lV λH2 s2 k2=>?_;have t2:=s1.trans s2;obtain⟨ui,eui,pui⟩:=eS.2 i hi;obtain⟨uj,euj,puj⟩:=eS.2 j hj;subst xE;intro xR xE;refine vc U U U (zf ⟨U,U,o7.of k2,B0 euj,vc U U U (Z U (zf ⟨U,U,o7.of k2,B0 eui,R,zL nm p so bv ui b (st i) m m ⟨hS,U,⟨eI.same t2.t,R.same t2.t hb,R.same t2.t pui,zb,a1d.st i hi,hz.le Y⟩,λtv3 H3 s3 f3=>?_⟩⟩))⟩);refine⟨R,zL nm p so uj tv3 (st j) _ m (m+m) ⟨hS,U,⟨eI.same (t2.trans s3).t,R.same (t2.trans s3).t puj,f3,a1d.st j hj,R.S.sz_mul _ _ _ _ zb (a1d.st i hi),hz.le Y⟩,λiI H4 s4 f4=>?_⟩⟩;have Me:=s3.trans s4;refine vb U U ⟨fp,ss,(j:Int),j,U,U,Me _ _ k2,(by rw[eS.1];exact Gk hj),?_⟩;have rM:H fp=none:=by
  cases e:H fp with
  | none=>rfl
  | some o=>rw[s1 _ _ e]at lV;cases lV
 have s5:h9 H (upd H4 fp (.lst (ss.set j iI))):=Ag (t2.trans Me) rM;have eF:i3 (λk u H=>R.is H u (W3 i j b st k)) (ss.set j iI) n (upd H4 fp (.lst (ss.set j iI))):=LV (eS.mono λ_ _ _ z=>R.same s5.t z) (R.same (y6 (o:=.lst (ss.set j iI)) (Me _ _ k2)) f4);have kF:=b9 (H:=H4) (a:=fp) (o:=.lst (ss.set j iI));have f1:=R.same ((s2.trans Me).t.trans (y6 (o:=.lst (ss.set j iI)) (Me _ _ k2))) f1;clear s1 s2 t2 s3 s4 Me f3 f4 k2 lV;revert s5 eF kF f1;generalize upd H4 fp (.lst (ss.set j iI))=H5;intro s5 eF kF f1;subst xE;intro xR xE;refine Z U ⟨ep,es,U,.inr (l9.of (s5 _ _ jf)),λgp mZ=>?_⟩;have s6:=c6 (o:=.lst es) mZ;have k6:=b9 (H:=H5) (a:=gp) (o:=.lst es);have nfg:fp≠gp:=λz=>by rw[z,mZ]at kF;cases kF
 revert s6 k6;generalize upd H5 gp (.lst es)=H6;intro s6 k6;have t6:=s5.trans s6;have kF:=s6 _ _ kF;have eF:i3 (λk u H=>R.is H u (W3 i j b st k)) (ss.set j iI) n H6:=eF.mono λ_ _ _ z=>R.same s6.t z;obtain⟨vi,evi,pvi⟩:=eE.2 i hi;obtain⟨vj,evj,pvj⟩:=eE.2 j hj;subst xE;intro xR xE;refine vc U U U (zf ⟨U,U,o7.of k6,B0 evi,vc U U U (Z U (zf ⟨U,U,o7.of k6,B0 evj,R,zL nm p so cv vj (R.F.neg b) (en j) m m ⟨hS,U,⟨eI.same t6.t,R.same s6.t f1,R.same t6.t pvj,zc,a1d.en j hj,hz.le Y⟩,λtv7 H7 s7 f7=>?_⟩⟩))⟩);refine⟨R,zL nm p so vi tv7 (en i) _ m (m+m) ⟨hS,U,⟨eI.same (t6.trans s7).t,R.same (t6.trans s7).t pvi,f7,a1d.en i hi,R.S.sz_mul _ _ _ _ zc (a1d.en j hj),hz.le Y⟩,λjr H8 s8 f8=>?_⟩⟩;have RY:=s7.trans s8;refine vb U U ⟨gp,es,(i:Int),i,U,U,RY _ _ k6,(by rw[eE.1];exact Gk hi),?_⟩;have rL:H gp=none:=by
  cases e:H gp with
  | none=>rfl
  | some o=>rw[s5 _ _ e]at mZ;cases mZ
 have tl:=y6 (o:=.lst (es.set i jr)) (RY _ _ k6);have s9:h9 H (upd H8 gp (.lst (es.set i jr))):=Ag (t6.trans RY) rL;have eG:i3 (λk u H=>R.is H u (W3 j i (R.F.neg b) en k)) (es.set i jr) n (upd H8 gp (.lst (es.set i jr))):=LV (eE.mono λ_ _ _ z=>R.same s9.t z) (R.same tl f8);have kG:=b9 (H:=H8) (a:=gp) (o:=.lst (es.set i jr));have rX:upd H8 gp (.lst (es.set i jr)) fp=some (.lst (ss.set j iI)):=by rw[l6 nfg];exact RY _ _ kF
 have uI:i3 (λk u H=>R.is H u (W3 i j b st k)) (ss.set j iI) n (upd H8 gp (.lst (es.set i jr))):=eF.mono λ_ _ _ z=>R.same (RY.t.trans tl) z;have f9:=R.same (s6.t.trans (RY.t.trans tl)) f1;clear s5 s6 s7 s8 RY t6 eF kF f1 f7 f8 k6 mZ tl;revert s9 eG kG rX uI f9;generalize upd H8 gp (.lst (es.set i jr))=H9;intro s9 eG kG rX uI f9;subst xE;intro xR xE;refine⟨sL,λma iZ=>?_⟩;refine E6 (o:=.lst []) iZ λH10 Wb nE=>?_;subst xE;intro xR xE;refine Z U ⟨tp,U,⟨_,l9.of (Wb _ _ (s9 _ _ fA))⟩,BA (K:=K) (a:=tp) (xs:=tabs) (λc σ G=>∃gW iW kB oP us,σ=[some so,sr mp,si i,si j,some bv,some (vT l),sr sp,sr tp,sr ep,some cv,sr fp,sr gp,sr ma,gW,iW,kB,oP]/\h9 H9 G/\G ma=some (.lst us)/\i3 (λc u H=>y7 R n n (Om i j b (R.F.neg b) (tb c)) u H) us c G) ⟨_,_,_,_,[],U,Wb,nE,i3.nil⟩ (λi' σ G _ ⟨_,_,_,_,_,_,q,_⟩=>l9.of (q _ _ (s9 _ _ fA))) ?_ ?_⟩
 . rintro c y σ G hc ⟨gW,iW,kB,oP,us,rfl,sG,kM,eM⟩;obtain⟨cl,O⟩:=eT.at hc;obtain⟨yp,FY,rfl,nF,eY⟩:=O;have jz:=sG _ _ (s9 _ _ nF);intro xR xE;refine⟨U,Z U ⟨yp,U,⟨_,l9.of jz⟩,o6 (n:=n) (λq ys G1=>h9 G G1/\∃rs,ys=rs.map V.ref/\rs.length=q/\LL R n G (tb c) rs G1) Y ⟨h9.refl _,[],U,U,List.nodup_nil,λq r e=>by simp at e⟩ (λq ys G1 h=>by obtain⟨_,rs,e,el,_⟩:=h;rw[e,af,el]) ?_ ?_ ?_⟩⟩
   . rintro q ys G1 hq ⟨s1,rs,rfl,el,hL⟩;obtain⟨u,eu,pu⟩:=eY.2 q hq;refine⟨za ⟨l9.of (s1 _ _ jz),eu⟩,λy' H' gm=>?_⟩;obtain⟨rfl,gm⟩:=gm;have:=gm _ (l9.of (s1 _ _ jz));rw[eu]at this;cases this;have u9:x4 H H':=(s9.trans (sG.trans s1)).t;obtain⟨up,qI,rfl,gY,eU⟩:=i0.same u9 pu;refine⟨⟨[some _],U,U⟩,Z U ⟨up,qI,U,.inr (l9.of gY),λr nr=>?_⟩⟩;refine⟨s1.trans (c6 nr),rs++[r],by rw[bc];rfl,by rw[aq,el];rfl,hL.snoc s1 nr ?_⟩;rw[el];exact eU
   . rintro ys G1 ⟨s1,_⟩;exact⟨_,l9.of (s1 _ _ jz),by rw[eY.1];exact ae _⟩
   . rintro ys G1 lp ⟨s1,rs,rfl,el,hL⟩ jw;have s2:=c6 (o:=.lst (rs.map V.ref)) jw;have k2:=b9 (H:=G1) (a:=lp) (o:=.lst (rs.map V.ref));have nlG:G lp=none:=by
      cases e:G lp with
      | none=>rfl
      | some o=>rw[s1 _ _ e]at jw;cases jw
     have pV:=hL.same s2;have vq:lp ∉ rs:=hL.not jw;have s2:=s1.trans s2;clear s1 hL jw;revert s2 k2 pV;generalize upd G1 lp (.lst (rs.map V.ref))=G2;intro k2 pV s2;have zA:=a1d.tb c cl;subst xE;intro xR xE;refine Z U ⟨lp,U,⟨_,o7.of k2⟩,Ik (n:=n) (λq σ G3=>∃kB,σ=[some so,sr mp,si i,si j,some bv,some (vT l),sr sp,sr tp,sr ep,some cv,sr fp,sr gp,sr ma,sr yp,sr lp,kB,oP]/\h9 G G3/\G3 lp=some (.lst (rs.map V.ref))/\LL R n G (λq'=>if q' < q then W3 i j b (tb c q')else tb c q') rs G3) (Z U ⟨s2,k2,pV⟩) ?_ ?_⟩
     . rintro q σ G3 hq ⟨kB,rfl,s3,k3,om⟩;have er:=ah (show q < rs.length by omega);obtain⟨z0,oR,jb,e3⟩:=om.2 q _ er;have ey:(rs.map V.ref)[q]? = some (V.ref rs[q]):=by rw[aE,er];rfl
       refine Fp (o7.of k3) ey ?_
       (try dsimp only at e3)
       rw[if_neg (aM q)]at e3;obtain⟨xi,exi,pxi⟩:=e3.2 i hi;obtain⟨xj,exj,pxj⟩:=e3.2 j hj;have t3:=s9.trans (sG.trans s3);have zq:=zA q hq;refine vc U U U (zf ⟨U,U,o7.of jb,B0 exj,vc U U U (Z U (zf ⟨U,U,o7.of jb,B0 exi,R,zL nm p so bv xi b (tb c q i) m m ⟨hS,U,⟨eI.same t3.t,R.same t3.t hb,pxi,zb,zq i hi,hz.le Y⟩,λtv4 G4 s4 f4=>?_⟩⟩))⟩);refine⟨R,zL nm p so xj tv4 (tb c q j) _ m (m+m) ⟨hS,U,⟨eI.same (t3.trans s4).t,R.same s4.t pxj,f4,zq j hj,R.S.sz_mul _ _ _ _ zb (zq i hi),hz.le Y⟩,λrm G5 s5 f5=>?_⟩⟩;have On:=s4.trans s5;refine vb U U ⟨rs[q],oR,(j:Int),j,U,U,On _ _ jb,(by rw[e3.1];exact Gk hj),?_⟩;have tl:=y6 (o:=.lst (oR.set j rm)) (On _ _ jb);have e6:i3 (λk u H=>R.is H u (W3 i j b (tb c q) k)) (oR.set j rm) n (upd G5 rs[q] (.lst (oR.set j rm))):=LV (e3.mono λ_ _ _ z=>R.same (On.t.trans tl) z) (R.same tl f5);refine Z U ⟨Ag (s3.trans On) z0,?_,?_⟩
       . rw[l6 (λz=>vq (by rw[z];exact aJ _))];exact On _ _ k3
       . have h6:=(om.same On).put er (On _ _ jb) e6;have ef:(λq'=>if q' < q+1 then W3 i j b (tb c q')else tb c q')=λq'=>if q'=q then W3 i j b (tb c q)else if q' < q then W3 i j b (tb c q')else tb c q':=by
          funext q';by_cases z:q'=q
          . rw[if_pos z,z,if_pos Y]
          . by_cases z2:q' < q
            . rw[if_neg z,if_pos z2,if_pos Y]
            . rw[if_neg z,if_neg z2,if_neg Y]
         rw[ef];exact h6
     . rintro σ G3 ⟨kB,rfl,s3,k3,om⟩;refine⟨⟨_,o7.of k3,by rw[af];omega⟩,?_⟩;subst xE;intro xR xE;have e:=om.rows;rw[el]at e;have e:i3 (λr u H=>Qp R n (W3 i j b (tb c r)) u H) (rs.map V.ref) n G3:=⟨e.1,λr hr=>by
        obtain⟨u,a,b⟩:=e.2 r hr
        (try dsimp only at b)
        rw[if_pos hr]at b;exact⟨u,a,b⟩⟩
       clear om pV k2 s2 vq;revert k3 e;generalize rs.map V.ref=ys;intro k3 e;have yl:=e.1;obtain⟨ui',oy,rz,qK,rfl,nM,ei⟩:=e.2 i hi;obtain⟨uj',uA,rq,qJ,rfl,pN,ej⟩:=e.2 j hj;refine vb U U (zf ⟨U,U,o7.of k3,B0 uA,?_⟩);subst xE;intro xR xE;refine vb U U (zf ⟨U,U,o7.of k3,B0 oy,Z U ⟨.lst rz,.lst rq,za ⟨qK,qJ,U,U,U,o7.of nM,o7.of pN,o6 (n:=n) (λk fj G4=>h9 G3 G4/\i3 (λk u H=>R.is H u (R.S.add (W3 i j b (tb c i) k) (R.S.mul (R.F.neg b) (W3 i j b (tb c j) k)))) fj k G4) Y ⟨h9.refl _,i3.nil⟩ (λj ys G q=>q.2.1) ?_ ?_ ?_⟩⟩⟩)
       . rintro k' fj G4 iP ⟨q4,e4⟩;obtain⟨xu,yd,pxu⟩:=ei.2 k' iP;obtain⟨yu,yc,pyu⟩:=ej.2 k' iP;refine⟨⟨qK,qJ,xu,yu,o7.of (q4 _ _ nM),o7.of (q4 _ _ pN),yd,yc⟩,λy' H' hy=>?_⟩;obtain⟨pp,x',y',rfl,np,rfl,f1,f2⟩:=hy;have e1:=f1 _ (o7.of (q4 _ _ nM));rw[yd]at e1;cases e1;have e2:=f2 _ (o7.of (q4 _ _ pN));rw[yc]at e2;cases e2;have t5:=c6 (o:=.tup [xu,yu]) np;have rf:=q4.trans t5;have u9:=(sG.trans (s3.trans rf)).t;have uq:=s9.t.trans u9;have z1:∀r,r < n->R.S.sz (m+(m+m)+1) (W3 i j b (tb c r) k'):=λr hr=>c0w hi hj zb (zA r hr) k' iP;refine⟨pp,Z U ⟨l9.of b9,U,za ⟨U,za ⟨U,U,⟨[some _,some _],U,U⟩,vc U U U (vb U U ⟨R,zL nm p so cv yu (R.F.neg b) _ m (m+(m+m)+1) ⟨hS,U,⟨eI.same uq,R.same u9 f9,R.same rf.t pyu,zc,z1 j hj,hz.le Y⟩,λtv G6 s7 f7=>?_⟩⟩)⟩⟩⟩⟩;refine⟨R,zL nm p so xu tv _ _ (m+(m+m)+1) (m+(m+(m+m)+1)) ⟨hS,U,⟨eI.same (uq.trans s7.t),R.same (rf.trans s7).t pxu,f7,z1 i hi,R.S.sz_mul _ _ _ _ zc (z1 j hj),hz.le Y⟩,λav G7 s8 f8=>?_⟩⟩;exact⟨q4.trans (t5.trans (s7.trans s8)),(e4.mono λ_ _ _ z=>R.same (t5.trans (s7.trans s8)).t z).snoc f8⟩
       . rintro fj G4 ⟨q4,e4⟩;exact⟨qK,qJ,o7.of (q4 _ _ nM),o7.of (q4 _ _ pN),.inl ei.1.symm⟩
       . rintro fj G4 z2 ⟨q4,e4⟩ kI;have t5:=c6 (o:=.lst fj) kI;have k5:=b9 (H:=G4) (a:=z2) (o:=.lst fj);have e5:i3 (λk u H=>R.is H u (R.S.add (W3 i j b (tb c i) k) (R.S.mul (R.F.neg b) (W3 i j b (tb c j) k)))) fj n (upd G4 z2 (.lst fj)):=e4.mono λ_ _ _ z=>R.same t5.t z;have nzz:z2≠lp:=λe=>by rw[e,q4 _ _ k3]at kI;cases kI
         revert t5 k5 e5;generalize upd G4 z2 (.lst fj)=G5;intro t5 k5 e5;have mN:=q4.trans t5;have rS:=mN _ _ k3;refine vb U U ⟨lp,ys,(i:Int),i,U,U,rS,(by rw[yl];exact Gk hi),?_⟩;have tl:=y6 (o:=.lst (ys.set i (.ref z2))) rS;have t6:h9 G (upd G5 lp (.lst (ys.set i (.ref z2)))):=Ag (s3.trans mN) nlG;have nC:=b9 (H:=G5) (a:=lp) (o:=.lst (ys.set i (.ref z2)));have vB:upd G5 lp (.lst (ys.set i (.ref z2))) z2=some (.lst fj):=by rw[l6 nzz];exact k5
         have e6:i3 (λk u H=>R.is H u (R.S.add (W3 i j b (tb c i) k) (R.S.mul (R.F.neg b) (W3 i j b (tb c j) k)))) fj n (upd G5 lp (.lst (ys.set i (.ref z2)))):=e5.mono λ_ _ _ x=>R.same tl x;have eR:i3 (λr u H=>Qp R n (Om i j b (R.F.neg b) (tb c) r) u H) (ys.set i (.ref z2)) n (upd G5 lp (.lst (ys.set i (.ref z2)))):=by
          refine⟨by rw[bJ,yl],λr gv=>?_⟩;by_cases er:r=i
          . subst er;refine⟨.ref z2,cg (by rw[yl];exact gv),?_⟩;dsimp only;rw[show Om r j b (R.F.neg b) (tb c) r=λk=>R.S.add (W3 r j b (tb c r) k) (R.S.mul (R.F.neg b) (W3 r j b (tb c j) k))from if_pos rfl];exact⟨z2,fj,U,vB,e6⟩
          . obtain⟨u,eu,pu⟩:=e.2 r gv;refine⟨u,by rw[bL (Ne.symm er)];exact eu,?_⟩;dsimp only;rw[show Om i j b (R.F.neg b) (tb c) r=W3 i j b (tb c r)from if_neg er];obtain⟨r1,us1,rfl,h1,h2⟩:=pu;exact⟨r1,us1,U,by rw[l6 (e0o hS Y k3 oy nM h1 h2)];exact mN _ _ h1,h2.mono λ_ _ _ x=>R.same (mN.t.trans tl) x⟩
         clear q4 t5 k5 e5 rS mN tl vB e6 e k3 e4;revert t6 nC eR;generalize upd G5 lp (.lst (ys.set i (.ref z2)))=G6;intro t6 nC eR;have kma:=t6 _ _ kM;subst xE;refine Z U ⟨.inl ⟨U,_,o7.of kma⟩,U,Z U ⟨lp,U,⟨_,o7.of nC⟩,o6 (n:=n) (λr zs G7=>h9 G6 G7/\i3 (λr u H=>i0 R n (Om i j b (R.F.neg b) (tb c) r) u H) zs r G7) Y ⟨h9.refl _,i3.nil⟩ (λj ys H2 q=>q.2.1) ?_ ?_ ?_⟩⟩
         . rintro r zs G7 gv ⟨q7,e7⟩;obtain⟨u,eu,pu⟩:=eR.2 r gv;refine Fp (o7.of (q7 _ _ nC)) eu ?_;obtain⟨up,mH,rfl,gY,eU⟩:=Qp.same q7 pu;refine⟨⟨[some _],U,U⟩,Z U ⟨up,mH,U,.inl ⟨o7.of gY,λtz ju=>?_⟩⟩⟩;have t8:=c6 (o:=.tup mH) ju;exact⟨q7.trans t8,(e7.mono λ_ _ _ x=>i0.same t8.t x).snoc ⟨tz,mH,U,b9,eU.mono λ_ _ _ x=>R.same t8.t x⟩⟩
         . rintro zs G7 ⟨q7,e7⟩;exact⟨_,o7.of (q7 _ _ nC),by rw[eR.1];exact ae _⟩
         . rintro zs G7 lz ⟨q7,e7⟩ iJ;have t8:=c6 (o:=.lst zs) iJ;refine⟨lz,zs,U,.inl ⟨o7.of b9,λtz ju=>?_⟩⟩;have t9:=t8.trans (c6 (o:=.tup zs) ju);have lC:y7 R n n (Om i j b (R.F.neg b) (tb c)) (.ref tz) (upd (upd G7 lz (.lst zs)) tz (.tup zs)):=⟨tz,zs,U,b9,e7.mono λ_ _ _ x=>i0.same t9.t x⟩;have gC:=t6.trans (q7.trans t9);revert lC gC;generalize upd (upd G7 lz (.lst zs)) tz (.tup zs)=G8;intro lC gC;have iM:=gC _ _ kM;have eu:=eM.1;have et:=eT.1;refine⟨ma,us,V.ref tz,U,U,iM,Y,?_⟩;have nx:=y6 (o:=.lst (us++[V.ref tz])) iM;exact zf ⟨us++[V.ref tz],U,Ag (sG.trans gC) iZ,b9,(eM.mono λ_ _ _ x=>y7.same nx (y7.same gC.t x)).snoc (y7.same nx lC)⟩
 . rintro σ G ⟨gW,iW,kB,oP,us,rfl,sG,kM,eM⟩;subst xE;rw[eT.1]at eM;refine vb U U ⟨fp,Z U (.inl ⟨o7.of (sG _ _ rX),λq1 pA=>?_⟩)⟩;refine E6 (o:=.tup (ss.set j iI)) pA λG1 t1 k1=>?_;refine Z U ⟨ma,us,U,.inl ⟨o7.of (t1 _ _ kM),λq2 rH=>?_⟩⟩;refine E6 (o:=.tup us) rH λG2 t2 k2=>?_;refine Z U ⟨gp,Z U (.inl ⟨o7.of ((sG.trans (t1.trans t2)) _ _ kG),λq3 pq=>?_⟩)⟩;refine E6 (o:=.tup (es.set i jr)) pq λG3 t3 k3=>?_;refine⟨sL,λq4 rG=>?_⟩;have t4:=c6 (o:=.tup [vT l,V.ref q1,V.ref q2,V.ref q3]) rG;have jP:=t1.trans (t2.trans (t3.trans t4));exact k _ _ (s9.trans (sG.trans jP)) ⟨q4,_,_,Z U ⟨b9,⟨q1,Z U ⟨(t2.trans (t3.trans t4)) _ _ k1,uI.mono λ_ _ _ z=>R.same (sG.trans jP).t z⟩⟩,⟨q2,us,U,(t3.trans t4) _ _ k2,eM.mono λ_ _ _ x=>y7.same jP.t x⟩,⟨q3,Z U ⟨t4 _ _ k3,eG.mono λ_ _ _ z=>R.same (sG.trans jP).t z⟩⟩⟩⟩
def Uv(ub:Bool)(x y:V):Ry [x,y] (if ub=true then 1 else 0)=some (if ub=true then y else x):=by cases ub <;>rfl
def RowW(R:g9 Pr w K mg base)(n:Nat)(ub:Bool)(x:Nat->R.S.W)(v:V)(H:Hp):Prop:=∃y,i0 R (n+1) y v H/\(∀j,j < n->y j=x j)/\R.B.cb 12 48 (y n)/\(ub=false->y n=R.S.zero)
theorem RowW.same{R:g9 Pr w K mg base}{n:Nat}{ub:Bool}{x:Nat->R.S.W}{v:V}{H H':Hp}(s:x4 H H')(h:RowW R n ub x v H):RowW R n ub x v H':=by
 obtain⟨y,h1,h2⟩:=h;exact⟨y,i0.same s h1,h2⟩
def SU(R:g9 Pr w K mg base)(n:Nat)(ub:Bool)(A:Nat->Nat->R.S.W)(v:V)(H:Hp):Prop:=∃B,y7 R (n+1) (n+1) B v H/\(∀i,i < n->∀j,j < n->B i j=A i j)/\(∀i,i<=n->R.B.cb 12 48 (B n i)/\R.B.cb 12 48 (B i n))/\(ub=true->∀j,j < n->B n j=R.S.zero)/\(ub=false->∀i,i < n->B i n=R.S.zero)
theorem SU.same{R:g9 Pr w K mg base}{n:Nat}{ub:Bool}{x:Nat->Nat->R.S.W}{v:V}{H H':Hp}(s:x4 H H')(h:SU R n ub x v H):SU R n ub x v H':=by
 obtain⟨y,h1,h2⟩:=h;exact⟨y,y7.same s h1,h2⟩
def SW(R:g9 Pr w K mg base)(ub:Bool):Nat->V->Hp->Prop:=λ_ u H=>∃x,R.is H u x/\R.B.cb 12 48 x/\(ub=true->x=R.S.zero)
theorem SW.same{R:g9 Pr w K mg base}{ub:Bool}{i:Nat}{v:V}{H H':Hp}(s:x4 H H')(h:SW R ub i v H):SW R ub i v H':=by
 obtain⟨x,h1,h2⟩:=h;exact⟨x,R.same s h1,h2⟩
def TJ(T:Txt K mg t):Sp:=λvs H Q _=>∃(R:g9 Pr w K mg base),∃nm p,∃(a:Addr),∃so mv l,∃(n:Nat),∃(se:Bool),∃st tb en,So T R nm p/\vs=[.ref a,so,mv,.bl se]/\(Dr H a/\F5 H so nm p/\P5 l/\n<=50/\l5 R l n st tb en mv H)/\
 ∀v H' dY bY ed,j9 a H H'->Dr H' a->l5 R l (n+1) dY bY ed v H'->((∀i,i < n->dY i=st i)/\(∀c,c < l.length->∀i,i < n->∀j,j < n->bY c i j=tb c i j)/\∀i,i < n->ed i=en i)->
  (R.B.cb 12 48 (dY n)/\(∀c,c < l.length->∀i,i<=n->R.B.cb 12 48 (bY c n i)/\R.B.cb 12 48 (bY c i n))/\R.B.cb 12 48 (ed n))->
  ((ed n=R.S.zero/\∀c,c < l.length->∀j,j < n->bY c n j=R.S.zero)\/(dY n=R.S.zero/\∀c,c < l.length->∀i,i < n->bY c i n=R.S.zero))->Q v H'
def Ng(T:Txt K mg t):r8 Pr w K mg base E7 42 t.w0w t.u0m a0e (TJ (w:=w) (base:=base) T):=by
 refine T.u0b.F.okA B3 λ_ _ _ _ H vs _ _ hr h=>?_;obtain⟨R,nm,p,a,so,mv,l,n,se,st,tb,en,hS,rfl,⟨hD,eI,L,hn,hM⟩,k⟩:=h;obtain⟨mp,sv,tv,ev,rfl,hm,h1,⟨tp,tabs,rfl,fA,eT⟩,h3⟩:=id hM;refine⟨_,(c8 (Z4 (O 2) (J0 U (j8 (gN 4 B3.nd) (j8 (gN 5 B3.nd) (j8 (gN 6 B3.nd) (j8 (gN 7 B3.nd) D3)))))) (c8 (sT 8 B3.nd (l4 r9 bR T.z_len PySem.boot_len (x5 (O 5)))) (c8 (M6 (i:=9) B3.nd U (Or.inr U) (C1 (AS T) hr.m T.x0j (D9 (O 1) a9))) (c8 (sT 10 B3.nd (D0 J1)) (c8 (C6 ar U (G0 (O 6)) (gN 11 B3.nd) (c8 (sT 12 B3.nd (D0 J1)) (c8 (C6 ar U (G0 (O 11)) (gN 13 B3.nd) (c4 (E8 (S3 bf bA bB F8 (O 12) (x5 (l7 Bu (O 13) (C9 (x5 (B5 z9 (D0 (D9 (O 9) (C1 (F7 T) hr.m T.r0o (D9 (O 0) (O 1))))) (j6 Be bR T.z_int boot_int (x5 (Pc (O 3))))))))))))) (c8 (V3 (i₀:=14) (xs:=[BV]) B3.nd U (Or.inl U) U (oC n0N (a8 Y9)) (C4 U T.z_range (x5 (O 8))) (gL 17 n5N) (x9 (F7 (w:=w) (base:=base) T) hr.m U T.r0o.m T.r0o.F.kp T.r0o.b .nil B4 (D9 (O 0) (O 1)))) (c8 (y8 (U7 (O7 (O 3))) (c4 (V3 (i₀:=14) (xs:=[BV]) B3.nd U (Or.inl U) U (oC n0N (a8 Y9)) (C4 U T.z_range (x5 (O 8))) (gL 17 n5N) (O 9))) o8) (c8 (E8 (S3 bf bA bB F8 (O 12) (x5 (j6 h7 bR T.z_tuple boot_tuple (x5 (l7 Lj (O 14) (D0 (x5 (C1 (F7 T) hr.m T.r0o (D9 (O 0) (O 1))))))))))) (c4 (E8 (S3 bf bA bB F8 (O 10) (x5 (j6 h7 bR T.z_tuple boot_tuple (x5 (O 12))))))))))))) (c8 (sT 15 B3.nd (B5 z9 (D0 (D9 (C1 (F7 T) hr.m T.r0o (D9 (O 0) (O 1))) (O 9))) (j6 Be bR T.z_int boot_int (x5 (O 3))))) (c8 (sT 16 B3.nd (B5 z9 (D0 (D9 (O 9) (C1 (F7 T) hr.m T.r0o (D9 (O 0) (O 1))))) (j6 Be bR T.z_int boot_int (x5 (O 3))))) (c4 (c9 (C9 (Jg (O 4) (l7 Bu (O 5) (C9 (x5 (O 15)))) (j6 h7 bR T.z_tuple boot_tuple (x5 (O 10))) (l7 Bu (O 7) (C9 (x5 (O 16))))))))))))))),?_⟩;dsimp only[z8,u7,y9,z5];intro xR xE;have zl:=sZ;have l3:=L.h3;refine Z U ⟨mp,Z U ⟨l9.of hm,U,za ⟨U,za ⟨U,za ⟨U,za ⟨U,U,?_⟩⟩⟩⟩⟩⟩;subst xE;intro xR xE;refine Z U (za ⟨U,h1.len,?_⟩);subst xE;intro xR xE;refine Z U ⟨R,zB nm p so 0 ⟨hS,U,⟨eI,bD,bD⟩,λzv H2 x0 s1 f2 ez _ _ _=>?_⟩⟩;cases ez rfl;have c0:R.B.cb 12 48 R.S.zero:=R.B.mono _ _ _ _ (aY _) (R.B.zero 12 bD);have d2:=hD.same s1;have q2:j9 a H H2:=.of s1;obtain⟨ub,pJ⟩:∃ub,(!se)=ub:=⟨_,U⟩;subst xE;intro xR xE;refine⟨sL,λma iZ=>?_⟩;have s3:=c6 (o:=.lst ([]:List V)) iZ;have k3:=b9 (H:=H2) (a:=ma) (o:=.lst []);have d3:=d2.same s3;have na:ma≠a:=d2.ne iZ;revert s3 k3 d3;generalize upd H2 ma (.lst [])=H3;intro s3 k3 d3;have q3:j9 a H H3:=q2.trans (.of s3);have nma0:∀{G},j9 a H3 G->∀b o,b≠a->H2 b=some o->b≠ma:=λ_ b o _ e z=>by rw[z,iZ]at e;cases e
 subst xE;intro xR xE;refine Z U ⟨tp,U,⟨_,l9.of (q3.tt hD _ _ fA)⟩,BA (K:=K) (a:=tp) (xs:=tabs) (λi σ G=>∃oQ mG gW iW us,σ=[sr a,some so,sr mp,some (.bl se),some (vT l),some sv,sr tp,some ev,si n,some zv,sr ma,oQ,mG,gW,iW,none,none]/\j9 a H2 G/\Dr G a/\G ma=some (.lst us)/\i3 (λc u H=>SU R n ub (tb c) u H) us i G) ⟨_,_,_,_,[],U,.of s3,d3,k3,i3.nil⟩ (λi σ G _ ⟨_,_,_,_,_,_,q,_⟩=>l9.of ((q2.trans q).tt hD _ _ fA)) ?_ ?_⟩
 . rintro i y σ G hi ⟨oQ,mG,gW,iW,us,rfl,sG,dG,kG,eG⟩;obtain⟨il,O⟩:=eT.at hi;intro xR xE;refine⟨sL,λra kJ=>?_⟩;have s4:=c6 (o:=.lst ([]:List V)) kJ;have k4:=b9 (H:=G) (a:=ra) (o:=.lst []);have d4:=dG.same s4;have nr:ra≠a:=dG.ne kJ;have nrm:ra≠ma:=λz=>by rw[z,kG]at kJ;cases kJ
   revert s4 k4 d4;generalize upd G ra (.lst [])=G1;intro s4 k4 d4;show L3 12 (.ref ra) [sr a,some so,sr mp,some (.bl se),some (vT l),some sv,sr tp,some ev,si n,some zv,sr ma,some y,mG,gW,iW,none,none] G1 _;obtain⟨yp,qZ,rfl,nF,eY⟩:=O;have u0:=(q2.trans sG).tt hD;have jz:=u0 _ _ nF;subst xE;intro xR xE;refine Z U ⟨yp,U,⟨_,l9.of (s4 _ _ jz)⟩,BA (K:=K) (a:=yp) (xs:=qZ) (λi' σ G2=>∃gW gc,σ=[sr a,some so,sr mp,some (.bl se),some (vT l),some sv,sr tp,some ev,si n,some zv,sr ma,sr yp,sr ra,gW,iW,none,none]/\j9 a G G2/\Dr G2 a/\G2 ra=some (.lst gc)/\i3 (λi' u H=>RowW R n ub (tb i i') u H) gc i' G2) ⟨_,[],U,.of s4,d4,k4,i3.nil⟩ (λi' σ G2 _ ⟨_,_,_,q,_⟩=>l9.of (q.tt dG _ _ jz)) ?_ ?_⟩
   . rintro i' y' σ G2 iq ⟨gW,gc,rfl,kD,kr,pD,mz⟩;obtain⟨il',pv'⟩:=eY.at iq;obtain⟨yp',cs,rfl,sj,eC⟩:=pv';have u2:=kD.tt dG;have hy2:=u2 _ _ (u0 _ _ sj);refine Z U ⟨.inl ⟨U,_,o7.of pD⟩,?_⟩;refine vc U U U (Z U ⟨R,zB nm p a so ⟨hS,U,⟨kr,(eI.same u0).same u2⟩,λwv G3 wx s5 d5 iw cw=>?_⟩⟩);have t5:=s5.tt kr;have f5:=R.same t5 (R.same u2 (R.same (sG.tt d2) f2));have rV:=s5 _ _ nr pD;refine⟨sL,λlp jw=>?_⟩;refine E6 (o:=.lst [zv,wv]) jw λG4 s6 k6=>?_;refine vb U U (.inr ⟨ub,by rw[pJ],zf ⟨U,U,o7.of k6,Uv ub zv wv,?_⟩⟩);refine⟨sL,λzp mR=>?_⟩;refine E6 (o:=.tup [if ub=true then wv else zv]) mR λG5 s7 k7=>?_;have b0w:=s6.trans s7;refine⟨yp',zp,cs,Z U ⟨U,b0w _ _ (t5 _ _ hy2),k7,(by rw[eC.1];show n+1<=sizeLine;omega),λpz G6 s8 k8=>?_⟩⟩;have Wa:=b0w.trans s8;have d8:=d5.same Wa;have iL:=Wa _ _ rV;have el:=mz.1;have e1:=eY.1;refine⟨ra,gc,V.ref pz,U,U,iL,Y,?_⟩;have nx:=y6 (o:=.lst (gc++[V.ref pz])) iL;have sx:j9 ra G6 (upd G6 ra (.lst (gc++[V.ref pz]))):=j9.upd;have T8:x4 G2 G6:=t5.trans Wa.t;refine⟨_,gc++[V.ref pz],U,λb o nb e=>?_,d8.put nr,b9,(mz.mono λ_ _ _ h=>RowW.same nx (RowW.same T8 h)).snoc (RowW.same nx ?_)⟩
     . exact sx b o (j7 e kJ) (Wa b o (s5 b o nb (kD b o nb e)))
     . refine⟨λj=>if j < n then tb i i' j else(if ub=true then wx else R.S.zero),⟨pz,Z U ⟨k8,by rw[aq,eC.1];rfl,λj hj=>?_⟩⟩,λj hj=>if_pos hj,?_,λe=>?_⟩
       . by_cases z:j < n
         . obtain⟨u,eu,pu⟩:=eC.2 j z;refine⟨u,by rw[aW (by rw[eC.1];exact z)];exact eu,?_⟩;dsimp only;rw[if_pos z];exact R.same (u0.trans (u2.trans T8)) pu
         . refine⟨if ub=true then wv else zv,by rw[ba (by rw[eC.1];omega),eC.1,show j - n=0 by omega];rfl,?_⟩;dsimp only;rw[if_neg z];cases ub with
           | true=>exact R.same Wa.t iw
           | false=>exact R.same Wa.t f5
       . dsimp only;rw[if_neg (aM n)];cases ub with
         | true=>exact cw
         | false=>exact c0
       . dsimp only;rw[if_neg (aM n),e];rfl
   . rintro σ G2 ⟨gW,gc,rfl,kD,kr,pD,mz⟩;rw[eY.1]at mz;have u2:=kD.tt dG;obtain⟨qS,vd,rfl,sI,eS⟩:=id h1;have hsv2:=u2 _ _ (u0 _ _ sI);have nra2:=kJ;subst xE;intro xR xE;refine vb U U ⟨Y,Y,o6 (n:=n) (λj ys G3=>j9 a G2 G3/\Dr G3 a/\i3 (λ_ u H=>∃x,R.is H u x/\R.B.cb 12 48 x) ys j G3) Y ⟨j9.refl _ _,kr,i3.nil⟩ (λj ys H2 q=>q.2.2.1) ?_ ?_ ?_⟩
     . rintro j ys G3 hj ⟨s5,d5,e5⟩;have t5:=s5.tt kr;refine JA (by omega) ?_;refine⟨⟨[some _],U,U⟩,vb U U ⟨R,zB nm p a so ⟨hS,U,⟨d5,((eI.same u0).same u2).same t5⟩,λwv G4 wx s6 d6 iw cw=>?_⟩⟩⟩;exact⟨s5.trans s6,d6,(e5.mono λ_ _ _ ⟨x,z1,z2⟩=>⟨x,R.same (s6.tt d5) z1,z2⟩).snoc ⟨wx,iw,cw⟩⟩
     . rintro ys G3 _;show(n:Int).toNat<=n;omega
     . rintro gq G3 lK ⟨s5,d5,e5⟩ vk;have s6:=c6 (o:=.lst gq) vk;have k6:=b9 (H:=G3) (a:=lK) (o:=.lst gq);have e6:i3 (λ_ u H=>∃x,R.is H u x/\R.B.cb 12 48 x) gq n (upd G3 lK (.lst gq)):=e5.mono λ_ _ _ ⟨x,z1,z2⟩=>⟨x,R.same s6.t z1,z2⟩;have d6:=d5.same s6;have rD:lK≠a:=d5.ne vk;have mM:j9 a G2 (upd G3 lK (.lst gq)):=s5.trans (.of s6);clear s5 d5 e5;revert s6 k6 e6 d6 mM;generalize upd G3 lK (.lst gq)=yA;intro s6 k6 e6 uJ mM;clear s6;subst xE;intro xR xE;refine(λ(fc:∀(lL:Addr) (ys:List V) (G4:Hp),G4 lL=some (.lst ys)->i3 (SW R ub) ys n G4->Dr G4 a->lL≠a->j9 a G2 G4->(?F0:L2.St->Hp->Prop) [sr a,some so,sr mp,some (.bl se),some (vT l),sr qS,sr tp,some ev,si n,some zv,sr ma,sr yp,sr ra,gW,some (.ref lL),none,none] G4)=>?main0) ?rest0
       case main0=>
        rcases(by cases se <;>simp:se=true\/se=false)with e | e
        . have eu:ub=false:=by rw[<- pJ,e];rfl
          refine vb U U ?_;refine a0u (by rw[e];rfl) ?_;exact fc lK gq yA k6 (e6.mono λ_ _ _ ⟨x,z1,z2⟩=>⟨x,z1,z2,λe=>by rw[eu]at e;cases e⟩) uJ rD mM
        . refine vb U U ?_;refine a0t (by rw[e];rfl) ?_;have qc:=R.same (mM.tt kr) (R.same u2 (R.same (sG.tt d2) f2));refine vb U U ⟨Y,Y,o6 (n:=n) (λj ys G3=>G3=yA/\i3 (SW R ub) ys j G3) Y ⟨U,i3.nil⟩ (λj ys H2 q=>q.2.1) ?_ ?_ ?_⟩
          . rintro j ys G3 hj ⟨rfl,e5⟩;refine JA (by omega) ?_;exact⟨⟨[some _],U,U⟩,Z U ⟨U,e5.snoc ⟨_,qc,c0,λ_=>rfl⟩⟩⟩
          . rintro ys G3 _;show(n:Int).toNat<=n;omega
          . rintro ys G3 zl1 ⟨rfl,e5⟩ mS;have s7:=c6 (o:=.lst ys) mS;exact fc zl1 ys _ b9 (e5.mono λ_ _ _ z=>SW.same s7.t z) (uJ.same s7) (uJ.ne mS) (mM.trans (.of s7))
       case rest0=>
       intro lL ys G4 k6 e6 d6 nza q6;have t6:=q6.tt kr;have nu:=q6 _ _ nr pD;subst xE;intro xR xE;refine Z U ⟨.inl ⟨U,_,o7.of nu⟩,?_⟩;refine vc U U U ⟨R,zB nm p a so ⟨hS,U,⟨d6,((eI.same u0).same u2).same t6⟩,λwv G5 wx s7 d7 iw cw=>?_⟩⟩;have t7:=s7.tt d6;have k7:=s7 _ _ nza k6;have rT:=s7 _ _ nr nu;refine⟨sL,λl1 nl1=>?_⟩;refine E6 (o:=.lst [wv]) nl1 λG6 s8 k8=>?_;refine⟨lL,l1,ys,[wv],U,U,s8 _ _ k7,k8,(by rw[e6.1];show n+1<=sizeLine;omega),λl2 nl2=>?_⟩;refine E6 (o:=.lst (ys++[wv])) nl2 λG7 s9 k9=>?_;refine⟨l2,ys++[wv],U,.inl ⟨o7.of k9,λzp mR=>?_⟩⟩;refine E6 (o:=.tup (ys++[wv])) mR λG8 Wb nE=>?_;have S8:=s8.trans (s9.trans Wb);have iL:=S8 _ _ rT;have el:=mz.1;refine⟨ra,gc,V.ref zp,U,U,iL,Y,?_⟩;have nx:=y6 (o:=.lst (gc++[V.ref zp])) iL;have sx:j9 ra G8 (upd G8 ra (.lst (gc++[V.ref zp]))):=j9.upd;have kL:=b9 (H:=G8) (a:=ra) (o:=.lst (gc++[V.ref zp]));have d9:=(d7.same S8).put (o:=.lst (gc++[V.ref zp])) nr;have T9:x4 G2 (upd G8 ra (.lst (gc++[V.ref zp]))):=t6.trans (t7.trans (S8.t.trans nx));have uH:=mz.mono λ_ _ _ (h:RowW R n ub _ _ _)=>RowW.same T9 h;obtain⟨ls,vN⟩:=Hk R.S.zero (P:=λ_ x u H=>R.is H u x/\R.B.cb 12 48 x/\(ub=true->x=R.S.zero)) e6;have tj:i0 R (n+1) (λj=>if j < n then ls j else wx) (.ref zp) (upd G8 ra (.lst (gc++[V.ref zp]))):=by
        refine⟨zp,Z U ⟨nx _ _ nE,by rw[aq,e6.1];rfl,λj hj=>?_⟩⟩;by_cases z:j < n
        . obtain⟨u,eu,pu⟩:=vN.2 j z;refine⟨u,by rw[aW (by rw[e6.1];exact z)];exact eu,?_⟩;dsimp only;rw[if_pos z];exact R.same (t7.trans (S8.t.trans nx)) pu.1
        . refine⟨wv,by rw[ba (by rw[e6.1];omega),e6.1,show j - n=0 by omega];rfl,?_⟩;dsimp only;rw[if_neg z];exact R.same (S8.t.trans nx) iw
       have mK:j9 a G (upd G8 ra (.lst (gc++[V.ref zp]))):=λb o nb e=>sx b o (j7 e kJ) (S8 b o (s7 b o nb (q6 b o nb (kD b o nb e))));revert kL d9 T9 uH tj mK;generalize upd G8 ra (.lst (gc++[V.ref zp]))=G9;intro kL d9 T9 uH tj mK;have ny:=mK _ _ na kG;subst xE;refine Z U ⟨.inl ⟨U,_,o7.of ny⟩,Z U ⟨ra,Z U (.inl ⟨o7.of kL,λtz ju=>?_⟩)⟩⟩;refine E6 (o:=.tup (gc++[V.ref zp])) ju λuO SY rY=>?_;have jX:=SY _ _ ny;have eu:=eG.1;have et:=eT.1;refine⟨ma,us,V.ref tz,U,U,jX,Y,?_⟩;have vm:=y6 (o:=.lst (us++[V.ref tz])) jX;have sx2:j9 ma uO (upd uO ma (.lst (us++[V.ref tz]))):=j9.upd;have T10:x4 G (upd uO ma (.lst (us++[V.ref tz]))):=(mK.tt dG).trans (SY.t.trans vm);refine zf ⟨us++[V.ref tz],U,λb o nb e=>?_,(d9.same SY).put na,b9,(eG.mono λ_ _ _ h=>SU.same T10 h).snoc (SU.same vm ?_)⟩
       . exact sx2 b o (j7 e iZ) (SY b o (mK b o nb (sG b o nb e)))
       . obtain⟨f,hf⟩:=Hk (λ_=>R.S.zero) (P:=λi' y u H=>i0 R (n+1) y u H/\(∀j,j < n->y j=tb i i' j)/\R.B.cb 12 48 (y n)/\(ub=false->y n=R.S.zero)) uH;have tM:∀r,r < n->(∀j,j < n->f r j=tb i r j)/\R.B.cb 12 48 (f r n)/\(ub=false->f r n=R.S.zero):=λr hr=>by
          obtain⟨_,_,q⟩:=hf.2 r hr;exact q.2
         have jZ:∀r,r < n->R.B.cb 12 48 (ls r)/\(ub=true->ls r=R.S.zero):=λr hr=>by
          obtain⟨_,_,q⟩:=vN.2 r hr;exact q.2
         have bn:∀j,(λr=>if r < n then f r else λj=>if j < n then ls j else wx) n j=if j < n then ls j else wx:=λj=>by
          dsimp only;rw[if_neg (aM n)]
         have br:∀r,r < n->(λr=>if r < n then f r else λj=>if j < n then ls j else wx) r=f r:=λr hr=>if_pos hr;refine⟨λr=>if r < n then f r else λj=>if j < n then ls j else wx,⟨tz,Z U ⟨rY,by rw[aq,el];rfl,λr hr=>?_⟩⟩,λr hr j hj=>?_,λr hr=>?_,λe j hj=>?_,λe r hr=>?_⟩
         . by_cases z:r < n
           . obtain⟨u,eu,pu⟩:=hf.2 r z;refine⟨u,by rw[aW (by rw[el];exact z)];exact eu,?_⟩;dsimp only;rw[if_pos z];exact i0.same SY.t pu.1
           . refine⟨.ref zp,by rw[ba (by rw[el];omega),el,show r - n=0 by omega];rfl,?_⟩;dsimp only;rw[if_neg z];exact i0.same SY.t tj
         . rw[br r hr];exact(tM r hr).1 j hj
         . rw[bn];constructor
           . split
             . rename_i z;exact(jZ r z).1
             . exact cw
           . by_cases z:r < n
             . rw[br r z];exact(tM r z).2.1
             . rw[show r=n by omega,bn,if_neg (aM n)];exact cw
         . rw[bn,if_pos hj];exact(jZ j hj).2 e
         . rw[br r hr];exact(tM r hr).2.2 e
 . rintro σ G ⟨oQ,mG,gW,iW,us,rfl,sG,dG,kG,eG⟩;rw[eT.1]at eG;have u0:=(q2.trans sG).tt hD;have fG:=R.same (sG.tt d2) f2;subst xE;intro xR xE;refine vb U U ⟨R,zB nm p a so ⟨hS,U,⟨dG,eI.same u0⟩,λwv G1 wx s4 d4 iw cw=>?_⟩⟩;have t4:=s4.tt dG;have md:=s4 _ _ na kG;refine Z U ⟨sL,λlp jw=>?_⟩;refine E6 (o:=.lst [wv,zv]) jw λG2 s5 k5=>?_;have iw2:=R.same s5.t iw;have wq:=R.same (t4.trans s5.t) fG;refine Z U (.inr ⟨se,U,zf ⟨U,U,o7.of k5,Uv se wv zv,?_⟩⟩);subst xE;intro xR xE;refine vc U U U ⟨R,zB nm p a so ⟨hS,U,⟨d4.same s5,(eI.same u0).same (t4.trans s5.t)⟩,λoO G3 wx2 s6 d6 iw3 cw3=>?_⟩⟩;have t6:=s6.tt (d4.same s5);have nB:=s6 _ _ na (s5 _ _ md);refine⟨sL,λlq mX=>?_⟩;refine E6 (o:=.lst [zv,oO]) mX λG4 s7 k7=>?_;refine Z U (.inr ⟨se,U,zf ⟨U,U,o7.of k7,Uv se zv oO,?_⟩⟩);obtain⟨bs,vV⟩:∃bs,(if se=true then zv else wv)=bs:=⟨_,U⟩;obtain⟨be,jh⟩:∃be,(if se=true then oO else zv)=be:=⟨_,U⟩;have mC:=t6.trans s7.t;obtain⟨xs,is,cs,zs⟩:∃xs,R.is G4 bs xs/\R.B.cb 12 48 xs/\(ub=false->xs=R.S.zero):=by
    rw[<- vV];cases se with
    | true=>exact⟨_,R.same mC wq,c0,λ_=>rfl⟩
    | false=>exact⟨_,R.same mC iw2,cw,λe=>by rw[<- pJ]at e;cases e⟩
   obtain⟨xe,ie,ce,ze⟩:∃xe,R.is G4 be xe/\R.B.cb 12 48 xe/\(ub=true->xe=R.S.zero):=by
    rw[<- jh];cases se with
    | true=>exact⟨_,R.same s7.t iw3,cw3,λe=>by rw[<- pJ]at e;cases e⟩
    | false=>exact⟨_,R.same mC wq,c0,λ_=>rfl⟩
   show L3 16 (if se=true then oO else zv) [sr a,some so,sr mp,some (.bl se),some (vT l),some sv,sr tp,some ev,si n,some zv,sr ma,oQ,mG,gW,iW,some (if se=true then zv else wv),none] G4 _;rw[vV,jh];have rW:=s7 _ _ nB;obtain⟨qS,vd,rfl,sI,eS⟩:=id h1;obtain⟨evp,evs,rfl,hev,eE⟩:=id h3;have U4:x4 H G4:=u0.trans (t4.trans (s5.t.trans mC));have X4:j9 a H G4:=q2.trans (sG.trans (s4.trans ((j9.of s5).trans (s6.trans (.of s7)))));have D4:=d6.same s7;have TG:=t4.trans (s5.t.trans mC);clear s4 s5 s6 s7 d6 d4 md nB t6 mC;subst xE;refine vc U U U ⟨sL,λzp mR=>?_⟩;refine E6 (o:=.tup [bs]) mR λG5 s7 k7=>?_;refine⟨qS,zp,vd,[bs],U,U,s7 _ _ (U4 _ _ sI),k7,(by rw[eS.1];show n+1<=sizeLine;omega),λsp G6 s8 k8=>?_⟩;refine Z U ⟨ma,us,U,.inl ⟨o7.of ((s7.trans s8) _ _ rW),λtq ntq=>?_⟩⟩;refine E6 (o:=.tup us) ntq λG7 s9 k9=>?_;have b0v:=s7.trans (s8.trans s9);refine vb U U ⟨sL,λzq nzq=>?_⟩;refine E6 (o:=.tup [be]) nzq λG8 Wb nE=>?_;have mL:=b0v.trans Wb;refine⟨evp,zq,evs,[be],U,U,mL _ _ (U4 _ _ hev),nE,(by rw[eE.1];show n+1<=sizeLine;omega),λep G9 SY rY=>?_⟩;refine⟨sL,λfp lV=>?_⟩;refine E6 (o:=.tup [vT l,V.ref sp,V.ref tq,V.ref ep]) lV λGF IH kN=>?_;have S9:=mL.trans (SY.trans IH);have U9:x4 H GF:=U4.trans S9.t;obtain⟨TB',vY⟩:=Hk (λ_ _=>R.S.zero) (P:=λc B u H=>y7 R (n+1) (n+1) B u H/\(∀i,i < n->∀j,j < n->B i j=tb c i j)/\(∀i,i<=n->R.B.cb 12 48 (B n i)/\R.B.cb 12 48 (B i n))/\(ub=true->∀j,j < n->B n j=R.S.zero)/\(ub=false->∀i,i < n->B i n=R.S.zero)) eG;have pT:=λc (hc:c < l.length)=>(vY.2 c hc).choose_spec.2.2;have ext:∀{x:Nat->R.S.W} {v:R.S.W} {vs:List V} {u:V} {z:Addr},i3 (λj u H=>R.is H u (x j)) vs n H->R.is GF u v->GF z=some (.tup (vs++[u]))->i0 R (n+1) (λj=>if j < n then x j else v) (.ref z) GF:=λ{x v vs u z} en iu kz=>by
    refine⟨z,Z U ⟨kz,by rw[aq,en.1];rfl,λj hj=>?_⟩⟩;by_cases z:j < n
    . obtain⟨u',eu,pu⟩:=en.2 j z;refine⟨u',by rw[aW (by rw[en.1];exact z)];exact eu,?_⟩;dsimp only;rw[if_pos z];exact R.same U9 pu
    . refine⟨u,by rw[ba (by rw[en.1];omega),en.1,show j - n=0 by omega];rfl,?_⟩;dsimp only;rw[if_neg z];exact iu
   refine k _ GF (λj=>if j < n then st j else xs) TB' (λj=>if j < n then en j else xe) (X4.trans (.of S9)) (D4.same S9) ⟨fp,_,_,Z U ⟨kN,ext eS (R.same S9.t is) ((s9.trans (Wb.trans (SY.trans IH))) _ _ k8),⟨tq,us,U,(Wb.trans (SY.trans IH)) _ _ k9,vY.mono λ_ _ _ q=>y7.same (TG.trans S9.t) q.1⟩,ext eE (R.same S9.t ie) (IH _ _ rY)⟩⟩ ⟨λi hi=>if_pos hi,λc hc=>(pT c hc).1,λi hi=>if_pos hi⟩ ⟨by rw[if_neg (aM n)];exact cs,λc hc=>(pT c hc).2.1,by rw[if_neg (aM n)];exact ce⟩ ?_;cases jA:ub with
   | true=>exact .inl ⟨by rw[if_neg (aM n)];exact ze jA,λc hc=>(pT c hc).2.2.1 jA⟩
   | false=>exact .inr ⟨by rw[if_neg (aM n)];exact zs jA,λc hc=>(pT c hc).2.2.2 jA⟩
def BD(i j q:Nat):Nat:=if q=j then i else if q=i then j else q
def FM{n i j q:Nat}(hi:i < n)(hj:j < n)(hq:q < n):BD i j q < n:=by
 unfold BD;by_cases h:q=j
 . rw[if_pos h];exact hi
 . rw[if_neg h];split <;>assumption
def MA(w:World)(K:aa)(mg:Str->Option Value)(base:Heap):Sp:=λvs H Q _=>∃(R:g9 Pr w K mg base),∃mv l,∃(n i j:Nat),∃st tb en,vs=[mv,.int (i:Nat),.int (j:Nat)]/\(l5 R l n st tb en mv H/\P5 l/\i < n/\j < n/\i≠j/\n<=60)/\
 ∀v H',h9 H H'->l5 R l n (λq=>st (BD i j q)) (λa q r=>tb a (BD i j q) (BD i j r)) (λq=>en (BD i j q)) v H'->Q v H'
def HP(T:Txt K mg t):r8 Pr w K mg base E7 40 t.s0p t.r0f ZX (MA w K mg base):=by
 refine T.r0i.F.okA E4 λ_ _ _ s H _ Q _ hr h=>?_;obtain⟨R,mv,l,n,i,j,st,tb,en,rfl,⟨hM,L,hi,hj,ne,hn⟩,k⟩:=h;obtain⟨mp,sv,tv,ev,rfl,hm,⟨sp,ss,rfl,fR,eS⟩,⟨tp,tabs,rfl,fA,eT⟩,⟨ep,es,rfl,jf,eE⟩⟩:=id hM;have l3:=L.h3;have sl:=sZ;have lS:=eS.1;refine⟨_,(c8 (Z4 (O 0) (J0 U (j8 (gN 3 E4.nd) (j8 (p9 (i:=4) E4.nd U (Or.inr U)) (j8 (gN 5 E4.nd) (j8 (p9 (i:=6) E4.nd U (Or.inr U)) D3)))))) (c8 (M6 (i:=7) E4.nd U (Or.inr U) (Sh U U T.z_list U T.z_range (x5 (l4 r9 bR T.z_len PySem.boot_len (x5 (O 4)))))) (c8 (Z4 (O 2) (Ct (O 7) (O 1) V7)) (c8 (Z4 (O 1) (Ct (O 7) (O 2) V7)) (c8 (sT 8 E4.nd (D0 J1)) (c8 (C6 ar U (G0 (O 5)) (p9 (i:=9) E4.nd U (Or.inr U)) (c4 (E8 (S3 bf bA bB F8 (O 8) (x5 (j6 h7 bR T.z_tuple boot_tuple (x5 (w5 (xs:=["_law_q"]) U (oC n3N (a8 K6)) (B6 (O 7)) (p9 (i:=10) (by show List.Nodup (n2N);decide +kernel) U (Or.inr U)) (j6 (show Ad _ (.type "tuple") (λxs H Q=>∃p ys,xs=[.ref p]/\((o7 K H p ys/\∀l,H l=none->Q (.ref l) (upd H l (.tup ys)))\/(l9 K H p ys/\Q (.ref p) H)))from h7) bR T.z_tuple boot_tuple (x5 (w5 (xs:=["_law_r"]) U (show Q2 n2N (rlS (a8 K6) _) _ from⟨U,dK,dK,dK,dK,dK⟩) (show PI _ _ _ (Ym K _)from B6 (O 7)) (p9 (i:=11) (by show List.Nodup ([X6,IL,GG,BJ,FH,FI,Ky,"_law_order",Kx,Bh,"_law_q","_law_r"]:List Str);decide +kernel) U (Or.inl U)) (B5 (show Ku _ (HC K)from g6) (B5 (show Ku _ (HC K)from g6) (O 9) (O 10)) (O 11))))))))))))) (c4 (c9 (C9 (Jg (O 3) (j6 h7 bR T.z_tuple boot_tuple (x5 (w5 (xs:=["_law_q"]) U (oC n3N (a8 K6)) (B6 (O 7)) (gL 10 n2N) (B5 (show Ku _ (HC K)from g6) (O 4) (O 10))))) (j6 h7 bR T.z_tuple boot_tuple (x5 (O 8))) (j6 h7 bR T.z_tuple boot_tuple (x5 (w5 (xs:=["_law_q"]) U (oC n3N (a8 K6)) (B6 (O 7)) (gL 10 n2N) (B5 (show Ku _ (HC K)from g6) (O 6) (O 10))))))))))))))),?_⟩;dsimp only[z8,u7,y9,z5];intro xR xE;refine Z U ⟨mp,Z U ⟨l9.of hm,U,za ⟨U,za ⟨U,za ⟨U,za ⟨U,U,?_⟩⟩⟩⟩⟩⟩;have hl:DA K (.ref sp) H n:=.inr ⟨_,l9.of fR,lS.symm⟩;subst xE;intro xR xE;refine Z U (za ⟨U,hl,?_⟩);refine⟨n,U,Y,λop rK=>?_⟩;have k1:=b9 (H:=H) (a:=op) (o:=.lst ((List.range n).map λi=>V.int (i:Nat)));have s1:=c6 (o:=.lst ((List.range n).map λi=>V.int (i:Nat))) rK;have e1:∀q,q < n->((List.range n).map λi=>V.int (i:Nat))[q]? = some (V.int (q:Nat)):=λq hq=>by rw[aE,List.getElem?_range hq];rfl
 have y1:((List.range n).map λi=>V.int (i:Nat)).length=n:=by rw[af,bO]
 revert k1 s1 e1 y1;generalize ((List.range n).map λi=>V.int (i:Nat))=y0;intro k1 s1 e1 y1;revert k1 s1;generalize upd H op (.lst y0)=H1;intro k1 s1;subst xE;intro xR xE;refine vc U U U ⟨op,y0,(i:Int),i,U,U,k1,(by rw[y1];exact Gk hi),?_⟩;subst xE;intro xR xE;refine vc U U U ⟨op,y0.set i (.int (j:Nat)),(j:Int),j,U,U,b9,(by rw[bJ,y1];exact Gk hj),?_⟩;have s2:h9 H (upd (upd H1 op (.lst (y0.set i (.int (j:Nat))))) op (.lst ((y0.set i (.int (j:Nat))).set j (.int (i:Nat))))):=Ag (Ag s1 rK) rK;have k2:=b9 (H:=upd H1 op (.lst (y0.set i (.int (j:Nat))))) (a:=op) (o:=.lst ((y0.set i (.int (j:Nat))).set j (.int (i:Nat))));have e2:∀q,q < n->((y0.set i (.int (j:Nat))).set j (.int (i:Nat)))[q]? = some (V.int (BD i j q:Nat)):=λq hq=>by
  unfold BD;by_cases h:q=j
  . rw[if_pos h,h,cg (by rw[bJ,y1];exact hj)]
  . rw[if_neg h,bL (Ne.symm h)];by_cases h2:q=i
    . rw[if_pos h2,h2,cg (by rw[y1];exact hi)]
    . rw[if_neg h2,bL (Ne.symm h2)];exact e1 q hq
 have y2:((y0.set i (.int (j:Nat))).set j (.int (i:Nat))).length=n:=by rw[bJ,bJ,y1]
 clear s1 k1 e1 y1;revert s2 k2 e2 y2;generalize ((y0.set i (.int (j:Nat))).set j (.int (i:Nat)))=os;generalize upd (upd H1 op (.lst (y0.set i (.int (j:Nat))))) op (.lst os)=H2;intro s2 k2 e2 y2;have row:∀{us:List V} {x:Nat->R.S.W} {z:Addr} {G:Hp} {q:Nat},i3 (λj u H=>R.is H u (x j)) us n H->h9 H G->q < n->∃u,us[BD i j q]? = some u/\R.is G u (x (BD i j q)):=λ{us x z G q} e s hq=>by
  obtain⟨u,eu,pu⟩:=e.2 _ (FM hi hj hq);exact⟨u,eu,R.same s.t pu⟩
 subst xE;intro xR xE;refine⟨sL,λma iZ=>?_⟩;refine E6 (o:=.lst []) iZ λH3 s3 k3=>?_;subst xE;intro xR xE;refine Z U ⟨tp,U,⟨_,l9.of (s3 _ _ (s2 _ _ fA))⟩,BA (K:=K) (a:=tp) (xs:=tabs) (λc σ G=>∃v9 us,σ=[sr mp,si i,si j,some (vT l),sr sp,sr tp,sr ep,sr op,sr ma,v9]/\h9 H2 G/\G ma=some (.lst us)/\i3 (λc u H=>y7 R n n (λq r=>tb c (BD i j q) (BD i j r)) u H) us c G) ⟨_,[],U,s3,k3,i3.nil⟩ (λi' σ G _ ⟨_,_,_,q,_⟩=>l9.of (q _ _ (s2 _ _ fA))) ?_ ?_⟩
 . rintro c y σ G hc ⟨v9,us,rfl,sG,kM,eM⟩;obtain⟨cl,O⟩:=eT.at hc;obtain⟨yp,FY,rfl,nF,eY⟩:=O;have jz:=sG _ _ (s2 _ _ nF);have kO:=sG _ _ k2;refine Z U ⟨.inl ⟨U,_,o7.of kM⟩,Z U ⟨op,U,⟨_,o7.of kO⟩,o6 (n:=n) (λq ys G1=>h9 G G1/\i3 (λq u H=>i0 R n (λr=>tb c (BD i j q) (BD i j r)) u H) ys q G1) Y ⟨h9.refl _,i3.nil⟩ (λq ys G1 h=>h.2.1) ?_ ?_ ?_⟩⟩
   . rintro q ys G1 hq ⟨s4,e4⟩;refine⟨za ⟨o7.of (s4 _ _ kO),e2 q hq⟩,λy' H' gm=>?_⟩;obtain⟨rfl,gm⟩:=gm;have:=gm _ (o7.of (s4 _ _ kO));rw[e2 q hq]at this;cases this;obtain⟨jT,erw,prw⟩:=eY.2 _ (FM hi hj hq);have u9:h9 H H':=s2.trans (sG.trans s4);obtain⟨rp,rus,rfl,jD,eR⟩:=prw;have hrG:=u9 _ _ jD;refine⟨⟨[some _],U,U⟩,Z U ⟨op,U,⟨_,o7.of (s4 _ _ kO)⟩,o6 (n:=n) (λr zs G2=>h9 H' G2/\i3 (λr u H=>R.is H u (tb c (BD i j q) (BD i j r))) zs r G2) Y ⟨h9.refl _,i3.nil⟩ (λq ys G1 h=>h.2.1) ?_ ?_ ?_⟩⟩
     . rintro r zs G2 gv ⟨s5,e5⟩;refine⟨za ⟨o7.of (s5 _ _ (s4 _ _ kO)),e2 r gv⟩,λy' gJ gm=>?_⟩;obtain⟨rfl,gm⟩:=gm;have:=gm _ (o7.of (s5 _ _ (s4 _ _ kO)));rw[e2 r gv]at this;cases this;obtain⟨u,eu,pu⟩:=row (z:=0) eR (u9.trans s5) gv;refine⟨⟨[some _],U,U⟩,vb U U (zf ⟨U,U,l9.of (s5 _ _ (s4 _ _ jz)),B0 erw,Z U (zf ⟨U,U,l9.of (s5 _ _ hrG),B0 eu,?_⟩)⟩)⟩;exact⟨s5,e5.snoc pu⟩
     . rintro zs G2 ⟨s5,e5⟩;exact⟨_,o7.of (s5 _ _ (s4 _ _ kO)),by rw[y2];exact ae _⟩
     . rintro zs G2 lz ⟨s5,e5⟩ iJ;have t8:=c6 (o:=.lst zs) iJ;refine⟨lz,zs,U,.inl ⟨o7.of b9,λtz ju=>?_⟩⟩;have t9:=t8.trans (c6 (o:=.tup zs) ju);exact⟨s4.trans (s5.trans t9),(e4.mono λ_ _ _ x=>i0.same (s5.trans t9).t x).snoc ⟨tz,zs,U,b9,e5.mono λ_ _ _ x=>R.same t9.t x⟩⟩
   . rintro ys G1 ⟨s4,e4⟩;exact⟨_,o7.of (s4 _ _ kO),by rw[y2];exact ae _⟩
   . rintro ys G1 lz ⟨s4,e4⟩ iJ;have t8:=c6 (o:=.lst ys) iJ;refine⟨lz,ys,U,.inl ⟨o7.of b9,λtz ju=>?_⟩⟩;have t9:=t8.trans (c6 (o:=.tup ys) ju);have lC:y7 R n n (λq r=>tb c (BD i j q) (BD i j r)) (.ref tz) (upd (upd G1 lz (.lst ys)) tz (.tup ys)):=⟨tz,ys,U,b9,e4.mono λ_ _ _ x=>i0.same t9.t x⟩;have gC:=s4.trans t9;revert lC gC;generalize upd (upd G1 lz (.lst ys)) tz (.tup ys)=G8;intro lC gC;have iM:=gC _ _ kM;have eu:=eM.1;have et:=eT.1;refine⟨ma,us,V.ref tz,U,U,iM,Y,?_⟩;have nx:=y6 (o:=.lst (us++[V.ref tz])) iM;exact⟨_,us++[V.ref tz],U,Ag (sG.trans gC) iZ,b9,(eM.mono λ_ _ _ x=>y7.same nx (y7.same gC.t x)).snoc (y7.same nx lC)⟩
 . rintro σ G ⟨v9,us,rfl,sG,kM,eM⟩;rw[eT.1]at eM;have kO:=sG _ _ k2;subst xE;refine vb U U ⟨op,U,⟨_,o7.of kO⟩,o6 (n:=n) (λq zs G2=>h9 G G2/\i3 (λq u H=>R.is H u (st (BD i j q))) zs q G2) Y ⟨h9.refl _,i3.nil⟩ (λq ys G1 h=>h.2.1) ?_ ?_ ?_⟩
   . rintro q zs G2 hq ⟨s5,e5⟩;refine⟨za ⟨o7.of (s5 _ _ kO),e2 q hq⟩,λy' gJ gm=>?_⟩;obtain⟨rfl,gm⟩:=gm;have:=gm _ (o7.of (s5 _ _ kO));rw[e2 q hq]at this;cases this;have u9:=s2.trans (sG.trans s5);obtain⟨u,eu,pu⟩:=row (z:=0) eS u9 hq;exact⟨⟨[some _],U,U⟩,vb U U (zf ⟨U,U,l9.of (u9 _ _ fR),B0 eu,s5,e5.snoc pu⟩)⟩
   . rintro ys G1 ⟨s4,e4⟩;exact⟨_,o7.of (s4 _ _ kO),by rw[y2];exact ae _⟩
   . rintro ys G1 lz ⟨s4,e4⟩ iJ;have t8:=c6 (o:=.lst ys) iJ;refine⟨lz,ys,U,.inl ⟨o7.of b9,λq1 pA=>?_⟩⟩;have t9:=t8.trans (c6 (o:=.tup ys) pA);have mr:i0 R n (λq=>st (BD i j q)) (.ref q1) (upd (upd G1 lz (.lst ys)) q1 (.tup ys)):=⟨q1,ys,U,b9,e4.mono λ_ _ _ x=>R.same t9.t x⟩;have gC:=s4.trans t9;clear t8 t9 s4 e4 iJ pA;revert mr gC;generalize upd (upd G1 lz (.lst ys)) q1 (.tup ys)=G3;intro mr gC;refine Z U ⟨ma,us,U,.inl ⟨o7.of (gC _ _ kM),λq2 rH=>?_⟩⟩;refine E6 (o:=.tup us) rH λG4 t2 k4=>?_;have u4:=gC.trans t2;have pC:=u4 _ _ kO;refine Z U ⟨op,U,⟨_,o7.of pC⟩,o6 (n:=n) (λq zs G2=>h9 G4 G2/\i3 (λq u H=>R.is H u (en (BD i j q))) zs q G2) Y ⟨h9.refl _,i3.nil⟩ (λq ys G1 h=>h.2.1) ?_ ?_ ?_⟩
     . rintro q zs G2 hq ⟨s5,e5⟩;refine⟨za ⟨o7.of (s5 _ _ pC),e2 q hq⟩,λy' gJ gm=>?_⟩;obtain⟨rfl,gm⟩:=gm;have:=gm _ (o7.of (s5 _ _ pC));rw[e2 q hq]at this;cases this;have u9:=s2.trans (sG.trans (u4.trans s5));obtain⟨u,eu,pu⟩:=row (z:=0) eE u9 hq;exact⟨⟨[some _],U,U⟩,vb U U (zf ⟨U,U,l9.of (u9 _ _ jf),B0 eu,s5,e5.snoc pu⟩)⟩
     . rintro ys G1 ⟨s4,e4⟩;exact⟨_,o7.of (s4 _ _ pC),by rw[y2];exact ae _⟩
     . rintro zs G5 lz ⟨s5,e5⟩ iJ;have t8:=c6 (o:=.lst zs) iJ;refine⟨lz,zs,U,.inl ⟨o7.of b9,λq3 pq=>?_⟩⟩;have t9:=t8.trans (c6 (o:=.tup zs) pq);have tY:i0 R n (λq=>en (BD i j q)) (.ref q3) (upd (upd G5 lz (.lst zs)) q3 (.tup zs)):=⟨q3,zs,U,b9,e5.mono λ_ _ _ x=>R.same t9.t x⟩;have qR:=s5.trans t9;clear t8 t9 s5 e5 iJ pq;revert tY qR;generalize upd (upd G5 lz (.lst zs)) q3 (.tup zs)=G6;intro tY qR;refine⟨sL,λq4 rG=>?_⟩;have gK:=c6 (o:=.tup [vT l,V.ref q1,V.ref q2,V.ref q3]) rG;have tA:=qR.trans gK;exact k _ _ (s2.trans (sG.trans (u4.trans tA))) ⟨q4,_,_,Z U ⟨b9,i0.same (t2.trans tA).t mr,⟨q2,us,U,tA _ _ k4,eM.mono λ_ _ _ x=>y7.same (u4.trans tA).t x⟩,i0.same gK.t tY⟩⟩
def mix{S:SR}(F:S7 S){n i j:Nat}{b:S.W}(hi:i < n)(hj:j < n)(ne:i≠j)(x f:Nat->S.W):sm S (λr=>S.mul (W3 i j b x r) (if r=i then S.add (f i) (S.mul (F.neg b) (f j))else f r)) n=sm S (λr=>S.mul (x r) (f r)) n:=by
 have e:∀r,r < n->S.mul (W3 i j b x r) (if r=i then S.add (f i) (S.mul (F.neg b) (f j))else f r)=S.add (S.add (S.mul (x r) (f r)) (if r=i then S.mul (x i) (S.mul (F.neg b) (f j))else S.zero)) (if r=j then S.mul (S.mul b (x i)) (f j)else S.zero):=λr _=>by
  unfold W3;by_cases h1:r=i
  . subst h1;rw[if_neg ne,if_pos U,if_pos U,if_neg ne,S.add_zero,S.distrib]
  . by_cases h2:r=j
    . subst h2;rw[if_pos U,if_neg h1,if_neg h1,if_pos U,S.add_zero,XH]
    . rw[if_neg h2,if_neg h1,if_neg h1,if_neg h2,S.add_zero,S.add_zero]
 rw[j0 e,W4,W4,P9 hi λk _ hk=>if_neg hk,P9 hj λk _ hk=>if_neg hk,if_pos U,if_pos U,S.add_assoc];have z:S.add (S.mul (x i) (S.mul (F.neg b) (f j))) (S.mul (S.mul b (x i)) (f j))=S.zero:=by
  rw[JF,SH,S.mul_comm b (x i),S.mul_assoc,S.add_comm,F.add_neg]
 rw[z,S.add_zero]
def Xo{S:SR}(F:S7 S){n i j:Nat}{b:S.W}(hi:i < n)(hj:j < n)(ne:i≠j)(A:Nat->Nat->S.W)(x:Nat->S.W):FZ S n (Om i j b (F.neg b) A) (W3 i j b x)=W3 i j b (FZ S n A x):=by
 funext k;have e:∀r,Om i j b (F.neg b) A r k=if r=i then S.add (W3 i j b (A i) k) (S.mul (F.neg b) (W3 i j b (A j) k))else W3 i j b (A r) k:=λr=>by
  unfold Om;split <;>rfl
 show sm S (λr=>S.mul _ (Om i j b (F.neg b) A r k)) n=_;rw[j0 (g:=λr=>S.mul (W3 i j b x r) (if r=i then S.add (W3 i j b (A i) k) (S.mul (F.neg b) (W3 i j b (A j) k))else W3 i j b (A r) k)) λr _=>by rw[e],mix F hi hj ne x λr=>W3 i j b (A r) k];unfold W3;by_cases h:k=j
 . subst h;rw[if_pos rfl];show _=S.add (sm S (λr=>S.mul (x r) (A r k)) n) (S.mul b (sm S (λr=>S.mul (x r) (A r i)) n));rw[Hu,<- W4];exact j0 λr _=>by rw[if_pos U,S.distrib,<- S.mul_assoc,S.mul_comm (x r) b,S.mul_assoc]
 . rw[if_neg h];exact j0 λr _=>by rw[if_neg h]
section
variable{S:SR}{F:S7 S}{l:List Nat}{n i j:Nat}{b:S.W}{st:Nat->S.W}{tb:Nat->Nat->Nat->S.W}{en:Nat->S.W}
def Vc(hi:i < n)(hj:j < n)(ne:i≠j)(u:List Nat)(hu:AL l u):K7 S l n (W3 i j b st) (λa=>Om i j b (F.neg b) (tb a)) (W3 j i (F.neg b) en) u=K7 S l n st tb en u:=by
 have fc:∀u,AL l u->j5 S n (W3 i j b st) (w4 l λa=>Om i j b (F.neg b) (tb a)) u=W3 i j b (j5 S n st (w4 l tb) u):=by
  refine(Ml (l:=l)).ind _ rfl λc u hc hu ih=>?_;rw[B8,B8,ih];exact Xo F hi hj ne _ _
 unfold K7;rw[fc u hu];exact mix F hi hj ne _ en
def TV(hi:i < n)(hj:j < n)(ne:i≠j)(f:Nat->S.W):sm S (λr=>f (BD i j r)) n=sm S f n:=by
 have z0:∀x:S.W,S.add S.zero x=x:=λx=>by rw[S.add_comm,S.add_zero]
 have e1:∀r,r < n->f r=S.add (S.add (if r=i\/r=j then S.zero else f r) (if r=i then f i else S.zero)) (if r=j then f j else S.zero):=λr _=>by
  by_cases h1:r=i
  . subst h1;rw[if_pos (.inl U),if_pos U,if_neg ne,S.add_zero,z0]
  . by_cases h2:r=j
    . subst h2;rw[if_pos (.inr U),if_neg h1,if_pos U,S.add_zero,z0]
    . rw[if_neg Y,if_neg h1,if_neg h2,S.add_zero,S.add_zero]
 have e2:∀r,r < n->f (BD i j r)=S.add (S.add (if r=i\/r=j then S.zero else f r) (if r=i then f j else S.zero)) (if r=j then f i else S.zero):=λr _=>by
  unfold BD;by_cases h1:r=i
  . subst h1;rw[if_neg ne,if_pos U,if_pos (.inl U),if_pos U,if_neg ne,S.add_zero,z0]
  . by_cases h2:r=j
    . subst h2;rw[if_pos U,if_pos (.inr U),if_neg h1,if_pos U,S.add_zero,z0]
    . rw[if_neg h2,if_neg h1,if_neg Y,if_neg h1,if_neg h2,S.add_zero,S.add_zero]
 rw[j0 e1,j0 e2,W4,W4,W4,W4,P9 hi λk _ hk=>if_neg hk,P9 hj λk _ hk=>if_neg hk,P9 hi λk _ hk=>if_neg hk,P9 hj λk _ hk=>if_neg hk,if_pos U,if_pos U,if_pos U,if_pos U,S.add_assoc,S.add_comm (f j),<- S.add_assoc]
def OB(hi:i < n)(hj:j < n)(ne:i≠j)(u:List Nat)(hu:AL l u):K7 S l n (λq=>st (BD i j q)) (λa q r=>tb a (BD i j q) (BD i j r)) (λq=>en (BD i j q)) u=K7 S l n st tb en u:=by
 have fc:∀u,AL l u->j5 S n (λq=>st (BD i j q)) (w4 l λa q r=>tb a (BD i j q) (BD i j r)) u=λq=>j5 S n st (w4 l tb) u (BD i j q):=by
  refine(Ml (l:=l)).ind _ rfl λc u hc hu ih=>?_;rw[B8,B8,ih];funext k;exact TV hi hj ne λr=>S.mul (j5 S n st (w4 l tb) u r) (w4 l tb c r (BD i j k))
 unfold K7;rw[fc u hu];exact TV hi hj ne λr=>S.mul (j5 S n st (w4 l tb) u r) (en r)
end
section
variable{R:g9 Pr w K mg base}{M n k i j:Nat}{b:R.S.W}{st:Nat->R.S.W}{tb:Nat->Nat->Nat->R.S.W}{en:Nat->R.S.W}
def Nr{x:Nat->R.S.W}(hi:i < n)(hj:j < n)(hb:R.B.cb 1 2 b)(h:∀k,k < n->R.B.cb 12 M (x k)):∀k,k < n->R.B.cb 12 (3 * M) (W3 i j b x k):=λk hk=>by
 unfold W3;have e:3 * M=M+2 * M:=by omega
 rw[e];split
 . exact R.B.add _ _ _ _ _ (h j hj) (R.B.mul _ _ _ _ _ _ hb (h i hi))
 . exact R.B.mono _ _ _ _ Y (h k hk)
def MC.moved(hi:i < n)(hj:j < n)(hb:R.B.cb 1 2 b)(h:MC R 12 M n k st tb en):MC R 12 (9 * M) n k (W3 i j b st) (λa=>Om i j b (R.F.neg b) (tb a)) (W3 j i (R.F.neg b) en):=by
 have hc:R.B.cb 1 2 (R.F.neg b):=R.B.neg _ _ _ _ (R.F.add_neg _) hb;refine⟨λq hq=>R.B.mono _ _ _ _ Y (Nr hi hj hb h.st q hq),λa ha r hr q hq=>?_,λq hq=>R.B.mono _ _ _ _ Y (Nr hj hi hc h.en q hq)⟩;have e:9 * M=3 * M+2 * (3 * M):=by omega
 show R.B.cb 12 (9 * M) (Om i j b (R.F.neg b) (tb a) r q);unfold Om;rw[e];split
 . exact R.B.add _ _ _ _ _ (Nr hi hj hb (h.tb a ha i hi) q hq) (R.B.mul _ _ _ _ _ _ hc (Nr hi hj hb (h.tb a ha j hj) q hq))
 . exact R.B.mono _ _ _ _ Y (Nr hi hj hb (h.tb a ha r hr) q hq)
def MC.swapped(hi:i < n)(hj:j < n)(h:MC R 12 M n k st tb en):MC R 12 M n k (λq=>st (BD i j q)) (λa q r=>tb a (BD i j q) (BD i j r)) (λq=>en (BD i j q)):=
 ⟨λq hq=>h.st _ (FM hi hj hq),λa ha r hr q hq=>h.tb a ha _ (FM hi hj hr) _ (FM hi hj hq),λq hq=>h.en _ (FM hi hj hq)⟩
def MC.more{dY:Nat->R.S.W}{bY:Nat->Nat->Nat->R.S.W}{ed:Nat->R.S.W}(h:MC R 12 48 n k st tb en)(e:(∀i,i < n->dY i=st i)/\(∀c,c < k->∀i,i < n->∀j,j < n->bY c i j=tb c i j)/\∀i,i < n->ed i=en i)
    (g:R.B.cb 12 48 (dY n)/\(∀c,c < k->∀i,i<=n->R.B.cb 12 48 (bY c n i)/\R.B.cb 12 48 (bY c i n))/\R.B.cb 12 48 (ed n)):MC R 12 48 (n+1) k dY bY ed:=by
 refine⟨λq hq=>?_,λa ha r hr q hq=>?_,λq hq=>?_⟩
 . by_cases z:q < n
   . rw[e.1 q z];exact h.st q z
   . rw[show q=n by omega];exact g.1
 . by_cases z:r < n
   . by_cases y:q < n
     . rw[e.2.1 a ha r z q y];exact h.tb a ha r z q y
     . rw[show q=n by omega];exact(g.2.1 a ha r Y).2
   . rw[show r=n by omega];exact(g.2.1 a ha q Y).1
 . by_cases z:q < n
   . rw[e.2.2 q z];exact h.en q z
   . rw[show q=n by omega];exact g.2.2
def MC.szm(h:MC R 12 M n k st tb en)(hM:M<=2 ^ 20):SzM R n k 20 st tb en:=
 have z:∀{x:R.S.W},R.B.cb 12 M x->R.S.sz 20 x:=λ{x} g=>R.B.sz _ _ _ _ bD hM g
 ⟨λi hi=>z (h.st i hi),λa ha i hi j hj=>z (h.tb a ha i hi j hj),λi hi=>z (h.en i hi)⟩
end
structure VZ(R:g9 Pr w K mg base)(l:List Nat)(n n' M:Nat)(st:Nat->R.S.W)(tb:Nat->Nat->Nat->R.S.W)(en:Nat->R.S.W)(dY:Nat->R.S.W)(bY:Nat->Nat->Nat->R.S.W)(ed:Nat->R.S.W):Prop where
 mc:MC R 12 M n' l.length dY bY ed
 wt:∀u,AL l u->K7 R.S l n' dY bY ed u=K7 R.S l n st tb en u
def ME(T:Txt K mg t):Sp:=λvs H Q _=>∃(R:g9 Pr w K mg base),∃nm p,∃(a:Addr),∃so mv l,∃(n z:Nat),∃st tb en,So T R nm p/\vs=[.ref a,so,mv,.int (z:Nat)]/\(Dr H a/\F5 H so nm p/\P5 l/\n+z<=40/\l5 R l n st tb en mv H/\MC R 12 48 n l.length st tb en)/\
 ∀v H' n' dY bY ed,j9 a H H'->Dr H' a->n<=n'->n'<=n+z->l5 R l n' dY bY ed v H'->VZ R l n n' 400000 st tb en dY bY ed->Q v H'
def CC(T:Txt K mg t):r8 Pr w K mg base E7 44 t.t0n t.r0b a0d (ME (w:=w) (base:=base) T):=by
 refine T.r0g.F.okA C5 λ_ _ _ _ H _ _ _ hr h=>?_;obtain⟨R,nm,p,a,so,mv,l,n,z,st,tb,en,hS,rfl,⟨hD,eI,L,hn,hM,hC⟩,k⟩:=h;refine⟨_,(c8 (C6 ar U (C4 U T.z_range (x5 (C1 (w8 T) hr.m T.u0g (D9 (O 0) (l7 N3 (O 3) a9))))) (gN 4 C5.nd) (c4 (sT 2 C5.nd (C1 (Ng T) hr.m T.u0b (Jg (O 0) (O 1) (O 2) (P6 J8 (C1 (w8 T) hr.m T.u0g (D9 (O 0) a9)) a9 (o4 _))))))) (c8 (sT 5 C5.nd (l4 r9 bR T.z_len PySem.boot_len (x5 (B5 g6 (O 2) a9)))) (c8 (C6 ar U (C4 U T.z_range (x5 (C1 (w8 T) hr.m T.u0g (D9 (O 0) a9)))) (gN 4 C5.nd) (c4 (y8 (l8 Ao (O 5) a9 (o4 _)) (c8 (sT 6 C5.nd (C1 (w8 T) hr.m T.u0g (D9 (O 0) (O 5)))) (c8 (sT 7 C5.nd (l7 E9 (l7 N3 (l7 N3 (O 6) a9) (C1 (w8 T) hr.m T.u0g (D9 (O 0) (l7 Aa (O 5) a9)))) (O 5))) (c4 (y8 (l8 J8 (C1 (w8 T) hr.m T.u0g (D9 (O 0) a9)) a9 (o4 _)) (c4 (sT 2 C5.nd (C1 (HP T) hr.m T.r0i (S6 (O 2) (O 6) (O 7))))) (c4 (sT 2 C5.nd (C1 (Lm T) hr.m T.s0s (J7 (O 1) (Jg (O 2) (O 6) (O 7) (C1 (AS T) hr.m T.x0j (D9 (O 1) (l7 Aa (C1 (w8 T) hr.m T.u0g (D9 (O 0) a9)) a9)))))))))))) o8))) (c4 (c9 (O 2)))))),?_⟩;dsimp only[z8,u7,y9,z5];intro xR xE;refine vb U U (za ⟨U,U,a,Z U ⟨⟨hD,Y,Y⟩,λr1 H1 s1 d1 a1 b1=>?_⟩⟩);have fS:=l5.same (s1.tt hD) hM;refine Z U ⟨Y,Y,AY (lo:=0) (n:=r1.toNat) (λc σ G=>∃v4 ic n' dY bY ed,σ=[sr a,some so,some ic,si z,v4,none,none,none]/\j9 a H G/\Dr G a/\n'=n+c/\l5 R l n' dY bY ed ic G/\VZ R l n n' 48 st tb en dY bY ed) ⟨_,mv,n,st,tb,en,U,s1,d1,U,fS,hC,λ_ _=>rfl⟩ ?_ ?_⟩
 . rintro c σ G hc ⟨v4,ic,n',dY,bY,ed,rfl,sG,dG,rfl,fw,hO⟩;refine vc U U U (Z U ⟨a,2,U,⟨dG,bD,bD⟩,λr2 G2 s2 d2 a2 b2=>?_⟩);refine⟨U,R,zO nm p a so ic l (n+c) _ dY bY ed ⟨hS,U,⟨d2,eI.same ((sG.trans s2).tt hD),L,Y,l5.same (s2.tt dG) fw⟩,λv G3 iC tb3 en3 s3 d3 jK e1 e2 e3=>?_⟩⟩;exact⟨_,v,n+c+1,iC,tb3,en3,U,(sG.trans s2).trans s3,d3,U,jK,hO.mc.more e1 e2,λu hu=>(Wj e1 e3 u hu).trans (hO.wt u hu)⟩
 . rintro σ G ⟨v4,ic,n',dY,bY,ed,rfl,sG,dG,rfl,fw,hO⟩;obtain⟨m,em⟩:∃m,n+r1.toNat=m:=⟨_,U⟩;rw[em]at fw hO;obtain⟨mp,sv,tv,ev,rfl,hm,h1,h2,h3⟩:=id fw;subst xE;intro xR xE;refine Z U (zf ⟨U,U,l9.of hm,U,za ⟨U,h1.len,?_⟩⟩);subst xE;intro xR xE;refine Z U ⟨a,5,U,⟨dG,bD,bD⟩,λr2 G2 s2 d2 a2 b2=>?_⟩;refine Z U ⟨Y,Y,AY (lo:=0) (n:=r2.toNat) (λc σ G=>∃v4 ic v6 v7 dY bY ed,σ=[sr a,some so,some ic,si z,v4,si m,v6,v7]/\j9 a H G/\Dr G a/\l5 R l m dY bY ed ic G/\VZ R l n m (48 * 9 ^ c) st tb en dY bY ed) ⟨_,.ref mp,_,_,dY,bY,ed,U,sG.trans s2,d2,l5.same (s2.tt dG) fw,hO⟩ ?_ ?_⟩
   . clear sG dG fw hO hm h1 h2 h3 s2 d2 fS s1 d1;rintro c σ G hc ⟨v4,ic,v6,v7,dY,bY,ed,rfl,sG,dG,fw,hO⟩;have hp:(9:Nat) ^ c<=9 ^ 3:=dc bD Y;have e9:(9:Nat) ^ 3=729:=by decide
     have e2:(2:Nat) ^ 20=1048576:=by decide
     have es:(9:Nat) ^ (c+1)=9 * 9 ^ c:=by rw[bW,bV]
     refine Z U (za ⟨U,U,Z U ?_⟩);refine AC (λgt=>?_) (λgt=>?_)
     . intro xR xE;refine vb U U ⟨a,Z U ⟨⟨dG,Y,Y⟩,λri G1 s1 d1 ai bi=>?_⟩⟩;obtain⟨i,rfl⟩:∃i:Nat,ri=(i:Int):=⟨ri.toNat,Y⟩;have hi:i < m:=by omega
       subst xE;intro xR xE;refine Z U (za ⟨U,U,vb U U (za ⟨U,U,a,Z U ⟨⟨d1,Y,Y⟩,λrj G2 s2 d2 aj bj=>?_⟩⟩)⟩);refine za ⟨U,U,Z U (za ⟨U,U,Y,?_⟩)⟩;obtain⟨j,ej,hj,iS⟩:∃j:Nat,((i:Int)+1+rj).fmod (m:Int)=(j:Int)/\j < m/\i≠j:=by
        have m0:=bK ((i:Int)+1+rj) (show(0:Int) < m by omega);have m1:=bE ((i:Int)+1+rj) (show(0:Int) < m by omega);refine⟨(((i:Int)+1+rj).fmod (m:Int)).toNat,Y,Y,λe=>?_⟩;have e':((i:Int)+1+rj).fmod (m:Int)=(i:Int):=by omega
        rw[dW _ Y]at e';by_cases z:(i:Int)+1+rj < m
        . rw[dw Y z]at e';omega
        . have:((i:Int)+1+rj) % (m:Int)=((i:Int)+1+rj - m) % (m:Int):=by rw[Int.sub_emod_right]
          rw[this,dw Y Y]at e';omega
       show L3 7 (.int (((i:Int)+1+rj).fmod (m:Int))) [sr a,some so,some ic,si z,some (.int _),si m,si i,v7] G2 _;rw[ej];have IH:=s1.trans s2;subst xE;refine Z U ⟨a,3,U,⟨d2,bD,bD⟩,λr3 G3 s3 d3 a3 b3=>⟨U,Z U ?_⟩⟩;have Le:=IH.trans s3;have jK:=l5.same (Le.tt dG) fw;refine Ep (λ_=>?_) (λ_=>?_)
       . refine vc U U U ⟨R,zJ ic l m i j dY bY ed ⟨U,⟨jK,L,hi,hj,iS,Y⟩,λv G4 s4 hM4=>?_⟩⟩;exact⟨_,v,zg ⟨U,(sG.trans Le).trans (.of s4),d3.same s4,hM4,(hO.mc.swapped hi hj).mono Y,λu hu=>(OB hi hj iS u hu).trans (hO.wt u hu)⟩⟩
       . refine vc U U U (vc U U U ⟨a,5,U,⟨d3,bD,bD⟩,λr4 G4 s4 d4 a4 b4=>?_⟩);have WM:=Le.trans s4;have u4:=(sG.trans WM).tt hD;refine za ⟨U,U,R,zB nm p so (r4 - 2) ⟨hS,U,⟨eI.same u4,Y,Y⟩,λbv G5 b s5 fb _ _ zb cb=>?_⟩⟩;have jJ:=l5.same ((s4.tt d3).trans s5.t) jK;refine⟨R,nm,p,so,ic,bv,l,m,i,j,20,dY,bY,ed,b,hS,U,⟨eI.same (u4.trans s5.t),jJ,L,fb,R.S.sz_mono _ _ _ bD zb,hi,hj,Y,hO.mc.szm Y,.inl bD⟩,λv G6 s6 hM6=>?_⟩;exact⟨_,v,zg ⟨U,(sG.trans WM).trans (.of (s5.trans s6)),d4.same (s5.trans s6),hM6,(hO.mc.moved hi hj cb).mono Y,λu hu=>(Vc hi hj iS u hu).trans (hO.wt u hu)⟩⟩
     . exact zj ⟨U,sG,dG,fw,hO.mc.mono Y,hO.wt⟩
   . clear sG dG fw hO hm h1 h2 h3;rintro σ G ⟨v4,ic,v6,v7,dY,bY,ed,rfl,sG,dG,fw,hO⟩;have hp:(9:Nat) ^ r2.toNat<=9 ^ 4:=dc bD Y;have e9:(9:Nat) ^ 4=6561:=by decide
     subst xE;exact Z U (k _ _ m dY bY ed sG dG Y Y fw ⟨hO.mc.mono Y,hO.wt⟩)
def n0k{l:List Nat}{H:Hp}(h:l.length<=10000):DA K (vT l) H l.length:=by
 have z:=sZ;exact⟨by rw[P8];omega,(P8 l).symm⟩
abbrev o0k(R:g9 Pr w K mg base)(n:Nat)(x:Nat->R.S.W):V->Hp->Prop:=GD K (λj u H=>R.is H u (x j)) n
def Wz(T:Txt K mg t):Sp:=λvs H Q _=>∃(R:g9 Pr w K mg base),∃nm p so rv cv n x y r,So T R nm p/\vs=[so,rv,cv]/\(F5 H so nm p/\o0k R n x rv H/\o0k R n y cv H/\Oj R.S r n x y/\X0 R.S (3 * r))/\
 ∀v H',h9 H H'->R.is H' v (C0 R.S x y n)->Q v H'
def U8(T:Txt K mg t):r8 Pr w K mg base E7 40 t.x0t t.v0w ZY (Wz (w:=w) (base:=base) T):=by
 refine T.w0e.F.okA Y6 λ_ _ _ _ H _ _ _ hr h=>?_;obtain⟨R,nm,p,so,rv,cv,n,x,y,r,hS,rfl,⟨eI,⟨S1,xs,o1,v1,w1,e1⟩,⟨S2,ys,o2,v2,w2,e2⟩,⟨z1,z2⟩,hz⟩,k⟩:=h;refine⟨_,(c5 (sT 3 Y6.nd (C1 (AS T) hr.m T.x0j (D9 (O 0) a9))) (c5 (C6 ar U (Cs U T.z_zip (D9 (O 1) (O 2))) (J0 U (j8 (gN 4 Y6.nd) (j8 (gN 5 Y6.nd) D3))) (c4 (sT 3 Y6.nd (C1 (Q4 T) hr.m T.t0v (S6 (O 0) (O 3) (C1 (L8 T) hr.m T.t0d (S6 (O 0) (O 4) (O 5)))))))) (c4 (c9 (O 3))))),?_⟩;dsimp only[z8,u7,y9,z5];refine Z U ⟨R,zB nm p so 0 ⟨hS,U,⟨eI,bD,bD⟩,λz H1 x0 s1 f1 ez _ _ _=>?_⟩⟩;cases ez rfl;refine vb U U ⟨S1,S2,za ⟨xs,ys,U,o1,o2,(w1 _ s1).1,(w2 _ s1).1,Rf (K:=K) (xs:=xs) (ys:=ys) (λi σ H2=>∃jo v4 v5,σ=[some so,some rv,some cv,some jo,v4,v5]/\h9 H H2/\R.is H2 jo (C0 R.S x y i)) (by rw[e1.1,e2.1]) ⟨_,_,Z U ⟨s1,f1⟩⟩ (λi σ H2 _ ⟨_,_,_,_,q,_⟩=>⟨(w1 _ q).1,(w2 _ q).1⟩) ?_ ?_⟩⟩
 . rintro i u v pp σ H2 hu hv np ⟨jo,v4,v5,rfl,q,f⟩;obtain⟨hi,pu⟩:=e1.at hu;obtain⟨_,O⟩:=e2.at hv;have sp:=c6 (o:=.tup [u,v]) np;have q2:=q.trans sp;refine⟨pp,Z U ⟨l9.of b9,U,za ⟨U,za ⟨U,U,?_⟩⟩⟩⟩;refine vc U U U (vb U U ⟨R,zL nm p so _ _ _ _ r r ⟨hS,U,⟨eI.same q2.t,R.same q2.t pu,R.same q2.t O,(z1 i hi).1,(z1 i hi).2,hz.le Y⟩,λpr H3 s3 f3=>?_⟩⟩);have q3:=q2.trans s3;refine⟨R,zL nm p so _ _ _ _ r (r+r) ⟨hS,U,⟨eI.same q3.t,R.same (sp.trans s3).t f,f3,z2 i Y,R.S.sz_mul _ _ _ _ (z1 i hi).1 (z1 i hi).2,hz.le Y⟩,λtt H4 s4 f4=>?_⟩⟩;exact zd ⟨U,q3.trans s4,f4⟩
 . rintro σ H2 ⟨jo,v4,v5,rfl,q,f⟩;rw[e1.1]at f;exact Z U (k _ _ q f)
def TF(T:Txt K mg t):Sp:=λvs H Q _=>∃(R:g9 Pr w K mg base),∃nm p so rv tv n x A r,So T R nm p/\vs=[so,rv,tv]/\(F5 H so nm p/\i0 R n x rv H/\y7 R n n A tv H/\n<=60/\(∀j,j < n->Oj R.S r n x (λi=>A i j))/\X0 R.S (3 * r))/\
 ∀v H',h9 H H'->i0 R n (FZ R.S n A x) v H'->Q v H'
def CA(T:Txt K mg t):r8 Pr w K mg base E7 42 t.x0n t.u0q UZ (TF (w:=w) (base:=base) T):=by
 refine T.u0s.F.okA MI λ_ _ _ _ H _ _ _ hr h=>?_;obtain⟨R,nm,p,so,rv,tv,n,x,X,r,hS,rfl,⟨eI,hR,⟨ap,jW,rfl,iV,eA⟩,hn,hd,hz⟩,k⟩:=h;refine⟨_,(c4 (c9 (j6 h7 bR T.z_tuple boot_tuple (x5 (w5 (xs:=[BV]) U (oC UZ (a8 Y8)) (C4 U T.z_range (x5 (l4 r9 bR T.z_len PySem.boot_len (x5 (O 1))))) (p9 (i:=3) (by show List.Nodup ([D5,BH,Bh,BV]:List Str);decide +kernel) U (Or.inr U)) (x9 (U8 (w:=w) (base:=base) T) hr.m U T.w0e.m T.w0e.F.kp T.w0e.b .nil B4 (S6 (O 0) (O 1) (w5 (xs:=[AF]) U (show Q2 [D5,BH,Bh,BV] (rlS (a8 Y8) _) _ from⟨U,dK,dK,dK,dK,dK⟩) (show PI _ _ _ (b0a K _)from G0 (O 2)) (p9 (i:=4) (by show List.Nodup ([D5,BH,Bh,BV,AF]:List Str);decide +kernel) U (Or.inl U)) (B5 (show Ku _ (HC K)from g6) (O 4) (O 3)))))))))),?_⟩;dsimp only[z8,u7,y9,z5];refine Z U (za ⟨U,hR.len,Z U ⟨Y,Y,o6 (n:=n) (λj ys G2=>h9 H G2/\i3 (λj u' H=>R.is H u' (FZ R.S n X x j)) ys j G2) Y ⟨h9.refl _,i3.nil⟩ (λj ys H2 q=>q.2.1) ?_ ?_ ?_⟩⟩)
 . rintro j ys G2 hj ⟨q2,e⟩;refine JA (by omega) ?_;refine⟨⟨[some _],U,U⟩,vc U U U ⟨ap,U,⟨_,l9.of (q2 _ _ iV)⟩,o6 (n:=n) (λi' fj G3=>i3 (λi' u' H=>R.is H u' (X i' j)) fj i' G2/\G3=G2) Y ⟨i3.nil,U⟩ (λj ys H2 q=>q.1.1) ?_ ?_ ?_⟩⟩
   . rintro i' fj G3 iq ⟨e',rfl⟩;obtain⟨lu,iB,gF⟩:=eA.2 i' iq;refine Dx (l9.of (q2 _ _ iV)) iB ?_;obtain⟨lp,lvs,lx,rfl,h4,h5,h6⟩:=i0.at (i0.same q2.t gF) hj;rw[show(j:Int)=0+(j:Int) by omega]at h5;exact⟨⟨[some _],U,U⟩,vb U U (zf ⟨U,U,h4,h5,e'.snoc h6,U⟩)⟩
   . rintro fj G3 ⟨e',rfl⟩;exact⟨_,l9.of (q2 _ _ iV),by rw[eA.1];exact ae _⟩
   . rintro fj G3 z ⟨e',rfl⟩ nz;refine E6 (o:=.lst fj) nz λG4 t1 k1=>?_;have q4:=q2.trans t1;refine⟨R,zL nm p so rv (.ref z) n x (λi'=>X i' j) r ⟨hS,U,⟨eI.same q4.t,(i0.same q4.t hR).seq,GD.list k1 (e'.mono λ_ _ _ x=>R.same t1.t x),hd j hj,hz⟩,λv H3 s3 f3=>?_⟩⟩;exact⟨q4.trans s3,(e.mono λ_ _ _ x=>R.same (t1.trans s3).t x).snoc f3⟩
 . rintro ys G2 ⟨q2,e⟩;show(n:Int).toNat<=n;omega
 . rintro ys G2 z ⟨q2,e⟩ nz;have t1:=c6 (o:=.lst ys) nz;refine⟨z,ys,U,.inl ⟨o7.of b9,λz2 n2=>?_⟩⟩;have t2:=t1.trans (c6 (o:=.tup ys) n2);exact k _ _ (q2.trans t2) ⟨z2,ys,U,b9,e.mono λ_ _ _ x=>R.same t2.t x⟩
def sp_lsign:Sp:=λvs H Q _=>∃z:Int,vs=[.int z]/\Q (.int (if z < 0 then -1 else 1)) H
def Nf(T:Txt K mg t):r8 Pr w K mg base E7 1 t.w0q t.t0y [Tf] sp_lsign:=by
 refine T.t0u.F.okA MJ λ_ _ _ _ _ _ _ _ hr h=>?_;obtain⟨z,rfl,k⟩:=h;refine⟨_,(c5 (y8 (l8 MZ (O 0) a9 (o4 _)) (c4 (c9 (QL KD a9))) o8) (c4 (c9 a9))),?_⟩;refine Z U (za ⟨U,U,Z U ?_⟩);refine AC (λh0=>?_) (λh0=>?_)
 . rw[if_pos h0]at k;exact Z U k
 . rw[if_neg h0]at k;exact k
def XG{S:SR}{F:S7 S}{x y:S.W}(h:S.mul x y=S.one):y=F.inv x:=by
 have nx:x≠S.zero:=λe=>by rw[e,AZ]at h;exact S.zo h
 have:S.mul (F.inv x) (S.mul x y)=y:=by rw[<- S.mul_assoc,S.mul_comm (F.inv x),F.mul_inv x nx,JE]
 rw[h,S.mul_one]at this;exact this.symm
def Hl(a b:Int):dv a b=dv b a:=by unfold dv;rw[Int.gcd_comm]
def Ki{x:Fr}(h:0 < x.t):(T5 x).t=x.b/\(T5 x).b=x.t:=by
 have e1:=NR (a:=x.b) h;have l:=x.l;rw[Hl]at l;rw[Dk Y,Dl Y,<- e1.1,<- e1.2,l,Int.fdiv_one,Int.fdiv_one];exact⟨U,U⟩
def Rh(a:Int):a.fdiv (-1) = -a:=by
 have h:=dh a (-1);have h2:a.fmod (-1)=0:=by
  rw[Int.fmod_eq_emod];simp
 omega
def Kj{x:Fr}(h:x.t < 0):(T5 x).t = -x.b/\(T5 x).b = -x.t:=by
 have e1:=Qd (a:=x.b) h;have l:=x.l;rw[Hl]at l;rw[Dk Y,Dl Y,<- e1.1,<- e1.2,l,Rh,Rh];exact⟨U,U⟩
structure o0q(p x one eH b0 b1:Int):Prop where
 h0:0<=one
 h1:0<=eH
 z0:one<=1000000
 z1:eH<=1000000
 g:dv one eH=1
 e0:∃k,b0 * x=one+k * p
 e1:∃k,b1 * x=eH+k * p
def o0q.turn{p x one eH b0 b1:Int}(h:o0q p x one eH b0 b1)(n:eH≠0):o0q p x eH (one - one.fdiv eH * eH) b1 (b0 - one.fdiv eH * b1):=by
 have h1:=h.h1;have e:one - one.fdiv eH * eH=one.fmod eH:=by
  have:=dh one eH;rw[aI eH]at this;omega
 have m0:=bK one (show 0 < eH by omega);have m1:=bE one (show 0 < eH by omega);have z1:=h.z1;obtain⟨k0,f0⟩:=h.e0;obtain⟨k1,f1⟩:=h.e1;refine⟨h1,Y,z1,Y,?_,⟨k1,f1⟩,⟨k0 - one.fdiv eH * k1,?_⟩⟩
 . rw[e];have:=Vl (a:=one) (b:=eH) (x:=one) (y:=eH) rfl;rw[this];exact h.g
 . rw[Int.sub_mul,aG,f0,f1,Int.mul_add,Int.sub_mul,aG];omega
def Wx(T:Txt K mg t):Sp:=λvs H Q _=>∃(R:g9 Pr w K mg base),∃nm p so xv x m,So T R nm p/\vs=[so,xv]/\(F5 H so nm p/\R.is H xv x/\x≠R.S.zero/\R.S.sz m x/\X0 R.S (m+1))/\∀v H',h9 H H'->R.is H' v (R.F.inv x)->Q v H'
def HR(T:Txt K mg t):r8 Pr w K mg base E7 40 t.s0h t.r0c Pn (Wx (w:=w) (base:=base) T):=by
 refine T.r0l.F.okA E5 λ_ _ _ _ H _ _ _ hr h=>?_;obtain⟨R,nm,p,so,xv,x,m,hS,rfl,⟨rfl,hx,nx,zx,zm⟩,k⟩:=h;refine⟨_,(c5 (y8 (l8 J8 (O 0) a9 (o4 _)) (c4 (c9 (C9 (D9 (l7 S4 (B5 g6 (O 1) a9) (C1 (Nf T) hr.m T.t0u (x5 (B5 g6 (O 1) a9)))) (l4 FA bR T.z_abs boot_abs (x5 (B5 g6 (O 1) a9))))))) o8) (c5 (sT 2 E5.nd (O 1)) (c5 (sT 3 E5.nd (O 0)) (c5 (sT 4 E5.nd a9) (c5 (sT 5 E5.nd a9) (c5 (AM ar (l8 Ao (O 3) a9 (o4 _)) (c5 (sT 6 E5.nd (l7 Cy (O 2) (O 3))) (c5 (OW (i:=2) (j:=3) U E5.nd U U bD U U (D9 (O 3) (l7 Aa (O 2) (l7 Cw (O 6) (O 3)))) U) (c4 (OW (i:=4) (j:=5) U E5.nd U U bD U U (D9 (O 5) (l7 Aa (O 4) (l7 Cw (O 6) (O 5)))) U))))) (c4 (c9 (l7 E9 (O 4) (O 0)))))))))),?_⟩;dsimp only[z8,u7,y9,z5];cases hS with
 | fr=>
  obtain⟨px,rfl,hx⟩:=hx;have nz:=BE (x:=x) nx;have zx:x.sz m:=zx;have zm:=Ht zm;refine Z U ⟨U,Z U ?_⟩;refine CO (decide_eq_true U) ?_;refine Z U (zf ⟨U,U,l9.of hx,U,Z U (zf ⟨U,U,l9.of hx,U,Z U ?_⟩)⟩);refine za ⟨U,U,Ia (n:=1) zx.2 (by split <;>decide) Y,Z U (zf ⟨U,U,l9.of hx,U,Z U ⟨sL,λz nz'=>?_⟩⟩)⟩;refine k _ _ (c6 nz') ?_;show GX _ _ (T5 x).t (T5 x).b;by_cases h0:Fr.t x < 0
  . rw[(Kj (x:=x) h0).1,(Kj (x:=x) h0).2,if_pos h0,if_pos h0];dsimp only;rw[show Fr.b x * (-1) = -Fr.b x by omega];exact GX.new
  . have wm:0 < Fr.t x:=by omega
    rw[(Ki (x:=x) wm).1,(Ki (x:=x) wm).2,if_neg h0,if_neg h0];dsimp only;rw[bU];exact GX.new
 | re p hp gb hi=>
  cases (show xv=.int x.x from hx);refine Z U ⟨U,Z U ?_⟩;refine Fo (decide_eq_false λz=>by injection z with z;omega) ?_;have x0:=x.h0;have x1:=x.h1;have hg:Int.gcd x.x p=1:=by
   have e:=(SV (w:=w) (base:=base) T p hp gb hi).F.mul_inv x nx;have e':(x.x * ((SV (w:=w) (base:=base) T p hp gb hi).F.inv x).x).fmod p=1:=congrArg Re.x e;generalize ((SV (w:=w) (base:=base) T p hp gb hi).F.inv x).x=y at e';have e2:=dh (x.x * y) p;rw[e']at e2;have d1:((Int.gcd x.x p:Nat):Int) ∣ 1:=by
    have h1:((Int.gcd x.x p:Nat):Int) ∣ x.x * y:=Int.dvd_mul_of_dvd_left (Int.gcd_dvd_left ..) ..;have h2:((Int.gcd x.x p:Nat):Int) ∣ p * (x.x * y).fdiv p:=Int.dvd_mul_of_dvd_left (Int.gcd_dvd_right ..);have:=Int.dvd_sub h1 h2;rwa [show x.x * y - p * (x.x * y).fdiv p=1 by omega]at this
   have:=Int.le_of_dvd bD d1;have h0:Int.gcd x.x p≠0:=λz=>by rw[z]at d1;exact absurd (Int.zero_dvd.mp d1) bD
   omega
  refine Z U ?_;refine Z U ?_;refine⟨λm σ G=>∃one eH b0 b1 v6,σ=[some (.int p),some (.int x.x),some (.int one),some (.int eH),some (.int b0),some (.int b1),v6]/\m=eH.toNat/\G=H/\o0q p x.x one eH b0 b1,⟨_,x.x,p,1,0,none,U,U,U,⟨x0,Y,Y,Y,by unfold dv;rw[hg];rfl,⟨0,Y⟩,⟨-1,Y⟩⟩⟩,?_⟩
  rintro m σ G ⟨one,eH,b0,b1,v6,rfl,rfl,rfl,X⟩;refine Z U (za ⟨U,U,Z U ?_⟩);refine AC (λh0=>?_) (λh0=>?_)
  . have X':=X.turn Y;have o0:=X.h0;have o1:=X.h1;have o2:=X.z0;have f0:0<=one.fdiv eH:=Int.fdiv_nonneg o0 o1;have f1:one.fdiv eH<=one:=by
     rw[dy _ o1];exact Int.ediv_le_self _ o0
    have o3:=X.z1;have e:one - one.fdiv eH * eH=one.fmod eH:=by
     have:=dh one eH;rw[aI eH]at this;omega
    have m1:=bE one (show 0 < eH by omega);refine⟨λσ' G'=>∃mP gO yy yx v6,σ'=[some (.int p),some (.int x.x),some (.int mP),some (.int gO),some (.int yy),some (.int yx),v6]/\gO.toNat < eH.toNat/\G'=G/\o0q p x.x mP gO yy yx,λσ' G' ⟨o,o',a,b,v6,e1,e2,e3,e4⟩=>⟨_,e2,o,o',a,b,v6,e1,U,e3,e4⟩,?_⟩;refine vb U U (za ⟨U,U,JT Y Y _,?_⟩);refine vc U U U (Z U (za ⟨U,U,.inl ⟨Y,Y⟩,za ⟨U,U,za ⟨U,?_⟩⟩⟩));refine vc U U U (Z U (za ⟨U,U,.inl ⟨Y,Y⟩,za ⟨U,U,za ⟨U,?_⟩⟩⟩));exact zg ⟨U,Y,U,X'⟩
  . have e0:eH=0:=by have:=X.h1;omega
    subst e0;have o1:one=1:=by
     have:=X.g;unfold dv at this;rw[Int.gcd_zero_right]at this;have:=X.h0;omega
    subst o1;refine vb U U (za ⟨U,U,(show p≠0 by omega),?_⟩);refine k _ _ (h9.refl _) ?_;have:Re.of p Y b0=(SV (w:=w) (base:=base) T p hp gb hi).F.inv x:=XG (F:=(SV (w:=w) (base:=base) T p hp gb hi).F) (x:=x) (y:=Re.of p Y b0) (Re.eq_of (by
     show(x.x * b0.fmod p).fmod p=1;obtain⟨k0,e0⟩:=X.e0;have e2:=dh b0 p;have e3:x.x * b0.fmod p=1+(k0 - x.x * b0.fdiv p) * p:=by
      have:x.x * b0=1+k0 * p:=by rw[aI];exact e0
      rw[Int.sub_mul,aG,aI (b0.fdiv p) p];rw[<- e2,Int.mul_add]at this;omega
     rw[e3,Int.add_mul_fmod_self_right];exact Ga Y Y))
    rw[<- this];rfl
def XD{a:Addr}{xs:List V}{g:TG}{tb:TS}{D:GY}{σ:L2.St}{H:Hp}(Pv:Nat->L2.St->Hp->Prop)(h0:Pv 0 σ H)(h:H a=some (.lst xs)\/H a=some (.tup xs))(hl:∀i σ G,i<=xs.length->Pv i σ G->G a=H a)
    (hs:∀i x σ H,xs[i]? = some x->Pv i σ H->g x σ H λσ2 H2=>tb { D with nx:=Pv (i+1),ct:=Pv (i+1),bk:=D.nx } σ2 H2) (hd:∀σ H,Pv xs.length σ H->D.nx σ H) :
    (((∃xs,o7 K H a xs)/\∃W:Nat->Nat->L2.St->Hp->Prop,(∃m,W 0 m σ H)/\∀i m σ H,W i m σ H->
     ((VX K a).stop i H/\D.nx σ H)\/((VX K a).go i H/\∃N:L2.St->Hp->Prop,(∀σ' H',N σ' H'->∃m',m' < m/\W (i+1) m' σ' H')/\∀x H',(VX K a).yld i H x H'->g x σ H' λσ2 H2=>tb { D with nx:=N,ct:=N,bk:=D.nx } σ2 H2))\/
    ((∃xs,l9 K H a xs)/\∃W:Nat->Nat->L2.St->Hp->Prop,(∃m,W 0 m σ H)/\∀i m σ H,W i m σ H->
     ((VW K a).stop i H/\D.nx σ H)\/((VW K a).go i H/\∃N:L2.St->Hp->Prop,(∀σ' H',N σ' H'->∃m',m' < m/\W (i+1) m' σ' H')/\∀x H',(VW K a).yld i H x H'->g x σ H' λσ2 H2=>tb { D with nx:=N,ct:=N,bk:=D.nx } σ2 H2))):=by
 rcases h with h | h
 . exact .inl ⟨⟨_,o7.of h⟩,P1 (K:=K) (a:=a) (xs:=xs) Pv h0 (λi σ G hi p=>o7.of ((hl i σ G hi p).trans h)) hs hd⟩
 . exact .inr ⟨⟨_,l9.of h⟩,BA (K:=K) (a:=a) (xs:=xs) Pv h0 (λi σ G hi p=>l9.of ((hl i σ G hi p).trans h)) hs hd⟩
def UO{H H':Hp}{b:Addr}(s:h9 H H')(h:H' b=none):H b=none:=by
 cases e:H b with
 | none=>rfl
 | some o=>rw[s _ _ e]at h;cases h
def j9.tl{b:Addr}{us:List V}{H H':Hp}(s:j9 b H H')(h:H b=some (.lst us)):x4 H H':=λp vs e=>s p _ (by
 rintro rfl;rw[h]at e;cases e) e
def RowS(R:g9 Pr w K mg base)(W:Nat)(x:Nat->R.S.W)(u:V)(H:Hp):Prop:=∃a vs,u=.ref a/\(H a=some (.lst vs)\/H a=some (.tup vs))/\i3 (λj u H=>R.is H u (x j)) vs W H
def Kt(R:g9 Pr w K mg base)(W:Nat)(b:Addr)(ks:List (Nat × (Nat->R.S.W))):Nat->V->Hp->Prop:=λi u H=>∃k q rp vs,ks[i]? = some k/\u=.ref q/\q≠b/\H q=some (.tup [.int (k.1:Nat),.ref rp])/\rp≠b/\H rp=some (.lst vs)/\i3 (λj u H=>R.is H u (k.2 j)) vs W H
section
variable{R:g9 Pr w K mg base}{W:Nat}{b:Addr}{ks:List (Nat × (Nat->R.S.W))}{H H':Hp}
theorem Kt.same{i:Nat}{u:V}(s:j9 b H H')(st:x4 H H')(h:Kt R W b ks i u H):Kt R W b ks i u H':=by
 obtain⟨k,q,rp,vs,e,rfl,nq,hq,nr,hr,r⟩:=h;exact⟨k,q,rp,vs,e,U,nq,s _ _ nq hq,nr,s _ _ nr hr,r.mono λ_ _ _ z=>R.same st z⟩
def RD(R:g9 Pr w K mg base)(W:Nat)(b:Addr)(ks:List (Nat × (Nat->R.S.W)))(H:Hp):Prop:=∃us,H b=some (.lst us)/\i3 (Kt R W b ks) us ks.length H
theorem RD.same(s:h9 H H')(h:RD R W b ks H):RD R W b ks H':=by
 obtain⟨us,ha,e⟩:=h;exact⟨us,s _ _ ha,e.mono λ_ _ _ q=>q.same (.of s) s.t⟩
end
noncomputable def UL{S:SR}(y:Nat->S.W)(j:Nat):List Nat:=(List.range j).filter λi=>@decide (y i≠S.zero) (Classical.propDecidable _)
def Pj{S:SR}{y:Nat->S.W}{j:Nat}(h:y j=S.zero):UL y (j+1)=UL y j:=by
 unfold UL;rw[cG,dF,List.filter_cons_of_neg (by simp[h])];simp
def Lq{S:SR}{y:Nat->S.W}{j:Nat}(h:y j≠S.zero):UL y (j+1)=UL y j++[j]:=by
 unfold UL;rw[cG,dF,List.filter_cons_of_pos (by simp[h])];simp
def ZK{S:SR}{y:Nat->S.W}{j:Nat}:(UL y j).length<=j:=ag (List.length_filter_le _ _) (by rw[bO];exact ae _)
theorem Lr{S:SR}{y:Nat->S.W}:∀{W:Nat},(∀j,j < W->y j=S.zero)->UL y W=[]
 | 0,_=>rfl
 | W+1,h=>by rw[Pj (h W Y),Lr λj hj=>h j Y]
theorem Pk{S:SR}{y:Nat->S.W}{p:Nat}(np:y p≠S.zero)(h:∀j,j < p->y j=S.zero):∀{W:Nat},p < W->∃T,UL y W=p::T
 | 0,hp=>absurd hp Y
 | W+1,hp=>by
  by_cases e:p=W
  . subst e;exact⟨[],by rw[Lq np,Lr h];rfl⟩
  . obtain⟨T,eT⟩:=Pk np h (show p < W by omega);by_cases z:y W=S.zero
    . exact⟨T,by rw[Pj z,eT]⟩
    . exact⟨T++[W],by rw[Lq z,eT];rfl⟩
def rows{α:Type}(x:Nat->α)(i:Nat):List α:=(List.range i).map x
def Se{α:Type}{x:Nat->α}{i:Nat}:rows x (i+1)=rows x i++[x i]:=by unfold rows;rw[cG,bc];rfl
def Ul{α:Type}{x:Nat->α}{i:Nat}:(rows x i).length=i:=by unfold rows;rw[af,bO]
def TH(T:Txt K mg t):Sp:=λvs H Q _=>∃(R:g9 Pr w K mg base),∃nm p so a us,∃(m W r z:Nat),∃(x:Nat->Nat->R.S.W),So T R nm p/\vs=[so,.ref a]/\(F5 H so nm p/\(H a=some (.lst us)\/H a=some (.tup us))/\i3 (λi u H=>RowS R W (x i) u H) us m H/\m<=1000/\W<=1000/\(∀i,i < m->XB R.B W r r (x i))/\r+(r+1) * 2 ^ m<=z/\X0 R.S (3 * z+3))/\
 ∀H',h9 H H'->Q (.int ((kpL R.F W (rows x m)).length:Nat)) H'
def Gx(T:Txt K mg t):r8 Pr w K mg base E7 41 t.x0b t.t0q ZQ (TH (w:=w) (base:=base) T):=by
 refine T.t0p.F.okA F6 λ_ _ _ s H vs _ _ hr h=>?_;obtain⟨R,nm,p,so,a,us,m,W,r,z,x,hS,rfl,⟨eI,ha,eU,hm,hW,hx,hz,hZ⟩,k⟩:=h;have zl:=sZ;have um:=eU.1;refine⟨_,(c8 (M6 (i:=2) F6.nd U (Or.inr U) (C1 (AS T) hr.m T.x0j (D9 (O 0) a9))) (c8 (sT 3 F6.nd (D0 J1)) (c8 (C6 ar U (ZC (O 1)) (gN 4 F6.nd) (c8 (M6 (i:=5) F6.nd U (Or.inr U) (j6 N6 bR T.z_list boot_list (x5 (O 4)))) (c8 (C6 ar U (B6 (O 3)) (J0 U (j8 (gN 6 F6.nd) (j8 (gN 7 F6.nd) D3))) (c8 (M6 (i:=8) F6.nd U (Or.inr U) (C1 (Fc T) hr.m T.t0c (D9 (O 0) (B5 z9 (O 5) (O 6))))) (c4 (M6 (i:=5) F6.nd U (Or.inr U) (w5 (xs:=[FF,"_law_y"]) U (oC n9N (a8 U1)) (Cs U T.z_zip (D9 (O 5) (O 7))) (show PG _ _ (Ft K 2 _)from(J0 U (j8 (gL 10 n0d) (j8 (gL 11 n0d) D3)))) (x9 (Q4 (w:=w) (base:=base) T) hr.m U T.t0v.m T.t0v.F.kp T.t0v.b .nil B4 (S6 (O 0) (O 10) (x9 (L8 (w:=w) (base:=base) T) hr.m U T.t0d.m T.t0d.F.kp T.t0d.b .nil B4 (S6 (O 0) (O 8) (O 11)))))))))) (c8 (AO 6 (HE 6 "#1" bD (Us (i₀:=9) (xs:=[Kw]) (by show List.Nodup (m0z);decide +kernel) U (Or.inl U) U (oC m0z (a8 U1)) (C4 U T.z_range (x5 (l4 r9 bR T.z_len PySem.boot_len (x5 (O 5))))) (p9 (i:=10) (by show List.Nodup ([D5,IM,Ot,Te,BH,AF,"#1",BI,GH,Tg,Kw]:List Str);decide +kernel) U (Or.inl U)) (l8 (show Ez _ (compareOp .NotEq) (OU K)from Cv hr.units) (B5 (show Ku _ (Zs K)from z9) (O 5) (O 10)) (O 2) (o4 _)) (O 10)))) (c4 (y8 (l8 Ao (l4 r9 bR T.z_len PySem.boot_len (x5 (O 9))) a9 (o4 _)) (c8 (M6 (i:=8) F6.nd U (Or.inr U) (C1 (HR T) hr.m T.r0l (D9 (O 0) (B5 z9 (O 5) (B5 z9 (O 9) a9))))) (c4 (E8 (S3 bf bA bB F8 (O 3) (x5 (C9 (D9 (B5 z9 (O 9) a9) (w5 (xs:=[FF]) U (oC n9N (a8 U1)) (B6 (O 5)) (p9 (i:=10) (by show List.Nodup ([D5,IM,Ot,Te,BH,AF,Kw,BI,GH,Tg,FF]:List Str);decide +kernel) U (Or.inl U)) (x9 (L8 (w:=w) (base:=base) T) hr.m U T.t0d.m T.t0d.F.kp T.t0d.b .nil B4 (S6 (O 0) (O 8) (O 10))))))))))) o8)))))) (c4 (c9 (l4 r9 bR T.z_len PySem.boot_len (x5 (O 3)))))))),?_⟩;dsimp only[z8,u7,y9,z5];intro xR xE;refine Z U ⟨R,zB nm p so 0 ⟨hS,U,⟨eI,bD,bD⟩,λzv H1 x0 s1 f1 ez _ _ _=>?_⟩⟩;cases ez rfl;subst xE;intro xR xE;refine⟨aY _,λb nb=>?_⟩;have rO:=UO s1 nb;refine E6 (o:=.lst ([]:List V)) nb λH2 s2 k2=>?_;have IH:=s1.trans s2;have vA:a≠b:=λe=>by subst e;rw[rO]at ha;rcases ha with z | z <;>cases z
 have vW:H2 a=some (.lst us)\/H2 a=some (.tup us):=ha.imp (IH _ _) (IH _ _);have kl:∀i,i<=m->(kpL R.F W (rows x i)).length<=m:=λi hi=>ag (Xv _) (by rw[Ul];exact hi);have KB:∀i,i<=m->Kb R.B W r (kpL R.F W (rows x i)):=λi hi=>Kb.kpL (ae _) _ λy hy=>by
  obtain⟨j,hj,rfl⟩:=aw.mp hy;exact hx j (by have:=aN.mp hj;omega)
 subst xE;intro xR xE;refine Z U ⟨a,U,XD (K:=K) (xs:=us) (λi σ G=>∃v4 v5 v6 v7 v8 v9,σ=[some so,sr a,some zv,sr b,v4,v5,v6,v7,v8,v9]/\j9 b H2 G/\RD R W b (kpL R.F W (rows x i)) G) ⟨_,_,_,_,_,Z U ⟨j9.refl _ _,[],k2,i3.nil⟩⟩ vW (λi σ G _ ⟨_,_,_,_,_,_,_,q,_⟩=>?_) ?_ ?_⟩
 . rcases vW with h | h
   . exact(q _ _ vA h).trans h.symm
   . exact(q _ _ vA h).trans h.symm
 . rintro i y σ G hi ⟨v4,v5,v6,v7,v8,v9,rfl,sG,hK⟩;obtain⟨im,q,vs,rfl,hq,eV⟩:=eU.at hi;have vt:q≠b:=λe=>by subst e;rw[rO]at hq;rcases hq with z | z <;>cases z
   have tG:x4 H G:=IH.t.trans (sG.tl k2);have sO:G q=some (.lst vs)\/G q=some (.tup vs):=hq.imp (λh=>sG _ _ vt (IH _ _ h)) (λh=>sG _ _ vt (IH _ _ h));intro xR xE;refine Z U ⟨q,vs,U,sO.imp o7.of l9.of,λlp nl=>?_⟩;have s3:=c6 (o:=.lst vs) nl;have k3:=b9 (H:=G) (a:=lp) (o:=.lst vs);have ue:=hK.same s3;have nlb:lp≠b:=λe=>by subst e;obtain⟨_,z,_⟩:=hK;rw[nl]at z;cases z
   have nlH:=UO IH (show H2 lp=none from by
    cases e:H2 lp with
    | none=>rfl
    | some o=>rw[sG _ _ nlb e]at nl;cases nl)
   have uF:i3 (λj u H=>R.is H u (x i j)) vs W (upd G lp (.lst vs)):=eV.mono λ_ _ _ z=>R.same (tG.trans s3.t) z;revert s3 k3 ue uF;generalize upd G lp (.lst vs)=G1;intro s3 k3 ue uF;have qN:=tG.trans s3.t;obtain⟨ku,kg,eK⟩:=ue;have xi:=hx i im;obtain⟨z0,z1⟩:=(KB i Y).clrZ (F:=R.F) (m:=z) xi (kl i Y) hz;have lt:∀k∈kpL R.F W (rows x i),k.1 < W:=(W8 _).lt;subst xE;intro xR xE;refine Z U ⟨b,U,⟨_,o7.of kg⟩,P1 (K:=K) (a:=b) (xs:=ku) (λj σ G2=>∃lZ gU v6 v7 v8,σ=[some so,sr a,some zv,sr b,sr q,some (.ref lZ),v6,v7,v8,v9]/\h9 G1 G2/\G2 lZ=some (.lst gU)/\i3 (λjj u H=>R.is H u (clr R.F ((kpL R.F W (rows x i)).take j) (x i) jj)) gU W G2) ⟨lp,vs,_,_,Z U ⟨h9.refl _,k3,uF⟩⟩ (λj σ G2 _ ⟨_,_,_,_,_,_,s,_⟩=>o7.of (s _ _ kg)) ?_ ?_⟩
   . rintro j y σ G2 hj ⟨lZ,gU,v6,v7,v8,rfl,q2,hl,eL⟩;obtain⟨jl,kq,qa,rp,ws,ek,rfl,nqa,hqa,nrp,jD,eR⟩:=eK.at hj;have mk:=aK ek;have fX:=lt kq mk;have uR:=z0 j Y;have ts:(kpL R.F W (rows x i)).take (j+1)=(kpL R.F W (rows x i)).take j++[kq]:=J2 ek;obtain⟨lu,iB,gF⟩:=eL.2 _ fX;refine⟨qa,Z U ⟨l9.of (q2 _ _ hqa),U,za ⟨U,za ⟨U,U,?_⟩⟩⟩⟩;intro xR xE;refine vc U U U (zf ⟨U,U,o7.of hl,B0 iB,R,zE nm p so lu _ ⟨hS,U,⟨eI.same (qN.trans q2.t),gF⟩,λmv G3 s4 f4=>?_⟩⟩);have q3:=q2.trans s4;have jC:=q3 _ _ jD;have eR3:i3 (λj u H=>R.is H u (kq.2 j)) ws W G3:=eR.mono λ_ _ _ z=>R.same q3.t z;have qp:i3 (λjj u H=>R.is H u (clr R.F ((kpL R.F W (rows x i)).take j) (x i) jj)) gU W G3:=eL.mono λ_ _ _ z=>R.same s4.t z;subst xE;refine vb U U ⟨.lst lZ,.lst rp,za ⟨gU,ws,U,U,U,o7.of (s4 _ _ hl),o7.of jC,o6 (n:=W) (λjj ys G4=>h9 G3 G4/\i3 (λjj u H=>R.is H u (stp R.F kq (clr R.F ((kpL R.F W (rows x i)).take j) (x i)) jj)) ys jj G4) hW ⟨h9.refl _,i3.nil⟩ (λj ys G q=>q.2.1) ?_ ?_ ?_⟩⟩
     . rintro jj ys G4 pR ⟨q4,e4⟩;obtain⟨tu,jk,iY⟩:=qp.2 jj pR;obtain⟨ru,yg,pru⟩:=eR3.2 jj pR;refine⟨⟨gU,ws,tu,ru,o7.of (q4 _ _ (s4 _ _ hl)),o7.of (q4 _ _ jC),jk,yg⟩,λy' H' hy=>?_⟩;obtain⟨p2,x',y',rfl,rJ,rfl,f1',f2⟩:=hy;have g1:=f1' _ (o7.of (q4 _ _ (s4 _ _ hl)));rw[jk]at g1;cases g1;have g2:=f2 _ (o7.of (q4 _ _ jC));rw[yg]at g2;cases g2;have t5:=q4.trans (c6 (o:=.tup [tu,ru]) rJ);have u5:=(qN.trans q3.t).trans t5.t;have sn:=R.F.sz_neg _ _ (uR kq.1 fX);have sk:=z1 kq mk jj pR;refine⟨p2,Z U ⟨l9.of b9,U,za ⟨U,za ⟨U,U,⟨[some _,some _],U,U⟩,vc U U U (vb U U ⟨R,zL nm p so mv ru _ _ z z ⟨hS,U,⟨eI.same u5,R.same t5.t f4,R.same t5.t pru,sn,sk,hZ.le Y⟩,λtv G5 s6 f6=>?_⟩⟩)⟩⟩⟩⟩;refine⟨R,zL nm p so tu tv _ _ z (z+z) ⟨hS,U,⟨eI.same (u5.trans s6.t),R.same (t5.trans s6).t iY,f6,uR jj pR,R.S.sz_mul _ _ _ _ sn sk,hZ.le Y⟩,λav G6 s7 f7=>?_⟩⟩;exact⟨q4.trans (((c6 (o:=.tup [tu,ru]) rJ).trans s6).trans s7),(e4.mono λ_ _ _ z=>R.same (((c6 (o:=.tup [tu,ru]) rJ).trans s6).trans s7).t z).snoc f7⟩
     . rintro ys G4 ⟨q4,e4⟩;exact⟨gU,ws,o7.of (q4 _ _ (s4 _ _ hl)),o7.of (q4 _ _ jC),.inl eL.1.symm⟩
     . rintro ys G4 zp ⟨q4,e4⟩ nz;have t5:=c6 (o:=.lst ys) nz;refine⟨zp,ys,zd ⟨U,q3.trans (q4.trans t5),b9,?_⟩⟩;rw[ts,Bc];exact e4.mono λ_ _ _ z=>R.same t5.t z
   . rintro σ G2 ⟨lZ,gU,v6,v7,v8,rfl,q2,hl,eL⟩;rw[eK.1,bb]at eL;have oN:=z0 _ (ae _);rw[bb]at oN;obtain⟨ks,qo⟩:∃ks,kpL R.F W (rows x i)=ks:=⟨_,U⟩;rw[qo]at eL oN eK;obtain⟨y,ey⟩:∃y,clr R.F ks (x i)=y:=⟨_,U⟩;have el:=eL.1;have KP:Kp R.S W ks:=qo▸W8 _;have yh:kpL R.F W (rows x (i+1))=AV R.F W ks (x i):=by rw[Se,Fn,qo]
     have t2:=qN.trans q2.t;have oi:=q2 _ _ kg;have yn:=eK.mono λ_ _ _ z=>z.same (.of q2) q2.t;subst xE;intro xR xE;refine⟨U,Z U (za ⟨U,(.inl ⟨_,o7.of hl,U⟩),Z U ⟨Y,Y,Ob (n:=W) (λj ys G3=>h9 G2 G3/\ys=(UL y j).map λi=>V.int (i:Nat)) Y ⟨h9.refl _,U⟩ (λj ys G q=>by rw[q.2,af];exact ZK) ?_ ?_ ?_⟩⟩)⟩
     . rintro j ys G3 hj ⟨q3,rfl⟩;refine JA (by omega) ?_;obtain⟨lu,iB,gF⟩:=eL.2 j hj;rw[ey]at gF;refine⟨⟨[some _],U,U⟩,?_⟩;refine vb U U (zf ⟨U,U,o7.of (q3 _ _ hl),(by rw[Int.zero_add];exact B0 iB),Z U ?_⟩);by_cases e:y j=R.S.zero
       . refine R.neD (R.same q3.t gF) (R.same ((s2.t.trans (sG.tl k2)).trans ((s3.trans q2).trans q3).t) f1) e (Z U ?_)
         (try refine T3 ?_)
         exact⟨q3,by rw[Pj e]⟩
       . refine R.neT (R.same q3.t gF) (R.same ((s2.t.trans (sG.tl k2)).trans ((s3.trans q2).trans q3).t) f1) e (Z U ?_)
         (try refine Bz ?_)
         exact Z U ⟨q3,by rw[Lq e,bc,Int.zero_add];rfl⟩
     . rintro ys G3 ⟨q3,rfl⟩;show(gU.length:Int).toNat<=W;omega
     . rintro ys G3 pp ⟨q3,rfl⟩ np;refine E6 (o:=.lst ((UL y W).map λi=>V.int (i:Nat))) np λG4 s4 k4=>?_;have jU:=q3.trans s4;have hb4:=jU _ _ oi;have eK4:=yn.mono λ_ _ _ z=>z.same (.of jU) jU.t;have hl4:=jU _ _ hl;have t4:=t2.trans jU.t;have sX:j9 b H2 G4:=sG.trans (.of (s3.trans (q2.trans jU)));subst xE;refine Z U (za ⟨U,(.inl ⟨_,o7.of k4,by rw[af]⟩),za ⟨U,U,Z U ?_⟩⟩);refine AC (λgt=>?_) (λgt=>?_)
       . cases e:AU y W with
         | none=>
          rw[Lr (V0 e)]at gt;exact absurd gt bD
         | some pl=>
          obtain⟨l1,l2,l3⟩:=M4 e;obtain⟨TT,eT⟩:=Pk l2 l3 l1;rw[eT]at k4;have nf:ks.length≠W:=λz=>l2 (by rw[<- ey];exact KP.full z pl l1);obtain⟨lu,iB,gF⟩:=eL.2 pl l1;rw[ey]at gF;have zy:R.S.sz z (y pl):=by rw[<- ey];exact oN pl l1
          intro xR xE;refine vc U U U (zf ⟨U,U,o7.of k4,B0 (j:=0) U,zf ⟨U,U,o7.of hl4,B0 iB,R,zG nm p so lu (y pl) z ⟨hS,U,⟨eI.same t4,R.same jU.t gF,l2,zy,hZ.le Y⟩,λiv G5 s5 f5=>?_⟩⟩⟩);have kE:=jU.trans s5;have tS:=kE _ _ oi;have eK5:i3 (Kt R W b ks) ku ks.length G5:=yn.mono λ_ _ _ z=>z.same (.of kE) kE.t;have tm:=kE _ _ hl;have k5:=s5 _ _ k4;have t5:=t2.trans kE.t;have zi:=R.F.sz_inv _ _ l2 zy;have kll:ks.length<=m:=qo▸kl i Y;subst xE;refine Z U ⟨.inl ⟨U,_,o7.of tS⟩,Z U (zf ⟨U,U,o7.of k5,B0 (j:=0) U,Z U ⟨lZ,U,⟨_,o7.of tm⟩,o6 (n:=W) (λj ys G6=>h9 G5 G6/\i3 (λjj u H=>R.is H u (R.S.mul (R.F.inv (y pl)) (y jj))) ys j G6) hW ⟨h9.refl _,i3.nil⟩ (λj ys G q=>q.2.1) ?_ ?_ ?_⟩⟩)⟩
          . rintro j ys G6 hj ⟨q6,e6⟩;obtain⟨tu,jk,iY⟩:=eL.2 j hj;rw[ey]at iY;refine Fp (o7.of (q6 _ _ tm)) jk ?_;refine⟨⟨[some _],U,U⟩,vc U U U ⟨R,zL nm p so iv tu _ _ z z ⟨hS,U,⟨eI.same (t5.trans q6.t),R.same q6.t f5,R.same (kE.trans q6).t iY,zi,(by rw[<- ey];exact oN j hj),hZ.le Y⟩,λtv G7 s7 f7=>?_⟩⟩⟩;exact⟨q6.trans s7,(e6.mono λ_ _ _ z=>R.same s7.t z).snoc f7⟩
          . rintro ys G6 ⟨q6,e6⟩;exact⟨_,o7.of (q6 _ _ tm),by rw[el];exact ae _⟩
          . rintro ys G6 lq ⟨q6,e6⟩ mX;have s7:=c6 (o:=.lst ys) mX;have k7:=b9 (H:=G6) (a:=lq) (o:=.lst ys);have mW:lq≠b:=λe=>by subst e;rw[q6 _ _ tS]at mX;cases mX
            have e7:i3 (λjj u H=>R.is H u (R.S.mul (R.F.inv (y pl)) (y jj))) ys W (upd G6 lq (.lst ys)):=e6.mono λ_ _ _ z=>R.same s7.t z;revert s7 k7 e7;generalize upd G6 lq (.lst ys)=G7;intro s7 k7 e7;refine⟨sL,λpt npt=>?_⟩;refine E6 (o:=.tup [V.int (pl:Nat),V.ref lq]) npt λG8 s8 k8=>?_;have RY:=s7.trans s8;have oZ:=q6.trans RY;have tR:=oZ _ _ tS;have mU:pt≠b:=λe=>by subst e;rw[tR]at k8;cases k8
            have ekl:=eK.1;refine⟨b,ku,V.ref pt,U,U,tR,Y,?_⟩;have st:=y6 (o:=.lst (ku++[V.ref pt])) tR;have yi:=NH (F:=R.F) (ks:=ks) (r:=x i) nf (by rw[ey];exact e);rw[ey]at yi;refine zh ⟨U,(sG.trans (.of (s3.trans (q2.trans (kE.trans oZ))))).trans j9.upd,?_⟩;rw[yh,yi];refine⟨_,b9,?_⟩;rw[aq];refine i3.snoc (eK5.mono λi' w' iq q=>?_) ⟨(pl,λj=>R.S.mul (R.F.inv (y pl)) (y j)),pt,lq,ys,?_,U,mU,by rw[l6 mU];exact k8,mW,by rw[l6 mW];exact s8 _ _ k7,e7.mono λ_ _ _ z=>R.same (s8.t.trans st) z⟩
            . obtain⟨k',q',rp',gU,e',r'⟩:=q.same (.of oZ) oZ.t;exact Kt.same j9.upd st ⟨k',q',rp',gU,by rw[aW iq];exact e',r'⟩
            . rw[ba (ae _),cz];rfl
       . have e:AU y W=none:=by
          cases e:AU y W with
          | none=>rfl
          | some pl=>
           obtain⟨l1,l2,l3⟩:=M4 e;obtain⟨TT,eT⟩:=Pk l2 l3 l1;rw[eT]at gt;exact absurd (show(0:Int) < (((pl::TT).length:Nat):Int) by simp) gt
         refine zh ⟨U,sX,?_⟩;rw[yh,NI (by rw[ey];exact e)];exact⟨ku,hb4,eK4⟩
 . rintro σ G ⟨v4,v5,v6,v7,v8,v9,rfl,sG,⟨ku,hb,eK⟩⟩;rw[um]at eK;subst xE;refine Z U (za ⟨U,(.inl ⟨_,o7.of hb,eK.1.symm⟩),?_⟩);exact k _ λc o e=>sG c o (j7 e rO) (IH _ _ e)
def c0j{l:List Nat}(h1:1<=l.length)(h3:l.length<=3):(∃a,l=[a])\/(∃a b,l=[a,b])\/∃a b c,l=[a,b,c]:=by
 match l,h1,h3 with
 | [a],_,_=>exact .inl ⟨a,U⟩
 | [a,b],_,_=>exact .inr (.inl ⟨a,b,U⟩)
 | [a,b,c],_,_=>exact .inr (.inr ⟨a,b,c,U⟩)
def occ1(a x:Nat)(h:x=a):Builtin.Str.occurrences (tx [a]) (tx [x]) 0 (tx [a]).length 1=[0]:=by
 subst h;simp[Builtin.Str.occurrences,Builtin.Str.subAt,tx,Str.length,List.range']
def occ2(a b x:Nat)(n:a≠b)(h:x=a\/x=b):Builtin.Str.occurrences (tx [a,b]) (tx [x]) 0 (tx [a,b]).length 1=[List.idxOf x [a,b]]:=by
 rcases h with rfl | rfl
 . simp[Builtin.Str.occurrences,Builtin.Str.subAt,tx,Str.length,List.range',di]
 . simp[Builtin.Str.occurrences,Builtin.Str.subAt,tx,Str.length,List.range',di,n,beq_false_of_ne n]
def occ3(a b c x:Nat)(n:(a≠b/\a≠c)/\b≠c)(h:x=a\/x=b\/x=c):Builtin.Str.occurrences (tx [a,b,c]) (tx [x]) 0 (tx [a,b,c]).length 1=[List.idxOf x [a,b,c]]:=by
 rcases h with rfl | rfl | rfl
 . simp[Builtin.Str.occurrences,Builtin.Str.subAt,tx,Str.length,List.range',di]
 . simp[Builtin.Str.occurrences,Builtin.Str.subAt,tx,Str.length,List.range',di,n.1.1,beq_false_of_ne n.1.1]
 . simp[Builtin.Str.occurrences,Builtin.Str.subAt,tx,Str.length,List.range',di,n.1.2,n.2,beq_false_of_ne n.1.2,beq_false_of_ne n.2]
def UJ{l:List Nat}(L:P5 l){x:Nat}(hx:x∈l):Builtin.Str.occurrences (tx l) (tx [x]) 0 (tx l).length 1=[l.idxOf x]:=by
 have nd:=L.nd;have h1:1<=l.length:=List.length_pos_of_mem hx;rcases c0j h1 L.h3 with ⟨a,rfl⟩ | ⟨a,b,rfl⟩ | ⟨a,b,c,rfl⟩
 . have:x=a:=by simpa using hx
   rw[occ1 a x this,this];simp
 . exact occ2 a b x (by simpa using nd) (by simpa using hx)
 . exact occ3 a b c x (by simpa [not_or] using nd) (by simpa using hx)
def sp_lwords:Sp:=λvs H Q _=>∃l,∃(q:Nat),vs=[vT l,.int (q:Nat)]/\(P5 l/\l.length ^ q<=1000/\(E3 l q).length<=1000/\q<=100)/\∀b H',h9 H H'->H' b=some (.lst ((E3 l q).map vT))->Q (.ref b) H'
def EZ(T:Txt K mg t):r8 Pr w K mg base E7 1 t.w0o t.t0b ZU sp_lwords:=by
 refine T.t0h.F.okA F4 λ_ _ _ _ H _ _ _ hr h=>?_;obtain⟨l,z,rfl,⟨L,pO,jc,hq⟩,k⟩:=h;have sl:=sZ;have l3:=L.h3;refine⟨_,(c5 (sT 2 F4.nd (D0 (x5 Cu))) (c5 (sT 3 F4.nd (D0 (x5 Cu))) (c5 (C6 ar U (C4 U T.z_range (x5 (O 1))) (gN 4 F4.nd) (c5 (sT 5 F4.nd (D0 J1)) (c5 (C6 ar U (B6 (O 3)) (p9 (i:=6) F4.nd U (Or.inr U)) (c4 (sT 5 F4.nd (l7 Lj (O 5) (w5 (xs:=[KC]) U (oC m0v (a8 Ai)) (Pa (O 0)) (p9 (i:=7) (by show List.Nodup ([BJ,RH,Kz,"_law_level",BV,"_law_beyond",Hn,KC]:List Str);decide +kernel) U (Or.inl U)) (l7 HL (O 6) (O 7))))))) (c5 (sT 3 F4.nd (O 5)) (c4 (sT 2 F4.nd (l7 Lj (O 2) (O 3)))))))) (c4 (c9 (O 2)))))),?_⟩;dsimp only[z8,u7,y9,z5];have em:V.str (Str.ofString "")=vT []:=by rw[VG];rfl
 refine⟨sL,λf0 nf=>?_⟩;rw[em];refine E6 (o:=.lst [vT []]) nf λH0 s0 h0=>?_;refine⟨sL,λg0 ng=>?_⟩;refine E6 (o:=.lst [vT []]) ng λH1 s1 h1=>?_;refine vb U U ⟨Y,Y,AY (lo:=0) (n:=z) (λi σ G=>∃fp lp v4 v5 v6,σ=[some (vT l),si z,sr fp,sr lp,v4,v5,v6]/\h9 H G/\G fp=some (.lst ((E3 l i).map vT))/\G lp=some (.lst ((Ib l i).map vT))) ⟨f0,g0,_,_,Z U ⟨s0.trans s1,s1 _ _ h0,h1⟩⟩ ?_ ?_⟩
 . rintro i σ G hi ⟨fp,lp,v4,v5,v6,rfl,q,hf,hl⟩;have pl:l.length ^ (i+1)<=l.length ^ z:=Ut Y Y;have ul:=FJ (l:=l) (show i+1<=z by omega);refine⟨sL,λgp ng=>?_⟩;refine E6 (o:=.lst []) ng λG1 s3 k3=>?_;have pO:=s3 _ _ hl;refine Z U ⟨lp,U,⟨_,o7.of pO⟩,P1 (K:=K) (a:=lp) (xs:=(Ib l i).map vT) (λj σ G2=>∃bp v6,σ=[some (vT l),si z,sr fp,sr lp,some (.int (0+(i:Int))),sr bp,v6]/\h9 G G2/\G2 bp=some (.lst ((gB l ((Ib l i).take j)).map vT))) ⟨gp,Z U ⟨s3,k3⟩⟩ (λj σ G2 _ ⟨_,_,_,x,_⟩=>o7.of (x _ _ hl)) ?_ ?_⟩
   . rintro j y σ G2 hj ⟨bp,v6,rfl,q2,hg⟩;rw[aE]at hj;obtain⟨u,eu,rfl⟩:=cA.mp hj;have jl:=(aU.mp eu).1;have bl:(gB l ((Ib l i).take j)).length+l.length<=10000:=by
      rw[LN,bN,Nat.min_eq_left (bF jl),<- bq];have:(j+1) * l.length<=(Ib l i).length * l.length:=bh _ jl;rw[Fg,<- bW]at this;exact ag this (ag pl Y)
     have uu:u.length=i:=Ve i u (aK eu);refine vc U U U ⟨L.asc,o6 (n:=l.length) (λm ys G3=>ys.length=m/\ys=((l.take m).map λc=>u++[c]).map vT/\G3=G2) Y ⟨U,U,U⟩ (λj ys H2 q=>q.1) ?_ ?_ ?_⟩
     . rintro m ys G3 hm ⟨e0,e1,rfl⟩;refine⟨(by show m < l.toArray.size;simpa using hm),λx H' hy=>?_⟩;obtain⟨rfl,c,hc,rfl⟩:=hy;have hc:=Ou hc;refine⟨⟨[some _],U,U⟩,vb U U (za ⟨U,U,(by show(tx u).length+(tx [c]).length<=_;rw[P8,P8];simp;omega),?_,?_,U⟩)⟩
       . rw[aq,e0];rfl
       . rw[J2 hc,bc,bc,<- e1];show _++[V.str (tx u++tx [c])]=_;rw[Tj];rfl
     . rintro ys G3 ⟨e0,e1,rfl⟩;show l.toArray.size<=_;simp
     . rintro ys G3 zp ⟨e0,e1,rfl⟩ nz;rw[bb]at e1;subst e1;refine E6 (o:=.lst ((l.map λc=>u++[c]).map vT)) nz λG4 t1 k1=>?_;have hg4:=t1 _ _ hg;refine⟨bp,zp,za ⟨U,U,hg4,k1,(by rw[af,af,af];omega),λz2 n2=>?_⟩⟩;have t2:=c6 (o:=.lst ((gB l ((Ib l i).take j)).map vT++(l.map λc=>u++[c]).map vT)) n2;refine⟨z2,Z U ⟨q2.trans (t1.trans t2),?_⟩⟩;rw[b9,Ra eu,bc]
   . rintro σ G2 ⟨bp,v6,rfl,q2,hg⟩;rw[af,bb]at hg;have hf2:=q2 _ _ hf;have e1:(E3 l (i+1)).length=(E3 l i).length+(Ib l (i+1)).length:=aq;refine Z U ?_;refine vb U U ⟨fp,bp,za ⟨U,U,hf2,hg,(by rw[af,af];show _+(Ib l (i+1)).length<=_;omega),λz2 n2=>?_⟩⟩;have t2:=c6 (o:=.lst ((E3 l i).map vT++(gB l (Ib l i)).map vT)) n2;refine⟨z2,bp,zd ⟨U,q.trans (q2.trans t2),?_,t2 _ _ hg⟩⟩;rw[b9];show _=some (HO.lst ((E3 l i++Ib l (i+1)).map vT));rw[bc];rfl
 . rintro σ G ⟨fp,lp,v4,v5,v6,rfl,q,hf,hl⟩;exact Z U (k _ _ q hf)
def RS(T:Txt K mg t):Sp:=λvs H Q _=>∃(R:g9 Pr w K mg base),∃nm p so mv l,∃(n μ:Nat),∃st tb en u,So T R nm p/\vs=[so,mv,vT u]/\(F5 H so nm p/\l5 R l n st tb en mv H/\MB R.B n l.length μ st tb en/\P5 l/\n<=60/\(∀c∈u,c∈l)/\X0 R.S (3 * ((u.length+1) * (μ+n))))/\
 ∀v H',h9 H H'->i0 R n (j5 R.S n st (w4 l tb) u) v H'->Q v H'
def Bv(T:Txt K mg t):r8 Pr w K mg base E7 43 t.w0k t.t0l Sq (RS (w:=w) (base:=base) T):=by
 refine T.s0u.F.okA Y0 λ_ _ _ _ H _ _ _ hr h=>?_;obtain⟨R,nm,p,so,mv,l,n,μ,st,tb,en,u,hS,rfl,⟨eI,hM,hB,L,hn,hu,hz⟩,k⟩:=h;obtain⟨mp,sv,tv,ev,rfl,hm,h1,⟨tp,tabs,rfl,fA,eT⟩,h3⟩:=id hM;refine⟨_,(c5 (sT 3 Y0.nd (B5 g6 (O 1) a9)) (c5 (C6 ar U (Pa (O 2)) (gN 4 Y0.nd) (c4 (sT 3 Y0.nd (C1 (CA T) hr.m T.u0s (S6 (O 0) (O 3) (B5 g6 (B5 g6 (O 1) a9) (S3 dX PySem.F.slot_str_index PySem.F.type_str_index Ka (B5 g6 (O 1) a9) (x5 (O 4))))))))) (c4 (c9 (O 3))))),?_⟩;dsimp only[z8,u7,y9,z5];refine Z U (zf ⟨U,U,l9.of hm,U,?_⟩);refine vb U U ⟨Ti (λc hc=>L.as c (hu c hc)),Ik (n:=u.length) (λi σ G=>∃rv v4,σ=[some so,sr mp,some (vT u),some rv,v4]/\h9 H G/\i0 R n (j5 R.S n st (w4 l tb) (u.take i)) rv G) ⟨sv,Z U ⟨h9.refl _,h1⟩⟩ ?_ ?_⟩
 . rintro i σ G hi ⟨rv,v4,rfl,q,hR⟩;refine⟨(by show i < u.toArray.size;simpa using hi),λy G' hy=>?_⟩;obtain⟨rfl,c,hc,rfl⟩:=hy;have hc:=Ou hc;have cl:c∈l:=hu c (aK hc);have cx:l.idxOf c < l.length:=cR.mpr cl;obtain⟨tu,jk,iY⟩:=eT.2 _ cx;have zx:XB R.B n ((i+1) * (μ+n)) ((i+1) * (μ+n)) (j5 R.S n st (w4 l tb) (u.take i)):=by
    have:=hB.row (u.take i) λc hc=>hu c (List.mem_of_mem_take hc);rwa [bN,Nat.min_eq_left (bF hi)]at this
   have e2:(i+1+1) * (μ+n)=(i+1) * (μ+n)+(μ+n):=bq ..;have e3:(i+1+1) * (μ+n)<=(u.length+1) * (μ+n):=bh _ Y;refine vc U U U (zf ⟨U,U,l9.of (q _ _ hm),U,Z U (zf ⟨U,U,l9.of (q _ _ hm),U,U,Z U (zf ⟨U,U,UJ L cl,zf ⟨U,U,l9.of (q _ _ fA),B0 jk,R,zL nm p so rv tu n _ _ ((u.length+1) * (μ+n)) ⟨hS,U,⟨eI.same q.t,hR,y7.same q.t iY,hn,λj hj=>N4 zx ((hB.tb _ cx).col hj) Y Y,hz⟩,λv G2 s2 r2=>?_⟩⟩⟩)⟩)⟩);refine⟨v,Z U ⟨q.trans s2,?_⟩⟩;rw[J2 hc,B8];exact r2
 . rintro σ G ⟨rv,v4,rfl,q,hR⟩;rw[bb]at hR;exact⟨(by show u.toArray.size<=_;simp),Z U (k _ _ q hR)⟩
def OJ(T:Txt K mg t):Sp:=λvs H Q _=>∃(R:g9 Pr w K mg base),∃nm p so mv l,∃(n μ:Nat),∃st tb en u,So T R nm p/\vs=[so,mv,vT u]/\(F5 H so nm p/\l5 R l n st tb en mv H/\MB R.B n l.length μ st tb en/\P5 l/\n<=60/\(∀c∈u,c∈l)/\u.length<=1000/\X0 R.S (3 * ((u.length+1) * (μ+n))))/\
 ∀v H',h9 H H'->i0 R n (P3 R.S n (w4 l tb) en u) v H'->Q v H'
def Qf{α:Type}{u:List α}{i:Nat}{c:α}(h:u[i]? = some c):u.drop i=c::u.drop (i+1):=by
 obtain⟨hi,e⟩:=aU.mp h;rw[List.drop_eq_getElem_cons hi,e]
def Jk(T:Txt K mg t):r8 Pr w K mg base E7 42 t.u0a t.r0s Sq (OJ (w:=w) (base:=base) T):=by
 refine T.s0d.F.okA P0 λ_ _ _ _ H _ _ _ hr h=>?_;obtain⟨R,nm,p,so,mv,l,n,μ,st,tb,en,u,hS,rfl,⟨eI,hM,hB,L,hn,hu,hul,hz⟩,k⟩:=h;obtain⟨mp,sv,tv,ev,rfl,hm,h1,⟨tp,tabs,rfl,fA,eT⟩,h3⟩:=id hM;refine⟨_,(c5 (M6 (i:=3) P0.nd U (Or.inr U) (B5 g6 (O 1) a9)) (c5 (C6 ar U (ZD U T.z_reversed (x5 (O 2))) (gN 4 P0.nd) (c5 (sT 5 P0.nd (B5 g6 (B5 g6 (O 1) a9) (S3 dX PySem.F.slot_str_index PySem.F.type_str_index Ka (B5 g6 (O 1) a9) (x5 (O 4))))) (c4 (M6 (i:=3) P0.nd U (Or.inr U) (j6 h7 bR T.z_tuple boot_tuple (x5 (w5 (xs:=[AF]) U (oC m0u (a8 Y3)) (G0 (O 5)) (p9 (i:=6) (by show List.Nodup ([D5,X6,Hn,RK,KC,Bh,AF]:List Str);decide +kernel) U (Or.inl U)) (x9 (U8 (w:=w) (base:=base) T) hr.m U T.w0e.m T.w0e.F.kp T.w0e.b .nil B4 (S6 (O 0) (O 6) (O 3)))))))))) (c4 (c9 (O 3))))),?_⟩;dsimp only[z8,u7,y9,z5];refine Z U (zf ⟨U,U,l9.of hm,U,?_⟩);have zl:=sZ;refine Z U ⟨tx u,U,(by rw[P8];omega),Ik (n:=u.length) (λi σ G=>∃cv v4 v5,σ=[some so,sr mp,some (vT u),some cv,v4,v5]/\h9 H G/\i0 R n (P3 R.S n (w4 l tb) en (u.drop (u.length - i))) cv G) ⟨ev,_,Z U ⟨h9.refl _,by rw[Nat.sub_zero,List.drop_length];exact h3⟩⟩ ?_ ?_⟩
 . rintro i σ G hi ⟨cv,v4,v5,rfl,q,hR⟩;refine⟨(by show i < u.toArray.size;simpa using hi),λy G' hy=>?_⟩;obtain⟨rfl,c,hc,rfl⟩:=hy;have hc:u[u.length - 1 - i]? = some c:=by
    have:=Ou hc;rwa [show(tx u).cps.size=u.length from P8 u]at this
   have cl:c∈l:=hu c (aK hc);have cx:l.idxOf c < l.length:=cR.mpr cl;obtain⟨tu,jk,iY⟩:=eT.2 _ cx;refine Z U (zf ⟨U,U,l9.of (q _ _ hm),U,Z U (zf ⟨U,U,l9.of (q _ _ hm),U,U,Z U (zf ⟨U,U,UJ L cl,zf ⟨U,U,l9.of (q _ _ fA),B0 jk,?_⟩⟩)⟩)⟩);show L3 5 tu [some so,sr mp,some (vT u),some cv,some (vT [c]),v5] G' _;obtain⟨ap,jW,rfl,iV,eA⟩:=y7.same q.t iY;have zx:XB R.B n ((i+1) * (μ+n)) ((i+1) * (μ+n)) (P3 R.S n (w4 l tb) en (u.drop (u.length - i))):=by
    have:=hB.col (u.drop (u.length - i)) λc hc=>hu c (List.mem_of_mem_drop hc);rwa [cY,show u.length - (u.length - i)=i by omega]at this
   have e2:(i+1+1) * (μ+n)=(i+1) * (μ+n)+(μ+n):=bq ..;have e3:(i+1+1) * (μ+n)<=(u.length+1) * (μ+n):=bh _ Y;refine Z U ⟨ap,U,⟨_,l9.of iV⟩,o6 (n:=n) (λj ys G2=>h9 G' G2/\i3 (λj u' H=>R.is H u' (Yp R.S n (tb (l.idxOf c)) (P3 R.S n (w4 l tb) en (u.drop (u.length - i))) j)) ys j G2) Y ⟨h9.refl _,i3.nil⟩ (λj ys H2 q=>q.2.1) ?_ ?_ ?_⟩
   . rintro j ys G2 hj ⟨q2,e⟩;obtain⟨lu,iB,gF⟩:=eA.2 j hj;refine Dx (l9.of (q2 _ _ iV)) iB ?_;refine⟨⟨[some _],U,U⟩,vc U U U ⟨R,zL nm p so _ cv n (tb (l.idxOf c) j) (P3 R.S n (w4 l tb) en (u.drop (u.length - i))) ((u.length+1) * (μ+n)) ⟨hS,U,⟨eI.same (q.trans q2).t,(i0.same q2.t gF).seq,(i0.same q2.t hR).seq,N4 ((hB.tb _ cx).row hj) zx Y Y,hz⟩,λv H3 s3 f3=>?_⟩⟩⟩;exact⟨q2.trans s3,(e.mono λ_ _ _ x=>R.same s3.t x).snoc f3⟩
   . rintro ys G2 ⟨q2,e⟩;exact⟨_,l9.of (q2 _ _ iV),by rw[eA.1];exact ae _⟩
   . rintro ys G2 z ⟨q2,e⟩ nz;have t1:=c6 (o:=.lst ys) nz;refine⟨z,ys,U,.inl ⟨o7.of b9,λz2 n2=>?_⟩⟩;have t2:=t1.trans (c6 (o:=.tup ys) n2);refine⟨.ref z2,za ⟨U,q.trans (q2.trans t2),z2,ys,U,b9,?_⟩⟩;rw[show u.length - (i+1)=u.length - 1 - i by omega,Qf hc,show u.length - 1 - i+1=u.length - i by omega,SN];exact e.mono λ_ _ _ x=>R.same t2.t x
 . rintro σ G ⟨cv,v4,v5,rfl,q,hR⟩;rw[cz,List.drop_zero]at hR;exact⟨(by show u.length=_;exact(P8 u).symm),Z U (k _ _ q hR)⟩
def Ss{α β:Type}(d:α)(f:α->β)(ws:List α):rows (λi=>f (ws.getD i d)) ws.length=ws.map f:=by
 unfold rows;refine List.ext_getElem (by rw[af,af,bO]) λi h1 h2=>?_;rw[dJ,dJ,List.getElem_range,aR,ah (by rw[af]at h2;exact h2)];rfl
def zD(n μ:Nat):Nat:=(n+1) * (μ+n)
def zR(n μ W:Nat):Nat:=2 * zD n μ+W * zD n μ+n
def zK(n μ W:Nat):Nat:=zR n μ W+(zR n μ W+1) * 2 ^ W
def c0f{n μ W:Nat}:2 * zD n μ+n<=zK n μ W:=by unfold zK zR;omega
def zD_K{n μ W:Nat}:zD n μ<=zK n μ W:=by unfold zK zR;omega
def YN(T:Txt K mg t):Sp:=λvs H Q _=>∃(R:g9 Pr w K mg base),∃nm p so mv l,∃(n μ:Nat),∃st tb en,So T R nm p/\vs=[so,mv]/\(F5 H so nm p/\l5 R l n st tb en mv H/\MB R.B n l.length μ st tb en/\P5 l/\n<=60/\l.length ^ (n - 1)<=1000/\(E3 l (n - 1)).length<=1000/\X0 R.S (3 * zK n μ (E3 l (n - 1)).length+3))/\
 ∀H',h9 H H'->Q (.int (QY R.F l n st tb en:Nat)) H'
def Ap(T:Txt K mg t):r8 Pr w K mg base E7 44 t.q0t t.p0x ZW (YN (w:=w) (base:=base) T):=by
 refine T.p0y.F.okA J5 λ_ A _ _ H vs _ _ hr h=>?_;obtain⟨R,nm,p,so,mv,l,n,μ,st,tb,en,hS,rfl,⟨eI,hM,hB,L,hn,uo,hW,hz⟩,k⟩:=h;obtain⟨mp,sv,tv,ev,rfl,hm,h1,h2,h3⟩:=id hM;have zl:=sZ;obtain⟨ws,jL⟩:∃ws,E3 l (n - 1)=ws:=⟨_,U⟩;have jO:∀u∈ws,u.length<=n/\AL l u:=λu hu=>by
  rw[<- jL]at hu;obtain⟨a,b⟩:=X7 _ u hu;exact⟨Y,b⟩
 refine⟨_,(c8 (sT 2 J5.nd (C1 (EZ T) hr.m T.t0h (D9 (B5 g6 (O 1) a9) (l4 (Km U) bR T.z_max boot_max (D9 a9 (l7 Aa (l4 r9 bR T.z_len PySem.boot_len (x5 (B5 g6 (O 1) a9))) a9)))))) (c8 (HE 5 "#1" bD (V3 (i₀:=3) (xs:=[Hn]) (by show List.Nodup (m0w);decide +kernel) U (Or.inl U) U (oC m0w (a8 K9)) (B6 (O 2)) (p9 (i:=7) (by show List.Nodup ([D5,X6,Wm,Wn,IM,"#1",BH,Hn]:List Str);decide +kernel) U (Or.inl U)) (x9 (Jk (w:=w) (base:=base) T) hr.m U T.s0d.m T.s0d.F.kp T.s0d.b .nil B4 (S6 (O 0) (O 1) (O 7))))) (c8 (sT 4 J5.nd (D0 J1)) (c8 (C6 ar U (B6 (O 2)) (gN 5 J5.nd) (c8 (M6 (i:=6) J5.nd U (Or.inr U) (C1 (Bv T) hr.m T.s0u (S6 (O 0) (O 1) (O 5)))) (c4 (E8 (S3 bf bA bB F8 (O 4) (x5 (w5 (xs:=[RK]) U (oC m0x (a8 K9)) (B6 (O 3)) (p9 (i:=7) (by show List.Nodup ([D5,X6,Wm,Wn,IM,Hn,BH,RK]:List Str);decide +kernel) U (Or.inl U)) (x9 (U8 (w:=w) (base:=base) T) hr.m U T.w0e.m T.w0e.F.kp T.w0e.b .nil B4 (S6 (O 0) (O 6) (O 7)))))))))) (c4 (c9 (C1 (Gx T) hr.m T.t0p (D9 (O 0) (O 4))))))))),?_⟩;dsimp only[z8,u7,y9,z5];intro xR xE;refine Z U (zf ⟨U,U,l9.of hm,U,Z U (zf ⟨U,U,l9.of hm,U,za ⟨U,h1.len,za ⟨U,U,za ⟨U,?_⟩⟩⟩⟩)⟩);rw[show(if(n:Int) - 1 > 0 then(n:Int) - 1 else 0)=((n - 1:Nat):Int) by split <;>omega];refine⟨l,n - 1,U,⟨L,uo,hW,Y⟩,λlk H1 s1 k1=>?_⟩;rw[jL]at k1 hW hz;have dz:∀u∈ws,(u.length+1) * (μ+n)<=zD n μ:=λu hu=>bh _ (by have:=(jO u hu).1;omega);have vZ:∀u∈ws,XB R.B n (zD n μ) (zD n μ) (j5 R.S n st (w4 l tb) u):=λu hu=>(hB.row u (jO u hu).2).mono (dz u hu) (dz u hu);have wk:∀u∈ws,XB R.B n (zD n μ) (zD n μ) (P3 R.S n (w4 l tb) en u):=λu hu=>(hB.col u (jO u hu).2).mono (dz u hu) (dz u hu);have zu:∀u∈ws,X0 R.S (3 * ((u.length+1) * (μ+n))):=λu hu=>hz.le (by have:=dz u hu;have:=zD_K (n:=n) (μ:=μ) (W:=ws.length);omega);subst xE;intro xR xE;refine⟨U,Z U ⟨lk,U,⟨_,o7.of k1⟩,o6 (n:=ws.length) (λj ys G=>h9 H1 G/\i3 (λj u H=>i0 R n (P3 R.S n (w4 l tb) en (ws.getD j [])) u H) ys j G) Y ⟨h9.refl _,i3.nil⟩ (λj ys G q=>q.2.1) ?_ ?_ ?_⟩⟩
 . rintro j ys G hj ⟨q,e⟩;have hwj:(ws.map vT)[j]? = some (vT (ws.getD j [])):=by rw[aE,ah hj,LM hj rfl];rfl
   have mem:=Mine.K0 hj;refine Fp (o7.of (q _ _ k1)) hwj ?_;refine⟨⟨[some _],U,U⟩,vc U U U ⟨R,zO nm p so _ l n μ st tb en _ ⟨hS,U,⟨eI.same (s1.trans q).t,l5.same (s1.trans q).t hM,hB,L,hn,(jO _ mem).2,by have:=(jO _ mem).1;omega,zu _ mem⟩,λv G2 s2 r2=>?_⟩⟩⟩;exact⟨q.trans s2,(e.mono λ_ _ _ x=>i0.same s2.t x).snoc r2⟩
 . rintro ys G ⟨q,e⟩;exact⟨_,o7.of (q _ _ k1),by rw[af];exact ae _⟩
 . rintro ys G cp ⟨q,e⟩ nc;have s2:=c6 (o:=.lst ys) nc;have k2:=b9 (H:=G) (a:=cp) (o:=.lst ys);have e2:i3 (λj u H=>i0 R n (P3 R.S n (w4 l tb) en (ws.getD j [])) u H) ys ws.length (upd G cp (.lst ys)):=e.mono λ_ _ _ x=>i0.same s2.t x;have kN:=s2 _ _ (q _ _ k1);have q2:=q.trans s2;clear e q;revert k2 e2 kN q2;generalize upd G cp (.lst ys)=H2;intro k2 e2 kN q2;subst xE;intro xR xE;refine⟨aY _,λrp nr=>?_⟩;have s3:=c6 (o:=.lst ([]:List V)) nr;have k3:=b9 (H:=H2) (a:=rp) (o:=.lst ([]:List V));have rF:H2 rp=none:=nr;revert s3 k3;generalize upd H2 rp (.lst ([]:List V))=H3;intro s3 k3;have hc3:=s3 _ _ k2;have lh:=s3 _ _ kN;have nl:lk≠rp:=λe=>by subst e;rw[rF]at kN;cases kN
   have ncr:cp≠rp:=λe=>by subst e;rw[rF]at k2;cases k2
   have qY:=s1.trans (q2.trans s3);have e3:i3 (λj u H=>i0 R n (P3 R.S n (w4 l tb) en (ws.getD j [])) u H) ys ws.length H3:=e2.mono λ_ _ _ x=>i0.same s3.t x;have ye:=e3.1;have rd:∀i,i < ws.length->XB R.B ws.length (zR n μ ws.length) (zR n μ ws.length) (GU R.S l n st tb en (ws.getD i [])):=λi hi=>by
    have A:TB R.B ws.length n (ws.length * zD n μ) (zD n μ+ws.length * zD n μ) (λj=>P3 R.S n (w4 l tb) en (ws.getD j [])):=TB.of λj hj=>wk _ (Mine.K0 hj);refine(((vZ _ (Mine.K0 hi)).by A.swap).mono (by unfold zR;omega) (by unfold zR;omega)).congr λj hj=>?_;unfold GU K7;rw[jL,Qg]
   subst xE;intro xR xE;refine Z U ⟨lk,U,⟨_,o7.of lh⟩,P1 (K:=K) (a:=lk) (xs:=ws.map vT) (λi σ G=>∃v5 v6 us,σ=[some so,sr mp,sr lk,sr cp,sr rp,v5,v6]/\j9 rp H3 G/\G rp=some (.lst us)/\i3 (λi u H=>∃a vs,u=.ref a/\a≠rp/\H a=some (.lst vs)/\i3 (λj u H=>R.is H u (GU R.S l n st tb en (ws.getD i []) j)) vs ws.length H) us i G) ⟨_,_,[],U,j9.refl _ _,k3,i3.nil⟩ (λi σ G _ ⟨_,_,_,_,q,_⟩=>o7.of (q _ _ nl lh)) ?_ ?_⟩
   . rintro i y σ G hi ⟨v5,v6,us,rfl,sG,kG,eG⟩;rw[aE]at hi;obtain⟨u,eu,rfl⟩:=cA.mp hi;have il:=(aU.mp eu).1;have eu':ws.getD i []=u:=by rw[aR,eu];rfl
     have mem:=aK eu;have tG:=sG.tl k3;have t0:=qY.t.trans tG;intro xR xE;refine vc U U U ⟨R,zO nm p so _ l n μ st tb en u ⟨hS,U,⟨eI.same t0,l5.same t0 hM,hB,L,hn,(jO _ mem).2,zu _ mem⟩,λrv G1 s4 r4=>?_⟩⟩;have md:=s4 _ _ kG;have tQ:=s4 _ _ (sG _ _ ncr hc3);have e4:i3 (λj u H=>i0 R n (P3 R.S n (w4 l tb) en (ws.getD j [])) u H) ys ws.length G1:=e3.mono λ_ _ _ x=>i0.same (tG.trans s4.t) x;subst xE;refine Z U ⟨.inl ⟨U,_,o7.of md⟩,Z U ⟨cp,U,⟨_,o7.of tQ⟩,o6 (n:=ws.length) (λj zs G2=>h9 G1 G2/\i3 (λj w H=>R.is H w (GU R.S l n st tb en u j)) zs j G2) Y ⟨h9.refl _,i3.nil⟩ (λj ys G q=>q.2.1) ?_ ?_ ?_⟩⟩
     . rintro j zs G2 hj ⟨q,e⟩;obtain⟨cu,ecu,pcu⟩:=e4.2 j hj;refine Fp (o7.of (q _ _ tQ)) ecu ?_;refine⟨⟨[some _],U,U⟩,vc U U U ⟨R,zL nm p so rv cu n _ _ (zK n μ ws.length) ⟨hS,U,⟨eI.same (t0.trans (s4.trans q).t),(i0.same q.t r4).seq,(i0.same q.t pcu).seq,N4 (vZ _ mem) (wk _ (Mine.K0 hj)) (by have:=c0f (n:=n) (μ:=μ) (W:=ws.length);omega) (by have:=c0f (n:=n) (μ:=μ) (W:=ws.length);omega),hz.le Y⟩,λv G3 s5 f5=>?_⟩⟩⟩;refine⟨q.trans s5,(e.mono λ_ _ _ x=>R.same s5.t x).snoc ?_⟩;unfold GU K7;rw[jL,Qg];exact f5
     . rintro zs G2 ⟨q,e⟩;exact⟨_,o7.of (q _ _ tQ),by rw[ye];exact ae _⟩
     . rintro zs G2 zp ⟨q,e⟩ nz;have s5:=c6 (o:=.lst zs) nz;have k5:=b9 (H:=G2) (a:=zp) (o:=.lst zs);have vh:zp≠rp:=λe=>by subst e;rw[q _ _ md]at nz;cases nz
       have e5:i3 (λj w H=>R.is H w (GU R.S l n st tb en u j)) zs ws.length (upd G2 zp (.lst zs)):=e.mono λ_ _ _ x=>R.same s5.t x;have q5:=q.trans s5;clear e q s5 nz;revert k5 e5 q5;generalize upd G2 zp (.lst zs)=G3;intro k5 e5 q5;have nB:=q5 _ _ md;have eg:=eG.1;refine⟨rp,us,V.ref zp,U,U,nB,Y,?_⟩;have dY:=y6 (o:=.lst (us++[V.ref zp])) nB;refine za ⟨us++[V.ref zp],U,(sG.trans (.of (s4.trans q5))).trans j9.upd,b9,i3.snoc (eG.mono λi' w' iq ⟨a,vs,ea,na,ha,ev⟩=>⟨a,vs,ea,na,by rw[l6 na];exact q5 _ _ (s4 _ _ ha),ev.mono λ_ _ _ z=>R.same ((s4.trans q5).t.trans dY) z⟩) ⟨zp,zs,U,vh,by rw[l6 vh];exact k5,?_⟩⟩;rw[eu'];exact e5.mono λ_ _ _ z=>R.same dY z
   . rintro σ G ⟨v5,v6,us,rfl,sG,kG,eG⟩;rw[af]at eG;subst xE;refine vb U U ⟨R,zM nm p so rp us ws.length ws.length (zR n μ ws.length) (zK n μ ws.length) (λi=>GU R.S l n st tb en (ws.getD i [])) ⟨hS,U,⟨eI.same (qY.t.trans (sG.tl k3)),.inl kG,eG.mono λi u _ ⟨a,vs,ea,_,ha,ev⟩=>⟨a,vs,ea,.inl ha,ev⟩,Y,Y,rd,ae _,hz⟩,λH5 s5=>?_⟩⟩;have sHG:h9 H G:=λc o e=>sG c o (j7 e (UO (s1.trans q2) rF)) (qY _ _ e);have:=k H5 (sHG.trans s5);unfold QY at this;rw[jL,<- Ss ([]:List Nat) (GU R.S l n st tb en) ws]at this;exact this
structure Gd(k:Nat)(d:PyData):Prop where
 lay:d.canLay0=true
 dep:d.depth<=k
 mix:noMix d d=true
theorem Vt{k:Nat}:∀{ds:List PyData},(∀d∈ds,Gd k d)->PyData.canLayAll0 ds=true/\PyData.depthAll ds<=k/\noMixAll ds ds=true
 | [],_=>⟨by simp[PyData.canLayAll0],by simp[PyData.depthAll],by simp[noMixAll]⟩
 | d::ds,h=>by
  obtain⟨a,b,c⟩:=Vt (ds:=ds) λx hx=>h x (aC _ hx);have g:=h d (aF ..);have gd:=g.dep;exact⟨by simp[PyData.canLayAll0,g.lay,a],by simp only[PyData.depthAll];omega,by simp[noMixAll,g.mix,c]⟩
def Gd.tup{k:Nat}{ds:List PyData}(h:∀d∈ds,Gd k d):Gd (k+1) (.tuple ds):=by
 obtain⟨a,b,c⟩:=Vt h;exact⟨by simp[PyData.canLay0,a],by simp only[PyData.depth];omega,by simp[noMix,c]⟩
def Gd.up{j k:Nat}{d:PyData}(h:Gd j d)(e:j<=k):Gd k d:=⟨h.lay,ag h.dep e,h.mix⟩
def Gd.sh{k:Nat}{d:PyData}(h:Gd k d)(e:k<=64):shaped d=true:=by
 have hd:=h.dep;unfold shaped;rw[h.lay,decide_eq_true Y];rfl
def So.gd{T:Txt K mg t}{R:g9 Pr w K mg base}{nm:Str}{p:Int}(h:So T R nm p)(x:R.S.W):Gd 2 (R.S.data x):=by
 refine⟨canLay_of_shaped (R.S.sh x),?_,R.S.nm x x⟩;cases h with
 | fr=>show PyData.depth (.tuple [.int _,.int _])<=2;simp[PyData.depth,PyData.depthAll]
 | re=>show PyData.depth (.int _)<=2;simp[PyData.depth]
theorem NO{H:Hp}:∀(d:Nat->PyData) (vs:List V),(∀j u,vs[j]? = some u->Is K H u (d j))->W2 K H vs ((List.range vs.length).map d)
 | _,[],_=>.nil
 | d,v::vs,h=>by
  rw[bM,List.range_succ_eq_map,aZ,cq];exact .cons (h 0 v U) (NO (λj=>d (j+1)) vs λj u e=>h (j+1) u (by simpa using e))
def Hr(n:Nat)(d:Nat->PyData):PyData:=.tuple ((List.range n).map d)
def FK{Pd:Nat->V->Hp->Prop}{n:Nat}{v:V}{H:Hp}{d:Nat->PyData}(h:N8 Pd n v H)(k:∀j u,j < n->Pd j u H->Is K H u (d j)):Is K H v (Hr n d):=by
 obtain⟨p,vs,rfl,hp,e⟩:=h;have a:=NO (K:=K) (H:=H) d vs λj u ej=>by
  obtain⟨hj,q⟩:=e.at ej;exact k j u hj q
 rw[e.1]at a;exact .tup (l9.of hp) a
def Ox{k n:Nat}{d:Nat->PyData}(h:∀j,Gd k (d j)):Gd (k+1) (Hr n d):=Gd.tup λx hx=>by
 obtain⟨j,_,rfl⟩:=aw.mp hx;exact h j
def UR{T:Txt K mg t}{R:g9 Pr w K mg base}{nm:Str}{p:Int}(hS:So T R nm p){n:Nat}{x y:Nat->R.S.W}{u v:V}{H:Hp}{Q:VK}(hu:i0 R n x u H)(hv:i0 R n y v H)(e:∀j,j < n->x j=y j)(kk:Q (.bl false) H):OU K u v H Q:=by
 have g:Gd 3 (Hr n λj=>R.S.data (x j)):=Ox λj=>hS.gd _;have h1:Is K H u (Hr n λj=>R.S.data (x j)):=FK hu λj u _ q=>R.isd q;have h2:Is K H v (Hr n λj=>R.S.data (x j)):=FK hv λj u hj q=>by rw[e j hj];exact R.isd q
 exact za ⟨h1,h2,g.sh bD,g.sh bD,g.mix,by rw[PySem.Spec.same_self];exact kk⟩
def ZM{T:Txt K mg t}{R:g9 Pr w K mg base}{nm:Str}{p:Int}(hS:So T R nm p){m n:Nat}{A B:Nat->Nat->R.S.W}{u v:V}{H:Hp}{Q:VK}(hu:y7 R m n A u H)(hv:y7 R m n B v H)(e:∀i,i < m->∀j,j < n->A i j=B i j)(kk:Q (.bl false) H):OU K u v H Q:=by
 have g:Gd 4 (Hr m λi=>Hr n λj=>R.S.data (A i j)):=Ox λi=>Ox λj=>hS.gd _;have h1:Is K H u (Hr m λi=>Hr n λj=>R.S.data (A i j)):=FK hu λi u _ q=>FK q λj u _ q=>R.isd q;have h2:Is K H v (Hr m λi=>Hr n λj=>R.S.data (A i j)):=FK hv λi u hi q=>FK q λj u hj q=>by rw[e i hi j hj];exact R.isd q
 exact za ⟨h1,h2,g.sh bD,g.sh bD,g.mix,by rw[PySem.Spec.same_self];exact kk⟩
def YO(T:Txt K mg t):Sp:=λvs H Q _=>∃(R:g9 Pr w K mg base),∃nm p so av bv n A B r,So T R nm p/\vs=[so,av,bv]/\(F5 H so nm p/\y7 R n n A av H/\y7 R n n B bv H/\n<=60/\(∀i,i < n->∀j,j < n->Oj R.S r n (A i) (λk=>B k j))/\X0 R.S (3 * r))/\
 ∀v H',h9 H H'->y7 R n n (λi=>FZ R.S n B (A i)) v H'->Q v H'
def JY(T:Txt K mg t):r8 Pr w K mg base E7 43 t.y0j t.w0s Nq (YO (w:=w) (base:=base) T):=by
 refine T.x0m.F.okA RX λ_ _ _ _ H _ _ _ hr h=>?_;obtain⟨R,nm,p,so,av,bv,n,X,a1c,r,hS,rfl,⟨eI,⟨ap,jW,rfl,iV,eA⟩,hY,hn,hd,hz⟩,k⟩:=h;refine⟨_,(c4 (c9 (j6 h7 bR T.z_tuple boot_tuple (x5 (w5 (xs:=[BH]) U (oC Nq (a8 ER)) (G0 (O 1)) (p9 (i:=3) (by show List.Nodup ([D5,FG,BI,BH]:List Str);decide +kernel) U (Or.inl U)) (x9 (CA (w:=w) (base:=base) T) hr.m U T.u0s.m T.u0s.F.kp T.u0s.b .nil B4 (S6 (O 0) (O 3) (O 2)))))))),?_⟩;dsimp only[z8,u7,y9,z5];refine Z U ⟨ap,U,⟨_,l9.of iV⟩,o6 (n:=n) (λj ys G=>h9 H G/\i3 (λi u H=>i0 R n (FZ R.S n a1c (X i)) u H) ys j G) Y ⟨h9.refl _,i3.nil⟩ (λj ys H2 q=>q.2.1) ?_ ?_ ?_⟩
 . rintro j ys G hj ⟨q,e⟩;obtain⟨lu,iB,gF⟩:=eA.2 j hj;refine Dx (l9.of (q _ _ iV)) iB ?_;refine⟨⟨[some _],U,U⟩,vc U U U ⟨R,zL nm p so lu bv n _ _ r ⟨hS,U,⟨eI.same q.t,i0.same q.t gF,y7.same q.t hY,hn,hd j hj,hz⟩,λv G2 s2 r2=>?_⟩⟩⟩;exact⟨q.trans s2,(e.mono λ_ _ _ x=>i0.same s2.t x).snoc r2⟩
 . rintro ys G ⟨q,e⟩;exact⟨_,l9.of (q _ _ iV),by rw[eA.1];exact ae _⟩
 . rintro ys G z ⟨q,e⟩ nz;have t1:=c6 (o:=.lst ys) nz;refine⟨z,ys,U,.inl ⟨o7.of b9,λz2 n2=>?_⟩⟩;have t2:=t1.trans (c6 (o:=.tup ys) n2);exact k _ _ (q.trans t2) ⟨z2,ys,U,b9,e.mono λ_ _ _ x=>i0.same t2.t x⟩
def zW(n n' μ:Nat):Nat:=(n+n'+2) * (μ+n+n')
def OH(T:Txt K mg t):Sp:=λvs H Q _=>∃(R:g9 Pr w K mg base),∃nm p so mv ov l,∃(n n' μ:Nat),∃st tb en dY bY ed,So T R nm p/\vs=[so,mv,ov]/\(F5 H so nm p/\l5 R l n st tb en mv H/\l5 R l n' dY bY ed ov H/\MB R.B n l.length μ st tb en/\MB R.B n' l.length μ dY bY ed/\P5 l/\n+n'<=60/\l.length ^ (n+n' - 1)<=1000/\(E3 l (n+n' - 1)).length<=1000/\X0 R.S (3 * zW n n' μ))/\
 ∀(b:Bool) H',h9 H H'->(b=true->∃u,AL l u/\K7 R.S l n st tb en u≠K7 R.S l n' dY bY ed u)->(b=false->∀u,AL l u->u.length<=n+n' - 1->K7 R.S l n st tb en u=K7 R.S l n' dY bY ed u)->Q (.bl b) H'
def Jj(T:Txt K mg t):r8 Pr w K mg base E7 44 t.v0a t.r0u Nq (OH (w:=w) (base:=base) T):=by
 refine T.r0q.F.okA Ax λ_ _ _ _ _ _ _ _ hr h=>?_;obtain⟨R,nm,p,so,mv,ov,l,n,n',μ,st,tb,en,dY,bY,ed,hS,rfl,⟨eI,hM,fw,hB,gH,L,hn,uo,hW,hz⟩,k⟩:=h;obtain⟨mp,sv,tv,ev,rfl,hm,h1,h2,h3⟩:=id hM;obtain⟨ja,lP,lM,lF,rfl,fK,gI,pY,ot⟩:=id fw;have zl:=sZ;obtain⟨ws,jL⟩:∃ws,E3 l (n+n' - 1)=ws:=⟨_,U⟩;have jO:∀u∈ws,u.length<=n+n' - 1/\AL l u:=λu hu=>by
  rw[<- jL]at hu;exact X7 _ u hu
 refine⟨_,(c8 (C6 ar U (B6 (C1 (EZ T) hr.m T.t0h (D9 (B5 g6 (O 1) a9) (l4 (Km U) bR T.z_max boot_max (D9 a9 (l7 Aa (l7 N3 (l4 r9 bR T.z_len PySem.boot_len (x5 (B5 g6 (O 1) a9))) (l4 r9 bR T.z_len PySem.boot_len (x5 (B5 g6 (O 2) a9)))) a9)))))) (gN 3 Ax.nd) (c8 (sT 4 Ax.nd (C1 (U8 T) hr.m T.w0e (S6 (O 0) (C1 (Bv T) hr.m T.s0u (S6 (O 0) (O 1) (O 3))) (B5 g6 (O 1) a9)))) (c4 (y8 (l8 (Cv hr.units) (O 4) (C1 (U8 T) hr.m T.w0e (S6 (O 0) (C1 (Bv T) hr.m T.s0u (S6 (O 0) (O 2) (O 3))) (B5 g6 (O 2) a9))) (o4 _)) (c4 (c9 X1)) o8)))) (c4 (c9 X1))),?_⟩;dsimp only[z8,u7,y9,z5];intro xR xE;refine Z U (zf ⟨U,U,l9.of hm,U,Z U (zf ⟨U,U,l9.of hm,U,za ⟨U,h1.len,Z U (zf ⟨U,U,l9.of fK,U,za ⟨U,gI.len,za ⟨U,U,za ⟨U,U,za ⟨U,?_⟩⟩⟩⟩⟩)⟩⟩)⟩);rw[show(if(n:Int)+(n':Int) - 1 > 0 then(n:Int)+(n':Int) - 1 else 0)=((n+n' - 1:Nat):Int) by split <;>omega];refine⟨l,n+n' - 1,U,⟨L,uo,hW,Y⟩,λlk H1 s1 k1=>?_⟩;rw[jL]at k1 hW;refine⟨lk,U,⟨_,o7.of k1⟩,P1 (K:=K) (a:=lk) (xs:=ws.map vT) (λi σ G=>∃v3 v4,σ=[some so,sr mp,some (.ref ja),v3,v4]/\h9 H1 G/\∀j,j < i->∀u,ws[j]? = some u->K7 R.S l n st tb en u=K7 R.S l n' dY bY ed u) ⟨none,none,U,h9.refl _,λj hj=>absurd hj Y⟩ (λi σ G _ ⟨_,_,_,q,_⟩=>o7.of (q _ _ k1)) ?_ ?_⟩
 . rintro i y σ G hi ⟨v3,v4,rfl,q,hq⟩;rw[aE]at hi;obtain⟨u,eu,rfl⟩:=cA.mp hi;obtain⟨ul,ua⟩:=jO u (aK eu);have q0:=s1.trans q;have a1:(u.length+1) * (μ+n)+(μ+n)<=zW n n' μ:=by
    rw[<- bq];exact aX Y Y
   have a2:(u.length+1) * (μ+n')+(μ+n')<=zW n n' μ:=by
    rw[<- bq];exact aX Y Y
   intro xR xE;refine vc U U U (Z U ⟨R,zO nm p so _ l n μ st tb en u ⟨hS,U,⟨eI.same q0.t,l5.same q0.t hM,hB,L,Y,ua,hz.le Y⟩,λr1 G1 s2 f1=>?_⟩⟩);have q1:=q0.trans s2;refine Z U (zf ⟨U,U,l9.of (q1 _ _ hm),U,R,zL nm p so r1 ev n _ en (zW n n' μ) ⟨hS,U,⟨eI.same q1.t,f1.seq,(i0.same q1.t h3).seq,N4 (hB.row u ua) hB.en Y Y,hz⟩,λw1 G2 s3 i1=>?_⟩⟩);have q2:=q1.trans s3;subst xE;refine vc U U U (vb U U ⟨R,zO nm p so _ l n' μ dY bY ed u ⟨hS,U,⟨eI.same q2.t,l5.same q2.t fw,gH,L,Y,ua,hz.le Y⟩,λr2 G3 s4 f2=>?_⟩⟩);have q3:=q2.trans s4;refine Z U (zf ⟨U,U,l9.of (q3 _ _ fK),U,R,zL nm p so r2 lF n' _ ed (zW n n' μ) ⟨hS,U,⟨eI.same q3.t,f2.seq,(i0.same q3.t ot).seq,N4 (gH.row u ua) gH.en Y Y,hz⟩,λw2 G4 s5 i2=>?_⟩⟩);have q4:=q3.trans s5;have gK:=s4.trans s5;by_cases e:K7 R.S l n st tb en u=K7 R.S l n' dY bY ed u
   . refine R.neD (R.same gK.t i1) i2 e (Z U ?_)
     (try refine T3 ?_)
     refine za ⟨U,q.trans (s2.trans (s3.trans gK)),λj hj v hv=>?_⟩;by_cases z:j < i
     . exact hq j z v hv
     . rw[show j=i by omega,eu]at hv;cases hv;exact e
   . refine R.neT (R.same gK.t i1) i2 e (Z U ?_)
     (try refine Bz ?_)
     exact k true _ q4 (λ_=>⟨u,ua,e⟩) λz=>nomatch z
 . rintro σ G ⟨v3,v4,rfl,q,hq⟩;subst xE;refine k false _ (s1.trans q) (λz=>nomatch z) λ_ u ua ul=>?_;have:=ED (n+n' - 1) u ul ua;rw[jL]at this;obtain⟨j,hj⟩:=List.mem_iff_getElem?.mp this;exact hq j (by rw[af];exact(aU.mp hj).1) u hj
def zT(n μ β:Nat):Nat:=μ+β+n * β+n+β+(β+1) * 2 ^ n
def RO(T:Txt K mg t):Sp:=λvs H Q _=>∃(R:g9 Pr w K mg base),∃nm p kv so mv ov fv l,∃(n μ β:Nat),∃st tb en dY bY ed A,So T R nm p/\vs=[kv,so,mv,ov,fv]/\(F5 H so nm p/\Q9 R.C R.fs H kv/\l5 R l n st tb en mv H/\l5 R l n dY bY ed ov H/\y7 R n n A fv H/\VV R.S l.length n st tb en dY bY ed A/\MB R.B n l.length μ st tb en/\MB R.B n l.length μ dY bY ed/\(∀i,i < n->XB R.B n β β (A i))/\P5 l/\n<=60/\X0 R.S (3 * zT n μ β+3))/\∀H',h9 H H'->Q (.bl true) H'
def Lk(T:Txt K mg t):r8 Pr w K mg base E7 45 t.v0z t.s0n a0h (RO (w:=w) (base:=base) T):=by
 refine T.s0v.F.okA X8 λ_ _ _ _ H vs _ _ hr h=>?_;obtain⟨R,nm,p,kv,so,mv,ov,fv,l,n,μ,β,st,tb,en,dY,bY,ed,X,hS,rfl,⟨eI,hk,hM,fw,hF,TO,hB,gH,hX,L,hn,hz⟩,k⟩:=h;obtain⟨mp,sv,tv,ev,rfl,hm,h1,⟨tp,ts,rfl,fA,eT⟩,h3⟩:=id hM;obtain⟨ja,lP,lM,lF,rfl,fK,gI,⟨uU,oS,rfl,ig,uG⟩,ot⟩:=id fw;obtain⟨fp,fs,rfl,hf,eF⟩:=id hF;obtain⟨kp,dx,rfl,fX⟩:=id hk;have zl:=sZ;have l3:=L.h3;have ef:=eF.1;have XT:TB R.B n n (n * β) (β+n * β) X:=TB.of hX;have zt:μ+(n * β)<=zT n μ β/\μ+(β+n * β)+n<=zT n μ β/\β+μ<=zT n μ β/\β+μ+n<=zT n μ β:=by unfold zT;omega
 refine⟨_,(c8 (sT 5 X8.nd (l4 r9 bR T.z_len PySem.boot_len (x5 (B5 g6 (O 2) a9)))) (c8 (y8 (PW.pt (DE (U7 (O7 (l4 CS bR T.z_isinstance boot_isinstance (D9 (O 4) (EU (v:=.ty "tuple") U T.z_tuple boot_tuple U))))) (Ec (l8 HK (l4 r9 bR T.z_len PySem.boot_len (x5 (O 4))) (O 5) (o4 _))))) (c4 (c9 X1)) o8) (c8 (C6 ar U (G0 (O 4)) (gN 6 X8.nd) (c4 (y8 (PW.pt (DE (U7 (O7 (l4 CS bR T.z_isinstance boot_isinstance (D9 (O 6) (EU (v:=.ty "tuple") U T.z_tuple boot_tuple U))))) (DE (l8 HK (l4 r9 bR T.z_len PySem.boot_len (x5 (O 6))) (O 5) (o4 _)) (Ec (U7 (O7 (l4 (VT U) bR T.z_all boot_all (x5 (w5 (xs:=[FF]) U (oC m0y (a8 V9)) (G0 (O 6)) (p9 (i:=8) (by show List.Nodup ([Mo,D5,FG,BI,Kz,Dp,AF,Kw,FF]:List Str);decide +kernel) U (Or.inl U)) (V4 (O 0) R.cl R.t_is_weight R.G_is_weight hr.m R.b_is_weight .nil B4 (x5 (O 8)))))))))))) (c4 (c9 X1)) o8))) (c8 (y8 (l8 (Cv hr.units) (C1 (CA T) hr.m T.u0s (S6 (O 1) (B5 g6 (O 2) a9) (O 4))) (B5 g6 (O 3) a9) (o4 _)) (c4 (c9 X1)) o8) (c8 (C6 ar U (C4 U T.z_range (x5 (l4 r9 bR T.z_len PySem.boot_len (x5 (B5 g6 (O 2) a9))))) (gN 7 X8.nd) (c4 (y8 (l8 (Cv hr.units) (C1 (JY T) hr.m T.x0m (S6 (O 1) (B5 g6 (B5 g6 (O 2) a9) (O 7)) (O 4))) (C1 (JY T) hr.m T.x0m (S6 (O 1) (O 4) (B5 g6 (B5 g6 (O 3) a9) (O 7)))) (o4 _)) (c4 (c9 X1)) o8))) (c8 (AO 6 (y8 (l8 (Cv hr.units) (j6 h7 bR T.z_tuple boot_tuple (x5 (Hg 6 "#1" (w5 (xs:=[AF]) U (oC [Mo,D5,FG,BI,Kz,Dp,"#1",Kw] (a8 V9)) (G0 (O 4)) (p9 (i:=8) (by show List.Nodup ([Mo,D5,FG,BI,Kz,Dp,"#1",Kw,AF]:List Str);decide +kernel) U (Or.inl U)) (x9 (U8 (w:=w) (base:=base) T) hr.m U T.w0e.m T.w0e.F.kp T.w0e.b .nil B4 (S6 (O 1) (O 8) (B5 (show Ku _ (HC K)from g6) (O 3) a9))))))) (B5 g6 (O 2) a9) (o4 _)) (c4 (c9 X1)) o8)) (c4 (c9 (P6 J8 (C1 (Gx T) hr.m T.t0p (D9 (O 1) (O 4))) (O 5) (o4 _)))))))))),?_⟩;dsimp only[z8,u7,y9,z5];intro xR xE;refine Z U (zf ⟨U,U,l9.of hm,U,za ⟨U,h1.len,?_⟩⟩);subst xE;intro xR xE;refine Z U (zf ⟨U,BR.tup hf,T.k_tt,Z U ?_⟩);refine T3 ?_;refine Z U (za ⟨U,(.inr ⟨_,l9.of hf,ef.symm⟩),Z U ⟨U,Z U ?_⟩⟩);refine Ke (λz=>absurd U z) (λ_=>?_);subst xE;intro xR xE;refine Z U ⟨fp,U,⟨_,l9.of hf⟩,BA (K:=K) (a:=fp) (xs:=fs) (λi σ G=>∃v6,σ=[sr kp,some so,sr mp,some (.ref ja),sr fp,si n,v6,none]/\h9 H G) ⟨none,U,h9.refl _⟩ (λi σ G _ ⟨_,_,q⟩=>l9.of (q _ _ hf)) ?_ ?_⟩
 . rintro i y σ G hi ⟨v6,rfl,q⟩;obtain⟨il,pu⟩:=eF.at hi;obtain⟨rp,rvs,rfl,jD,eR⟩:=i0.same q.t pu;have er:=eR.1;refine Z U (zf ⟨U,BR.tup jD,T.k_tt,Z U ?_⟩);refine T3 ?_;refine Z U (za ⟨U,(.inr ⟨_,l9.of jD,er.symm⟩),Z U ⟨U,Z U ?_⟩⟩);refine Ke (λz=>absurd U z) (λ_=>?_);refine Z U ⟨rp,U,⟨_,l9.of jD⟩,o6 (n:=n) (λj ys G'=>G'=G/\ys=(List.replicate j true).map V.bl) Y ⟨U,U⟩ (λj ys G q=>by rw[q.2,af,dm]) ?_ ?_ ?_⟩
   . rintro j ys G' hj ⟨rfl,rfl⟩;obtain⟨u,eu,pu⟩:=eR.2 j hj;refine Dx (l9.of jD) eu ?_;refine⟨⟨[some _],U,U⟩,Z U ⟨kp,dx,Z U ⟨q _ _ fX,R.l_is_weight,Z U (zd ⟨U,⟨⟨kp,dx,U,q _ _ fX⟩,pu⟩,?_⟩)⟩⟩⟩;exact⟨U,by rw[List.replicate_succ',bc];rfl⟩
   . rintro ys G' ⟨rfl,_⟩;exact⟨_,l9.of jD,by rw[er];exact ae _⟩
   . rintro ys G' z ⟨rfl,rfl⟩ nz;refine⟨z,List.replicate n true,U,o7.of b9,?_⟩;have ea:(List.replicate n true).all id=true:=cJ.mpr λx hx=>(List.mem_replicate.mp hx).2;refine Z U ?_;refine a0u (by show(!(List.replicate n true).all id)=false;rw[ea];rfl) ?_;exact Z U (q.trans (c6 nz))
 . rintro σ G ⟨v6,rfl,q⟩;subst xE;intro xR xE;refine vb U U (zf ⟨U,U,l9.of (q _ _ hm),U,Z U ⟨R,zL nm p so sv (.ref fp) n st X (zT n μ β) ⟨hS,U,⟨eI.same q.t,i0.same q.t h1,y7.same q.t hF,hn,λj hj=>N4 hB.st (XT.col hj) Y Y,hz.le Y⟩,λv G1 s1 r1=>?_⟩⟩⟩);have q1:=q.trans s1;refine Z U (zf ⟨U,U,l9.of (q1 _ _ fK),U,UR hS r1 (i0.same q1.t gI) TO.fst (Z U ?_)⟩)
   (try refine T3 ?_)
   subst xE;intro xR xE;refine Z U (zf ⟨U,U,l9.of (q1 _ _ hm),U,za ⟨U,n0k Y,Z U ⟨Y,Y,AY (lo:=0) (n:=l.length) (λi σ G=>∃v7,σ=[sr kp,some so,sr mp,some (.ref ja),sr fp,si n,v6,v7]/\h9 H G) ⟨none,U,q1⟩ ?_ ?_⟩⟩⟩)
   . rintro i σ G hi ⟨v7,rfl,q⟩;obtain⟨tu,jk,iY⟩:=eT.2 i hi;obtain⟨tu',uB,rA⟩:=uG.2 i hi;have t0:∀{α:Type} {xs:List α} {v:α},xs[i]? = some v->Ry xs (0+(i:Int))=some v:=λ{α xs v} e=>by rw[Int.zero_add];exact B0 e
     refine vb U U (zf ⟨U,U,l9.of (q _ _ hm),U,Z U (zf ⟨U,U,l9.of (q _ _ fA),t0 jk,Z U ⟨R,zL nm p so tu (.ref fp) n (tb i) X (zT n μ β) ⟨hS,U,⟨eI.same q.t,y7.same q.t iY,y7.same q.t hF,hn,λr hr j hj=>N4 ((hB.tb i hi).row hr) (XT.col hj) Y Y,hz.le Y⟩,λv1 G1 s1 r1=>?_⟩⟩⟩)⟩);have q1:=q.trans s1;refine vc U U U (zf ⟨U,U,l9.of (q1 _ _ fK),U,Z U (zf ⟨U,U,l9.of (q1 _ _ ig),t0 uB,R,zL nm p so (.ref fp) tu' n X (bY i) (zT n μ β) ⟨hS,U,⟨eI.same q1.t,y7.same q1.t hF,y7.same q1.t rA,hn,λr hr j hj=>N4 (hX r hr) ((gH.tb i hi).col hj) Y Y,hz.le Y⟩,λv2 G2 s2 r2=>?_⟩⟩)⟩);refine ZM hS (y7.same s2.t r1) r2 (λr hr j hj=>TO.stp i hi r hr j hj) (Z U ?_)
     (try refine T3 ?_)
     exact Z U (q1.trans s2)
   . rintro σ G ⟨v7,rfl,q⟩;subst xE;intro xR xE;refine⟨U,Z U ⟨fp,U,⟨_,l9.of (q _ _ hf)⟩,o6 (n:=n) (λj ys G'=>h9 G G'/\i3 (λi u H=>R.is H u (C0 R.S (X i) ed n)) ys j G') Y ⟨h9.refl _,i3.nil⟩ (λj ys H2 q=>q.2.1) ?_ ?_ ?_⟩⟩
     . rintro j ys G' hj ⟨q2,e⟩;obtain⟨lu,iB,gF⟩:=eF.2 j hj;have q3:=q.trans q2;refine Dx (l9.of (q3 _ _ hf)) iB ?_;refine⟨⟨[some _],U,U⟩,vc U U U (zf ⟨U,U,l9.of (q3 _ _ fK),U,R,zL nm p so lu lF n _ ed (zT n μ β) ⟨hS,U,⟨eI.same q3.t,(i0.same q3.t gF).seq,(i0.same q3.t ot).seq,N4 (hX j hj) gH.en Y Y,hz.le Y⟩,λv G2 s2 f2=>?_⟩⟩)⟩;exact⟨q2.trans s2,(e.mono λ_ _ _ x=>R.same s2.t x).snoc f2⟩
     . rintro ys G' ⟨q2,e⟩;exact⟨_,l9.of ((q.trans q2) _ _ hf),by rw[ef];exact ae _⟩
     . rintro ys G' z ⟨q2,e⟩ nz;have t1:=c6 (o:=.lst ys) nz;refine⟨z,ys,U,.inl ⟨o7.of b9,λz2 n2=>?_⟩⟩;have t2:=t1.trans (c6 (o:=.tup ys) n2);have hr:i0 R n (λi=>C0 R.S (X i) ed n) (.ref z2) (upd (upd G' z (.lst ys)) z2 (.tup ys)):=⟨z2,ys,U,b9,e.mono λ_ _ _ x=>R.same t2.t x⟩;have q3:=q.trans (q2.trans t2);clear e q2 t1 t2 nz n2;revert hr q3;generalize upd (upd G' z (.lst ys)) z2 (.tup ys)=G5;intro hr q3;refine Z U (zf ⟨U,U,l9.of (q3 _ _ hm),U,UR hS hr (i0.same q3.t h3) TO.lst (Z U ?_)⟩)
       (try refine T3 ?_)
       have cnt:(kpL R.F n (rows X n)).length=n:=Da _ (λr hr=>by
        obtain⟨i,hi,rfl⟩:=aw.mp hr;exact M8.gen (aN.mp hi)) TO.ind λi hi=>⟨_,aw.mpr ⟨i,aN.mpr hi,U⟩,λ_ _=>rfl⟩
       subst xE;refine vb U U ⟨R,zM nm p so fp fs n n β (zT n μ β) X ⟨hS,U,⟨eI.same q3.t,.inr (q3 _ _ hf),eF.mono λi u _ hu=>let⟨a,vs,ea,ha,ev⟩:=hu;⟨a,vs,ea,.inr (q3 _ _ ha),ev.mono λ_ _ _ x=>R.same q3.t x⟩,Y,Y,hX,by unfold zT;omega,hz⟩,λH5 s5=>?_⟩⟩;rw[cnt];refine Z U ?_;refine⟨U,?_⟩;rw[decide_eq_true rfl];exact k _ (q3.trans s5)
def OX{l:List Nat}:∀k,l.length ^ k<=(E3 l k).length
 | 0=>ae _
 | k+1=>by
  show _<=(E3 l k++Ib l (k+1)).length;rw[aq,Fg];omega
def zA(n n' μ W:Nat):Nat:=3 * zC (n+n') μ+3 * zH n μ+(3 * zK n μ W+3)+(3 * zK n' μ W+3)+3 * zW n n' μ+(3 * zT n μ (zU (n+n') μ)+3)
def Hb{n μ W W':Nat}(h:W<=W'):zK n μ W<=zK n μ W':=by
 have a:zR n μ W<=zR n μ W':=Nat.add_le_add_right (Nat.add_le_add_left (bh _ h) _) _;exact Nat.add_le_add a (aX (Nat.succ_le_succ a) (Z9 h))
def XS.rk{R:g9 Pr w K mg base}{l:List Nat}{n m:Nat}{st:Nat->R.S.W}{tb:Nat->Nat->Nat->R.S.W}{en:Nat->R.S.W}(h:XS R l n st tb en m):QY R.F l n st tb en=m:=by
 obtain⟨es,E,e⟩:=h;rw[<- e];exact Um (HY E) E.le
def b0d{S:SR}{F:S7 S}{l:List Nat}{n:Nat}{st dY:Nat->S.W}{tb bY:Nat->Nat->Nat->S.W}{en ed:Nat->S.W}(h:∀u,AL l u->K7 S l n st tb en u=K7 S l n dY bY ed u):QY F l n st tb en=QY F l n dY bY ed:=by
 have e:(E3 l (n - 1)).map (GU S l n st tb en)=(E3 l (n - 1)).map (GU S l n dY bY ed):=List.map_congr_left λu hu=>funext λj=>h _ (Qn (X7 _ _ hu).2 λc hc=>by
  by_cases z:j < (E3 l (n - 1)).length
  . exact(X7 _ _ (Mine.K0 z)).2 c hc
  . rw[aR,List.getElem?_eq_none Y]at hc;cases hc)
 unfold QY;rw[e]
def Zw{S:SR}{F:S7 S}{l:List Nat}{n n':Nat}{st dY:Nat->S.W}{tb bY:Nat->Nat->Nat->S.W}{en ed:Nat->S.W}(h:∀u,AL l u->u.length<=n+n' - 1->K7 S l n st tb en u=K7 S l n' dY bY ed u):He (K7 S l (n+n') (X3 n st dY) (X2 n tb bY) (Di F n en ed)) (NW F l (n+n') (X3 n st dY) (X2 n tb bY) (Di F n en ed))=[]:=
 ET.mpr λu hu=>by
  obtain⟨a,b⟩:=V1 Kh hu;exact(Ir u b).mpr (h u b Y)
def n0v{S:SR}{F:S7 S}{C:Cb S}{l:List Nat}{m μ:Nat}{st:Nat->S.W}{tb:Nat->Nat->Nat->S.W}{en:Nat->S.W}(h:MB C m l.length μ st tb en):∀x∈(NW F l m st tb en).map (j5 S m st (w4 l tb)),XB C m ((m+1) * (μ+m)) ((m+1) * (μ+m)) x:=λx hx=>by
 obtain⟨u,hu,rfl⟩:=aw.mp hx;obtain⟨a,b⟩:=V1 Kh hu;have:=L6 (x:=μ+m) (show u.length<=m by omega);exact(h.row u b).mono this this
def RP(T:Txt K mg t):Sp:=λvs H Q _=>∃(R:g9 Pr w K mg base),∃nm p kv so mv ov l,∃(n n' μ:Nat),∃st tb en dY bY ed,So T R nm p/\vs=[kv,so,mv,ov]/\(F5 H so nm p/\Q9 R.C R.fs H kv/\l5 R l n st tb en mv H/\l5 R l n' dY bY ed ov H/\MB R.B (n+n') l.length μ (X3 n st dY) (X2 n tb bY) (Di R.F n en ed)/\MB R.B n l.length μ st tb en/\MB R.B n' l.length μ dY bY ed/\P5 l/\n+n'<=60/\(E3 l (n+n' - 1)).length<=1000/\X0 R.S (zA n n' μ ((E3 l (n - 1)).length+(E3 l (n' - 1)).length))/\D7 t H)/\
 ∀H',D6 (DT t) H H'->D7 t H'->Q (.bl true) H'
def Fb(T:Txt K mg t)(fP:Wc mg base t):r8 Pr w K mg base E7 61 t.v0o t.t0g a0c (RP (w:=w) (base:=base) T):=by
 refine T.s0f.F.okA R3 λ_ _ _ s H _ Q _ hr h=>?_;obtain⟨R,nm,p,kv,so,mv,ov,l,n,n',μ,st,tb,en,dY,bY,ed,hS,rfl,⟨eI,hk,hM,fw,hJ,hB,gH,L,hn,hU,hz,hT⟩,k⟩:=h;have u1:=FJ (l:=l) (show n - 1<=n+n' - 1 by omega);have u2:=FJ (l:=l) (show n' - 1<=n+n' - 1 by omega);have p0:=OX (l:=l) (n+n' - 1);have p1:=OX (l:=l) (n - 1);have p2:=OX (l:=l) (n' - 1);have k1:=Hb (n:=n) (μ:=μ) (show(E3 l (n - 1)).length<=(E3 l (n - 1)).length+(E3 l (n' - 1)).length by omega);have k2:=Hb (n:=n') (μ:=μ) (show(E3 l (n' - 1)).length<=(E3 l (n - 1)).length+(E3 l (n' - 1)).length by omega);have az:∀{k:Nat},k<=zA n n' μ ((E3 l (n - 1)).length+(E3 l (n' - 1)).length)->X0 R.S k:=λh=>hz.le h;unfold zA at az;refine⟨_,(c5 (sT 4 R3.nd (C1 (Pf T fP) hr.m T.w0p (S6 (O 0) (O 2) (O 3)))) (c5 (sT 5 R3.nd (P6 J8 (l4 r9 bR T.z_len PySem.boot_len (x5 (B5 g6 (O 2) a9))) (l4 r9 bR T.z_len PySem.boot_len (x5 (B5 g6 (O 3) a9))) (o4 _))) (c5 (y8 (O7 (O 5)) (c4 (sT 5 R3.nd (Ge (P6 J8 (C1 (Ap T) hr.m T.p0y (D9 (O 1) (O 2))) (l4 r9 bR T.z_len PySem.boot_len (x5 (B5 g6 (O 2) a9))) (o4 _)) (Ed (P6 J8 (C1 (Ap T) hr.m T.p0y (D9 (O 1) (O 3))) (l4 r9 bR T.z_len PySem.boot_len (x5 (B5 g6 (O 3) a9))) (o4 _)))))) o8) (c5 (y8 (O7 (O 5)) (c4 (sT 5 R3.nd (Pc (C1 (Jj T) hr.m T.r0q (S6 (O 1) (O 2) (O 3)))))) o8) (c5 (y8 (U7 (O7 (O 5))) (c4 (c9 (P6 UF (O 4) Li (o4 _)))) o8) (c4 (c9 (C1 (Lk T) hr.m T.s0v (J7 (O 0) (Jg (O 1) (O 2) (O 3) (O 4))))))))))),?_⟩;dsimp only[z8,u7,y9,z5];refine vc U U U ⟨R,kv,mv,ov,l,n,n',μ,st,tb,en,dY,bY,ed,U,⟨hk,hM,fw,hJ,hB,L,hn,az Y,az Y,hT⟩,λv H1 gr fQ tv=>?_⟩;have t1:x4 H H1:=gr.tup hT.not;have kc:=Q9.sameD gr hT.not hk;have fS:=l5.same t1 hM;have kn:=l5.same t1 fw;clear hM fw hk hT;obtain⟨mp,sv,lM,ev,rfl,hm,h1,h2,h3⟩:=id fS;obtain⟨ja,lP,tv'',lF,rfl,fK,gI,pY,ot⟩:=id kn;refine Z U (zf ⟨U,U,l9.of hm,U,za ⟨U,h1.len,Z U (zf ⟨U,U,l9.of fK,U,za ⟨U,gI.len,U,?_⟩⟩)⟩⟩);show L3 5 (.bl (decide (V.int (n:Nat)=V.int (n':Nat)))) [some kv,some so,sr mp,some (.ref ja),some v,none] H1 _;rcases tv with ⟨rfl,why⟩ | ⟨e0,en0,hd,es,hE,hW⟩
 . have fin:∀H',D6 (DT t) H1 H'->D7 t H'->Q (.bl true) H':=λH' s hT=>k H' (gr.trans s) hT;by_cases nn:n'=n
   . subst nn;rw[decide_eq_true rfl];refine vb U U ?_
     (try refine Bz ?_)
     refine vb U U ⟨R,zM nm p so _ l n' μ st tb en ⟨hS,U,⟨eI.same t1,fS,hB,L,Y,Y,Y,az Y⟩,λH2 s2=>?_⟩⟩;refine Z U (zf ⟨U,U,l9.of (s2 _ _ hm),U,za ⟨U,(i0.same s2.t h1).len,U,?_⟩⟩);refine Z U ?_;by_cases a1:QY R.F l n' st tb en=n'
     . refine a0t (decide_eq_true (by rw[a1])) ?_;refine vb U U ⟨R,zM nm p so _ l n' μ dY bY ed ⟨hS,U,⟨eI.same (t1.trans s2.t),l5.same s2.t kn,gH,L,Y,Y,Y,az Y⟩,λH3 s3=>?_⟩⟩;have JV:=s2.trans s3;refine Z U (zf ⟨U,U,l9.of (JV _ _ fK),U,za ⟨U,(i0.same JV.t gI).len,U,?_⟩⟩);show L3 5 (.bl (decide (V.int (QY R.F l n' dY bY ed:Nat)=V.int (n':Nat)))) _ H3 _;by_cases a2:QY R.F l n' dY bY ed=n'
       . rw[a2,decide_eq_true rfl];refine vb U U ?_
         (try refine Bz ?_)
         refine vc U U U ⟨R,nm,p,so,za ⟨l,n',n',μ,st,tb,en,dY,bY,ed,hS,U,⟨eI.same (t1.trans JV.t),l5.same JV.t fS,l5.same JV.t kn,hB,gH,L,Y,Y,Y,az Y⟩,λb H4 s4 _ f2=>(Z U ?_)⟩⟩;obtain rfl:b=true:=by
          cases b with
          | true=>rfl
          | false=>
           have e:=Zw (F:=R.F) (f2 U);rcases why with z | z | ⟨m,hm,nm⟩
           . exact absurd e z
           . exact absurd rfl z
           . exact absurd (hm.rk.symm.trans a1) nm
         refine vb U U ?_
         (try refine Bz ?_)
         exact Z U ⟨U,fin _ (.of (JV.trans s4)) (fQ.same (JV.trans s4))⟩
       . rw[decide_eq_false λz=>a2 (by injection z with z;omega)];refine vb U U ?_
         (try refine T3 ?_)
         refine vb U U ?_
         (try refine Bz ?_)
         exact Z U ⟨U,fin _ (.of JV) (fQ.same JV)⟩
     . refine a0u (decide_eq_false λz=>a1 (by injection z with z;omega)) ?_;refine vb U U ?_
       (try refine T3 ?_)
       refine vb U U ?_
       (try refine Bz ?_)
       exact Z U ⟨U,fin _ (.of s2) (fQ.same s2)⟩
   . rw[decide_eq_false λz=>nn (by injection z with z;omega)];refine vb U U ?_
     (try refine T3 ?_)
     refine vb U U ?_
     (try refine T3 ?_)
     refine vb U U ?_
     (try refine Bz ?_)
     exact Z U ⟨U,fin _ (.of (h9.refl _)) fQ⟩
 . subst en0;rw[decide_eq_true rfl];refine vb U U ?_
   (try refine Bz ?_)
   have R1:=hd.rk;have kA:∀u,AL l u->K7 R.S l n' st tb en u=K7 R.S l n' dY bY ed u:=λu hu=>(Ir (F:=R.F) u hu).mp (Rc e0 u hu);have R2:QY R.F l n' dY bY ed=n':=by rw[<- b0d kA];exact R1
   obtain⟨el,TO⟩:=Wq L.nd hE e0 R1 R2;rw[el]at hW;refine vb U U ⟨R,zM nm p so _ l n' μ st tb en ⟨hS,U,⟨eI.same t1,fS,hB,L,Y,Y,Y,az Y⟩,λH2 s2=>?_⟩⟩;refine Z U (zf ⟨U,U,l9.of (s2 _ _ hm),U,za ⟨U,(i0.same s2.t h1).len,U,?_⟩⟩);refine Z U ?_;refine a0t (decide_eq_true (by rw[R1])) ?_;refine vb U U ⟨R,zM nm p so _ l n' μ dY bY ed ⟨hS,U,⟨eI.same (t1.trans s2.t),l5.same s2.t kn,gH,L,Y,Y,Y,az Y⟩,λH3 s3=>?_⟩⟩;have JV:=s2.trans s3;refine Z U (zf ⟨U,U,l9.of (JV _ _ fK),U,za ⟨U,(i0.same JV.t gI).len,U,?_⟩⟩);show L3 5 (.bl (decide (V.int (QY R.F l n' dY bY ed:Nat)=V.int (n':Nat)))) _ H3 _;rw[R2,decide_eq_true rfl];refine vb U U ?_
   (try refine Bz ?_)
   refine vc U U U ⟨R,nm,p,so,za ⟨l,n',n',μ,st,tb,en,dY,bY,ed,hS,U,⟨eI.same (t1.trans JV.t),l5.same JV.t fS,l5.same JV.t kn,hB,gH,L,Y,Y,Y,az Y⟩,λb H4 s4 f1 _=>(Z U ?_)⟩⟩;obtain rfl:b=false:=by
    cases b with
    | false=>rfl
    | true=>
     obtain⟨u,ua,ne⟩:=f1 rfl;exact absurd (kA u ua) ne
   have Me:=JV.trans s4;refine vb U U ?_
   (try refine T3 ?_)
   have xb:=hE.xb (n0v hJ);refine vc U U U (vb U U ⟨R,nm,p,kv,so,zd ⟨l,n',μ,zU (n'+n') μ,st,tb,en,dY,bY,ed,_,hS,U,⟨eI.same (t1.trans Me.t),kc.same Me,l5.same Me.t fS,l5.same Me.t kn,y7.same Me.t hW,TO,hB,gH,λi hi=>?_,L,Y,az Y⟩,λH5 s5=>k _ (gr.trans (.of (Me.trans s5))) (fQ.same (Me.trans s5))⟩⟩);obtain⟨b,b0,b1,hb⟩:=(xb _ (AW (show i < es.length by omega))).2;exact⟨b,b0,b1,λj hj=>hb (n'+j) Y⟩
def Tv:List Str:=["echelon","free_ahead","alike"]
def TK(K:aa):Sp:=λvs H Q _=>∃(a:Addr) (ns:List Int),vs=[.ref a]/\o7 K H a (ns.map V.int)/\ns.length<=63/\(∀y∈Tv,∀c P,PySem.W.tabIn K y=some (c,P)->H P=some (.tbl #[]))/\∀H',Q (.bl true) H'
def KG{H:Hp}{P:Addr}{q:Str}(h:H P=some (.tbl #[])):Q8 H P q:=⟨#[],h,trivial,λlp v e=>by simp[codeAmong]at e⟩
def Wr(T:Txt K mg t){H:Hp}(h:∀y∈Tv,∀c P,PySem.W.tabIn K y=some (c,P)->H P=some (.tbl #[])):D7 t H:=λp hp=>by
 rcases aD.mp hp with rfl | hp
 . exact KG (h "echelon" (by simp[Tv]) _ _ T.tb_echelon)
 rcases aD.mp hp with rfl | hp
 . exact KG (h "free_ahead" (by simp[Tv]) _ _ T.tb_free_ahead)
 rcases aD.mp hp with rfl | hp
 . exact KG (h "alike" (by simp[Tv]) _ _ T.tb_alike)
 . cases hp
def PR{n:Nat}{i:Int}(h:(n:Int)<=i):Builtin.Str.strSliceIndices none (some i) 1 n=Builtin.Str.strSliceIndices none (some (n:Int)) 1 n:=by
 have h0:¬i < 0:=by omega
 have h1:¬((n:Int) < 0):=by omega
 have h2:(1:Int) > 0:=by decide
 simp only[Builtin.Str.strSliceIndices,h0,h1,h2,if_false,if_true,Int.min_eq_right h,Int.min_self]
def YS{p:List Nat}{q:Int}(h0:0<=q):Txt.slice (tx p) none (some q)=tx (p.take q.toNat):=by
 by_cases h1:q<=p.length
 . exact XY h0 h1
 . have e2:Txt.slice (tx p) none (some q)=Txt.slice (tx p) none (some ((p.length:Nat):Int)):=by
    unfold Txt.slice;rw[P8,PR Y]
   rw[e2,XY Y (Int.le_refl _),dH Y,dH Y]
theorem P5.take{l:List Nat}(L:P5 l)(k:Nat):P5 (l.take k):=⟨L.nd.sublist (List.take_sublist _ _),λc hc=>L.as c (List.mem_of_mem_take hc),by have:=L.h3;rw[bN];omega⟩
def cmB{i j:Int}(h1:0<=i)(h2:i<=9)(h3:0<=j)(h4:j<=9):Yy i j:=by
 have fc:∀k:Nat,k < 10->Builtin.Int.intBits (k:Int)<=2 ^ 20:=by decide
 have e1:=fc i.toNat Y;have e2:=fc j.toNat Y;rw[cI h1]at e1;rw[cI h3]at e2;exact⟨e1,e2⟩
theorem up1{l:List Nat}(h:l.length<=1):∀k,(E3 l k).length<=k+1
 | 0=>ae _
 | k+1=>by
  show(E3 l k++Ib l (k+1)).length<=_;have h1:=up1 h k;have h2:l.length ^ (k+1)<=1 ^ (k+1):=dA h _;rw[Nat.one_pow]at h2;rw[aq,Fg];omega
theorem up2{l:List Nat}(h:l.length<=2):∀k,(E3 l k).length+1<=2 ^ (k+1)
 | 0=>ae _
 | k+1=>by
  show(E3 l k++Ib l (k+1)).length+1<=_;have h1:=up2 h k;have h2:l.length ^ (k+1)<=2 ^ (k+1):=dA h _;rw[aq,Fg,bW 2 (k+1)];omega
def Wi{n n' μ W W':Nat}(h:W<=W'):zA n n' μ W<=zA n n' μ W':=by
 have a:=Hb (n:=n) (μ:=μ) h;have b:=Hb (n:=n') (μ:=μ) h;unfold zA;omega
def c0h:∀n,n<=2->∀n',n'<=2->zA n n' 19 6<=60000000:=by decide +kernel
def TU{S:SR}{l:List Nat}{n n':Nat}(hl:l.length<=2)(h:(n<=2/\n'<=2)\/∀k,X0 S k):X0 S (zA n n' 19 ((E3 l (n - 1)).length+(E3 l (n' - 1)).length)):=by
 rcases h with ⟨h,h'⟩ | h
 . have a:=up2 hl (n - 1);have b:=up2 hl (n' - 1);have c:2 ^ (n - 1+1)<=2 ^ 2:=Z9 Y;have d:2 ^ (n' - 1+1)<=2 ^ 2:=Z9 Y;exact .inl (ag (Wi Y) (c0h n h n' h'))
 . exact h _
def Th{l:List Nat}{n n':Nat}(hl:l.length<=2)(h:n<=8)(h':n'<=8)(h2:l.length=2->n<=4/\n'<=4):(E3 l (n+n' - 1)).length<=1000:=by
 by_cases e:l.length=2
 . have a:=up2 hl (n+n' - 1);have c:2 ^ (n+n' - 1+1)<=2 ^ 8:=Z9 (by have:=h2 e;omega);omega
 . have a:=up1 (show l.length<=1 by omega) (n+n' - 1);omega
def ZG(T:Txt K mg t)(fP:Wc mg base t):r8 Pr w K mg base E7 62 t.law t.y0w [Mn] (TK K):=by
 refine T.y0t.F.okA W5 λ_ _ _ _ _ _ _ _ hr h=>?_;obtain⟨a0,ns,rfl,hS0,eJ,hP,kQ⟩:=h;have zl:=sZ;have hT0:=Wr T hP;refine⟨_,(c5 (sT 1 W5.nd (C1 (Ll T) hr.m T.s0l (x5 (O 0)))) (c5 (sT 2 W5.nd (C1 (Nd T) hr.m T.v0d (x5 (O 1)))) (c5 (sT 3 W5.nd (C1 (Nh T) hr.m T.u0o (x5 (O 2)))) (c5 (sT 4 W5.nd (HH YT (C1 (HQ T) hr.m T.r0e (x5 (O 1))) Lh (Lg a9))) (c5 (sT 5 W5.nd (C1 (w8 T) hr.m T.u0g (D9 (O 1) a9))) (c5 (y8 (PW.pt (OV (l8 Ao (O 2) a9 (o4 _)) (QI (l8 J8 (C1 (w8 T) hr.m T.u0g (D9 (O 1) a9)) a9 (o4 _))))) (c4 (sT 5 W5.nd (l7 N3 a9 (C1 (w8 T) hr.m T.u0g (D9 (O 1) (l7 Aa a9 (l7 Xa a9 (j6 Be bR T.z_int boot_int (x5 (P6 J8 (l4 r9 bR T.z_len PySem.boot_len (x5 (O 4))) a9 (o4 _))))))))))) o8) (c5 (sT 6 W5.nd (C1 (CB T) hr.m T.q0z (Jg (O 1) (O 2) (O 4) (O 5)))) (c5 (sT 7 W5.nd (j6 Be bR T.z_int boot_int (x5 (Ge (P6 J8 (C1 (w8 T) hr.m T.u0g (D9 (O 1) a9)) a9 (o4 _)) (Ed (e0r (P6 Ao (O 2) a9 (o4 _)) (Ed (P6 MZ (l4 r9 bR T.z_len PySem.boot_len (x5 (B5 g6 (O 6) a9))) a9 (o4 _))))))))) (c5 (sT 8 W5.nd (C1 (CC T) hr.m T.r0g (Jg (O 1) (O 2) (O 6) (O 7)))) (c5 (sT 9 W5.nd (C1 (CC T) hr.m T.r0g (Jg (O 1) (O 2) (O 6) (O 7)))) (c5 (y8 (l8 J8 (C1 (w8 T) hr.m T.u0g (D9 (O 1) a9)) a9 (o4 _)) (c4 (sT 9 W5.nd (C1 (CB T) hr.m T.q0z (Jg (O 1) (O 2) (O 4) (l4 r9 bR T.z_len PySem.boot_len (x5 (B5 g6 (O 8) a9))))))) o8) (c4 (c9 (Ge (C1 (Fb T fP) hr.m T.s0f (Jg (O 3) (O 2) (O 8) (O 9))) (Ed (C1 (Fb T fP) hr.m T.s0f (Jg (O 3) (O 2) (O 8) (O 8)))))))))))))))))),?_⟩;dsimp only[z8,u7,y9,z5];refine Z U ⟨a0,ns,U,hS0,eJ,λa H1 na s1 d1=>?_⟩;have fQ:=hT0.same s1;refine Z U ⟨a,U,d1,λR nm p so H2 hS eI s2 d2=>?_⟩;obtain rfl:so=.int p:=eI;obtain⟨xs1,hx1⟩:=d1.lst;have gi:=fQ.sameX s2 hx1;refine Z U ⟨R,zw nm p (.int p) ⟨hS,U,U,λkv H3 s3 hk=>?_⟩⟩;have d3:=d2.same s3;have gG:=gi.same s3;refine Z U ⟨a,U,d3,λl0 H4 s4 d4 L0 l1=>?_⟩;refine vb U U ⟨by rw[P8];have:=L0.h3;omega,?_⟩;rw[YS bD];have L:P5 (l0.take 2):=L0.take 2;have jc:(l0.take 2).length<=2:=by rw[bN];omega
 have pO:1<=(l0.take 2).length:=by rw[bN];omega
 show L3 4 (vT (l0.take 2)) [sr a0,sr a,some (.int p),some kv,none,none,none,none,none,none] H4 _;generalize l0.take 2=l at L jc pO;refine Z U ⟨a,3,U,⟨d4,bD,bD⟩,λm H5 s5 d5 a5 b5=>?_⟩;have XZ:=s4.trans s5;have ml:p=0\/(0 < p/\∀k,X0 R.S k):=by
  cases hS with
  | fr=>exact .inl rfl
  | re p hp hq hi=>exact .inr ⟨Y,λk=>.inr λ_ _=>trivial⟩
 refine(λ(fc:∀(n:Nat) (G:Hp),j9 a H3 G->Dr G a->(n<=2\/∀k,X0 R.S k)->n<=7->(l.length=2->n<=3)->(?F:L2.St->Hp->Prop) [sr a0,sr a,some (.int p),some kv,some (vT l),si n,none,none,none,none] G)=>?main) ?R9
 case main=>
  obtain⟨n0,rfl⟩:∃n:Nat,m=(n:Int):=⟨m.toNat,Y⟩;refine Z U (za ⟨U,U,Z U ?_⟩);refine AC (λgt=>?_) (λgt=>?_)
  . refine Z U ⟨a,8,U,⟨d5,bD,bD⟩,λr H6 s6 d6 a6 b6=>⟨U,Z U ?_⟩⟩;refine Ep (λ_=>?_) (λ_=>?_)
    . have hs:∀k,X0 R.S k:=ml.elim (λe=>absurd e Y) And.right;refine vb U U (za ⟨U,n0k Y,U,.inr (Z U ?_)⟩);obtain⟨c,ec,hc⟩:∃c:Int,(if decide (V.int ((l.length:Nat):Int)=V.int 2)=true then(1:Int)else 0)=c/\((l.length=1/\c=0)\/(l.length=2/\c=1)):=by
       rcases(by omega:l.length=1\/l.length=2)with e | e <;>rw[e] <;>simp
      rw[ec];refine za ⟨U,U,(cmB Y Y Y Y),za ⟨U,U,a,Z U ⟨⟨d6,Y,Y⟩,λr7 H7 s7 d7 a7 b7=>za ⟨U,U,?_⟩⟩⟩⟩;obtain⟨n,en⟩:∃n:Nat,3+r7=(n:Int):=⟨(3+r7).toNat,Y⟩;show L3 5 (.int (3+r7)) [sr a0,sr a,some (.int p),some kv,some (vT l),si n0,none,none,none,none] H7 _;rw[en];exact fc n H7 (XZ.trans (s6.trans s7)) d7 (.inr hs) Y Y
    . exact fc n0 H6 (XZ.trans s6) d6 (.inl Y) Y Y
  . (try refine T3 ?_)
    exact fc n0 H5 XZ d5 (.inl Y) Y Y
 case R9=>
  clear s4 s5 d4 d5 XZ H4 H5;intro n G sG dG lg hn7 lh;refine vc U U U (Z U ⟨R,zI nm p a (.int p) l n _ ⟨hS,U,⟨dG,U,L,Y,U⟩,λbv G1 st tb en t1 e1 hN hC=>?_⟩⟩);show L3 6 bv _ G1 _;obtain⟨bp,bsv,btv,bev,rfl,og,kg,oi,tT⟩:=id hN;refine Z U ⟨a,3,U,⟨e1,bD,bD⟩,λr2 G2 t2 e2 a2 b2=>⟨U,?_⟩⟩;have wb:=l5.same (t2.tt e1) hN;have kD:=sG.trans (t1.trans t2);refine(λ(jy:∀(z:Nat),n+z<=8->(l.length=2->n+z<=4)->(n+z<=2\/∀k,X0 R.S k)->(?F2:L2.St->Hp->Prop) [sr a0,sr a,some (.int p),some kv,some (vT l),si n,sr bp,si z,none,none] G2)=>?main2) ?rest2
  case main2=>
   refine Z U ?_;refine Ep (λ_=>?_) (λ_=>?_)
   . refine Z U (za ⟨U,U,?_⟩);refine Z U ?_;refine AC (λgt=>?_) (λgt=>?_)
     . refine .inr (Z U ?_);exact jy 1 Y (λe=>by have:=lh e;omega) (.inr (ml.elim (λe=>absurd e Y) And.right))
     . refine Z U (zf ⟨U,U,l9.of ((t2.tt e1) _ _ og),U,za ⟨U,(i0.same (t2.tt e1) kg).len,za ⟨U,U,?_⟩⟩⟩);refine .inr (Z U ?_);show L3 7 (.int (if decide ((n:Int) < 2)=true then 1 else 0)) [sr a0,sr a,some (.int p),some kv,some (vT l),si n,sr bp,none,none,none] G2 _;by_cases h2:(n:Int) < 2
       . rw[if_pos (decide_eq_true h2)];exact jy 1 Y (λe=>by have:=lh e;omega) (.inl Y)
       . rw[if_neg (by rw[decide_eq_false h2];exact aO)];exact jy 0 Y (λe=>by have:=lh e;omega) lg
   . refine .inr (Z U ?_);exact jy 0 Y (λe=>by have:=lh e;omega) lg
  case rest2=>
   intro z hz8 vE hz;refine vc U U U (Z U ⟨R,zO nm p a (.int p) (.ref bp) l n z st tb en ⟨hS,U,⟨e2,U,L,Y,wb,hC⟩,λmv G3 n1 jR oU n0y t3 e3 g1 qb hM O1=>?_⟩⟩);show L3 8 mv _ G3 _;obtain⟨mp,sv,tv,ev,rfl,hm,h1,h2,h3⟩:=id hM;refine vc U U U (Z U ⟨R,zO nm p a (.int p) (.ref bp) l n z st tb en ⟨hS,U,⟨e3,U,L,Y,l5.same (t3.tt e2) wb,hC⟩,λov G4 n2 fL lO ko t4 e4 g2 pZ fw O2=>?_⟩⟩);refine Z U ⟨a,6,U,⟨e4,bD,bD⟩,λr5 G5 t5 e5 a5 b5=>⟨U,Z U ?_⟩⟩;have YY:=kD.trans (t3.trans (t4.trans t5));have jJ:=l5.same ((t4.tt e3).trans (t5.tt e4)) hM;have pU:=l5.same (t5.tt e4) fw;refine(λ(nA:∀(ov:V) (n2:Nat) fL lO ko (G:Hp),n2<=n+z->j9 a H3 G->l5 R l n1 jR oU n0y (.ref mp) G->l5 R l n2 fL lO ko ov G->MC R 12 400000 n2 l.length fL lO ko->(?F3:L2.St->Hp->Prop) [sr a0,sr a,some (.int p),some kv,some (vT l),si n,sr bp,si z,sr mp,some ov] G)=>?main3) ?rest3
   case main3=>
    refine Ep (λ_=>?_) (λ_=>?_)
    . have h15:=i0.same ((t4.tt e3).trans (t5.tt e4)) h1;refine vc U U U (Z U (zf ⟨U,U,l9.of (((t4.tt e3).trans (t5.tt e4)) _ _ hm),U,za ⟨U,h15.len,R,zI nm p a (.int p) l n1 _ ⟨hS,U,⟨e5,U,L,Y,U⟩,λdv G6 st6 tb6 en6 t6 e6 hN6 hC6=>?_⟩⟩⟩));exact nA dv n1 st6 tb6 en6 G6 qb (YY.trans t6) (l5.same (t6.tt e5) jJ) hN6 (hC6.mono bD)
    . exact nA ov n2 fL lO ko G5 pZ YY jJ pU O2.mc
   case rest3=>
    clear pU O2 g2 pZ fw t5 e5 YY jJ t4 e4;intro ov n2 fL lO ko G5 pZ qX jJ pU C2;obtain⟨xs3,nG⟩:=d3.lst;have oj:=gG.sameX qX nG;have vP:Q9 R.C R.fs G5 kv:=by
     obtain⟨kp,dx,rfl,fX⟩:=hk;exact⟨kp,dx,U,qX _ _ (λz=>by rw[z,nG]at fX;cases fX) fX⟩
    have mb:=λ{m:Nat} {st tb en} (h:MC R 12 400000 m l.length st tb en)=>h.mb (μ:=19) bD bD bD;have bd:∀{a b:Nat},a<=n+z->b<=n+z->(a<=2/\b<=2)\/∀k,X0 R.S k:=λ{a b} ha hb=>hz.imp_left λh=>by omega
    refine vc U U U (Z U ⟨R,nm,p,kv,.int p,.ref mp,ov,l,n1,n2,19,jR,oU,n0y,fL,lO,ko,hS,U,⟨U,vP,jJ,pU,mb (MC.both bD O1.mc C2),mb O1.mc,mb C2,L,Y,Th jc Y Y (λe=>by have:=vE e;omega),TU jc (bd qb pZ),oj⟩,λG6 s6 tW=>(Z U ?_)⟩)
    (try refine Bz ?_)
    have u6:=s6.tup oj.not;refine vc U U U (Z U ⟨R,nm,p,kv,.int p,.ref mp,.ref mp,l,n1,n1,19,jR,oU,n0y,jR,oU,n0y,hS,U,⟨U,Q9.sameD s6 oj.not vP,l5.same u6 jJ,l5.same u6 jJ,mb (MC.both bD O1.mc O1.mc),mb O1.mc,mb O1.mc,L,Y,Th jc Y Y (λe=>by have:=vE e;omega),TU jc (bd qb qb),tW⟩,λG7 s7 hT7=>kQ _⟩)
def Sz(T:Txt K mg t):∀(s:Shared) (u:Value),BindsTo s t.y0w ⟨[u],[]⟩ [("_law_script",u)]:=by
 obtain⟨oc,od,kV,gj,pm,an,fF,ct,iD,e,_,_⟩:=T.y0t.F.ex;rw[e];exact λs u=>.of_eq rfl
end
abbrev NS(K:aa)(x:Str)(a:Addr):Prop:=PySem.W.nsIn K mainGlobals x=some (some (.ref a))
abbrev KI(K:aa)(a:Addr):Prop:=PySem.W.keepIn K (.ref a)=true
abbrev FX(K:aa)(n q:Str)(s:Stmt)(a:Addr):Prop:=∃d,Mi K n q s a d
def fx{K:aa}{x q:Str}{s:Stmt}{f:Addr}{b:Value}{u v:Option Addr}{w:Array (Option Value)}{c d e g j:Value}(l:K.lookup f=some ⟨b,u,.func (PySem.W.fnOf x q (F1 s) (C7 s) (a8 s) .none c d e v g j),w⟩)(h:PySem.W.codeIn K g q=true)(k:KI K f):FX K x q s f:=⟨_,VA l h k⟩
def SZ{us:List Value}{n:Nat}(h:us.length=n+1):∃a l,us=a::l/\l.length=n:=by cases us with | nil=>cases h | cons a l=>exact⟨a,l,rfl,Nat.succ.inj h⟩
def c0b{K:aa}{x q:Str}{s:Stmt}{f:Addr}{fd:FuncData}{p0:Str}(F:Mi K x q s f fd)(h:∀(c d e:Value) (v:Option Addr) (g j:Value) (u0:Value),bindArgs (PySem.W.fnOf x q (F1 s) (C7 s) (a8 s) .none c d e v g j) ⟨[u0],[]⟩=pure (([p0]:List Str).zip [u0]):=by intros;rfl):M1 K fd [p0] []:=F.binds λc d e v g j us hl=>match us,hl with | [u0],_=>h c d e v g j u0
def Yq{K:aa}{x q:Str}{s:Stmt}{f:Addr}{fd:FuncData}{p0 p1:Str}(F:Mi K x q s f fd)(h:∀(c d e:Value) (v:Option Addr) (g j:Value) (u0 u1:Value),bindArgs (PySem.W.fnOf x q (F1 s) (C7 s) (a8 s) .none c d e v g j) ⟨[u0,u1],[]⟩=pure (([p0,p1]:List Str).zip [u0,u1]):=by intros;rfl):M1 K fd [p0,p1] []:=F.binds λc d e v g j us hl=>match us,hl with | [u0,u1],_=>h c d e v g j u0 u1
def o0f{K:aa}{x q:Str}{s:Stmt}{f:Addr}{fd:FuncData}{p0 p1 p2:Str}(F:Mi K x q s f fd)(h:∀(c d e:Value) (v:Option Addr) (g j:Value) (u0 u1 u2:Value),bindArgs (PySem.W.fnOf x q (F1 s) (C7 s) (a8 s) .none c d e v g j) ⟨[u0,u1,u2],[]⟩=pure (([p0,p1,p2]:List Str).zip [u0,u1,u2]):=by intros;rfl):M1 K fd [p0,p1,p2] []:=F.binds λc d e v g j us hl=>by obtain⟨u0,_,rfl,k0⟩:=SZ hl;obtain⟨u1,_,rfl,k1⟩:=SZ k0;obtain⟨u2,_,rfl,k2⟩:=SZ k1;cases bz.mp k2;exact h c d e v g j u0 u1 u2
def bn4{K:aa}{x q:Str}{s:Stmt}{f:Addr}{fd:FuncData}{p0 p1 p2 p3:Str}(F:Mi K x q s f fd)(h:∀(c d e:Value) (v:Option Addr) (g j:Value) (u0 u1 u2 u3:Value),bindArgs (PySem.W.fnOf x q (F1 s) (C7 s) (a8 s) .none c d e v g j) ⟨[u0,u1,u2,u3],[]⟩=pure (([p0,p1,p2,p3]:List Str).zip [u0,u1,u2,u3]):=by intros;rfl):M1 K fd [p0,p1,p2,p3] []:=F.binds λc d e v g j us hl=>by obtain⟨u0,_,rfl,k0⟩:=SZ hl;obtain⟨u1,_,rfl,k1⟩:=SZ k0;obtain⟨u2,_,rfl,k2⟩:=SZ k1;obtain⟨u3,_,rfl,k3⟩:=SZ k2;cases bz.mp k3;exact h c d e v g j u0 u1 u2 u3
def bn5{K:aa}{x q:Str}{s:Stmt}{f:Addr}{fd:FuncData}{p0 p1 p2 p3 p4:Str}(F:Mi K x q s f fd)(h:∀(c d e:Value) (v:Option Addr) (g j:Value) (u0 u1 u2 u3 u4:Value),bindArgs (PySem.W.fnOf x q (F1 s) (C7 s) (a8 s) .none c d e v g j) ⟨[u0,u1,u2,u3,u4],[]⟩=pure (([p0,p1,p2,p3,p4]:List Str).zip [u0,u1,u2,u3,u4]):=by intros;rfl):M1 K fd [p0,p1,p2,p3,p4] []:=F.binds λc d e v g j us hl=>by obtain⟨u0,_,rfl,k0⟩:=SZ hl;obtain⟨u1,_,rfl,k1⟩:=SZ k0;obtain⟨u2,_,rfl,k2⟩:=SZ k1;obtain⟨u3,_,rfl,k3⟩:=SZ k2;obtain⟨u4,_,rfl,k4⟩:=SZ k3;cases bz.mp k4;exact h c d e v g j u0 u1 u2 u3 u4
abbrev DX(K:aa)(n:Str)(s:Stmt)(a:Addr):Prop:=NS K n a/\FX K n n s a
def dx{K:aa}{x:Str}{s:Stmt}{f:Addr}{b:Value}{u v:Option Addr}{w:Array (Option Value)}{c d e g j:Value}(m:NS K x f)(l:K.lookup f=some ⟨b,u,.func (PySem.W.fnOf x x (F1 s) (C7 s) (a8 s) .none c d e v g j),w⟩)(h:PySem.W.codeIn K g x=true)(k:KI K f):DX K x s f:=⟨m,_,VA l h k⟩
def SK{K:aa}{x:Str}{s:Stmt}{f:Addr}{H:Heap}{mg:Str->Option Value}(X:K.In H)(G:H.Ns mainGlobals mg){p0:Str}(m:DX K x s f)(h:∀(c d e:Value) (v:Option Addr) (g j:Value) (u0:Value),bindArgs (PySem.W.fnOf x x (F1 s) (C7 s) (a8 s) .none c d e v g j) ⟨[u0],[]⟩=pure (([p0]:List Str).zip [u0]):=by intros;rfl):Df K mg x s [p0] f m.2.choose:=⟨m.2.choose_spec,c0b m.2.choose_spec h,cU X G m.1⟩
def JH{K:aa}{x:Str}{s:Stmt}{f:Addr}{H:Heap}{mg:Str->Option Value}(X:K.In H)(G:H.Ns mainGlobals mg){p0 p1:Str}(m:DX K x s f)(h:∀(c d e:Value) (v:Option Addr) (g j:Value) (u0 u1:Value),bindArgs (PySem.W.fnOf x x (F1 s) (C7 s) (a8 s) .none c d e v g j) ⟨[u0,u1],[]⟩=pure (([p0,p1]:List Str).zip [u0,u1]):=by intros;rfl):Df K mg x s [p0,p1] f m.2.choose:=⟨m.2.choose_spec,Yq m.2.choose_spec h,cU X G m.1⟩
def FE{K:aa}{x:Str}{s:Stmt}{f:Addr}{H:Heap}{mg:Str->Option Value}(X:K.In H)(G:H.Ns mainGlobals mg){p0 p1 p2:Str}(m:DX K x s f)(h:∀(c d e:Value) (v:Option Addr) (g j:Value) (u0 u1 u2:Value),bindArgs (PySem.W.fnOf x x (F1 s) (C7 s) (a8 s) .none c d e v g j) ⟨[u0,u1,u2],[]⟩=pure (([p0,p1,p2]:List Str).zip [u0,u1,u2]):=by intros;rfl):Df K mg x s [p0,p1,p2] f m.2.choose:=⟨m.2.choose_spec,o0f m.2.choose_spec h,cU X G m.1⟩
def c0a{K:aa}{x:Str}{s:Stmt}{f:Addr}{H:Heap}{mg:Str->Option Value}(X:K.In H)(G:H.Ns mainGlobals mg){p0 p1 p2 p3:Str}(m:DX K x s f)(h:∀(c d e:Value) (v:Option Addr) (g j:Value) (u0 u1 u2 u3:Value),bindArgs (PySem.W.fnOf x x (F1 s) (C7 s) (a8 s) .none c d e v g j) ⟨[u0,u1,u2,u3],[]⟩=pure (([p0,p1,p2,p3]:List Str).zip [u0,u1,u2,u3]):=by intros;rfl):Df K mg x s [p0,p1,p2,p3] f m.2.choose:=⟨m.2.choose_spec,bn4 m.2.choose_spec h,cU X G m.1⟩
def dx5{K:aa}{x:Str}{s:Stmt}{f:Addr}{H:Heap}{mg:Str->Option Value}(X:K.In H)(G:H.Ns mainGlobals mg){p0 p1 p2 p3 p4:Str}(m:DX K x s f)(h:∀(c d e:Value) (v:Option Addr) (g j:Value) (u0 u1 u2 u3 u4:Value),bindArgs (PySem.W.fnOf x x (F1 s) (C7 s) (a8 s) .none c d e v g j) ⟨[u0,u1,u2,u3,u4],[]⟩=pure (([p0,p1,p2,p3,p4]:List Str).zip [u0,u1,u2,u3,u4]):=by intros;rfl):Df K mg x s [p0,p1,p2,p3,p4] f m.2.choose:=⟨m.2.choose_spec,bn5 m.2.choose_spec h,cU X G m.1⟩
def YC{K:aa}{h:Heap}{mg:Str->Option Value}(X:K.In h)(G:h.Ns mainGlobals mg){A0 A1 A2 A3 A4 A5 A6 A7 A8 A9 ky mF qG qF qD qC qB qA mE qz qy qx qw A23 A24 A25 A26 A27 A28 A29 A30 A31 A32 A33 A34 A35 A36 A37 A38 A39 A40 A41 A42 A43 A44 A45 A46 A47 A48 A49 A50 A51 A52 A53 A54 A55 A56 A57 zZ zY zX zV zS zQ yZ yY yX yW yV yU yT yS yR yQ yP yO yN yM yL yK yJ yI yH yG yF yE yD yC yB c_echelon P_echelon c_free_ahead P_free_ahead c_alike P_alike:Addr}
 (N0:NS K "Fractions" A0)
 (pg0:PySem.W.plainGet K A0 Str.empty=true)
 (lr:PySem.W.hasDictIn K A0=true)
 (po0:PySem.W.plainOver K A0=true)
 (sa0:PySem.W.findIn K (.ref A0) "__setattr__"=some (some (.builtin "object.__setattr__")))
 (mk0:PySem.W.makesIn K A0=true)
 (kp0:KI K A0)
 (in0:PySem.W.findIn K (.ref A0) "__init__"=some (some (.builtin "object.__init__")))
 (N1:NS K "Residues" A1)
 (pg1:PySem.W.plainGet K A1 Str.empty=true)
 (hd1:PySem.W.hasDictIn K A1=true)
 (po1:PySem.W.plainOver K A1=true)
 (sa1:PySem.W.findIn K (.ref A1) "__setattr__"=some (some (.builtin "object.__setattr__")))
 (mk1:PySem.W.makesIn K A1=true)
 (kp1:KI K A1)
 (N2:NS K "Field" A2)
 (pg2:PySem.W.plainGet K A2 Str.empty=true)
 (ll:PySem.W.hasDictIn K A2=true)
 (po2:PySem.W.plainOver K A2=true)
 (sa2:PySem.W.findIn K (.ref A2) "__setattr__"=some (some (.builtin "object.__setattr__")))
 (mk2:PySem.W.makesIn K A2=true)
 (kp2:KI K A2)
 (in2:PySem.W.findIn K (.ref A2) "__init__"=some (some (.builtin "object.__init__")))
 (f0:DX K "is_whole" DZ A3)
 (f1:DX K "divisor" FU A4)
 (f2:DX K "fraction" Eb A5)
 (f3:DX K "is_prime" Ea A6)
 (n4:PySem.W.findIn K (.ref A0) "nought"=some (some (.ref A7)))
 (i4:PySem.W.isFn K (.ref A7)=true)
 (f4:FX K "nought" "Fractions.nought" Q1 A7)
 (n5:PySem.W.findIn K (.ref A0) "one"=some (some (.ref A8)))
 (i5:PySem.W.isFn K (.ref A8)=true)
 (f5:FX K "one" "Fractions.one" W7 A8)
 (n6:PySem.W.findIn K (.ref A0) "plus"=some (some (.ref A9)))
 (i6:PySem.W.isFn K (.ref A9)=true)
 (f6:FX K "plus" "Fractions.plus" U5 A9)
 (n7:PySem.W.findIn K (.ref A0) "times"=some (some (.ref ky)))
 (i7:PySem.W.isFn K (.ref ky)=true)
 (f7:FX K "times" "Fractions.times" R7 ky)
 (n8:PySem.W.findIn K (.ref A0) "is_weight"=some (some (.ref mF)))
 (i8:PySem.W.isFn K (.ref mF)=true)
 (f8:FX K "is_weight" "Fractions.is_weight" M5 mF)
 (n9:PySem.W.findIn K (.ref A1) "__init__"=some (some (.ref qG)))
 (i9:PySem.W.isFn K (.ref qG)=true)
 (f9:FX K "__init__" "Residues.__init__" O5 qG)
 (n10:PySem.W.findIn K (.ref A1) "nought"=some (some (.ref qF)))
 (i10:PySem.W.isFn K (.ref qF)=true)
 (qm:FX K "nought" "Residues.nought" R6 qF)
 (n11:PySem.W.findIn K (.ref A1) "one"=some (some (.ref qD)))
 (i11:PySem.W.isFn K (.ref qD)=true)
 (ql:FX K "one" "Residues.one" Z0 qD)
 (n0e:PySem.W.findIn K (.ref A1) "plus"=some (some (.ref qC)))
 (i12:PySem.W.isFn K (.ref qC)=true)
 (qk:FX K "plus" "Residues.plus" W6 qC)
 (n13:PySem.W.findIn K (.ref A1) "times"=some (some (.ref qB)))
 (i13:PySem.W.isFn K (.ref qB)=true)
 (qj:FX K "times" "Residues.times" U2 qB)
 (n14:PySem.W.findIn K (.ref A1) "is_weight"=some (some (.ref qA)))
 (i14:PySem.W.isFn K (.ref qA)=true)
 (qi:FX K "is_weight" "Residues.is_weight" M9 qA)
 (n15:PySem.W.findIn K (.ref A2) "is_field"=some (some (.ref mE)))
 (i15:PySem.W.isFn K (.ref mE)=true)
 (qh:FX K "is_field" "Field.is_field" U6 mE)
 (n16:PySem.W.findIn K (.ref A0) "minus"=some (some (.ref qz)))
 (i16:PySem.W.isFn K (.ref qz)=true)
 (qg:FX K "minus" "Fractions.minus" R8 qz)
 (n17:PySem.W.findIn K (.ref A0) "inverse"=some (some (.ref qy)))
 (i17:PySem.W.isFn K (.ref qy)=true)
 (qf:FX K "inverse" "Fractions.inverse" O6 qy)
 (n18:PySem.W.findIn K (.ref A1) "minus"=some (some (.ref qx)))
 (i18:PySem.W.isFn K (.ref qx)=true)
 (qe:FX K "minus" "Residues.minus" U3 qx)
 (n19:PySem.W.findIn K (.ref A1) "inverse"=some (some (.ref qw)))
 (i19:PySem.W.isFn K (.ref qw)=true)
 (qd:FX K "inverse" "Residues.inverse" Q0 qw)
 (yb:DX K "times_row" Ah A23)
 (ya:DX K "noughts" CV A24)
 (xZ:DX K "column_at" Aj A25)
 (xY:DX K "columns_of" Y4 A26)
 (xX:DX K "dot" Ud A27)
 (xW:DX K "row_by" EO A28)
 (xV:DX K "by_column" Ak A29)
 (xU:DX K "by_table" Bs A30)
 (xT:DX K "mirrored" Bo A31)
 (xS:DX K "rooms" Lc A32)
 (xQ:DX K "need_same_letters" O3 A33)
 (xP:DX K "beside" Cq A34)
 (xO:DX K "put_beside" R5 A35)
 (xN:DX K "need_field" Bn A36)
 (xM:DX K "leading" FQ A37)
 (xK:DX K "plus_row" Bm A38)
 (xJ:DX K "cleared" FV A39)
 (xI:DX K "keep" OR A40)
 (xH:DX K "kept_rows" Cp A41)
 (xG:DX K "width_of" DR A42)
 (uy:DX K "echelon" FT A43)
 (xF:DX K "free_words" Br A44)
 (xD:DX K "with_letter_behind" J6 A45)
 (ux:DX K "free_ahead" L7 A46)
 (xC:DX K "at_places" Al A47)
 (xB:DX K "narrowed" U0 A48)
 (xA:DX K "come_to" CW A49)
 (xy:DX K "told_apart" Bl A50)
 (xx:DX K "heads" Hd A51)
 (xw:DX K "less" Ld A52)
 (xr:DX K "parting" CU A53)
 (xq:DX K "grown_while_alike" O4 A54)
 (xo:DX K "walkable" T7 A55)
 (uw:DX K "alike" Am A56)
 (xn:DX K "turning" CT A57)
 (xm:DX K "_law_next" DW zZ)
 (xk:DX K "_law_state" Ck zY)
 (xh:DX K "_law_divisor" AA zX)
 (xg:DX K "_law_low" FR zV)
 (xf:DX K "_law_plus" DV zS)
 (qc:DX K "_law_times" Cj zQ)
 (xc:DX K "_law_minus" Cn yZ)
 (xa:DX K "_law_of" HA yY)
 (wZ:DX K "_law_sort" DS yX)
 (wY:DX K "_law_kind" DY yW)
 (wX:DX K "_law_weight" Bp yV)
 (wW:DX K "_law_machine" M3 yU)
 (wV:DX K "_law_moved" Q3 yT)
 (wU:DX K "_law_swapped" K6 yS)
 (wR:DX K "_law_more" Y9 yR)
 (wQ:DX K "_law_dressed" Az yQ)
 (wO:DX K "_law_sign" DU yP)
 (wN:DX K "_law_inverse" Ay yO)
 (wM:DX K "_law_rank" U1 yN)
 (wL:DX K "_law_words" Ai yM)
 (wK:DX K "_law_dot" FS yL)
 (wJ:DX K "_law_step" Y8 yK)
 (wI:DX K "_law_ahead" Co yJ)
 (wH:DX K "_law_behind" Y3 yI)
 (wG:DX K "_law_least_many" K9 yH)
 (wF:DX K "_law_letters" V2 yG)
 (wD:DX K "_law_by" ER yF)
 (wC:DX K "_law_unlike" Bq yE)
 (wB:DX K "_law_turns" V9 yD)
 (wA:DX K "_law_right" Cm yC)
 (wz:DX K "law" Uc yB)
 (z_isinstance:PySem.W.nsIn K mainGlobals "isinstance"=some none)
 (z_int:PySem.W.nsIn K mainGlobals "int"=some none)
 (z_bool:PySem.W.nsIn K mainGlobals "bool"=some none)
 (z_abs:PySem.W.nsIn K mainGlobals "abs"=some none)
 (z_tuple:PySem.W.nsIn K mainGlobals "tuple"=some none)
 (z_len:PySem.W.nsIn K mainGlobals "len"=some none)
 {tk_c_GREATEST_PRIME:Tok}
 (c_GREATEST_PRIME:PySem.W.nsIn K mainGlobals "GREATEST_PRIME"=some (some (.int 1000000 tk_c_GREATEST_PRIME)))
 (z_range:PySem.W.nsIn K mainGlobals "range"=some none)
 (z_zip:PySem.W.nsIn K mainGlobals "zip"=some none)
 (z_reversed:PySem.W.nsIn K mainGlobals "reversed"=some none)
 (z_sorted:PySem.W.nsIn K mainGlobals "sorted"=some none)
 (z_list:PySem.W.nsIn K mainGlobals "list"=some none)
 (z_max:PySem.W.nsIn K mainGlobals "max"=some none)
 (z_all:PySem.W.nsIn K mainGlobals "all"=some none)
 (k_ii:PySem.W.kitOne K (.type "int") (.type "int")=some true)
 (k_ib:PySem.W.kitOne K (.type "int") (.type "bool")=some false)
 (k_tt:PySem.W.kitOne K (.type "tuple") (.type "tuple")=some true)
 (k_bb:PySem.W.kitOne K (.type "bool") (.type "bool")=some true)
 (nP:PySem.W.findIn K (.ref A1) "prime"=some none)
 (iF_is_field:PySem.W.findIn K (.ref A0) "is_field"=some (some (.ref mE)))
 (iR_is_field:PySem.W.findIn K (.ref A1) "is_field"=some (some (.ref mE)))
 (k_ll:PySem.W.kitOne K (.type "list") (.type "list")=some true)
 (d_tabs:([P_echelon,P_free_ahead,P_alike]:List Addr).Nodup)
 (k_ss:PySem.W.kitOne K (.type "str") (.type "str")=some true)
 (tb_echelon:PySem.W.tabIn K "echelon"=some (c_echelon,P_echelon))
 (tb_free_ahead:PySem.W.tabIn K "free_ahead"=some (c_free_ahead,P_free_ahead))
 (tb_alike:PySem.W.tabIn K "alike"=some (c_alike,P_alike))
 : ∃t:Qu,Txt K mg t:=
 have M:∀{x:Str} {v:Value},PySem.W.nsIn K mainGlobals x=some (some v)->mg x=some v:=λn=>cU X G n;have a1d:∀{x:Str},PySem.W.nsIn K mainGlobals x=some none->mg x=none:=λn=>PySem.W.mg_none_of X G n;have S:∀{n q:Str} {s:Stmt} {a:Addr} (f:FX K n q s a),Mi K n q s a f.choose:=λf=>f.choose_spec
 ⟨{ x0i:=A3,v0h:=f0.2.choose,y0h:=A4,v0n:=f1.2.choose,w0u:=A5,v0b:=f2.2.choose,x0e:=A6,u0l:=f3.2.choose,q0a:=A7,p0k:=f4.choose,r0j:=A8,q0n:=f5.choose,q0v:=A9,q0e:=f6.choose,q0m:=ky,p0p:=f7.choose,p0e:=mF,o0t:=f8.choose,p0n:=qG,o0y:=f9.choose,q0j:=qF,p0q:=qm.choose,r0z:=qD,q0q:=ql.choose,r0a:=qC,q0k:=qk.choose,q0u:=qB,q0g:=qj.choose,p0j:=qA,o0x:=qi.choose,q0s:=mE,q0b:=qh.choose,q0o:=qz,p0r:=qg.choose,p0t:=qy,p0g:=qf.choose,q0w:=qx,q0d:=qe.choose,q0c:=qw,p0l:=qd.choose,w0b:=A23,s0q:=yb.2.choose,y0c:=A24,w0h:=ya.2.choose,v0r:=A25,s0y:=xZ.2.choose,v0f:=A26,r0t:=xY.2.choose,dot:=A27,y0q:=xX.2.choose,y0o:=A28,x0o:=xW.2.choose,w0c:=A29,t0i:=xV.2.choose,x0f:=A30,t0z:=xU.2.choose,x0p:=A31,u0f:=xT.2.choose,y0u:=A32,y0f:=xS.2.choose,p0o:=A33,p0a:=xQ.2.choose,y0p:=A34,x0q:=xP.2.choose,u0p:=A35,r0y:=xO.2.choose,u0c:=A36,r0n:=xN.2.choose,x0s:=A37,v0i:=xM.2.choose,x0h:=A38,t0o:=xK.2.choose,x0w:=A39,v0p:=xJ.2.choose,keep:=A40,y0m:=xI.2.choose,w0d:=A41,t0a:=xH.2.choose,x0c:=A42,v0c:=xG.2.choose,echelon:=A43,v0k:=uy.2.choose,t0w:=A44,r0m:=xF.2.choose,p0m:=A45,o0u:=xD.2.choose,free_ahead:=A46,s0b:=ux.2.choose,w0j:=A47,t0j:=xC.2.choose,w0v:=A48,u0h:=xB.2.choose,y0d:=A49,v0x:=xA.2.choose,u0r:=A50,r0p:=xy.2.choose,y0s:=A51,y0e:=xx.2.choose,y0x:=A52,d_less:=xw.2.choose,x0x:=A53,w0f:=xr.2.choose,p0s:=A54,p0d:=xq.2.choose,x0d:=A55,u0d:=xo.2.choose,alike:=A56,y0a:=uw.2.choose,y0g:=A57,v0j:=xn.2.choose,w0x:=zZ,u0x:=xm.2.choose,v0t:=zY,s0t:=xk.2.choose,t0m:=zX,q0y:=xh.2.choose,x0z:=zV,w0l:=xg.2.choose,w0z:=zS,u0u:=xf.2.choose,v0u:=zQ,t0f:=qc.2.choose,w0i:=yZ,s0z:=xc.2.choose,y0k:=yY,x0g:=xa.2.choose,x0k:=yX,u0w:=wZ.2.choose,w0r:=yW,u0j:=wY.2.choose,u0i:=yV,s0c:=wX.2.choose,s0k:=yU,r0h:=wW.2.choose,v0q:=yT,t0k:=wV.2.choose,s0p:=yS,r0f:=wU.2.choose,w0w:=yR,u0m:=wR.2.choose,t0n:=yQ,r0b:=wQ.2.choose,w0q:=yP,t0y:=wO.2.choose,s0h:=yO,r0c:=wN.2.choose,x0b:=yN,t0q:=wM.2.choose,w0o:=yM,t0b:=wL.2.choose,x0t:=yL,v0w:=wK.2.choose,x0n:=yK,u0q:=wJ.2.choose,w0k:=yJ,t0l:=wI.2.choose,u0a:=yI,r0s:=wH.2.choose,q0t:=yH,p0x:=wG.2.choose,s0x:=yG,q0x:=wF.2.choose,y0j:=yF,w0s:=wD.2.choose,v0a:=yE,r0u:=wC.2.choose,v0z:=yD,s0n:=wB.2.choose,v0o:=yC,t0g:=wA.2.choose,law:=yB,y0w:=wz.2.choose,w0m:=A0,x0l:=A1,y0v:=A2,c_echelon:=c_echelon,P_echelon:=P_echelon,c_free_ahead:=c_free_ahead,P_free_ahead:=P_free_ahead,c_alike:=c_alike,P_alike:=P_alike },
  { u0t:=SK X G f0,v0l:=JH X G f1,u0y:=JH X G f2,u0k:=SK X G f3,p0i:=⟨S f4,c0b (S f4),⟨n4,i4,(S f4).kp⟩⟩,q0p:=⟨S f5,c0b (S f5),⟨n5,i5,(S f5).kp⟩⟩,q0i:=⟨S f6,o0f (S f6),⟨n6,i6,(S f6).kp⟩⟩,p0u:=⟨S f7,o0f (S f7),⟨n7,i7,(S f7).kp⟩⟩,o0s:=⟨S f8,Yq (S f8),⟨n8,i8,(S f8).kp⟩⟩,p0f:=⟨S f9,Yq (S f9),⟨n9,i9,(S f9).kp⟩⟩,p0w:=⟨S qm,c0b (S qm),⟨n10,i10,(S qm).kp⟩⟩,q0r:=⟨S ql,c0b (S ql),⟨n11,i11,(S ql).kp⟩⟩,q0l:=⟨S qk,o0f (S qk),⟨n0e,i12,(S qk).kp⟩⟩,q0f:=⟨S qj,o0f (S qj),⟨n13,i13,(S qj).kp⟩⟩,o0v:=⟨S qi,Yq (S qi),⟨n14,i14,(S qi).kp⟩⟩,p0z:=⟨S qh,c0b (S qh),⟨n15,i15,(S qh).kp⟩⟩,p0v:=⟨S qg,Yq (S qg),⟨n16,i16,(S qg).kp⟩⟩,o0z:=⟨S qf,Yq (S qf),⟨n17,i17,(S qf).kp⟩⟩,q0h:=⟨S qe,Yq (S qe),⟨n18,i18,(S qe).kp⟩⟩,p0h:=⟨S qd,Yq (S qd),⟨n19,i19,(S qd).kp⟩⟩,s0o:=FE X G yb,v0m:=JH X G ya,s0w:=JH X G xZ,s0a:=SK X G xY,y0r:=FE X G xX,x0a:=FE X G xW,s0m:=FE X G xV,t0t:=FE X G xU,u0v:=SK X G xT,x0r:=SK X G xS,p0b:=JH X G xQ,w0y:=c0a X G xP,r0r:=FE X G xO,s0e:=SK X G xN,w0a:=FE X G xM,t0x:=FE X G xK,w0n:=FE X G xJ,y0l:=c0a X G xI,s0i:=FE X G xH,t0s:=SK X G xG,v0v:=JH X G uy,r0v:=FE X G xF,o0w:=FE X G xD,r0w:=JH X G ux,t0e:=JH X G xC,u0e:=FE X G xB,v0s:=JH X G xA,r0x:=JH X G xy,y0i:=JH X G xx,y0n:=FE X G xw,v0y:=FE X G xr,p0c:=FE X G xq,v0g:=FE X G xo,y0b:=FE X G uw,w0p:=FE X G xn,u0g:=JH X G xm,s0l:=SK X G xk,r0d:=JH X G xh,w0g:=JH X G xg,t0v:=FE X G xf,t0d:=FE X G qc,t0c:=JH X G xc,x0j:=JH X G xa,v0d:=SK X G wZ,u0o:=SK X G wY,r0o:=JH X G wX,q0z:=c0a X G wW,s0s:=dx5 X G wV,r0i:=FE X G wU,u0b:=c0a X G wR,r0g:=c0a X G wQ,t0u:=SK X G wO,r0l:=JH X G wN,t0p:=JH X G wM,t0h:=JH X G wL,w0e:=FE X G wK,u0s:=FE X G wJ,s0u:=FE X G wI,s0d:=FE X G wH,p0y:=JH X G wG,r0e:=SK X G wF,x0m:=FE X G wD,r0q:=FE X G wC,s0v:=dx5 X G wB,s0f:=c0a X G wA,y0t:=SK X G wz,s0r:=⟨pg0,lr,po0,sa0⟩,s0j:=M N0,s0g:=⟨mk0,in0,kp0⟩,u0n:=⟨pg1,hd1,po1,sa1⟩,v0e:=M N1,u0z:=⟨mk1,n9,i9,kp1⟩,x0v:=⟨pg2,ll,po2,sa2⟩,x0y:=M N2,x0u:=⟨mk2,in2,kp2⟩,z_isinstance:=a1d z_isinstance,z_int:=a1d z_int,z_bool:=a1d z_bool,z_abs:=a1d z_abs,z_tuple:=a1d z_tuple,z_len:=a1d z_len,c_GREATEST_PRIME:=⟨_,M c_GREATEST_PRIME⟩,z_range:=a1d z_range,z_zip:=a1d z_zip,z_reversed:=a1d z_reversed,z_sorted:=a1d z_sorted,z_list:=a1d z_list,z_max:=a1d z_max,z_all:=a1d z_all,k_ii:=k_ii,k_ib:=k_ib,k_tt:=k_tt,k_bb:=k_bb,nP:=nP,iF_is_field:=iF_is_field,iR_is_field:=iR_is_field,k_ll:=k_ll,d_tabs:=d_tabs,k_ss:=k_ss,tb_echelon:=tb_echelon,t0r:=uy.1,tb_free_ahead:=tb_free_ahead,r0k:=ux.1,tb_alike:=tb_alike,w0t:=uw.1 }⟩
end K53
open PySem PySem.W PyProof.Rows
set_option maxRecDepth 100000 in
set_option maxHeartbeats 0 in
theorem PySem.Challenge.cw_weighwalk_k53_turned_into_one_another_holds : PySem.Challenge.rw_weighwalk_k53_turned_into_one_another.Holds := by
 w_on;o_law
 refine H53.b0c (by assumption) ?hw ?hc
 (case hw=>w_witness2)
 unfold H53.Ij
 k_fill
 refine L2.Td (l:=PySem.Challenge.rw_weighwalk_k53_turned_into_one_another) (n:=63) (k:=62) (x:="_law_script") (CX:=L2.E7) (sp:=K53.TK) ["echelon","free_ahead","alike"] rfl bD rfl ⟨U,bD,bD⟩ dK (λw h a1c=>PySem.W.kIn_of a1c) ?NT ?RC ?F ?S ?C
 case NT=>exact λw=>by kernel_rfl
 case RC=>
  intro y hy;rcases aD.mp hy with rfl | hy
  . kernel_rfl
  rcases aD.mp hy with rfl | hy
  . kernel_rfl
  cases ax.mp hy;kernel_rfl
 case F=>
  intro w mg fa h KX G nQ;have T:∃t,K53.Txt (L2.KOf KX) mg t:=by
   dsimp only[L2.KOf];refine' K53.YC KX G (c_echelon:=218) (P_echelon:=214) (c_free_ahead:=237) (P_free_ahead:=233) (c_alike:=291) (P_alike:=289) ?_ ?_ ?_ ?_ ?_ ?_ ?_ ?_ ?_ ?_ ?_ ?_ ?_ ?_ ?_ ?_ ?_ ?_ ?_ ?_ ?_ ?_ ?_ (K53.dx ?_ (H53.Ny _) ?_ ?_) (K53.dx ?_ (H53.PD _) ?_ ?_) (K53.dx ?_ (H53.NA _) ?_ ?_) (K53.dx ?_ (H53.Nz _) ?_ ?_) ?_ ?_ (K53.fx (H53.Dw _) ?_ ?_) ?_ ?_ (K53.fx (H53.Gi _) ?_ ?_) ?_ ?_ (K53.fx (H53.Fj _) ?_ ?_) ?_ ?_ (K53.fx (H53.Em _) ?_ ?_) ?_ ?_ (K53.fx (H53.By _) ?_ ?_) ?_ ?_ (K53.fx (H53.CL _) ?_ ?_) ?_ ?_ (K53.fx (H53.El _) ?_ ?_) ?_ ?_ (K53.fx (H53.GS _) ?_ ?_) ?_ ?_ (K53.fx (H53.Gh _) ?_ ?_) ?_ ?_ (K53.fx (H53.Fh _) ?_ ?_) ?_ ?_ (K53.fx (H53.BQ _) ?_ ?_) ?_ ?_ (K53.fx (H53.Fk _) ?_ ?_) ?_ ?_ (K53.fx (H53.En _) ?_ ?_) ?_ ?_ (K53.fx (H53.CM _) ?_ ?_) ?_ ?_ (K53.fx (H53.Fi _) ?_ ?_) ?_ ?_ (K53.fx (H53.Dv _) ?_ ?_) (K53.dx ?_ (H53.Lv _) ?_ ?_) (K53.dx ?_ (H53.Py _) ?_ ?_) (K53.dx ?_ (H53.Lx _) ?_ ?_) (K53.dx ?_ (H53.Jr _) ?_ ?_) (K53.dx ?_ (H53.a0l _) ?_ ?_) (K53.dx ?_ (H53.Sw _) ?_ ?_) (K53.dx ?_ (H53.Ly _) ?_ ?_) (K53.dx ?_ (H53.NB _) ?_ ?_) (K53.dx ?_ (H53.Nx _) ?_ ?_) (K53.dx ?_ (H53.Vg _) ?_ ?_) (K53.dx ?_ (H53.CJ _) ?_ ?_) (K53.dx ?_ (H53.Sx _) ?_ ?_) (K53.dx ?_ (H53.Jn _) ?_ ?_) (K53.dx ?_ (H53.Jo _) ?_ ?_) (K53.dx ?_ (H53.Pz _) ?_ ?_) (K53.dx ?_ (H53.Nv _) ?_ ?_) (K53.dx ?_ (H53.PH _) ?_ ?_) (K53.dx ?_ (H53.Xq _) ?_ ?_) (K53.dx ?_ (H53.Lw _) ?_ ?_) (K53.dx ?_ (H53.Nt _) ?_ ?_) (K53.dx ?_ (H53.PB _) ?_ ?_) (K53.dx ?_ (H53.Jp _) ?_ ?_) (K53.dx ?_ (H53.BP _) ?_ ?_) (K53.dx ?_ (H53.Jq _) ?_ ?_) (K53.dx ?_ (H53.Lz _) ?_ ?_) (K53.dx ?_ (H53.Nw _) ?_ ?_) (K53.dx ?_ (H53.PF _) ?_ ?_) (K53.dx ?_ (H53.Jm _) ?_ ?_) (K53.dx ?_ (H53.Vh _) ?_ ?_) (K53.dx ?_ (H53.Xp _) ?_ ?_) (K53.dx ?_ (H53.Px _) ?_ ?_) (K53.dx ?_ (H53.CK _) ?_ ?_) (K53.dx ?_ (H53.Nu _) ?_ ?_) (K53.dx ?_ (H53.Vi _) ?_ ?_) (K53.dx ?_ (H53.Pw _) ?_ ?_) (K53.dx ?_ (H53.LG _) ?_ ?_) (K53.dx ?_ (H53.Jv _) ?_ ?_) (K53.dx ?_ (H53.GR _) ?_ ?_) (K53.dx ?_ (H53.NC _) ?_ ?_) (K53.dx ?_ (H53.LF _) ?_ ?_) (K53.dx ?_ (H53.Ju _) ?_ ?_) (K53.dx ?_ (H53.Jy _) ?_ ?_) (K53.dx ?_ (H53.PJ _) ?_ ?_) (K53.dx ?_ (H53.LB _) ?_ ?_) (K53.dx ?_ (H53.LI _) ?_ ?_) (K53.dx ?_ (H53.Ie _) ?_ ?_) (K53.dx ?_ (H53.GN _) ?_ ?_) (K53.dx ?_ (H53.Jx _) ?_ ?_) (K53.dx ?_ (H53.GM _) ?_ ?_) (K53.dx ?_ (H53.LH _) ?_ ?_) (K53.dx ?_ (H53.GQ _) ?_ ?_) (K53.dx ?_ (H53.LC _) ?_ ?_) (K53.dx ?_ (H53.GP _) ?_ ?_) (K53.dx ?_ (H53.LD _) ?_ ?_) (K53.dx ?_ (H53.Js _) ?_ ?_) (K53.dx ?_ (H53.ND _) ?_ ?_) (K53.dx ?_ (H53.LA _) ?_ ?_) (K53.dx ?_ (H53.Jz _) ?_ ?_) (K53.dx ?_ (H53.Ih _) ?_ ?_) (K53.dx ?_ (H53.Ek _) ?_ ?_) (K53.dx ?_ (H53.GO _) ?_ ?_) (K53.dx ?_ (H53.PK _) ?_ ?_) (K53.dx ?_ (H53.Ig _) ?_ ?_) (K53.dx ?_ (H53.Jt _) ?_ ?_) (K53.dx ?_ (H53.Jw _) ?_ ?_) (K53.dx ?_ (H53.a0k _) ?_ ?_) ?_ ?_ ?_ ?_ ?_ ?_ ?_ ?_ ?_ ?_ ?_ ?_ ?_ ?_ ?k_ii ?k_ib ?k_tt ?k_bb ?_ ?_ ?_ ?k_ll ?d_tabs ?k_ss ?tb_echelon ?tb_free_ahead ?tb_alike
   any_goals (show _=_;k_is)
   (case k_ii | k_ib | k_tt | k_bb | k_ll | k_ss=>kit_is)
   (case d_tabs=>decide)
   (case tb_echelon | tb_free_ahead | tb_alike=>kernel_rfl)
  obtain⟨t,T⟩:=T;have e0:=nQ.symm.trans T.y0t.m;cases e0;exact⟨_,K53.Sz T,λbase kb nb hT=>K53.ZG T ⟨hT "echelon" (by simp) _ _ T.tb_echelon,hT "free_ahead" (by simp) _ _ T.tb_free_ahead,hT "alike" (by simp) _ _ T.tb_alike⟩⟩
 case S=>exact λK H a ns hl hT hS=>⟨a,ns,U,hS,hl,hT,λ_=>rfl⟩
 case C=>exact λ_ _ _ _ z=>z
