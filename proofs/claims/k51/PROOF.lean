import PyProof.Rows.All
import Wide.All
import OpenK.AllK
import Wide.FinOn
import Lean
import PyProof.EqAt
import PyProof.EqKinds
import PyProof.TupleCall
import KE.KRevIter
import PyProof.ListRange
import PyProof.AutoSeq1
import PySem.Challenge.RW_weighwalk_k51_alike_with_a_paper
set_option Elab.async false
set_option linter.all false
set_option maxRecDepth 100000
set_option compiler.extract_closed false
set_option bootstrap.genMatcherCode false
local macro_rules | `(tactic| omega)=>`(tactic| lia)
def dK{p:Prop}(h:p:=by decide +kernel):p:=h
def oM{p:Prop}(h:p:=by omega):p:=h
theorem za{A0 A1}{p:A0->A1->Prop}{a0 a1}(h:p a0 a1):∃a0 a1,p a0 a1:=⟨a0,a1,h⟩
theorem zf{A0 A1 A2}{p:A0->A1->A2->Prop}{a0 a1 a2}(h:p a0 a1 a2):∃a0 a1 a2,p a0 a1 a2:=⟨a0,a1,a2,h⟩
theorem zg{A0 A1 A2 A3}{p:A0->A1->A2->A3->Prop}{a0 a1 a2 a3}(h:p a0 a1 a2 a3):∃a0 a1 a2 a3,p a0 a1 a2 a3:=⟨a0,a1,a2,a3,h⟩
theorem zh{A0 A1 A2 A3 A4}{p:A0->A1->A2->A3->A4->Prop}{a0 a1 a2 a3 a4}(h:p a0 a1 a2 a3 a4):∃a0 a1 a2 a3 a4,p a0 a1 a2 a3 a4:=⟨a0,a1,a2,a3,a4,h⟩
theorem zi{A0 A1 A2 A3 A4 A5 A6}{p:A0->A1->A2->A3->A4->A5->A6->Prop}{a0 a1 a2 a3 a4 a5 a6}(h:p a0 a1 a2 a3 a4 a5 a6):∃a0 a1 a2 a3 a4 a5 a6,p a0 a1 a2 a3 a4 a5 a6:=⟨a0,a1,a2,a3,a4,a5,a6,h⟩
theorem zm{A0 A1 A2}{p:A0->A1->A2->Prop}(a0 a1 a2)(h:p a0 a1 a2):∃a0 a1 a2,p a0 a1 a2:=⟨a0,a1,a2,h⟩
theorem zt{A0 A1 A2 A3}{p:A0->A1->A2->A3->Prop}(a0 a1 a2 a3)(h:p a0 a1 a2 a3):∃a0 a1 a2 a3,p a0 a1 a2 a3:=⟨a0,a1,a2,a3,h⟩
theorem zu{A0 A1 A2 A3 A4}{p:A0->A1->A2->A3->A4->Prop}(a0 a1 a2 a3 a4)(h:p a0 a1 a2 a3 a4):∃a0 a1 a2 a3 a4,p a0 a1 a2 a3 a4:=⟨a0,a1,a2,a3,a4,h⟩
theorem zw{A0 A1 A2 A3 A4 A5}{p:A0->A1->A2->A3->A4->A5->Prop}(a0 a1 a2 a3 a4 a5)(h:p a0 a1 a2 a3 a4 a5):∃a0 a1 a2 a3 a4 a5,p a0 a1 a2 a3 a4 a5:=⟨a0,a1,a2,a3,a4,a5,h⟩
theorem zy{A0 A1 A2 A3 A4 A5 A6}{p:A0->A1->A2->A3->A4->A5->A6->Prop}(a0 a1 a2 a3 a4 a5 a6)(h:p a0 a1 a2 a3 a4 a5 a6):∃a0 a1 a2 a3 a4 a5 a6,p a0 a1 a2 a3 a4 a5 a6:=⟨a0,a1,a2,a3,a4,a5,a6,h⟩
theorem zB{A0 A1 A2 A3 A4 A5 A6 A7}{p:A0->A1->A2->A3->A4->A5->A6->A7->Prop}(a0 a1 a2 a3 a4 a5 a6 a7)(h:p a0 a1 a2 a3 a4 a5 a6 a7):∃a0 a1 a2 a3 a4 a5 a6 a7,p a0 a1 a2 a3 a4 a5 a6 a7:=⟨a0,a1,a2,a3,a4,a5,a6,a7,h⟩
theorem zD{A0 A1 A2 A3 A4 A5 A6 A7 A8}{p:A0->A1->A2->A3->A4->A5->A6->A7->A8->Prop}(a0 a1 a2 a3 a4 a5 a6 a7 a8)(h:p a0 a1 a2 a3 a4 a5 a6 a7 a8):∃a0 a1 a2 a3 a4 a5 a6 a7 a8,p a0 a1 a2 a3 a4 a5 a6 a7 a8:=⟨a0,a1,a2,a3,a4,a5,a6,a7,a8,h⟩
theorem zE{A0 A1 A2 A3 A4 A5 A6 A7 A8 A9}{p:A0->A1->A2->A3->A4->A5->A6->A7->A8->A9->Prop}(a0 a1 a2 a3 a4 a5 a6 a7 a8 a9)(h:p a0 a1 a2 a3 a4 a5 a6 a7 a8 a9):∃a0 a1 a2 a3 a4 a5 a6 a7 a8 a9,p a0 a1 a2 a3 a4 a5 a6 a7 a8 a9:=⟨a0,a1,a2,a3,a4,a5,a6,a7,a8,a9,h⟩
theorem zG{A0 A1 A2 A3 A4 A5 A6 A7 A8 A9 A10}{p:A0->A1->A2->A3->A4->A5->A6->A7->A8->A9->A10->Prop}(a0 a1 a2 a3 a4 a5 a6 a7 a8 a9 a10)(h:p a0 a1 a2 a3 a4 a5 a6 a7 a8 a9 a10):∃a0 a1 a2 a3 a4 a5 a6 a7 a8 a9 a10,p a0 a1 a2 a3 a4 a5 a6 a7 a8 a9 a10:=⟨a0,a1,a2,a3,a4,a5,a6,a7,a8,a9,a10,h⟩
theorem zH{A0 A1 A2 A3 A4 A5 A6 A7 A8 A9 A10 A11}{p:A0->A1->A2->A3->A4->A5->A6->A7->A8->A9->A10->A11->Prop}(a0 a1 a2 a3 a4 a5 a6 a7 a8 a9 a10 a11)(h:p a0 a1 a2 a3 a4 a5 a6 a7 a8 a9 a10 a11):∃a0 a1 a2 a3 a4 a5 a6 a7 a8 a9 a10 a11,p a0 a1 a2 a3 a4 a5 a6 a7 a8 a9 a10 a11:=⟨a0,a1,a2,a3,a4,a5,a6,a7,a8,a9,a10,a11,h⟩
section
open PySem PySem.Spec PyProof.Rows
abbrev aa:=@PySem.W.Frag
abbrev ae:=@Nat.le_refl
abbrev af:=@List.length_map
abbrev ag:=@List.getElem?_eq_getElem
abbrev ah:=@Nat.le_trans
abbrev ak:=@Heap.get?_push_of_some
abbrev ao:=@Heap.lt_size
abbrev aq:=@List.length_append
abbrev ar:=@List.mem_cons
abbrev au:=@List.size_toArray
abbrev av:=@List.mem_singleton
abbrev aw:=@List.mem_cons_self
abbrev ax:=@List.mem_append_right
abbrev ay:=@List.getElem?_map
abbrev az:=@Nat.ne_of_lt
abbrev aA:=@Heap.get?_push_size
abbrev aB:=@PassesOwn.never
abbrev aC:=@Nat.lt_of_lt_of_le
abbrev aD:=@List.mem_cons_of_mem
abbrev aE:=@List.mem_map
abbrev aF:=@List.mem_append
abbrev aG:=@Int.mul_assoc
abbrev aH:=@List.getElem?_append_left
abbrev aI:=@Nat.lt_irrefl
abbrev aJ:=@Bool.false_ne_true
abbrev aK:=@List.getElem?_append_right
abbrev aL:=@Int.mul_pos
abbrev aM:=@List.getElem_mem
abbrev aN:=@Int.mul_comm
abbrev aO:=@Int.mul_right_comm
abbrev aP:=@List.map_cons
abbrev aQ:=@List.getElem?_eq_some_iff
abbrev aR:=@Nat.zero_le
abbrev aU:=@List.map_append
abbrev aV:=@List.mem_range
abbrev aW:=@List.mem_append_left
abbrev aX:=@Heap.size_push
abbrev aY:=@PySem.mem_of_lookup
abbrev aZ:=@List.mem_of_getElem?
abbrev ba:=@PySem.F.plainAttrs_list
abbrev bb:=@List.append_nil
abbrev bc:=@Nat.pow_add
abbrev bf:=@Int.eq_of_mul_eq_mul_right
abbrev bg:=@Nat.mul_le_mul_left
abbrev bh:=@Nat.mul_le_mul_right
abbrev bo:=@List.take_length
abbrev bq:=@List.length_cons
abbrev bu:=@Int.natAbs_mul
abbrev bw:=@List.length_eq_zero_iff
abbrev bx:=@Nat.mul_le_mul
abbrev bz:=@PySem.F.slot_list_append
abbrev bA:=@PySem.F.type_list_append
abbrev bB:=@PySem.W.kia_one
abbrev bC:=@List.length_set
abbrev bD:=@List.getD_eq_getElem?_getD
abbrev bE:=@List.getElem?_set_ne
abbrev bF:=@Nat.ne_of_gt
abbrev bH:=@Int.fmod_nonneg_of_pos
abbrev bI:=@Int.fmod_lt_of_pos
abbrev bJ:=@Nat.le_of_lt
abbrev bK:=@List.length_take
abbrev bL:=@List.length_replicate
abbrev bM:=@Nat.mul_assoc
abbrev bN:=@Int.pow_succ
abbrev bO:=@List.all_eq_true
abbrev bQ:=@Nat.succ_mul
abbrev bR:=@Nat.lt_succ_self
abbrev bS:=@List.nodup_cons
abbrev bT:=@Nat.mul_comm
abbrev bU:=@List.lookup_cons
abbrev bV:=@List.getElem_of_mem
abbrev bW:=@Nat.mul_pos
abbrev bX:=@List.mem_filterMap
abbrev bZ:=@List.getElem?_set_self
abbrev cf:=@Int.mul_one
abbrev cg:=@List.map_map
abbrev cj:=@List.length_range
abbrev ck:=@List.not_mem_nil
abbrev cn:=@PyProof.Rows.callWith_type1
abbrev cq:=@Int.neg_mul
abbrev cu:=@Int.mul_ne_zero
abbrev cy:=@Nat.le_of_dvd
abbrev cz:=@List.pairwise_map
abbrev cA:=@List.mem_singleton_self
abbrev cB:=@List.mem_iff_getElem
abbrev cD:=@PySem.W.mg_of
abbrev cE:=@List.mem_filter
abbrev cG:=@Bool.eq_iff_iff
abbrev cH:=@List.getElem?_replicate
abbrev cI:=@Heap.get?_update_other
abbrev cJ:=@Int.ne_of_gt
abbrev cK:=@Nat.pow_succ
abbrev cM:=@Int.pow_zero
abbrev cP:=@Nat.not_lt_zero
abbrev cQ:=@Nat.sub_self
abbrev cR:=@List.foldl_append
abbrev cS:=@List.take_of_length_le
abbrev cU:=@List.mem_of_mem_take
abbrev cV:=@PySem.W.callWith_K
abbrev cW:=@List.length_drop
abbrev cX:=@PyProof.Rows.slot_tuple_getitem
abbrev cY:=@PySem.list_append
abbrev cZ:=@Int.emod_eq_of_lt
abbrev da:=@Int.toNat_of_nonneg
abbrev dc:=@Nat.pow_le_pow_right
abbrev de:=@Option.getD_some
abbrev df:=@List.append_assoc
abbrev dg:=@Nat.lt_succ_of_lt
abbrev dh:=@List.dropLast_concat_getLast
abbrev di:=@List.length_dropLast
abbrev dj:=@Nat.one_le_two_pow
abbrev dk:=@Nat.le_mul_of_pos_right
abbrev dm:=@List.idxOf_lt_length_iff
abbrev dq:=@List.mem_flatMap
abbrev du:=@List.getElem?_eq_none
abbrev dw:=@Option.map_eq_some_iff
abbrev dy:=@Nat.add_sub_cancel_left
abbrev dz:=@List.replicate_succ'
abbrev dA:=@List.mem_replicate
abbrev dB:=@PySem.F.slot_tuple_add
abbrev dC:=@PySem.F.entry_tuple_add
abbrev dD:=@PySem.F.args_tuple_add_2
abbrev dE:=@Nat.dvd_of_mod_eq_zero
abbrev dF:=@Int.fmod_eq_emod_of_nonneg
abbrev dH:=@Int.fdiv_eq_ediv_of_nonneg
end
namespace L2
open PySem PySem.Spec PyProof.Rows
abbrev Jm:=Sum Int Str
def TM:Jm->Value->Bool
 | .inl k,v=>Value.isInt k v
 | .inr x,v=>Value.isStrOf x v
def keyH(w:World):Jm->Int
 | .inl k=>hashInt k
 | .inr x=>hashStr w x
def J1:∀{k:Jm} {v:Value},TM k v=true->(∃i t,k=Sum.inl i/\v=Value.int i t)\/(∃x t,k=Sum.inr x/\v=Value.str x t)
 | .inl i,v,h=>by
  obtain⟨t,e⟩:=Value.isInt_shape (k:=i) (v:=v) h;exact .inl ⟨i,t,rfl,e⟩
 | .inr x,v,h=>by
  obtain⟨t,e⟩:=Value.isStrOf_shape (x:=x) (v:=v) h;exact .inr ⟨x,t,rfl,e⟩
def VQ(a b:Int):decide ((Sum.inl a:Jm)=Sum.inl b)=(a == b):=by
 by_cases e:a=b
 . subst e;simp
 . have h:¬(Sum.inl a:Jm)=Sum.inl b:=λq=>e (Sum.inl.inj q);rw[decide_eq_false h];exact(beq_eq_false_iff_ne.mpr e).symm
def VN(a b:Str):decide ((Sum.inr a:Jm)=Sum.inr b)=decide (a=b):=by
 by_cases e:a=b
 . subst e;simp
 . have h:¬(Sum.inr a:Jm)=Sum.inr b:=λq=>e (Sum.inr.inj q);rw[decide_eq_false h,decide_eq_false e]
def VP(a:Int)(b:Str):decide ((Sum.inl a:Jm)=Sum.inr b)=false:=decide_eq_false (λq=>nomatch q)
def VO(a:Str)(b:Int):decide ((Sum.inr a:Jm)=Sum.inl b)=false:=decide_eq_false (λq=>nomatch q)
def IC(prog:Program)(w:World):PySem.KeyKind prog w Jm where
 is:=TM
 hash:=keyH w
 inj:=λv a b ha hb=>by
  rcases J1 ha with ⟨i,t,rfl,rfl⟩ | ⟨x,t,rfl,rfl⟩
  . rcases J1 hb with ⟨j,u,rfl,e⟩ | ⟨y,u,rfl,e⟩
    . injection e with e1 _;rw[e1]
    . exact nomatch e
  . rcases J1 hb with ⟨j,u,rfl,e⟩ | ⟨y,u,rfl,e⟩
    . exact nomatch e
    . injection e with e1 _;rw[e1]
 byValue:=λk v h=>by
  rcases J1 h with ⟨i,t,rfl,rfl⟩ | ⟨x,t,rfl,rfl⟩ <;>rfl
 pyHash:=λhv h=>by
  rcases J1 hv with ⟨i,t,rfl,rfl⟩ | ⟨x,t,rfl,rfl⟩
  . exact wpAny_pyHash_int h
  . exact wpAny_pyHash_str h
 eqBool:=λhu hv h=>by
  rcases J1 hu with ⟨i,t,rfl,rfl⟩ | ⟨x,t,rfl,rfl⟩
  . rcases J1 hv with ⟨j,u,rfl,rfl⟩ | ⟨y,u,rfl,rfl⟩
    . rw[VQ]at h;exact wpAny_eqBool_int h
    . rw[VP]at h;exact SeqAt.EqAt.int_str i t y u _ _ _ _ h
  . rcases J1 hv with ⟨j,u,rfl,rfl⟩ | ⟨y,u,rfl,rfl⟩
    . rw[VO]at h;exact SeqAt.EqAt.str_int x t j u _ _ _ _ h
    . rw[VN]at h;exact wpAny_eqBool_str h
 «strs»:=λk x t v h=>by
  rcases J1 h with ⟨i,u,rfl,e⟩ | ⟨y,u,rfl,e⟩
  . exact nomatch e
  . injection e with e1 _;subst e1;cases v <;>rfl
inductive V where
 | non | bl (b:Bool) | int (i:Int) | str (x:Str) | byt (b:Array UInt8) | flt (b:UInt64) | ref (a:Addr) | ty (n:String)
 deriving DecidableEq
def D5:V->Value->Prop
 | .non,u=>u=Value.none
 | .bl b,u=>u=Value.bool b
 | .int i,u=>∃t,u=Value.int i t
 | .str x,u=>∃t,u=Value.str x t
 | .byt b,u=>∃t,u=Value.bytes b t
 | .flt b,u=>∃t,u=Value.float b t
 | .ref a,u=>u=Value.ref a
 | .ty n,u=>u=Value.type n
abbrev z8:List V->List Value->Prop:=Paired D5
theorem z8.length{xs:List V}{us:List Value}(r:z8 xs us):xs.length=us.length:=Paired.length r
theorem z8.get:∀{xs:List V} {us:List Value} {i:Nat} {x:V},z8 xs us->xs[i]? = some x->∃u,us[i]? = some u/\D5 x u
 | _,_,_,_,.nil,e=>by simp at e
 | _,_,0,_,.cons r _,e=>by simp at e;subst e;exact⟨_,rfl,r⟩
 | _,_,i+1,x,.cons _ t,e=>by
  obtain⟨u,h1,h2⟩:=z8.get (i:=i) (x:=x) t (by simpa using e);exact⟨u,by simpa using h1,h2⟩
theorem z8.set{x:V}{u:Value}(r:D5 x u):∀{xs:List V} {us:List Value} (i:Nat),z8 xs us->z8 (xs.set i x) (us.set i u)
 | _,_,_,.nil=>.nil
 | _,_,0,.cons _ t=>.cons r t
 | _,_,i+1,.cons q t=>.cons q (z8.set r i t)
theorem z8.append:∀{xs ys:List V} {us ws:List Value},z8 xs us->z8 ys ws->z8 (xs++ys) (us++ws)
 | _,_,_,_,.nil,s=>s
 | _,_,_,_,.cons r t,s=>.cons r (z8.append t s)
theorem z8.take:∀{xs:List V} {us:List Value} (n:Nat),z8 xs us->z8 (xs.take n) (us.take n)
 | _,_,0,_=>.nil
 | _,_,_+1,.nil=>.nil
 | _,_,n+1,.cons r t=>.cons r (z8.take n t)
theorem z8.drop:∀{xs:List V} {us:List Value} (n:Nat),z8 xs us->z8 (xs.drop n) (us.drop n)
 | _,_,0,r=>r
 | _,_,_+1,.nil=>.nil
 | _,_,n+1,.cons _ t=>z8.drop n t
def Hj:Option V->Option Value->Prop
 | some v,some u=>D5 v u
 | none,none=>True
 | _,_=>False
def KV{κ:Type}:List (κ × V)->List (κ × Value)->Prop:=Paired λ(p:κ × V) (q:κ × Value)=>p.1=q.1/\D5 p.2 q.2
def kV:Jm->V
 | .inl i=>.int i
 | .inr x=>.str x
inductive HO where
 | lst (xs:List V)
 | tup (xs:List V)
 | dK (kvs:List (Jm × V)) | dT (kvs:List (List Jm × V))
 | set (S:Int->Bool) (n:Nat)
 | ins (C dx:Addr) (fs:List (Str × V))
 | own (x:Addr)
 | xd (fs:List (Str × V))
 | met (f x:Addr)
 | rng (lo hi:Int)
 | frz (o:Obj) (u:HO)
 | tbl (ps:Array Value)
 | ext (φ:Heap->Prop)
abbrev Hp:=Addr->Option HO
def upd(H:Hp)(a:Addr)(o:HO):Hp:=λb=>if b=a then some o else H b
def c4{H:Hp}{a:Addr}{o:HO}:upd H a o a=some o:=by unfold upd;rw[if_pos rfl]
def o4{H:Hp}{a b:Addr}{o:HO}(h:b≠a):upd H a o b=H b:=by unfold upd;rw[if_neg h]
def Y5{H:Hp}{a b:Addr}{o u:HO}(h:H a=some o)(h':H b=some u)(d:o≠u):a≠b:=by
 intro e;subst e;rw[h]at h';exact d (Option.some.inj h')
def l7{H:Hp}{a b:Addr}{o:HO}(h:H a=some o)(h':H b=none):a≠b:=by
 intro e;subst e;rw[h]at h';cases h'
section
variable(P:Program)(w:World)
def L6(H:Hp)(h:Heap)(a:Addr):HO->Prop
 | .lst xs=>xs.length<=sizeLine/\∃(its:List Value) (n:Nat),z8 xs its/\h.get? a=some { cls:=.type "list",data:=.seq its.toArray n }
 | .tup xs=>xs.length<=sizeLine/\∃its:List Value,z8 xs its/\IsTup h a its.toArray/\((∀i y,xs≠[.int i,y])->∃o,h.get? a=some o/\o.dict=none)
 | .dK kvs=>kvs.length<=sizeLine/\(a == sysModules)=false/\∃vs,KV kvs vs/\h.DictOf (IC P w) a vs
 | .dT kvs=>kvs.length<=sizeLine/\(a == sysModules)=false/\∃xs:List (List Jm × Addr × Value),
     Paired (λ(p:List Jm × V) (q:List Jm × Addr × Value)=>p.1=q.1/\H q.2.1=some (.tup (p.1.map kV))/\D5 p.2 q.2.2) kvs xs/\
     ∃o es ep,h.get? a=some o/\o.ExactDict/\o.data=.dict es ep/\es.toList=xs.map (entryOfKey (tupleKind (IC P w)))/\(xs.map (·.1)).Nodup
 | .set S n=>h.SetOf (intKind P w) a S n
 | .ins C dx fs=>H dx=some (.own a)/\fs.length<=1000/\dx≠a/\h.get? a=some (PySem.W.instObj C dx)/\
     ∃mA,h.Ns1 dx mA/\(∀f,Hj (fs.lookup f) (mA f))/\PySem.Within mA (fs.map (·.1))
 | .own _=>∃o,h.get? a=some o
 | .xd fs=>∃mA,h.Ns1 a mA/\∀f,Hj (fs.lookup f) (mA f)
 | .rng lo hi=>∃t u v,h.get? a=some { cls:=.type "range",data:=.fields #[.int lo t,.int hi u,.int 1 v] }
 | .frz o u=>h.get? a=some o/\L6 H h a u
 | .tbl ps=>h.get? a=some { cls:=.none,data:=.fields ps }
 | .met f x=>h.get? a=some (PySem.W.methodObj (.ref f) (.ref x))
 | .ext φ=>φ h/\(∃o,h.get? a=some o)/\∀h1 h2:Heap,φ h1->(∀o,h1.get? a=some o->h2.get? a=some o)->φ h2
def Ac(H:Hp)(h:Heap):Prop:=∀a o,H a=some o->L6 P w H h a o
end
section
variable{P:Program}{w:World}{H H':Hp}{h h':Heap}{a:Addr}{o:HO}
theorem L6.lt(x:L6 P w H h a o):a < h.objs.size:=by
 cases o with
 | lst xs=>obtain⟨_,_,_,_,e⟩:=x;exact ao e
 | tup xs=>obtain⟨_,_,_,p,_⟩:=x;exact p.lt
 | dK kvs=>obtain⟨_,_,_,_,o,_,_,e,_⟩:=x;exact ao e
 | dT kvs=>obtain⟨_,_,_,_,o,_,_,e,_⟩:=x;exact ao e
 | set S n=>obtain⟨o,_,_,_,e,_⟩:=x;exact ao e
 | ins C dx fs=>obtain⟨_,_,_,e,_⟩:=x;exact ao e
 | own y=>obtain⟨_,e⟩:=x;exact ao e
 | xd fs=>obtain⟨_,⟨_,_,_,e,_⟩,_⟩:=x;exact ao e
 | rng lo hi=>obtain⟨_,_,_,e⟩:=x;exact ao e
 | frz ob u=>obtain⟨e,_⟩:=x;exact ao e
 | tbl ps=>exact ao (show h.get? a=some _ from x)
 | met f y=>exact ao (show h.get? a=some _ from x)
 | ext φ=>obtain⟨_,⟨_,e⟩,_⟩:=x;exact ao e
theorem Paired.mapP{α β:Type}{F G:α->β->Prop}:∀{l₁:List α} {l₂:List β},Paired F l₁ l₂->(∀a b,F a b->G a b)->Paired G l₁ l₂
 | _,_,.nil,_=>.nil
 | _,_,.cons r t,f=>.cons (f _ _ r) (Paired.mapP t f)
def L6.stay(x:L6 P w H h a o)(k:∀b u,(b=a\/H b=some (.own a))->h.get? b=some u->h'.get? b=some u)
    (ho:∀b,H b=some (.own a)->H' b=some (.own a)) (ht:∀b xs,H b=some (.tup xs)->H' b=some (.tup xs)):L6 P w H' h' a o:=by
 induction o with
 | lst xs=>obtain⟨z,its,n,r,e⟩:=x;exact⟨z,its,n,r,k _ _ (.inl rfl) e⟩
 | tup xs=>obtain⟨z,its,r,⟨ob,e,c⟩,d⟩:=x;exact⟨z,its,r,⟨ob,k _ _ (.inl rfl) e,c⟩,λnx=>let⟨o,e2,d2⟩:=d nx;⟨o,k _ _ (.inl rfl) e2,d2⟩⟩
 | dK kvs=>obtain⟨z,y,vs,r,ob,es,ep,e,c⟩:=x;exact⟨z,y,vs,r,ob,es,ep,k _ _ (.inl rfl) e,c⟩
 | dT kvs=>
  obtain⟨z,y,xs,r,ob,es,ep,e,c⟩:=x;exact⟨z,y,xs,Paired.mapP r λp q z=>⟨z.1,ht _ _ z.2.1,z.2.2⟩,ob,es,ep,k _ _ (.inl rfl) e,c⟩
 | set S n=>obtain⟨ob,es,ep,t,e,c⟩:=x;exact⟨ob,es,ep,t,k _ _ (.inl rfl) e,c⟩
 | ins C dx fs=>
  obtain⟨d,z,ne,e,mA,⟨od,es,ep,e2,c⟩,r⟩:=x;exact⟨ho _ d,z,ne,k _ _ (.inl rfl) e,mA,⟨od,es,ep,k _ _ (.inr d) e2,c⟩,r⟩
 | own y=>obtain⟨ob,e⟩:=x;exact⟨ob,k _ _ (.inl rfl) e⟩
 | xd fs=>obtain⟨mA,⟨od,es,ep,e,c⟩,r⟩:=x;exact⟨mA,⟨od,es,ep,k _ _ (.inl rfl) e,c⟩,r⟩
 | rng lo hi=>obtain⟨t,u,v,e⟩:=x;exact⟨t,u,v,k _ _ (.inl rfl) e⟩
 | frz ob u ih=>obtain⟨e,q⟩:=x;exact⟨k _ _ (.inl rfl) e,ih q⟩
 | tbl ps=>
  have e:h.get? a=some { cls:=.none,data:=.fields ps }:=x;show h'.get? a=some { cls:=.none,data:=.fields ps };exact k a _ (.inl rfl) e
 | met f y=>
  have e:h.get? a=some (PySem.W.methodObj (.ref f) (.ref y)):=x;show h'.get? a=some (PySem.W.methodObj (.ref f) (.ref y));exact k a _ (.inl rfl) e
 | ext φ=>obtain⟨p,⟨o,e⟩,st⟩:=x;exact⟨st _ _ p λo q=>k _ _ (.inl rfl) q,⟨o,k _ _ (.inl rfl) e⟩,st⟩
theorem Ac.lt(x:Ac P w H h)(e:H a=some o):a < h.objs.size:=(x a o e).lt
def Ac.fresh(x:Ac P w H h)(e:h.objs.size<=a):H a=none:=by
 cases q:H a with
 | none=>rfl
 | some u=>exact absurd (aC (x.lt q) e) (aI _)
def Ac.kept(x:Ac P w H h)(k:∀b u,h.get? b=some u->h'.get? b=some u):Ac P w H h':=λa o e=>
 (x a o e).stay (λb u _ q=>k b u q) (λ_ q=>q) λ_ _ q=>q
def Ac.laid(x:Ac P w H h)(k:∀b u,h.get? b=some u->h'.get? b=some u)(hp:h.objs.size<=a)(new:L6 P w (upd H a o) h' a o):Ac P w (upd H a o) h':=λb u e=>by
 have hn:=x.fresh hp;by_cases hb:b=a
 . subst hb;rw[c4]at e;cases e;exact new
 . rw[o4 hb]at e;exact(x b u e).stay (λc v _ q=>k c v q) (λc q=>by rw[o4 (l7 q hn)];exact q) λc xs q=>by rw[o4 (l7 q hn)];exact q
end
def Rd(H:Hp)(a:Addr)(u:HO):Prop:=H a=some u\/∃o,H a=some (.frz o u)
def Rd.of{H:Hp}{a:Addr}{u:HO}(h:H a=some u):Rd H a u:=.inl h
def Rd.ok{P:Program}{w:World}{H:Hp}{h:Heap}{a:Addr}{u:HO}(r:Rd H a u)(x:Ac P w H h):L6 P w H h a u:=by
 rcases r with r | ⟨o,r⟩
 . exact x a u r
 . obtain⟨_,q⟩:=x a _ r;exact q
def Mut:Option HO->Prop
 | some (.lst _)=>True
 | some (.dK _)=>True
 | some (.dT _)=>True
 | some (.set _ _)=>True
 | some (.ins _ _ _)=>True
 | some (.ext _)=>True
 | _=>False
section
variable{P:Program}{w:World}{H:Hp}{h h':Heap}{x e:Addr}{o':HO}
def Ac.write(ok:Ac P w H h)(mu:Mut (H x))(he:e=x\/H e=some (.own x))(k:∀b u,b≠e->h.get? b=some u->h'.get? b=some u)(heo:∃u,h'.get? e=some u)
    (new:L6 P w (upd H x o') h' x o'):Ac P w (upd H x o') h':=λb u q=>by
 have nown:∀c y,H c=some (.own y)->c≠x:=λc y r z=>by subst z;rw[r]at mu;exact mu
 have ntup:∀c xs,H c=some (.tup xs)->c≠x:=λc xs r z=>by subst z;rw[r]at mu;exact mu
 by_cases hb:b=x
 . subst hb;rw[c4]at q;cases q;exact new
 . rw[o4 hb]at q;by_cases hbe:b=e
   . have q':H b=some (.own x):=by
      rcases he with z | z
      . exact absurd (hbe.trans z) hb
      . rw[hbe];exact z
     rw[q]at q';cases q';obtain⟨v,hv⟩:=heo;exact⟨v,by rw[hbe];exact hv⟩
   . refine(ok b u q).stay (λc v hc r=>k c v ?_ r) (λc r=>by rw[o4 (nown c b r)];exact r) λc xs r=>by rw[o4 (ntup c xs r)];exact r
     rcases hc with rfl | hc
     . exact hbe
     . rintro rfl;rcases he with z | z
       . exact nown c b hc z
       . rw[hc]at z;cases z;exact hb rfl
end
structure Un(fs ex:List Addr)(H H':Hp)(h h':Heap):Prop where
 keep:∀b o,h.get? b=some o->H b=none->b ∉ fs->b ∉ ex->h'.get? b=some o
 slot:∀b o,h.get? b=some o->H b=none->b∈fs->b ∉ ex->∃sl,h'.get? b=some { o with slots:=sl }
 free:∀b o,h.get? b=some o->H b=none->b ∉ ex->H' b=none
 there:∀b o,h.get? b=some o->b ∉ ex->∃o',h'.get? b=some o'
 tups:∀b xs,H b=some (.tup xs)->H' b=some (.tup xs)
 frzs:∀b o u,H b=some (.frz o u)->H' b=some (.frz o u)
 tbls:∀b ps,H b=some (.tbl ps)->∃more,H' b=some (.tbl (ps++more))
section
variable{fs fs' ex ex':List Addr}{H H1 H2:Hp}{h h1 h2 h':Heap}{a x e:Addr}{o:HO}
def Un.any(u:Un fs ex H H1 h h1){b:Addr}{ob:Obj}(q:h.get? b=some ob)(n:H b=none)(hx:b ∉ ex):∃sl,h1.get? b=some { ob with slots:=sl }:=by
 by_cases hb:b∈fs
 . exact u.slot b ob q n hb hx
 . exact⟨ob.slots,u.keep b ob q n hb hx⟩
def Un.trans(a:Un fs ex H H1 h h1)(b:Un fs ex H1 H2 h1 h2):Un fs ex H H2 h h2 where
 keep:=λc ob q n hc hx=>b.keep c ob (a.keep c ob q n hc hx) (a.free c ob q n hx) hc hx
 slot:=λc ob q n hc hx=>by
  obtain⟨sl,e1⟩:=a.slot c ob q n hc hx;obtain⟨sl',e2⟩:=b.slot c _ e1 (a.free c ob q n hx) hc hx;exact⟨sl',e2⟩
 free:=λc ob q n hx=>by
  obtain⟨o',e1⟩:=a.there c ob q hx;exact b.free c o' e1 (a.free c ob q n hx) hx
 there:=λc ob q hx=>by
  obtain⟨o',e1⟩:=a.there c ob q hx;exact b.there c o' e1 hx
 tups:=λc xs q=>b.tups c xs (a.tups c xs q)
 frzs:=λc ob xs q=>b.frzs c ob xs (a.frzs c ob xs q)
 tbls:=λc ps q=>by
  obtain⟨m1,e1⟩:=a.tbls c ps q;obtain⟨m2,e2⟩:=b.tbls c _ e1;exact⟨m1++m2,by rw[e2,Array.append_assoc]⟩
def Un.kept(k:∀b u,h.get? b=some u->h'.get? b=some u):Un fs ex H H h h':=
 ⟨λb ob q _ _ _=>k b ob q,λb ob q _ _ _=>⟨ob.slots,k b ob q⟩,λ_ _ _ n _=>n,λb ob q _=>⟨ob,k b ob q⟩,λ_ _ q=>q,λ_ _ _ q=>q,λ_ ps q=>⟨#[],by rw[q];simp⟩⟩
def Un.refl:Un fs ex H H h h:=Un.kept λ_ _ q=>q
def Un.laid(k:∀b u,h.get? b=some u->h'.get? b=some u)(hp:h.objs.size<=a)(hn:H a=none):Un fs ex H (upd H a o) h h' where
 keep:=λb u q _ _ _=>k b u q
 slot:=λb u q _ _ _=>⟨u.slots,k b u q⟩
 free:=λb u q n _=>by rw[o4 (az (aC (ao q) hp))];exact n
 there:=λb u q _=>⟨u,k b u q⟩
 tups:=λb xs q=>by rw[o4 (l7 q hn)];exact q
 frzs:=λb u xs q=>by rw[o4 (l7 q hn)];exact q
 tbls:=λb ps q=>⟨#[],by rw[o4 (l7 q hn),q];simp⟩
def Un.write(mu:Mut (H x))(he:e=x\/H e=some (.own x))(k:∀b u,b≠e->h.get? b=some u->h'.get? b=some u)(heo:∃u,h'.get? e=some u):Un fs ex H (upd H x o) h h':=by
 have hx:∀b,H b=none->b≠x:=λb n z=>by subst z;rw[n]at mu;exact mu
 have hb:∀b,H b=none->b≠e:=λb n z=>by
  subst z;rcases he with r | r
  . exact hx b n r
  . rw[n]at r;cases r
 have hm:∀b u,H b=some u->¬Mut (some u)->b≠x:=λb u q nm z=>by subst z;rw[q]at mu;exact nm mu
 refine⟨λb u q n _ _=>k b u (hb b n) q,λb u q n _ _=>⟨u.slots,k b u (hb b n) q⟩,λb u q n _=>by rw[o4 (hx b n)];exact n,λb u q _=>?_,
  λb xs q=>by rw[o4 (hm b _ q λz=>z)];exact q,λb u xs q=>by rw[o4 (hm b _ q λz=>z)];exact q,λb ps q=>⟨#[],by rw[o4 (hm b _ q λz=>z),q];simp⟩⟩
 by_cases hbe:b=e
 . subst hbe;exact heo
 . exact⟨u,k b u hbe q⟩
def Un.mono(u:Un fs ex H H1 h h1)(hs:∀b∈fs,b∈fs')(hx:∀b∈ex,b∈ex'):Un fs' ex' H H1 h h1:=
 ⟨λb ob q n hb he=>u.keep b ob q n (λz=>hb (hs b z)) λz=>he (hx b z),λ_ _ q n _ he=>u.any q n λz=>he (hx _ z),λb ob q n he=>u.free b ob q n λz=>he (hx b z),λb ob q he=>u.there b ob q λz=>he (hx b z),u.tups,u.frzs,u.tbls⟩
end
def Up(h:Heap)(H:Hp):List Addr:=(List.range h.objs.size).filter λa=>(H a).isSome
def Hg(h:Heap)(H:Hp):Heap:=PySem.W.hideAll h (Up h H)
def OB(h:Heap)(H:Hp):(Hg h H).objs.size=h.objs.size:=PySem.W.hideAll_size _ _
def QI{h:Heap}{H:Hp}{b:Addr}{o:Obj}(e:h.get? b=some o)(n:H b=none):(Hg h H).get? b=some o:=
 PySem.W.hideAll_get _ e λhm=>by
  have q:(H b).isSome=true:=(cE.mp hm).2;rw[n]at q;simp at q
def Ss{h:Heap}{H:Hp}{b:Addr}{o:Obj}(e:(Hg h H).get? b=some o):h.get? b=some o/\H b=none:=by
 have e':h.get? b=some o:=PySem.W.of_hideAll (Up h H) e;refine⟨e',?_⟩;cases q:H b with
 | none=>rfl
 | some x=>
  have hm:b∈Up h H:=cE.mpr ⟨aV.mpr (ao e'),by simp[q]⟩;have z:(Hg h H).get? b=none:=PySem.W.hideAll_none (Up h H) hm;rw[z]at e;cases e
def BU(g h:Heap)(L:Addr):List (Addr × Obj):=(List.range h.objs.size).filterMap λa=>if a=L\/(g.get? a).isSome=true then none else(h.get? a).map λo=>(a,o)
def Ey{g h:Heap}{L a:Addr}{o:Obj}(h1:a≠L)(h2:g.get? a=none)(h3:h.get? a=some o):(a,o)∈BU g h L:=
 bX.mpr ⟨a,aV.mpr (ao h3),by simp[h1,h2,h3]⟩
def FK{g h:Heap}{L:Addr}{p:Addr × Obj}(hp:p∈BU g h L):p.1≠L/\g.get? p.1=none/\h.get? p.1=some p.2:=by
 obtain⟨b,_,e⟩:=bX.mp hp;split at e
 . cases e
 . rename_i hn;cases q:h.get? b with
   | none=>rw[q]at e;simp at e
   | some u=>
    rw[q]at e;simp only[Option.map_some,Option.some.injEq]at e;subst e;refine⟨λz=>hn (.inl z),?_,q⟩;show g.get? b=none;cases r:g.get? b with
    | none=>rfl
    | some v=>exact(hn (.inr (by simp[r]))).elim
def Af(g h:Heap)(L d:Addr):List (Addr × Obj):=(BU g h L).filter λp=>decide (p.1≠d)
def Qj{g h:Heap}{L:Addr}:News g L h (BU g h L):=λp hp=>let⟨a,b,c⟩:=FK hp;⟨c,a,b⟩
structure Mod(K:aa)(mg:Str->Option Value)(base:Heap):Prop where
 kin:K.In base
 glob:base.Ns mainGlobals mg
 blt:∃mb,base.Ns builtinsNs mb/\∀x:Str,x≠"__name__"->mb x=bootBuiltins x
 nolimit:base.NoLimit
 seer:base.NoSeer
set_option genInjectivity false in
set_option genSizeOfSpec false in
structure Cx where
 prog:Program
 w:World
 K:aa
 mg:Str->Option Value
 base:Heap
 A:Around
 N:List Str
 s₀:Shared
 H₀:Hp
 env:Env
 outer:List Env
 stack:List Env
 ex:List Addr
 fn:Str->Bool
 calm:Bool
 pn:List (Addr × Obj)
 xe:Value->Shared->Prop
def FY(l:List Env):List Addr:=l.filterMap (·.frame)
abbrev Cx.fs(X:Cx):List Addr:=FY X.outer
def Vis(sc:Scope)(x:Str):Prop:=sc.names.lookup x=some .local\/sc.names.lookup x=some .cell\/sc.names.lookup x=some .free
def e0q(sc:Scope)(x:Str):Prop:=sc.names.lookup x=some .local\/sc.names.lookup x=some .cell
def Look(env:Env)(h:Heap)(m:Str->Option Value)(x:Str)(u:Value):Prop:=
 (env.kindOf x=some .local/\m x=some u)\/((env.kindOf x=some .cell\/env.kindOf x=some .free)/\∃c,env.cells.lookup x=some c/\h.IsCell c (some u))
structure Cx.Ok(X:Cx):Prop where
 mod:Mod X.K X.mg X.base
 kind:X.env.scope.kind=.function
 glob:X.env.globals=mainGlobals
 blt:X.env.builtins=builtinsNs
 above:X.s₀.heap.objs.size<=X.env.locals
 inj:∀x y c,X.env.cells.lookup x=some c->X.env.cells.lookup y=some c->x=y
 has:∀x,(X.env.kindOf x=some .cell\/X.env.kindOf x=some .free)->∃c,X.env.cells.lookup x=some c
 cab:∀x c,X.fn x=true->X.env.cells.lookup x=some c->X.s₀.heap.objs.size<=c
 hd:X.calm=true->X.A.handled=none
 frames:X.A.frames=some X.stack
 stk:X.stack=X.outer\/(X.stack=X.env::X.outer/\X.env.frame=some X.env.locals)
 exf:∀b∈X.ex,b≠X.env.locals/\∀x c,X.env.cells.lookup x=some c->c≠b
 bs:∀b o,X.base.get? b=some o->X.s₀.heap.get? b=some o/\X.H₀ b=none
 bsz:X.base.objs.size<=X.s₀.heap.objs.size
 noex:∀b o,X.base.get? b=some o->b ∉ X.ex
 exfs:∀b∈X.ex,b ∉ X.fs
 funs:X.s₀.heap.FunFrames X.base X.outer
 frf:∀b∈X.fs,X.H₀ b=none
structure r9(X:Cx)(pins:List (Addr × Obj))(σ:List (Option V))(H:Hp)(s:Shared):Prop where
 ok:X.Ok
 os:s.os=X.s₀.os
 bare:AllBare s.gens
 base:Un X.fs X.ex X.H₀ H X.s₀.heap s.heap
 loc:∃m,s.heap.Ns X.env.locals m/\∀(i:Nat) (x:Str) (v:V),X.N[i]? = some x->σ[i]? = some (some v)->Vis X.env.scope x->∃u,D5 v u/\Look X.env s.heap m x u
 cell:∀x c,X.env.cells.lookup x=some c->∃v,s.heap.IsCell c v
 free:H X.env.locals=none
 freeC:∀x c,X.env.cells.lookup x=some c->H c=none
 pin:∀p∈X.pn++pins,s.heap.get? p.1=some p.2/\H p.1=none/\p.1≠X.env.locals/\p.1 ∉ X.fs/\∀v,p.2.data≠.cell v
 hok:Ac X.prog X.w H s.heap
 len:σ.length=X.N.length
section
variable{X:Cx}{pins:List (Addr × Obj)}{σ:List (Option V)}{H H':Hp}{s:Shared}{h':Heap}
def Cx.Ok.nofr(ok:X.Ok){b:Addr}{o:Obj}(e:X.base.get? b=some o):b ∉ X.fs:=λhb=>by
 have:=(ok.funs.mem hb).1;rw[e]at this;cases this
theorem r9.bs(I:r9 X pins σ H s):∀b o,X.base.get? b=some o->s.heap.get? b=some o/\H b=none:=λb o e=>
 ⟨I.base.keep b o (I.ok.bs b o e).1 (I.ok.bs b o e).2 (I.ok.nofr e) (I.ok.noex b o e),I.base.free b o (I.ok.bs b o e).1 (I.ok.bs b o e).2 (I.ok.noex b o e)⟩
def r9.bk(I:r9 X pins σ H s):∀b o,X.base.get? b=some o->s.heap.get? b=some o:=λb o e=>(I.bs b o e).1
theorem r9.mod(I:r9 X pins σ H s):Mod X.K X.mg X.base:=I.ok.mod
def r9.kIn(I:r9 X pins σ H s):X.K.In s.heap:=I.ok.mod.kin.keeps I.bk
theorem r9.nolimit(I:r9 X pins σ H s):s.heap.NoLimit:=I.ok.mod.nolimit.keeps I.bk
def r9.fr(I:r9 X pins σ H s):∃m,Fr X.base X.env.locals s.heap m:=
 let⟨m,hn,_⟩:=I.loc
 ⟨m,hn,I.bk,ah I.ok.bsz I.ok.above⟩
theorem r9.lt(I:r9 X pins σ H s):X.env.locals < s.heap.objs.size:=let⟨_,hn,_⟩:=I.loc;hn.lt
def r9.sz(I:r9 X pins σ H s):X.s₀.heap.objs.size<=s.heap.objs.size:=ah I.ok.above (bJ I.lt)
def r9.nofs(I:r9 X pins σ H s){a:Addr}(h:s.heap.objs.size<=a):a ∉ X.fs:=λhb=>by
 obtain⟨_,o,ho,_⟩:=I.ok.funs.mem hb;exact absurd (aC (ao ho) (ah I.sz h)) (aI _)
def r9.cne(I:r9 X pins σ H s):∀x c,X.env.cells.lookup x=some c->c≠X.env.locals:=λx c e z=>by
 obtain⟨v,o,ho,hd⟩:=I.cell x c e;obtain⟨m,⟨o',es,ep,ho',hd',_⟩,_⟩:=I.loc;rw[z,ho']at ho;cases ho;rw[hd']at hd;cases hd
theorem r9.funs(I:r9 X pins σ H s):s.heap.FunFrames X.base X.outer:=by
 have all:∀(l:List Env),(∀b∈FY l,b∈X.fs)->X.s₀.heap.FunFrames X.base l->s.heap.FunFrames X.base l:=by
  intro l
  induction l with
  | nil=>intro _ _;trivial
  | cons env r ih=>
   intro hs hl;obtain⟨hk,⟨L,o,hf,hn,ho,hd⟩,hr⟩:=hl;have hL:L∈X.fs:=hs L (by unfold FY;rw[List.filterMap_cons,hf];exact aw);obtain⟨sl,e⟩:=I.base.slot L o ho (I.ok.frf L hL) hL λz=>I.ok.exfs L z hL;exact⟨hk,⟨L,_,hf,hn,e,hd⟩,ih (λb hb=>hs b (by unfold FY;rw[List.filterMap_cons,hf];exact aD _ hb)) hr⟩
 exact all X.outer (λ_ hb=>hb) I.ok.funs
theorem r9.stack(I:r9 X pins σ H s):s.heap.FunFrames X.base X.stack:=by
 rcases I.ok.stk with e | ⟨e,hf⟩
 . rw[e];exact I.funs
 . rw[e];obtain⟨m,hn,_⟩:=I.loc;refine .cons (by rw[I.ok.kind];decide) hf hn ?_ I.funs;exact Heap.get?_none_of_le (ah I.ok.bsz I.ok.above)
def r9.stkSub(I:r9 X pins σ H s):∀b∈FY X.stack,b∈X.env.locals::X.fs:=λb hb=>by
 rcases I.ok.stk with e | ⟨e,hf⟩
 . rw[e]at hb;exact aD _ hb
 . rw[e]at hb;unfold FY at hb;rw[List.filterMap_cons,hf]at hb;exact hb
def r9.stkFree(I:r9 X pins σ H s):∀b∈FY X.stack,H b=none:=λb hb=>by
 rcases ar.mp (I.stkSub b hb)with e | hb
 . rw[e];exact I.free
 . obtain⟨_,o,ho,_⟩:=I.ok.funs.mem hb;exact I.base.free b o ho (I.ok.frf b hb) λz=>I.ok.exfs b z hb
def r9.step{g':Array GenState}{t':Nat}{d':Drawn}{ch:List Addr}(I:r9 X pins σ H s)
    (hch:∀b∈ch,(b∈X.ex\/X.s₀.heap.objs.size<=b)/\b≠X.env.locals/\(∀x c,X.env.cells.lookup x=some c->c≠b)/\∀p∈X.pn++pins,p.1≠b)
    (keep:∀b o,b≠X.env.locals->b ∉ X.fs->b ∉ ch->s.heap.get? b=some o->H b=none->h'.get? b=some o)
    (slot:∀b o,b≠X.env.locals->b∈X.fs->b ∉ ch->s.heap.get? b=some o->H b=none->∃sl,h'.get? b=some { o with slots:=sl }) (free:∀b o,b ∉ ch->s.heap.get? b=some o->H b=none->H' b=none)
    (there:∀b o,b ∉ ch->s.heap.get? b=some o->∃o',h'.get? b=some o')
    (tups:∀b xs,H b=some (.tup xs)->H' b=some (.tup xs)) (frzs:∀b o u,H b=some (.frz o u)->H' b=some (.frz o u)) (tbls:∀b ps,H b=some (.tbl ps)->∃more,H' b=some (.tbl (ps++more)))
    (ns:∀m,s.heap.Ns X.env.locals m->h'.Ns X.env.locals m) (hok:Ac X.prog X.w H' h') (hg:AllBare g') :
    r9 X pins σ H' { s with heap:=h',gens:=g',drawn:=d',toks:=t' }:=by
 have neL:∀b o,X.s₀.heap.get? b=some o->b≠X.env.locals:=λb o e=>az (aC (ao e) I.ok.above);have neC:∀b o,X.s₀.heap.get? b=some o->b ∉ X.ex->b ∉ ch:=λb o e hx hb=>by
  rcases(hch b hb).1 with z | z
  . exact hx z
  . exact absurd (aC (ao e) z) (aI _)
 have cellK:∀x c,X.env.cells.lookup x=some c->∀v,s.heap.IsCell c v->h'.IsCell c v:=λx c e v ⟨o,ho,hd⟩=>by
  have nch:c ∉ ch:=λz=>(hch c z).2.2.1 x c e rfl;by_cases hc:c∈X.fs
  . obtain⟨sl,q⟩:=slot c o (I.cne x c e) hc nch ho (I.freeC x c e);exact⟨_,q,hd⟩
  . exact⟨o,keep c o (I.cne x c e) hc nch ho (I.freeC x c e),hd⟩
 refine⟨I.ok,I.os,hg,⟨λb o e n hb hx=>?_,λb o e n hb hx=>?_,λb o e n hx=>?_,λb o e hx=>?_,λb xs e=>tups b xs (I.base.tups b xs e),λb o xs e=>frzs b o xs (I.base.frzs b o xs e),λb ps e=>?_⟩,?_,λx c e=>?_,?_,λx c e=>?_,λp hp=>?_,hok,I.len⟩
 . exact keep b o (neL b o e) hb (neC b o e hx) (I.base.keep b o e n hb hx) (I.base.free b o e n hx)
 . obtain⟨sl,e1⟩:=I.base.slot b o e n hb hx;obtain⟨sl',e2⟩:=slot b _ (neL b o e) hb (neC b o e hx) e1 (I.base.free b o e n hx);exact⟨sl',e2⟩
 . obtain⟨o',e1⟩:=I.base.there b o e hx;exact free b o' (neC b o e hx) e1 (I.base.free b o e n hx)
 . obtain⟨o',e1⟩:=I.base.there b o e hx;exact there b o' (neC b o e hx) e1
 . obtain⟨m1,e1⟩:=I.base.tbls b ps e;obtain⟨m2,e2⟩:=tbls b _ e1;exact⟨m1++m2,by rw[e2,Array.append_assoc]⟩
 . obtain⟨m,hn,hl⟩:=I.loc;refine⟨m,ns m hn,λi x v e1 e2 e3=>?_⟩;obtain⟨u,r,l⟩:=hl i x v e1 e2 e3;refine⟨u,r,?_⟩;rcases l with l | ⟨k,c,e,z⟩
   . exact .inl l
   . exact .inr ⟨k,c,e,cellK x c e _ z⟩
 . obtain⟨v,z⟩:=I.cell x c e;exact⟨v,cellK x c e v z⟩
 . obtain⟨m,⟨o,_,_,ho,_⟩,_⟩:=I.loc;exact free _ o (λz=>(hch _ z).2.1 rfl) ho I.free
 . obtain⟨v,o,ho,hd⟩:=I.cell x c e;exact free c o (λz=>(hch c z).2.2.1 x c e rfl) ho (I.freeC x c e)
 . obtain⟨e,n,ne,nf,d⟩:=I.pin p hp;have nch:p.1 ∉ ch:=λz=>(hch p.1 z).2.2.2 p hp rfl;exact⟨keep p.1 p.2 ne nf nch e n,free p.1 p.2 nch e n,ne,nf,d⟩
def r9.un{t':Nat}(I:r9 X pins σ H s)(u:Un X.fs [] H H' s.heap h')(hok:Ac X.prog X.w H' h'):r9 X pins σ H' { s with heap:=h',toks:=t' }:=by
 obtain⟨m,⟨o,es,ep,ho,r⟩,_⟩:=id I.loc;obtain⟨sl,hL⟩:=u.any ho I.free (by simp);exact I.step (g':=s.gens) (d':=s.drawn) (ch:=[]) (λ_ z=>nomatch z) (λb o _ hb _ e n=>u.keep b o e n hb (by simp)) (λb o _ hb _ e n=>u.slot b o e n hb (by simp)) (λb o _ e n=>u.free b o e n (by simp)) (λb o _ e=>u.there b o e (by simp)) u.tups u.frzs u.tbls (λm' hm=>by
  obtain⟨o',es',ep',ho',r'⟩:=hm;rw[ho]at ho';cases ho';exact⟨_,es',ep',hL,r'⟩) hok I.bare
def r9.call{g':Array GenState}{t':Nat}{d':Drawn}{ch:List Addr}(I:r9 X pins σ H s)(u:Un (FY X.stack) ch H H' s.heap h')(hok:Ac X.prog X.w H' h')(hg:AllBare g')
    (hch:∀b∈ch,(b∈X.ex\/X.s₀.heap.objs.size<=b)/\b≠X.env.locals/\(∀x c,X.env.cells.lookup x=some c->c≠b)/\∀p∈X.pn++pins,p.1≠b) :
    r9 X pins σ H' { s with heap:=h',gens:=g',drawn:=d',toks:=t' }:=by
 obtain⟨m,⟨o,es,ep,ho,r⟩,_⟩:=id I.loc;obtain⟨sl,hL⟩:=u.any ho I.free λz=>(hch _ z).2.1 rfl;exact I.step (ch:=ch) hch (λb o hL hb hc e n=>u.keep b o e n (λz=>(ar.mp (I.stkSub b z)).elim hL hb) hc) (λb o _ _ hc e n=>u.any e n hc) (λb o hc e n=>u.free b o e n hc) (λb o hc e=>u.there b o e hc) u.tups u.frzs u.tbls (λm' hm=>by
  obtain⟨o',es',ep',ho',r'⟩:=hm;rw[ho]at ho';cases ho';exact⟨_,es',ep',hL,r'⟩) hok hg
def r9.turned{t':Nat}{it:Addr}(I:r9 X pins σ H s)(k:∀b o,b≠it->s.heap.get? b=some o->h'.get? b=some o)(hn:H it=none)(hL:it≠X.env.locals)
    (h1:it∈X.ex\/X.s₀.heap.objs.size<=it) (h2:∀x c,X.env.cells.lookup x=some c->c≠it) (h3:∀p∈X.pn++pins,p.1≠it):r9 X pins σ H { s with heap:=h',toks:=t' }:=by
 have nit:∀b u,H b=some u->b≠it:=λb u e z=>by rw[z,hn]at e;cases e
 refine I.step (g':=s.gens) (d':=s.drawn) (ch:=[it]) (λb hb=>?_) (λb o _ _ hc e _=>k b o (λz=>hc (by simp[z])) e) (λb o _ _ hc e _=>⟨o.slots,k b o (λz=>hc (by simp[z])) e⟩) (λ_ _ _ _ n=>n)
  (λb o hc e=>⟨o,k b o (λz=>hc (by simp[z])) e⟩) (λ_ _ e=>e) (λ_ _ _ e=>e) (λb ps e=>⟨#[],by rw[e];simp⟩) (λm hm=>?_) (λb u e=>?_) I.bare
 . have e:b=it:=by simpa using hb
   subst e;exact⟨h1,hL,h2,h3⟩
 . obtain⟨o,es,ep,ho,r⟩:=hm;exact⟨o,es,ep,k _ o (Ne.symm hL) ho,r⟩
 . refine(I.hok b u e).stay (λc v hc q=>k c v ?_ q) (λ_ q=>q) λ_ _ q=>q;rcases hc with z | z
   . rw[z];exact nit b u e
   . exact nit c _ z
def r9.tok(I:r9 X pins σ H s)(t:Nat):r9 X pins σ H { s with toks:=t }:=I.un (h':=s.heap) (t':=t) Un.refl I.hok
theorem r9.kept{t':Nat}(I:r9 X pins σ H s)(k:∀b u,s.heap.get? b=some u->h'.get? b=some u):r9 X pins σ H { s with heap:=h',toks:=t' }:=I.un (Un.kept k) (I.hok.kept k)
theorem r9.laid{a:Addr}{o:HO}{t':Nat}(I:r9 X pins σ H s)(k:∀b u,s.heap.get? b=some u->h'.get? b=some u)(hp:s.heap.objs.size<=a)(new:L6 X.prog X.w (upd H a o) h' a o) :
    r9 X pins σ (upd H a o) { s with heap:=h',toks:=t' }:=I.un (Un.laid k hp (I.hok.fresh hp)) (I.hok.laid k hp new)
theorem r9.write{x e:Addr}{o:HO}{t':Nat}(I:r9 X pins σ H s)(mu:Mut (H x))(he:e=x\/H e=some (.own x))(k:∀b u,b≠e->s.heap.get? b=some u->h'.get? b=some u)(heo:∃u,h'.get? e=some u)
    (new:L6 X.prog X.w (upd H x o) h' x o):r9 X pins σ (upd H x o) { s with heap:=h',toks:=t' }:=I.un (Un.write mu he k heo) (I.hok.write mu he k heo new)
def r9.weak{σ':List (Option V)}(I:r9 X pins σ H s)(hl:σ'.length=σ.length)(w:∀(i:Nat) v,σ'[i]? = some (some v)->σ[i]? = some (some v)):r9 X pins σ' H s:=
 ⟨I.ok,I.os,I.bare,I.base,let⟨m,hn,hl'⟩:=I.loc;⟨m,hn,λi x v e1 e2 e3=>hl' i x v e1 (w i v e2) e3⟩,I.cell,I.free,I.freeC,I.pin,I.hok,hl.trans I.len⟩
def r9.pins_of{pins':List (Addr × Obj)}(I:r9 X pins σ H s)(h:∀p∈pins',s.heap.get? p.1=some p.2/\H p.1=none/\p.1≠X.env.locals/\p.1 ∉ X.fs/\∀v,p.2.data≠.cell v):r9 X pins' σ H s:=
 ⟨I.ok,I.os,I.bare,I.base,I.loc,I.cell,I.free,I.freeC,λp hp=>(aF.mp hp).elim (λz=>I.pin p (aW _ z)) (h p),I.hok,I.len⟩
def Kg{N:List Str}(hN:N.Nodup){i j:Nat}{x:Str}(a:N[i]? = some x)(b:N[j]? = some x):i=j:=by
 obtain⟨h1,e1⟩:=aQ.mp a;obtain⟨h2,e2⟩:=aQ.mp b;exact(List.getElem_inj hN).mp (e1.trans e2.symm)
def Hs{M:Model}{A:Around}{E:Value->Shared->Prop}{i:Nat}{x:Str}{v:V}{u:Value}{Q:Unit->Shared->Prop}(I:r9 X pins σ H s)(hN:X.N.Nodup)(hi:X.N[i]? = some x)(hx:e0q X.env.scope x)(r:D5 v u)
    (h:∀s',r9 X pins (σ.set i (some v)) H s'->(∃a,Heap.SameBut a s.heap s'.heap/\(a=X.env.locals\/X.env.cells.lookup x=some a))->Q () s') (hf:X.fn x=true\/X.env.scope.names.lookup x=some .local:=by first | exact .inl rfl | exact .inr rfl | assumption):wpAny M A (storeName X.env x u) Q E s:=by
 obtain⟨m,hn,hl⟩:=id I.loc;have hcls:(X.env.scope.kind == .class || (X.env.scope.kind == .module && X.env.locals != X.env.globals))=false:=by rw[I.ok.kind];rfl
 have hiσ:i < σ.length:=by rw[I.len];exact(aQ.mp hi).1
 have cne:=I.cne;have tracked:∀{a:Addr} {h':Heap},(∃o,s.heap.get? a=some o/\H a=none)->Heap.SameBut a s.heap h'->Ac X.prog X.w H h':=λ{a h'} ha hs b ob e=>by
  obtain⟨_,_,hfree⟩:=ha;refine(I.hok b ob e).stay (λc w' hc q=>(hs.2 c ?_).trans q) (λ_ q=>q) λ_ _ q=>q;rintro rfl;rcases hc with rfl | hc
  . rw[hfree]at e;cases e
  . rw[hfree]at hc;cases hc
 rcases hx with hk | hk
 . refine wpAny_storeName_local hk hn (λh' hn' hs=>?_) hcls;obtain⟨oL,_,_,hoL,_⟩:=id hn;refine h _ ⟨I.ok,I.os,I.bare,⟨λb o e n hb hx=>?_,λb o e n hb hx=>?_,I.base.free,λb o e hx=>?_,I.base.tups,I.base.frzs,I.base.tbls⟩,⟨_,hn',λj y v' e1 e2 e3=>?_⟩,λy c e=>?_,I.free,I.freeC,λp hp=>?_,tracked ⟨oL,hoL,I.free⟩ hs,by simpa using I.len⟩ ⟨_,hs,.inl rfl⟩
   . exact(hs.2 b (az (aC (ao e) I.ok.above))).trans (I.base.keep b o e n hb hx)
   . obtain⟨sl,e1⟩:=I.base.slot b o e n hb hx;exact⟨sl,(hs.2 b (az (aC (ao e) I.ok.above))).trans e1⟩
   . obtain⟨o',e1⟩:=I.base.there b o e hx;exact⟨o',(hs.2 b (az (aC (ao e) I.ok.above))).trans e1⟩
   . by_cases hj:j=i
     . subst hj;rw[hi]at e1;cases e1;rw[bZ hiσ]at e2;cases e2;exact⟨u,r,.inl ⟨hk,by simp⟩⟩
     . rw[bE (Ne.symm hj)]at e2;obtain⟨u',r',q⟩:=hl j y v' e1 e2 e3;refine⟨u',r',?_⟩;rcases q with ⟨k,e⟩ | ⟨k,c,e,z⟩
       . refine .inl ⟨k,?_⟩;have:y≠x:=λe=>hj (Kg hN e1 (e▸hi));simp[this,e]
       . exact .inr ⟨k,c,e,z.sameBut hs (cne y c e)⟩
   . obtain⟨w',z⟩:=I.cell y c e;exact⟨w',z.sameBut hs (cne y c e)⟩
   . obtain⟨e,n,ne,nf,d⟩:=I.pin p hp;exact⟨(hs.2 p.1 ne).trans e,n,ne,nf,d⟩
 . have hfn:X.fn x=true:=by
    rcases hf with z | z
    . exact z
    . rw[z]at hk;cases hk
   obtain⟨c,hc⟩:=I.ok.has x (.inl hk);obtain⟨w',z⟩:=I.cell x c hc;refine wpAny_storeName_cell I.ok.kind hk hc z (λh' hc' hs=>?_);obtain⟨oc,hoc,hocd⟩:=id z;refine h { s with heap:=h' } ⟨I.ok,I.os,I.bare,⟨λb o e n hb hx=>?_,λb o e n hb hx=>?_,I.base.free,λb o e hx=>?_,I.base.tups,I.base.frzs,I.base.tbls⟩,⟨m,hn.sameBut hs (Ne.symm (cne x c hc)),λj y v' e1 e2 e3=>?_⟩,λy c' e=>?_,I.free,I.freeC,λp hp=>?_,tracked ⟨oc,hoc,I.freeC x c hc⟩ hs,by simpa using I.len⟩ ⟨c,hs,.inr hc⟩
   . exact(hs.2 b (az (aC (ao e) (I.ok.cab x c hfn hc)))).trans (I.base.keep b o e n hb hx)
   . obtain⟨sl,e1⟩:=I.base.slot b o e n hb hx;exact⟨sl,(hs.2 b (az (aC (ao e) (I.ok.cab x c hfn hc)))).trans e1⟩
   . obtain⟨o',e1⟩:=I.base.there b o e hx;exact⟨o',(hs.2 b (az (aC (ao e) (I.ok.cab x c hfn hc)))).trans e1⟩
   . by_cases hj:j=i
     . subst hj;rw[hi]at e1;cases e1;rw[bZ hiσ]at e2;cases e2;exact⟨u,r,.inr ⟨.inl hk,c,hc,hc'⟩⟩
     . rw[bE (Ne.symm hj)]at e2;obtain⟨u',r',q⟩:=hl j y v' e1 e2 e3;refine⟨u',r',?_⟩;rcases q with q | ⟨k,c',e,z'⟩
       . exact .inl q
       . refine .inr ⟨k,c',e,z'.sameBut hs ?_⟩;rintro rfl;exact hj (Kg hN e1 (I.ok.inj _ _ _ e hc▸hi))
   . by_cases hcc:c'=c
     . subst hcc;exact⟨_,hc'⟩
     . obtain⟨w2,z2⟩:=I.cell y c' e;exact⟨w2,z2.sameBut hs hcc⟩
   . obtain⟨e,n,ne,nf,d⟩:=I.pin p hp;refine⟨(hs.2 p.1 ?_).trans e,n,ne,nf,d⟩;intro q;rw[q,hoc]at e;have q':oc=p.2:=Option.some.inj e;exact d w' (by rw[<- q'];exact hocd)
def CV{M:Model}{A:Around}{E:Value->Shared->Prop}{i:Nat}{x:Str}{v:V}{u:Value}{Q:Unit->Shared->Prop}(I:r9 X pins σ H s)(hN:X.N.Nodup)(hi:X.N[i]? = some x)(hx:e0q X.env.scope x)(r:D5 v u)
    (h:∀s',r9 X pins (σ.set i (some v)) H s'->Q () s') (hf:X.fn x=true\/X.env.scope.names.lookup x=some .local:=by first | exact .inl rfl | exact .inr rfl | assumption):wpAny M A (storeName X.env x u) Q E s:=
 Hs I hN hi hx r (λs' I' _=>h s' I') hf
def r9.call'{s':Shared}{ch:List Addr}(I:r9 X pins σ H s)(ho:s'.os=s.os)(u:Un (FY X.stack) ch H H' s.heap s'.heap)(hok:Ac X.prog X.w H' s'.heap)(hg:AllBare s'.gens)
    (hch:∀b∈ch,(b∈X.ex\/X.s₀.heap.objs.size<=b)/\b≠X.env.locals/\(∀x c,X.env.cells.lookup x=some c->c≠b)/\∀p∈X.pn++pins,p.1≠b):r9 X pins σ H' s':=by
 obtain⟨h',g',d',t',o'⟩:=s';have e:o'=s.os:=ho;subst e;exact I.call (g':=g') (t':=t') (d':=d') u hok hg hch
end
abbrev XK:=Value->Option Addr->Hp->Prop
abbrev St:=List (Option V)
abbrev VK:=V->Hp->Prop
abbrev TE:=St->Hp->VK->Prop
abbrev TT:=St->Hp->(Bool->Hp->Prop)->Prop
abbrev TA:=St->Hp->(List V->Hp->Prop)->Prop
structure Gr where
 nx:St->Hp->Prop
 rt:VK
 bk:St->Hp->Prop:=λ_ _=>False
 ct:St->Hp->Prop:=λ_ _=>False
abbrev TS:=Gr->St->Hp->Prop
def EP(X:Cx)(pins:List (Addr × Obj))(σ:St)(Q:VK)(u:Value)(s':Shared):Prop:=∃v H',r9 X pins σ H' s'/\D5 v u/\Q v H'
def TP(X:Cx)(pins:List (Addr × Obj))(σ:St)(Q:Bool->Hp->Prop)(b:Bool)(s':Shared):Prop:=∃H',r9 X pins σ H' s'/\Q b H'
def AP(X:Cx)(pins:List (Addr × Obj))(σ:St)(Q:List V->Hp->Prop)(us:List Value)(s':Shared):Prop:=∃vs H',r9 X pins σ H' s'/\z8 vs us/\Q vs H'
def SP(X:Cx)(pins:List (Addr × Obj))(D:Gr)(f:Flow)(s':Shared):Prop:=
 match f with
 | .next=>∃σ' H',r9 X pins σ' H' s'/\D.nx σ' H'
 | .brk=>∃σ' H',r9 X pins σ' H' s'/\D.bk σ' H'
 | .cont=>∃σ' H',r9 X pins σ' H' s'/\D.ct σ' H'
 | .ret u=>∃v σ' H',r9 X pins σ' H' s'/\D5 v u/\D.rt v H'
def PE(X:Cx)(e:Expr)(t:TE):Prop:=
 ∀(pins:List (Addr × Obj)) (s:Shared) (σ:St) (H:Hp) (Q:VK),r9 X pins σ H s->t σ H Q->wpAny (model X.prog X.w) X.A (eval e X.env) (EP X pins σ Q) X.xe s
def PT(X:Cx)(e:Expr)(t:TT):Prop:=
 ∀(pins:List (Addr × Obj)) (s:Shared) (σ:St) (H:Hp) (Q:Bool->Hp->Prop),r9 X pins σ H s->t σ H Q->wpAny (model X.prog X.w) X.A (isTrue e X.env (eval e X.env)) (TP X pins σ Q) X.xe s
def PW(X:Cx)(e:Expr)(t:TT):Prop:=
 ∀(whole:Sem Value) (pins:List (Addr × Obj)) (s:Shared) (σ:St) (H:Hp) (Q:Bool->Hp->Prop),r9 X pins σ H s->t σ H Q->wpAny (model X.prog X.w) X.A (isTrue e X.env whole) (TP X pins σ Q) X.xe s
def PW.pt{X:Cx}{e:Expr}{t:TT}(h:PW X e t):PT X e t:=h _
def PA(X:Cx)(es:List Expr)(t:TA):Prop:=
 ∀(pos:Pos) (pins:List (Addr × Obj)) (s:Shared) (σ:St) (H:Hp) (Q:List V->Hp->Prop),r9 X pins σ H s->t σ H Q->wpAny (model X.prog X.w) X.A (spliced (backTo pos (starEach es X.env))) (AP X pins σ Q) X.xe s
def PS(X:Cx)(st:Stmt)(t:TS):Prop:=
 ∀(pins:List (Addr × Obj)) (s:Shared) (σ:St) (H:Hp) (D:Gr),r9 X pins σ H s->t D σ H->wpAny (model X.prog X.w) X.A (exec st X.env) (SP X pins D) X.xe s
def MP(X:Cx)(st:List Stmt)(t:TS):Prop:=
 ∀(pins:List (Addr × Obj)) (s:Shared) (σ:St) (H:Hp) (D:Gr),r9 X pins σ H s->t D σ H->wpAny (model X.prog X.w) X.A (execs st X.env) (SP X pins D) X.xe s
def E3{α:Type}{t:Sem α}{Q Q':α->Shared->Prop}{M:Model}{A:Around}{E:Value->Shared->Prop}{s:Shared}(h:wpAny M A t Q E s)(hQ:∀a s,Q a s->Q' a s):wpAny M A t Q' E s:=wpAny_mono h hQ λ_ _ x=>x
section
variable{X:Cx}
def bin{a b:Expr}{ta tb:TE}(ha:PE X a ta)(hb:PE X b tb){pins:List (Addr × Obj)}{s:Shared}{σ:St}{H:Hp}{R:V->V->Hp->Prop}(I:r9 X pins σ H s)(h:ta σ H λx H1=>tb σ H1 λy H2=>R x y H2)
    {α:Type} {Q:α->Shared->Prop} {f:Value->Value->Sem α}
    (hf:∀v u s2 x y H2,r9 X pins σ H2 s2->D5 x v->D5 y u->R x y H2->wpAny (model X.prog X.w) X.A (f v u) Q X.xe s2) :
    wpAny (model X.prog X.w) X.A (eval a X.env) (λv s₁=>wpAny (model X.prog X.w) X.A (eval b X.env) (λu s₂=>wpAny (model X.prog X.w) X.A (f v u) Q X.xe s₂) X.xe s₁) X.xe s:=by
 refine E3 (ha pins s σ H _ I h) λv s1 ⟨x,H1,I1,r1,q1⟩=>?_;refine E3 (hb pins s1 σ H1 _ I1 q1) λu s2 ⟨y,H2,I2,r2,q2⟩=>?_;exact hf v u s2 x y H2 I2 r1 r2 q2
def Ur(i:Nat):TE:=λσ H Q=>∃v,σ[i]? = some (some v)/\Q v H
def tC(v:V):TE:=λ_ H Q=>Q v H
def PV{i:Nat}{x:Str}{pos:Pos}(hN:X.N[i]? = some x)(hv:Vis X.env.scope x)(hd:(x == ("__debug__":Str))=false:=by decide)(hcd:(x == ("__classdict__":Str))=false:=by decide):PE X (.Name x pos) (Ur i):=by
 intro pins s σ H Q I h;obtain⟨v,e,h⟩:=h;obtain⟨m,hn,hl⟩:=I.loc;obtain⟨u,r,l⟩:=hl i x v hN e hv;have fin:EP X pins σ Q u s:=⟨v,H,I,r,h⟩;rcases l with ⟨hk,hm⟩ | ⟨hk,c,hc,hcell⟩
 . exact wpAny_Name (wpAny_loadName_local I.ok.kind hk hn hm fin) hd
 . rcases hk with hk | hk
   . exact wpAny_Name (wpAny_loadName_cell I.ok.kind hk hc hcell fin) hd
   . exact wpAny_Name (wpAny_loadName_free I.ok.kind hk hc hcell fin hcd) hd
def c5{i j pos}:PE X (.Constant (.int i) j pos) (tC (.int i)):=λ_ _ _ H _ I h=>wpAny_Constant_int ⟨.int i,H,I.tok _,⟨_,rfl⟩,h⟩
def F4{b j pos}:PE X (.Constant (.bool b) j pos) (tC (.bl b)):=λ_ _ _ H _ I h=>Constant_bool ⟨.bl b,H,I,rfl,h⟩
def LY{j pos}:PE X (.Constant .none j pos) (tC .non):=λ_ _ _ H _ I h=>Constant_none ⟨.non,H,I,rfl,h⟩
def Eb{x j pos}:PE X (.Constant (.str x) j pos) (tC (.str x)):=λ_ _ _ H _ I h=>Calls.Constant_str ⟨.str x,H,I.tok _,⟨_,rfl⟩,h⟩
def Gl(X:Cx)(x:Str):Prop:=X.env.kindOf x=some .globalImplicit
def Dw{E:Value->Shared->Prop}{pins:List (Addr × Obj)}{s:Shared}{σ:St}{H:Hp}{x:Str}{u:Value}{pos:Pos}{Q:Value->Shared->Prop}(I:r9 X pins σ H s)(hg:Gl X x)(hm:X.mg x=some u)(h:Q u s)
    (hd:(x == ("__debug__":Str))=false:=by decide):wpAny (model X.prog X.w) X.A (eval (.Name x pos) X.env) Q E s:=
 Calls.Name_function_global I.ok.kind hg (Calls.loadGlobal_global (by rw[I.ok.glob];exact I.mod.glob.keeps I.bk) hm h) hd
def AH{E:Value->Shared->Prop}{pins:List (Addr × Obj)}{s:Shared}{σ:St}{H:Hp}{x:Str}{u:Value}{pos:Pos}{Q:Value->Shared->Prop}(I:r9 X pins σ H s)(hg:Gl X x)(hm:X.mg x=none)(hv:bootBuiltins x=some u)(h:Q u s)
    (hn:x≠"__name__":=by decide) (hd:(x == ("__debug__":Str))=false:=by decide):wpAny (model X.prog X.w) X.A (eval (.Name x pos) X.env) Q E s:=by
 obtain⟨mb,h1,h2⟩:=I.mod.blt;exact Calls.Name_function_global I.ok.kind hg (Calls.loadGlobal_builtin (by rw[I.ok.glob];exact I.mod.glob.keeps I.bk) hm (by rw[I.ok.blt];exact h1.keeps I.bk) ((h2 x hn).trans hv) h) hd
def Si{x:Str}{v:V}{u:Value}{pos:Pos}(hg:Gl X x)(hm:X.mg x=some u)(r:D5 v u)(hd:(x == ("__debug__":Str))=false:=by decide):PE X (.Name x pos) (tC v):=
 λ_ _ _ H _ I h=>Dw I hg hm ⟨v,H,I,r,h⟩ hd
def R9{x:Str}{v:V}{u:Value}{pos:Pos}(hg:Gl X x)(hm:X.mg x=none)(hv:bootBuiltins x=some u)(r:D5 v u)(hn:x≠"__name__":=by decide)(hd:(x == ("__debug__":Str))=false:=by decide):PE X (.Name x pos) (tC v):=
 λ_ _ _ H _ I h=>AH I hg hm hv ⟨v,H,I,r,h⟩ hn hd
variable{a b:Expr}{ta tb:TE}{pos:Pos}
def PC(X:Cx)(op:CmpOp)(a b:Expr)(t:TE):Prop:=
 ∀(pins:List (Addr × Obj)) (s:Shared) (σ:St) (H:Hp) (Q:VK),r9 X pins σ H s->t σ H Q->
  wpAny (model X.prog X.w) X.A (eval a X.env) (λv s₁=>wpAny (model X.prog X.w) X.A (eval b X.env) (λu s₂=>wpAny (model X.prog X.w) X.A (compareOp op v u) (EP X pins σ Q) X.xe s₂) X.xe s₁) X.xe s
def Qi(b:Expr){op:CmpOp}(h:op≠.In)(h2:op≠.NotIn):behindInMarks op b=false:=by
 have e1:(op == CmpOp.In)=false:=by cases op <;>first | rfl | exact absurd rfl h
 have e2:(op == CmpOp.NotIn)=false:=by cases op <;>first | rfl | exact absurd rfl h2
 cases b <;>simp[behindInMarks,e1,e2]
def tB(t:TE):TT:=λσ H Q=>t σ H λx H1=>∃c,x=.bl c/\Q c H1
def pt_cmp{op:CmpOp}{t:TE}(h:PC X op a b t)(h1:behindInMarks op b=false:=by first | exact Qi _ (by decide) (by decide) | rfl):PT X (.Compare a [op] [b] pos) (tB t):=by
 intro pins s σ H Q I hw;refine wpAny_isTrue_Compare1 (E3 (h pins s σ H _ I hw) λv s1 h1=>E3 h1 λu s2 h2=>E3 h2 λc s3 ⟨x,H1,I1,r1,q1⟩=>?_) h1;obtain⟨d,rfl,q⟩:=q1;cases r1;exact wpAny_truthy_bool ⟨H1,I1,q⟩
def D2{e:Expr}{t:TE}(h:PE X e t)(he:∀whole,isTrue e X.env whole=(do let v <- whole;standAt e.pos;holding [v] (truthy v)):=by intro _;rfl):PT X e (tB t):=by
 intro pins s σ H Q I hw;refine isTrue_plain (E3 (h pins s σ H _ I hw) λv s1 ⟨x,H1,I1,r1,q1⟩=>?_) (he _);obtain⟨d,rfl,q⟩:=q1;cases r1;exact wpAny_truthy_bool ⟨H1,I1,q⟩
variable{tA tB':TT}{Af:List Expr}
def tAnd(t u:TT):TT:=λσ H Q=>t σ H λc H1=>if c=true then u σ H1 Q else Q false H1
def tOr(t u:TT):TT:=λσ H Q=>t σ H λc H1=>if c=true then Q true H1 else u σ H1 Q
def tNot(t:TT):TT:=λσ H Q=>t σ H λc H1=>Q (!c) H1
def Ii(ha:PT X a tA):PW X (.BoolOp .And [a] pos) tA:=by
 intro wh pins s σ H Q I h;refine isTrue_and (E3 (ha pins s σ H Q I h) λc s1 e=>?_);cases c with
 | true=>exact isTrue_and_nil e
 | false=>exact e
def V9(ha:PT X a tA):PW X (.BoolOp .Or [a] pos) tA:=by
 intro wh pins s σ H Q I h;refine isTrue_or (E3 (ha pins s σ H Q I h) λc s1 e=>?_);cases c with
 | false=>exact isTrue_or_nil e
 | true=>exact e
def Ij(ha:PT X a tA)(hb:PW X (.BoolOp .And (b::Af) pos) tB'):PW X (.BoolOp .And (a::b::Af) pos) (tAnd tA tB'):=by
 intro wh pins s σ H Q I h;refine isTrue_and (E3 (ha pins s σ H _ I h) λc s1 ⟨H1,I1,q1⟩=>?_);cases c with
 | true=>exact hb wh pins s1 σ H1 Q I1 q1
 | false=>exact⟨H1,I1,q1⟩
def Ag(ha:PT X a tA)(hb:PW X (.BoolOp .Or (b::Af) pos) tB'):PW X (.BoolOp .Or (a::b::Af) pos) (tOr tA tB'):=by
 intro wh pins s σ H Q I h;refine isTrue_or (E3 (ha pins s σ H _ I h) λc s1 ⟨H1,I1,q1⟩=>?_);cases c with
 | true=>exact⟨H1,I1,q1⟩
 | false=>exact hb wh pins s1 σ H1 Q I1 q1
def E4(ha:PT X a tA):PT X (.UnaryOp .Not a pos) (tNot tA):=by
 intro pins s σ H Q I h;exact isTrue_not (ha pins s σ H (λc H1=>Q (!c) H1) I h)
def WM(ta tb:TE):TE:=λσ H Q=>ta σ H λx H1=>∃c,x=.bl c/\if c=true then tb σ H1 Q else Q (.bl false) H1
def WE(ta:TE):TE:=λσ H Q=>ta σ H λx H1=>∃c,x=.bl c/\Q (.bl (!c)) H1
def Il{op}{t:TE}(h:PE X a t):PE X (.BoolOp op [a] pos) t:=λpins s σ H Q I hw=>BoolOp_one (h pins s σ H Q I hw)
def Io(ha:PE X a ta)(hb:PE X (.BoolOp .And (b::Af) pos) tb):PE X (.BoolOp .And (a::b::Af) pos) (WM ta tb):=by
 intro pins s σ H Q I h;refine BoolOp_and (E3 (ha pins s σ H _ I h) λv s1 ⟨x,H1,I1,r1,q1⟩=>?_);obtain⟨c,rfl,q1⟩:=q1;cases r1;refine wpAny_truthy_bool ?_;cases c with
 | true=>exact hb pins s1 σ H1 Q I1 q1
 | false=>exact⟨.bl false,H1,I1,rfl,q1⟩
def PZ(ha:PE X a ta):PE X (.UnaryOp .Not a pos) (WE ta):=by
 intro pins s σ H Q I h;refine UnaryOp_ (E3 (ha pins s σ H _ I h) λv s1 ⟨x,H1,I1,r1,q1⟩=>?_);obtain⟨c,rfl,q1⟩:=q1;cases r1;exact not_of (wpAny_truthy_bool ⟨.bl (!c),H1,I1,rfl,q1⟩)
def tIf(t:TT)(ta tb:TE):TE:=λσ H Q=>t σ H λc H1=>if c=true then ta σ H1 Q else tb σ H1 Q
def Qb{c:Expr}(hc:PT X c tA)(ha:PE X a ta)(hb:PE X b tb):PE X (.IfExp c a b pos) (tIf tA ta tb):=by
 intro pins s σ H Q I h;refine wpAny_IfExp (E3 (hc pins s σ H _ I h) λd s1 ⟨H1,I1,q1⟩=>?_);cases d with
 | true=>exact ha pins s1 σ H1 Q I1 q1
 | false=>exact hb pins s1 σ H1 Q I1 q1
end
def o7(K:aa)(H:Hp)(a:Addr)(xs:List V):Prop:=
 Rd H a (.lst xs)\/
  ∃(o:Obj) (its:Array Value) (n:Nat),K.lookup a=some o/\o.cls=.type "list"/\o.dict=none/\o.data=.seq its n/\its.size<=sizeLine/\z8 xs its.toList
def o9(K:aa)(H:Hp)(a:Addr)(xs:List V):Prop:=
 Rd H a (.tup xs)\/
  ∃(o:Obj) (its:Array Value) (n:Nat),K.lookup a=some o/\o.cls=.type "tuple"/\o.data=.seq its n/\its.size<=sizeLine/\z8 xs its.toList
def absV:Value->Option V
 | .none=>some .non
 | .bool b=>some (.bl b)
 | .int i _=>some (.int i)
 | .str x _=>some (.str x)
 | .bytes b _=>some (.byt b)
 | .float b _=>some (.flt b)
 | .ref a=>some (.ref a)
 | .type n=>some (.ty n)
 | _=>none
def D5.abs{x:V}{u:Value}(r:D5 x u):absV u=some x:=by
 cases x with
 | non=>cases r;rfl
 | bl _=>cases r;rfl
 | int _=>obtain⟨t,rfl⟩:=r;rfl
 | str _=>obtain⟨t,rfl⟩:=r;rfl
 | byt _=>obtain⟨t,rfl⟩:=r;rfl
 | flt _=>obtain⟨t,rfl⟩:=r;rfl
 | ref _=>cases r;rfl
 | ty _=>cases r;rfl
theorem D5.inj{x y:V}{u:Value}(r:D5 x u)(q:D5 y u):x=y:=Option.some.inj (r.abs.symm.trans q.abs)
theorem z8.inj:∀{xs ys:List V} {us:List Value},z8 xs us->z8 ys us->xs=ys
 | _,_,_,.nil,.nil=>rfl
 | _,_,_,.cons r t,.cons r' t'=>by rw[r.inj r',z8.inj t t']
section
variable{X:Cx}{pins:List (Addr × Obj)}{σ:St}{H:Hp}{s:Shared}{a:Addr}{xs ys:List V}
def o7.of{K:aa}(h:H a=some (.lst xs)):o7 K H a xs:=.inl (.inl h)
def o9.of{K:aa}(h:H a=some (.tup xs)):o9 K H a xs:=.inl (.inl h)
def r9.list(I:r9 X pins σ H s)(h:o7 X.K H a xs):∃its:List Value,z8 xs its/\PlainL s.heap a its.toArray/\xs.length<=sizeLine:=by
 rcases h with h | ⟨o,its,n,hk,hc,hd,hs,hz,r⟩
 . obtain⟨z,its,n,r,e⟩:=h.ok I.hok;exact⟨its,r,⟨_,n,e,rfl,rfl,rfl⟩,z⟩
 . refine⟨its.toList,r,⟨o,n,I.kIn a o hk,hc,hd,by simpa using hs⟩,?_⟩;have e:=r.length;simp only[Array.length_toList]at e;omega
def r9.tuple(I:r9 X pins σ H s)(h:o9 X.K H a xs):∃its:List Value,z8 xs its/\IsTup s.heap a its.toArray/\xs.length<=sizeLine:=by
 rcases h with h | ⟨o,its,n,hk,hc,hs,hz,r⟩
 . obtain⟨z,its,r,p,_⟩:=h.ok I.hok;exact⟨its,r,p,z⟩
 . refine⟨its.toList,r,⟨o,I.kIn a o hk,hc,n,by simpa using hs⟩,?_⟩;have e:=r.length;simp only[Array.length_toList]at e;omega
def r9.list_inj(I:r9 X pins σ H s)(h:o7 X.K H a xs)(h':o7 X.K H a ys):xs=ys:=by
 obtain⟨its,r,⟨o,n,e,_,_,d⟩,_⟩:=I.list h;obtain⟨its',r',⟨o',n',e',_,_,d'⟩,_⟩:=I.list h';rw[e]at e';cases e';rw[d]at d';injection d' with d1 _;have:its=its':=by simpa using congrArg Array.toList d1
 subst this;exact r.inj r'
def r9.tuple_inj(I:r9 X pins σ H s)(h:o9 X.K H a xs)(h':o9 X.K H a ys):xs=ys:=by
 obtain⟨its,r,⟨o,e,_,n,d⟩,_⟩:=I.tuple h;obtain⟨its',r',⟨o',e',_,n',d'⟩,_⟩:=I.tuple h';rw[e]at e';cases e';rw[d]at d';injection d' with d1 _;have:its=its':=by simpa using congrArg Array.toList d1
 subst this;exact r.inj r'
end
abbrev Cx.wish(X:Cx)(E:Value->Shared->Prop):Cx:={ X with xe:=E }
abbrev Cx.nox(X:Cx):Cx:=X.wish λ_ _=>False
theorem Cx.Ok.wish{X:Cx}(ok:X.Ok)(E:Value->Shared->Prop):(X.wish E).Ok:=
 ⟨ok.mod,ok.kind,ok.glob,ok.blt,ok.above,ok.inj,ok.has,ok.cab,ok.hd,ok.frames,ok.stk,ok.exf,ok.bs,ok.bsz,ok.noex,ok.exfs,ok.funs,ok.frf⟩
def Cx.Ok.unwish{X:Cx}{E:Value->Shared->Prop}(ok:(X.wish E).Ok):X.Ok:=
 ⟨ok.mod,ok.kind,ok.glob,ok.blt,ok.above,ok.inj,ok.has,ok.cab,ok.hd,ok.frames,ok.stk,ok.exf,ok.bs,ok.bsz,ok.noex,ok.exfs,ok.funs,ok.frf⟩
section
variable{X:Cx}{pins:List (Addr × Obj)}{σ:St}{H:Hp}{s:Shared}{E:Value->Shared->Prop}
theorem r9.wish(I:r9 X pins σ H s)(E:Value->Shared->Prop):r9 (X.wish E) pins σ H s:=⟨I.ok.wish E,I.os,I.bare,I.base,I.loc,I.cell,I.free,I.freeC,I.pin,I.hok,I.len⟩
theorem r9.unwish(I:r9 (X.wish E) pins σ H s):r9 X pins σ H s:=⟨I.ok.unwish,I.os,I.bare,I.base,I.loc,I.cell,I.free,I.freeC,I.pin,I.hok,I.len⟩
theorem SP.unwish{D:Gr}{f:Flow}{s':Shared}(h:SP (X.wish E) pins D f s'):SP X pins D f s':=by
 cases f with
 | next=>obtain⟨σ',H',I,q⟩:=h;exact⟨σ',H',I.unwish,q⟩
 | brk=>obtain⟨σ',H',I,q⟩:=h;exact⟨σ',H',I.unwish,q⟩
 | cont=>obtain⟨σ',H',I,q⟩:=h;exact⟨σ',H',I.unwish,q⟩
 | ret u=>obtain⟨v,σ',H',I,r,q⟩:=h;exact⟨v,σ',H',I.unwish,r,q⟩
theorem MP.nox{st:List Stmt}{t:TS}(h:MP X.nox st t):MP X st t:=λpins s σ H D I hw=>
 wpAny_mono (h pins s σ H D (I.wish _) hw) (λ_ _ q=>q.unwish) λ_ _ z=>False.elim z
end
section
variable{X:Cx}{st:Stmt}{Af:List Stmt}{t u:TS}{e:Expr}{te:TE}{pos:Pos}
def tNext:TS:=λD σ H=>D.nx σ H
def WB(t u:TS):TS:=λD σ H=>t { D with nx:=u D } σ H
def o5:MP X [] tNext:=λ_ _ σ H _ I h=>wpAny_execs_nil ⟨σ,H,I,h⟩
def a8(h1:PS X st t)(h2:MP X Af u):MP X (st::Af) (WB t u):=by
 intro pins s σ H D I h;refine wpAny_execs_cons (E3 (h1 pins s σ H { D with nx:=u D } I h) λf s1 q=>?_);cases f with
 | next=>
  obtain⟨σ',H',I',q⟩:=q;exact h2 pins s1 σ' H' D I' q
 | ret v=>exact q
 | brk=>exact q
 | cont=>exact q
def c6(h1:PS X st t):MP X [st] t:=by
 intro pins s σ H D I h;refine wpAny_execs_cons (E3 (h1 pins s σ H D I h) λf s1 q=>?_);cases f with
 | next=>exact wpAny_execs_nil q
 | ret v=>exact q
 | brk=>exact q
 | cont=>exact q
def r9.quiet{pins:List (Addr × Obj)}{σ:St}{H:Hp}{s:Shared}(I:r9 X pins σ H s):interactive X.env=false:=by simp[interactive,I.ok.kind]
def WK(te:TE):TS:=λD σ H=>te σ H λ_ H1=>D.nx σ H1
def F8(he:PE X e te)(hs:swapsWith e none pos.line X.env=pure false:=by rfl):PS X (.Expr e pos) (WK te):=by
 intro pins s σ H D I h;exact wpAny_Expr_any (E3 (he pins s σ H _ I h) λv s1 ⟨x,H1,I1,r1,q1⟩=>⟨σ,H1,I1,q1⟩) I.quiet hs
def WC(te:TE):TS:=λD σ H=>te σ H D.rt
def c8(he:PE X e te):PS X (.Return (some e) pos) (WC te):=by
 intro pins s σ H D I h;exact wpAny_Return_some (E3 (he pins s σ H _ I h) λv s1 ⟨x,H1,I1,r1,q1⟩=>⟨x,σ,H1,I1,r1,q1⟩)
def tIfS(c:TT)(t u:TS):TS:=λD σ H=>c σ H λb H1=>if b=true then t D σ H1 else u D σ H1
def B0{c:Expr}{a b:List Stmt}{tc:TT}(hc:PT X c tc)(ha:MP X a t)(hb:MP X b u):PS X (.If c a b pos) (tIfS tc t u):=by
 intro pins s σ H D I h;refine wpAny_If (E3 (hc pins s σ H _ I h) λd s1 ⟨H1,I1,q1⟩=>?_);cases d with
 | true=>exact ha pins s1 σ H1 D I1 q1
 | false=>exact hb pins s1 σ H1 D I1 q1
def tNever:TS:=λ_ _ _=>False
def Ah:PS X st tNever:=λ_ _ _ _ _ _ h=>h.elim
end
abbrev TG:=V->St->Hp->(St->Hp->Prop)->Prop
abbrev Wp:=List V->St->Hp->(St->Hp->Prop)->Prop
def PG(X:Cx)(target:Expr)(t:TG):Prop:=
 ∀(pins:List (Addr × Obj)) (s:Shared) (σ:St) (H:Hp) (v:V) (u:Value) (Q:St->Hp->Prop),r9 X pins σ H s->D5 v u->t v σ H Q->
  wpAny (model X.prog X.w) X.A (assign target X.env u) (λ_ s'=>∃σ' H',r9 X pins σ' H' s'/\Q σ' H') X.xe s
def e0p(X:Cx)(ts:List Expr)(t:Wp):Prop:=
 ∀(pins:List (Addr × Obj)) (s:Shared) (σ:St) (H:Hp) (vs:List V) (us:List Value) (Q:St->Hp->Prop),r9 X pins σ H s->z8 vs us->t vs σ H Q->
  wpAny (model X.prog X.w) X.A (assignInOrder ((assignEach ts X.env).map (·.2)) us) (λ_ s'=>∃σ' H',r9 X pins σ' H' s'/\Q σ' H') X.xe s
abbrev Wo:=V->V->V->Hp->(Hp->Prop)->Prop
def e0o(X:Cx)(t:Wo):Prop:=
 ∀(pins:List (Addr × Obj)) (s:Shared) (σ:St) (H:Hp) (o i v:V) (ov iv u:Value) (Q:Hp->Prop),r9 X pins σ H s->D5 o ov->D5 i iv->D5 v u->t o i v H Q->
  wpAny (model X.prog X.w) X.A (setItem ov iv u) (λ_ s'=>∃H',r9 X pins σ H' s'/\Q H') X.xe s
section
variable{X:Cx}{pos:Pos}
def E9(i:Nat):TG:=λv σ H Q=>Q (σ.set i (some v)) H
def l4{i:Nat}{x:Str}(hN:X.N.Nodup)(hi:X.N[i]? = some x)(hx:e0q X.env.scope x)(hf:X.fn x=true\/X.env.scope.names.lookup x=some .local:=by first | exact .inl rfl | exact .inr rfl | assumption):PG X (.Name x pos) (E9 i):=by
 intro pins s σ H v u Q I r h;exact wpAny_assign_Name (CV I hN hi hx r (λs' I'=>⟨_,H,I',h⟩) hf)
def gNil:Wp:=λvs σ H Q=>vs=[]/\Q σ H
def d0x(t:TG)(u:Wp):Wp:=λvs σ H Q=>∃v r,vs=v::r/\t v σ H λσ' H'=>u r σ' H' Q
def C7:e0p X [] gNil:=by
 intro pins s σ H vs us Q I r h;obtain⟨e,h⟩:=h;subst e;cases r;exact assignInOrder_nil ⟨σ,H,I,h⟩
def j6{e:Expr}{es:List Expr}{t:TG}{u:Wp}(h1:PG X e t)(h2:e0p X es u)
    (hs:(assignEach (e::es) X.env).map (·.2)=assign e X.env::(assignEach es X.env).map (·.2):=by rfl):e0p X (e::es) (d0x t u):=by
 intro pins s σ H vs us Q I r h;obtain⟨v,vr,e1,h⟩:=h;subst e1;cases r with
 | cons r rr=>
  rw[hs];refine assignInOrder_cons (E3 (h1 pins s σ H _ _ _ I r h) λ_ s1 ⟨σ1,H1,I1,q1⟩=>?_);exact h2 pins s1 σ1 H1 _ _ Q I1 rr q1
def ET(K:aa)(n:Nat)(t:Wp):TG:=λv σ H Q=>∃a xs,v=.ref a/\o9 K H a xs/\xs.length=n/\t xs σ H Q
def F1{es:List Expr}{k:Nat}{t:Wp}{n:Nat}(hc:X.calm=true)(h:e0p X es t)
    (hn:(assignEach es X.env).length=n:=by rfl) (hst:(assignEach es X.env).findIdx? (·.1)=none:=by rfl):PG X (.Tuple es k pos) (ET X.K n t):=by
 intro pins s σ H v u Q I r hw;obtain⟨a,xs,e1,hq,hl,hw⟩:=hw;subst e1;cases r;obtain⟨its,rv,ht,hz⟩:=I.tuple hq;refine assign_Tuple_tuple (I.ok.hd hc) ht (by simp[hn,<- hl,rv.length]) hst λh' hx=>?_;have I1:r9 X pins σ H { s with heap:=h' }:=I.kept (t':=s.toks) λb o e=>hx b o (az (ao e)) e;exact h pins _ σ H xs _ Q I1 (by simpa using rv) hw
def gSub(to ti:TE)(t:Wo):TG:=λv σ H Q=>to σ H λo H1=>ti σ H1 λi H2=>t o i v H2 λH3=>Q σ H3
def Br{o i:Expr}{to ti:TE}{t:Wo}(ho:PE X o to)(hi:PE X i ti)(hs:e0o X t)
    (ha:∀v,assign (.Subscript o i pos) X.env v=(do
     let ov <- holding [v] (eval o X.env)
     let iv <- holding [v,ov] (eval i X.env)
     standAt pos
     holding [v,ov,iv] (setItem ov iv v)
     release [v,ov,iv] []):=by intro _;rfl):PG X (.Subscript o i pos) (gSub to ti t):=by
 intro pins s σ H v u Q I r h;rw[ha];refine wpAny_bind (wpAny_holding (E3 (ho pins s σ H _ I h) λov s1 ⟨x,H1,I1,r1,q1⟩=>?_));refine wpAny_bind (wpAny_holding (E3 (hi pins s1 σ H1 _ I1 q1) λiv s2 ⟨y,H2,I2,r2,q2⟩=>?_));refine wpAny_bind (wpAny_standAt (wpAny_bind (wpAny_holding (E3 (hs pins s2 σ H2 x y v ov iv u _ I2 r1 r2 r q2) λ_ s3 ⟨H3,I3,q3⟩=>?_))));exact wpAny_release ⟨σ,H3,I3,q3⟩
def Lx(te:TE)(g:TG):TS:=λD σ H=>te σ H λx H1=>g x σ H1 D.nx
def P7{tg e:Expr}{te:TE}{g:TG}(he:PE X e te)(hg:PG X tg g)(hs:swapsWithSole [tg] e pos.line X.env=pure false:=by rfl)(hw:swappedStores [tg] e X.env=pure none:=by rfl)
    (h1:(assignEach [tg] X.env).map (·.2)=[assign tg X.env]:=by rfl):PS X (.Assign [tg] e pos) (Lx te g):=by
 intro pins s σ H D I h;refine wpAny_Assign_stores (E3 (he pins s σ H _ I h) λv s1 ⟨x,H1,I1,r1,q1⟩=>?_) hs hw;rw[h1];exact E3 (hg pins s1 σ H1 x v _ I1 r1 q1) λ_ s2 q=>q
def AD{i:Nat}{x:Str}{e:Expr}{te:TE}{pos':Pos}(hN:X.N.Nodup)(hi:X.N[i]? = some x)(hx:e0q X.env.scope x)(he:PE X e te)(hs:swapsWith e (some (.Name x pos')) pos.line X.env=pure false:=by rfl)(hf:X.fn x=true\/X.env.scope.names.lookup x=some .local:=by first | exact .inl rfl | exact .inr rfl | assumption) :
    PS X (.Assign [.Name x pos'] e pos) (Lx te (E9 i)):=by
 intro pins s σ H D I h;refine wpAny_Assign_Name (E3 (he pins s σ H _ I h) λv s1 ⟨y,H1,I1,r1,q1⟩=>?_) hs;exact CV I1 hN hi hx r1 (λs2 I2=>⟨_,H1,I2,q1⟩) hf
def tPar(i j:Nat)(ta:TA):TS:=λD σ H=>ta σ H λvs H1=>∃v w,vs=[v,w]/\D.nx ((σ.set i (some v)).set j (some w)) H1
def UZ{i j:Nat}{x y:Str}{a b:Expr}{ta:TA}{px py pt:Pos}{kt k2 pt2}(hc:X.calm=true)(hN:X.N.Nodup)(hi:X.N[i]? = some x)(hj:X.N[j]? = some y)(hij:i≠j)
    (hx:X.env.scope.names.lookup x=some .local) (hy:X.env.scope.names.lookup y=some .local) (ha:PA X [a,b] ta)
    (hw:swappedStores [.Tuple [.Name x px,.Name y py] kt pt] (.Tuple [a,b] k2 pt2) X.env=pure (some [x,y]))
    (hs:swapsWithSole [.Tuple [.Name x px,.Name y py] kt pt] (.Tuple [a,b] k2 pt2) pos.line X.env=pure false:=by rfl) :
    PS X (.Assign [.Tuple [.Name x px,.Name y py] kt pt] (.Tuple [a,b] k2 pt2) pos) (tPar i j ta):=by
 intro pins s σ H D I h;rw[exec_Assign_arm];refine wpAny_bind (wpAny_standAt ?_);rw[hs];refine wpAny_bind (wpAny_pure ?_);rw[if_neg (by decide)];refine wpAny_bind (Tuple_ (E3 (ha _ pins s σ H _ I h) λus s1 ⟨vs,H1,I1,r1,q1⟩=>?_));obtain⟨v,w,e1,q1⟩:=q1;subst e1;obtain⟨u1,u2,rfl,rv,rw'⟩:∃u1 u2,us=[u1,u2]/\D5 v u1/\D5 w u2:=by
  cases r1 with
  | cons p q=>
   cases q with
   | cons p' q'=>
    cases q';exact za ⟨rfl,p,p'⟩
 refine wpAny_newObj_type ?_ (by show 2<=sizeLine;decide);have I2:r9 X pins σ H1 { s1 with heap:=s1.heap.push { cls:=.type "tuple",data:=.seq [u1,u2].toArray } }:=I1.kept (t':=s1.toks) λb o e=>ak _ e;rw[hw];refine wpAny_bind (wpAny_pure ?_);show wpAny (model X.prog X.w) X.A (do rule "assign.swapped-stores";let items <- unpackItems (.ref s1.heap.objs.size) 2 none;assignInOrder [λv=>bindName X.env y v,λv=>bindName X.env x v] items.reverse;pure Flow.next) _ _ _;refine wpAny_bind (wpAny_rule (wpAny_bind (unpackItems_tuple (items:=#[u1,u2]) (I.ok.hd hc) (IsTup.new s1.heap _) λh' hx'=>?_)));have I3:=I2.kept (h':=h') (t':=s1.toks) λb o e=>hx' b o (az (ao e)) e;show wpAny _ _ (assignInOrder [λv=>bindName X.env y v,λv=>bindName X.env x v] [u2,u1] >>= λ_=>pure Flow.next) _ _ _;refine wpAny_bind (assignInOrder_cons (wpAny_bindName (CV I3 hN hj (.inl hy) rw' (λs2 I4=>?_) (.inr hy))));refine assignInOrder_cons (wpAny_bindName (CV I4 hN hi (.inl hx) rv (λs3 I5=>assignInOrder_nil (wpAny_pure ?_)) (.inr hx)));rw[List.set_comm _ _ (Ne.symm hij)]at I5;exact⟨_,H1,I5,q1⟩
end
section
variable{X:Cx}{pos:Pos}
def Uq(c:TT)(tb:TS):TS:=λD σ H=>∃W:Nat->St->Hp->Prop,(∃m,W m σ H)/\∀m σ H,W m σ H->
 c σ H λb H1=>if b=true then ∃N:St->Hp->Prop,(∀σ' H',N σ' H'->∃m',m' < m/\W m' σ' H')/\tb { D with nx:=N,ct:=N,bk:=D.nx } σ H1 else D.nx σ H1
def Bq{c:Expr}{body:List Stmt}{tc:TT}{tb:TS}(hp:PassesOwn (model X.prog X.w) X.A X.env X.xe)(hc:PT X c tc)(hb:MP X body tb):PS X (.While c body [] pos) (Uq tc tb):=by
 intro pins s σ H D I h;obtain⟨W,⟨m0,w0⟩,turn⟩:=h;refine wpAny_While (codeAny_whileLoop (λn s'=>∃σ' H',r9 X pins σ' H' s'/\W n σ' H') ?_ m0 ⟨σ,H,I,w0⟩);rintro n s1 ⟨σ1,H1,I1,w1⟩;refine wpAny_passesOwn hp (E3 (hc pins s1 σ1 H1 _ I1 (turn n σ1 H1 w1)) λb s2 ⟨H2,I2,q2⟩=>?_);cases b with
 | true=>
  obtain⟨N,hN,q2⟩:=q2;rw[if_pos rfl];refine wpAny_passesOwn hp (E3 (hb pins s2 σ1 H2 _ I2 q2) λf s3 q3=>?_);cases f with
  | next=>
   obtain⟨σ3,H3,I3,n3⟩:=q3;obtain⟨m',hm,w3⟩:=hN σ3 H3 n3;exact⟨m',hm,σ3,H3,I3,w3⟩
  | cont=>
   obtain⟨σ3,H3,I3,n3⟩:=q3;obtain⟨m',hm,w3⟩:=hN σ3 H3 n3;exact⟨m',hm,σ3,H3,I3,w3⟩
  | brk=>exact q3
  | ret v=>exact q3
 | false=>
  rw[if_neg aJ];exact wpAny_execs_nil ⟨σ1,H2,I2,q2⟩
end
structure It where
 go:Nat->Hp->Prop
 yld:Nat->Hp->V->Hp->Prop
 stop:Nat->Hp->Prop
def U8(X:Cx)(pins:List (Addr × Obj))(H:Hp)(b:Addr):Prop:=
 H b=none/\b≠X.env.locals/\b ∉ X.fs/\(b∈X.ex\/X.s₀.heap.objs.size<=b)/\(∀x c,X.env.cells.lookup x=some c->c≠b)/\∀p∈X.pn++pins,p.1≠b
def r9.fpOk{X:Cx}{pins:List (Addr × Obj)}{σ:St}{H H':Hp}{s:Shared}{b:Addr}(I:r9 X pins σ H s)(hb:s.heap.objs.size<=b)(hn:H' b=none):U8 X pins H' b:=by
 refine⟨hn,bF (aC I.lt hb),I.nofs hb,.inr (ah I.sz hb),λx c e z=>?_,λp hp z=>?_⟩
 . obtain⟨v,q⟩:=I.cell x c e;exact absurd (aC q.lt (by rw[z];exact hb)) (aI _)
 . exact absurd (aC (ao (I.pin p hp).1) (by rw[z];exact hb)) (aI _)
structure MN(P:Program)(w:World)(K:aa)(tg:Expr)(J:It)(fp:List Addr)(it:Addr)(tn:Nat->Heap->Prop):Prop where
 mem:it∈fp
 obj:∀i h,tn i h->∀b∈fp,∃o,h.get? b=some o/\∀v,o.data≠.cell v
 keep:∀i h h',tn i h->(∀b∈fp,∀o,h.get? b=some o->h'.get? b=some o)->tn i h'
 item:∀(X:Cx),X.prog=P->X.w=w->X.K=K->X.calm=true->∀(i:Nat) (pins:List (Addr × Obj)) (s:Shared) (σ:St) (H:Hp) (E:Value->Shared->Prop),r9 X pins σ H s->(∀b∈fp,U8 X pins H b)->tn i s.heap->J.go i H->
  wpAny (model P w) X.A (pyNext (.ref it)) (λr s1=>∃u,r=some u/\
   wpAny (model P w) X.A (letOwnedTupleGo tg (.ref it) u) (λ_ s2=>∃x H',r9 X pins σ H' s2/\D5 x u/\J.yld i H x H'/\tn (i+1) s2.heap/\∀b∈fp,H' b=none) E s1) E s
 done:∀(X:Cx),X.prog=P->X.w=w->X.K=K->X.calm=true->∀(i:Nat) (pins:List (Addr × Obj)) (s:Shared) (σ:St) (H:Hp) (E:Value->Shared->Prop),r9 X pins σ H s->(∀b∈fp,U8 X pins H b)->tn i s.heap->J.stop i H->
  wpAny (model P w) X.A (pyNext (.ref it)) (λr s1=>r=none/\r9 X pins σ H s1) E s
 self:∀(A:Around) (i:Nat) (s:Shared) (Q:Value->Shared->Prop) (E:Value->Shared->Prop),tn i s.heap->Q (.ref it) s->wpAny (model P w) A (pyIter (.ref it)) Q E s
abbrev TI:=St->Hp->(It->Hp->Prop)->Prop
def PIE(X:Cx)(pins:List (Addr × Obj))(σ:St)(tg:Expr)(R:It->Hp->Prop)(itv:Value)(s2:Shared):Prop:=
 ∃(it:Addr) (fp:List Addr) (tn:Nat->Heap->Prop) (J:It) (H':Hp),itv=.ref it/\r9 X pins σ H' s2/\MN X.prog X.w X.K tg J fp it tn/\tn 0 s2.heap/\(∀b∈fp,U8 X pins H' b)/\R J H'
def PI(X:Cx)(tg iter:Expr)(wi:TI):Prop:=
 ∀(pins:List (Addr × Obj)) (s:Shared) (σ:St) (H:Hp) (R:It->Hp->Prop),r9 X pins σ H s->wi σ H R->
  wpAny (model X.prog X.w) X.A (eval iter X.env) (λv s1=>wpAny (model X.prog X.w) X.A (pyIter v) (PIE X pins σ tg R) X.xe s1) X.xe s
def KC{M:Model}{A:Around}{E:Value->Shared->Prop}{s:Shared}{tg:Expr}{it:Addr}{u:Value}{o:Obj}{n:String}{vs:Array Value}{Q:Unit->Shared->Prop}(ho:s.heap.get? it=some o)(hc:o.cls=.type n)(hd:o.data=.fields vs)
    (hn:["enumerate","zip","dict_itemiterator","dict_reverseitemiterator","odict_iterator","itertools.zip_longest","itertools.pairwise"].contains n=false) (hQ:Q () s):wpAny M A (letOwnedTupleGo tg (.ref it) u) Q E s:=by
 unfold letOwnedTupleGo;cases tg <;>first
  | exact wpAny_pure hQ
  | (cases u <;>first
      | exact wpAny_pure hQ
      | (refine wpAny_bind (wpAny_load ho ?_)
         rw[hc,hd];show wpAny M A (if(["enumerate","zip","dict_itemiterator","dict_reverseitemiterator","odict_iterator","itertools.zip_longest","itertools.pairwise"].contains n && vs[0]? == some (rawInt _))=true then _ else _) Q E s;rw[if_neg (by intro h;rw[hn,Bool.false_and]at h;cases h)];exact wpAny_pure hQ))
def Ug(K:aa)(a:Addr):It:=
 ⟨λi H=>∃xs x,o7 K H a xs/\xs[i]? = some x,λi H x H'=>H'=H/\∀xs,o7 K H a xs->xs[i]? = some x,λi H=>∃xs,o7 K H a xs/\xs.length<=i⟩
def Ud(K:aa)(a:Addr):It:=
 ⟨λi H=>∃xs x,o9 K H a xs/\xs[i]? = some x,λi H x H'=>H'=H/\∀xs,o9 K H a xs->xs[i]? = some x,λi H=>∃xs,o9 K H a xs/\xs.length<=i⟩
def Ue(lo:Int)(n:Nat):It:=⟨λi _=>i < n,λi H x H'=>H'=H/\x=.int (lo+i),λi _=>n<=i⟩
def Ho{P:Program}{w:World}{K:aa}{tg:Expr}(a it:Addr):MN P w K tg (Ug K a) [it] it (λi h=>h.IsListIter it a i)where
 mem:=by simp
 obj:=λi h st b hb=>by
  have e:b=it:=by simpa using hb
  subst e;obtain⟨o,e,c,d⟩:=st;exact⟨o,e,λv z=>by rw[d]at z;cases z⟩
 keep:=λi h h' st k=>st.at λo e=>k it (by simp) o e
 item:=by
  intro X hP hw hK hc i pins s σ H E I hf st hg;subst hP hw hK;obtain⟨xs,x,hq,hx⟩:=hg;obtain⟨its,rv,p,hz⟩:=I.list hq;obtain⟨u,hu,ru⟩:=rv.get hx;obtain⟨f0,f1,f2,f3,f4,f5⟩:=hf it (by simp);refine wpAny_pyNext_list_item st p.isList (x:=u) (by simpa using hu) λh' st' sb=>?_;have I1:r9 X pins σ H { s with heap:=h' }:=I.turned (t':=s.toks) (λb o hb e=>(sb.2 b hb).trans e) f0 f1 f3 f4 f5;obtain⟨o,e,c,d⟩:=id st';exact⟨u,rfl,KC (s:={ s with heap:=h' }) e c d (by decide) ⟨x,H,I1,ru,⟨rfl,λys hy=>by rw[I.list_inj hy hq];exact hx⟩,st',λb hb=>(hf b hb).1⟩⟩
 done:=by
  intro X hP hw hK hc i pins s σ H E I hf st hg;subst hP hw hK;obtain⟨xs,hq,hx⟩:=hg;obtain⟨its,rv,p,hz⟩:=I.list hq;obtain⟨f0,f1,f2,f3,f4,f5⟩:=hf it (by simp);have hl:=rv.length;exact wpAny_pyNext_list_end (I.ok.hd hc) st p.isList (by simp;omega) λh' eb=>⟨rfl,I.turned (t':=s.toks) (λb o hb e=>eb b o hb e) f0 f1 f3 f4 f5⟩
 self:=λ_ _ _ _ _ st h=>wpAny_pyIter_listiter st h
def Fk{P:Program}{w:World}{K:aa}{tg:Expr}(a it:Addr):MN P w K tg (Ud K a) [it] it (λi h=>h.IsTupleIter it a i)where
 mem:=by simp
 obj:=λi h st b hb=>by
  have e:b=it:=by simpa using hb
  subst e;obtain⟨o,e,c,d⟩:=st;exact⟨o,e,λv z=>by rw[d]at z;cases z⟩
 keep:=λi h h' st k=>st.at λo e=>k it (by simp) o e
 item:=by
  intro X hP hw hK hc i pins s σ H E I hf st hg;subst hP hw hK;obtain⟨xs,x,hq,hx⟩:=hg;obtain⟨its,rv,p,hz⟩:=I.tuple hq;obtain⟨u,hu,ru⟩:=rv.get hx;obtain⟨f0,f1,f2,f3,f4,f5⟩:=hf it (by simp);refine wpAny_pyNext_tuple_item st (show s.heap.IsTuple a its.toArray from p) (x:=u) (by simpa using hu) λh' st' sb=>?_;have I1:r9 X pins σ H { s with heap:=h' }:=I.turned (t':=s.toks) (λb o hb e=>(sb.2 b hb).trans e) f0 f1 f3 f4 f5;obtain⟨o,e,c,d⟩:=id st';exact⟨u,rfl,KC (s:={ s with heap:=h' }) e c d (by decide) ⟨x,H,I1,ru,⟨rfl,λys hy=>by rw[I.tuple_inj hy hq];exact hx⟩,st',λb hb=>(hf b hb).1⟩⟩
 done:=by
  intro X hP hw hK hc i pins s σ H E I hf st hg;subst hP hw hK;obtain⟨xs,hq,hx⟩:=hg;obtain⟨its,rv,p,hz⟩:=I.tuple hq;obtain⟨f0,f1,f2,f3,f4,f5⟩:=hf it (by simp);have hl:=rv.length;exact wpAny_pyNext_tuple_end (I.ok.hd hc) st (show s.heap.IsTuple a its.toArray from p) (by simp;omega) λh' eb=>⟨rfl,I.turned (t':=s.toks) (λb o hb e=>eb b o hb e) f0 f1 f3 f4 f5⟩
 self:=λ_ _ _ _ _ st h=>wpAny_pyIter_tupleiter st h
def Lp{P:Program}{w:World}{K:aa}{tg:Expr}(it:Addr)(lo:Int)(n:Nat):MN P w K tg (Ue lo n) [it] it (λi h=>IsRangeIter h it (lo+(i:Nat) * 1) ((n:Int) - (i:Nat)) 1)where
 mem:=by simp
 obj:=λi h st b hb=>by
  have e:b=it:=by simpa using hb
  subst e;exact⟨_,st,λv z=>by
   have z':Data.fields _=Data.cell v:=z;cases z'⟩
 keep:=λi h h' st k=>k it (by simp) _ st
 item:=by
  intro X hP hw hK hc i pins s σ H E I hf st hg;subst hP hw hK;obtain⟨f0,f1,f2,f3,f4,f5⟩:=hf it (by simp);have W:=Walks.range (prog:=X.prog) (w:=X.w) (I.ok.hd hc) it lo 1 n;refine W.item i s _ _ hg st λv h' tk hv st' kk=>?_;obtain⟨t,rfl⟩:=hv;have I1:r9 X pins σ H { s with heap:=h',toks:=tk }:=I.turned (λb o hb e=>kk b o (by simpa using hb) e) f0 f1 f3 f4 f5;refine⟨_,rfl,KC (s:={ s with heap:=h',toks:=tk }) (n:="range_iterator") st' rfl rfl (by decide) ⟨.int (lo+i),H,I1,⟨t,?_⟩,⟨rfl,rfl⟩,st',λb hb=>(hf b hb).1⟩⟩;rw[cf]
 done:=by
  intro X hP hw hK hc i pins s σ H E I hf st hg;subst hP hw hK;obtain⟨f0,f1,f2,f3,f4,f5⟩:=hf it (by simp);exact wpAny_pyNext_range_end (I.ok.hd hc) st (by have:n<=i:=hg;omega) λh' eb=>⟨rfl,I.turned (t':=s.toks) (λb o hb e=>eb b o hb e) f0 f1 f3 f4 f5⟩
 self:=λ_ _ _ _ _ st h=>wpAny_pyIter_rangeiter st h
section
variable{X:Cx}{tg:Expr}
def TN(K:aa)(tl:TE):TI:=λσ H R=>tl σ H λx H1=>∃a,x=.ref a/\(∃xs,o7 K H1 a xs)/\R (Ug K a) H1
def VV(K:aa)(tl:TE):TI:=λσ H R=>tl σ H λx H1=>∃a,x=.ref a/\(∃xs,o9 K H1 a xs)/\R (Ud K a) H1
def C9{l:Expr}{tl:TE}(hl:PE X l tl):PI X tg l (TN X.K tl):=by
 intro pins s σ H R I h;refine E3 (hl pins s σ H _ I h) λv s1 ⟨x,H1,I1,r1,q1⟩=>?_;obtain⟨a,e,⟨xs,hq⟩,q⟩:=q1;subst e;cases r1;obtain⟨its,rv,p,hz⟩:=I1.list hq;refine wpAny_pyIter_list p.isList ?_;refine⟨s1.heap.objs.size,[s1.heap.objs.size],za ⟨H1,rfl,I1.kept (t':=s1.toks) λb o e=>ak _ e,Ho a _,⟨_,aA _ rfl,rfl,rfl⟩,λb hb=>?_,q⟩⟩;have e:b=s1.heap.objs.size:=by simpa using hb
 subst e;exact I1.fpOk (ae _) (I1.hok.fresh (ae _))
def L9{l:Expr}{tl:TE}(hl:PE X l tl):PI X tg l (VV X.K tl):=by
 intro pins s σ H R I h;refine E3 (hl pins s σ H _ I h) λv s1 ⟨x,H1,I1,r1,q1⟩=>?_;obtain⟨a,e,⟨xs,hq⟩,q⟩:=q1;subst e;cases r1;obtain⟨its,rv,p,hz⟩:=I1.tuple hq;refine wpAny_pyIter_tuple (show s1.heap.IsTuple a its.toArray from p) ?_;refine⟨s1.heap.objs.size,[s1.heap.objs.size],za ⟨H1,rfl,I1.kept (t':=s1.toks) λb o e=>ak _ e,Fk a _,⟨_,aA _ rfl,rfl,rfl⟩,λb hb=>?_,q⟩⟩;have e:b=s1.heap.objs.size:=by simpa using hb
 subst e;exact I1.fpOk (ae _) (I1.hok.fresh (ae _))
def PL{pins:List (Addr × Obj)}{σ:St}{H:Hp}{s:Shared}{R:It->Hp->Prop}{E:Value->Shared->Prop}{lo hi:Int}{t u v:Tok}{tk:Nat}(I:r9 X pins σ H s)(h1:-(2 ^ 62)<=lo)(h2:lo < 2 ^ 62)(h3:-(2 ^ 62)<=hi)(h4:hi < 2 ^ 62)
    (q:R (Ue lo (hi - lo).toNat) H):wpAny (model X.prog X.w) X.A (pyIter (.ref s.heap.objs.size)) (PIE X pins σ tg R) E { s with heap:=s.heap.push { cls:=.type "range",data:=.fields #[.int lo t,.int hi u,.int 1 v] },toks:=tk }:=by
 refine wpAny_pyIter_range (IsRange.new ..) (small_one h1 h2 h3 h4) ?_;have I1:r9 X pins σ H { s with heap:=s.heap.push { cls:=.type "range",data:=.fields #[.int lo t,.int hi u,.int 1 v] },toks:=tk }:=I.kept λb o e=>ak _ e;refine⟨(s.heap.push { cls:=.type "range",data:=.fields #[.int lo t,.int hi u,.int 1 v] }).objs.size,[(s.heap.push { cls:=.type "range",data:=.fields #[.int lo t,.int hi u,.int 1 v] }).objs.size],za ⟨H,rfl,
  I1.kept (t':=tk) λb o e=>ak _ e,Lp _ lo (hi - lo).toNat,?_,λb hb=>?_,q⟩⟩
 . have e1:lo+((0:Nat):Int) * 1=lo:=by simp
   have e2:(((hi - lo).toNat:Nat):Int) - ((0:Nat):Int)=Builtin.Range.rangeSize lo hi 1:=by rw[rangeSize_one];split <;>omega
   show IsRangeIter _ _ (lo+((0:Nat):Int) * 1) ((((hi - lo).toNat:Nat):Int) - ((0:Nat):Int)) 1;rw[e1,e2];exact aA _ rfl
 . have e:b=(s.heap.push { cls:=.type "range",data:=.fields #[.int lo t,.int hi u,.int 1 v] }).objs.size:=by simpa using hb
   subst e;exact I1.fpOk (ae _) (I1.hok.fresh (ae _))
def d0v(ta:TA):TI:=λσ H R=>ta σ H λvs H1=>∃j:Int,vs=[.int j]/\-(2 ^ 62)<=j/\j < 2 ^ 62/\R (Ue 0 j.toNat) H1
def C6{a:Expr}{ta:TA}{p pos:Pos}(hg:Gl X "range")(hm:X.mg "range"=none)(ha:PA X [a] ta)(hs:starEach [a] X.env=[(false,eval a X.env)]:=by rfl):PI X tg (.Call (.Name "range" p) [a] [] pos) (d0v ta):=by
 intro pins s σ H R I h;refine Call_ (AH I hg hm boot_range (cn (E3 (ha pos pins s σ H _ I h) λus s1 ⟨vs,H1,I1,r1,q1⟩=>?_) hs rfl));obtain⟨j,e,q1,q2,q⟩:=q1;subst e;cases r1 with
 | cons r rr=>
  cases rr;obtain⟨t,rfl⟩:=r;exact call_range_1 (PL I1 oM oM q1 q2 (by simpa using q))
def tFor(wi:TI)(g:TG)(tb:TS):TS:=λD σ H=>wi σ H λJ H1=>∃W:Nat->Nat->St->Hp->Prop,(∃m,W 0 m σ H1)/\∀i m σ H,W i m σ H->
 (J.stop i H/\D.nx σ H)\/(J.go i H/\∃N:St->Hp->Prop,(∀σ' H',N σ' H'->∃m',m' < m/\W (i+1) m' σ' H')/\∀x H',J.yld i H x H'->g x σ H' λσ2 H2=>tb { D with nx:=N,ct:=N,bk:=D.nx } σ2 H2)
def Fy(fp:List Addr)(h:Heap):List (Addr × Obj):=fp.filterMap λb=>(h.get? b).map λo=>(b,o)
def M0{fp:List Addr}{h:Heap}{b:Addr}{o:Obj}(hb:b∈fp)(e:h.get? b=some o):(b,o)∈Fy fp h:=bX.mpr ⟨b,hb,by rw[e];rfl⟩
def Oj{fp:List Addr}{h:Heap}{p:Addr × Obj}(hp:p∈Fy fp h):p.1∈fp/\h.get? p.1=some p.2:=by
 obtain⟨b,hb,e⟩:=bX.mp hp;cases q:h.get? b with
 | none=>rw[q]at e;cases e
 | some o=>
  rw[q]at e;have e':(b,o)=p:=Option.some.inj e;subst e';exact⟨hb,q⟩
def r9.pinned{pins:List (Addr × Obj)}{σ:St}{H:Hp}{s:Shared}{fp:List Addr}(I:r9 X pins σ H s)(hf:∀b∈fp,U8 X pins H b)(ho:∀b∈fp,∃o,s.heap.get? b=some o/\∀v,o.data≠.cell v):r9 X (pins++Fy fp s.heap) σ H s:=
 I.pins_of λp hp=>(aF.mp hp).elim (λz=>I.pin p (ax _ z)) λz=>by
  obtain⟨hb,e⟩:=Oj z;obtain⟨f0,f1,f2,_⟩:=hf p.1 hb;obtain⟨o,e',d⟩:=ho p.1 hb;rw[e]at e';cases e';exact⟨e,f0,f1,f2,d⟩
def r9.unpinned{pins pl:List (Addr × Obj)}{σ:St}{H:Hp}{s:Shared}(I:r9 X (pins++pl) σ H s):r9 X pins σ H s:=I.pins_of λp hp=>I.pin p (ax _ (aW _ hp))
def D7{iter:Expr}{body:List Stmt}{wi:TI}{g:TG}{tb:TS}{pos:Pos}(hp:PassesOwn (model X.prog X.w) X.A X.env X.xe)(hc:X.calm=true)(hi:PI X tg iter wi)(hg:PG X tg g)(hb:MP X body tb)
    (hs:∀x,foldedSetIterable iter X.env x=pure x:=by intro _;rfl):PS X (.For tg iter body [] pos) (tFor wi g tb):=by
 intro pins s σ H D I h;refine wpAny_For (E3 (hi pins s σ H _ I h) λv s1 h1=>E3 h1 λitv s2 h2=>?_) hs;obtain⟨it,fp,tn,J,H2,e,I2,T,st2,f2,W,⟨m0,w0⟩,turn⟩:=h2;subst e;have stat:∀{H':Hp},(∀b∈fp,H' b=none)->∀b∈fp,U8 X pins H' b:=λhn b hb=>⟨hn b hb,(f2 b hb).2⟩;refine codeAny_forLoop_any (λn s'=>∃i σ' H',r9 X pins σ' H' s'/\tn i s'.heap/\(∀b∈fp,H' b=none)/\W i n σ' H') ?_ m0 ⟨0,σ,H2,I2,st2,λb hb=>(f2 b hb).1,w0⟩;rintro n s3 ⟨i,σ3,H3,I3,st3,fr3,w3⟩;rcases turn i n σ3 H3 w3 with ⟨stop,qn⟩ | ⟨go,N,hN,step⟩
 . refine wpAny_passesOwn hp (E3 (T.done X rfl rfl rfl hc i pins s3 σ3 H3 X.xe I3 (stat fr3) st3 stop) λr s4 ⟨hr,I4⟩=>?_);subst hr;exact wpAny_execs_nil ⟨σ3,H3,I4,qn⟩
 . refine wpAny_passesOwn hp (E3 (T.item X rfl rfl rfl hc i pins s3 σ3 H3 X.xe I3 (stat fr3) st3 go) λr s4 ⟨u,hr,h4⟩=>?_);subst hr;refine wpAny_passesOwn hp (E3 h4 λ_ s5 ⟨x,H5,I5,r5,y5,st5,fr5⟩=>?_);have I5':=I5.pinned (stat fr5) (T.obj _ _ st5);refine wpAny_passesOwn hp (E3 (hg _ s5 σ3 H5 x u _ I5' r5 (step x H5 y5)) λ_ s6 ⟨σ6,H6,I6,q6⟩=>?_);refine wpAny_passesOwn hp (E3 (hb _ s6 σ6 H6 _ I6 q6) λf s7 q7=>?_);have again:∀{σ7:St} {H7:Hp},r9 X (pins++Fy fp s5.heap) σ7 H7 s7->N σ7 H7->∃m,m < n/\∃i σ' H',r9 X pins σ' H' s7/\tn i s7.heap/\(∀b∈fp,H' b=none)/\W i m σ' H':=λ{σ7 H7} I7 n7=>by
    obtain⟨m',hm,w7⟩:=hN σ7 H7 n7;refine⟨m',hm,i+1,σ7,H7,I7.unpinned,T.keep _ _ _ st5 λb hb o e=>(I7.pin (b,o) (ax _ (ax _ (M0 hb e)))).1,λb hb=>?_,w7⟩;obtain⟨o,e,d⟩:=T.obj _ _ st5 b hb;exact(I7.pin (b,o) (ax _ (ax _ (M0 hb e)))).2.1
   cases f with
   | next=>obtain⟨σ7,H7,I7,n7⟩:=q7;exact again I7 n7
   | cont=>obtain⟨σ7,H7,I7,n7⟩:=q7;exact again I7 n7
   | brk=>obtain⟨σ7,H7,I7,q7⟩:=q7;exact⟨σ7,H7,I7.unpinned,q7⟩
   | ret v=>obtain⟨x7,σ7,H7,I7,r7,q7⟩:=q7;exact⟨x7,σ7,H7,I7.unpinned,r7,q7⟩
end
def BI{K:aa}{a:Addr}{xs:List V}{g:TG}{tb:TS}{D:Gr}{σ:St}{H:Hp}(Pv:Nat->St->Hp->Prop)(h0:Pv 0 σ H)(hl:∀i σ H,i<=xs.length->Pv i σ H->o7 K H a xs)
    (hs:∀i x σ H,xs[i]? = some x->Pv i σ H->g x σ H λσ2 H2=>tb { D with nx:=Pv (i+1),ct:=Pv (i+1),bk:=D.nx } σ2 H2) (hd:∀σ H,Pv xs.length σ H->D.nx σ H) :
    ∃W:Nat->Nat->St->Hp->Prop,(∃m,W 0 m σ H)/\∀i m σ H,W i m σ H->
     ((Ug K a).stop i H/\D.nx σ H)\/((Ug K a).go i H/\∃N:St->Hp->Prop,(∀σ' H',N σ' H'->∃m',m' < m/\W (i+1) m' σ' H')/\∀x H',(Ug K a).yld i H x H'->g x σ H' λσ2 H2=>tb { D with nx:=N,ct:=N,bk:=D.nx } σ2 H2):=by
 refine⟨λi m σ H=>m=xs.length - i/\i<=xs.length/\Pv i σ H,⟨xs.length,by simp,aR _,h0⟩,?_⟩;rintro i m σ H ⟨rfl,hi,p⟩;have q:=hl i σ H hi p;by_cases hlt:i < xs.length
 . refine .inr ⟨⟨xs,xs[i],q,by simp[hlt]⟩,Pv (i+1),λσ' H' p'=>⟨xs.length - (i+1),oM,rfl,hlt,p'⟩,λx H' y=>?_⟩;obtain⟨e,y⟩:=y;subst e;exact hs i x σ _ (y xs q) p
 . have e:i=xs.length:=by omega
   subst e;exact .inl ⟨⟨xs,q,ae _⟩,hd σ H p⟩
def DD{K:aa}{a:Addr}{xs:List V}{g:TG}{tb:TS}{D:Gr}{σ:St}{H:Hp}(Pv:Nat->St->Hp->Prop)(h0:Pv 0 σ H)(hl:∀i σ H,i<=xs.length->Pv i σ H->o9 K H a xs)
    (hs:∀i x σ H,xs[i]? = some x->Pv i σ H->g x σ H λσ2 H2=>tb { D with nx:=Pv (i+1),ct:=Pv (i+1),bk:=D.nx } σ2 H2) (hd:∀σ H,Pv xs.length σ H->D.nx σ H) :
    ∃W:Nat->Nat->St->Hp->Prop,(∃m,W 0 m σ H)/\∀i m σ H,W i m σ H->
     ((Ud K a).stop i H/\D.nx σ H)\/((Ud K a).go i H/\∃N:St->Hp->Prop,(∀σ' H',N σ' H'->∃m',m' < m/\W (i+1) m' σ' H')/\∀x H',(Ud K a).yld i H x H'->g x σ H' λσ2 H2=>tb { D with nx:=N,ct:=N,bk:=D.nx } σ2 H2):=by
 refine⟨λi m σ H=>m=xs.length - i/\i<=xs.length/\Pv i σ H,⟨xs.length,by simp,aR _,h0⟩,?_⟩;rintro i m σ H ⟨rfl,hi,p⟩;have q:=hl i σ H hi p;by_cases hlt:i < xs.length
 . refine .inr ⟨⟨xs,xs[i],q,by simp[hlt]⟩,Pv (i+1),λσ' H' p'=>⟨xs.length - (i+1),oM,rfl,hlt,p'⟩,λx H' y=>?_⟩;obtain⟨e,y⟩:=y;subst e;exact hs i x σ _ (y xs q) p
 . have e:i=xs.length:=by omega
   subst e;exact .inl ⟨⟨xs,q,ae _⟩,hd σ H p⟩
def An{lo:Int}{n:Nat}{g:TG}{tb:TS}{D:Gr}{σ:St}{H:Hp}(Pv:Nat->St->Hp->Prop)(h0:Pv 0 σ H)
    (hs:∀i σ H,i < n->Pv i σ H->g (.int (lo+i)) σ H λσ2 H2=>tb { D with nx:=Pv (i+1),ct:=Pv (i+1),bk:=D.nx } σ2 H2) (hd:∀σ H,Pv n σ H->D.nx σ H) :
    ∃W:Nat->Nat->St->Hp->Prop,(∃m,W 0 m σ H)/\∀i m σ H,W i m σ H->
     ((Ue lo n).stop i H/\D.nx σ H)\/((Ue lo n).go i H/\∃N:St->Hp->Prop,(∀σ' H',N σ' H'->∃m',m' < m/\W (i+1) m' σ' H')/\∀x H',(Ue lo n).yld i H x H'->g x σ H' λσ2 H2=>tb { D with nx:=N,ct:=N,bk:=D.nx } σ2 H2):=by
 refine⟨λi m σ H=>m=n - i/\i<=n/\Pv i σ H,⟨n,by simp,aR _,h0⟩,?_⟩;rintro i m σ H ⟨rfl,hi,p⟩;by_cases hlt:i < n
 . refine .inr ⟨hlt,Pv (i+1),λσ' H' p'=>⟨n - (i+1),oM,rfl,hlt,p'⟩,λx H' y=>?_⟩;obtain⟨e,y⟩:=y;subst e y;exact hs i σ _ hlt p
 . have e:i=n:=by omega
   subst e;exact .inl ⟨ae _,hd σ H p⟩
abbrev R2:=V->V->Hp->VK->Prop
def DH(X:Cx)(f:Value->Value->Sem Value)(r:R2):Prop:=
 ∀(pins:List (Addr × Obj)) (s:Shared) (σ:St) (H:Hp) (x y:V) (v u:Value) (Q:VK),r9 X pins σ H s->D5 x v->D5 y u->r x y H Q->
  wpAny (model X.prog X.w) X.A (f v u) (EP X pins σ Q) X.xe s
def UnR(X:Cx)(f:Value->Sem Value)(r:V->Hp->VK->Prop):Prop:=
 ∀(pins:List (Addr × Obj)) (s:Shared) (σ:St) (H:Hp) (x:V) (v:Value) (Q:VK),r9 X pins σ H s->D5 x v->r x H Q->
  wpAny (model X.prog X.w) X.A (f v) (EP X pins σ Q) X.xe s
def U2(X:Cx)(f:Value)(r:List V->Hp->VK->Prop):Prop:=
 ∀(pins:List (Addr × Obj)) (s:Shared) (σ:St) (H:Hp) (xs:List V) (us:List Value) (Q:VK),r9 X pins σ H s->z8 xs us->r xs H Q->
  wpAny (model X.prog X.w) X.A (call f us) (EP X pins σ Q) X.xe s
def TruR(X:Cx)(r:V->Hp->(Bool->Hp->Prop)->Prop):Prop:=
 ∀(pins:List (Addr × Obj)) (s:Shared) (σ:St) (H:Hp) (x:V) (v:Value) (Q:Bool->Hp->Prop),r9 X pins σ H s->D5 x v->r x H Q->
  wpAny (model X.prog X.w) X.A (truthy v) (TP X pins σ Q) X.xe s
def tOp(r:R2)(ta tb:TE):TE:=λσ H Q=>ta σ H λx H1=>tb σ H1 λy H2=>r x y H2 Q
def tUn(r:V->Hp->VK->Prop)(ta:TE):TE:=λσ H Q=>ta σ H λx H1=>r x H1 Q
def rI(C:Int->Int->Prop)(g:Int->Int->V):R2:=λx y H Q=>∃i j,x=.int i/\y=.int j/\C i j/\Q (g i j) H
def TF(g:Int->Int->V):R2:=λx y H Q=>∃i j,x=.int i/\y=.int j/\Q (g i j) H
def rU(g:Int->V):V->Hp->VK->Prop:=λx H Q=>∃i,x=.int i/\Q (g i) H
section
variable{X:Cx}{a b c:Expr}{ta tb tc:TE}{pos:Pos}
def Wn(ha:PE X a ta)(hb:PE X b tb){pins:List (Addr × Obj)}{s:Shared}{σ:St}{H:Hp}{R:V->V->Hp->Prop}(I:r9 X pins σ H s)
    (h:ta σ H λx H1=>tb σ H1 λy H2=>R x y H2) {Q:Value->Shared->Prop} {f:Value->Value->Sem Value}
    (hf:∀v u s2 x y H2,r9 X pins σ H2 s2->D5 x v->D5 y u->R x y H2->wpAny (model X.prog X.w) X.A (f v u) Q X.xe s2) :
    wpAny (model X.prog X.w) X.A (eval a X.env) (λv s₁=>wpAny (model X.prog X.w) X.A (eval b X.env) (λu s₂=>wpAny (model X.prog X.w) X.A (f v u) Q X.xe s₂) X.xe s₁) X.xe s:=by
 refine E3 (ha pins s σ H _ I h) λv s1 ⟨x,H1,I1,r1,q1⟩=>?_;refine E3 (hb pins s1 σ H1 _ I1 q1) λu s2 ⟨y,H2,I2,r2,q2⟩=>?_;exact hf v u s2 x y H2 I2 r1 r2 q2
def o6{op:Operator}{r:R2}(ho:DH X (binaryOp op) r)(ha:PE X a ta)(hb:PE X b tb):PE X (.BinOp a op b pos) (tOp r ta tb):=by
 intro pins s σ H Q I h;exact wpAny_BinOp (Wn ha hb I h λv u s2 x y H2 I2 rx ry q=>ho pins s2 σ H2 x y v u Q I2 rx ry q)
def PX{op:UnaryOp}{r:V->Hp->VK->Prop}(ho:UnR X (unaryOp op) r)(ha:PE X a ta):PE X (.UnaryOp op a pos) (tUn r ta):=by
 intro pins s σ H Q I h;exact UnaryOp_ (E3 (ha pins s σ H _ I h) λv s1 ⟨x,H1,I1,r1,q1⟩=>ho pins s1 σ H1 x v Q I1 r1 q1)
def XU{f:Value->Value->Sem Value}{C:Int->Int->Prop}{g:Int->Int->Int}
    (rule:∀(i j:Int) (t u:Tok) (s:Shared) (Q:Value->Shared->Prop) (E:Value->Shared->Prop),C i j->Q (.int (g i j) s.toks) { s with toks:=s.toks+1 }->wpAny (model X.prog X.w) X.A (f (.int i t) (.int j u)) Q E s) :
    DH X f (rI C λi j=>.int (g i j)):=by
 intro pins s σ H x y v u Q I rx ry h;obtain⟨i,j,rfl,rfl,hc,q⟩:=h;obtain⟨t,rfl⟩:=rx;obtain⟨t',rfl⟩:=ry;exact rule i j t t' s _ _ hc ⟨.int (g i j),H,I.tok _,⟨_,rfl⟩,q⟩
def XS{f:Value->Value->Sem Value}{g:Int->Int->Int}
    (rule:∀(i j:Int) (t u:Tok) (s:Shared) (Q:Value->Shared->Prop) (E:Value->Shared->Prop),Q (.int (g i j) s.toks) { s with toks:=s.toks+1 }->wpAny (model X.prog X.w) X.A (f (.int i t) (.int j u)) Q E s) :
    DH X f (TF λi j=>.int (g i j)):=by
 intro pins s σ H x y v u Q I rx ry h;obtain⟨i,j,rfl,rfl,q⟩:=h;obtain⟨t,rfl⟩:=rx;obtain⟨t',rfl⟩:=ry;exact rule i j t t' s _ _ ⟨.int (g i j),H,I.tok _,⟨_,rfl⟩,q⟩
def Sn{f:Value->Value->Sem Value}{g:Int->Int->Bool}
    (rule:∀(i j:Int) (t u:Tok) (s:Shared) (Q:Value->Shared->Prop) (E:Value->Shared->Prop),Q (.bool (g i j)) s->wpAny (model X.prog X.w) X.A (f (.int i t) (.int j u)) Q E s) :
    DH X f (TF λi j=>.bl (g i j)):=by
 intro pins s σ H x y v u Q I rx ry h;obtain⟨i,j,rfl,rfl,q⟩:=h;obtain⟨t,rfl⟩:=rx;obtain⟨t',rfl⟩:=ry;exact rule i j t t' s _ _ ⟨.bl (g i j),H,I,rfl,q⟩
def CPow(i j:Int):Prop:=0<=j/\j<=1000000/\i.natAbs < 2 ^ 64
def OP(i j:Int):Prop:=(-(2 ^ 64) < i/\i < 2 ^ 64)\/(-(2 ^ 64) < j/\j < 2 ^ 64)
def OP.ok{i j:Int}(h:OP i j):IntMulOk i j:=by
 rcases h with ⟨h1,h2⟩ | ⟨h1,h2⟩
 . exact .of_left (intBits_le_64 h1 h2)
 . exact .of_right (intBits_le_64 h1 h2)
def L5:DH X (binaryOp .Add) (TF λi j=>.int (i+j)):=XS λ_ _ _ _ _ _ _ q=>add_int q
def Ec:DH X (binaryOp .Sub) (TF λi j=>.int (i - j)):=XS λ_ _ _ _ _ _ _ q=>sub_int q
def Ed:DH X (binaryOp .Mult) (rI OP λi j=>.int (i * j)):=XU λ_ _ _ _ _ _ _ hc q=>mul_int q hc.ok
def F2:DH X (binaryOp .Mod) (rI (λ_ j=>j≠0) λi j=>.int (i.fmod j)):=XU λ_ _ _ _ _ _ _ hc q=>mod_int' hc q
def Vg:DH X (binaryOp .Pow) (rI CPow λi j=>.int (i ^ j.toNat)):=XU λ_ _ _ _ _ _ _ hc q=>pow_int_small hc.1 hc.2.1 hc.2.2 q
def unI{f:Value->Sem Value}{g:Int->Int}
    (rule:∀(i:Int) (t:Tok) (s:Shared) (Q:Value->Shared->Prop) (E:Value->Shared->Prop),Q (.int (g i) s.toks) { s with toks:=s.toks+1 }->wpAny (model X.prog X.w) X.A (f (.int i t)) Q E s) :
    UnR X f (rU λi=>.int (g i)):=by
 intro pins s σ H x v Q I rx h;obtain⟨i,rfl,q⟩:=h;obtain⟨t,rfl⟩:=rx;exact rule i t s _ _ ⟨.int (g i),H,I.tok _,⟨_,rfl⟩,q⟩
def Ln:UnR X (unaryOp .USub) (rU λi=>.int (-i)):=unI λ_ _ _ _ _ q=>neg_int q
end
def WU:V->V->Bool
 | .non,.non=>true | .non,.int _=>true | .int _,.non=>true | .non,.bl _=>true | .bl _,.non=>true | .non,.str _=>true | .str _,.non=>true
 | .int _,.int _=>true | .bl _,.bl _=>true | .str _,.str _=>true | .byt _,.byt _=>true
 | .int _,.str _=>true | .str _,.int _=>true | .bl _,.str _=>true | .str _,.bl _=>true
 | _,_=>false
def rEq:R2:=λx y H Q=>WU x y=true/\Q (.bl (decide (x=y))) H
def rNe:R2:=λx y H Q=>WU x y=true/\Q (.bl (!decide (x=y))) H
def ND{i j:Int}:decide (V.int i=V.int j)=(i == j):=by
 rw[cG];simp
def Ra{i j:Bool}:decide (V.bl i=V.bl j)=(i == j):=by
 rw[cG];simp
def NC{i j:Str}:decide (V.str i=V.str j)=(i == j):=by
 rw[cG];simp
def NF{i j:Array UInt8}:decide (V.byt i=V.byt j)=(i.toList == j.toList):=by
 rw[cG];cases i;cases j;simp
section
variable{X:Cx}{a b c:Expr}{ta tb tc:TE}{pos:Pos}
def C5{pins:List (Addr × Obj)}{σ:St}{H:Hp}{s:Shared}{Q:VK}{k k':Bool}(I:r9 X pins σ H s)(q:Q (.bl k) H)(e:k=k'):EP X pins σ Q (.bool k') s:=by
 subst e;exact⟨.bl k,H,I,rfl,q⟩
def M5:DH X (compareOp .Eq) rEq:=by
 intro pins s σ H x y v u Q I rx ry h;obtain⟨hs,q⟩:=h;cases x with
 | non=>
  cases rx;cases y with
  | non=>cases ry;exact PySem.EqNone.eq_none_none (C5 I q (by simp))
  | bl j=>cases ry;exact PySem.EqNone.eq_none_bool (C5 I q (by simp))
  | int j=>obtain⟨t',rfl⟩:=ry;exact PySem.EqNone.eq_none_int (C5 I q (by simp))
  | str j=>obtain⟨t',rfl⟩:=ry;exact PySem.EqNone.eq_none_str (C5 I q (by simp))
  | _=>exact absurd (show false=true from hs) aJ
 | bl i=>
  cases rx;cases y with
  | non=>cases ry;exact PySem.EqNone.eq_bool_none (C5 I q (by simp))
  | bl j=>cases ry;exact eq_bool (C5 I q Ra)
  | str j=>obtain⟨t',rfl⟩:=ry;exact PySem.EqMixed.eq_bool_str (C5 I q (by simp))
  | _=>exact absurd (show false=true from hs) aJ
 | int i=>
  obtain⟨t,rfl⟩:=rx;cases y with
  | non=>cases ry;exact PySem.EqNone.eq_int_none (C5 I q (by simp))
  | int j=>obtain⟨t',rfl⟩:=ry;exact eq_int (C5 I q ND)
  | str j=>obtain⟨t',rfl⟩:=ry;exact PySem.EqMixed.eq_int_str (C5 I q (by simp))
  | _=>exact absurd (show false=true from hs) aJ
 | str i=>
  obtain⟨t,rfl⟩:=rx;cases y with
  | non=>cases ry;exact PySem.EqNone.eq_str_none (C5 I q (by simp))
  | bl j=>cases ry;exact PySem.EqMixed.eq_str_bool (C5 I q (by simp))
  | int j=>obtain⟨t',rfl⟩:=ry;exact PySem.EqMixed.eq_str_int (C5 I q (by simp))
  | str j=>obtain⟨t',rfl⟩:=ry;exact eq_str (C5 I q NC)
  | _=>exact absurd (show false=true from hs) aJ
 | byt i=>
  obtain⟨t,rfl⟩:=rx;cases y with
  | byt j=>obtain⟨t',rfl⟩:=ry;exact PySem.W.eq_bytes (C5 I q NF)
  | _=>exact absurd (show false=true from hs) aJ
 | _=>cases y <;>exact absurd (show false=true from hs) aJ
def Dk:DH X (compareOp .NotEq) rNe:=by
 intro pins s σ H x y v u Q I rx ry h;obtain⟨hs,q⟩:=h;cases x with
 | non=>
  cases rx;cases y with
  | non=>cases ry;exact PySem.EqNone.ne_none_none (C5 I q (by simp))
  | bl j=>cases ry;exact PySem.EqNone.ne_none_bool (C5 I q (by simp))
  | int j=>obtain⟨t',rfl⟩:=ry;exact PySem.EqNone.ne_none_int (C5 I q (by simp))
  | str j=>obtain⟨t',rfl⟩:=ry;exact PySem.EqNone.ne_none_str (C5 I q (by simp))
  | _=>exact absurd (show false=true from hs) aJ
 | bl i=>
  cases rx;cases y with
  | non=>cases ry;exact PySem.EqNone.ne_bool_none (C5 I q (by simp))
  | bl j=>cases ry;exact ne_bool (C5 I q (congrArg not Ra))
  | str j=>obtain⟨t',rfl⟩:=ry;exact PySem.EqMixed.ne_bool_str (C5 I q (by simp))
  | _=>exact absurd (show false=true from hs) aJ
 | int i=>
  obtain⟨t,rfl⟩:=rx;cases y with
  | non=>cases ry;exact PySem.EqNone.ne_int_none (C5 I q (by simp))
  | int j=>obtain⟨t',rfl⟩:=ry;exact ne_int (C5 I q (congrArg not ND))
  | str j=>obtain⟨t',rfl⟩:=ry;exact PySem.EqMixed.ne_int_str (C5 I q (by simp))
  | _=>exact absurd (show false=true from hs) aJ
 | str i=>
  obtain⟨t,rfl⟩:=rx;cases y with
  | non=>cases ry;exact PySem.EqNone.ne_str_none (C5 I q (by simp))
  | bl j=>cases ry;exact PySem.EqMixed.ne_str_bool (C5 I q (by simp))
  | int j=>obtain⟨t',rfl⟩:=ry;exact PySem.EqMixed.ne_str_int (C5 I q (by simp))
  | str j=>obtain⟨t',rfl⟩:=ry;exact ne_str (C5 I q (congrArg not NC))
  | _=>exact absurd (show false=true from hs) aJ
 | byt i=>
  obtain⟨t,rfl⟩:=rx;cases y with
  | byt j=>obtain⟨t',rfl⟩:=ry;exact PySem.W.ne_bytes (C5 I q (congrArg not NF))
  | _=>exact absurd (show false=true from hs) aJ
 | _=>cases y <;>exact absurd (show false=true from hs) aJ
def Ni:DH X (compareOp .Lt) (TF λi j=>.bl (decide (i < j))):=Sn λ_ _ _ _ _ _ _ q=>lt_int q
def TJ:DH X (compareOp .LtE) (TF λi j=>.bl (decide (i<=j))):=Sn λ_ _ _ _ _ _ _ q=>le_int q
def Cg:DH X (compareOp .Gt) (TF λi j=>.bl (decide (j < i))):=Sn λ_ _ _ _ _ _ _ q=>gt_int q
def XR:DH X (compareOp .GtE) (TF λi j=>.bl (decide (j<=i))):=Sn λ_ _ _ _ _ _ _ q=>ge_int q
def Vh:DH X (compareOp .Is) (λx y H Q=>y=.non/\Q (.bl (decide (x=.non))) H):=by
 intro pins s σ H x y v u Q I rx ry h;obtain⟨rfl,q⟩:=h;cases ry;refine is_none_gen (C5 I q ?_);cases x <;>first
  | (cases rx;rfl)
  | (obtain⟨t,rfl⟩:=rx;rfl)
def w6(b:Expr){op:CmpOp}(h:op≠.In:=by decide)(h2:op≠.NotIn:=by decide):behindInMarks op b=false:=by
 have e1:(op == CmpOp.In)=false:=by cases op <;>first | rfl | exact absurd rfl h
 have e2:(op == CmpOp.NotIn)=false:=by cases op <;>first | rfl | exact absurd rfl h2
 cases b <;>simp[behindInMarks,e1,e2]
def Dj{op:CmpOp}{r:R2}(ho:DH X (compareOp op) r)(ha:PE X a ta)(hb:PE X b tb)(hm:behindInMarks op b=false):PE X (.Compare a [op] [b] pos) (tOp r ta tb):=by
 intro pins s σ H Q I h;exact wpAny_Compare1 (Wn ha hb I h λv u s2 x y H2 I2 rx ry q=>ho pins s2 σ H2 x y v u Q I2 rx ry q) hm
def WA(t:TE):TT:=λσ H Q=>t σ H λx H'=>∃k,x=.bl k/\Q k H'
def o8{op:CmpOp}{r:R2}(ho:DH X (compareOp op) r)(ha:PE X a ta)(hb:PE X b tb)(hm:behindInMarks op b=false):PT X (.Compare a [op] [b] pos) (WA (tOp r ta tb)):=by
 intro pins s σ H Q I h;refine wpAny_isTrue_Compare1 (E3 (ha pins s σ H _ I h) λv s1 ⟨x,H1,I1,r1,q1⟩=>E3 (hb pins s1 σ H1 _ I1 q1) λu s2 ⟨y,H2,I2,r2,q2⟩=>
  E3 (ho pins s2 σ H2 x y v u _ I2 r1 r2 q2) λc s3 ⟨z,H3,I3,r3,k,e,q3⟩=>?_) hm
 subst e;cases r3;exact wpAny_truthy_bool ⟨H3,I3,q3⟩
def Uu(r r':R2)(ta tb tc:TE):TE:=λσ H Q=>ta σ H λx H1=>tb σ H1 λy H2=>r x y H2 λz H3=>∃k,z=.bl k/\
 (if k=true then tc σ H3 λw' H4=>r' y w' H4 Q else Q (.bl false) H3)
def Qc{op op':CmpOp}{r r':R2}(ho:DH X (compareOp op) r)(ho':DH X (compareOp op') r')(ha:PE X a ta)(hb:PE X b tb)(hc:PE X c tc)
    (hm:lastMarks [op,op'] [b,c]=false:=by with_unfolding_all rfl):PE X (.Compare a [op,op'] [b,c] pos) (Uu r r' ta tb tc):=by
 intro pins s σ H Q I h;refine Compare_chain (E3 (ha pins s σ H _ I h) λv s1 ⟨x,H1,I1,r1,q1⟩=>chain_link (E3 (hb pins s1 σ H1 _ I1 q1) λu s2 ⟨y,H2,I2,r2,q2⟩=>
  E3 (ho pins s2 σ H2 x y v u _ I2 r1 r2 q2) λd s3 ⟨z,H3,I3,r3,k,e,q3⟩=>?_)) hm
 subst e;cases r3;refine wpAny_truthy_bool ?_;cases k with
 | false=>exact ite_ff ⟨.bl false,H3,I3,rfl,q3⟩
 | true=>exact ite_tt (chain_last (E3 (hc pins s3 σ H3 _ I3 q3) λw' s4 ⟨z',H4,I4,r4,q4⟩=>ho' pins s4 σ H4 y z' u w' Q I4 r2 r4 q4))
def TruV(K:aa)(x:V)(H:Hp)(k:Bool):Prop:=
 match x with
 | .non=>k=false
 | .bl b=>k=b
 | .int i=>k=(i != 0)
 | .str y=>y.length<=sizeLine/\k=((y.length:Int) != 0)
 | .byt y=>y.size<=sizeLine/\k=((y.size:Int) != 0)
 | .ref p=>(∃xs,o7 K H p xs/\k = !xs.isEmpty)\/(∃xs,o9 K H p xs/\k = !xs.isEmpty)\/∃kvs,H p=some (.dK kvs)/\k = !kvs.isEmpty
 | _=>False
def Mu{κ:Type}{kvs:List (κ × V)}{vs:List (κ × Value)}(r:KV kvs vs):(!vs.isEmpty) = !kvs.isEmpty:=by
 cases r <;>rfl
def FU{xs:List V}{its:List Value}(r:z8 xs its):(!its.toArray.isEmpty) = !xs.isEmpty:=by
 cases r <;>simp
def Ei:(sizeLine:Nat) < 2 ^ 63:=by rw[sizeLine_eq];decide
def tru_ok:TruR X (λx H Q=>∃k,TruV X.K x H k/\Q k H):=by
 intro pins s σ H x v Q I rx h;obtain⟨k,e,q⟩:=h;have hl:=Ei;have hs:sizeLine=16777216:=sizeLine_eq;cases x with
 | non=>
  cases rx;have e':k=false:=e;subst e';exact truthy_none ⟨H,I,q⟩
 | bl b=>
  cases rx;have e':k=b:=e;subst e';exact wpAny_truthy_bool ⟨H,I,q⟩
 | int i=>
  obtain⟨t,rfl⟩:=rx;have e':k=(i != 0):=e;subst e';exact PySem.P.truthy_int ⟨H,I,q⟩
 | str y=>
  obtain⟨t,rfl⟩:=rx;obtain⟨hy,e'⟩:y.length<=sizeLine/\k=((y.length:Int) != 0):=e;subst e';exact PySem.P.truthy_str oM ⟨H,I.tok _,q⟩
 | byt y=>
  obtain⟨t,rfl⟩:=rx;obtain⟨hy,e'⟩:y.size<=sizeLine/\k=((y.size:Int) != 0):=e;subst e';exact PySem.W.truthy_bytes oM ⟨H,I.tok _,q⟩
 | ref p=>
  cases rx;have e':(∃xs,o7 X.K H p xs/\k = !xs.isEmpty)\/(∃xs,o9 X.K H p xs/\k = !xs.isEmpty)\/∃kvs,H p=some (.dK kvs)/\k = !kvs.isEmpty:=e;rcases e' with ⟨xs,hx,e'⟩ | ⟨xs,hx,e'⟩ | ⟨kvs,hx,e'⟩
  . subst e';obtain⟨its,r,pl,hz⟩:=I.list hx;have hlen:=r.length;exact wpAny_truthy_list pl.isList (by simp only[au];omega) ⟨H,I.tok _,by rw[FU r];exact q⟩
  . subst e';obtain⟨its,r,pl,hz⟩:=I.tuple hx;have hlen:=r.length;exact truthy_tuple pl (by simp only[au];omega) ⟨H,I.tok _,by rw[FU r];exact q⟩
  . subst e';obtain⟨hz,hS,vs,r,m⟩:kvs.length<=sizeLine/\(p == sysModules)=false/\∃vs,KV kvs vs/\s.heap.DictOf (IC X.prog X.w) p vs:=I.hok p _ hx;have hlen:kvs.length=vs.length:=Paired.length r;exact wpAny_truthy_dict hS m oM ⟨H,I.tok _,by rw[Mu r];exact q⟩
 | _=>exact(show False from e).elim
def Ma:DH X (binaryOp .Add) (λx y H Q=>∃i j,x=.str i/\y=.str j/\i.length+j.length<=sizeLine/\Q (.str (i++j)) H):=by
 intro pins s σ H x y v u Q I rx ry h;obtain⟨i,j,rfl,rfl,hz,q⟩:=h;obtain⟨t,rfl⟩:=rx;obtain⟨t',rfl⟩:=ry;exact add_str (λt' tk=>⟨.str (i++j),H,I.tok _,⟨_,rfl⟩,q⟩) hz
def Hn{x:V}{us:List Value}(r:z8 [x] us):∃u,us=[u]/\D5 x u:=by
 cases r with
 | cons r1 r2=>cases r2;exact⟨_,rfl,r1⟩
def Gn:U2 X (.builtin "abs") (λxs H Q=>∃i,xs=[.int i]/\Q (.int (if i < 0 then -i else i)) H):=by
 intro pins s σ H xs us Q I r h;obtain⟨i,rfl,q⟩:=h;obtain⟨u,rfl,t,rfl⟩:=Hn r;exact call_abs_int λu tk=>⟨.int (if i < 0 then -i else i),H,I.tok _,⟨_,rfl⟩,q⟩
def BS:U2 X (.type "int") (λxs H Q=>(∃i,xs=[.int i]/\Q (.int i) H)\/∃k,xs=[.bl k]/\Q (.int (if k then 1 else 0)) H):=by
 intro pins s σ H xs us Q I r h;rcases h with ⟨i,rfl,q⟩ | ⟨k,rfl,q⟩
 . obtain⟨u,rfl,t,rfl⟩:=Hn r;exact call_int_int ⟨.int i,H,I,⟨_,rfl⟩,q⟩
 . obtain⟨u,rfl,r1⟩:=Hn r;cases r1;exact call_int_bool ⟨.int (if k then 1 else 0),H,I.tok _,⟨_,rfl⟩,q⟩
def X2(K:aa)(x:V)(H:Hp)(n:Nat):Prop:=
 match x with
 | .str y=>y.length<=sizeLine/\n=y.length
 | .byt y=>y.size<=sizeLine/\n=y.size
 | .ref p=>(∃xs,o7 K H p xs/\n=xs.length)\/∃xs,o9 K H p xs/\n=xs.length
 | _=>False
def w8:U2 X (.builtin "len") (λxs H Q=>∃x n,xs=[x]/\X2 X.K x H n/\Q (.int n) H):=by
 intro pins s σ H xs us Q I r h;obtain⟨x,n,rfl,e,q⟩:=h;obtain⟨u,rfl,rx⟩:=Hn r;have hl:=Ei;have hs:sizeLine=16777216:=sizeLine_eq;cases x with
 | str y=>
  obtain⟨t,rfl⟩:=rx;obtain⟨hy,e'⟩:y.length<=sizeLine/\n=y.length:=e;subst e';exact len_str oM ⟨.int _,H,I.tok _,⟨_,rfl⟩,q⟩
 | byt y=>
  obtain⟨t,rfl⟩:=rx;obtain⟨hy,e'⟩:y.size<=sizeLine/\n=y.size:=e;subst e';exact PySem.W.len_bytes oM ⟨.int _,H,I.tok _,⟨_,rfl⟩,q⟩
 | ref p=>
  cases rx;have e':(∃xs,o7 X.K H p xs/\n=xs.length)\/∃xs,o9 X.K H p xs/\n=xs.length:=e;rcases e' with ⟨xs,hx,e'⟩ | ⟨xs,hx,e'⟩
  . subst e';obtain⟨its,r',pl,hz⟩:=I.list hx;have hlen:=r'.length;exact Calls.call_len_list pl.isList (by simp only[au];omega) ⟨.int xs.length,H,I.tok _,⟨_,by simp only[au];rw[hlen]⟩,q⟩
  . subst e';obtain⟨its,r',pl,hz⟩:=I.tuple hx;have hlen:=r'.length;exact len_tuple pl (by simp only[au];omega) ⟨.int xs.length,H,I.tok _,⟨_,by simp only[au];rw[hlen]⟩,q⟩
 | _=>exact(show False from e).elim
end
structure MQ(h:Heap)(x dx C:Addr)(mA:Str->Option Value):Prop where
 obj:h.get? x=some (PySem.W.instObj C dx)
 ns:h.Ns1 dx mA
 ne:dx≠x
def Os{h:Heap}{dx:Addr}{mA:Str->Option Value}(n:h.Ns1 dx mA):∃od,h.get? dx=some od/\∀name,PySem.W.lookIn name od=some (mA name):=by
 obtain⟨o,es,ep,ho,hd,hk,_,hm⟩:=n;refine⟨o,ho,λname=>?_⟩;have e:=hm name;unfold nsFind findBy at e;rw[<- Array.find?_toList]at e;unfold PySem.W.lookIn;rw[hd];dsimp only;split
 . rename_i y q;rw[q]at e;exact congrArg some e
 . rename_i q;rw[q]at e;have a:es.toList.any (·.refKey)=false:=by
    rw[List.any_eq_false];intro y hy;obtain⟨z,t,hkey⟩:=hk y (Array.mem_toList_iff.mp hy);simp[DictEntry.refKey,hkey]
   have a':¬es.toList.any (·.refKey)=true:=by rw[a];exact aJ
   rw[if_neg a'];exact congrArg some e
def MQ.look{h:Heap}{x dx C:Addr}{mA:Str->Option Value}(I:MQ h x dx C mA):∃od,PySem.W.InstAt h x (PySem.W.instObj C dx) C (some od)/\∀name,PySem.W.lookIn name od=some (mA name):=
 let⟨od,ho,hl⟩:=Os I.ns
 ⟨od,⟨I.obj,rfl,rfl,ho⟩,hl⟩
section
variable{prog:Program}{w:World}{A:Around}{E:Value->Shared->Prop}{s:Shared}{K:aa}{x dx C f:Addr}{mA:Str->Option Value}{name:Str}{v:Value}
def SY{expr:Bool}{Q:Value->Shared->Prop}(X:K.In s.heap)(I:MQ s.heap x dx C mA)(hg:PySem.W.plainGet K C name=true)(hh:PySem.W.hasDictIn K C=true)
    (ha:PySem.W.findIn K (.ref C) name=some none) (hv:mA name=some v) (hv':PySem.W.handedIn v=true) (h:Q v { s with toks:=s.toks+1 }) :
    wpAny (model prog w) A (getAttr (.ref x) name expr) Q E s:=by
 obtain⟨od,J,hl⟩:=I.look;exact PySem.W.get_value X J (PySem.W.plainGet_of hg).1 (PySem.W.findObj_own hh ha rfl (by rw[hl,hv])) hv' h
def QJ{pl:Sem Bool}{Q:Value × List Value->Shared->Prop}(X:K.In s.heap)(I:MQ s.heap x dx C mA)(hg:PySem.W.plainGet K C name=true)
    (hf:PySem.W.findIn K (.ref C) name=some (some (.ref f))) (ht:PySem.W.isFn K (.ref f)=true) (hv:mA name=none) (h:Q (.ref f,[.ref x]) s) :
    wpAny (model prog w) A (getMethod (.ref x) name pl) Q E s:=by
 obtain⟨od,J,hl⟩:=I.look;exact PySem.W.method_fn X J (PySem.W.plainGet_of hg).1 (PySem.W.plainGet_of hg).2 hf (beq_iff_eq.mp ht) (by show(PySem.W.lookIn name od).map (·.isSome)=some false;rw[hl,hv];rfl) h
def RK{ns:List Str}{Q:Unit->Shared->Prop}(X:K.In s.heap)(I:MQ s.heap x dx C mA)
    (hs:PySem.W.findIn K (.ref C) "__setattr__"=some (some (.builtin "object.__setattr__"))) (hp:PySem.W.plainOver K C=true) (ht:PySem.W.takerIn K C name=some none) (hh:PySem.W.hasDictIn K C=true)
    (hw:PySem.Within mA ns) (hsz:ns.length<=sizeLine)
    (h:∀h',MQ h' x dx C (λy=>if y=name then some v else mA y)->Heap.SameBut dx s.heap h'->Q () { s with heap:=h',toks:=s.toks+2 }) :
    wpAny (model prog w) A (setAttr (.ref x) name v) Q E s:=by
 obtain⟨od,J,hl⟩:=I.look;refine PySem.W.set_plain X J hs (PySem.W.osa_open (s:={ s with toks:=s.toks+1 }) (r:=none) X J hp ht λb=>?_);obtain⟨cd,hc,hd'⟩:=PySem.W.any_some hh;have hx:s.heap.get? x=some ⟨.ref C,some dx,.plain,#[]⟩:=I.obj;refine wpAny_bind (wpAny_pure (wpAny_bind (wpAny_bind (wpAny_loadPart hx (wpAny_bind (PySem.W.Looks.here (s:={ s with toks:=s.toks+1 }) (PySem.W.looks_clsIn X hc) ?_))))));rw[hd'];refine wpAny_pure (a:=some dx) (wpAny_bind (wpAny_pure (wpAny_bind ?_)));refine wpAny_nsSet1 (s:={ s with toks:=s.toks+1 }) I.ns λh' hn2 hs2=>?_;obtain⟨oD,esD,epD,hoD,hdD,hcD⟩:=hn2.count (PySem.Within.cons name v hw);refine wpAny_bind (wpAny_lookBehind hoD (by rw[hdD];exact pastItsLine_dict (ah hcD (by rw[bq];omega))) ?_);exact wpAny_pure (h _ ⟨(hs2.2 _ (Ne.symm I.ne)).trans I.obj,hn2,I.ne⟩ hs2)
def Qv{R:Result->Shared->Prop}{vs:List Value}{kw:List (Str × Value)}(X:K.In s.heap)(hm:PySem.W.makesIn K C=true)
    (hi:PySem.W.findIn K (.ref C) "__init__"=some (some (.ref f))) (hf:PySem.W.typeIn K (.ref f)=some (.type "function"))
    (h:codeAny (model prog w) (A.under (.builtin "type.__call__" ⟨.ref C::vs,kw⟩)) (.call (.ref f) ⟨.ref (s.heap.objs.size+1)::vs,kw⟩) (PySem.W.InitBack (s.heap.objs.size+1) R)
     { s with heap:=(s.heap.push PySem.W.emptyDict).push (PySem.W.instObj C s.heap.objs.size) }) :
    codeAny (model prog w) A (.call (.ref C) ⟨vs,kw⟩) R s:=by
 obtain⟨hh,g,d,t,os⟩:=s;exact PySem.W.make_core (PySem.W.makes_of X hm) (PySem.W.looks_findIn X hi) (λself=>PySem.W.bind_fn X self hf) (.inl rfl) h
def Oq{R:Result->Shared->Prop}(X:K.In s.heap)(hm:PySem.W.makesIn K C=true)
    (hi:PySem.W.findIn K (.ref C) "__init__"=some (some (.builtin "object.__init__")))
    (hb:∀self,PySem.W.Looks (model prog w) s.heap (bindSpecial (.builtin "object.__init__") self) (.builtin "object.__init__",[self]))
    (h:codeAny (model prog w) (A.under (.builtin "type.__call__" ⟨[.ref C],[]⟩)) (.call (.builtin "object.__init__") ⟨[.ref (s.heap.objs.size+1)],[]⟩) (PySem.W.InitBack (s.heap.objs.size+1) R)
     { s with heap:=(s.heap.push PySem.W.emptyDict).push (PySem.W.instObj C s.heap.objs.size) }) :
    codeAny (model prog w) A (.call (.ref C) ⟨[],[]⟩) R s:=by
 obtain⟨hh,g,d,t,os⟩:=s;exact PySem.W.make_core (PySem.W.makes_of X hm) (PySem.W.looks_findIn X hi) hb (.inr ⟨rfl,rfl⟩) h
end
def Bp(f:Str)(v:V):List (Str × V)->List (Str × V)
 | []=>[(f,v)]
 | (g,x)::r=>if g=f then(g,v)::r else(g,x)::Bp f v r
theorem Y6(f g:Str)(v:V):∀fs:List (Str × V),(Bp f v fs).lookup g=if g=f then some v else fs.lookup g
 | []=>by
  show List.lookup g [(f,v)]=_;by_cases h:g=f
  . have hb:(g == f)=true:=beq_iff_eq.mpr h;simp only[List.lookup,hb,if_pos h]
  . have hb:(g == f)=false:=beq_eq_false_iff_ne.mpr h;simp only[List.lookup,hb,if_neg h]
 | (k,x)::r=>by
  have ih:=Y6 f g v r;rw[show Bp f v ((k,x)::r)=(if k=f then(k,v)::r else(k,x)::Bp f v r)from rfl];by_cases hk:k=f
  . rw[if_pos hk];by_cases h:g=k
    . have hb:(g == k)=true:=beq_iff_eq.mpr h;simp only[List.lookup,hb,if_pos (h.trans hk)]
    . have hb:(g == k)=false:=beq_eq_false_iff_ne.mpr h;simp only[List.lookup,hb,if_neg (λe:g=f=>h (e.trans hk.symm))]
  . rw[if_neg hk];by_cases h:g=k
    . have hb:(g == k)=true:=beq_iff_eq.mpr h;simp only[List.lookup,hb,if_neg (λe:g=f=>hk (h.symm.trans e))]
    . have hb:(g == k)=false:=beq_eq_false_iff_ne.mpr h;simp only[List.lookup,hb];exact ih
theorem Ek(f:Str)(v:V):∀fs:List (Str × V),f∈(Bp f v fs).map (·.1)/\∀g,g∈fs.map (·.1)->g∈(Bp f v fs).map (·.1)
 | []=>⟨by simp[Bp],λg h=>by simp at h⟩
 | (k,x)::r=>by
  obtain⟨i1,i2⟩:=Ek f v r;rw[show Bp f v ((k,x)::r)=(if k=f then(k,v)::r else(k,x)::Bp f v r)from rfl];by_cases hk:k=f
  . rw[if_pos hk];subst hk;exact⟨by simp,λg h=>by simpa using h⟩
  . rw[if_neg hk];refine⟨?_,λg h=>?_⟩
    . rw[aP];exact aD _ i1
    . rw[aP]at h ⊢;rcases ar.mp h with e | e
      . exact ar.mpr (.inl e)
      . exact aD _ (i2 g e)
theorem Ez(f:Str)(v:V):∀fs:List (Str × V),(Bp f v fs).length<=fs.length+1
 | []=>by simp[Bp]
 | (k,x)::r=>by
  have ih:=Ez f v r;rw[show Bp f v ((k,x)::r)=(if k=f then(k,v)::r else(k,x)::Bp f v r)from rfl];by_cases hk:k=f
  . rw[if_pos hk,bq,bq];omega
  . rw[if_neg hk,bq,bq];omega
def Hj.some_of{v:V}{o:Option Value}(r:Hj (some v) o):∃u,o=some u/\D5 v u:=by
 cases o with
 | none=>exact(show False from r).elim
 | some u=>exact⟨u,rfl,r⟩
def Hj.none_of{o:Option Value}(r:Hj none o):o=none:=by
 cases o with
 | none=>rfl
 | some u=>exact(show False from r).elim
def OC{v:V}{u:Value}(r:D5 v u):PySem.W.handedIn u=true:=by
 cases v with
 | non=>cases (show u=Value.none from r);rfl
 | bl b=>cases (show u=Value.bool b from r);rfl
 | int i=>obtain⟨t,e⟩:=(show ∃t,u=Value.int i t from r);cases e;rfl
 | str x=>obtain⟨t,e⟩:=(show ∃t,u=Value.str x t from r);cases e;rfl
 | byt b=>obtain⟨t,e⟩:=(show ∃t,u=Value.bytes b t from r);cases e;rfl
 | flt b=>obtain⟨t,e⟩:=(show ∃t,u=Value.float b t from r);cases e;rfl
 | ref a=>cases (show u=Value.ref a from r);rfl
 | ty n=>cases (show u=Value.type n from r);rfl
section
variable{P:Program}{w:World}{H H':Hp}{h h':Heap}{a C dx:Addr}{fs fs':List (Str × V)}
def EZ(hok:Ac P w H h)(e:H a=some (.ins C dx fs)):∃mA,MQ h a dx C mA/\(∀f,Hj (fs.lookup f) (mA f))/\PySem.Within mA (fs.map (·.1))/\fs.length<=1000/\H dx=some (.own a):=by
 obtain⟨d,z,ne,ob,mA,n,r,q⟩:=(show L6 P w H h a (.ins C dx fs)from hok a _ e);exact⟨mA,⟨ob,n,ne⟩,r,q,z,d⟩
end
structure MR(K:aa)(C:Addr):Prop where
 pg:PySem.W.plainGet K C Str.empty=true
 hd:PySem.W.hasDictIn K C=true
 po:PySem.W.plainOver K C=true
 sa:PySem.W.findIn K (.ref C) "__setattr__"=some (some (.builtin "object.__setattr__"))
def MR.get{K:aa}{C:Addr}(c:MR K C)(f:Str):PySem.W.plainGet K C f=true:=c.pg
def CQ(K:aa)(C:Addr)(f:Str):Prop:=PySem.W.findIn K (.ref C) f=some none
def CQ.taker{K:aa}{C:Addr}{f:Str}(n:CQ K C f):PySem.W.takerIn K C f=some none:=by
 unfold PySem.W.takerIn;rw[show PySem.W.findIn K (.ref C) f=some none from n];rfl
structure Con(K:aa)(C:Addr)(f:Str)(v:V)(u:Value):Prop where
 at_:PySem.W.findIn K (.ref C) f=some (some u)
 rel:D5 v u
 get:PySem.W.specialIn K u "__get__"=some none
 cp:PySem.W.copiedNames.contains f=false
structure Er(K:aa)(C:Addr)(m:Str)(f:Addr):Prop where
 at_:PySem.W.findIn K (.ref C) m=some (some (.ref f))
 fn:PySem.W.isFn K (.ref f)=true
 kp:PySem.W.keepIn K (.ref f)=true
section
variable{X:Cx}{pins:List (Addr × Obj)}{σ:St}{H:Hp}{s:Shared}{a C dx:Addr}{fs:List (Str × V)}{f:Str}{v:V}{A:Around}{E:Value->Shared->Prop}
def Mw{b:Bool}{Q:Value->Shared->Prop}(I:r9 X pins σ H s)(e:H a=some (.ins C dx fs))(c:MR X.K C)(n:CQ X.K C f)(l:fs.lookup f=some v)
    (h:∀u s',r9 X pins σ H s'->D5 v u->Q u s'):wpAny (model X.prog X.w) A (getAttr (.ref a) f b) Q E s:=by
 obtain⟨mA,O,r,_,_,_⟩:=EZ I.hok e;obtain⟨u,hu,ru⟩:=Hj.some_of (v:=v) (o:=mA f) (by rw[<- l];exact r f);exact SY I.kIn O (c.get f) c.hd n hu (OC ru) (h u _ (I.tok _) ru)
def CL{m:Str}{g:Addr}{pl:Sem Bool}{Q:Value × List Value->Shared->Prop}(I:r9 X pins σ H s)(e:H a=some (.ins C dx fs))(c:MR X.K C)(k:Er X.K C m g)(l:fs.lookup m=none)
    (h:Q (.ref g,[.ref a]) s):wpAny (model X.prog X.w) A (getMethod (.ref a) m pl) Q E s:=by
 obtain⟨mA,O,r,_,_,_⟩:=EZ I.hok e;have hn:mA m=none:=Hj.none_of (by rw[<- l];exact r m);exact QJ I.kIn O (c.get m) k.at_ k.fn hn h
def LM{y:V}{u:Value}{Q:Unit->Shared->Prop}(I:r9 X pins σ H s)(e:H a=some (.ins C dx fs))(c:MR X.K C)(n:CQ X.K C f)(hl:fs.length < 1000)(ry:D5 y u)
    (h:∀s',r9 X pins σ (upd H a (.ins C dx (Bp f y fs))) s'->Q () s'):wpAny (model X.prog X.w) A (setAttr (.ref a) f u) Q E s:=by
 obtain⟨mA,O,r,wi,_,ho⟩:=EZ I.hok e;have hz:(fs.map (·.1)).length<=sizeLine:=by rw[af,sizeLine_eq];omega
 refine RK I.kIn O c.sa c.po n.taker c.hd wi hz λh' O' sb=>h _ ?_;have hd:∃o,h'.get? dx=some o:=let⟨o,_,_,e',_⟩:=O'.ns;⟨o,e'⟩
 refine I.write (x:=a) (e:=dx) (by rw[e];exact True.intro) (.inr ho) (λb q hb z=>(sb.2 b hb).trans z) hd ?_;refine⟨by rw[o4 O.ne];exact ho,?_,O.ne,O'.obj,_,O'.ns,λg=>?_,λg hg=>?_⟩
 . have:=Ez f y fs;omega
 . show Hj ((Bp f y fs).lookup g) (if g=f then some u else mA g);rw[Y6];by_cases q:g=f
   . rw[if_pos q,if_pos q];exact ry
   . rw[if_neg q,if_neg q];exact r g
 . by_cases q:g=f
   . rw[q];exact(Ek f y fs).1
   . refine(Ek f y fs).2 g (wi g λz=>hg ?_);show(if g=f then some u else mA g)=none;rw[if_neg q];exact z
def r9.made(I:r9 X pins σ H s):r9 X pins σ (upd (upd H s.heap.objs.size (.own (s.heap.objs.size+1))) (s.heap.objs.size+1) (.ins C s.heap.objs.size []))
    { s with heap:=(s.heap.push PySem.W.emptyDict).push (PySem.W.instObj C s.heap.objs.size) }:=by
 have e1:(s.heap.push PySem.W.emptyDict).get? s.heap.objs.size=some PySem.W.emptyDict:=aA s.heap rfl;have e2:((s.heap.push PySem.W.emptyDict).push (PySem.W.instObj C s.heap.objs.size)).get? (s.heap.objs.size+1)=some (PySem.W.instObj C s.heap.objs.size):=by
  have:=aA (s.heap.push PySem.W.emptyDict) (o:=PySem.W.instObj C s.heap.objs.size) rfl;rwa [aX]at this
 have e3:(s.heap.push PySem.W.emptyDict).Ns s.heap.objs.size (λ_=>none):=⟨PySem.W.emptyDict,#[],_,e1,rfl,(λe he=>absurd he (by simp)),λ_=>rfl⟩;have I1:=I.laid (a:=s.heap.objs.size) (o:=.own (s.heap.objs.size+1)) (h':=s.heap.push PySem.W.emptyDict) (t':=s.toks) (λb u q=>ak _ q) (ae _) ⟨_,e1⟩;refine I1.laid (a:=s.heap.objs.size+1) (o:=.ins C s.heap.objs.size []) (t':=s.toks) (λb u q=>ak _ q) (Nat.le_of_eq (aX _ _)) ?_;have ne:s.heap.objs.size≠s.heap.objs.size+1:=az (bR _);refine⟨by rw[o4 ne,c4],aR _,ne,e2,λ_=>none,(Heap.Ns1.of_empty e3).at λo q=>ak _ q,λ_=>True.intro,λy hy=>absurd rfl hy⟩
def Tp{prog:Program}{w:World}{env:Env}{e:Expr}{f:Str}{pos:Pos}{s:Shared}{Q:Value->Shared->Prop}(hb:attributeBase e f env (eval e env)=eval e env)
    (h:wpAny (model prog w) A (eval e env) (λo s₁=>wpAny (model prog w) A (getAttr o f true) Q E s₁) E s):wpAny (model prog w) A (eval (.Attribute e f pos) env) Q E s:=
 Attribute_any_ h (by rw[arm_eval_Attribute,hb])
end
def tFld(K:aa)(ta:TE)(f:Str):TE:=λσ H Q=>ta σ H λx H1=>∃a C dx fs v,x=.ref a/\H1 a=some (.ins C dx fs)/\MR K C/\CQ K C f/\fs.lookup f=some v/\Q v H1
def sFld(K:aa)(ta tv:TE)(f:Str):TS:=λD σ H=>tv σ H λy H1=>ta σ H1 λx H2=>∃a C dx fs,x=.ref a/\H2 a=some (.ins C dx fs)/\MR K C/\CQ K C f/\fs.length < 1000/\
 D.nx σ (upd H2 a (.ins C dx (Bp f y fs)))
section
variable{X:Cx}{o e value:Expr}{f:Str}{pos pos' tpos:Pos}{ta tv:TE}
def Fz(he:PE X e ta)(hb:attributeBase e f X.env (eval e X.env)=eval e X.env):PE X (.Attribute e f pos) (tFld X.K ta f):=by
 intro pins s σ H Q I h;refine Tp hb (E3 (he pins s σ H _ I h) λu s1 hζ=>?_);obtain⟨x,H1,I1,rx,a,C,dx,fs,v,ex,ea,c,n,l,q⟩:=hζ;subst ex;obtain rfl:u=Value.ref a:=rx;exact Mw I1 ea c n l λu' s2 I2 ru=>⟨v,H1,I2,ru,q⟩
def Va(ha:PE X o ta)(hv:PE X value tv)(hs:swapsWith value (some (.Attribute o f pos')) pos.line X.env=pure false):PS X (.Assign [.Attribute o f pos'] value pos) (sFld X.K ta tv f):=by
 intro pins s σ H D I h;refine plainObj_wpAny_Assign_Attribute (E3 (hv pins s σ H _ I h) λu s1 ⟨y,H1,I1,ry,q⟩=>E3 (ha pins s1 σ H1 _ I1 q) λov s2 hζ=>?_) hs;obtain⟨x,H2,I2,rx,a,C,dx,fs,ex,ea,c,n,l,q2⟩:=hζ;subst ex;obtain rfl:ov=Value.ref a:=rx;exact LM I2 ea c n l ry λs3 I3=>⟨σ,_,I3,q2⟩
def TK{pl:Sem Bool}{m:Str}{apos:Pos}{args:List Expr}{pins:List (Addr × Obj)}{s:Shared}{σ:St}{H:Hp}{Q:Value->Shared->Prop}{te:TE}(he:PE X e te)(I:r9 X pins σ H s)
    (h:te σ H λx H1=>∃a C dx fs g,x=.ref a/\H1 a=some (.ins C dx fs)/\MR X.K C/\Er X.K C m g/\fs.lookup m=none/\
     ∀s1,r9 X pins σ H1 s1->wpAny (model X.prog X.w) X.A (callWith pos (.ref g) [.ref a] (backTo pos (starEach args X.env)) (backToKw pos (keywordEach [] X.env))) Q X.xe s1)
    (ht:eval (.Call (.Attribute e m apos) args [] pos) X.env=(do
     let ov <- eval e X.env
     standAt apos.atName
     let(f,first) <- holding [ov] (getMethod ov m pl)
     callWith pos f first (backTo pos (starEach args X.env)) (backToKw pos (keywordEach [] X.env)))) :
    wpAny (model X.prog X.w) X.A (eval (.Call (.Attribute e m apos) args [] pos) X.env) Q X.xe s:=by
 refine PySem.W.methodCall_KW (pl:=pl) (E3 (he pins s σ H _ I h) λu s1 hζ=>?_) ht;obtain⟨x,H1,I1,rx,a,C,dx,fs,g,ex,ea,c,k,l,q⟩:=hζ;subst ex;obtain rfl:u=Value.ref a:=rx;exact CL I1 ea c k l (q s1 I1)
end
section
variable{X:Cx}{pins:List (Addr × Obj)}{σ:St}{H:Hp}{s:Shared}{A:Around}{E:Value->Shared->Prop}{Q:Value->Shared->Prop}{c:Value}{b:Bool}
inductive X0(K:aa)(H:Hp):V->Value->Prop where
 | non:X0 K H .non (.type "NoneType")
 | bl (x:Bool):X0 K H (.bl x) (.type "bool")
 | int (i:Int):X0 K H (.int i) (.type "int")
 | str (x:Str):X0 K H (.str x) (.type "str")
 | flt (x:UInt64):X0 K H (.flt x) (.type "float")
 | lst {a:Addr} {xs:List V} (e:H a=some (.lst xs)):X0 K H (.ref a) (.type "list")
 | frz {a:Addr} {o:Obj} {xs:List V} (e:H a=some (.frz o (.lst xs))):X0 K H (.ref a) (.type "list")
 | tup {a:Addr} {xs:List V} (e:H a=some (.tup xs)):X0 K H (.ref a) (.type "tuple")
 | dK {a:Addr} {kvs:List (Jm × V)} (e:H a=some (.dK kvs)):X0 K H (.ref a) (.type "dict")
 | dT {a:Addr} {kvs:List (List Jm × V)} (e:H a=some (.dT kvs)):X0 K H (.ref a) (.type "dict")
 | ins {a C dx:Addr} {fs:List (Str × V)} (e:H a=some (.ins C dx fs)) (cl:MR K C) (ha:PySem.W.findIn K (.ref C) "__class__"=some (some (.builtin "object.__class__")))
     (hn:PySem.W.specialIn K (.builtin "object.__class__") "__get__"=some (some (.builtin "getset_descriptor.__get__"))) (htk:PySem.W.takesIn K (.builtin "object.__class__")=some true)
     (hm:PySem.W.mroIn K C (.type "object")=some true):X0 K H (.ref a) (.ref C)
def Oz{x:V}{u t:Value}(I:r9 X pins σ H s)(rx:D5 x u)(ty:X0 X.K H x t)(e:PySem.W.kitOne X.K t c=some b)(h:∀tk,Q (.bool b) { s with toks:=tk }) :
    wpAny (model X.prog X.w) A (call (.builtin "isinstance") [u,c]) Q E s:=by
 cases ty with
 | non=>cases (show u=Value.none from rx);exact bB PySem.W.kitx_none I.kIn True.intro e (λz=>nomatch z) h
 | bl y=>cases (show u=Value.bool y from rx);exact bB PySem.W.kitx_bool I.kIn True.intro e (λz=>nomatch z) h
 | int i=>obtain⟨t,q⟩:=(show ∃t,u=Value.int i t from rx);cases q;exact bB PySem.W.kitx_int I.kIn True.intro e (λz=>nomatch z) h
 | str y=>obtain⟨t,q⟩:=(show ∃t,u=Value.str y t from rx);cases q;exact bB PySem.W.kitx_str I.kIn True.intro e (λz=>nomatch z) h
 | flt y=>obtain⟨t,q⟩:=(show ∃t,u=Value.float y t from rx);cases q;exact bB PySem.W.kitx_float I.kIn True.intro e (λz=>nomatch z) h
 | @lst a xs ea=>
  cases (show u=Value.ref a from rx);obtain⟨_,_,n,_,h1⟩:=(show L6 X.prog X.w H s.heap a (.lst xs)from I.hok a _ ea);exact bB PySem.W.kitx_list I.kIn ⟨_,h1,rfl⟩ e (λz=>nomatch z) h
 | @frz a ob xs ea=>
  cases (show u=Value.ref a from rx);obtain⟨_,_,_,n,_,h1⟩:=(show L6 X.prog X.w H s.heap a (.frz ob (.lst xs))from I.hok a _ ea);exact bB PySem.W.kitx_list I.kIn ⟨_,h1,rfl⟩ e (λz=>nomatch z) h
 | @tup a xs ea=>
  cases (show u=Value.ref a from rx);obtain⟨_,_,_,p,_⟩:=(show L6 X.prog X.w H s.heap a (.tup xs)from I.hok a _ ea);obtain⟨o,h1,h2,_⟩:=p;exact bB PySem.W.kitx_tuple I.kIn ⟨o,h1,h2⟩ e (λz=>nomatch z) h
 | @dK a kvs ea=>
  cases (show u=Value.ref a from rx);obtain⟨_,_,vs,_,p⟩:=(show L6 X.prog X.w H s.heap a (.dK kvs)from I.hok a _ ea);obtain⟨o,es,ep,h1,h2,_⟩:=p;exact bB PySem.W.kitx_dict I.kIn ⟨o,h1,h2.1⟩ e (λz=>nomatch z) h
 | @dT a kvs ea=>
  cases (show u=Value.ref a from rx);obtain⟨_,_,xs,_,o,es,ep,h1,h2,_⟩:=(show L6 X.prog X.w H s.heap a (.dT kvs)from I.hok a _ ea);exact bB PySem.W.kitx_dict I.kIn ⟨o,h1,h2.1⟩ e (λz=>nomatch z) h
 | @ins a C dx fs ea cl ha hn htk hm=>
  cases (show u=Value.ref a from rx);obtain⟨mA,O,_⟩:=EZ I.hok ea;obtain⟨od,J,_⟩:=O.look;exact bB (PySem.W.kitx_own (cl.get _) cl.hd ha hn htk hm) I.kIn J e (λz=>nomatch z) h
end
structure K8(k:Nat)(A:Around):Prop where
 hd:A.handled=none
 dp:A.depth+3 * k+5 < recursionLimit
 un:A.units+16 * k+200 < cLine
def K8.mono{j k:Nat}{A:Around}(r:K8 k A)(h:j<=k):K8 j A:=⟨r.hd,by have:=r.dp;omega,by have:=r.un;omega⟩
theorem K8.deeper{k:Nat}{A:Around}(r:K8 (k+1) A)(env:Env):K8 k (A.deeper env):=
 ⟨r.hd,by have:=r.dp;show A.depth+1+3 * k+5 < _;omega,by have:=r.un;show A.units+3+16 * k+200 < _;omega⟩
def Mi{A:Around}{C:Addr}{us:List Value}{kw:List (Str × Value)}:(A.under (.builtin "type.__call__" ⟨.ref C::us,kw⟩)).depth=A.depth+1:=by
 first | rfl | simp[Around.under,Code.weight,Code.isCreation,Code.isGuard,Code.isCaller,Code.frames,Code.isFrame,guardIds]
def Mh{A:Around}{C:Addr}{us:List Value}{kw:List (Str × Value)}:(A.under (.builtin "type.__call__" ⟨.ref C::us,kw⟩)).units=A.units+1:=by
 first | rfl | simp[Around.under,Code.cUnits,Code.frames,Code.isFrame]
def K8.make{k:Nat}{A:Around}(r:K8 (k+1) A)(C:Addr)(us:List Value)(kw:List (Str × Value)):K8 k (A.under (.builtin "type.__call__" ⟨.ref C::us,kw⟩)):=
 ⟨r.hd,by have:=r.dp;rw[Mi];omega,by have:=r.un;rw[Mh];omega⟩
theorem K8.depth{k:Nat}{A:Around}(r:K8 k A):A.depth < recursionLimit:=by have:=r.dp;omega
theorem K8.units{k:Nat}{A:Around}(r:K8 k A):A.units+64 < cLine:=by have:=r.un;omega
def tNil:TA:=λ_ H Q=>Q [] H
def AN(ta:TE)(tr:TA):TA:=λσ H Q=>ta σ H λx H1=>tr σ H1 λxs H2=>Q (x::xs) H2
section
variable{X:Cx}{e:Expr}{es:List Expr}{te:TE}{t:TA}{pos:Pos}
def K5:PA X [] tNil:=λ_ _ _ _ H Q I h=>Calls.spliced_nil ⟨[],H,I,.nil,h⟩
def D8(ha:PE X e te)(hr:PA X es t)(hs:starEach (e::es) X.env=(false,eval e X.env)::starEach es X.env:=by rfl):PA X (e::es) (AN te t):=by
 intro pos pins s σ H Q I h;rw[hs];show wpAny _ _ (spliced ((false,eval e X.env)::backTo pos (starEach es X.env))) _ _ s;refine Calls.spliced_cons (E3 (ha pins s σ H _ I h) λu s1 ⟨x,H1,I1,r1,q1⟩=>?_);exact E3 (hr pos pins s1 σ H1 _ I1 q1) λus s2 ⟨xs,H2,I2,r2,q2⟩=>⟨x::xs,H2,I2,.cons r1 r2,q2⟩
def tTup(t:TA):TE:=λσ H Q=>t σ H λxs H1=>xs.length<=sizeLine/\∀p,H1 p=none->Q (.ref p) (upd H1 p (.tup xs))
def WI(t:TA):TE:=λσ H Q=>t σ H λxs H1=>xs.length<=sizeLine/\∀p,H1 p=none->Q (.ref p) (upd H1 p (.lst xs))
def E5{x1}(h:PA X es t):PE X (.Tuple es x1 pos) (tTup t):=by
 intro pins s σ H Q I hq;refine wpAny_Tuple_spliced (E3 (h pos pins s σ H _ I hq) λus s1 ⟨xs,H1,I1,r,z,q⟩=>⟨by rw[<- r.length];exact z,?_⟩);have hf:H1 s1.heap.objs.size=none:=I1.hok.fresh (ae _);refine⟨.ref s1.heap.objs.size,upd H1 s1.heap.objs.size (.tup xs),I1.laid (t':=s1.toks) (λb u e=>ak _ e) (ae _) ?_,rfl,q _ hf⟩;exact⟨z,us,r,⟨_,aA _ rfl,rfl,_,rfl⟩,λ_=>⟨_,aA _ rfl,rfl⟩⟩
def D3(h:PA X es t):PE X (.List es pos) (WI t):=by
 intro pins s σ H Q I hq;refine wpAny_List_spliced (E3 (h pos pins s σ H _ I hq) λus s1 ⟨xs,H1,I1,r,z,q⟩=>⟨by rw[<- r.length];exact z,?_⟩);have hf:H1 s1.heap.objs.size=none:=I1.hok.fresh (ae _);refine⟨.ref s1.heap.objs.size,upd H1 s1.heap.objs.size (.lst xs),I1.laid (t':=s1.toks) (λb u e=>ak _ e) (ae _) ?_,rfl,q _ hf⟩;exact⟨z,us,0,r,aA _ rfl⟩
end
abbrev Sp:=List V->Hp->VK->XK->Prop
abbrev OO:=List Env->Hp->Shared->XK->Value->Shared->Prop
structure Hl(P:Program)(w:World)(K:aa)(mg:Str->Option Value)(base:Heap)(A:Around)(outer:List Env)(s:Shared)(H:Hp):Prop where
 frames:A.frames=some outer
 mod:Mod K mg base
 bs:∀b o,base.get? b=some o->s.heap.get? b=some o/\H b=none
 bsz:base.objs.size<=s.heap.objs.size
 funs:s.heap.FunFrames base outer
 frf:∀b∈FY outer,H b=none
 hok:Ac P w H s.heap
 bare:AllBare s.gens
def CE(outer:List Env)(P:Program)(w:World)(H:Hp)(s:Shared)(Q:VK)(u:Value)(s':Shared):Prop:=
 ∃v H',s'.os=s.os/\AllBare s'.gens/\Un (FY outer) [] H H' s.heap s'.heap/\Ac P w H' s'.heap/\D5 v u/\Q v H'
def CR(CX:OO)(outer:List Env)(P:Program)(w:World)(H:Hp)(s:Shared)(Q:VK)(E:XK)(r:Result)(s':Shared):Prop:=
 match r with
 | .ok (.ret u)=>CE outer P w H s Q u s'
 | .ok _=>False
 | .error e=>CX outer H s E e s'
structure x8(P:Program)(w:World)(K:aa)(mg:Str->Option Value)(base:Heap)(CX:OO)(k:Nat)(f:Addr)(fd:FuncData)(ps:List Str)(sp:Sp):Prop where
 len:∀vs H Q E,sp vs H Q E->vs.length=ps.length
 run:∀(A:Around) (outer:List Env) (s:Shared) (H:Hp) (args:Args) (us:List Value) (vs:List V) (Q:VK) (E:XK),K8 k A->Hl P w K mg base A outer s H->BindsTo s fd args (ps.zip us)->z8 vs us->sp vs H Q E->
  codeAny (model P w) A (.call (.ref f) args) (CR CX outer P w H s Q E) s
theorem x8.mono{P:Program}{w:World}{K:aa}{mg:Str->Option Value}{base:Heap}{CX:OO}{j k:Nat}{f:Addr}{fd:FuncData}{ps:List Str}{sp:Sp}(F:x8 P w K mg base CX j f fd ps sp)(h:j<=k) :
    x8 P w K mg base CX k f fd ps sp:=⟨F.len,λA outer s H args us vs Q E hr=>F.run A outer s H args us vs Q E (hr.mono h)⟩
def Hl.make{P:Program}{w:World}{K:aa}{mg:Str->Option Value}{base:Heap}{A:Around}{outer:List Env}{s:Shared}{H:Hp}(e:Hl P w K mg base A outer s H)(C:Addr)(us:List Value)(kw:List (Str × Value)) :
    Hl P w K mg base (A.under (.builtin "type.__call__" ⟨.ref C::us,kw⟩)) outer s H:=⟨by first | exact e.frames | (simpa [Around.under,Code.envs,Code.isFrame,pushEnvs] using e.frames),e.mod,e.bs,e.bsz,e.funs,e.frf,e.hok,e.bare⟩
section
variable{X:Cx}{pins:List (Addr × Obj)}{σ:St}{H:Hp}{s s':Shared}
def r9.env0(I:r9 X pins σ H s):Hl X.prog X.w X.K X.mg X.base X.A X.stack s H:=
 ⟨I.ok.frames,I.ok.mod,I.bs,ah I.ok.bsz I.sz,I.stack,I.stkFree,I.hok,I.bare⟩
def r9.after{Q:VK}{u:Value}(I:r9 X pins σ H s)(h:CE X.stack X.prog X.w H s Q u s'):EP X pins σ Q u s':=by
 obtain⟨v,H',os,bare,un,hok,r,q⟩:=h;obtain⟨hh,g,d,t,os'⟩:=s';obtain rfl:os'=s.os:=os;exact⟨v,H',I.call (h':=hh) (g':=g) (d':=d) (t':=t) (ch:=[]) un hok bare (λb z=>absurd z (by simp)),r,q⟩
end
def Tv(sp:Sp)(dvs:List V)(E:XK)(t:TA):TE:=λσ H Q=>t σ H λvs H1=>sp (vs++dvs) H1 Q E
def Tt(C:Addr)(m:Str)(sp:Sp)(dvs:List V)(E:XK)(ta:TE)(t:TA):TE:=λσ H Q=>ta σ H λx H1=>∃a dx fs,x=.ref a/\H1 a=some (.ins C dx fs)/\fs.lookup m=none/\
 t σ H1 λvs H2=>sp (x::(vs++dvs)) H2 Q E
def WH(C:Addr)(sp:Sp)(dvs:List V)(E:XK)(t:TA):TE:=λσ H Q=>t σ H λvs H1=>∀x dx,H1 x=none->H1 dx=none->dx≠x->
 sp (.ref x::(vs++dvs)) (upd (upd H1 dx (.own x)) x (.ins C dx [])) (λv H2=>v=.non/\Q (.ref x) H2) E
def K9(K:aa)(fd:FuncData)(ps:List Str)(ds:List Value):Prop:=
 ∀(s:Shared) (us:List Value),K.In s.heap->(us++ds).length=ps.length->BindsTo s fd ⟨us,[]⟩ (ps.zip (us++ds))
def K9.all{K:aa}{fd:FuncData}{ps:List Str}(h:∀us:List Value,us.length=ps.length->bindArgs fd ⟨us,[]⟩=pure (ps.zip us)):K9 K fd ps []:=λs us _ hl=>by
 rw[bb]at hl ⊢;exact .of_eq (h us hl)
def CP(CX:OO)(X:Cx)(E:XK):Prop:=∀(pins:List (Addr × Obj)) (σ:St) (H:Hp) (s:Shared) (e:Value) (s':Shared),r9 X pins σ H s->CX X.stack H s E e s'->X.xe e s'
section
variable{X:Cx}{CX:OO}{k:Nat}{f C:Addr}{fd:FuncData}{ps:List Str}{sp:Sp}{dvs:List V}{ds:List Value}{E:XK}{x m:Str}{p pos apos:Pos}{e o:Expr}{es:List Expr}{ta:TE}{t:TA}
def LS{pins:List (Addr × Obj)}{σ:St}{H:Hp}{s:Shared}{Q:VK}{us:List Value}{vs:List V}(F:x8 X.prog X.w X.K X.mg X.base CX k f fd ps sp)(hr:K8 k X.A)(hb:K9 X.K fd ps ds)(hd:z8 dvs ds)(hx:CP CX X E)
    (I:r9 X pins σ H s) (r:z8 vs us) (h:sp (vs++dvs) H Q E):wpAny (model X.prog X.w) X.A (call (.ref f) us) (EP X pins σ Q) X.xe s:=by
 have r2:z8 (vs++dvs) (us++ds):=r.append hd;have hl:(us++ds).length=ps.length:=by rw[<- r2.length];exact F.len _ _ _ _ h
 refine wpAny_call (codeAny_mono (F.run X.A X.stack s H ⟨us,[]⟩ (us++ds) (vs++dvs) Q E hr I.env0 (hb s us I.kIn hl) r2 h) λr s' hq=>?_);cases r with
 | error e=>exact hx pins σ H s e s' I hq
 | ok fl=>
  cases fl with
  | ret u=>exact I.after hq
  | next=>exact False.elim hq
  | brk=>exact False.elim hq
  | cont=>exact False.elim hq
def C3(F:x8 X.prog X.w X.K X.mg X.base CX k f fd ps sp)(hr:K8 k X.A)(hg:Gl X x)(hm:X.mg x=some (.ref f))(hk:PySem.W.keepIn X.K (.ref f)=true)(hb:K9 X.K fd ps ds)(hd:z8 dvs ds)(hx:CP CX X E)
    (ha:PA X (e::es) t) (hdb:(x == ("__debug__":Str))=false:=by decide) (he:starEach (e::es) X.env=(false,eval e X.env)::starEach es X.env:=by rfl) (hpl:(backTo pos (starEach es X.env)).any (·.1)=false:=by rfl) :
    PE X (.Call (.Name x p) (e::es) [] pos) (Tv sp dvs E t):=by
 intro pins s σ H Q I h;refine wpAny_Call_Name_kw (Dw I hg hm ?_ hdb);refine cV (h₀:=X.base) I.ok.mod.kin hk (E3 (ha pos pins s σ H _ I h) λus s1 ⟨vs,H1,I1,r,q⟩=>⟨I1.kIn,?_⟩) he hpl;exact LS F hr hb hd hx I1 r q
def R8{pl:Sem Bool}(he:PE X o ta)(c:MR X.K C)(hm:Er X.K C m f)(F:x8 X.prog X.w X.K X.mg X.base CX k f fd ps sp)(hr:K8 k X.A)(hb:K9 X.K fd ps ds)(hd:z8 dvs ds)(hx:CP CX X E)(ha:PA X (e::es) t)
    (hst:starEach (e::es) X.env=(false,eval e X.env)::starEach es X.env:=by rfl) (hpl:(backTo pos (starEach es X.env)).any (·.1)=false:=by rfl)
    (ht:eval (.Call (.Attribute o m apos) (e::es) [] pos) X.env=(do
     let ov <- eval o X.env
     standAt apos.atName
     let(f,first) <- holding [ov] (getMethod ov m pl)
     callWith pos f first (backTo pos (starEach (e::es) X.env)) (backToKw pos (keywordEach [] X.env))):=by rfl) :
    PE X (.Call (.Attribute o m apos) (e::es) [] pos) (Tt C m sp dvs E ta t):=by
 intro pins s σ H Q I h;refine PySem.W.methodCall_KW (pl:=pl) (E3 (he pins s σ H _ I h) λu s1 hζ=>?_) ht;obtain⟨x,H1,I1,rx,a,dx,fs,ex,ea,l,q⟩:=hζ;subst ex;obtain rfl:u=Value.ref a:=rx;refine CL I1 ea c hm l ?_;refine cV (first:=[.ref a]) (h₀:=X.base) I.ok.mod.kin hm.kp (E3 (ha pos pins s1 σ H1 _ I1 q) λus s2 ⟨vs,H2,I2,r,q2⟩=>⟨I2.kIn,?_⟩) hst hpl;exact LS (us:=.ref a::us) (vs:=.ref a::vs) F hr hb hd hx I2 (.cons rfl r) q2
def Ak{pl:Sem Bool}(he:PE X o ta)(c:MR X.K C)(hm:Er X.K C m f)(F:x8 X.prog X.w X.K X.mg X.base CX k f fd ps sp)(hr:K8 k X.A)(hb:K9 X.K fd ps ds)(hd:z8 dvs ds)(hx:CP CX X E)
    (ht:eval (.Call (.Attribute o m apos) [] [] pos) X.env=(do
     let ov <- eval o X.env
     standAt apos.atName
     let(f,first) <- holding [ov] (getMethod ov m pl)
     callWith pos f first (backTo pos (starEach [] X.env)) (backToKw pos (keywordEach [] X.env))):=by rfl) :
    PE X (.Call (.Attribute o m apos) [] [] pos) (Tt C m sp dvs E ta tNil):=by
 intro pins s σ H Q I h;refine PySem.W.methodCall_KW (pl:=pl) (E3 (he pins s σ H _ I h) λu s1 hζ=>?_) ht;obtain⟨x,H1,I1,rx,a,dx,fs,ex,ea,l,q⟩:=hζ;subst ex;obtain rfl:u=Value.ref a:=rx;refine CL I1 ea c hm l ?_;exact PySem.W.callWith_K0 (first:=[.ref a]) I1.kIn hm.kp (LS (us:=[.ref a]) (vs:=[.ref a]) F hr hb hd hx I1 (.cons rfl .nil) q)
structure Mk(K:aa)(C f:Addr):Prop where
 makes:PySem.W.makesIn K C=true
 init:PySem.W.findIn K (.ref C) "__init__"=some (some (.ref f))
 fn:PySem.W.isFn K (.ref f)=true
 kp:PySem.W.keepIn K (.ref C)=true
def PJ{pins:List (Addr × Obj)}{σ:St}{H:Hp}{s:Shared}{Q:VK}{us:List Value}{vs:List V}(M:Mk X.K C f)(F:x8 X.prog X.w X.K X.mg X.base CX k f fd ps sp)(hr:K8 (k+1) X.A)(hb:K9 X.K fd ps ds)(hd:z8 dvs ds)
    (hx:CP CX X E) (I:r9 X pins σ H s) (r:z8 vs us)
    (h:∀x dx,H x=none->H dx=none->dx≠x->sp (.ref x::(vs++dvs)) (upd (upd H dx (.own x)) x (.ins C dx [])) (λv H2=>v=.non/\Q (.ref x) H2) E) :
    wpAny (model X.prog X.w) X.A (call (.ref C) us) (EP X pins σ Q) X.xe s:=by
 have hq:=h (s.heap.objs.size+1) s.heap.objs.size (I.hok.fresh (Nat.le_succ _)) (I.hok.fresh (ae _)) (az (bR _));have I2:=r9.made (C:=C) I;have r2:z8 (V.ref (s.heap.objs.size+1)::(vs++dvs)) (Value.ref (s.heap.objs.size+1)::(us++ds)):=.cons rfl (r.append hd);have hl:(Value.ref (s.heap.objs.size+1)::us++ds).length=ps.length:=by
  have e:=r2.length;rw[F.len _ _ _ _ hq]at e;exact e.symm
 refine wpAny_call (Qv (f:=f) I.kIn M.makes M.init (beq_iff_eq.mp M.fn) (codeAny_mono (F.run _ X.stack _ _ ⟨Value.ref (s.heap.objs.size+1)::us,[]⟩ (Value.ref (s.heap.objs.size+1)::(us++ds)) _ _ E (hr.make C us [])
  (I2.env0.make C us []) (hb _ (Value.ref (s.heap.objs.size+1)::us) I2.kIn hl) r2 hq) λr s' hq'=>?_))
 cases r with
 | error e=>exact hx pins σ _ _ e s' I2 hq'
 | ok fl=>
  cases fl with
  | ret u=>
   obtain⟨v,H',I3,rv,ev,q3⟩:=I2.after hq';subst ev;exact⟨rv,⟨V.ref (s.heap.objs.size+1),H',I3,rfl,q3⟩⟩
  | next=>exact False.elim hq'
  | brk=>exact False.elim hq'
  | cont=>exact False.elim hq'
def Sh(M:Mk X.K C f)(F:x8 X.prog X.w X.K X.mg X.base CX k f fd ps sp)(hr:K8 (k+1) X.A)(hg:Gl X x)(hm:X.mg x=some (.ref C))(hb:K9 X.K fd ps ds)(hd:z8 dvs ds)(hx:CP CX X E)
    (ha:PA X (e::es) t) (hdb:(x == ("__debug__":Str))=false:=by decide) (he:starEach (e::es) X.env=(false,eval e X.env)::starEach es X.env:=by rfl) (hpl:(backTo pos (starEach es X.env)).any (·.1)=false:=by rfl) :
    PE X (.Call (.Name x p) (e::es) [] pos) (WH C sp dvs E t):=by
 intro pins s σ H Q I h;refine wpAny_Call_Name_kw (Dw I hg hm ?_ hdb);refine cV (h₀:=X.base) I.ok.mod.kin M.kp (E3 (ha pos pins s σ H _ I h) λus s1 ⟨vs,H1,I1,r,q⟩=>⟨I1.kIn,?_⟩) he hpl;exact PJ M F hr hb hd hx I1 r q
end
section
variable{X:Cx}{CX:OO}{k:Nat}{f C:Addr}{fd:FuncData}{ps ks:List Str}{sp:Sp}{E:XK}{x m:Str}{p pos apos kpos:Pos}{e o:Expr}{es:List Expr}{kws:List Keyword}{te ta:TE}{t tk:TA}{nm:Option Str}
structure KBinds(K:aa)(fd:FuncData)(ps ks:List Str)(g:List Value->List Value->List Value)(gV:List V->List V->List V):Prop where
 to:∀(s:Shared) (us ws:List Value),K.In s.heap->(g us ws).length=ps.length->BindsTo s fd ⟨us,ks.zip ws⟩ (ps.zip (g us ws))
 rel:∀{vs:List V} {us:List Value} {zs:List V} {ws:List Value},z8 vs us->z8 zs ws->z8 (gV vs zs) (g us ws)
variable{g:List Value->List Value->List Value}{gV:List V->List V->List V}
end
structure g6(N P:List Str)(sc:Scope):Prop where
 kind:sc.kind=.function
 co:sc.isCoroutine=false
 gen:sc.isGenerator=false
 nd:N.Nodup
 pre:N.take P.length=P
 par:∀x∈P,sc.names.lookup x=some .local\/sc.names.lookup x=some .cell
 nofree:∀y∈sc.names,y.2≠.free
theorem HJ{kindOf:Str->Option NameKind}{x:Str}:∀{binds:List (Str × Value)} {m:Str->Option Value},(∀v,(x,v) ∉ binds)->bindL kindOf binds m x=m x
 | [],_,_=>rfl
 | (n,v)::r,m,h=>by
  unfold bindL;rw[HJ λw hw=>h w (aD _ hw)];split
  . have:x≠n:=by rintro rfl;exact h v aw
    simp[this]
  . rfl
theorem HL{kindOf:Str->Option NameKind}{x:Str}:∀{binds:List (Str × Value)} {m:Str->Option Value},(∀v,(x,v) ∉ binds)->bindC kindOf binds m x=m x
 | [],_,_=>rfl
 | (n,v)::r,m,h=>by
  unfold bindC;rw[HL λw hw=>h w (aD _ hw)];split
  . rfl
  . have:x≠n:=by rintro rfl;exact h v aw
    simp[this]
theorem HK{kindOf:Str->Option NameKind}{x:Str}{v:Value}:∀{P:List Str} {vs:List Value} {i:Nat} {m:Str->Option Value},P.Nodup->P[i]? = some x->vs[i]? = some v->kindOf x=some .local->
    bindL kindOf (P.zip vs) m x=some v
 | [],_,_,_,_,h,_,_=>by simp at h
 | _::_,[],_,_,_,_,h,_=>by simp at h
 | p::P,w::vs,0,m,nd,h1,h2,hk=>by
  simp at h1 h2;subst h1;subst h2;show bindL kindOf ((p,w)::P.zip vs) m p=_;unfold bindL;rw[HJ λv hv=>(bS.mp nd).1 (List.of_mem_zip hv).1,if_pos hk];simp
 | p::P,w::vs,i+1,m,nd,h1,h2,hk=>by
  show bindL kindOf ((p,w)::P.zip vs) m x=_;unfold bindL;exact HK (i:=i) (bS.mp nd).2 (by simpa using h1) (by simpa using h2) hk
theorem HM{kindOf:Str->Option NameKind}{x:Str}{v:Value}:∀{P:List Str} {vs:List Value} {i:Nat} {m:Str->Option Value},P.Nodup->P[i]? = some x->vs[i]? = some v->kindOf x≠some .local->
    bindC kindOf (P.zip vs) m x=some v
 | [],_,_,_,_,h,_,_=>by simp at h
 | _::_,[],_,_,_,_,h,_=>by simp at h
 | p::P,w::vs,0,m,nd,h1,h2,hk=>by
  simp at h1 h2;subst h1;subst h2;show bindC kindOf ((p,w)::P.zip vs) m p=_;unfold bindC;rw[HL λv hv=>(bS.mp nd).1 (List.of_mem_zip hv).1,if_neg hk];simp
 | p::P,w::vs,i+1,m,nd,h1,h2,hk=>by
  show bindC kindOf ((p,w)::P.zip vs) m x=_;unfold bindC;exact HM (i:=i) (bS.mp nd).2 (by simpa using h1) (by simpa using h2) hk
def CW(N:List Str)(vs:List V):St:=vs.map some++List.replicate (N.length - vs.length) none
def MI(CX:OO)(P:Program)(w:World)(K:aa)(mg:Str->Option Value)(base:Heap)(N:List Str)(qual:Str)(scope:Scope)(f:Addr)(cd:Value)(A:Around)(outer:List Env)(s:Shared)(H:Hp)(E:XK):Cx where
 prog:=P
 w:=w
 K:=K
 mg:=mg
 base:=base
 A:=A.deeper (envOfC qual scope s.heap.objs.size f cd)
 N:=N
 s₀:=s
 H₀:=H
 env:=envOfC qual scope s.heap.objs.size f cd
 outer:=outer
 stack:=envOfC qual scope s.heap.objs.size f cd::outer
 ex:=[]
 calm:=true
 fn:=λ_=>true
 pn:=[]
 xe:=λe s'=>wpAny (model P w) (A.deeper (envOfC qual scope s.heap.objs.size f cd)) (leaving (envOfC qual scope s.heap.objs.size f cd) e) (λ_ s''=>CX outer H s E e s'') (λe' s''=>CX outer H s E e' s'') s'
def KY{sc:Scope}{n:Nat}{x:Str}(h:sc.names.lookup x=some .cell):∃c,(cellsFrom n sc.names []).lookup x=some c:=by
 have q:=PySem.W.cellsFrom_some sc.names n [] (.inl h);exact Option.isSome_iff_exists.mp q
def OA{CX:OO}{P:Program}{w:World}{K:aa}{mg:Str->Option Value}{base:Heap}{N ps:List Str}{qual:Str}{scope:Scope}{f:Addr}{cd:Value}{A:Around}{outer:List Env}{s s1:Shared}{H:Hp}{E:XK}{us:List Value}{vs:List V}
    (S:g6 N ps scope) (hd:A.handled=none) (e0:Hl P w K mg base A outer s H) (hl:vs.length=ps.length) (r:z8 vs us)
    (x:InCallC s s.heap.objs.size (bindL (envOfC qual scope s.heap.objs.size f cd).kindOf (ps.zip us) λ_=>none) (cellsFrom (s.heap.objs.size+1) scope.names []) (bindC (envOfC qual scope s.heap.objs.size f cd).kindOf (ps.zip us) λ_=>none) s1) :
    r9 (MI CX P w K mg base N qual scope f cd A outer s H E) [] (CW N vs) H s1:=by
 have hpl:ps.length<=N.length:=by have:=congrArg List.length S.pre;rw[bK]at this;omega
 obtain⟨h1,tk,rfl,hk⟩:=x.done;have noA:∀b:Addr,b ∉ (MI CX P w K mg base N qual scope f cd A outer s H E).ex:=λb z=>absurd (show b∈([]:List Addr)from z) (by simp);refine⟨⟨e0.mod,S.kind,rfl,rfl,ae _,λy z c h1 h2=>?_,λy hy=>?_,λy c _ h=>?_,λ_=>hd,Around.frames_deeper e0.frames,.inr ⟨rfl,rfl⟩,λb z=>absurd z (noA b),e0.bs,e0.bsz,λb _ _=>noA b,λb z=>absurd z (noA b),e0.funs,e0.frf⟩,
  rfl,e0.bare,Un.kept hk,⟨_,x.toInCall.ns,λi y v h1 h2 h3=>?_⟩,λy c h=>⟨_,x.cell y c h⟩,e0.hok.fresh (ae _),λy c h=>?_,λp hp=>absurd (show p∈([]:List (Addr × Obj))from hp) (by simp),e0.hok.kept hk,?_⟩
 . exact name_of_addr x.apart (aY h1) (aY h2)
 . have hy:scope.names.lookup y=some .cell\/scope.names.lookup y=some .free:=hy;rcases hy with hy | hy
   . exact KY hy
   . exact absurd rfl (S.nofree _ (aY hy))
 . exact bJ (x.above y c (aY h))
 . have hi:i < vs.length:=by
    unfold CW at h2;by_cases hi:i < vs.length
    . exact hi
    . rw[aK (by simpa using hi)]at h2;rw[cH]at h2;split at h2 <;>cases h2
   have ha:vs[i]? = some v:=by
    unfold CW at h2;rw[aH (by simpa using hi),ay]at h2;cases e:vs[i]? with
    | none=>rw[e]at h2;cases h2
    | some a=>rw[e]at h2;cases h2;rfl
   obtain⟨u,hu,rv⟩:=r.get ha;have hp:ps[i]? = some y:=by
    rw[<- S.pre,List.getElem?_take_of_lt oM];exact h1
   have ndP:ps.Nodup:=by rw[<- S.pre];exact S.nd.sublist (List.take_sublist _ _)
   refine⟨u,rv,?_⟩;rcases S.par y (aZ hp)with k | k
   . exact .inl ⟨k,HK ndP hp hu k⟩
   . obtain⟨c,e⟩:=KY (n:=s.heap.objs.size+1) k;refine .inr ⟨.inl k,c,e,?_⟩;have q:=x.cell y c e;rw[HM ndP hp hu (by show scope.names.lookup y≠_;rw[k];decide)]at q;exact q
 . exact e0.hok.fresh (bJ (x.above y c (aY h)))
 . unfold CW;show _=N.length;rw[aq,af,bL];omega
def TQ{CX:OO}{P:Program}{w:World}{K:aa}{mg:Str->Option Value}{base:Heap}{k:Nat}{f:Addr}{name qual:Str}{params:Arguments}{body:List Stmt}{scope:Scope}{dV kV doc pm cdv ct oc:Value}{an od:Option Addr}
    {osl:Array (Option Value)} {N ps:List Str} {sp:Sp} (lk:K.lookup f=some ⟨oc,od,.func (PySem.W.fnOf name qual params body scope dV kV doc pm an cdv ct),osl⟩) (hcd:PySem.W.codeIn K cdv qual=true) (S:g6 N ps scope)
    (len:∀vs H Q E,sp vs H Q E->vs.length=ps.length)
    (hbody:∀(A:Around) (outer:List Env) (s:Shared) (H:Hp) (vs:List V) (Q:VK) (E:XK),K8 k (A.deeper (envOfC qual scope s.heap.objs.size f cdv))->sp vs H Q E->
     ∃t,MP (MI CX P w K mg base N qual scope f cdv A outer s H E) body t/\t { nx:=λ_ H'=>Q .non H',rt:=Q } (CW N vs) H) :
    x8 P w K mg base CX (k+1) f (PySem.W.fnOf name qual params body scope dV kV doc pm an cdv ct) ps sp:=by
 refine⟨len,λA outer s H args us vs Q E hr e0 hb r hsp=>?_⟩;have hl:=len _ _ _ _ hsp;have KX:K.In s.heap:=e0.mod.kin.keeps λb o e=>(e0.bs b o e).1;have lim:s.heap.NoLimit:=e0.mod.nolimit.keeps λb o e=>(e0.bs b o e).1;have hkind:∀y∈ps.zip us,scope.names.lookup y.1=some .local\/(scope.names.lookup y.1=some .cell/\((cellsFrom (s.heap.objs.size+1) scope.names []).lookup y.1).isSome=true):=λ⟨n,v⟩ hy=>by
  rcases S.par n (List.of_mem_zip hy).1 with q | q
  . exact .inl q
  . exact .inr ⟨q,PySem.W.cellsFrom_some _ _ _ (.inl q)⟩
 refine codeAny_call_function hr.depth (KX _ _ lk) rfl S.co S.gen rfl (PySem.W.codeRec_of KX hcd) (hb _ _ _ _ ?_);refine wpAny_newFunctionEnv_cells S.kind hkind λenv he s1 x=>?_;subst he;refine⟨lim.keeps x.toInCall.keep,codeAny_func ?_⟩;obtain⟨t,ht,hq⟩:=hbody A outer s H vs Q E (hr.deeper _) hsp;have I:r9 (MI CX P w K mg base N qual scope f cdv A outer s H E) [] (CW N vs) H s1:=OA S hr.hd e0 hl r x;refine wpAny_mono (ht [] s1 (CW N vs) H _ I hq) (λfl s' hs=>?_) λe s' hs=>hs;have fin:∀{σ':St} {H':Hp} {v:V} {u:Value},r9 (MI CX P w K mg base N qual scope f cdv A outer s H E) [] σ' H' s'->D5 v u->Q v H'->CE outer P w H s Q u s':=
  λ{σ' H' v u} J rv q=>⟨v,H',J.os,J.bare,J.base,J.hok,rv,q⟩
 cases fl with
 | ret u=>
  obtain⟨v,σ',H',J,rv,q⟩:=hs;exact fin J rv q
 | next=>
  obtain⟨σ',H',J,q⟩:=hs;exact fin (v:=V.non) (u:=Value.none) J rfl q
 | brk=>
  obtain⟨_,_,_,q⟩:=hs;exact False.elim q
 | cont=>
  obtain⟨_,_,_,q⟩:=hs;exact False.elim q
section
variable{X:Cx}{x:Str}{p pos:Pos}{e:Expr}{es:List Expr}{t:TA}{id T:String}{r:List V->Hp->VK->Prop}
def tCB(r:List V->Hp->VK->Prop)(t:TA):TE:=λσ H Q=>t σ H λvs H1=>r vs H1 Q
def l5(hc:U2 X (.builtin id) r)(hg:Gl X x)(hm:X.mg x=none)(hv:bootBuiltins x=some (.builtin id))(ha:PA X (e::es) t)(hn:x≠"__name__":=by decide)(hdb:(x == ("__debug__":Str))=false:=by decide)
    (he:starEach (e::es) X.env=(false,eval e X.env)::starEach es X.env:=by rfl) (hpl:(backTo pos (starEach es X.env)).any (·.1)=false:=by rfl):PE X (.Call (.Name x p) (e::es) [] pos) (tCB r t):=by
 intro pins s σ H Q I h;refine wpAny_Call_Name_kw (AH I hg hm hv ?_ hn hdb);exact PyProof.Rows.callWith_builtin1 (E3 (ha pos pins s σ H _ I h) λus s1 ⟨vs,H1,I1,r1,q1⟩=>hc pins s1 σ H1 vs us Q I1 r1 q1) he hpl
def j8(hc:U2 X (.type T) r)(hg:Gl X x)(hm:X.mg x=none)(hv:bootBuiltins x=some (.type T))(ha:PA X (e::es) t)(hn:x≠"__name__":=by decide)(hdb:(x == ("__debug__":Str))=false:=by decide)
    (he:starEach (e::es) X.env=(false,eval e X.env)::starEach es X.env:=by rfl) (hpl:(backTo pos (starEach es X.env)).any (·.1)=false:=by rfl):PE X (.Call (.Name x p) (e::es) [] pos) (tCB r t):=by
 intro pins s σ H Q I h;refine wpAny_Call_Name_kw (AH I hg hm hv ?_ hn hdb);exact cn (E3 (ha pos pins s σ H _ I h) λus s1 ⟨vs,H1,I1,r1,q1⟩=>hc pins s1 σ H1 vs us Q I1 r1 q1) he hpl
end
end L2
namespace HT
open PySem PyProof.Rows
section
open PySem.SeqAt
open PySem.AutoSeq1 (wpAny_loadPart')
open PySem.MeetsSeq PySem.MeetsSeq2 PySem.MeetsSeq3
end
section
variable{prog:Program}{w:World}{A:Around}{E:Value->Shared->Prop}{s:Shared}
def Tn{t b:Addr}{vs ws:List Value}{Q:Value->Shared->Prop}(ht:IsTup s.heap t vs.toArray)(hb:IsTup s.heap b ws.toArray)(hv:vs≠[])
    (h1:ws=[]->Q (.ref t) s) (h2:ws≠[]->Q (.ref s.heap.objs.size) { s with heap:=s.heap.push { cls:=.type "tuple",data:=.seq (vs++ws).toArray } })
    (hsz:vs.length+ws.length<=sizeLine):wpAny (model prog w) A (binaryOp .Add (.ref t) (.ref b)) Q E s:=by
 obtain⟨⟨cls,dd,data,sl⟩,ho,hc,n,hd⟩:=id ht;obtain⟨⟨cls2,dd2,data2,sl2⟩,ho2,hc2,n2,hd2⟩:=id hb;simp only at hc hd hc2 hd2;subst hc hd hc2 hd2;have e:vs.toArray++ws.toArray=(vs++ws).toArray:=by simp
 by_cases hw:ws=[]
 . exact concat_meets ⟨_,ho,rfl⟩ ⟨_,ho2,rfl⟩ noFill_tuple_add seq_tuple_add dB dC (dD _ _)
    (tuple_addW1 t b vs.toArray ws.toArray n n2 dd dd2 sl sl2 (by simpa using hv) (by simp[hw])) ⟨ho,ho2,h1 hw⟩
 . refine concat_meets ⟨_,ho,rfl⟩ ⟨_,ho2,rfl⟩ noFill_tuple_add seq_tuple_add dB dC (dD _ _)
    (tuple_addW2 t b vs.toArray ws.toArray n n2 dd dd2 sl sl2 (by simpa using hv) (by simpa using hw) (by rw[au,au];exact hsz)) ⟨ho,ho2,?_⟩
   rw[e];exact h2 hw
def Q4(n d:Nat):Option Int->Nat
 | none=>d
 | some v=>if v < 0 then(v+(n:Int)).toNat else min v.toNat n
def JJ(n d:Nat):Q4 n d none=d:=rfl
def Nd(n d k:Nat):Q4 n d (some (k:Int))=min k n:=by
 show(if(k:Int) < 0 then((k:Int)+(n:Int)).toNat else min (k:Int).toNat n)=min k n;rw[if_neg oM,Int.toNat_natCast]
def UC(n d:Nat)(hd:d<=n)(o:Option Int):Q4 n d o<=n:=by
 cases o with
 | none=>exact hd
 | some v=>
  show(if v < 0 then(v+(n:Int)).toNat else min v.toNat n)<=n;by_cases hv:v < 0
  . rw[if_pos hv];omega
  . rw[if_neg hv];exact Nat.min_le_right _ _
def NL(v:Int)(n d:Nat):(if v < 0 then max (v+(n:Int)) 0 else min v (n:Int))=((Q4 n d (some v):Nat):Int):=by
 show(if v < 0 then max (v+(n:Int)) 0 else min v (n:Int))=(((if v < 0 then(v+(n:Int)).toNat else min v.toNat n):Nat):Int);by_cases hv:v < 0
 . simp only[if_pos hv];omega
 . simp only[if_neg hv];omega
def MM(lo hi:Option Int)(n:Nat):Builtin.Slice.sliceAdjust lo hi 1 (n:Int)=(((Q4 n 0 lo:Nat):Int),((Q4 n n hi:Nat):Int)):=by
 have h1:¬((1:Int) < 0):=by omega
 unfold Builtin.Slice.sliceAdjust;simp only[h1,if_false];refine Prod.ext ?_ ?_
 . cases lo with
   | none=>rfl
   | some v=>exact NL v n 0
 . cases hi with
   | none=>rfl
   | some v=>exact NL v n n
def LW(i j:Nat):Builtin.Slice.slicePlaces (i:Int) (j:Int) 1=j - i:=by
 unfold Builtin.Slice.slicePlaces;have h1:(1:Int) > 0:=by omega
 simp only[h1,if_true,Int.ediv_one];split <;>omega
def Fp{v:Value}{o:Option Int}{Q:Option Int->Shared->Prop}(p:IsPart v o)(h:Q o s):wpAny (model prog w) A (Builtin.Slice.slicePartIndex v) Q E s:=by
 cases p with
 | none=>exact slicePart_none h
 | int i t=>exact slicePart_int h
def Ad{sl:Addr}{vl vu:Value}{lo hi:Option Int}{n:Nat}{Q:Int × Int × Nat->Shared->Prop}(hs:s.heap.IsSliceOf sl vl vu .none)(pl:IsPart vl lo)(pu:IsPart vu hi)
    (h:Q (((Q4 n 0 lo:Nat):Int),1,Q4 n n hi - Q4 n 0 lo) s):wpAny (model prog w) A (Builtin.Slice.sliceApplied (.ref sl) (pure (n:Int))) Q E s:=by
 obtain⟨os,hos,hcs,hds⟩:=id hs;unfold Builtin.Slice.sliceApplied Builtin.Slice.sliceFields;refine wpAny_bind (wpAny_bind (wpAny_field hos hds (x:=vl) rfl (wpAny_bind (wpAny_field hos hds (x:=vu) rfl (wpAny_bind (wpAny_field hos hds (x:=.none) rfl (wpAny_pure ?_)))))));refine wpAny_bind (slicePart_none ?_);show wpAny _ _ (if((1:Int) == 0)=true then _ else _) _ _ s;rw[if_neg (by decide)];refine wpAny_bind (Fp pl (wpAny_bind (Fp pu (wpAny_bind (wpAny_pure ?_)))));show wpAny _ _ (match Builtin.Slice.sliceAdjust lo hi 1 (n:Int)with | (lo,hi)=>pure (lo,(1:Int),Builtin.Slice.slicePlaces lo hi 1)) _ _ s;rw[MM lo hi n];show wpAny _ _ (pure (((Q4 n 0 lo:Nat):Int),(1:Int),Builtin.Slice.slicePlaces ((Q4 n 0 lo:Nat):Int) ((Q4 n n hi:Nat):Int) 1)) _ _ s;rw[LW];exact wpAny_pure h
def PQ(xs:Array Value)(i k:Nat):((List.range k).filterMap λ(m:Nat)=>xs[((i:Int)+(m:Int) * 1).toNat]?).toArray=((xs.toList.drop i).take k).toArray:=by
 have e:(λ(m:Nat)=>xs[((i:Int)+(m:Int) * 1).toNat]?)=λm=>xs[i+m]? := by
  funext m;have:((i:Int)+(m:Int) * 1).toNat=i+m:=by omega
  rw[this]
 rw[e];have:=pick_run xs i k;rw[List.filterMap_map]at this;have e2:((λx=>xs[x]?) ∘ λx=>i+x)=λm=>xs[i+m]? := rfl;rw[e2]at this;rw[this]
def DA{t sl:Addr}{items:Array Value}{vl vu:Value}{lo hi:Option Int}{Q:Value->Shared->Prop}(ht:IsTup s.heap t items)(hs:s.heap.IsSliceOf sl vl vu .none)(pl:IsPart vl lo)(pu:IsPart vu hi)
    (hw:¬(Q4 items.size 0 lo=0/\Q4 items.size items.size hi=items.size))
    (h:Q (.ref s.heap.objs.size) { s with heap:=s.heap.push { cls:=.type "tuple",data:=.seq ((items.toList.drop (Q4 items.size 0 lo)).take (Q4 items.size items.size hi - Q4 items.size 0 lo)).toArray } })
    (hsz:items.size<=sizeLine):wpAny (model prog w) A (getItem (.ref t) (.ref sl)) Q E s:=by
 have htake:sizeOk (.seq ((items.toList.drop (Q4 items.size 0 lo)).take (Q4 items.size items.size hi - Q4 items.size 0 lo)).toArray):=by
  show((items.toList.drop (Q4 items.size 0 lo)).take (Q4 items.size items.size hi - Q4 items.size 0 lo)).toArray.size<=sizeLine;rw[au,bK,cW,Array.length_toList];omega
 have hj:Q4 items.size items.size hi<=items.size:=UC _ _ (ae _) hi;obtain⟨os,hos,hcs,hds⟩:=id hs;have hTs:s.TypeIs (.ref sl) "slice":=⟨os,hos,hcs⟩;unfold getItem
 try with_reducible refine wpAny_holding ?_
 first | refine wpAny_bind (wpAny_pure ?_) | skip
 refine wpAny_bind (wpAny_sequenceKey ht.typeIs (by decide) ?_);refine wpAny_bind (wpAny_callSpecial?_slot (name:=Str.ofString "__getitem__") ht.typeIs cX
  (wpAny_call_entry cX ht.typeIs entry_tuple_getitem ?_ (args_tuple_getitem _ _)))
 show wpAny _ _ (Builtin.Tuple.tupleItemsOf (.ref t) >>= _) _ _ s;refine wpAny_bind (tupleItemsOf_ ht ?_);refine wpAny_bind (wpAny_typeOf hTs ?_);rw[if_pos (by decide)];refine wpAny_bind (Ad hs pl pu ?_);have hno:¬((((Q4 items.size 0 lo:Nat):Int) == 0 && (1:Int) == 1 && (Q4 items.size items.size hi - Q4 items.size 0 lo) == items.size)=true):=by
  intro q;rw[Bool.and_eq_true,Bool.and_eq_true]at q;have q1:((Q4 items.size 0 lo:Nat):Int)=0:=eq_of_beq q.1.1;have q2:Q4 items.size items.size hi - Q4 items.size 0 lo=items.size:=eq_of_beq q.2;exact hw ⟨oM,oM⟩
 show wpAny _ _ (if(((Q4 items.size 0 lo:Nat):Int) == 0 && (1:Int) == 1 && (Q4 items.size items.size hi - Q4 items.size 0 lo) == items.size)=true then _ else _) _ _ s;rw[if_neg hno,PQ]
 first
  | exact wpAny_bind (m:=Builtin.Tuple.tupleExact _) (wpAny_newObj_type (wpAny_pure ⟨_,rfl,wpAny_pure h⟩) htake)
  | exact wpAny_bind (m:=Builtin.Tuple.tupleExact _) (wpAny_newObj_type (wpAny_bind (wpAny_pure (wpAny_pure ⟨_,rfl,wpAny_pure h⟩))) htake)
  | exact wpAny_bind (wpAny_bind (m:=Builtin.Tuple.tupleExact _) (wpAny_newObj_type (wpAny_pure (wpAny_pure ⟨_,rfl,wpAny_pure h⟩)) htake))
  | exact wpAny_bind (wpAny_bind (m:=Builtin.Tuple.tupleExact _) (wpAny_newObj_type (wpAny_pure ⟨_,rfl,wpAny_pure h⟩) htake))
end
end HT
namespace L2
open PySem PySem.Spec PyProof.Rows
abbrev TO:=St->Hp->(Option Int->Hp->Prop)->Prop
def PO(X:Cx)(e:Option Expr)(t:TO):Prop:=
 ∀(pins:List (Addr × Obj)) (s:Shared) (σ:St) (H:Hp) (Q:Option Int->Hp->Prop),r9 X pins σ H s->t σ H Q->
  wpAny (model X.prog X.w) X.A (evalPart e X.env) (λu s'=>∃o H',r9 X pins σ H' s'/\IsPart u o/\Q o H') X.xe s
def tNoPart:TO:=λ_ H Q=>Q none H
def WD(t:TE):TO:=λσ H Q=>t σ H λx H1=>∃i,x=.int i/\Q (some i) H1
section
variable{X:Cx}{e:Expr}{te:TE}{lo hi:Option Expr}{tl th:TO}{pos p2:Pos}
def BQ:PO X none tNoPart:=by
 intro pins s σ H Q I h;rw[evalPart_none];exact wpAny_pure ⟨none,H,I,.none,h⟩
def BP(h:PE X e te):PO X (some e) (WD te):=by
 intro pins s σ H Q I hw;rw[evalPart_some];refine E3 (h pins s σ H _ I hw) λu s1 ⟨x,H1,I1,r1,q1⟩=>?_;obtain⟨i,rfl,q⟩:=q1;obtain⟨t,rfl⟩:=r1;exact⟨some i,H1,I1,.int i t,q⟩
def e0m(X:Cx)(r:V->Option Int->Option Int->Hp->VK->Prop):Prop:=
 ∀(pins:List (Addr × Obj)) (s:Shared) (σ:St) (H:Hp) (x:V) (v vl vu:Value) (lo hi:Option Int) (sl:Addr) (Q:VK),r9 X pins σ H s->D5 x v->s.heap.IsSliceOf sl vl vu .none->IsPart vl lo->IsPart vu hi->r x lo hi H Q->
  ∃T id,typeLookup (.type T) "__getitem__"=pure (some (.builtin id))/\s.TypeIs v T/\wpAny (model X.prog X.w) X.A (getItem v (.ref sl)) (EP X pins σ Q) X.xe s
def tSl(r:V->Option Int->Option Int->Hp->VK->Prop)(te:TE)(tl th:TO):TE:=λσ H Q=>te σ H λx H1=>tl σ H1 λl H2=>th σ H2 λu H3=>r x l u H3 Q
def Aj{r:V->Option Int->Option Int->Hp->VK->Prop}(hr:e0m X r)(he:PE X e te)(hl:PO X lo tl)(hu:PO X hi th):PE X (.Subscript e (.Slice lo hi none p2) pos) (tSl r te tl th):=by
 intro pins s σ H Q I h;refine Subscript_ (E3 (he pins s σ H _ I h) λv s1 ⟨x,H1,I1,r1,q1⟩=>?_);refine wpAny_Slice (E3 (hl pins s1 σ H1 _ I1 q1) λvl s2 ⟨l,H2,I2,pl,q2⟩=>E3 (hu pins s2 σ H2 _ I2 q2) λvu s3 ⟨u,H3,I3,pu,q3⟩=>?_);rw[evalPart_none];refine wpAny_pure ?_;have I4:r9 X pins σ H3 { s3 with heap:=s3.heap.push { cls:=.type "slice",data:=.fields #[vl,vu,.none] } }:=I3.kept (t':=s3.toks) λb ob q=>ak _ q;obtain⟨T,id,hT,ht,hg⟩:=hr pins { s3 with heap:=s3.heap.push { cls:=.type "slice",data:=.fields #[vl,vu,.none] } } σ H3 x v vl vu l u s3.heap.objs.size Q I4 r1 (Heap.IsSliceOf.new ..) pl pu q3;show wpAny (model X.prog X.w) X.A (subscriptTail e (.Slice lo hi none p2) v (.ref s3.heap.objs.size)) (EP X pins σ Q) X.xe { s3 with heap:=s3.heap.push { cls:=.type "slice",data:=.fields #[vl,vu,.none] } };exact tail_any (ops:=[.ref s3.heap.objs.size,v]) ht hT hg (by with_unfolding_all rfl)
def Ce(xs:List V)(lo hi:Option Int):List V:=(xs.drop (HT.Q4 xs.length 0 lo)).take (HT.Q4 xs.length xs.length hi - HT.Q4 xs.length 0 lo)
def EB(xs:List V)(lo hi:Option Int):(Ce xs lo hi).length<=xs.length:=by
 unfold Ce;rw[bK,cW];omega
def rSlT(K:aa):V->Option Int->Option Int->Hp->VK->Prop:=λx lo hi H Q=>∃a xs,x=.ref a/\o9 K H a xs/\
 ¬(HT.Q4 xs.length 0 lo=0/\HT.Q4 xs.length xs.length hi=xs.length)/\∀p,H p=none->Q (.ref p) (upd H p (.tup (Ce xs lo hi)))
def Uz:e0m X (rSlT X.K):=by
 intro pins s σ H x v vl vu lo hi sl Q I rx hs pl pu h;obtain⟨a,xs,rfl,hx,hw,q⟩:=h;cases rx;obtain⟨its,r,ht,hz⟩:=I.tuple hx;have hlen:its.toArray.size=xs.length:=by rw[au];exact r.length.symm
 refine⟨"tuple",_,PyProof.Rows.slot_tuple_getitem.lookup,ht.typeIs,?_⟩;refine HT.DA ht hs pl pu (by rw[hlen];exact hw) ?_ (by rw[hlen];exact hz);rw[hlen];refine⟨.ref s.heap.objs.size,_,I.laid (t':=s.toks) (o:=.tup (Ce xs lo hi)) (λb ob q=>ak _ q) (ae _) ?_,rfl,q _ (I.hok.fresh (ae _))⟩;exact⟨ah (EB xs lo hi) hz,_,(r.drop (HT.Q4 xs.length 0 lo)).take (HT.Q4 xs.length xs.length hi - HT.Q4 xs.length 0 lo),IsTup.new _ _,λ_=>⟨_,aA _ rfl,rfl⟩⟩
def XO(K:aa):R2:=λx y H Q=>∃a b xs ys,x=.ref a/\y=.ref b/\o9 K H a xs/\o9 K H b ys/\xs≠[]/\xs.length+ys.length<=sizeLine/\
 (ys=[]->Q (.ref a) H)/\(ys≠[]->∀p,H p=none->Q (.ref p) (upd H p (.tup (xs++ys))))
def z8.nil_iff{xs:List V}{us:List Value}(r:z8 xs us):us=[]↔xs=[]:=by
 cases r with
 | nil=>simp
 | cons _ _=>simp
def Sm:DH X (binaryOp .Add) (XO X.K):=by
 intro pins s σ H x y v u Q I rx ry h;obtain⟨a,b,xs,ys,rfl,rfl,ha,hb,hx,hz,q1,q2⟩:=h;cases rx;cases ry;obtain⟨its,r1,p1,_⟩:=I.tuple ha;obtain⟨its2,r2,p2,_⟩:=I.tuple hb;refine HT.Tn p1 p2 (λz=>hx (r1.nil_iff.mp z)) (λz=>⟨.ref a,H,I,rfl,q1 (r2.nil_iff.mp z)⟩) (λz=>?_) (by rw[<- r1.length,<- r2.length];exact hz);refine⟨.ref s.heap.objs.size,_,I.laid (t':=s.toks) (o:=.tup (xs++ys)) (λb ob q=>ak _ q) (ae _) ?_,rfl,q2 (λw=>z (r2.nil_iff.mpr w)) _ (I.hok.fresh (ae _))⟩;exact⟨by rw[aq];exact hz,_,r1.append r2,IsTup.new _ _,λ_=>⟨_,aA _ rfl,rfl⟩⟩
end
def SW(n:Nat)(i:Int):Option Nat:=if 0<=i then(if i < n then some i.toNat else none)else if -(n:Int)<=i then some (i+n).toNat else none
def OI{α:Type}(xs:List α)(i:Int):Option α:=(SW xs.length i).bind λj=>xs[j]?
def Nt{n:Nat}{i:Int}{j:Nat}(h:SW n i=some j):seqIndex? i n=some j/\j < n/\-(n:Int)<=i/\i < n:=by
 unfold SW at h;by_cases h0:0<=i
 . rw[if_pos h0]at h;by_cases h1:i < n
   . rw[if_pos h1]at h;have e:i.toNat=j:=Option.some.inj h;exact⟨by rw[seqIndex_of h0 h1,e],oM,oM,h1⟩
   . rw[if_neg h1]at h;cases h
 . rw[if_neg h0]at h;by_cases h1:-(n:Int)<=i
   . rw[if_pos h1]at h;have e:(i+n).toNat=j:=Option.some.inj h;exact⟨by rw[seqIndex_neg oM h1,e],oM,h1,oM⟩
   . rw[if_neg h1]at h;cases h
def Ji{α:Type}{xs:List α}{i:Int}{v:α}(h:OI xs i=some v):∃j,seqIndex? i xs.length=some j/\xs[j]? = some v/\j < xs.length/\-(xs.length:Int)<=i/\i < xs.length:=by
 unfold OI at h;cases e:SW xs.length i with
 | none=>rw[e]at h;cases h
 | some j=>
  rw[e]at h;obtain⟨h1,h2,h3,h4⟩:=Nt e;exact⟨j,h1,h,h2,h3,h4⟩
def C0{α:Type}{xs:List α}{j:Nat}{v:α}(h:xs[j]? = some v):OI xs (j:Int)=some v:=by
 have hj:j < xs.length:=(aQ.mp h).1;have e:SW xs.length (j:Int)=some j:=by
  unfold SW;rw[if_pos oM,if_pos oM];simp
 unfold OI;rw[e];exact h
def Tq(b:Expr):Prop:=∀o i,subscripted b false o i=operate [o,i] (getItem o i)
def Le(X:Cx)(r:R2):Prop:=
 ∀(value slice:Expr) (pins:List (Addr × Obj)) (s:Shared) (σ:St) (H:Hp) (x y:V) (v u:Value) (Q:VK),r9 X pins σ H s->D5 x v->D5 y u->r x y H Q->
  subscripted slice false v u=operate [v,u] (getItem v u)->wpAny (model X.prog X.w) X.A (subscriptTail value slice v u) (EP X pins σ Q) X.xe s
def MtR(X:Cx)(id:String)(r:V->List V->Hp->VK->Prop):Prop:=
 ∀(pins:List (Addr × Obj)) (s:Shared) (σ:St) (H:Hp) (x:V) (xs:List V) (v:Value) (us:List Value) (Q:VK),r9 X pins σ H s->D5 x v->z8 xs us->r x xs H Q->
  wpAny (model X.prog X.w) X.A (call (.builtin id) (v::us)) (EP X pins σ Q) X.xe s
section
variable{X:Cx}{a b:Expr}{ta tb:TE}{pos:Pos}
def Le.or{r r':R2}(h:Le X r)(h':Le X r'):Le X (λx y H Q=>r x y H Q\/r' x y H Q):=by
 intro value slice pins s σ H x y v u Q I rx ry q hs;rcases q with q | q
 . exact h value slice pins s σ H x y v u Q I rx ry q hs
 . exact h' value slice pins s σ H x y v u Q I rx ry q hs
def j5{r:R2}(hr:Le X r)(ha:PE X a ta)(hb:PE X b tb)(hs:Tq b):PE X (.Subscript a b pos) (tOp r ta tb):=by
 intro pins s σ H Q I h;exact Subscript_ (Wn ha hb I h λv u s2 x y H2 I2 rx ry q=>hr a b pins s2 σ H2 x y v u Q I2 rx ry q (hs _ _))
def XN(K:aa):R2:=λx y H Q=>∃p xs i v,x=.ref p/\y=.int i/\o7 K H p xs/\OI xs i=some v/\Q v H
def GL(K:aa):R2:=λx y H Q=>∃p xs i v,x=.ref p/\y=.int i/\o9 K H p xs/\OI xs i=some v/\Q v H
def rIxS:R2:=λx y H Q=>∃z i c,x=.str z/\y=.int i/\z.length<=sizeLine/\OI z.cps.toList i=some c/\Q (.str ⟨#[c]⟩) H
def B8:Le X (XN X.K):=by
 intro value slice pins s σ H x y v u Q I rx ry h hs;obtain⟨p,xs,i,z,rfl,rfl,hq,he,q⟩:=h;cases rx;obtain⟨t,rfl⟩:=ry;obtain⟨its,r,pl,hz⟩:=I.list hq;obtain⟨j,h1,h2,h3,h4,h5⟩:=Ji he;obtain⟨w,ew,rw'⟩:=r.get h2;have hl:=r.length;have hn:=Ei;have fin:EP X pins σ Q w s:=⟨z,H,I,rw',q⟩;by_cases h0:0<=i
 . have hj:i.toNat=j:=by
    rw[seqIndex_of h0 h5]at h1;exact Option.some.inj h1
   exact item_listR pl.isList h0 oM (by rw[hj];simpa using ew) fin hs
 . have hj:(i+(its.toArray.size:Int)).toNat=j:=by
    rw[seqIndex_neg oM h4]at h1;rw[au,<- hl];exact Option.some.inj h1
   exact subscriptTail_builtinR (x:=w) pl.isList.typeIs slot_list_getitem.lookup
    (wpAny_getItem_list_neg (Q:=λr s'=>r=w/\EP X pins σ Q r s') pl.isList oM (by rw[au] <;>omega) oM (by rw[hj];simpa using ew) ⟨rfl,fin⟩) hs
def i0:Le X (GL X.K):=by
 intro value slice pins s σ H x y v u Q I rx ry h hs;obtain⟨p,xs,i,z,rfl,rfl,hq,he,q⟩:=h;cases rx;obtain⟨t,rfl⟩:=ry;obtain⟨its,r,pl,hz⟩:=I.tuple hq;obtain⟨j,h1,h2,h3,h4,h5⟩:=Ji he;obtain⟨w,ew,rw'⟩:=r.get h2;have hl:=r.length;have hn:=Ei;have fin:EP X pins σ Q w s:=⟨z,H,I,rw',q⟩;exact subscriptTail_builtinR (x:=w) pl.typeIs slot_tuple_getitem.lookup
  (getItem_tuple (j:=j) (Q:=λr s'=>r=w/\EP X pins σ Q r s') pl oM oM (by rw[au,<- hl];exact h1) (by simpa using ew) ⟨rfl,fin⟩) hs
def QH:Le X rIxS:=by
 intro value slice pins s σ H x y v u Q I rx ry h hs;obtain⟨z,i,c,rfl,rfl,hz,he,q⟩:=h;obtain⟨t,rfl⟩:=rx;obtain⟨t',rfl⟩:=ry;obtain⟨j,h1,h2,h3,h4,h5⟩:=Ji he;have hl:z.cps.toList.length=z.length:=by simp[Str.length]
 rw[hl]at h1 h4 h5;have hn:=Ei;exact tail_any (typeIs_str s z t) slot_str_getitem.lookup (getItem_str (c:=c) (by
  have e1:decide (i < -(2 ^ 63:Int))=false:=decide_eq_false oM;have e2:decide (i ≥ 2 ^ 63)=false:=decide_eq_false oM;rw[e1,e2,Bool.or_false]) (by rw[h1];simpa using h2) ⟨.str ⟨#[c]⟩,H,I.tok _,⟨_,rfl⟩,q⟩) hs
def rIx(K:aa):R2:=λx y H Q=>XN K x y H Q\/GL K x y H Q\/rIxS x y H Q
def VR:Le X (rIx X.K):=B8.or (i0.or QH)
def Mg(its:List Value)(n j:Nat)(u:Value):Obj.mapSeq (·.setIfInBounds j u) { cls:=.type "list",data:=.seq its.toArray n }={ cls:=.type "list",data:=.seq (its.set j u).toArray n }:=by
 simp[Obj.mapSeq]
theorem r9.lst{pins:List (Addr × Obj)}{σ:St}{H:Hp}{s:Shared}{p:Addr}{xs:List V}(I:r9 X pins σ H s)(h:H p=some (.lst xs)) :
    ∃(its:List Value) (n:Nat),z8 xs its/\s.heap.get? p=some { cls:=.type "list",data:=.seq its.toArray n }/\xs.length<=sizeLine:=by
 obtain⟨z,its,n,r,e⟩:=I.hok p _ h;exact⟨its,n,r,e,z⟩
def r9.lstUpd{pins:List (Addr × Obj)}{σ:St}{H:Hp}{s:Shared}{p:Addr}{xs ys:List V}{its its':List Value}{n n':Nat}{f:Obj->Obj}(I:r9 X pins σ H s)(h:H p=some (.lst xs))
    (ho:s.heap.get? p=some { cls:=.type "list",data:=.seq its.toArray n }) (hf:f { cls:=.type "list",data:=.seq its.toArray n }={ cls:=.type "list",data:=.seq its'.toArray n' }) (r:z8 ys its') (hz:ys.length<=sizeLine) (t:Nat) :
    r9 X pins σ (upd H p (.lst ys)) { s with heap:=s.heap.update p f,toks:=t }:=by
 have e:(s.heap.update p f).get? p=some { cls:=.type "list",data:=.seq its'.toArray n' }:=by
  rw[Heap.get?_update_self f ho (by rw[hf] <;>rfl),hf]
 refine I.write (x:=p) (e:=p) (by rw[h];trivial) (.inl rfl) (λb u hb q=>(cI _ _ (Ne.symm hb)).trans q) ⟨_,e⟩ ?_;exact⟨hz,its',n',r,e⟩
def rSetL:V->V->V->Hp->(Hp->Prop)->Prop:=λo i v H Q=>∃p xs k j,o=.ref p/\i=.int k/\H p=some (.lst xs)/\SW xs.length k=some j/\Q (upd H p (.lst (xs.set j v)))
def S5:e0o X rSetL:=by
 intro pins s σ H o i v ov iv u Q I ro ri rv h;obtain⟨p,xs,k,j,rfl,rfl,hp,hj,q⟩:=h;cases ro;obtain⟨t,rfl⟩:=ri;obtain⟨its,n,r,ho,hz⟩:=I.lst hp;obtain⟨h1,h2,h3,h4⟩:=Nt hj;have hl:=r.length;have hn:=Ei;have I':r9 X pins σ (upd H p (.lst (xs.set j v))) { s with heap:=s.heap.update p (Obj.mapSeq (·.setIfInBounds j u)) }:=
  I.lstUpd hp ho (Mg its n j u) (r.set rv j) (by rw[bC];exact hz) s.toks
 by_cases h0:0<=k
 . have hk:k.toNat=j:=by
    rw[seqIndex_of h0 h4]at h1;exact Option.some.inj h1
   exact PySem.W.ki_setAt ho h0 oM (by rw[au,<- hl];exact h4) (by rw[hk];exact⟨_,I',q⟩)
 . have hk:(k+(its.toArray.size:Int)).toNat=j:=by
    rw[seqIndex_neg oM h3]at h1;rw[au,<- hl];exact Option.some.inj h1
   exact PySem.W.ki_setBack ho oM (by rw[au,<- hl];exact h3) oM (by rw[hk];exact⟨_,I',q⟩)
def HW(lo hi:Option Int)(n:Nat):(sliceBounds lo hi none n).1=((HT.Q4 n 0 lo:Nat):Int)/\(sliceBounds lo hi none n).2.1=((HT.Q4 n n hi:Nat):Int)/\(sliceBounds lo hi none n).2.2=1:=by
 refine⟨?_,?_,rfl⟩
 . cases lo with
   | none=>simp[sliceBounds,HT.Q4]
   | some i=>
    simp only[sliceBounds,HT.Q4,Option.getD_none,show(1:Int) > 0 by decide,if_true];by_cases h:i < 0
    . simp only[h,if_true] <;>omega
    . simp only[h,if_false] <;>omega
 . cases hi with
   | none=>simp[sliceBounds,HT.Q4]
   | some i=>
    simp only[sliceBounds,HT.Q4,Option.getD_none,show(1:Int) > 0 by decide,if_true];by_cases h:i < 0
    . simp only[h,if_true] <;>omega
    . simp only[h,if_false] <;>omega
def GC(its:List Value)(lo hi:Option Int):slicePick its.toArray lo hi none=((its.drop (HT.Q4 its.length 0 lo)).take (HT.Q4 its.length its.length hi - HT.Q4 its.length 0 lo)).toArray:=by
 obtain⟨h1,h2,h3⟩:=HW lo hi its.toArray.size;unfold slicePick;rw[h1,h2,h3];simp only[sliceRange_one,pick_run,au] <;>rfl
def rSlL(K:aa):V->Option Int->Option Int->Hp->VK->Prop:=λx lo hi H Q=>∃a xs,x=.ref a/\o7 K H a xs/\∀p,H p=none->Q (.ref p) (upd H p (.lst (Ce xs lo hi)))
def RJ:e0m X (rSlL X.K):=by
 intro pins s σ H x v vl vu lo hi sl Q I rx hs pl pu h;obtain⟨a,xs,rfl,hx,q⟩:=h;cases rx;obtain⟨its,r,ht,hz⟩:=I.list hx;have hlen:=r.length;refine⟨"list",_,slot_list_getitem.lookup,ht.isList.typeIs,?_⟩;refine wpAny_getItem_list_slice ht.isList hs pl pu .none (by simp) ?_ (by rw[au] <;>omega);rw[GC,<- hlen];refine⟨.ref s.heap.objs.size,_,I.laid (t':=s.toks) (o:=.lst (Ce xs lo hi)) (λb ob q=>ak _ q) (ae _) ?_,rfl,q _ (I.hok.fresh (ae _))⟩;exact⟨ah (EB xs lo hi) hz,_,0,(r.drop (HT.Q4 xs.length 0 lo)).take (HT.Q4 xs.length xs.length hi - HT.Q4 xs.length 0 lo),aA _ rfl⟩
def K7:U2 X (.type "list") (λxs H Q=>∃p ys,xs=[.ref p]/\(o7 X.K H p ys\/o9 X.K H p ys)/\∀l,H l=none->Q (.ref l) (upd H l (.lst ys))):=by
 intro pins s σ H xs us Q I r h;obtain⟨p,ys,rfl,hq,q⟩:=h;obtain⟨u,rfl,rx⟩:=Hn r;cases rx;have fin:∀(its:List Value),z8 ys its->ys.length<=sizeLine->∀(h':Heap) (c':Nat),(∀b o',s.heap.get? b=some o'->h'.get? b=some o')->
     h'.get? s.heap.objs.size=some { cls:=.type "list",dict:=none,data:=.seq its.toArray c',slots:=#[] }->EP X pins σ Q (.ref s.heap.objs.size) { s with heap:=h' }:=λits r' hz h' c' kp e=>
  ⟨.ref s.heap.objs.size,_,I.laid (t':=s.toks) kp (ae _) (show L6 X.prog X.w _ h' _ (.lst ys)from⟨hz,its,c',r',e⟩),rfl,q _ (I.hok.fresh (ae _))⟩
 rcases hq with hq | hq
 . obtain⟨its,r',pl,hz⟩:=I.list hq;have hlen:=r'.length;obtain⟨o,ho,hc,n,hd⟩:=pl.isList;exact call_list_seq p (.inl rfl) ho hc hd (λh' c' kp e=>fin its r' hz h' c' kp e) (by simp only[au] <;>omega)
 . obtain⟨its,r',pl,hz⟩:=I.tuple hq;have hlen:=r'.length;obtain⟨o,ho,hc,n,hd⟩:=pl;exact call_list_seq p (.inr rfl) ho hc hd (λh' c' kp e=>fin its r' hz h' c' kp e) (by simp only[au] <;>omega)
def g9:U2 X (.type "tuple") (λxs H Q=>∃p ys,xs=[.ref p]/\((o7 X.K H p ys/\∀l,H l=none->Q (.ref l) (upd H l (.tup ys)))\/(o9 X.K H p ys/\Q (.ref p) H))):=by
 intro pins s σ H xs us Q I r h;obtain⟨p,ys,rfl,h⟩:=h;obtain⟨u,rfl,rx⟩:=Hn r;cases rx;rcases h with ⟨hq,q⟩ | ⟨hq,q⟩
 . obtain⟨its,r',pl,hz⟩:=I.list hq;have hlen:=r'.length;refine call_tuple_list pl.isList (λh' kp=>?_) (by simp only[au] <;>omega);have I1:r9 X pins σ H { s with heap:=h' }:=I.kept (t':=s.toks) kp;have I2:r9 X pins σ (upd H h'.objs.size (.tup ys)) { s with heap:=h'.push { cls:=.type "tuple",data:=.seq its.toArray } }:=
    I1.laid (t':=s.toks) (λb o e=>ak _ e) (ae _) (show L6 X.prog X.w _ _ _ (.tup ys)from⟨hz,its,r',IsTup.new _ _,λ_=>⟨_,aA _ rfl,rfl⟩⟩)
   exact⟨.ref h'.objs.size,_,I2,rfl,q _ (I1.hok.fresh (ae _))⟩
 . obtain⟨its,r',pl,hz⟩:=I.tuple hq;exact call_tuple_same pl ⟨.ref p,H,I,rfl,q⟩
def tyV(K:aa)(T:String)(x:V)(H:Hp):Prop:=match x with
 | .str _=>T="str"
 | .int _=>T="int"
 | .ref p=>(T="list"/\∃xs,o7 K H p xs)\/(T="tuple"/\∃o,K.lookup p=some o/\o.cls=.type "tuple"/\o.dict=none)\/
     (T="dict"/\((∃kvs,H p=some (.dK kvs))\/∃kvs,H p=some (.dT kvs)))\/(T="set"/\∃S n,H p=some (.set S n))
 | _=>False
def Uk{pins:List (Addr × Obj)}{σ:St}{H:Hp}{s:Shared}{T:String}{x:V}{v:Value}(I:r9 X pins σ H s)(r:D5 x v)(ty:tyV X.K T x H) :
    s.TypeIs v T/\∀a,v=.ref a->∃ob,s.heap.get? a=some ob/\ob.dict=none:=by
 cases x with
 | str z=>
  obtain⟨t,rfl⟩:=r;cases (show T="str" from ty);exact⟨typeIs_str s z t,λ_ e=>nomatch e⟩
 | int i=>
  obtain⟨t,rfl⟩:=r;cases (show T="int" from ty);exact⟨typeIs_int s i t,λ_ e=>nomatch e⟩
 | ref p=>
  cases r;rcases ty with ⟨rfl,xs,hq⟩ | ⟨rfl,o,hk,hc,hd⟩ | ⟨rfl,hk⟩ | ⟨rfl,S,n,hk⟩
  . obtain⟨its,_,pl,_⟩:=I.list hq;refine⟨pl.isList.typeIs,λa e=>?_⟩;cases e;obtain⟨o,n,e,c,hd,_⟩:=pl;exact⟨o,e,hd⟩
  . refine⟨⟨o,I.kIn p o hk,hc⟩,λa e=>?_⟩;cases e;exact⟨o,I.kIn _ o hk,hd⟩
  . have z:∃o,s.heap.get? p=some o/\o.ExactDict:=by
     rcases hk with ⟨kvs,hk⟩ | ⟨kvs,hk⟩
     . obtain⟨_,_,_,_,o,_,_,e,ex,_⟩:=I.hok p _ hk;exact⟨o,e,ex⟩
     . obtain⟨_,_,_,_,o,_,_,e,ex,_⟩:=I.hok p _ hk;exact⟨o,e,ex⟩
    obtain⟨o,e,ex⟩:=z;refine⟨⟨o,e,ex.1⟩,λa e2=>?_⟩;cases e2;exact⟨o,e,ex.2.1⟩
  . obtain⟨o,_,_,_,e,ex,_⟩:=I.hok p _ hk;refine⟨⟨o,e,ex.1⟩,λa e2=>?_⟩;cases e2;exact⟨o,e,ex.2.1⟩
 | _=>exact False.elim ty
def tBM(K:aa)(T:String)(r:V->List V->Hp->VK->Prop)(to:TE)(t:TA):TE:=λσ H Q=>to σ H λx H1=>tyV K T x H1/\t σ H1 λxs H2=>r x xs H2 Q
variable{o e:Expr}{es:List Expr}{to:TE}{t:TA}{name:Str}{apos cpos:Pos}{T id:String}{r:V->List V->Hp->VK->Prop}
def U0(pa:PlainAttrs T)(slot:Slot T name id)(hty:typeOf (.builtin id)=pure (.type "method_descriptor"))(hm:MtR X id r)(ho:PE X o to)(ha:PA X (e::es) t)
    (hbase:attributeBase o name X.env (eval o X.env)=eval o X.env:=by rfl)
    (hfew:((backTo cpos (starEach (e::es) X.env)).all (λx=>!x.1) && (backToKw cpos (keywordEach [] X.env)).all (λx=>x.1.isSome)
     && decide ((e::es).length+([]:List Keyword).length+(if([]:List Keyword).isEmpty then 0 else 1) < 30))=true:=by rfl)
    (hline:(apos.endLine == cpos.line)=true:=by rfl) (hs:starEach (e::es) X.env=(false,eval e X.env)::starEach es X.env:=by rfl) (hplain:(backTo cpos (starEach es X.env)).any (·.1)=false:=by rfl) :
    PE X (.Call (.Attribute o name apos) (e::es) [] cpos) (tBM X.K T r to t):=by
 intro pins s σ H Q I h;refine wpAny_Call_method_late hbase hfew hline rfl (E3 (ho pins s σ H _ I h) λv s1 ⟨x,H1,I1,r1,ty,q1⟩=>?_);obtain⟨h1,h2⟩:=Uk I1 r1 ty;refine⟨T,id,pa,slot,hty,h1,h2,?_⟩;have hA:=ha cpos pins s1 σ H1 _ I1 q1;rw[hs]at hA ⊢;refine Calls.callWith_builtin (by show(false || (backTo cpos (starEach es X.env)).any (·.1))=false;rw[hplain] <;>rfl) (Calls.evalArgs_plain ?_);exact E3 hA λus s2 ⟨vs,H2,I2,r2,q2⟩=>hm pins s2 σ H2 x vs v us Q I2 r1 r2 q2
end
def MtM(X:Cx)(id:String)(r:V->List V->Hp->VK->Prop):Prop:=
 ∀(pins:List (Addr × Obj)) (s:Shared) (σ:St) (H:Hp) (x:V) (xs:List V) (v:Value) (us:List Value) (Q:VK),r9 X pins σ H s->D5 x v->z8 xs us->r x xs H Q->
  wpAny (model X.prog X.w) X.A (call (.builtin id) (v::us)) (EP X pins σ Q) X.xe s
def z8.one:∀{x:V} {us:List Value},z8 [x] us->∃u,us=[u]/\D5 x u
 | _,_,.cons r .nil=>⟨_,rfl,r⟩
theorem z8.eraseIdx:∀{xs:List V} {us:List Value} (i:Nat),z8 xs us->z8 (xs.eraseIdx i) (us.eraseIdx i)
 | _,_,_,.nil=>.nil
 | _,_,0,.cons _ t=>t
 | _,_,i+1,.cons r t=>.cons r (z8.eraseIdx i t)
theorem HC{α:Type}:∀(l:List α) (i:Nat),(l.eraseIdx i).length<=l.length
 | [],_=>ae _
 | _::_,0=>Nat.le_succ _
 | _::r,i+1=>Nat.succ_le_succ (HC r i)
section
variable{X:Cx}{pins:List (Addr × Obj)}{σ:St}{H:Hp}{s:Shared}{l b:Addr}{xs ys zs:List V}
def r9.lset{its its':List Value}{n:Nat}{f:Array Value->Array Value}{t':Nat}(I:r9 X pins σ H s)(hH:H l=some (.lst xs))
    (e:s.heap.get? l=some { cls:=.type "list",data:=.seq its.toArray n }) (hf:f its.toArray=its'.toArray) (hv:z8 ys its') (hz:ys.length<=sizeLine) :
    r9 X pins σ (upd H l (.lst ys)) { s with heap:=s.heap.update l (Obj.mapSeq f),toks:=t' }:=by
 have q:=PySem.IsL.update e f;rw[hf]at q;refine I.write (x:=l) (e:=l) (by rw[hH];exact trivial) (.inl rfl) (λb' u hb hu=>(cI s.heap (Obj.mapSeq f) (Ne.symm hb)).trans hu) ⟨_,q⟩ ?_;exact⟨hz,its',_,hv,q⟩
def r9.lnew{its:List Value}{t':Nat}(I:r9 X pins σ H s)(hv:z8 ys its)(hz:ys.length<=sizeLine) :
    r9 X pins σ (upd H s.heap.objs.size (.lst ys)) { s with heap:=s.heap.push { cls:=.type "list",data:=.seq its.toArray },toks:=t' }:=
 I.laid (λ_ _ q=>ak _ q) (ae _) ⟨hz,its,0,hv,aA _ rfl⟩
theorem r9.fresh(I:r9 X pins σ H s):H s.heap.objs.size=none:=I.hok.fresh (ae _)
def r9.lstM(I:r9 X pins σ H s)(hH:H l=some (.lst xs)):xs.length<=sizeLine/\∃(its:List Value) (n:Nat),z8 xs its/\xs.length=its.length/\s.heap.get? l=some { cls:=.type "list",data:=.seq its.toArray n }:=by
 obtain⟨z,its,n,r,e⟩:=I.hok l _ hH;exact⟨z,its,n,r,r.length,e⟩
def Qh{n:Nat}(h:n<=sizeLine):Builtin.List.listTooLong n=false:=by
 unfold Builtin.List.listTooLong;exact decide_eq_false oM
end
section
variable{X:Cx}
def rAppend:V->List V->Hp->VK->Prop:=λx vs H Q=>∃l xs y,x=.ref l/\vs=[y]/\H l=some (.lst xs)/\xs.length < sizeLine/\Q .non (upd H l (.lst (xs++[y])))
def G0:MtM X "list.append" rAppend:=by
 intro pins s σ H x vs v us Q I rx rv h;obtain⟨l,xs,y,rfl,rfl,hH,hz,q⟩:=h;cases rx;obtain⟨u,rfl,ru⟩:=rv.one;obtain⟨z,its,n,r,hl,e⟩:=I.lstM hH;refine call_meets F.slot_list_append ⟨_,e,rfl⟩ F.entry_list_append (F.args_list_append_2 _ _) (cY l its.toArray n u (by rw[au];omega)) ⟨e,?_⟩;refine⟨.non,_,I.lset (its':=its++[u]) hH e (by simp) (r.append (.cons ru .nil)) ?_,rfl,q⟩;rw[aq,List.length_singleton];omega
def rExtend:V->List V->Hp->VK->Prop:=λx vs H Q=>∃l b xs zs,x=.ref l/\vs=[.ref b]/\H l=some (.lst xs)/\H b=some (.lst zs)/\xs.length+zs.length<=sizeLine/\Q .non (upd H l (.lst (xs++zs)))
def HB:MtM X "list.extend" rExtend:=by
 intro pins s σ H x vs v us Q I rx rv h;obtain⟨l,b,xs,zs,rfl,rfl,hH,hB,hz,q⟩:=h;cases rx;obtain⟨u,rfl,ru⟩:=rv.one;cases ru;obtain⟨z,its,n,r,hl,e⟩:=I.lstM hH;obtain⟨z2,its2,n2,r2,hl2,e2⟩:=I.lstM hB;have hsz:its.toArray.size+its2.toArray.size<=sizeLine:=by rw[au,au];omega
 have hlong:¬(!its.toArray.isEmpty && Builtin.List.listTooLong (its.toArray.size+its2.toArray.size))=true:=by
  rw[Qh hsz,Bool.and_false];exact aJ
 refine call_meets F.slot_list_extend ⟨_,e,rfl⟩ F.entry_list_extend (F.args_list_extend_2 _ _)
  (AutoSeq1.list_extend_list_list_0 l its.toArray n b its2.toArray n2 hlong (by rw[au];omega) oM) ⟨e,e2,?_⟩
 refine⟨.non,_,I.lset (its':=its++its2) hH e (by simp) (r.append r2) ?_,rfl,q⟩;rw[aq];omega
def rPopAt:V->List V->Hp->VK->Prop:=λx vs H Q=>∃l xs i k y,x=.ref l/\vs=[.int i]/\H l=some (.lst xs)/\-(2 ^ 63)<=i/\i < 2 ^ 63/\seqIndex? i xs.length=some k/\xs[k]? = some y/\Q y (upd H l (.lst (xs.eraseIdx k)))
def Qt:MtM X "list.pop" rPopAt:=by
 intro pins s σ H x vs v us Q I rx rv h;obtain⟨l,xs,i,k,y,rfl,rfl,hH,h1,h2,hk,hy,q⟩:=h;cases rx;obtain⟨u,rfl,ru⟩:=rv.one;obtain⟨t,rfl⟩:=ru;obtain⟨z,its,n,r,hl,e⟩:=I.lstM hH;obtain⟨w,hw,rw'⟩:=r.get hy;refine call_meets F.slot_list_pop ⟨_,e,rfl⟩ F.entry_list_pop (F.args_list_pop_2 _ _)
  (MeetsSeq.list_pop_at l its.toArray n i t k w (fitsIndex_both h1 h2) (by rw[au,<- hl];exact hk) (by rw[<- Array.getElem?_toList];exact hw) (by rw[au];omega)) ⟨e,?_⟩
 refine⟨y,_,I.lset (its':=its.eraseIdx k) hH e ?_ (r.eraseIdx k) ?_,rw',q⟩
 . show its.toArray.eraseIdxIfInBounds k=(its.eraseIdx k).toArray;rw[List.eraseIdxIfInBounds_toArray]
 . have:=HC xs k;omega
def rCat:R2:=λx y H Q=>∃l b xs zs,x=.ref l/\y=.ref b/\H l=some (.lst xs)/\H b=some (.lst zs)/\xs.length+zs.length<=sizeLine/\∀p,H p=none->Q (.ref p) (upd H p (.lst (xs++zs)))
def Iq:DH X (binaryOp .Add) rCat:=by
 intro pins s σ H x y v u Q I rx ry h;obtain⟨l,b,xs,zs,rfl,rfl,hH,hB,hz,q⟩:=h;cases rx;cases ry;obtain⟨z,its,n,r,hl,e⟩:=I.lstM hH;obtain⟨z2,its2,n2,r2,hl2,e2⟩:=I.lstM hB;refine PySem.P.add_list e e2 ?_ (by rw[au,au];omega);have ea:its.toArray++its2.toArray=(its++its2).toArray:=by simp
 rw[ea];exact⟨.ref _,_,I.lnew (t':=s.toks) (r.append r2) (by rw[aq];omega),rfl,q _ I.fresh⟩
end
section
variable{prog:Program}{w:World}{A:Around}{E:Value->Shared->Prop}{s:Shared}
set_option maxRecDepth 100000 in
end
section
variable{X:Cx}
end
end L2
namespace Att
open PySem PySem.W PySem.Calls PyProof.Rows
def ES{P:Params}{h:Heap}:∀(ns:List Int) (vs:List Value),WellAll P h vs (ns.map WData.int)->IntsAre vs ns:=by
 intro ns
 induction ns with
 | nil=>
  intro vs w;rw[List.map_nil]at w;cases w;exact .nil
 | cons n ns ih=>
  intro vs w;rw[aP]at w;cases w with
  | cons a b=>
   cases a;exact .cons _ _ (ih _ b)
def Ob{l:OpenLaw}{n:Nat}(hn:l.most=some n){P:Params}{h:Heap}{args:List WData}{vals:List Value}
    (hpre:l.row.toRowW.claim.pre args=true) (hwl:WellAll P h vals args) :
    ∃a vs ns,vals=[Value.ref a]/\args=[WData.list (ns.map WData.int)]/\h.get? a=some { cls:=.type "list",data:=.seq vs.toArray }/\IntsAre vs ns/\ns.length<=n:=by
 have hsh:WShape.hasAll [] args [.list .int]=true:=(pre_splitW hpre).1;have hc:l.pre.holds [] { args:=args }=true:=(pre_splitW hpre).2;obtain⟨d,r,rfl,h1,h2⟩:=hasAllW_cons hsh;obtain rfl:=hasAllW_nil h2;obtain⟨xs,rfl,h3⟩:=hasW_list h1;obtain⟨ns,rfl⟩:=items_int h3;have hlen:ns.length<=n:=by
  unfold OpenLaw.pre at hc;have h4:(WTm.not (.lt (.lit (.int (n:Int))) (.len (.arg 0)))).holds [] { args:=[.list (ns.map .int)] }=true:=by
   have h4:=(holds_andW hc).1;rw[hn]at h4;exact h4
  have h5:=condW_of h4 (w_not (w_lt w_lit (w_len_list (w_arg rfl))));rw[af]at h5;refine Nat.le_of_not_lt λq=>?_;have q':(n:Int) < ((ns.length:Nat):Int):=by omega
  first
   | (rw[decide_eq_true q']at h5;exact absurd h5 (by decide))
   | (simp at h5;omega)
 cases hwl with
 | cons w1 w2=>
  cases w2;cases w1 with
  | list ho hall=>exact za ⟨ns,rfl,rfl,ho,ES ns _ hall,hlen⟩
def Of(l:OpenLaw)(args:List WData):l.row.toRowW.claim.post args (.bool true) args=true:=
 postW_of (r:=l.row.toRowW) (X:=(true == true))
  (show WShape.has [] (.bool true) .bool=true by first | rfl | decide | simp[WShape.has,WShape.arms,WShape.armsAll])
  (show(WTm.eq .res (.lit (.bool true))).value [] { args:=args,res:=some (.bool true),after:=args }=some (.bool (true == true))from w_eq_bool (w_res rfl) w_lit) rfl
def KZ{l:OpenLaw}{n:Nat}{q:Program}{loose:List Str}{XP:(Str->Option Value)->Heap->Prop}{YP:World->Heap->Prop}{d:DefRec}
    (hn:l.most=some n) (hdf:d.params.defaults=[])
    (call:∀(w:World) (s₀ s₁:Shared) (mg mb:Str->Option Value) (fa:Addr) (o:Obj) (pm cd doc:Value) (a:Addr) (vs:List Value) (ns:List Int),
     Ground q loose [] XP w s₀ mg mb s₁.heap->YP w s₁.heap->
     s₁.heap.get? fa=some o->o.data=.func (docDef d.name d.params d.body d.scope pm cd doc)->s₁.heap.CodeRec cd d.name->mg d.name=some (.ref fa)->
     s₁.heap.get? a=some { cls:=.type "list",data:=.seq vs.toArray }->IntsAre vs ns->ns.length<=n->s₁.gens=#[]->
     codeAny (model l.prog w) callerA (.call (.ref fa) ⟨[.ref a],[]⟩) (λr s'=>r=.ok (.ret (.bool true))/\OldK s₁.heap s'.heap/\s'.os=s₁.os/\AllBare s'.gens) s₁) :
    WalkO q loose XP YP l.row.toRowW d [] (λf vs=>PySem.call f vs):=by
 intro w s₀ s₁ mg mb G Y fa o pm cd doc dV kV ho hd hcd hD hmg hg args vals as hpre hlay hrd hwl hlo;obtain rfl:dV=.none:=Dflts.none hD hdf;obtain rfl:kV=.none:=Dflts.noKw hD;obtain⟨a,vs,ns,rfl,rfl,hobj,hints,hlen⟩:=Ob hn hpre hwl;refine enter_call (codeAny_mono (call w s₀ s₁ mg mb fa o pm cd doc a vs ns G Y ho (fd_plain hd) hcd hmg hobj hints hlen hg) λr s' hq=>?_);obtain⟨rfl,h2,h3,h4⟩:=hq;exact⟨.inl ⟨.bool true,.bool true,[],rfl,λ_=>rfl,.bool true,Of l _,λ_=>⟨List.Pairwise.nil,λ_ hm=>(nomatch hm)⟩⟩,h2,h3,h4⟩
section
variable{prog:Program}{w:World}{A:Around}{E:Value->Shared->Prop}{s:Shared}{K:Frag}
end
end Att
namespace L2
open PySem PySem.Spec PyProof.Rows
theorem Hm:∀{vs:List Value} {ns:List Int},IntsAre vs ns->z8 (ns.map V.int) vs
 | _,_,.nil=>.nil
 | _,_,.cons n t h=>.cons ⟨t,rfl⟩ (Hm h)
abbrev KOf{K:aa}{h:Heap}(_:K.In h):aa:=K
def x5(s:Stmt)(j:Nat):Stmt:=match s with
 | .ClassDef _ _ _ body _ _ _ _ _ _ _=>body.getD j (.Pass ⟨0,0,0,0⟩)
 | _=>.Pass ⟨0,0,0,0⟩
def D9(s:Stmt):Arguments:=match s with
 | .FunctionDef _ a _ _ _ _ _ _ _ _=>a
 | _=>{ posonlyargs:=[],args:=[],vararg:=none,kwonlyargs:=[],kw_defaults:=[],kwarg:=none,defaults:=[] }
def D0(s:Stmt):List Stmt:=match s with
 | .FunctionDef _ _ b _ _ _ _ _ _ _=>b
 | _=>[]
def b9(s:Stmt):Scope:=match s with
 | .FunctionDef _ _ _ _ _ _ sc _ _ _=>sc
 | _=>{ kind:=.function,names:=[],isGenerator:=false,isCoroutine:=false }
abbrev F9:OO:=λ_ _ _ _ _ _=>False
abbrev E0:XK:=λ_ _ _=>False
def C4{X:Cx}:CP F9 X E0:=λ_ _ _ _ _ _ _ h=>h.elim
structure Ll(K:aa)(x qual:Str)(st:Stmt)(f:Addr)(fd:FuncData):Prop where
 ex:∃(oc:Value) (od:Option Addr) (kV doc pm:Value) (an:Option Addr) (cdv ct:Value) (osl:Array (Option Value)),
  fd=PySem.W.fnOf x qual (D9 st) (D0 st) (b9 st) .none kV doc pm an cdv ct/\K.lookup f=some ⟨oc,od,.func fd,osl⟩/\PySem.W.codeIn K cdv qual=true
 kp:PySem.W.keepIn K (.ref f)=true
section
variable{P:Program}{w:World}{K:aa}{mg:Str->Option Value}{base:Heap}
def Ll.ok{x qual:Str}{st:Stmt}{f:Addr}{fd:FuncData}{N ps:List Str}{k:Nat}{sp:Sp}(F:Ll K x qual st f fd)(S:g6 N ps (b9 st))(len:∀vs H Q E,sp vs H Q E->vs.length=ps.length)
    (hbody:∀(cdv:Value) (A:Around) (outer:List Env) (s:Shared) (H:Hp) (vs:List V) (Q:VK) (E:XK),K8 k (A.deeper (envOfC qual (b9 st) s.heap.objs.size f cdv))->sp vs H Q E->
     ∃t,MP (MI F9 P w K mg base N qual (b9 st) f cdv A outer s H E).nox (D0 st) t/\t { nx:=λ_ H'=>Q .non H',rt:=Q } (CW N vs) H):x8 P w K mg base F9 (k+1) f fd ps sp:=by
 obtain⟨oc,od,kV,doc,pm,an,cdv,ct,osl,rfl,lk,hcd⟩:=F.ex;refine TQ lk hcd S len λA outer s H vs Q E hr hsp=>?_;obtain⟨t,h,q⟩:=hbody cdv A outer s H vs Q E hr hsp;exact⟨t,h.nox,q⟩
def Ll.binds{x qual:Str}{st:Stmt}{f:Addr}{fd:FuncData}{ps:List Str}(F:Ll K x qual st f fd)
    (h:∀(kV doc pm:Value) (an:Option Addr) (cdv ct:Value) (us:List Value),us.length=ps.length->bindArgs (PySem.W.fnOf x qual (D9 st) (D0 st) (b9 st) .none kV doc pm an cdv ct) ⟨us,[]⟩=pure (ps.zip us)):K9 K fd ps []:=by
 obtain⟨oc,od,kV,doc,pm,an,cdv,ct,osl,rfl,lk,hcd⟩:=F.ex;exact .all (h kV doc pm an cdv ct)
def QS{x qual:Str}{st:Stmt}{f:Addr}{oc:Value}{od an:Option Addr}{osl:Array (Option Value)}{kV doc pm cdv ct:Value}(l:K.lookup f=some ⟨oc,od,.func (PySem.W.fnOf x qual (D9 st) (D0 st) (b9 st) .none kV doc pm an cdv ct),osl⟩)
    (c:PySem.W.codeIn K cdv qual=true) (k:PySem.W.keepIn K (.ref f)=true):Ll K x qual st f (PySem.W.fnOf x qual (D9 st) (D0 st) (b9 st) .none kV doc pm an cdv ct):=⟨⟨oc,od,kV,doc,pm,an,cdv,ct,osl,rfl,l,c⟩,k⟩
end
section
variable{X:Cx}
def pv(i:Nat){x:Str}{pos:Pos}(hN:X.N[i]? = some x:=by rfl)(hv:Vis X.env.scope x:=by first | exact Or.inl rfl | exact Or.inr (Or.inl rfl) | exact Or.inr (Or.inr rfl))(hd:(x == ("__debug__":Str))=false:=by decide)
    (hcd:(x == ("__classdict__":Str))=false:=by decide):PE X (.Name x pos) (Ur i):=PV hN hv hd hcd
end
def L7{A B:Prop}(h:B):if false=true then A else B:=by
 rw[if_neg aJ];exact h
def Hd{A B:Prop}(h:A):if true=true then A else B:=by
 rw[if_pos rfl];exact h
def j0(H H':Hp):Prop:=∀b o,H b=some o->H' b=some o
def j0.refl(H:Hp):j0 H H:=λ_ _ h=>h
def j0.trans{H H1 H2:Hp}(a:j0 H H1)(b:j0 H1 H2):j0 H H2:=λc o h=>b c o (a c o h)
def j0.free{H H':Hp}(e:j0 H H'){l:Addr}(h:H' l=Option.none):H l=Option.none:=by
 cases q:H l with
 | none=>rfl
 | some o=>
  rw[e l o q]at h;cases h
def j0.seq{K:aa}{H H':Hp}{a:Addr}{xs:List V}(e:j0 H H')(h:o7 K H a xs):o7 K H' a xs:=by
 rcases h with (h | ⟨o,h⟩) | h
 . exact .inl (.inl (e _ _ h))
 . exact .inl (.inr ⟨o,e _ _ h⟩)
 . exact .inr h
end L2
set_option maxHeartbeats 4000000
namespace L2
open PySem PySem.Spec PyProof.Rows PySem.SeqAt
section
variable{X:Cx}
def Uj(_ j:Int):Prop:=j≠0/\j.natAbs.log2 < 9000
def Al:DH X (binaryOp .FloorDiv) (rI Uj λi j=>.int (i.fdiv j)):=XU λ_ _ _ _ _ _ _ hc q=>floordiv_int hc.1 q (Or.inl (PyProof.noPylong_of_log2 hc.2))
def rIsi(K:aa):List V->Hp->VK->Prop:=λxs H Q=>∃x n t b,xs=[x,.ty n]/\X0 K H x t/\PySem.W.kitOne K t (.type n)=some b/\Q (.bl b) H
def N7:U2 X (.builtin "isinstance") (rIsi X.K):=by
 intro pins s σ H xs us Q I r h;obtain⟨x,n,t,b,rfl,ty,e,q⟩:=h;cases r with
 | cons rx r1=>
  cases r1 with
  | cons ry r2=>
   cases r2;cases ry;exact Oz I rx ty e λtk=>⟨.bl b,H,I.tok _,rfl,q⟩
structure MkO(K:aa)(C:Addr):Prop where
 makes:PySem.W.makesIn K C=true
 init:PySem.W.findIn K (.ref C) "__init__"=some (some (.builtin "object.__init__"))
 kp:PySem.W.keepIn K (.ref C)=true
def Ut(C:Addr):TE:=λ_ H Q=>∀x dx,H x=none->H dx=none->dx≠x->Q (.ref x) (upd (upd H dx (.own x)) x (.ins C dx []))
def Qa{C:Addr}{x:Str}{p pos:Pos}(M:MkO X.K C)(hg:Gl X x)(hm:X.mg x=some (.ref C))(hdb:(x == ("__debug__":Str))=false:=by decide):PE X (.Call (.Name x p) [] [] pos) (Ut C):=by
 intro pins s σ H Q I h;refine wpAny_Call_Name_kw (Dw I hg hm ?_ hdb);refine PySem.W.callWith_K0 I.kIn M.kp ?_;have hq:=h (s.heap.objs.size+1) s.heap.objs.size (I.hok.fresh (Nat.le_succ _)) (I.hok.fresh (ae _)) (az (bR _));have I2:=r9.made (C:=C) I;have Y:=PySem.W.makes_of (M:=model X.prog X.w) I.kIn M.makes;refine wpAny_call (Oq I.kIn M.makes M.init (λself=>PySem.W.Looks.of_pure (PySem.W.oi_bind self)) ?_);have t1:PySem.W.Looks (model X.prog X.w) ((s.heap.push PySem.W.emptyDict).push (PySem.W.instObj C s.heap.objs.size)) (typeOf (.ref (s.heap.objs.size+1))) (.ref C):=
  (PySem.W.Looks.ld (o:=PySem.W.instObj C s.heap.objs.size) (by have e:((s.heap.push PySem.W.emptyDict).push (PySem.W.instObj C s.heap.objs.size)).get? (s.heap.push PySem.W.emptyDict).objs.size=some (PySem.W.instObj C s.heap.objs.size):=aA _ rfl;rw[aX]at e;exact e)).andThen .now
 have t2:PySem.W.Looks (model X.prog X.w) ((s.heap.push PySem.W.emptyDict).push (PySem.W.instObj C s.heap.objs.size)) (isInstance (.ref (s.heap.objs.size+1)) (.type "object")) true:=
  t1.andThen (Y.top.keeps λb o e=>ak _ (ak _ e))
 refine PySem.codeAny_call_builtin PySem.W.oi_plain PySem.W.entry_oi (@PySem.W.check_slot (model X.prog X.w) _ _ _ "object.__init__" "object" "__init__" (.ref (s.heap.objs.size+1)) [] [] _ PySem.W.oi_kind PySem.W.oi_split t2 (PySem.W.oi_args (.ref (s.heap.objs.size+1))) ?_);rw[PySem.W.oi_run];exact wpAny_pure (And.intro rfl ⟨V.ref (s.heap.objs.size+1),_,I2,rfl,hq⟩)
end
mutual
inductive Is(K:aa)(H:Hp):V->PyData->Prop
 | non:Is K H .non .none
 | bl (b:Bool):Is K H (.bl b) (.bool b)
 | int (i:Int):Is K H (.int i) (.int i)
 | str (x:Str):Is K H (.str x) (.str x)
 | tup {a:Addr} {xs:List V} {ds:List PyData}:o9 K H a xs->T1 K H xs ds->Is K H (.ref a) (.tuple ds)
 | lst {a:Addr} {xs:List V} {ds:List PyData}:o7 K H a xs->T1 K H xs ds->Is K H (.ref a) (.list ds)
inductive T1(K:aa)(H:Hp):List V->List PyData->Prop
 | nil:T1 K H [] []
 | cons {v:V} {vs:List V} {d:PyData} {ds:List PyData}:Is K H v d->T1 K H vs ds->T1 K H (v::vs) (d::ds)
end
def j0.tup{K:aa}{H H':Hp}{a:Addr}{xs:List V}(e:j0 H H')(h:o9 K H a xs):o9 K H' a xs:=by
 rcases h with (h | ⟨o,h⟩) | h
 . exact .inl (.inl (e _ _ h))
 . exact .inl (.inr ⟨o,e _ _ h⟩)
 . exact .inr h
mutual
theorem Is.same{K:aa}{H H':Hp}(e:j0 H H'):∀{v:V} {d:PyData},Is K H v d->Is K H' v d
 | _,_,.non=>.non
 | _,_,.bl b=>.bl b
 | _,_,.int i=>.int i
 | _,_,.str x=>.str x
 | _,_,.tup h r=>.tup (e.tup h) (T1.same e r)
 | _,_,.lst h r=>.lst (e.seq h) (T1.same e r)
theorem T1.same{K:aa}{H H':Hp}(e:j0 H H'):∀{v:List V} {d:List PyData},T1 K H v d->T1 K H' v d
 | _,_,.nil=>.nil
 | _,_,.cons a r=>.cons (Is.same e a) (T1.same e r)
end
section
variable{X:Cx}{pins:List (Addr × Obj)}{σ:St}{H:Hp}{s:Shared}
mutual
theorem Is.reads(I:r9 X pins σ H s):∀{v:V} {d:PyData} {u:Value},Is X.K H v d->D5 v u->∃as,Reads s.heap u d as
 | _,_,_,.non,r=>by cases r;exact⟨_,.none⟩
 | _,_,_,.bl b,r=>by cases r;exact⟨_,.bool b⟩
 | _,_,_,.int i,r=>by obtain⟨t,rfl⟩:=r;exact⟨_,.int i t⟩
 | _,_,_,.str x,r=>by obtain⟨t,rfl⟩:=r;exact⟨_,.str x t⟩
 | _,_,_,.tup h a,r=>by
  cases r;obtain⟨its,rv,⟨o,ho,hc,n,hd⟩,_⟩:=I.tuple h;obtain⟨as,hr⟩:=T1.reads I a rv;exact⟨as,.tuple ho hc hd (by simpa using hr)⟩
 | _,_,_,.lst h a,r=>by
  cases r;obtain⟨its,rv,⟨o,n,ho,hc,_,hd⟩,_⟩:=I.list h;obtain⟨as,hr⟩:=T1.reads I a rv;exact⟨_,.list ho hc hd (by simpa using hr)⟩
theorem T1.reads(I:r9 X pins σ H s):∀{vs:List V} {ds:List PyData} {us:List Value},T1 X.K H vs ds->z8 vs us->∃as,ReadsAll s.heap us ds as
 | _,_,_,.nil,.nil=>⟨_,.nil⟩
 | _,_,_,.cons a r,.cons q t=>by
  obtain⟨as,h1⟩:=Is.reads I a q;obtain⟨bs,h2⟩:=T1.reads I r t;exact⟨_,.cons h1 h2⟩
end
def Oe(K:aa):R2:=λx y H Q=>∃d d',Is K H x d/\Is K H y d'/\shaped d=true/\shaped d'=true/\noMix d d'=true/\Q (.bl (!PySem.Spec.same d d')) H
def Cy(hu:X.A.units+64 < cLine):DH X (compareOp .NotEq) (Oe X.K):=by
 intro pins s σ H x y v u Q I rx ry h;obtain⟨d,d',hx,hy,sx,sy,nm,q⟩:=h;obtain⟨as,ra⟩:=hx.reads I rx;obtain⟨bs,rb⟩:=hy.reads I ry;exact ne_dataH_same ra rb sx sy hu nm ⟨.bl _,H,I,rfl,q⟩
end
def Dx{i j:Int}{A B:Prop}(h1:i=j->A)(h2:¬i=j->B):if decide (V.int i=V.int j)=true then A else B:=by
 by_cases h:i=j
 . rw[if_pos (decide_eq_true (congrArg V.int h))];exact h1 h
 . rw[if_neg (by simpa using h)];exact h2 h
def FS{i j:Int}{A B:Prop}(h1:¬i=j->A)(h2:i=j->B):if(!decide (V.int i=V.int j))=true then A else B:=by
 by_cases h:i=j
 . rw[if_neg (by simpa using h)];exact h2 h
 . rw[if_pos (by simpa using h)];exact h1 h
def Cd{p A B:Prop} [Decidable p](h1:p->A)(h2:¬p->B):if decide p=true then A else B:=by
 by_cases h:p
 . rw[if_pos (decide_eq_true h)];exact h1 h
 . rw[if_neg (by simpa using h)];exact h2 h
def BH{c:Bool}{A B:Prop}(e:c=true)(h:A):if c=true then A else B:=by rw[if_pos e];exact h
def FR{c:Bool}{A B:Prop}(e:c=false)(h:B):if c=true then A else B:=by rw[if_neg (by rw[e];decide)];exact h
def c7{H:Hp}{p:Addr}{o:HO}(h:H p=none):j0 H (upd H p o):=λb u e=>by
 rw[o4 (l7 e h)];exact e
end L2
namespace Mine
@[irreducible] def dv(a b:Int):Int:=(Int.gcd a b:Int)
def HH(a b:Int):0<=dv a b:=by unfold dv;exact Int.natCast_nonneg _
def NB(a b:Int):dv b (a.fmod b)=dv a b:=by
 unfold dv;have e:a.fmod b=a - a.fdiv b * b:=by rw[Int.fmod_def,aN]
 rw[e,Int.gcd_sub_mul_right_right,Int.gcd_comm]
def Jc(a:Int):dv a 0=(a.natAbs:Int):=by
 unfold dv;rw[Int.gcd_zero_right]
def Wh(a b:Int):dv (a.natAbs:Int) (b.natAbs:Int)=dv a b:=by
 unfold dv Int.gcd;simp
def KJ(a b:Int)(h:b≠0):(a.fmod b).natAbs < b.natAbs:=by
 rcases Int.lt_trichotomy b 0 with hb | hb | hb
 . have e:a.fmod b = -((-a).fmod (-b)):=by
    simp[Int.neg_fmod_neg]
   have h1:=bH (-a) (show 0 < -b by omega);have h2:=bI (-a) (show 0 < -b by omega);omega
 . exact absurd hb h
 . have h1:=bH a hb;have h2:=bI a hb;omega
def Wj(h:dv g r=dv a b)(hr:0 < r):0<=r/\0<=g.fmod r/\dv r (g.fmod r)=dv a b:=
 ⟨oM,bH g hr,by rw[NB,h]⟩
def d_less{g r:Int}(hr:0 < r):(g.fmod r).toNat < r.toNat:=by
 have h1:=bH g hr;have h2:=bI g hr;omega
def e0e(h:dv g r=dv a b)(g0:0<=g)(r0:0<=r)(hr:¬0 < r):g=dv a b:=by
 have e:r=0:=by omega
 rw[<- h,e,Jc];omega
def VL(h:dv x y=dv a b):dv y (x.fmod y)=dv a b:=by rw[NB,h]
def d0t(h:dv x y=dv a b)(hy:y=0):(x.natAbs:Int)=dv a b:=by
 rw[<- h,hy,Jc]
def NA(a b:Int):∃q,a=dv a b * q:=by
 obtain⟨q,hq⟩:=Int.gcd_dvd_left a b;exact⟨q,by unfold dv;exact hq⟩
def KQ(a b:Int):∃q,b=dv a b * q:=by
 obtain⟨q,hq⟩:=Int.gcd_dvd_right a b;exact⟨q,by unfold dv;exact hq⟩
def MH(h:dv a b=0):a=0/\b=0:=by
 obtain⟨q,hq⟩:=NA a b;obtain⟨r,hr⟩:=KQ a b;rw[h]at hq hr;exact⟨oM,oM⟩
def Gf(h:b≠0):0 < dv a b:=by
 have:=HH a b;rcases(by omega:dv a b=0\/0 < dv a b)with e | e
 . exact absurd (MH e).2 h
 . exact e
def e0d(a b:Int)(h:b≠0):dv a b<=(b.natAbs:Int):=by
 have:Int.gcd a b<=b.natAbs:=by
  unfold Int.gcd;exact Nat.gcd_le_right _ oM
 unfold dv;omega
def KL{g q:Int}(hg:g≠0):(g * q).fdiv g=q:=Int.mul_fdiv_cancel_left q hg
@[irreducible] def sg(a b:Int):Int:=if b < 0 then -(dv a b)else dv a b
@[irreducible] def tp(a b:Int):Int:=a.fdiv (sg a b)
@[irreducible] def bt(a b:Int):Int:=b.fdiv (sg a b)
def Pu(h:¬b < 0):sg a b=dv a b:=by unfold sg;rw[if_neg h]
def Pw(h:b < 0):sg a b = -(dv a b):=by unfold sg;rw[if_pos h]
def Nb(h:b≠0):sg a b≠0:=by
 have:=Gf (a:=a) h;unfold sg;split <;>omega
def Lu{a b:Int}(h:b≠0):sg a b * tp a b=a:=by
 obtain⟨q,hq⟩:=NA a b;have hs:=Nb (a:=a) h;have:∃k,a=sg a b * k:=by
  unfold sg;split
  . exact⟨-q,by rw[Int.neg_mul_neg];exact hq⟩
  . exact⟨q,hq⟩
 obtain⟨k,hk⟩:=this;have e:tp a b=k:=by
  unfold tp
  conv=>lhs;lhs;rw[hk]
  exact KL hs
 rw[e];exact hk.symm
def Jg{a b:Int}(h:b≠0):sg a b * bt a b=b:=by
 obtain⟨q,hq⟩:=KQ a b;have hs:=Nb (a:=a) h;have:∃k,b=sg a b * k:=by
  unfold sg;split
  . exact⟨-q,by rw[Int.neg_mul_neg];exact hq⟩
  . exact⟨q,hq⟩
 obtain⟨k,hk⟩:=this;have e:bt a b=k:=by
  unfold bt
  conv=>lhs;lhs;rw[hk]
  exact KL hs
 rw[e];exact hk.symm
def CN(h:b≠0):0 < bt a b:=by
 have e:=Jg (a:=a) h;have g:=Gf (a:=a) h;rcases(by omega:0 < bt a b\/bt a b<=0)with p | p
 . exact p
 . exfalso;by_cases hb:b < 0
   . rw[Pw hb,cq]at e;have:=Int.mul_nonpos_of_nonneg_of_nonpos (Int.le_of_lt g) p;omega
   . rw[Pu hb]at e;have:=Int.mul_nonpos_of_nonneg_of_nonpos (Int.le_of_lt g) p;omega
def NG(h:b≠0):tp a b * b=a * bt a b:=by
 have e1:=Lu (a:=a) h;have e2:=Jg (a:=a) h
 calc tp a b * b=tp a b * (sg a b * bt a b):=by rw[e2]
  _=(sg a b * tp a b) * bt a b:=by rw[aN (sg a b) (tp a b),aG]
  _=a * bt a b:=by rw[e1]
def On(a b:Int):(sg a b).natAbs=Int.gcd a b:=by
 unfold sg dv;split <;>omega
def OD(e1:s * t=a)(e2:s * u=b):Int.gcd a b=s.natAbs * Int.gcd t u:=by
 rw[<- e1,<- e2,Int.gcd_mul_left]
def d0o(h:b≠0):dv (tp a b) (bt a b)=1:=by
 have e:=OD (Lu (a:=a) h) (Jg (a:=a) h);rw[On]at e;have p:=Gf (a:=a) h;have q:0 < Int.gcd a b:=by unfold dv at p;omega
 have:Int.gcd a b * Int.gcd (tp a b) (bt a b)=Int.gcd a b * 1:=by rw[<- e,Nat.mul_one]
 have:=Nat.eq_of_mul_eq_mul_left q this;unfold dv;rw[this];rfl
def MJ(hb:0 < b)(hd:0 < d)(h1:dv a b=1)(h2:dv c d=1)(e:a * d=c * b):a=c/\b=d:=by
 have g1:Nat.Coprime b.natAbs a.natAbs:=by
  have:Int.gcd a b=1:=by unfold dv at h1;omega
  unfold Int.gcd at this;exact Nat.Coprime.symm this
 have g2:Nat.Coprime d.natAbs c.natAbs:=by
  have:Int.gcd c d=1:=by unfold dv at h2;omega
  unfold Int.gcd at this;exact Nat.Coprime.symm this
 have en:a.natAbs * d.natAbs=c.natAbs * b.natAbs:=by rw[<- bu,<- bu,e]
 have d1:b.natAbs ∣ d.natAbs:=g1.dvd_of_dvd_mul_left ⟨c.natAbs,by rw[en,bT]⟩;have d2:d.natAbs ∣ b.natAbs:=g2.dvd_of_dvd_mul_left ⟨a.natAbs,by rw[<- en,bT]⟩;have eb:b.natAbs=d.natAbs:=Nat.dvd_antisymm d1 d2;have ebd:b=d:=by omega
 refine⟨?_,ebd⟩;rw[ebd]at e;exact bf oM e
def CU(h:b≠0)(hy:0 < y)(hl:dv x y=1)(e:a * y=x * b):tp a b=x/\bt a b=y:=by
 refine MJ (CN h) hy (d0o h) hl ?_;have c:=NG (a:=a) h;have:(tp a b * y) * b=(x * bt a b) * b:=by
  calc (tp a b * y) * b=(tp a b * b) * y:=by rw[aG,aN y b,<- aG]
   _=(a * bt a b) * y:=by rw[c]
   _=(a * y) * bt a b:=by rw[aG,aN (bt a b) y,<- aG]
   _=(x * b) * bt a b:=by rw[e]
   _=(x * bt a b) * b:=by rw[aG,aN b,<- aG]
 exact bf h this
def BA(a s:Int)(k:Int)(e:s * k=a)(hs:s≠0):k.natAbs<=a.natAbs:=by
 have:a.natAbs=s.natAbs * k.natAbs:=by rw[<- e,bu]
 rw[this];exact Nat.le_mul_of_pos_left _ oM
def MV(h:b≠0):(tp a b).natAbs<=a.natAbs:=BA a _ _ (Lu h) (Nb h)
def NM(h:b≠0):(bt a b).natAbs<=b.natAbs:=BA b _ _ (Jg h) (Nb h)
def Co(hb:b≠0)(hd:d≠0)(e:a * d=c * b):tp a b=tp c d/\bt a b=bt c d:=by
 refine CU hb (CN hd) (d0o hd) ?_;have h:=NG (a:=c) hd;have:(a * bt c d) * d=(tp c d * b) * d:=by
  calc (a * bt c d) * d=(a * d) * bt c d:=by rw[aG,aN (bt c d) d,<- aG]
   _=(c * b) * bt c d:=by rw[e]
   _=(c * bt c d) * b:=by rw[aG,aN b,<- aG]
   _=(tp c d * d) * b:=by rw[h]
   _=(tp c d * b) * d:=by rw[aG,aN d b,<- aG]
 exact bf hd this
def ID(hy:0 < y)(hl:dv x y=1):tp x y=x/\bt x y=y:=CU oM hy hl rfl
def K6{a b:Int}(ha:a≠0)(hb:b≠0):a * b≠0:=cu ha hb
def LV{a b c d e f T B T' B':Int}(hb:b≠0)(hd:d≠0)(hf:f≠0)(hB:B≠0)(hB':B'≠0)
    (h1:T * (b * d)=(a * d+c * b) * B) (h2:T' * (d * f)=(c * f+e * d) * B') :
    tp (T * f+e * B) (B * f)=tp (a * B'+T' * b) (b * B')/\bt (T * f+e * B) (B * f)=bt (a * B'+T' * b) (b * B'):=by
 refine Co (K6 hB hf) (K6 hb hB') ?_;have k:((T * f+e * B) * (b * B')) * ((b * d) * (d * f))=((a * B'+T' * b) * (B * f)) * ((b * d) * (d * f)):=by
  grind
 exact bf (K6 (K6 hb hd) (K6 hd hf)) k
def Jq{a b c d e f T B T' B':Int}(hb:b≠0)(hd:d≠0)(hf:f≠0)(hB:B≠0)(hB':B'≠0)
    (h1:T * (b * d)=(a * c) * B) (h2:T' * (d * f)=(c * e) * B') :
    tp (T * e) (B * f)=tp (a * T') (b * B')/\bt (T * e) (B * f)=bt (a * T') (b * B'):=by
 refine Co (K6 hB hf) (K6 hb hB') ?_;have k:((T * e) * (b * B')) * ((b * d) * (d * f))=((a * T') * (B * f)) * ((b * d) * (d * f)):=by
  grind
 exact bf (K6 (K6 hb hd) (K6 hd hf)) k
def distrib{a b c d e f T B P U R V:Int}(hb:b≠0)(hd:d≠0)(hf:f≠0)(hB:B≠0)(hU:U≠0)(hV:V≠0)
    (h1:T * (d * f)=(c * f+e * d) * B) (h2:P * (b * d)=(a * c) * U) (h3:R * (b * f)=(a * e) * V) :
    tp (a * T) (b * B)=tp (P * V+R * U) (U * V)/\bt (a * T) (b * B)=bt (P * V+R * U) (U * V):=by
 refine Co (K6 hb hB) (K6 hU hV) ?_;have k:((a * T) * (U * V)) * ((d * f) * ((b * d) * (b * f)))=((P * V+R * U) * (b * B)) * ((d * f) * ((b * d) * (b * f))):=by
  grind
 exact bf (K6 (K6 hd hf) (K6 (K6 hb hd) (K6 hb hf))) k
def Ea:tp (a * d+c * b) (b * d)=tp (c * b+a * d) (d * b)/\bt (a * d+c * b) (b * d)=bt (c * b+a * d) (d * b):=by
 rw[Int.add_comm,aN b d];exact⟨rfl,rfl⟩
def Cj:tp (a * c) (b * d)=tp (c * a) (d * b)/\bt (a * c) (b * d)=bt (c * a) (d * b):=by
 rw[aN a c,aN b d];exact⟨rfl,rfl⟩
def DZ(hb:0 < b)(hl:dv a b=1):tp (a * 1+0 * b) (b * 1)=a/\bt (a * 1+0 * b) (b * 1)=b:=by
 have e1:a * 1+0 * b=a:=by omega
 have e2:b * 1=b:=by omega
 rw[e1,e2];exact ID hb hl
def NR(hb:0 < b)(hl:dv a b=1):tp (0 * b+a * 1) (1 * b)=a/\bt (0 * b+a * 1) (1 * b)=b:=by
 have e1:0 * b+a * 1=a:=by omega
 have e2:1 * b=b:=by omega
 rw[e1,e2];exact ID hb hl
def Hq(hb:0 < b)(hl:dv a b=1):tp (a * 1) (b * 1)=a/\bt (a * 1) (b * 1)=b:=by
 rw[cf,cf];exact ID hb hl
def Wi:dv 0 1=1:=by unfold dv;decide
def dv11:dv 1 1=1:=by unfold dv;decide
def Fm(hb:0 < b):tp (a * 0) (b * 1)=0/\bt (a * 0) (b * 1)=1:=
 CU oM oM Wi oM
def Fx{a b:Int}(hb:0 < b):tp (a * b+-a * b) (b * b)=0/\bt (a * b+-a * b) (b * b)=1:=by
 refine CU (K6 oM oM) oM Wi ?_;rw[cq];omega
def Wg(a b:Int):dv (-a) b=dv a b:=by unfold dv;rw[Int.neg_gcd]
def Th(a b:Int):dv a b=dv b a:=by unfold dv;rw[Int.gcd_comm]
def Hr{a b:Int}(ha:a≠0)(hb:b≠0):tp (a * tp b a) (b * bt b a)=1/\bt (a * tp b a) (b * bt b a)=1:=by
 refine CU (K6 hb (cJ (CN ha))) oM (by unfold dv;decide) ?_;have:=NG (a:=b) ha
 grind
open PySem
@[irreducible] def num(c:Int):Int:=if c.fmod 3=0 then(c.fdiv 3).fmod 19 - 9 else if c.fmod 3=1 then(c.fdiv 3).fmod 2000003 - 1000001 else(c.fdiv 3).fmod 1999999999999999999999999999999 - 999999999999999999999999999999
def OL(a b:Int):dv (if a < 0 then -a else a) (if b < 0 then -b else b)=dv a b:=by
 have e:∀x:Int,(if x < 0 then -x else x)=(x.natAbs:Int):=λx=>by split <;>omega
 rw[e,e,Wh]
def Ux(a b:Int):0<=(if a < 0 then -a else a)/\0<=(if b < 0 then -b else b)/\dv (if a < 0 then -a else a) (if b < 0 then -b else b)=dv a b:=
 ⟨by split <;>omega,by split <;>omega,OL a b⟩
def out2(h:dv x y=dv a b)(hy:y=0):(if x < 0 then -x else x)=dv a b:=by
 rw[<- d0t h hy];split <;>omega
structure S1(x:Int):Prop where
 lo:-10000000000000000000000000000000<=x
 hi:x<=10000000000000000000000000000000
structure S2(x:Int):Prop where
 lo:-1000000000000000000000000000000000000000000000000000000000000000<=x
 hi:x<=1000000000000000000000000000000000000000000000000000000000000000
structure Po(x:Int):Prop where
 lo:0 < x
def S1.one:S1 1:=⟨by decide,by decide⟩
def Po.one:Po 1:=⟨by decide⟩
def Po.ne(h:Po x):x≠0:=by have:=h.lo;omega
theorem S1.tp(h:S1 a)(p:Po b):S1 (tp a b):=by
 have l:=MV (a:=a) p.ne;have:=h.lo;have:=h.hi;exact⟨oM,oM⟩
theorem S2.tp(h:S2 a)(p:Po b):S2 (tp a b):=by
 have l:=MV (a:=a) p.ne;have:=h.lo;have:=h.hi;exact⟨oM,oM⟩
theorem S1.bt(h:S1 b)(p:Po b):S1 (bt a b):=by
 have l:=NM (a:=a) p.ne;have:=h.lo;have:=h.hi;exact⟨oM,oM⟩
theorem S2.bt(h:S2 b)(p:Po b):S2 (bt a b):=by
 have l:=NM (a:=a) p.ne;have:=h.lo;have:=h.hi;exact⟨oM,oM⟩
theorem Po.bt(p:Po b):Po (bt a b):=⟨CN p.ne⟩
theorem S2.dv(h:S2 b)(p:Po b):S2 (dv a b):=by
 have:=e0d a b p.ne;have:=HH a b;have:=h.lo;have:=h.hi;exact⟨oM,oM⟩
structure Low(a b:Int):Prop where
 one:dv a b=1
def lz(p:Po b)(l:Low a b):tp (a * 1+0 * b) (b * 1)=a/\bt (a * 1+0 * b) (b * 1)=b:=DZ p.lo l.one
def zl(p:Po b)(l:Low a b):tp (0 * b+a * 1) (1 * b)=a/\bt (0 * b+a * 1) (1 * b)=b:=NR p.lo l.one
def cp(_:Low (tp (c * b+a * d) (d * b)) (bt (c * b+a * d) (d * b))):tp (a * d+c * b) (b * d)=tp (c * b+a * d) (d * b)/\bt (a * d+c * b) (b * d)=bt (c * b+a * d) (d * b):=Ea
def ct(_:Low (tp (c * a) (d * b)) (bt (c * a) (d * b))):tp (a * c) (b * d)=tp (c * a) (d * b)/\bt (a * c) (b * d)=bt (c * a) (d * b):=Cj
def Pr(p:Nat):Prop:=2<=p/\∀d,2<=d->d * d<=p->¬p % d=0
def Pr.div(h:Pr p)(hd:d ∣ p):d=1\/d=p:=by
 obtain⟨k,hk⟩:=hd;have p2:=h.1;rcases(by omega:d=0\/d=1\/2<=d)with e | e | e
 . rw[e,Nat.zero_mul]at hk;omega
 . exact .inl e
 . rcases(by omega:k=0\/k=1\/2<=k)with f | f | f
   . rw[f,Nat.mul_zero]at hk;omega
   . rw[f,Nat.mul_one]at hk;exact .inr hk.symm
   . exfalso;rcases Nat.le_total d k with g | g
     . have:d * d<=p:=by rw[hk];exact bg d g
       exact h.2 d e this (by rw[hk];exact Nat.mul_mod_right d k)
     . have:k * k<=p:=by rw[hk];exact bh k g
       exact h.2 k f this (by rw[hk];exact Nat.mul_mod_left d k)
def Pr.cop(h:Pr p)(ha:¬p ∣ a):Nat.Coprime p a:=by
 have d1:=Nat.gcd_dvd_left p a;have d2:=Nat.gcd_dvd_right p a;rcases h.div d1 with e | e
 . exact e
 . rw[e]at d2;exact absurd d2 ha
def Pr.mul(h:Pr p)(hd:p ∣ a * b):p ∣ a\/p ∣ b:=by
 by_cases c:p ∣ a
 . exact .inl c
 . exact .inr ((h.cop c).dvd_of_dvd_mul_left hd)
def MZ(h0:0 < a)(h1:a < p):¬p ∣ a:=λh=>by
 have:=cy h0 h;omega
theorem VW:∀(n:Nat) (l:List Nat),l.Nodup->(∀a∈l,a < n)->l.length<=n
 | 0,l,_,h=>by
  cases l with
  | nil=>exact ae 0
  | cons a r=>exact absurd (h a (aw ..)) oM
 | n+1,l,nd,h=>by
  by_cases c:n∈l
  . have e:=List.length_erase_of_mem c;have:=VW n (l.erase n) (nd.erase n) (λa ha=>by
     have m:=(List.Nodup.mem_erase_iff nd).mp ha;have:=h a m.2;have:=m.1;omega)
    omega
  . have:=VW n l nd (λa ha=>by
     have:=h a ha;have:a≠n:=λe=>c (e▸ha);omega)
    omega
theorem perm:∀(n:Nat) (l:List Nat),l.Nodup->(∀a∈l,a < n)->l.length=n->l.Perm (List.range n)
 | 0,l,_,_,e=>by
  have:l=[]:=bw.mp e;rw[this];exact List.Perm.refl _
 | n+1,l,nd,h,e=>by
  by_cases c:n∈l
  . have e':=List.length_erase_of_mem c;have i:=perm n (l.erase n) (nd.erase n) (λa ha=>by
     have m:=(List.Nodup.mem_erase_iff nd).mp ha;have:=h a m.2;have:=m.1;omega) oM
    have q:=List.perm_cons_erase c;refine q.trans ?_;rw[List.range_succ];exact(i.cons n).trans (List.perm_append_singleton n (List.range n)).symm
  . have:=VW n l nd (λa ha=>by
     have:=h a ha;have:a≠n:=λe=>c (e▸ha);omega)
    omega
def pd:List Nat->Nat
 | []=>1
 | a::r=>a * pd r
def Sj(h:l.Perm m):pd l=pd m:=by
 induction h with
 | nil=>rfl
 | cons a _ ih=>show a * _=a * _;rw[ih]
 | swap a b l=>show b * (a * _)=a * (b * _);rw[<- bM,<- bM,bT b a]
 | trans _ _ i j=>exact i.trans j
theorem Qf(h:Pr p):∀(l:List Nat),(∀a∈l,¬p ∣ a)->¬p ∣ pd l
 | [],_=>λd=>by
  have:=cy (by decide) d;have:=h.1;have e:pd []=1:=rfl;omega
 | a::r,g=>λd=>by
  rcases h.mul d with e | e
  . exact g a (aw ..) e
  . exact Qf h r (λb hb=>g b (aD _ hb)) e
theorem Qe(p x:Nat):∀(l:List Nat),pd (l.map λi=>x * i % p) % p=x ^ l.length * pd l % p
 | []=>by simp[pd]
 | a::r=>by
  have ih:=Qe p x r;show(x * a % p) * pd (r.map λi=>x * i % p) % p=x ^ (r.length+1) * (a * pd r) % p;rw[Nat.mul_mod,Nat.mod_mod,ih,<- Nat.mul_mod,cK];congr 1
  grind
def Wa(h:Pr p)(hx:¬p ∣ x):x ^ (p - 1) % p=1:=by
 have p2:=h.1
 let f:Nat->Nat:=λi=>x * (i+1) % p - 1
 have pos:∀i,i < p - 1->0 < x * (i+1) % p:=λi hi=>by
  rcases Nat.eq_zero_or_pos (x * (i+1) % p)with e | e
  . rcases h.mul (dE e)with d | d
    . exact absurd d hx
    . exact absurd d (MZ oM oM)
  . exact e
 have lt:∀i,x * (i+1) % p < p:=λi=>Nat.mod_lt _ oM;have inj:∀i j,i < p - 1->j < p - 1->i < j->x * (i+1) % p≠x * (j+1) % p:=λi j hi hj ij e=>by
  have d:p ∣ x * (j+1) - x * (i+1):=by
   apply dE;exact Nat.sub_mod_eq_zero_of_mod_eq e.symm
  rw[<- Nat.mul_sub]at d;rcases h.mul d with d | d
  . exact hx d
  . exact MZ oM oM d
 have nd:((List.range (p - 1)).map f).Nodup:=by
  rw[List.nodup_iff_pairwise_ne,cz];refine List.Pairwise.imp_of_mem ?_ (List.pairwise_lt_range (n:=p - 1));intro a b ha hb ab e;have ha:=aV.mp ha;have hb:=aV.mp hb;have e:x * (a+1) % p - 1=x * (b+1) % p - 1:=e;have:=pos a ha;have:=pos b hb;exact inj a b ha hb ab oM
 have pm:=perm (p - 1) ((List.range (p - 1)).map f) nd (λa ha=>by
  obtain⟨i,hi,e⟩:=aE.mp ha;have:=pos i (aV.mp hi);have:=lt i;have e:x * (i+1) % p - 1=a:=e;omega) (by simp)
 have pm2:=Sj (pm.map (·+1));have same:((List.range (p - 1)).map f).map (·+1)=((List.range (p - 1)).map (·+1)).map (λi=>x * i % p):=by
  rw[cg,cg];refine List.map_congr_left λi hi=>?_;have:=pos i (aV.mp hi);show x * (i+1) % p - 1+1=x * (i+1) % p;omega
 rw[same]at pm2;have q:=Qe p x ((List.range (p - 1)).map (·+1));rw[pm2,af,cj]at q;generalize hF:pd ((List.range (p - 1)).map (·+1))=F at q;have cF:¬p ∣ F:=by
  rw[<- hF];refine Qf h _ λa ha=>?_;obtain⟨i,hi,e⟩:=aE.mp ha;have:=aV.mp hi;exact MZ oM oM
 have d:p ∣ (x ^ (p - 1) - 1) * F:=by
  apply dE;rw[Nat.sub_mul,Nat.one_mul];exact Nat.sub_mod_eq_zero_of_mod_eq q.symm
 have xp:0 < x ^ (p - 1):=Nat.pow_pos (by
  rcases Nat.eq_zero_or_pos x with e | e
  . exact absurd (e▸Nat.dvd_zero p) hx
  . exact e)
 rcases h.mul d with d | d
 . obtain⟨k,hk⟩:=d;have e:x ^ (p - 1)=1+p * k:=by omega
   rw[e,Nat.add_mul_mod_self_left];exact Nat.mod_eq_of_lt oM
 . exact absurd d cF
def fe{a p:Int}(hp:0 < p):a.fmod p=a % p:=dF a (Int.le_of_lt hp)
def em1(a b p:Int):(a % p * b) % p=(a * b) % p:=by rw[Int.mul_emod,Int.emod_emod_of_dvd a (Int.dvd_refl p),<- Int.mul_emod]
def QW(a b p:Int):(a * (b % p)) % p=(a * b) % p:=by rw[aN,em1,aN]
def Rm(a p:Int):(-(a % p)) % p=(-a) % p:=by
 have:=QW (-1) a p;rw[Int.neg_one_mul,Int.neg_one_mul]at this;exact this
def LU{a p:Int}(hp:0 < p):0<=a.fmod p/\a.fmod p < p:=⟨bH a hp,bI a hp⟩
def r_pa{x y z p:Int}(hp:0 < p):((x+y).fmod p+z).fmod p=(x+(y+z).fmod p).fmod p:=by
 simp only[fe hp,Int.emod_add_emod,Int.add_emod_emod,Int.add_assoc]
def r_ta{x y z p:Int}(hp:0 < p):((x * y).fmod p * z).fmod p=(x * (y * z).fmod p).fmod p:=by
 simp only[fe hp,em1,QW,aG]
def r_d{x y z p:Int}(hp:0 < p):(x * (y+z).fmod p).fmod p=((x * y).fmod p+(x * z).fmod p).fmod p:=by
 simp only[fe hp,QW,Int.emod_add_emod,Int.add_emod_emod,Int.mul_add]
def Fw{x p:Int}(h0:0<=x)(h1:x < p):x.fmod p=x:=by
 rw[fe oM];exact cZ h0 h1
def r_pm{x p:Int}(hp:0 < p):(x+(-x).fmod p).fmod p=0:=by
 simp only[fe hp,Int.add_emod_emod];rw[Int.add_right_neg];exact Int.zero_emod p
def ri(p x:Int):Int:=(x ^ (p.toNat - 2)) % p
def UX(x:Int)(h:0<=x)(k:Nat):x ^ k=((x.toNat ^ k:Nat):Int):=by
 have:(x.toNat:Int)=x:=da h;rw[Int.natCast_pow,this]
def Tz(hp:0 < p):0<=ri p x/\ri p x < p:=⟨Int.emod_nonneg _ oM,Int.emod_lt_of_pos _ hp⟩
def UU(h:Pr p.toNat)(h0:0 < x)(h1:x < p):(x * ri p x).fmod p=1:=by
 have p2:=h.1;have hp:0 < p:=by omega
 rw[fe hp];unfold ri;rw[QW];have e:x * x ^ (p.toNat - 2)=x ^ (p.toNat - 1):=by
  have:p.toNat - 1=(p.toNat - 2)+1:=by omega
  rw[this,bN,aN]
 rw[e,UX x oM];have f:=Wa h (MZ (p:=p.toNat) (a:=x.toNat) oM oM);have:((x.toNat ^ (p.toNat - 1) % p.toNat:Nat):Int)=((1:Nat):Int):=by rw[f]
 rw[Int.natCast_emod,da oM]at this;exact this
def Ld(p x:Int)(left product square:Int):Prop:=(product * square ^ left.toNat) % p=(x ^ (p.toNat - 2)) % p/\(0<=product/\product < p)
def PK(h:2<=p):Ld p x (p - 2) 1 x:=by
 refine⟨?_,oM,oM⟩;have:(p - 2).toNat=p.toNat - 2:=by omega
 rw[this,Int.one_mul]
def TH(a p:Int)(k:Nat):((a % p) ^ k) % p=(a ^ k) % p:=by
 induction k with
 | zero=>rw[cM,cM]
 | succ k ih=>rw[bN,bN,QW,aN,<- QW,ih,QW,aN]
def UV{p x l a s:Int}(hp:0 < p)(h:Ld p x l a s)(h0:0 < l)(o:l % 2=1):Ld p x (l.fdiv 2) ((a * s).fmod p) ((s * s).fmod p):=by
 have hl:l.toNat=2 * (l.fdiv 2).toNat+1:=by
  rw[dH l (by decide)];omega
 refine⟨?_,LU hp⟩;rw[<- h.1,hl,fe hp,fe hp,em1];generalize (l.fdiv 2).toNat=k;have e:(a * s) * ((s * s) % p) ^ k % p=(a * s) * (s * s) ^ k % p:=by
  rw[<- QW,TH,QW]
 rw[e,bN,Int.pow_mul];have:s ^ 2=s * s:=by rw[bN,bN,cM,Int.one_mul]
 rw[this];congr 1
 grind
def Sd(hp:0 < p)(h:Ld p x l a s)(h0:0 < l)(o:l % 2≠1):Ld p x (l.fdiv 2) a ((s * s).fmod p):=by
 have hl:l.toNat=2 * (l.fdiv 2).toNat:=by
  rw[dH l (by decide)];omega
 refine⟨?_,h.2⟩;rw[<- h.1,hl,fe hp];generalize (l.fdiv 2).toNat=k;rw[<- QW,TH,QW,Int.pow_mul];have:s ^ 2=s * s:=by rw[bN,bN,cM,Int.one_mul]
 rw[this]
def UT(h:Ld p x l a s)(h0:¬0 < l):a=ri p x:=by
 have:l.toNat=0:=by omega
 have e:=h.1;rw[this,cM,cf,cZ h.2.1 h.2.2]at e;exact e
def PI(n:Int):Prop:=2<=n/\∀d:Int,2<=d->d * d<=n->¬n.fmod d=0
def PI.nat{n:Int}(h:PI n):Pr n.toNat:=by
 refine⟨by have:=h.1;omega,λd hd hdd e=>?_⟩;have n2:=h.1;have hn:(n.toNat:Int)=n:=da oM;refine h.2 (d:Int) oM ?_ ?_
 . have:((d * d:Nat):Int)<=(n.toNat:Int):=by omega
   rw[hn]at this;rw[<- Int.natCast_mul];exact this
 . rw[fe oM,<- hn,<- Int.natCast_emod,e];rfl
noncomputable def Jl(n:Int):Bool:=@decide (PI n) (Classical.propDecidable _)
def Ky(h:Jl n=true):PI n:=@of_decide_eq_true _ (Classical.propDecidable _) h
def VT(h:PI n):Jl n=true:=@decide_eq_true _ (Classical.propDecidable _) h
def WQ{d f n:Int}(hd:2<=d)(hf:2<=f)(h:d * d<=n)(g:¬f * f<=n):d < f:=by
 rcases Int.lt_or_le d f with e | e
 . exact e
 . have:f * f<=d * d:=Int.mul_le_mul e e oM oM;omega
def WR{f n:Int}(hf:2<=f)(h:f * f<=n):f+1<=n:=by
 have:2 * f<=f * f:=Int.mul_le_mul_of_nonneg_right hf oM;omega
def U6(n k:Nat)(h2:2<=n)(hk:n < k * k)(h:(List.range k).all (λd=>d < 2 || n % d != 0)=true):Jl (n:Int)=true:=by
 refine VT ⟨oM,λd hd hdd e=>?_⟩;have hk2:¬(k:Int) * (k:Int)<=(n:Int):=by
  have:((n:Nat):Int) < ((k * k:Nat):Int):=by omega
  rw[Int.natCast_mul]at this;omega
 have kk:2<=(k:Int):=by
  rcases(by omega:k=0\/k=1\/2<=k)with c | c | c
  . subst c;omega
  . subst c;omega
  . omega
 have lt:=WQ hd kk hdd hk2;have dn:(d.toNat:Int)=d:=da oM;have:=bO.mp h d.toNat (aV.mpr oM);rw[<- dn,fe oM,<- Int.natCast_emod]at e;have e':n % d.toNat=0:=by omega
 simp[e']at this;omega
def Sl:Jl 999983=true:=U6 999983 1000 (by decide) (by decide) dK
def Vf:Jl 65537=true:=U6 65537 257 (by decide) (by decide) dK
def p2:Jl 2=true:=U6 2 2 (by decide) (by decide) dK
def p3:Jl 3=true:=U6 3 2 (by decide) (by decide) dK
def p5:Jl 5=true:=U6 5 3 (by decide) (by decide) dK
def p7:Jl 7=true:=U6 7 3 (by decide) (by decide) dK
def p11:Jl 11=true:=U6 11 4 (by decide) (by decide) dK
def p13:Jl 13=true:=U6 13 4 (by decide) (by decide) dK
def p101:Jl 101=true:=U6 101 11 (by decide) (by decide) dK
end Mine
namespace Mine
open PySem PySem.SeqAt
set_option genInjectivity false in
set_option genSizeOfSpec false in
structure SR where
 W:Type
 add:W->W->W
 mul:W->W->W
 zero:W
 one:W
 add_comm:∀x y,add x y=add y x
 add_assoc:∀x y z,add (add x y) z=add x (add y z)
 mul_comm:∀x y,mul x y=mul y x
 mul_assoc:∀x y z,mul (mul x y) z=mul x (mul y z)
 distrib:∀x y z,mul x (add y z)=add (mul x y) (mul x z)
 add_zero:∀x,add x zero=x
 mul_one:∀x,mul x one=x
 mul_zero:∀x,mul x zero=zero
 zo:zero≠one
 sz:Nat->W->Prop
 sz_mono:∀m n x,m<=n->sz m x->sz n x
 sz_add:∀m n x y,sz m x->sz n y->sz (m+n+1) (add x y)
 sz_mul:∀m n x y,sz m x->sz n y->sz (m+n) (mul x y)
 sz_zero:sz 0 zero
 sz_one:sz 0 one
 lv:Nat->Nat->W->Prop
 lv_mono:∀k c c' x,c<=c'->lv k c x->lv k c' x
 lv_add:∀k c c' x y,lv k c x->lv k c' y->lv k (c+c') (add x y)
 lv_mul:∀j k x y,lv j 32 x->lv k 32 y->lv (j+k) 1 (mul x y)
 lv_zero:∀k,lv k 0 zero
 lv_one:lv 1 1 one
 lv_up:∀k c x,lv k c x->lv (k+1) c x
 lv_sz:∀k c x,c<=1024->lv k c x->sz (100 * k) x
 data:W->PyData
 sh:∀x,shaped (data x)=true
 nm:∀x y,noMix (data x) (data y)=true
 eq:∀x,PySem.Spec.same (data x) (data x)=true
 ne:∀x y,x≠y->PySem.Spec.same (data x) (data y)=false
structure Fr where
 t:Int
 b:Int
 p:0 < b
 l:dv t b=1
def Fr.eq_of{x y:Fr}(h1:x.t=y.t)(h2:x.b=y.b):x=y:=by
 cases x;cases y;cases h1;cases h2;rfl
def Fr.nb(x:Fr):x.b≠0:=by have:=x.p;omega
def Fr.of(a b:Int)(h:0 < b):Fr:=⟨tp a b,bt a b,CN oM,d0o oM⟩
def Fr.of_cross(a b:Int)(h:0 < b):(Fr.of a b h).t * b=a * (Fr.of a b h).b:=NG oM
def Fr.add(x y:Fr):Fr:=Fr.of (x.t * y.b+y.t * x.b) (x.b * y.b) (aL x.p y.p)
def Fr.mul(x y:Fr):Fr:=Fr.of (x.t * y.t) (x.b * y.b) (aL x.p y.p)
def Fr.zero:Fr:=⟨0,1,by decide,Wi⟩
def Fr.one:Fr:=⟨1,1,by decide,dv11⟩
def Fr.sz(n:Nat)(x:Fr):Prop:=x.t.natAbs<=2 ^ n/\x.b.natAbs<=2 ^ n
def UY(m n:Nat):(2:Nat) ^ (m+n)=2 ^ m * 2 ^ n:=bc 2 m n
def FM{a b:Int}{m n:Nat}(h1:a.natAbs<=2 ^ m)(h2:b.natAbs<=2 ^ n):(a * b).natAbs<=2 ^ (m+n):=by
 rw[bu,UY];exact bx h1 h2
def Uw{a b c d:Int}{m n:Nat}(h1:a.natAbs<=2 ^ m)(h2:b.natAbs<=2 ^ n)(h3:c.natAbs<=2 ^ n)(h4:d.natAbs<=2 ^ m):(a * b+c * d).natAbs<=2 ^ (m+n+1):=by
 have k1:=FM h1 h2;have k2:=FM h3 h4;rw[Nat.add_comm n m]at k2;have k3:(a * b+c * d).natAbs<=(a * b).natAbs+(c * d).natAbs:=Int.natAbs_add_le _ _;have k4:(2:Nat) ^ (m+n+1)=2 ^ (m+n) * 2:=cK ..;omega
def Qg(h1:a.natAbs<=2 ^ m)(h2:b.natAbs<=2 ^ m):(Fr.of a b h).sz m:=
 ⟨ah (MV oM) h1,ah (NM oM) h2⟩
def PM(h:m<=n):(2:Nat) ^ m<=2 ^ n:=dc (by decide) h
def Fr.lv(k c:Nat)(x:Fr):Prop:=∃a:Int,x.t * 12 ^ k=a * x.b/\1024 * a.natAbs<=c * 2 ^ (100 * k)
def Fr.lv_add(h:x.lv k c)(h':y.lv k c'):(Fr.add x y).lv k (c+c'):=by
 obtain⟨a,e,b⟩:=h;obtain⟨a',e',b'⟩:=h';refine⟨a+a',?_,?_⟩
 . have hc:=Fr.of_cross (x.t * y.b+y.t * x.b) (x.b * y.b) (aL x.p y.p);have hn:x.b * y.b≠0:=cu x.nb y.nb;refine bf hn ?_;show(Fr.add x y).t * 12 ^ k * (x.b * y.b)=(a+a') * (Fr.add x y).b * (x.b * y.b);have hc:(Fr.add x y).t * (x.b * y.b)=(x.t * y.b+y.t * x.b) * (Fr.add x y).b:=hc;have e1:(Fr.add x y).t * 12 ^ k * (x.b * y.b)=((Fr.add x y).t * (x.b * y.b)) * 12 ^ k:=by rw[aO]
   rw[e1,hc];have e2:(x.t * y.b+y.t * x.b) * (Fr.add x y).b * 12 ^ k=((x.t * 12 ^ k) * y.b+(y.t * 12 ^ k) * x.b) * (Fr.add x y).b:=by
    rw[aO,Int.add_mul,aO x.t,aO y.t]
   rw[e2,e,e'];have e3:a * x.b * y.b+a' * y.b * x.b=(a+a') * (x.b * y.b):=by
    rw[Int.add_mul,aG,aG a',aN y.b x.b]
   rw[e3,aO]
 . have:=Int.natAbs_add_le a a';rw[Nat.add_mul];omega
def Fr.lv_mul(h:x.lv j 32)(h':y.lv k 32):(Fr.mul x y).lv (j+k) 1:=by
 obtain⟨a,e,b⟩:=h;obtain⟨a',e',b'⟩:=h';refine⟨a * a',?_,?_⟩
 . have hc:(Fr.mul x y).t * (x.b * y.b)=(x.t * y.t) * (Fr.mul x y).b:=Fr.of_cross (x.t * y.t) (x.b * y.b) (aL x.p y.p);have hn:x.b * y.b≠0:=cu x.nb y.nb;refine bf hn ?_;rw[aO,hc,Int.pow_add];have e2:x.t * y.t * (Fr.mul x y).b * (12 ^ j * 12 ^ k)=(x.t * 12 ^ j) * (y.t * 12 ^ k) * (Fr.mul x y).b:=by
    rw[aO];congr 1;rw[aG,aG,Int.mul_left_comm y.t]
   rw[e2,e,e'];have e3:a * x.b * (a' * y.b)=a * a' * (x.b * y.b):=by
    rw[aG,aG,Int.mul_left_comm x.b]
   rw[e3,aO]
 . rw[bu,Nat.mul_add,bc];have h1:=bx b b';have e1:1024 * a.natAbs * (1024 * a'.natAbs)=1024 * (1024 * (a.natAbs * a'.natAbs)):=by
    rw[bM,Nat.mul_left_comm a.natAbs]
   have e2:32 * 2 ^ (100 * j) * (32 * 2 ^ (100 * k))=1024 * (2 ^ (100 * j) * 2 ^ (100 * k)):=by
    rw[bM,Nat.mul_left_comm (2 ^ (100 * j)),<- bM]
   rw[e1,e2]at h1;have:=Nat.le_of_mul_le_mul_left h1 (by decide);omega
def Fr.lv_up{k c:Nat}{x:Fr}(h:x.lv k c):x.lv (k+1) c:=by
 obtain⟨a,e,b⟩:=h;refine⟨a * 12,?_,?_⟩
 . rw[bN,<- aG,e,aO]
 . rw[bu,show 100 * (k+1)=100 * k+100 from by omega,bc];have h1:(1024 * a.natAbs) * 12<=(c * 2 ^ (100 * k)) * 2 ^ 100:=bx b (by decide);have e1:1024 * (a.natAbs * (12:Int).natAbs)=(1024 * a.natAbs) * 12:=by rw[bM];rfl
   rw[e1,<- bM];exact h1
def Fr.lv_sz{k c:Nat}{x:Fr}(hc:c<=1024)(h:x.lv k c):x.sz (100 * k):=by
 obtain⟨a,e,b⟩:=h;have cop:Nat.Coprime x.t.natAbs x.b.natAbs:=by
  have l:=x.l;unfold dv at l;have:Int.gcd x.t x.b=1:=by omega
  exact this
 have e':x.t.natAbs * 12 ^ k=a.natAbs * x.b.natAbs:=by
  have:=congrArg Int.natAbs e;rw[bu,bu,Int.natAbs_pow]at this;exact this
 have hb:a.natAbs<=2 ^ (100 * k):=by
  have h1:1024 * a.natAbs<=1024 * 2 ^ (100 * k):=ah b (bh _ hc);exact Nat.le_of_mul_le_mul_left h1 (by decide)
 have p12:(12:Nat) ^ k<=2 ^ (100 * k):=by
  rw[Nat.pow_mul];exact Nat.pow_le_pow_left (by decide) k
 constructor
 . have d:x.t.natAbs ∣ a.natAbs:=cop.dvd_of_dvd_mul_right ⟨12 ^ k,e'.symm⟩;by_cases z:a.natAbs=0
   . have:x.t.natAbs * 12 ^ k=0:=by rw[e',z,Nat.zero_mul]
     have:x.t.natAbs=0:=by
      rcases Nat.mul_eq_zero.mp this with h | h
      . exact h
      . exact absurd h (bF (Nat.pow_pos (by decide)))
     omega
   . exact ah (cy oM d) hb
 . have d:x.b.natAbs ∣ 12 ^ k:=cop.symm.dvd_of_dvd_mul_left ⟨a.natAbs,by rw[e',bT]⟩;exact ah (cy (Nat.pow_pos (by decide)) d) p12
def Hh:SR where
 W:=Fr
 add:=Fr.add
 mul:=Fr.mul
 zero:=Fr.zero
 one:=Fr.one
 add_comm x y:=Fr.eq_of Ea.1 Ea.2
 add_assoc x y z:=
  have h:=LV (f:=z.b) (e:=z.t) x.nb y.nb z.nb (Fr.add x y).nb (Fr.add y z).nb (Fr.of_cross _ _ (aL x.p y.p)) (Fr.of_cross _ _ (aL y.p z.p))
  Fr.eq_of h.1 h.2
 mul_comm x y:=Fr.eq_of Cj.1 Cj.2
 mul_assoc x y z:=
  have h:=Jq (f:=z.b) (e:=z.t) x.nb y.nb z.nb (Fr.mul x y).nb (Fr.mul y z).nb (Fr.of_cross _ _ (aL x.p y.p)) (Fr.of_cross _ _ (aL y.p z.p))
  Fr.eq_of h.1 h.2
 distrib x y z:=
  have h:=distrib (a:=x.t) (f:=z.b) (e:=z.t) x.nb y.nb z.nb (Fr.add y z).nb (Fr.mul x y).nb (Fr.mul x z).nb (Fr.of_cross _ _ (aL y.p z.p)) (Fr.of_cross _ _ (aL x.p y.p)) (Fr.of_cross _ _ (aL x.p z.p))
  Fr.eq_of h.1 h.2
 add_zero x:=Fr.eq_of (DZ x.p x.l).1 (DZ x.p x.l).2
 mul_one x:=Fr.eq_of (Hq x.p x.l).1 (Hq x.p x.l).2
 mul_zero x:=Fr.eq_of (Fm x.p).1 (Fm x.p).2
 zo h:=by have:(0:Int)=1:=congrArg Fr.t h;omega
 sz:=Fr.sz
 sz_mono m n x h s:=⟨ah s.1 (PM h),ah s.2 (PM h)⟩
 sz_add m n x y h1 h2:=Qg (Uw h1.1 h2.2 h2.1 h1.2) (ah (FM h1.2 h2.2) (PM (Nat.le_succ _)))
 sz_mul m n x y h1 h2:=Qg (FM h1.1 h2.1) (FM h1.2 h2.2)
 sz_zero:=⟨by decide,by decide⟩
 sz_one:=⟨by decide,by decide⟩
 lv:=Fr.lv
 lv_mono k c c' x h:=λ⟨a,e,b⟩=>⟨a,e,ah b (bh _ h)⟩
 lv_add _ _ _ _ _ h h':=Fr.lv_add h h'
 lv_mul _ _ _ _ h h':=Fr.lv_mul h h'
 lv_zero k:=⟨0,by show(0:Int) * 12 ^ k=0 * 1;rw[Int.zero_mul,Int.zero_mul],by show 1024 * 0<=_;omega⟩
 lv_one:=⟨12,by decide,by decide⟩
 lv_up _ _ _ h:=Fr.lv_up h
 lv_sz _ _ _ hc h:=Fr.lv_sz hc h
 data x:=.tuple [.int x.t,.int x.b]
 sh x:=rfl
 nm x y:=by simp[noMix,noMixAll]
 eq x:=by simp[PySem.Spec.same,PySem.Spec.sameAll]
 ne x y h:=by
  simp[PySem.Spec.same,PySem.Spec.sameAll];intro h1 h2;exact h (Fr.eq_of h1 h2)
structure Re(p:Int)where
 x:Int
 h0:0<=x
 h1:x < p
def Re.eq_of{p:Int}{a b:Re p}(h:a.x=b.x):a=b:=by cases a;cases b;cases h;rfl
def Re.of(p:Int)(hp:0 < p)(x:Int):Re p:=⟨x.fmod p,(LU hp).1,(LU hp).2⟩
def Y3(p:Int)(hp:2<=p):SR where
 W:=Re p
 add a b:=Re.of p oM (a.x+b.x)
 mul a b:=Re.of p oM (a.x * b.x)
 zero:=⟨0,oM,oM⟩
 one:=⟨1,oM,oM⟩
 add_comm a b:=Re.eq_of (by show(a.x+b.x).fmod p=(b.x+a.x).fmod p;rw[Int.add_comm])
 add_assoc a b c:=Re.eq_of (r_pa oM)
 mul_comm a b:=Re.eq_of (by show(a.x * b.x).fmod p=(b.x * a.x).fmod p;rw[aN])
 mul_assoc a b c:=Re.eq_of (r_ta oM)
 distrib a b c:=Re.eq_of (r_d oM)
 add_zero a:=Re.eq_of (by show(a.x+0).fmod p=a.x;rw[Int.add_zero];exact Fw a.h0 a.h1)
 mul_one a:=Re.eq_of (by show(a.x * 1).fmod p=a.x;rw[cf];exact Fw a.h0 a.h1)
 mul_zero a:=Re.eq_of (by show(a.x * 0).fmod p=0;rw[Int.mul_zero];exact Fw oM oM)
 zo h:=by have:(0:Int)=1:=congrArg Re.x h;omega
 sz _ _:=True
 sz_mono _ _ _ _ _:=trivial
 sz_add _ _ _ _ _ _:=trivial
 sz_mul _ _ _ _ _ _:=trivial
 sz_zero:=trivial
 sz_one:=trivial
 lv _ _ _:=True
 lv_mono _ _ _ _ _ _:=trivial
 lv_add _ _ _ _ _ _ _:=trivial
 lv_mul _ _ _ _ _ _:=trivial
 lv_zero _:=trivial
 lv_one:=trivial
 lv_up _ _ _ _:=trivial
 lv_sz _ _ _ _ _:=trivial
 data a:=.int a.x
 sh _:=rfl
 nm _ _:=by simp[noMix]
 eq _:=by simp[PySem.Spec.same]
 ne a b h:=by
  simp[PySem.Spec.same];intro e;exact h (Re.eq_of e)
end Mine
namespace L2
open PySem PySem.Spec PyProof.Rows
class Plain (P:Program):Prop where
 tree:P.given.tree=none
section
variable{X:Cx}
theorem r9.seer{pins:List (Addr × Obj)}{σ:St}{H:Hp}{s:Shared}(I:r9 X pins σ H s):s.heap.NoSeer:=I.ok.mod.seer.keeps I.bk
def Dl{k:Nat}(hr:K8 k X.A)(hk:34<=k)(hP:X.prog.given.tree=none)(hst:X.stack=X.env::X.outer:=by rfl)(hgen:X.env.scope.isGenerator=false:=by rfl)(hco:X.env.scope.isCoroutine=false:=by rfl) :
    DH X (binaryOp .FloorDiv) (rI (λ_ j=>j≠0) λi j=>.int (i.fdiv j)):=by
 intro pins s σ H x y v u Q I rx ry h;obtain⟨i,j,rfl,rfl,hc,q⟩:=h;obtain⟨t,rfl⟩:=rx;obtain⟨t',rfl⟩:=ry;refine floordiv_int hc ⟨.int _,H,I.tok _,⟨_,rfl⟩,q⟩ (Or.inr (PylongRoom.of I.nolimit ?_ (SeerAt.of I.seer hP (by rw[I.ok.frames,hst]) hgen hco I.ok.blt I.ok.glob)));have:=hr.dp;show X.A.depth+100 < recursionLimit;omega
def EG(i j:Int):Prop:=Builtin.Int.intBits i+Builtin.Int.intBits j<=2 ^ 27
def VH{a b:Int}(hc:EG a b):IntMulOk a b:=by
 have hc:Builtin.Int.intBits a+Builtin.Int.intBits b<=2 ^ 27:=hc;have e:Builtin.Int.intTooBig (Builtin.Int.intBits a+Builtin.Int.intBits b)=false:=by
  unfold Builtin.Int.intTooBig bitsLine;exact decide_eq_false oM
 unfold IntMulOk;rw[e];simp
def S3:DH X (binaryOp .Mult) (rI EG λi j=>.int (i * j)):=XU λ_ _ _ _ _ _ _ hc q=>mul_int q (VH hc)
end
def N6(cells:List (Str × Addr)):List (Str × NameKind)->List (Str × Addr)->List (Str × Addr)
 | [],cs=>cs
 | (n,k)::r,cs=>N6 cells r (if(k == .free)=true then(n,(cells.lookup n).getD 0)::cs else cs)
theorem Jf:∀(names:List (Str × NameKind)) (cs:List (Str × Addr)),(∀n,(n,NameKind.free)∈names->∃c,env.cells.lookup n=some c)->
    (forIn names cs λ(x:Str × NameKind) (r:List (Str × Addr))=>(match x with | (name,kind)=>if(kind == NameKind.free)=true then(do let c <- cellOf env name;pure (ForInStep.yield ((name,c)::r)))else pure (ForInStep.yield r):Sem (ForInStep (List (Str × Addr)))))=pure (N6 env.cells names cs)
 | [],cs,_=>rfl
 | (n,k)::r,cs,h=>by
  rw[List.forIn_cons];by_cases hk:k=.free
  . subst hk;obtain⟨c,hc⟩:=h n aw;have ih:=Jf (env:=env) r ((n,c)::cs) λm hm=>h m (aD _ hm);have e1:cellOf env n=pure c:=by unfold cellOf;rw[hc]
    simp only[beq_self_eq_true,if_true,e1,pure_bind];rw[ih]
    conv=>rhs;unfold N6
    simp only[beq_self_eq_true,if_true,hc,de]
  . have hb:(k == NameKind.free)=false:=by simpa using hk
    have ih:=Jf (env:=env) r cs λm hm=>h m (aD _ hm);simp only[hb,Bool.false_eq_true,if_false,pure_bind];rw[ih]
    conv=>rhs;unfold N6
    simp only[hb,Bool.false_eq_true,if_false]
def Y7(h:∀n,(n,NameKind.free)∈scope.names->∃c,env.cells.lookup n=some c):closureFor scope env=pure (N6 env.cells scope.names []):=by
 have e:=Jf (env:=env) scope.names [] h;unfold closureFor;simp only[bind_pure];exact e
theorem Je:∀{names:List (Str × NameKind)} {cs:List (Str × Addr)},(∀n,(n,NameKind.free)∈names->∃c,cells.lookup n=some c)->∀{y c},(N6 cells names cs).lookup y=some c->cs.lookup y=some c\/cells.lookup y=some c
 | [],cs,_,y,c,e=>.inl e
 | (n,k)::r,cs,h,y,c,e=>by
  unfold N6 at e;have h':∀m,(m,NameKind.free)∈r->∃c,cells.lookup m=some c:=λm hm=>h m (aD _ hm);rcases Je h' e with z | z
  . by_cases hk:k=.free
    . subst hk;obtain⟨d,hd⟩:=h n aw;simp only[beq_self_eq_true,if_true,hd,de]at z;rw[bU]at z;cases hy:(y == n)with
      | true=>
       rw[hy]at z;have:y=n:=beq_iff_eq.mp hy;subst this;exact .inr (hd.trans z)
      | false=>rw[hy]at z;exact .inl z
    . have hb:(k == NameKind.free)=false:=by simpa using hk
      simp only[hb,Bool.false_eq_true,if_false]at z;exact .inl z
  . exact .inr z
theorem DG:∀{names:List (Str × NameKind)} {cs:List (Str × Addr)} {y:Str},((∃c,cs.lookup y=some c)\/(y,NameKind.free)∈names)->∃c,(N6 cells names cs).lookup y=some c
 | [],cs,y,h=>by
  rcases h with h | h
  . exact h
  . cases h
 | (n,k)::r,cs,y,h=>by
  unfold N6;refine DG ?_;rcases h with ⟨c,h⟩ | h
  . left;split
    . rw[bU];cases hy:(y == n)with
      | true=>exact⟨_,rfl⟩
      | false=>exact⟨c,h⟩
    . exact⟨c,h⟩
  . rcases ar.mp h with e | h
    . cases e;left;simp only[beq_self_eq_true,if_true];rw[bU,beq_self_eq_true];exact⟨_,rfl⟩
    . exact .inr h
def DE{prog:Program}{w:World}{A:Around}{R:Result->Shared->Prop}{s:Shared}{elt target iter:Expr}{scope:Scope}{pos:Pos}{it acc:Value}{env:Env}(I:Nat->Shared->Prop)
    (turn:∀n s,I n s->wpAny (model prog w) A (pyNext it) (λr s₁=>match r with
     | none=>R (.ok .next) s₁
     | some v=>wpAny (model prog w) A (letOwnedTupleGo target it v) (λ_ s₁'=>wpAny (model prog w) A (assign target env v) (λ_ s₂=>wpAny (model prog w) A (eval elt env) (λx s₃=>
         wpAny (model prog w) A (call (.builtin "list.append") [acc,x]) (λ_ s₄=>∃m,m < n/\I m s₄) (λ_ _=>False) s₃) (λ_ _=>False) s₂) (λ_ _=>False) s₁') (λ_ _=>False) s₁) (λ_ _=>False) s)
    (n:Nat) (h:I n s) :
    codeAny (model prog w) A (.compLoop (.ListComp elt [⟨target,iter,[],0⟩] scope pos) 0 it acc env) R s:=by
 refine codeAny_loop rfl I (λn s hI=>?_) n h;show wpAny _ _ ((compTurn (.ListComp elt [⟨target,iter,[],0⟩] scope pos) 0 it acc env).onRaise (λx=>do noteFrame x env;theTreesLotGoes x)) _ _ s;refine wpAny_noted ?_;rw[compTurn_list1];refine wpAny_bind (wpAny_standAt (wpAny_bind (wpAny_mono (turn n s hI) (λr s₁ h₁=>?_) λ_ _ h'=>h'.elim)));cases r with
 | none=>exact wpAny_pure h₁
 | some v=>
  exact wpAny_bind (wpAny_mono h₁ (λ_ s1' h1'=>wpAny_bind (wpAny_mono h1' (λ_ s₂ h₂=>wpAny_bind (wpAny_bind (wpAny_mono h₂ (λx s₃ h₃=>wpAny_bind (wpAny_mono h₃
   (λ_ s₄ h₄=>wpAny_pure (wpAny_pure ⟨rfl,h₄⟩)) λ_ _ h'=>h'.elim)) λ_ _ h'=>h'.elim))) λ_ _ h'=>h'.elim)) λ_ _ h'=>h'.elim)
def Ac.track(x:Ac P w H h)(n:H a=none)(new:L6 P w (upd H a o) h a o):Ac P w (upd H a o) h:=λb u e=>by
 by_cases hb:b=a
 . subst hb;rw[c4]at e;cases e;exact new
 . rw[o4 hb]at e;exact(x b u e).stay (λ_ _ _ q=>q) (λc q=>by rw[o4 (l7 q n)];exact q) λc xs q=>by rw[o4 (l7 q n)];exact q
def Un.track(u:Un fs ex H H' h h')(hp:h.objs.size<=a)(n:H' a=none):Un fs ex H (upd H' a o) h h' where
 keep:=u.keep
 slot:=u.slot
 free:=λb ob q m hx=>by rw[o4 (az (aC (ao q) hp))];exact u.free b ob q m hx
 there:=u.there
 tups:=λb xs q=>by have z:=u.tups b xs q;rw[o4 (l7 z n)];exact z
 frzs:=λb ob xs q=>by have z:=u.frzs b ob xs q;rw[o4 (l7 z n)];exact z
 tbls:=λb ps q=>by obtain⟨m,z⟩:=u.tbls b ps q;exact⟨m,by rw[o4 (l7 z n)];exact z⟩
theorem I0:∀(names:List (Str × NameKind)) (n:Nat) (acc:List (Str × Addr)),cellsFrom n names acc=cellsFrom n names []++acc
 | [],_,_=>rfl
 | (x,k)::r,n,acc=>by
  unfold cellsFrom;split
  . rw[I0 r (n+1) ((x,n)::acc),I0 r (n+1) [(x,n)],df];rfl
  . exact I0 r n acc
theorem Gi:∀(names:List (Str × NameKind)) (n:Nat) (y:Str) (c:Addr),(y,c)∈cellsFrom n names []->(y,NameKind.cell)∈names
 | [],_,_,_,h=>by cases h
 | (x,k)::r,n,y,c,h=>by
  unfold cellsFrom at h;split at h
  . rename_i hk;rw[I0]at h;rcases aF.mp h with h | h
    . exact aD _ (Gi r (n+1) y c h)
    . have e:=av.mp h;cases e;rw[show k=NameKind.cell by simpa using hk];exact aw
  . exact aD _ (Gi r n y c h)
theorem BR:∀(names:List (Str × NameKind)) (n:Nat) (y:Str),(y,NameKind.cell)∈names->∃c,(y,c)∈cellsFrom n names []
 | [],_,_,h=>by cases h
 | (x,k)::r,n,y,h=>by
  unfold cellsFrom;rcases ar.mp h with e | h
  . cases e;rw[if_pos (show(NameKind.cell == NameKind.cell)=true by decide),I0];exact⟨n,ax _ aw⟩
  . split
    . rw[I0];obtain⟨c,hc⟩:=BR r (n+1) y h;exact⟨c,aW _ hc⟩
    . exact BR r n y h
theorem W0:∀(l r:List (Str × α)) (y:Str),(l++r).lookup y=match l.lookup y with | some c=>some c | none=>r.lookup y
 | [],_,_=>rfl
 | (x,c)::l,r,y=>by
  rw[List.cons_append,bU,bU];cases (y == x)with
  | true=>rfl
  | false=>exact W0 l r y
theorem CG:∀{l:List (Str × α)} {y:Str} {c:α},(y,c)∈l->∃c',l.lookup y=some c'
 | (x,d)::l,y,c,h=>by
  rw[bU];cases hb:(y == x)with
  | true=>exact⟨d,rfl⟩
  | false=>
   rcases ar.mp h with e | h
   . cases e;rw[beq_self_eq_true]at hb;cases hb
   . exact CG h
abbrev Ep(env:Env)(scope:Scope)(C:Addr):List (Str × Addr):=cellsFrom (C+1) scope.names (N6 env.cells scope.names [])
def OH(h:(Ep env scope C).lookup y=some c):(y,c)∈cellsFrom (C+1) scope.names []\/(N6 env.cells scope.names []).lookup y=some c:=by
 rw[show Ep env scope C=_ from I0 _ _ _,W0]at h;split at h
 . rename_i e;cases h;exact .inl (aY e)
 . exact .inr h
def Wk(k:scope.names.lookup y=some .cell)(h:(Ep env scope C).lookup y=some c):(y,c)∈cellsFrom (C+1) scope.names []:=by
 rw[show Ep env scope C=_ from I0 _ _ _,W0]at h;obtain⟨d,hd⟩:=BR scope.names (C+1) y (aY k);obtain⟨d',hd'⟩:=CG hd;rw[hd']at h;cases h;exact aY hd'
theorem J2:∀(names:List (Str × NameKind)) (n:Nat) (y:Str) (c:Addr),(y,c)∈cellsFrom n names []->n<=c
 | [],_,_,_,h=>by cases h
 | (x,k)::r,n,y,c,h=>by
  unfold cellsFrom at h;split at h
  . rw[I0]at h;rcases aF.mp h with h | h
    . have:=J2 r (n+1) y c h;omega
    . cases av.mp h;exact ae _
  . exact J2 r n y c h
theorem Eo:∀(names:List (Str × NameKind)) (n:Nat) (x y:Str) (c:Addr),(x,c)∈cellsFrom n names []->(y,c)∈cellsFrom n names []->x=y
 | [],_,_,_,_,h,_=>by cases h
 | (z,k)::r,n,x,y,c,h,g=>by
  unfold cellsFrom at h g;split at h
  . rename_i hk;rw[if_pos hk]at g;rw[I0]at h g;rcases aF.mp h with h | h <;>rcases aF.mp g with g | g
    . exact Eo r (n+1) x y c h g
    . cases av.mp g;have:=J2 r (n+1) x _ h;omega
    . cases av.mp h;have:=J2 r (n+1) y _ g;omega
    . cases av.mp h;cases av.mp g;rfl
  . rename_i hk;rw[if_neg hk]at g;exact Eo r n x y c h g
def Bz{M:Model}{A:Around}{E:Value->Shared->Prop}{s:Shared}{scope:Scope}{globals:Addr}{closure:List (Str × Addr)}{qual:Str}{env:Env}{Q:Env->Shared->Prop}
    (hQ:∀h':Heap,h'.Ns s.heap.objs.size (λ_=>none)->(∀b o,s.heap.get? b=some o->h'.get? b=some o)->CellsOk h' (s.heap.objs.size+1) (cellsFrom (s.heap.objs.size+1) scope.names [])->
     Q (newEnv scope s.heap.objs.size globals (cellsFrom (s.heap.objs.size+1) scope.names closure) qual none .none (some env) builtinsNs) { s with heap:=h',toks:=s.toks+([]:List (Str × Value)).length }) :
    wpAny M A (newFunctionEnv scope globals closure [] qual none .none (some env)) Q E s:=by
 simp only[newFunctionEnv,Option.isSome_some,if_true];refine wpAny_bind (wpAny_alloc ?_);refine wpAny_bind (wpAny_layCells _ (λname kind cells=>by cases hkc:kind == NameKind.cell <;>simp[hkc]) _ _ _ _ ?_);have ok:=cellsFrom_ok scope.names (s.heap.push { cls:=.type "dict",data:=.dict #[] }) (s.heap.objs.size+1) [] ⟨λ_ _ hm=>(nomatch hm),List.Pairwise.nil⟩ (by rw[aX];exact ae _);rw[aX]at ok;rw[show({ s with heap:=s.heap.push { cls:=.type "dict",data:=.dict #[] } }:Shared).heap.objs.size=s.heap.objs.size+1 from aX ..];rw[List.forIn_nil];refine wpAny_bind (wpAny_pure (wpAny_pure ?_));exact hQ _ ((Heap.Ns.new s.heap (.type "dict")).keeps (pushCells_keeps _ _)) (λb o e=>pushCells_keeps _ _ b o (ak _ e)) ok
def F3(X:Cx)(scope:Scope)(xs:List Str)(C:Addr)(s:Shared)(H:Hp)(fp:List Addr)(pn:List (Addr × Obj)):Cx:=
 { X with env:=compEnvC scope (Ep X.env scope C) C X.env,N:=X.N++xs,s₀:=s,H₀:=H,outer:=X.stack,ex:=fp,fn:=λy=>scope.names.lookup y == some .cell,pn:=pn,xe:=λ_ _=>False }
structure w9(N:List Str)(S T:Scope):Prop where
 kind:T.kind=.function
 cell:∀y∈N,T.names.lookup y≠some .cell
 names:∀y∈T.names,y.2=.local->T.names.lookup y.1=some .local
 uniq:∀y∈T.names,T.names.lookup y.1=some y.2
 free:∀y∈T.names,y.2=.free->S.names.lookup y.1=some .cell\/S.names.lookup y.1=some .free
 vis:∀y∈N,T.names.lookup y≠some .local
def rlS(S T:Scope):Scope:={ T with names:=T.names.map λ(n,k)=>if(k == .free && S.kind == .function && S.names.lookup n == some .cell)then(n,.cell)else(n,k) }
def rl(env:Env)(z:Str × NameKind):Str × NameKind:=match z with | (n,k)=>if(k == NameKind.free && env.scope.kind == .function && env.kindOf n == some .cell)then(n,NameKind.cell)else(n,k)
def US(env:Env)(n:Str)(k:NameKind):(rl env (n,k)).1=n:=by unfold rl;dsimp only;split <;>rfl
def UR(env:Env)(n:Str)(k:NameKind):(rl env (n,k)).2=k\/(k=.free/\(rl env (n,k)).2=.cell):=by
 unfold rl;dsimp only;split
 . rename_i h;simp only[Bool.and_eq_true]at h;exact .inr ⟨by simpa using h.1.1,rfl⟩
 . exact .inl rfl
theorem BO:∀{names:List (Str × NameKind)} {y:Str} {k:NameKind},(names.map (rl env)).lookup y=some k->names.lookup y=some k\/(names.lookup y=some .free/\k=.cell)
 | [],_,_,h=>by cases h
 | (n,j)::r,y,k,h=>by
  have ih:=@BO env r y k;rw[aP,show rl env (n,j)=((rl env (n,j)).1,(rl env (n,j)).2)from rfl,US,bU]at h;rw[bU];cases hy:(y == n)with
  | true=>
   rw[hy]at h;have h:(rl env (n,j)).2=k:=Option.some.inj h;rcases UR env n j with z | ⟨z1,z2⟩
   . exact .inl (by rw[<- h,z])
   . exact .inr ⟨by rw[z1],by rw[<- h,z2]⟩
  | false=>
   rw[hy]at h;exact ih h
def Di(h:(relabel scope env).names.lookup y=some .cell\/(relabel scope env).names.lookup y=some .free):scope.names.lookup y=some .free\/scope.names.lookup y=some .cell:=by
 have e:(relabel scope env).names=scope.names.map (rl env):=rfl;rw[e]at h;rcases h with h | h
 . rcases BO h with z | ⟨z,_⟩
   . exact .inr z
   . exact .inl z
 . rcases BO h with z | ⟨z,_⟩
   . exact .inl z
   . exact .inl z
def GK(h:(relabel scope env).names.lookup y=some .local):scope.names.lookup y=some .local:=by
 have e:(relabel scope env).names=scope.names.map (rl env):=rfl;rw[e]at h;rcases BO h with z | ⟨_,z⟩
 . exact z
 . cases z
def Un.but(u:Un fs ex H H' h h1)(hb:∀b o,b≠C->h1.get? b=some o->h2.get? b=some o)(hC:h.objs.size<=C):Un fs ex H H' h h2:=by
 have ne:∀b o,h.get? b=some o->b≠C:=λb o e=>az (aC (ao e) hC);refine⟨λb o e n hf hx=>hb b o (ne b o e) (u.keep b o e n hf hx),λb o e n hf hx=>?_,u.free,λb o e hx=>?_,u.tups,u.frzs,u.tbls⟩
 . obtain⟨sl,q⟩:=u.slot b o e n hf hx;exact⟨sl,hb b _ (ne b o e) q⟩
 . obtain⟨o',q⟩:=u.there b o e hx;exact⟨o',hb b _ (ne b o e) q⟩
def Ac.but(x:Ac P w H h1)(hb:∀b o,b≠C->h1.get? b=some o->h2.get? b=some o)(n:H C=none):Ac P w H h2:=λb u e=>
 (x b u e).stay (λc v hc q=>hb c v (by
  rcases hc with rfl | hc
  . exact l7 e n
  . exact l7 hc n) q) (λ_ q=>q) λ_ _ q=>q
section
variable{X:Cx}{pins:List (Addr × Obj)}{σ:St}{H:Hp}{s:Shared}{scope:Scope}{xs:List Str}{fp:List Addr}{C:Addr}
def Ao(I:r9 X pins σ H s)(ok:w9 X.N X.env.scope scope):∀n,(n,NameKind.free)∈scope.names->∃c,X.env.cells.lookup n=some c:=λn hn=>I.ok.has n (ok.free _ hn rfl)
def Ap(I:r9 X pins σ H s)(ok:w9 X.N X.env.scope scope)(e:(Ep X.env scope C).lookup y=some c):(y,c)∈cellsFrom (C+1) scope.names []\/X.env.cells.lookup y=some c:=by
 rcases OH e with z | z
 . exact .inl z
 . rcases Je (Ao I ok) z with z | z
   . cases z
   . exact .inr z
def KS(I:r9 X pins σ H s)(e:X.env.cells.lookup y=some c):c < s.heap.objs.size:=let⟨_,h⟩:=I.cell y c e;h.lt
def Ff(I:r9 X pins σ H s)(ok:w9 X.N X.env.scope scope)(hf:∀b∈fp,U8 X pins H b)(hx:∀b∈fp,b < s.heap.objs.size)(hC:s.heap.objs.size<=C) :
    (F3 X scope xs C s H fp (X.pn++pins)).Ok where
 mod:=I.mod
 kind:=ok.kind
 glob:=I.ok.glob
 blt:=I.ok.blt
 above:=hC
 inj:=λx y c h1 h2=>by
  rcases Ap I ok h1 with z1 | z1 <;>rcases Ap I ok h2 with z2 | z2
  . exact Eo _ _ x y c z1 z2
  . exact absurd (aC (KS I z2) (ah hC (bJ (J2 _ _ _ _ z1)))) (aI _)
  . exact absurd (aC (KS I z1) (ah hC (bJ (J2 _ _ _ _ z2)))) (aI _)
  . exact I.ok.inj x y c z1 z2
 has:=λy hy=>by
  show ∃c,(Ep X.env scope C).lookup y=some c;rw[show Ep X.env scope C=_ from I0 _ _ _,W0];rcases Di hy with z | z
  . obtain⟨c,hc⟩:=DG (cells:=X.env.cells) (cs:=[]) (.inr (aY z));split
    . rename_i c' _;exact⟨c',rfl⟩
    . exact⟨c,hc⟩
  . obtain⟨c,hc⟩:=BR scope.names (C+1) y (aY z);obtain⟨c',hc'⟩:=CG hc;rw[hc'];exact⟨c',rfl⟩
 cab:=λx c h e=>ah hC (bJ (J2 _ _ _ _ (Wk (by have h:(scope.names.lookup x == some NameKind.cell)=true:=h;simpa using h) e)))
 hd:=I.ok.hd
 frames:=I.ok.frames
 stk:=.inl rfl
 exf:=λb hb=>⟨az (aC (hx b hb) hC),λx c e=>by
  rcases Ap I ok e with z | z
  . exact bF (aC (hx b hb) (ah hC (bJ (J2 _ _ _ _ z))))
  . exact(hf b hb).2.2.2.2.1 x c z⟩
 bs:=I.bs
 bsz:=ah I.ok.bsz I.sz
 noex:=λb o e hb=>by
  rcases(hf b hb).2.2.2.1 with z | z
  . exact I.ok.noex b o e z
  . exact absurd (aC (ao e) (ah I.ok.bsz z)) (aI _)
 exfs:=λb hb z=>by
  rcases ar.mp (I.stkSub b z)with q | q
  . exact(hf b hb).2.1 q
  . exact(hf b hb).2.2.1 q
 funs:=I.stack
 frf:=I.stkFree
def CM(I:r9 X pins σ H s)(ok:w9 X.N X.env.scope scope)(hf:∀b∈fp,U8 X pins H b)(hx:∀b∈fp,b < s.heap.objs.size)(hC:s.heap.objs.size<=C){h':Heap}{t':Nat}{m:Str->Option Value}
    (hn:h'.Ns C m) (hk:∀b o,s.heap.get? b=some o->h'.get? b=some o) (hcs:CellsOk h' (C+1) (cellsFrom (C+1) scope.names [])) :
    r9 (F3 X scope xs C s H fp (X.pn++pins)) [] (σ++List.replicate xs.length none) H { s with heap:=h',toks:=t' }where
 ok:=Ff I ok hf hx hC
 os:=rfl
 bare:=I.bare
 base:=Un.kept hk
 loc:=by
  refine⟨m,hn,λi x v e1 e2 e3=>?_⟩;have e1:(X.N++xs)[i]? = some x:=e1;have hi:i < σ.length:=by
   by_cases hi:i < σ.length
   . exact hi
   . rw[aK oM,cH]at e2;split at e2 <;>cases e2
  rw[aH hi]at e2;rw[aH (by rw[<- I.len];exact hi)]at e1;have hxN:x∈X.N:=aZ e1;have e4:(relabel scope X.env).names.lookup x=some .cell\/(relabel scope X.env).names.lookup x=some .free:=by
   rcases e3 with z | z
   . exact absurd (GK z) (ok.vis x hxN)
   . exact z
  have e5:scope.names.lookup x=some .free:=by
   rcases Di e4 with z | z
   . exact z
   . exact absurd z (ok.cell x hxN)
  have e6:=ok.free _ (aY e5) rfl;obtain⟨m0,_,hl⟩:=I.loc;obtain⟨u,ru,lu⟩:=hl i x v e1 e2 (.inr e6);refine⟨u,ru,.inr ⟨e4,?_⟩⟩;rcases lu with ⟨q,_⟩ | ⟨_,c,hc,o,ho,hd⟩
  . have q:X.env.scope.names.lookup x=some .local:=q;rcases e6 with z | z <;>(rw[q]at z;cases z)
  . obtain⟨c',hc'⟩:=DG (cells:=X.env.cells) (cs:=[]) (.inr (aY e5));have no:(cellsFrom (C+1) scope.names []).lookup x=none:=by
     cases e:(cellsFrom (C+1) scope.names []).lookup x with
     | none=>rfl
     | some d=>
      have:=ok.uniq _ (Gi _ _ _ _ (aY e));rw[e5]at this;cases this
    have hb:(Ep X.env scope C).lookup x=some c':=by
     rw[show Ep X.env scope C=_ from I0 _ _ _,W0,no];exact hc'
    rcases Je (Ao I ok) hc' with z | z
    . cases z
    . rw[hc]at z;cases z;exact⟨c,hb,o,hk _ _ ho,hd⟩
 cell:=λx c e=>by
  rcases Ap I ok e with z | z
  . exact⟨none,(hcs.empty x c z).1⟩
  . obtain⟨v,o,ho,hd⟩:=I.cell x c z;exact⟨v,o,hk _ _ ho,hd⟩
 free:=I.hok.fresh hC
 freeC:=λx c e=>by
  rcases Ap I ok e with z | z
  . exact I.hok.fresh (by have:=J2 _ _ _ _ z;omega)
  . exact I.freeC x c z
 pin:=λp hp=>by
  rw[bb]at hp;obtain⟨e,n,ne,nf,d⟩:=I.pin p hp;refine⟨hk _ _ e,n,az (aC (ao e) hC),λz=>?_,d⟩;rcases ar.mp (I.stkSub p.1 z)with q | q
  . exact ne q
  . exact nf q
 hok:=I.hok.kept hk
 len:=by
  show(σ++List.replicate xs.length none).length=(X.N++xs).length;rw[aq,aq,bL,I.len]
end
abbrev Ui(J:It)(k:Nat)(g:TG)(te:TE)(σ:St)(Q:VK)(H1:Hp):Prop:=∃W:Nat->Nat->List V->Hp->Prop,(∃m,W 0 m [] H1)/\∀i m ys H,W i m ys H->
 (J.stop i H/\ys.length<=sizeLine/\∀p,H p=none->Q (.ref p) (upd H p (.lst ys)))\/
 (J.go i H/\ys.length < sizeLine/\∀x H',J.yld i H x H'->g x (σ++List.replicate k none) H' λσ2 H2=>(∃zs,σ2=σ++zs/\zs.length=k)/\te σ2 H2 λv H3=>∃m',m' < m/\W (i+1) m' (ys++[v]) H3)
def Tu(k:Nat)(wi:TI)(g:TG)(te:TE):TE:=λσ H Q=>wi σ H λJ H1=>Ui J k g te σ Q H1
def z5{X:Cx}{elt target iter:Expr}{scope:Scope}{pos:Pos}{wi:TI}{g:TG}{te:TE}{xs:List Str}(hc:X.calm=true)(ok:w9 X.N X.env.scope scope)(hi:PI X target iter wi)
    (hg:∀C s H fp pn,PG (F3 X scope xs C s H fp pn) target g) (he:∀C s H fp pn,PE (F3 X scope xs C s H fp pn) elt te)
    (hs:∀x,foldedSetIterable iter X.env x=pure x:=by intro _;rfl):PE X (.ListComp elt [⟨target,iter,[],0⟩] scope pos) (Tu xs.length wi g te):=by
 intro pins s σ H Q I h;rw[eval_ListComp];refine wpAny_comprehension_free (use:=none) rfl hs (Y7 (Ao I ok)) ok.kind ok.names (E3 (hi pins s σ H _ I h) λv s1 h1=>E3 h1 λitv s2 h2=>?_);obtain⟨it,fp,tn,J,H2,rfl,I2,T,st2,f2,W,⟨m0,w0⟩,turn⟩:=h2;refine wpAny_newObj_type (Bz λh₁ hns₁ hsb₁ hcl₁=>?_);dsimp only at hns₁ hsb₁ hcl₁ ⊢;generalize hD:s2.heap.objs.size=D;generalize hH3:s2.heap.push { cls:=.type "list",dict:=none,data:=.seq ([]:List Value).toArray }=h3 at hns₁ hsb₁ hcl₁ ⊢;have k23:∀b o,s2.heap.get? b=some o->h3.get? b=some o:=λb o e=>hH3▸ak _ e;have hC:h3.objs.size=D+1:=by rw[<- hH3,aX,hD]
 have eD3:h3.get? D=some { cls:=.type "list",dict:=none,data:=.seq ([]:List Value).toArray }:=by
  rw[<- hH3,<- hD];exact aA _ rfl
 have I3:r9 X pins σ H2 { s2 with heap:=h3 }:=I2.kept (t':=s2.toks) k23;have fD:U8 X pins H2 D:=I2.fpOk oM (I2.hok.fresh oM);have lt2:∀b∈fp,b < D:=λb hb=>by
  obtain⟨o,e,_⟩:=T.obj 0 _ st2 b hb;rw[<- hD];exact ao e
 have f3:∀b∈D::fp,U8 X pins H2 b:=λb hb=>by
  rcases ar.mp hb with rfl | hb
  . exact fD
  . exact f2 b hb
 have hx3:∀b∈D::fp,b < ({ s2 with heap:=h3 }:Shared).heap.objs.size:=λb hb=>by
  show b < h3.objs.size;rcases ar.mp hb with rfl | hb
  . rw[hC];exact bR _
  . rw[hC];exact dg (lt2 b hb)
 have k31:∀b o,h3.get? b=some o->h₁.get? b=some o:=hsb₁;have okX:=Ff (C:=h3.objs.size) (xs:=xs) I3 ok f3 hx3 (ae _);have I4:=CM (C:=h3.objs.size) (xs:=xs) (t':=s2.toks+([]:List (Str × Value)).length) I3 ok f3 hx3 (ae _) hns₁ k31 hcl₁;have mD:D∈D::fp:=aw;have neC:∀b∈D::fp,b≠h3.objs.size:=λb hb=>(okX.exf b hb).1;have stat:∀{H':Hp} {pl:List (Addr × Obj)},(∀b∈fp,H' b=none)->(∀p∈pl,p.1=D)->∀b∈fp,U8 (F3 X scope xs h3.objs.size { s2 with heap:=h3 } H2 (D::fp) (X.pn++pins)) pl H' b:=λhn hpl b hb=>by
  have hb':b∈D::fp:=aD _ hb;refine⟨hn b hb,neC b hb',okX.exfs b hb',.inl hb',(okX.exf b hb').2,λp hp=>?_⟩;rcases aF.mp hp with hp | hp
  . exact(f2 b hb).2.2.2.2.2 p hp
  . rw[hpl p hp];exact bF (lt2 b hb)
 have loop:codeAny (model X.prog X.w) X.A (.compLoop (.ListComp elt [⟨target,iter,[],0⟩] scope pos) 0 (.ref it) (.ref D) (compEnvC scope (Ep X.env scope h3.objs.size) h3.objs.size X.env))
     (compPost (model X.prog X.w) X.A X.xe none (EP X pins σ Q) (.ref D) h3.objs.size) { s2 with heap:=h₁,toks:=s2.toks+([]:List (Str × Value)).length }:=by
  refine DE (λn s'=>∃i ys its k H',r9 (F3 X scope xs h3.objs.size { s2 with heap:=h3 } H2 (D::fp) (X.pn++pins)) [] (σ++List.replicate xs.length none) H' s'/\
   s'.heap.get? D=some { cls:=.type "list",data:=.seq (its:List Value).toArray k }/\z8 ys its/\H' D=none/\tn i s'.heap/\(∀b∈fp,H' b=none)/\W i n ys H') ?_ m0
   ⟨0,[],[],_,H2,I4,k31 _ _ eD3,.nil,fD.1,T.keep _ _ _ st2 (λb _ o e=>k31 b o (k23 b o e)),λb hb=>(f2 b hb).1,w0⟩
  rintro n s' ⟨i,ys,its,k,H',I',eD,rv,nD,st,fr,w⟩;have Ip:=I'.pins_of (pins':=[(D,{ cls:=.type "list",data:=.seq its.toArray k })]) λp hp=>by
   rw[av]at hp;subst hp;exact⟨eD,nD,neC D mD,okX.exfs D mD,λv z=>by cases z⟩
  have one:∀p∈[(D,({ cls:=.type "list",data:=.seq its.toArray k }:Obj))],p.1=D:=λp hp=>by rw[av]at hp;rw[hp]
  rcases turn i n ys H' w with ⟨stop,hz,q⟩ | ⟨go,hz,step⟩
  . refine E3 (T.done (F3 X scope xs h3.objs.size { s2 with heap:=h3 } H2 (D::fp) (X.pn++pins)) rfl rfl rfl hc i _ s' _ H' (λ_ _=>False) Ip (stat fr one) st stop) λr s4 ⟨hr,J4⟩=>?_;subst hr;obtain⟨mm,hnm,_⟩:=J4.loc;refine⟨mm,hnm,λh' sb=>?_⟩;obtain⟨eD4,nD4,_⟩:=J4.pin (D,{ cls:=.type "list",data:=.seq its.toArray k }) (ax _ aw);have hb:∀b o,b≠h3.objs.size->s4.heap.get? b=some o->h'.get? b=some o:=λb o hn e=>sb.extBut b o hn e;have u0:Un (FY X.stack) (D::fp) H2 H' h3 s4.heap:=J4.base;have u:Un (FY X.stack) (D::fp) H2 H' s2.heap h':=((Un.kept k23).trans u0).but hb oM;have os4:s4.os=s2.os:=J4.os;refine⟨.ref D,upd H' D (.lst ys),I2.call' (s':={ s4 with heap:=h' }) (ch:=D::fp) os4 (u.track oM nD4) ((J4.hok.but hb J4.free).track nD4 ⟨hz,its,k,rv,hb D _ (neC D mD) eD4⟩) J4.bare (λb hb=>?_),rfl,q D nD4⟩;have z:=f3 b hb;exact⟨z.2.2.2.1,z.2.1,z.2.2.2.2.1,z.2.2.2.2.2⟩
  . refine E3 (T.item (F3 X scope xs h3.objs.size { s2 with heap:=h3 } H2 (D::fp) (X.pn++pins)) rfl rfl rfl hc i _ s' _ H' (λ_ _=>False) Ip (stat fr one) st go) λr s4 ⟨u,hr,h4⟩=>?_;subst hr;refine E3 h4 λ_ s5 ⟨x,H5,I5,r5,y5,st5,fr5⟩=>?_;have I5':=I5.pinned (stat fr5 one) (T.obj _ _ st5);refine E3 (hg _ _ _ _ _ _ s5 _ H5 x u _ I5' r5 (step x H5 y5)) λ_ s6 ⟨σ6,H6,I6,⟨zs,hz6,hl6⟩,q6⟩=>?_;refine E3 (he _ _ _ _ _ _ s6 σ6 H6 _ I6 q6) λxv s7 ⟨v,H7,I7,r7,m',hm',w7⟩=>?_;obtain⟨eD7,nD7,_⟩:=I7.pin (D,{ cls:=.type "list",data:=.seq its.toArray k }) (ax _ (aW _ aw));have len:=rv.length;refine call_meets F.slot_list_append ⟨_,eD7,rfl⟩ F.entry_list_append (F.args_list_append_2 _ _) (cY D its.toArray k xv (by rw[au];omega)) ⟨eD7,?_⟩;have q:=PySem.IsL.update eD7 (λa=>a.push xv);have other:∀b o,b≠D->s7.heap.get? b=some o->(s7.heap.update D (Obj.mapSeq λa=>a.push xv)).get? b=some o:=λb o hb e=>(cI s7.heap _ (Ne.symm hb)).trans e;have pinF:∀b∈fp,∀o,s5.heap.get? b=some o->s7.heap.get? b=some o/\H7 b=none:=λb hb o e=>
     ⟨(I7.pin (b,o) (ax _ (ax _ (M0 hb e)))).1,(I7.pin (b,o) (ax _ (ax _ (M0 hb e)))).2.1⟩
    have I7':=I7.pins_of (pins':=[]) λp hp=>by cases hp
    have I8:=I7'.turned (t':=s7.toks) (it:=D) other nD7 (neC D mD) (.inl mD) (okX.exf D mD).2 (λp hp=>by
     rw[bb]at hp;exact fD.2.2.2.2.2 p hp)
    have I9:=I8.weak (σ':=σ++List.replicate xs.length none) (by rw[hz6,aq,aq,bL,hl6]) (λj v' e=>by
     have hj:j < σ.length:=by
      by_cases hj:j < σ.length
      . exact hj
      . rw[aK oM,cH]at e;split at e <;>cases e
     rw[aH hj]at e;rw[hz6,aH hj];exact e)
    have e9:its.toArray.push xv=(its++[xv]).toArray:=by simp
    rw[e9]at q;refine⟨m',hm',i+1,ys++[v],its++[xv],_,H7,I9,q,rv.append (.cons r7 .nil),nD7,T.keep _ _ _ st5 (λb hb o e=>other b o (az (lt2 b hb)) (pinF b hb o e).1),λb hb=>?_,w7⟩;obtain⟨o,e,_⟩:=T.obj _ _ st5 b hb;exact(pinF b hb o e).2
 exact codeAny_compStart_list loop (T.self _ 0 _ _ _ (T.keep _ _ _ st2 λb _ o e=>k31 b o (k23 b o e)) loop)
abbrev Cx.rn(X:Cx)(i:Nat)(y:Str):Cx:={ X with N:=X.N.set i y }
section
variable{X:Cx}{pins:List (Addr × Obj)}{σ:St}{H:Hp}{s:Shared}{i:Nat}{y:Str}
theorem r9.rn(I:r9 X pins σ H s)(h:σ[i]? = some none):r9 (X.rn i y) pins σ H s:=
 ⟨⟨I.ok.mod,I.ok.kind,I.ok.glob,I.ok.blt,I.ok.above,I.ok.inj,I.ok.has,I.ok.cab,I.ok.hd,I.ok.frames,I.ok.stk,I.ok.exf,I.ok.bs,I.ok.bsz,I.ok.noex,I.ok.exfs,I.ok.funs,I.ok.frf⟩,I.os,I.bare,I.base,
  let⟨m,hn,hl⟩:=I.loc;⟨m,hn,λj x v e1 e2 e3=>by
   by_cases z:i=j
   . subst z;rw[h]at e2;cases e2
   . exact hl j x v (by rw[<- e1];exact(bE z).symm) e2 e3⟩,I.cell,I.free,I.freeC,I.pin,I.hok,by rw[I.len];exact bC.symm⟩
def r9.unrn(ok:X.Ok)(I:r9 (X.rn i y) pins σ H s)(h:σ[i]? = some none):r9 X pins σ H s:=
 ⟨ok,I.os,I.bare,I.base,let⟨m,hn,hl⟩:=I.loc;⟨m,hn,λj x v e1 e2 e3=>by
     by_cases z:i=j
     . subst z;rw[h]at e2;cases e2
     . exact hl j x v (by rw[<- e1];exact bE z) e2 e3⟩,I.cell,I.free,I.freeC,I.pin,I.hok,by rw[I.len];exact bC⟩
def Im(i:Nat)(y:Str)(h:PE (X.rn i y) e t):PE X e (λσ H Q=>σ[i]? = some none/\t σ H Q):=by
 intro pins s σ H Q I ⟨hi,q⟩;exact E3 (h pins s σ H Q (I.rn hi) q) λv s1 ⟨x,H1,I1,r,q1⟩=>⟨x,H1,I1.unrn I.ok hi,r,q1⟩
end
def KU{prog:Program}{w:World}{A:Around}{R:Result->Shared->Prop}{s:Shared}{elt target iter c:Expr}{scope:Scope}{pos:Pos}{it acc:Value}{env:Env}(I:Nat->Shared->Prop)
    (turn:∀n s,I n s->wpAny (model prog w) A (pyNext it) (λr s₁=>match r with
     | none=>R (.ok .next) s₁
     | some v=>wpAny (model prog w) A (letOwnedTupleGo target it v) (λ_ s₁'=>wpAny (model prog w) A (assign target env v) (λ_ s₂=>wpAny (model prog w) A (isTrue c env (eval c env)) (λok s₂'=>
         if ok=true then wpAny (model prog w) A (eval elt env) (λx s₃=>wpAny (model prog w) A (call (.builtin "list.append") [acc,x]) (λ_ s₄=>∃m,m < n/\I m s₄) (λ_ _=>False) s₃) (λ_ _=>False) s₂'
         else ∃m,m < n/\I m s₂') (λ_ _=>False) s₂) (λ_ _=>False) s₁') (λ_ _=>False) s₁) (λ_ _=>False) s)
    (n:Nat) (h:I n s) :
    codeAny (model prog w) A (.compLoop (.ListComp elt [⟨target,iter,[c],0⟩] scope pos) 0 it acc env) R s:=by
 refine codeAny_loop rfl I (λn s hI=>?_) n h;show wpAny _ _ ((compTurn (.ListComp elt [⟨target,iter,[c],0⟩] scope pos) 0 it acc env).onRaise (λx=>do noteFrame x env;theTreesLotGoes x)) _ _ s;refine wpAny_noted ?_;rw[compTurn_list];refine wpAny_bind (wpAny_standAt (wpAny_bind (wpAny_mono (turn n s hI) (λr s₁ h₁=>?_) λ_ _ h'=>h'.elim)));cases r with
 | none=>exact wpAny_pure h₁
 | some v=>
  refine wpAny_bind (wpAny_mono h₁ (λ_ s1' h1'=>wpAny_bind (wpAny_mono h1' (λ_ s₂ h₂=>wpAny_bind (wpAny_tests_one (wpAny_mono h₂ (λok s₃ h₃=>?_) λ_ _ h'=>h'.elim))) λ_ _ h'=>h'.elim)) λ_ _ h'=>h'.elim);cases ok with
  | false=>exact wpAny_pure ⟨rfl,h₃⟩
  | true=>
   exact wpAny_bind (wpAny_bind (wpAny_mono h₃ (λx s₄ h₄=>wpAny_bind (wpAny_mono h₄ (λ_ s₅ h₅=>wpAny_pure (wpAny_pure ⟨rfl,h₅⟩)) λ_ _ h'=>h'.elim)) λ_ _ h'=>h'.elim))
abbrev Ri(J:It)(k:Nat)(g:TG)(tc:TT)(te:TE)(σ:St)(Q:VK)(H1:Hp):Prop:=∃W:Nat->Nat->List V->Hp->Prop,(∃m,W 0 m [] H1)/\∀i m ys H,W i m ys H->
 (J.stop i H/\ys.length<=sizeLine/\∀p,H p=none->Q (.ref p) (upd H p (.lst ys)))\/
 (J.go i H/\ys.length < sizeLine/\∀x H',J.yld i H x H'->g x (σ++List.replicate k none) H' λσ2 H2=>(∃zs,σ2=σ++zs/\zs.length=k)/\tc σ2 H2 λb H3=>if b=true then te σ2 H3 λv H4=>∃m',m' < m/\W (i+1) m' (ys++[v]) H4 else ∃m',m' < m/\W (i+1) m' ys H3)
def Rx(k:Nat)(wi:TI)(g:TG)(tc:TT)(te:TE):TE:=λσ H Q=>wi σ H λJ H1=>Ri J k g tc te σ Q H1
def Oh{X:Cx}{elt target iter c:Expr}{scope:Scope}{pos:Pos}{wi:TI}{g:TG}{tc:TT}{te:TE}{xs:List Str}(hc:X.calm=true)(ok:w9 X.N X.env.scope scope)(hi:PI X target iter wi)
    (hg:∀C s H fp pn,PG (F3 X scope xs C s H fp pn) target g) (ht:∀C s H fp pn,PT (F3 X scope xs C s H fp pn) c tc) (he:∀C s H fp pn,PE (F3 X scope xs C s H fp pn) elt te)
    (hs:∀x,foldedSetIterable iter X.env x=pure x:=by intro _;rfl):PE X (.ListComp elt [⟨target,iter,[c],0⟩] scope pos) (Rx xs.length wi g tc te):=by
 intro pins s σ H Q I h;rw[eval_ListComp];refine wpAny_comprehension_free (use:=none) rfl hs (Y7 (Ao I ok)) ok.kind ok.names (E3 (hi pins s σ H _ I h) λv s1 h1=>E3 h1 λitv s2 h2=>?_);obtain⟨it,fp,tn,J,H2,rfl,I2,T,st2,f2,W,⟨m0,w0⟩,turn⟩:=h2;refine wpAny_newObj_type (Bz λh₁ hns₁ hsb₁ hcl₁=>?_);dsimp only at hns₁ hsb₁ hcl₁ ⊢;generalize hD:s2.heap.objs.size=D;generalize hH3:s2.heap.push { cls:=.type "list",dict:=none,data:=.seq ([]:List Value).toArray }=h3 at hns₁ hsb₁ hcl₁ ⊢;have k23:∀b o,s2.heap.get? b=some o->h3.get? b=some o:=λb o e=>hH3▸ak _ e;have hC:h3.objs.size=D+1:=by rw[<- hH3,aX,hD]
 have eD3:h3.get? D=some { cls:=.type "list",dict:=none,data:=.seq ([]:List Value).toArray }:=by
  rw[<- hH3,<- hD];exact aA _ rfl
 have I3:r9 X pins σ H2 { s2 with heap:=h3 }:=I2.kept (t':=s2.toks) k23;have fD:U8 X pins H2 D:=I2.fpOk oM (I2.hok.fresh oM);have lt2:∀b∈fp,b < D:=λb hb=>by
  obtain⟨o,e,_⟩:=T.obj 0 _ st2 b hb;rw[<- hD];exact ao e
 have f3:∀b∈D::fp,U8 X pins H2 b:=λb hb=>by
  rcases ar.mp hb with rfl | hb
  . exact fD
  . exact f2 b hb
 have hx3:∀b∈D::fp,b < ({ s2 with heap:=h3 }:Shared).heap.objs.size:=λb hb=>by
  show b < h3.objs.size;rcases ar.mp hb with rfl | hb
  . rw[hC];exact bR _
  . rw[hC];exact dg (lt2 b hb)
 have k31:∀b o,h3.get? b=some o->h₁.get? b=some o:=hsb₁;have okX:=Ff (C:=h3.objs.size) (xs:=xs) I3 ok f3 hx3 (ae _);have I4:=CM (C:=h3.objs.size) (xs:=xs) (t':=s2.toks+([]:List (Str × Value)).length) I3 ok f3 hx3 (ae _) hns₁ k31 hcl₁;have mD:D∈D::fp:=aw;have neC:∀b∈D::fp,b≠h3.objs.size:=λb hb=>(okX.exf b hb).1;have stat:∀{H':Hp} {pl:List (Addr × Obj)},(∀b∈fp,H' b=none)->(∀p∈pl,p.1=D)->∀b∈fp,U8 (F3 X scope xs h3.objs.size { s2 with heap:=h3 } H2 (D::fp) (X.pn++pins)) pl H' b:=λhn hpl b hb=>by
  have hb':b∈D::fp:=aD _ hb;refine⟨hn b hb,neC b hb',okX.exfs b hb',.inl hb',(okX.exf b hb').2,λp hp=>?_⟩;rcases aF.mp hp with hp | hp
  . exact(f2 b hb).2.2.2.2.2 p hp
  . rw[hpl p hp];exact bF (lt2 b hb)
 have loop:codeAny (model X.prog X.w) X.A (.compLoop (.ListComp elt [⟨target,iter,[c],0⟩] scope pos) 0 (.ref it) (.ref D) (compEnvC scope (Ep X.env scope h3.objs.size) h3.objs.size X.env))
     (compPost (model X.prog X.w) X.A X.xe none (EP X pins σ Q) (.ref D) h3.objs.size) { s2 with heap:=h₁,toks:=s2.toks+([]:List (Str × Value)).length }:=by
  refine KU (λn s'=>∃i ys its k H',r9 (F3 X scope xs h3.objs.size { s2 with heap:=h3 } H2 (D::fp) (X.pn++pins)) [] (σ++List.replicate xs.length none) H' s'/\
   s'.heap.get? D=some { cls:=.type "list",data:=.seq (its:List Value).toArray k }/\z8 ys its/\H' D=none/\tn i s'.heap/\(∀b∈fp,H' b=none)/\W i n ys H') ?_ m0
   ⟨0,[],[],_,H2,I4,k31 _ _ eD3,.nil,fD.1,T.keep _ _ _ st2 (λb _ o e=>k31 b o (k23 b o e)),λb hb=>(f2 b hb).1,w0⟩
  rintro n s' ⟨i,ys,its,k,H',I',eD,rv,nD,st,fr,w⟩;have Ip:=I'.pins_of (pins':=[(D,{ cls:=.type "list",data:=.seq its.toArray k })]) λp hp=>by
   rw[av]at hp;subst hp;exact⟨eD,nD,neC D mD,okX.exfs D mD,λv z=>by cases z⟩
  have one:∀p∈[(D,({ cls:=.type "list",data:=.seq its.toArray k }:Obj))],p.1=D:=λp hp=>by rw[av]at hp;rw[hp]
  rcases turn i n ys H' w with ⟨stop,hz,q⟩ | ⟨go,hz,step⟩
  . refine E3 (T.done (F3 X scope xs h3.objs.size { s2 with heap:=h3 } H2 (D::fp) (X.pn++pins)) rfl rfl rfl hc i _ s' _ H' (λ_ _=>False) Ip (stat fr one) st stop) λr s4 ⟨hr,J4⟩=>?_;subst hr;obtain⟨mm,hnm,_⟩:=J4.loc;refine⟨mm,hnm,λh' sb=>?_⟩;obtain⟨eD4,nD4,_⟩:=J4.pin (D,{ cls:=.type "list",data:=.seq its.toArray k }) (ax _ aw);have hb:∀b o,b≠h3.objs.size->s4.heap.get? b=some o->h'.get? b=some o:=λb o hn e=>sb.extBut b o hn e;have u0:Un (FY X.stack) (D::fp) H2 H' h3 s4.heap:=J4.base;have u:Un (FY X.stack) (D::fp) H2 H' s2.heap h':=((Un.kept k23).trans u0).but hb oM;have os4:s4.os=s2.os:=J4.os;refine⟨.ref D,upd H' D (.lst ys),I2.call' (s':={ s4 with heap:=h' }) (ch:=D::fp) os4 (u.track oM nD4) ((J4.hok.but hb J4.free).track nD4 ⟨hz,its,k,rv,hb D _ (neC D mD) eD4⟩) J4.bare (λb hb=>?_),rfl,q D nD4⟩;have z:=f3 b hb;exact⟨z.2.2.2.1,z.2.1,z.2.2.2.2.1,z.2.2.2.2.2⟩
  . refine E3 (T.item (F3 X scope xs h3.objs.size { s2 with heap:=h3 } H2 (D::fp) (X.pn++pins)) rfl rfl rfl hc i _ s' _ H' (λ_ _=>False) Ip (stat fr one) st go) λr s4 ⟨u,hr,h4⟩=>?_;subst hr;refine E3 h4 λ_ s5 ⟨x,H5,I5,r5,y5,st5,fr5⟩=>?_;have I5':=I5.pinned (stat fr5 one) (T.obj _ _ st5);refine E3 (hg _ _ _ _ _ _ s5 _ H5 x u _ I5' r5 (step x H5 y5)) λ_ s6 ⟨σ6,H6,I6,⟨zs,hz6,hl6⟩,q6⟩=>?_;have pinF:∀{s7:Shared} {σ7:St} {H7:Hp},r9 (F3 X scope xs h3.objs.size { s2 with heap:=h3 } H2 (D::fp) (X.pn++pins)) ([(D,{ cls:=.type "list",data:=.seq its.toArray k })]++Fy fp s5.heap) σ7 H7 s7->∀b∈fp,∀o,s5.heap.get? b=some o->s7.heap.get? b=some o/\H7 b=none:=λI7 b hb o e=>
     ⟨(I7.pin (b,o) (ax _ (ax _ (M0 hb e)))).1,(I7.pin (b,o) (ax _ (ax _ (M0 hb e)))).2.1⟩
    have back:∀{H7:Hp} {s7:Shared},r9 (F3 X scope xs h3.objs.size { s2 with heap:=h3 } H2 (D::fp) (X.pn++pins)) [] σ6 H7 s7->r9 (F3 X scope xs h3.objs.size { s2 with heap:=h3 } H2 (D::fp) (X.pn++pins)) [] (σ++List.replicate xs.length none) H7 s7:=λI8=>
     I8.weak (by rw[hz6,aq,aq,bL,hl6]) (λj v' e=>by
      have hj:j < σ.length:=by
       by_cases hj:j < σ.length
       . exact hj
       . rw[aK oM,cH]at e;split at e <;>cases e
      rw[aH hj]at e;rw[hz6,aH hj];exact e)
    refine E3 (ht _ _ _ _ _ _ s6 σ6 H6 _ I6 q6) λok s6' ⟨H6',I6',q6'⟩=>?_;cases ok with
    | false=>
     obtain⟨m',hm',w7⟩:=(show ∃m',m' < n/\W (i+1) m' ys H6' from q6');obtain⟨eD7,nD7,_⟩:=I6'.pin (D,{ cls:=.type "list",data:=.seq its.toArray k }) (ax _ (aW _ aw));refine⟨m',hm',i+1,ys,its,_,H6',back (I6'.pins_of (pins':=[]) λp hp=>by cases hp),eD7,rv,nD7,T.keep _ _ _ st5 (λb hb o e=>(pinF I6' b hb o e).1),λb hb=>?_,w7⟩;obtain⟨o,e,_⟩:=T.obj _ _ st5 b hb;exact(pinF I6' b hb o e).2
    | true=>
     refine E3 (he _ _ _ _ _ _ s6' σ6 H6' _ I6' q6') λxv s7 ⟨v,H7,I7,r7,m',hm',w7⟩=>?_;obtain⟨eD7,nD7,_⟩:=I7.pin (D,{ cls:=.type "list",data:=.seq its.toArray k }) (ax _ (aW _ aw));have len:=rv.length;refine call_meets F.slot_list_append ⟨_,eD7,rfl⟩ F.entry_list_append (F.args_list_append_2 _ _) (cY D its.toArray k xv (by rw[au];omega)) ⟨eD7,?_⟩;have q:=PySem.IsL.update eD7 (λa=>a.push xv);have other:∀b o,b≠D->s7.heap.get? b=some o->(s7.heap.update D (Obj.mapSeq λa=>a.push xv)).get? b=some o:=λb o hb e=>(cI s7.heap _ (Ne.symm hb)).trans e;have I7':=I7.pins_of (pins':=[]) λp hp=>by cases hp
     have I8:=I7'.turned (t':=s7.toks) (it:=D) other nD7 (neC D mD) (.inl mD) (okX.exf D mD).2 (λp hp=>by
      rw[bb]at hp;exact fD.2.2.2.2.2 p hp)
     have e9:its.toArray.push xv=(its++[xv]).toArray:=by simp
     rw[e9]at q;refine⟨m',hm',i+1,ys++[v],its++[xv],_,H7,back I8,q,rv.append (.cons r7 .nil),nD7,T.keep _ _ _ st5 (λb hb o e=>other b o (az (lt2 b hb)) (pinF I7 b hb o e).1),λb hb=>?_,w7⟩;obtain⟨o,e,_⟩:=T.obj _ _ st5 b hb;exact(pinF I7 b hb o e).2
 exact codeAny_compStart_list loop (T.self _ 0 _ _ _ (T.keep _ _ _ st2 λb _ o e=>k31 b o (k23 b o e)) loop)
def R7{X:Cx}{i₀:Nat}{x₀:Str}{pos₀ pos₁:Pos}{elt target iter:Expr}{scope:Scope}{pos:Pos}{wi:TI}{g:TG}{te:TE}{xs:List Str}(hN:X.N.Nodup)(hi₀:X.N[i₀]? = some x₀)(hx₀:e0q X.env.scope x₀)(hc:X.calm=true)(ok:w9 X.N X.env.scope scope)(hi:PI X target iter wi)
    (hg:∀C s H fp pn,PG (F3 X scope xs C s H fp pn) target g) (he:∀C s H fp pn,PE (F3 X scope xs C s H fp pn) elt te)
    (hs:∀x,foldedSetIterable iter X.env x=pure x:=by intro _;rfl) (hw:swapsWith (.ListComp elt [⟨target,iter,[],0⟩] scope pos) (some (.Name x₀ pos₀)) pos₁.line X.env=pure true:=by rfl)
    (hf₀:X.fn x₀=true\/X.env.scope.names.lookup x₀=some .local:=by first | exact .inl rfl | exact .inr rfl | assumption) :
    PS X (.Assign [.Name x₀ pos₀] (.ListComp elt [⟨target,iter,[],0⟩] scope pos) pos₁) (Lx (Tu xs.length wi g te) (E9 i₀)):=by
 intro pins s σ H D₀ I h;rw[exec_Assign_Name_used _ _ _ _ hw];refine wpAny_bind (wpAny_standAt (wpAny_bind ?_));show wpAny _ _ (comprehension _ _ _ _ _ _ _ _ >>= _) _ _ _;refine wpAny_bind (wpAny_comprehension_free (Q:=λ_ s'=>wpAny (model X.prog X.w) X.A (pure ()) (λ_ s''=>wpAny (model X.prog X.w) X.A (pure Flow.next) (SP X pins D₀) X.xe s'') X.xe s') (use:=some (assign (.Name x₀ pos₀) X.env)) rfl hs (Y7 (Ao I ok)) ok.kind ok.names (E3 (hi pins s σ H _ I h) λv s1 h1=>E3 h1 λitv s2 h2=>?_));obtain⟨it,fp,tn,J,H2,rfl,I2,T,st2,f2,W,⟨m0,w0⟩,turn⟩:=h2;refine wpAny_newObj_type (Bz λh₁ hns₁ hsb₁ hcl₁=>?_);dsimp only at hns₁ hsb₁ hcl₁ ⊢;generalize hD:s2.heap.objs.size=D;generalize hH3:s2.heap.push { cls:=.type "list",dict:=none,data:=.seq ([]:List Value).toArray }=h3 at hns₁ hsb₁ hcl₁ ⊢;have k23:∀b o,s2.heap.get? b=some o->h3.get? b=some o:=λb o e=>hH3▸ak _ e;have hC:h3.objs.size=D+1:=by rw[<- hH3,aX,hD]
 have eD3:h3.get? D=some { cls:=.type "list",dict:=none,data:=.seq ([]:List Value).toArray }:=by
  rw[<- hH3,<- hD];exact aA _ rfl
 have I3:r9 X pins σ H2 { s2 with heap:=h3 }:=I2.kept (t':=s2.toks) k23;have fD:U8 X pins H2 D:=I2.fpOk oM (I2.hok.fresh oM);have lt2:∀b∈fp,b < D:=λb hb=>by
  obtain⟨o,e,_⟩:=T.obj 0 _ st2 b hb;rw[<- hD];exact ao e
 have f3:∀b∈D::fp,U8 X pins H2 b:=λb hb=>by
  rcases ar.mp hb with rfl | hb
  . exact fD
  . exact f2 b hb
 have hx3:∀b∈D::fp,b < ({ s2 with heap:=h3 }:Shared).heap.objs.size:=λb hb=>by
  show b < h3.objs.size;rcases ar.mp hb with rfl | hb
  . rw[hC];exact bR _
  . rw[hC];exact dg (lt2 b hb)
 have k31:∀b o,h3.get? b=some o->h₁.get? b=some o:=hsb₁;have okX:=Ff (C:=h3.objs.size) (xs:=xs) I3 ok f3 hx3 (ae _);have I4:=CM (C:=h3.objs.size) (xs:=xs) (t':=s2.toks+([]:List (Str × Value)).length) I3 ok f3 hx3 (ae _) hns₁ k31 hcl₁;have mD:D∈D::fp:=aw;have neC:∀b∈D::fp,b≠h3.objs.size:=λb hb=>(okX.exf b hb).1;have stat:∀{H':Hp} {pl:List (Addr × Obj)},(∀b∈fp,H' b=none)->(∀p∈pl,p.1=D)->∀b∈fp,U8 (F3 X scope xs h3.objs.size { s2 with heap:=h3 } H2 (D::fp) (X.pn++pins)) pl H' b:=λhn hpl b hb=>by
  have hb':b∈D::fp:=aD _ hb;refine⟨hn b hb,neC b hb',okX.exfs b hb',.inl hb',(okX.exf b hb').2,λp hp=>?_⟩;rcases aF.mp hp with hp | hp
  . exact(f2 b hb).2.2.2.2.2 p hp
  . rw[hpl p hp];exact bF (lt2 b hb)
 have loop:codeAny (model X.prog X.w) X.A (.compLoop (.ListComp elt [⟨target,iter,[],0⟩] scope pos) 0 (.ref it) (.ref D) (compEnvC scope (Ep X.env scope h3.objs.size) h3.objs.size X.env))
     (compPost (model X.prog X.w) X.A X.xe (some (assign (.Name x₀ pos₀) X.env)) (λ_ s'=>wpAny (model X.prog X.w) X.A (pure ()) (λ_ s''=>wpAny (model X.prog X.w) X.A (pure Flow.next) (SP X pins D₀) X.xe s'') X.xe s') (.ref D) h3.objs.size) { s2 with heap:=h₁,toks:=s2.toks+([]:List (Str × Value)).length }:=by
  refine DE (λn s'=>∃i ys its k H',r9 (F3 X scope xs h3.objs.size { s2 with heap:=h3 } H2 (D::fp) (X.pn++pins)) [] (σ++List.replicate xs.length none) H' s'/\
   s'.heap.get? D=some { cls:=.type "list",data:=.seq (its:List Value).toArray k }/\z8 ys its/\H' D=none/\tn i s'.heap/\(∀b∈fp,H' b=none)/\W i n ys H') ?_ m0
   ⟨0,[],[],_,H2,I4,k31 _ _ eD3,.nil,fD.1,T.keep _ _ _ st2 (λb _ o e=>k31 b o (k23 b o e)),λb hb=>(f2 b hb).1,w0⟩
  rintro n s' ⟨i,ys,its,k,H',I',eD,rv,nD,st,fr,w⟩;have Ip:=I'.pins_of (pins':=[(D,{ cls:=.type "list",data:=.seq its.toArray k })]) λp hp=>by
   rw[av]at hp;subst hp;exact⟨eD,nD,neC D mD,okX.exfs D mD,λv z=>by cases z⟩
  have one:∀p∈[(D,({ cls:=.type "list",data:=.seq its.toArray k }:Obj))],p.1=D:=λp hp=>by rw[av]at hp;rw[hp]
  rcases turn i n ys H' w with ⟨stop,hz,q⟩ | ⟨go,hz,step⟩
  . refine E3 (T.done (F3 X scope xs h3.objs.size { s2 with heap:=h3 } H2 (D::fp) (X.pn++pins)) rfl rfl rfl hc i _ s' _ H' (λ_ _=>False) Ip (stat fr one) st stop) λr s4 ⟨hr,J4⟩=>?_;subst hr;obtain⟨mm,hnm,_⟩:=J4.loc;obtain⟨eD4,nD4,_⟩:=J4.pin (D,{ cls:=.type "list",data:=.seq its.toArray k }) (ax _ aw);have u0:Un (FY X.stack) (D::fp) H2 H' h3 s4.heap:=J4.base;have u:Un (FY X.stack) (D::fp) H2 H' s2.heap s4.heap:=(Un.kept k23).trans u0;have os4:s4.os=s2.os:=J4.os;have nC4:H' h3.objs.size=none:=J4.free;have IX:r9 X pins σ (upd H' D (.lst ys)) s4:=I2.call' (s':=s4) (ch:=D::fp) os4 (u.track oM nD4) (J4.hok.track nD4 ⟨hz,its,k,rv,eD4⟩) J4.bare (λb hb=>by
     have z:=f3 b hb;exact⟨z.2.2.2.1,z.2.1,z.2.2.2.2.1,z.2.2.2.2.2⟩)
    have fC:U8 X pins H2 h3.objs.size:=I2.fpOk oM (I2.hok.fresh oM);have nCX:upd H' D (.lst ys) h3.objs.size=none:=by rw[o4 (Ne.symm (neC D mD))];exact nC4
    refine wpAny_assign_Name (Hs IX hN hi₀ hx₀ (v:=.ref D) rfl (λs5 I5 ⟨a5,sb5,ha5⟩=>⟨mm,?_,λh' sb=>?_⟩) hf₀)
    . have:h3.objs.size≠a5:=by
       rcases ha5 with e | e
       . rw[e];exact fC.2.1
       . exact Ne.symm (fC.2.2.2.2.1 x₀ a5 e)
      obtain⟨o,es,ep,e,r⟩:=hnm;exact⟨o,es,ep,sb5.extBut _ _ this e,r⟩
    . have I6:r9 X pins (σ.set i₀ (some (.ref D))) (upd H' D (.lst ys)) { s5 with heap:=h' }:=I5.turned (t':=s5.toks) (it:=h3.objs.size) (λb o hb e=>sb.extBut b o hb e) nCX fC.2.1 fC.2.2.2.1 fC.2.2.2.2.1 fC.2.2.2.2.2;exact wpAny_pure (wpAny_pure ⟨_,_,I6,q D nD4⟩)
  . refine E3 (T.item (F3 X scope xs h3.objs.size { s2 with heap:=h3 } H2 (D::fp) (X.pn++pins)) rfl rfl rfl hc i _ s' _ H' (λ_ _=>False) Ip (stat fr one) st go) λr s4 ⟨u,hr,h4⟩=>?_;subst hr;refine E3 h4 λ_ s5 ⟨x,H5,I5,r5,y5,st5,fr5⟩=>?_;have I5':=I5.pinned (stat fr5 one) (T.obj _ _ st5);refine E3 (hg _ _ _ _ _ _ s5 _ H5 x u _ I5' r5 (step x H5 y5)) λ_ s6 ⟨σ6,H6,I6,⟨zs,hz6,hl6⟩,q6⟩=>?_;refine E3 (he _ _ _ _ _ _ s6 σ6 H6 _ I6 q6) λxv s7 ⟨v,H7,I7,r7,m',hm',w7⟩=>?_;obtain⟨eD7,nD7,_⟩:=I7.pin (D,{ cls:=.type "list",data:=.seq its.toArray k }) (ax _ (aW _ aw));have len:=rv.length;refine call_meets F.slot_list_append ⟨_,eD7,rfl⟩ F.entry_list_append (F.args_list_append_2 _ _) (cY D its.toArray k xv (by rw[au];omega)) ⟨eD7,?_⟩;have q:=PySem.IsL.update eD7 (λa=>a.push xv);have other:∀b o,b≠D->s7.heap.get? b=some o->(s7.heap.update D (Obj.mapSeq λa=>a.push xv)).get? b=some o:=λb o hb e=>(cI s7.heap _ (Ne.symm hb)).trans e;have pinF:∀b∈fp,∀o,s5.heap.get? b=some o->s7.heap.get? b=some o/\H7 b=none:=λb hb o e=>
     ⟨(I7.pin (b,o) (ax _ (ax _ (M0 hb e)))).1,(I7.pin (b,o) (ax _ (ax _ (M0 hb e)))).2.1⟩
    have I7':=I7.pins_of (pins':=[]) λp hp=>by cases hp
    have I8:=I7'.turned (t':=s7.toks) (it:=D) other nD7 (neC D mD) (.inl mD) (okX.exf D mD).2 (λp hp=>by
     rw[bb]at hp;exact fD.2.2.2.2.2 p hp)
    have I9:=I8.weak (σ':=σ++List.replicate xs.length none) (by rw[hz6,aq,aq,bL,hl6]) (λj v' e=>by
     have hj:j < σ.length:=by
      by_cases hj:j < σ.length
      . exact hj
      . rw[aK oM,cH]at e;split at e <;>cases e
     rw[aH hj]at e;rw[hz6,aH hj];exact e)
    have e9:its.toArray.push xv=(its++[xv]).toArray:=by simp
    rw[e9]at q;refine⟨m',hm',i+1,ys++[v],its++[xv],_,H7,I9,q,rv.append (.cons r7 .nil),nD7,T.keep _ _ _ st5 (λb hb o e=>other b o (az (lt2 b hb)) (pinF b hb o e).1),λb hb=>?_,w7⟩;obtain⟨o,e,_⟩:=T.obj _ _ st5 b hb;exact(pinF b hb o e).2
 exact codeAny_compStart_list loop (T.self _ 0 _ _ _ (T.keep _ _ _ st2 λb _ o e=>k31 b o (k23 b o e)) loop)
def PN{X:Cx}{st:Stmt}{te:TE}{i₀:Nat}(i:Nat)(y:Str)(hi:i₀≠i)(h:PS (X.rn i y) st (Lx te (E9 i₀))):PS X st (λD σ H=>σ[i]? = some none/\Lx te (E9 i₀) D σ H):=by
 intro pins s σ H D I ⟨h0,q⟩;have e:(λv H1=>(σ.set i₀ (some v))[i]? = some none/\D.nx (σ.set i₀ (some v)) H1)=λv H1=>D.nx (σ.set i₀ (some v)) H1:=by
  funext v H1;exact propext ⟨λz=>z.2,λz=>⟨by rw[bE hi];exact h0,z⟩⟩
 have q':Lx te (E9 i₀) { D with nx:=λσ' H'=>σ'[i]? = some none/\D.nx σ' H',rt:=λ_ _=>False,bk:=λ_ _=>False,ct:=λ_ _=>False } σ H:=by
  show te σ H λv H1=>(σ.set i₀ (some v))[i]? = some none/\D.nx (σ.set i₀ (some v)) H1;rw[e];exact q
 refine E3 (h pins s σ H _ (I.rn h0) q') λf s1 sp=>?_;cases f with
 | next=>
  obtain⟨σ',H',I',z,n⟩:=sp;exact⟨σ',H',I'.unrn I.ok z,n⟩
 | ret v=>obtain⟨_,_,_,_,_,z⟩:=sp;exact z.elim
 | brk=>obtain⟨_,_,_,z⟩:=sp;exact z.elim
 | cont=>obtain⟨_,_,_,z⟩:=sp;exact z.elim
section
variable{prog:Program}{w:World}{A:Around}{E:Value->Shared->Prop}{s:Shared}
def Me{I t:Addr}{i:Nat}{vs:Array Value}{x:Value}{Q:Value->Shared->Prop}(hI:s.heap.IsTupleIter I t i)(ht:s.heap.IsTuple t vs)(e:vs[i]? = some x)
    (q:∀h',h'.IsTupleIter I t (i+1)->Heap.SameBut I s.heap h'->Q x { s with heap:=h' }):wpAny (model prog w) A (Builtin.SmallTypes.nextOf (.ref I)) Q E s:=by
 obtain⟨o,eo,co,fo⟩:=id hI;obtain⟨u,eu,_,n,fu⟩:=ht;unfold Builtin.SmallTypes.nextOf;refine wpAny_bind (wpAny_callSpecial?_slot (name:=Str.ofString "__next__") hI.typeIs F.slot_tuple_iterator_next (wpAny_call_entry F.slot_tuple_iterator_next hI.typeIs F.entry_tuple_iterator_next ?_ (F.args_tuple_iterator_next_1 _)));show wpAny _ _ (field (.ref I) 0 >>= _) _ _ s;refine wpAny_bind (wpAny_field eo fo (x:=.ref t) rfl ?_);show wpAny _ _ (if(Value.ref t == Value.none)=true then _ else _) _ _ s;rw[if_neg (show ¬((Value.ref t == Value.none)=true)from aJ)];show wpAny _ _ (field (.ref I) 1 >>= _) _ _ s;refine wpAny_bind (wpAny_field eo fo (x:=.int i 0) rfl ?_);show wpAny _ _ (seqItems? (.ref t) >>= _) _ _ s;refine wpAny_bind (wpAny_seqItems eu fu ?_);simp only[Int.toNat_natCast,e];refine wpAny_bind (wpAny_setField eo fo (by simp) (wpAny_pure ⟨x,rfl,wpAny_pure (q _ ?_ (Heap.SameBut.update ..))⟩));exact⟨_,Heap.get?_update_self _ eo (Obj.isFreed_of_fields (Obj.data_mapFields fo _)),(Obj.cls_mapFields ..).trans co,by rw[Obj.data_mapFields fo];simp[rawInt]⟩
def Om{I t:Addr}{i:Nat}{vs:Array Value}{Q:Value->Shared->Prop}(hh:A.handled=none)(hI:s.heap.IsTupleIter I t i)(ht:s.heap.IsTuple t vs)(e:vs[i]? = none)
    (q:∀h' x,Heap.ExtBut I s.heap h'->(∃o,h'.get? x=some o/\o.cls=.type "StopIteration")->E (.ref x) { s with heap:=h' }):wpAny (model prog w) A (Builtin.SmallTypes.nextOf (.ref I)) Q E s:=by
 obtain⟨o,eo,co,fo⟩:=id hI;obtain⟨u,eu,_,n,fu⟩:=ht;unfold Builtin.SmallTypes.nextOf;refine wpAny_bind (wpAny_callSpecial?_slot (name:=Str.ofString "__next__") hI.typeIs F.slot_tuple_iterator_next (wpAny_call_entry F.slot_tuple_iterator_next hI.typeIs F.entry_tuple_iterator_next ?_ (F.args_tuple_iterator_next_1 _)));show wpAny _ _ (field (.ref I) 0 >>= _) _ _ s;refine wpAny_bind (wpAny_field eo fo (x:=.ref t) rfl ?_);show wpAny _ _ (if(Value.ref t == Value.none)=true then _ else _) _ _ s;rw[if_neg (show ¬((Value.ref t == Value.none)=true)from aJ)];show wpAny _ _ (field (.ref I) 1 >>= _) _ _ s;refine wpAny_bind (wpAny_field eo fo (x:=.int i 0) rfl ?_);show wpAny _ _ (seqItems? (.ref t) >>= _) _ _ s;refine wpAny_bind (wpAny_seqItems eu fu ?_);simp only[Int.toNat_natCast,e];refine wpAny_bind (wpAny_rule (wpAny_bind (wpAny_setField eo fo (by simp) ?_)));show wpAny _ _ (newExc (.type "StopIteration") [] >>= _) _ _ _;refine wpAny_bind ?_;simp only[newExc,newTuple];refine wpAny_bind (wpAny_newObj_type ?_ (by size_fits));refine wpAny_bind (m:=firstArgMember _ _) (wpAny_of_eq (a:=Value.none) (by first | rfl | (simp only[firstArgMember];rfl)) ?_);refine wpAny_newObj_type ?_ (by size_fits);simp only[raiseNew];refine wpAny_bind (wpAny_handled ?_)
 first | rw[show A.in1.handled=none from hh] | rw[hh]
 refine wpAny_bind (wpAny_pure (wpAny_throw ?_));exact q _ _ (((Heap.SameBut.update ..).extBut.push _).push _) ⟨_,aA _ rfl,rfl⟩
end
inductive Sr
 | lst (a:Addr)
 | tup (a:Addr)
 | str (x:Str)
def Sr.it:Sr->Heap->Addr->Nat->Prop
 | .lst a,h,I,i=>h.IsListIter I a i
 | .tup a,h,I,i=>h.IsTupleIter I a i
 | .str x,h,I,i=>∃t,h.IsStrIter I (strIterType x) x t i
def Sr.has:Sr->Heap->Array Value->Prop
 | .lst a,h,vs=>h.IsList a vs
 | .tup a,h,vs=>h.IsTuple a vs
 | .str x,_,vs=>vs.size=x.cps.size
def Sr.is:Sr->Array Value->Nat->Value->Prop
 | .lst _,vs,i,v=>vs[i]? = some v
 | .tup _,vs,i,v=>vs[i]? = some v
 | .str x,_,i,v=>∃c u,x.cps[i]? = some c/\v=.str ⟨#[c]⟩ u
def Sr.fp:Sr->Addr->List Addr
 | .lst a,I=>[I,a]
 | .tup a,I=>[I,a]
 | .str _,I=>[I]
def Sr.off:Sr->Addr->Prop
 | .lst a,I=>a≠I
 | .tup a,I=>a≠I
 | .str _,_=>True
def Sr.it.mv{S:Sr}{h h':Heap}{I:Addr}{i:Nat}(x:S.it h I i)(k:∀o,h.get? I=some o->h'.get? I=some o):S.it h' I i:=by
 cases S with
 | lst a=>obtain⟨o,e,r⟩:=x;exact⟨o,k o e,r⟩
 | tup a=>obtain⟨o,e,r⟩:=x;exact⟨o,k o e,r⟩
 | str z=>obtain⟨t,o,e,r⟩:=x;exact⟨t,o,k o e,r⟩
def Sr.it.obj{S:Sr}{h:Heap}{I:Addr}{i:Nat}(x:S.it h I i):∃o,h.get? I=some o/\∀v,o.data≠.cell v:=by
 cases S with
 | lst a=>obtain⟨o,e,_,d⟩:=x;exact⟨o,e,λv z=>by rw[d]at z;cases z⟩
 | tup a=>obtain⟨o,e,_,d⟩:=x;exact⟨o,e,λv z=>by rw[d]at z;cases z⟩
 | str z=>obtain⟨t,o,e,_,d⟩:=x;exact⟨o,e,λv z=>by rw[d]at z;cases z⟩
def Sr.has.mv{S:Sr}{h h':Heap}{vs:Array Value}{I:Addr}(x:S.has h vs)(k:∀b o,b≠I->h.get? b=some o->h'.get? b=some o)(off:S.off I):S.has h' vs:=by
 cases S with
 | lst a=>obtain⟨o,e,r⟩:=x;exact⟨o,k a o off e,r⟩
 | tup a=>obtain⟨o,e,r⟩:=x;exact⟨o,k a o off e,r⟩
 | str z=>exact x
def Sr.draws(S:Sr)(hh:A.handled=none)(I:Addr)(off:S.off I)(vs:Array Value) :
    Draws prog w A I (S.fp I) vs.size (S.is vs) (λi h=>S.it h I i/\S.has h vs):=by
 cases S with
 | lst a=>exact Draws.list hh I a off vs
 | tup a=>exact{
     live:=λ_ _ st=>let⟨o,e,_⟩:=st.1;⟨o,e⟩
     frame:=λ_ _ _ st k=>⟨let⟨o,e,r⟩:=st.1;⟨o,k I (by simp[Sr.fp]) o e,r⟩,let⟨o,e,r⟩:=st.2;⟨o,k a (by simp[Sr.fp]) o e,r⟩⟩
     item:=λi s Q E hi st q=>Me st.1 st.2 (x:=vs[i]) (by simp[hi]) λh' a' b'=>q _ h' s.toks (show vs[i]? = some vs[i] by simp[hi]) ⟨a',Heap.IsTuple.extBut st.2 b'.extBut off⟩ b'
     done:=λs Q E st q=>Om hh st.1 st.2 (by simp) q }
 | str x=>
  cases ha:x.cps.all (· < 128)with
  | true=>
   have e:strIterType x="str_ascii_iterator":=by simp[strIterType,ha]
   exact{
    live:=λ_ _ st=>let⟨_,o,e,_⟩:=st.1;⟨o,e⟩
    frame:=λ_ _ _ st k=>⟨let⟨t,o,e,r⟩:=st.1;⟨t,o,k I (by simp[Sr.fp]) o e,r⟩,st.2⟩
    item:=λi s Q E hi st q=>by
     obtain⟨⟨t,g⟩,z⟩:=st;have hz:vs.size=x.cps.size:=z;rw[e]at g;exact(Draws.strAscii (prog:=prog) (w:=w) hh I x t).item i s Q E oM g λv h' tk p st' sb=>q v h' tk p ⟨⟨t,by rw[e];exact st'⟩,z⟩ sb
    done:=λs Q E st q=>by
     obtain⟨⟨t,g⟩,z⟩:=st;have hz:vs.size=x.cps.size:=z;rw[e,hz]at g;exact(Draws.strAscii (prog:=prog) (w:=w) hh I x t).done s Q E g q }
  | false=>
   have e:strIterType x="str_iterator":=by simp[strIterType,ha]
   exact{
    live:=λ_ _ st=>let⟨_,o,e,_⟩:=st.1;⟨o,e⟩
    frame:=λ_ _ _ st k=>⟨let⟨t,o,e,r⟩:=st.1;⟨t,o,k I (by simp[Sr.fp]) o e,r⟩,st.2⟩
    item:=λi s Q E hi st q=>by
     obtain⟨⟨t,g⟩,z⟩:=st;have hz:vs.size=x.cps.size:=z;rw[e]at g;exact(Draws.strWide (prog:=prog) (w:=w) hh I x t).item i s Q E oM g λv h' tk p st' sb=>q v h' tk p ⟨⟨t,by rw[e];exact st'⟩,z⟩ sb
    done:=λs Q E st q=>by
     obtain⟨⟨t,g⟩,z⟩:=st;have hz:vs.size=x.cps.size:=z;rw[e,hz]at g;exact(Draws.strWide (prog:=prog) (w:=w) hh I x t).done s Q E g q }
structure ZA(S1 S2:Sr)(z TI TO i1 i2:Addr):Prop where
 a:TI≠z
 b:TO≠z
 c:i1≠z
 d:i2≠z
 e:TI≠TO
 f:TI≠i1
 g:TI≠i2
 h:TO≠i1
 i:TO≠i2
 j:i1≠i2
 k:∀x∈[z,TO,i1,i2],S1.off x/\S2.off x
structure ZS(S1 S2:Sr)(v1 v2:Array Value)(z TI TO i1 i2:Addr)(n:Nat)(u:Value)(h:Heap):Prop where
 z:IsZip h z TI TO u
 ti:IsPair h TI (.ref i1) (.ref i2)
 to:∃x y,IsPair h TO x y
 s1:S1.it h i1 n
 s2:S2.it h i2 n
 h1:S1.has h v1
 h2:S2.has h v2
section
variable{prog:Program}{w:World}{A:Around}{E:Value->Shared->Prop}{s:Shared}{S1 S2:Sr}{v1 v2:Array Value}{z TI TO i1 i2:Addr}{n:Nat}
def OU(D:ZA S1 S2 z TI TO i1 i2)(hh:A.handled=none)(Z:ZS S1 S2 v1 v2 z TI TO i1 i2 n .none s.heap)(l1:n < v1.size)(l2:n < v2.size){Q:Value->Shared->Prop}
    (q:∀x y h' tk,S1.is v1 n x->S2.is v2 n y->ZS S1 S2 v1 v2 z TI TO i1 i2 (n+1) (rawInt s.heap.objs.size) h'->IsPair h' s.heap.objs.size x y->h'.objs.size=s.heap.objs.size+1->
     (∀c o,c≠z->c≠TO->c≠i1->c≠i2->s.heap.get? c=some o->h'.get? c=some o)->Q (.ref s.heap.objs.size) { s with heap:=h',toks:=tk }) :
    wpAny (model prog w) A (Builtin.«zip.__next__» ⟨[.ref z],[]⟩) (λfin s'=>∃v,fin=.done (.ret v)/\Q v s') E s:=by
 obtain⟨hp,g0,d0,tk0,os0⟩:=s;obtain⟨Zz,Zi,⟨x0,y0,Zo⟩,Z1,Z2,Y1,Y2⟩:=Z;have oz:=D.k z (by simp);have oT:=D.k TO (by simp);have o1:=D.k i1 (by simp);have o2:=D.k i2 (by simp);show wpAny _ _ (field (.ref z) 2 >>= _) _ _ _;refine wpAny_bind (wpAny_field Zz rfl (x:=.bool false) rfl ?_);show wpAny _ _ (field (.ref z) 3 >>= _) _ _ _;refine wpAny_bind (wpAny_field Zz rfl (x:=.ref TI) rfl ?_);refine wpAny_bind (wpAny_seqItems Zi rfl ?_);show wpAny _ _ (Builtin.SmallTypes.ownedTupleIsFree (.ref z) >>= _) _ _ _;refine wpAny_bind ?_;unfold Builtin.SmallTypes.ownedTupleIsFree;refine wpAny_bind (wpAny_field Zz rfl (x:=.none) rfl (wpAny_pure ?_));simp only[if_true];refine wpAny_bind (wpAny_rule ?_);refine wpAny_bind (wpAny_field Zz rfl (x:=.ref TO) rfl ?_);refine wpAny_bind (wpAny_setField_rec Zz (by simp) λg1 Za b1=>?_)
 replace Za:IsZip g1 z TI TO .ellipsis:=Za
 replace b1:Heap.SameBut z hp g1:=b1
 refine wpAny_bind ?_;simp only[List.zipIdx_cons,List.zipIdx_nil,List.forIn_cons,List.forIn_nil];refine wpAny_bind (wpAny_bind (wpAny_onRaise ?_));show wpAny _ _ (Builtin.SmallTypes.nextOf (.ref i1) >>= _) _ _ _;refine wpAny_bind ((S1.draws hh i1 o1.1 v1).item n _ _ _ l1 ⟨Z1.mv λo e=>b1.extBut _ _ D.c e,Y1.mv (λb o hb e=>b1.extBut _ _ hb e) oz.1⟩ λx g2 k2 px st2 b2=>wpAny_pure ?_)
 replace b2:Heap.SameBut i1 g1 g2:=b2
 have To2:IsPair g2 TO x0 y0:=b2.extBut _ _ D.h (b1.extBut _ _ D.b Zo);refine wpAny_bind (wpAny_seqItems To2 rfl ?_);refine wpAny_bind (wpAny_updateSeq_pair To2 λg3 To3 b3=>?_)
 replace To3:IsPair g3 TO x y0:=To3
 replace b3:Heap.SameBut TO g2 g3:=b3
 refine wpAny_bind (wpAny_letGo (wpAny_pure ?_));refine wpAny_bind (wpAny_bind (wpAny_onRaise ?_));show wpAny _ _ (Builtin.SmallTypes.nextOf (.ref i2) >>= _) _ _ _;refine wpAny_bind ((S2.draws hh i2 o2.2 v2).item n _ _ _ l2 ⟨Z2.mv λo e=>b3.extBut _ _ D.i.symm (b2.extBut _ _ D.j.symm (b1.extBut _ _ D.d e)),
  ((Y2.mv (λb o hb e=>b1.extBut _ _ hb e) oz.2).mv (λb o hb e=>b2.extBut _ _ hb e) o1.2).mv (λb o hb e=>b3.extBut _ _ hb e) oT.2⟩ λy g4 k4 py st4 b4=>wpAny_pure ?_)
 replace b4:Heap.SameBut i2 g3 g4:=b4
 have To4:IsPair g4 TO x y0:=b4.extBut _ _ D.i To3;refine wpAny_bind (wpAny_seqItems To4 rfl ?_);refine wpAny_bind (wpAny_updateSeq_pair To4 λg5 To5 b5=>?_)
 replace To5:IsPair g5 TO x y:=To5
 replace b5:Heap.SameBut TO g4 g5:=b5
 refine wpAny_bind (wpAny_letGo (wpAny_pure (wpAny_pure ?_)));refine wpAny_bind (wpAny_seqItems To5 rfl ?_);refine wpAny_bind (wpAny_newTuple ?_);have sz:g5.objs.size=hp.objs.size:=by rw[b5.1,b4.1,b3.1,b2.1,b1.1]
 have Z5:IsZip g5 z TI TO .ellipsis:=b5.extBut _ _ D.b.symm (b4.extBut _ _ D.d.symm (b3.extBut _ _ D.b.symm (b2.extBut _ _ D.c.symm Za)));have up5:∀c o,c≠z->c≠TO->c≠i1->c≠i2->hp.get? c=some o->g5.get? c=some o:=λc o n1 n2 n3 n4 e=>b5.extBut _ _ n2 (b4.extBut _ _ n4 (b3.extBut _ _ n2 (b2.extBut _ _ n3 (b1.extBut _ _ n1 e))));have I1:S1.it g5 i1 (n+1):=st2.1.mv λo e=>b5.extBut _ _ D.h.symm (b4.extBut _ _ D.j (b3.extBut _ _ D.h.symm e));have I2:S2.it g5 i2 (n+1):=st4.1.mv λo e=>b5.extBut _ _ D.i.symm e;have H1:S1.has g5 v1:=((st2.2.mv (λb o hb e=>b3.extBut _ _ hb e) oT.1).mv (λb o hb e=>b4.extBut _ _ hb e) o2.1).mv (λb o hb e=>b5.extBut _ _ hb e) oT.1;have H2:S2.has g5 v2:=st4.2.mv (λb o hb e=>b5.extBut _ _ hb e) oT.2;have zlt:z < g5.objs.size:=ao Z5;show wpAny _ _ (Builtin.SmallTypes.ownedTupleHandOut (.ref z) (.ref g5.objs.size) >>= _) _ _ _;refine wpAny_bind ?_;unfold Builtin.SmallTypes.ownedTupleHandOut;have Z6:IsZip (g5.push { cls:=.type "tuple",data:=.seq #[x,y] }) z TI TO .ellipsis:=ak _ Z5;refine wpAny_bind (wpAny_setField_rec Z6 (by simp) λg7 Z7 b7=>?_)
 replace Z7:IsZip g7 z TI TO (rawInt g5.objs.size):=Z7
 refine wpAny_setField_rec Z7 (by simp) λg8 Z8 b8=>?_
 replace Z8:IsZip g8 z TI TO (rawInt g5.objs.size):=Z8
 have up:∀c o,c≠z->g5.get? c=some o->g8.get? c=some o:=λc o n1 e=>b8.extBut _ _ n1 (b7.extBut _ _ n1 (ak _ e));have T8:IsPair g8 g5.objs.size x y:=b8.extBut _ _ (bF zlt) (b7.extBut _ _ (bF zlt) (aA _ rfl));have sz8:g8.objs.size=g5.objs.size+1:=by rw[b8.1,b7.1,aX]
 rw[sz]at Z8 T8 sz8;refine wpAny_pure ⟨_,rfl,?_⟩;show Q (.ref g5.objs.size) _;rw[sz];exact q x y g8 k4 px py ⟨Z8,up _ _ D.a (up5 _ _ D.a D.e D.f D.g Zi),⟨_,_,up _ _ D.b To5⟩,I1.mv λo e=>up _ o D.c e,I2.mv λo e=>up _ o D.d e,
  H1.mv (λb o hb e=>up b o hb e) oz.1,H2.mv (λb o hb e=>up b o hb e) oz.2⟩ T8 sz8 λc o n1 n2 n3 n4 e=>up c o n1 (up5 c o n1 n2 n3 n4 e)
def Rp(D:ZA S1 S2 z TI TO i1 i2)(hh:A.handled=none)(Z:ZS S1 S2 v1 v2 z TI TO i1 i2 n .none s.heap)(l:n=v1.size\/(n < v1.size/\n=v2.size)){Q:Fin->Shared->Prop}
    (q:∀h' x tk,(∀c o,c≠z->c≠TO->c≠i1->c≠i2->s.heap.get? c=some o->h'.get? c=some o)->(∃o,h'.get? x=some o/\o.cls=.type "StopIteration")->E (.ref x) { s with heap:=h',toks:=tk }) :
    wpAny (model prog w) A (Builtin.«zip.__next__» ⟨[.ref z],[]⟩) Q E s:=by
 obtain⟨hp,g0,d0,tk0,os0⟩:=s;obtain⟨Zz,Zi,⟨x0,y0,Zo⟩,Z1,Z2,Y1,Y2⟩:=Z;have oz:=D.k z (by simp);have oT:=D.k TO (by simp);have o1:=D.k i1 (by simp);have o2:=D.k i2 (by simp);show wpAny _ _ (field (.ref z) 2 >>= _) _ _ _;refine wpAny_bind (wpAny_field Zz rfl (x:=.bool false) rfl ?_);show wpAny _ _ (field (.ref z) 3 >>= _) _ _ _;refine wpAny_bind (wpAny_field Zz rfl (x:=.ref TI) rfl ?_);refine wpAny_bind (wpAny_seqItems Zi rfl ?_);show wpAny _ _ (Builtin.SmallTypes.ownedTupleIsFree (.ref z) >>= _) _ _ _;refine wpAny_bind ?_;unfold Builtin.SmallTypes.ownedTupleIsFree;refine wpAny_bind (wpAny_field Zz rfl (x:=.none) rfl (wpAny_pure ?_));simp only[if_true];refine wpAny_bind (wpAny_rule ?_);refine wpAny_bind (wpAny_field Zz rfl (x:=.ref TO) rfl ?_);refine wpAny_bind (wpAny_setField_rec Zz (by simp) λg1 Za b1=>?_)
 replace Za:IsZip g1 z TI TO .ellipsis:=Za
 replace b1:Heap.SameBut z hp g1:=b1
 refine wpAny_bind ?_;simp only[List.zipIdx_cons,List.zipIdx_nil,List.forIn_cons,List.forIn_nil];have W1:S1.it g1 i1 n/\S1.has g1 v1:=⟨Z1.mv λo e=>b1.extBut _ _ D.c e,Y1.mv (λb o hb e=>b1.extBut _ _ hb e) oz.1⟩;refine wpAny_bind (wpAny_bind (wpAny_onRaise ?_));show wpAny _ _ (Builtin.SmallTypes.nextOf (.ref i1) >>= _) _ _ _;rcases l with l | ⟨l1,l2⟩
 . refine wpAny_bind ((S1.draws hh i1 o1.1 v1).done _ _ _ (l▸W1) λg2 x b2 ⟨ox,ex,cx⟩=>?_);have Zb:IsZip g2 z TI TO .ellipsis:=b2 _ _ D.c.symm Za;have xz:x≠z:=λe=>by subst e;rw[Zb]at ex;cases ex;simp at cx
   refine wpAny_setField_rec Zb (by simp) λg3 _ b3=>q g3 x tk0 (λc o n1 _ n3 _ e=>b3.extBut _ _ n1 (b2 _ _ n3 (b1.extBut _ _ n1 e))) ⟨ox,b3.extBut _ _ xz ex,cx⟩
 . refine wpAny_bind ((S1.draws hh i1 o1.1 v1).item n _ _ _ l1 W1 λx g2 k2 px st2 b2=>wpAny_pure ?_)
   replace b2:Heap.SameBut i1 g1 g2:=b2
   have To2:IsPair g2 TO x0 y0:=b2.extBut _ _ D.h (b1.extBut _ _ D.b Zo);refine wpAny_bind (wpAny_seqItems To2 rfl ?_);refine wpAny_bind (wpAny_updateSeq_pair To2 λg3 To3 b3=>?_)
   replace b3:Heap.SameBut TO g2 g3:=b3
   refine wpAny_bind (wpAny_letGo (wpAny_pure ?_));refine wpAny_bind (wpAny_bind (wpAny_onRaise ?_));show wpAny _ _ (Builtin.SmallTypes.nextOf (.ref i2) >>= _) _ _ _;refine wpAny_bind ((S2.draws hh i2 o2.2 v2).done _ _ _ (l2▸⟨Z2.mv λo e=>b3.extBut _ _ D.i.symm (b2.extBut _ _ D.j.symm (b1.extBut _ _ D.d e)),
    ((Y2.mv (λb o hb e=>b1.extBut _ _ hb e) oz.2).mv (λb o hb e=>b2.extBut _ _ hb e) o1.2).mv (λb o hb e=>b3.extBut _ _ hb e) oT.2⟩) λg4 x' b4 ⟨ox,ex,cx⟩=>?_)
   have Zb:IsZip g4 z TI TO .ellipsis:=b4 _ _ D.d.symm (b3.extBut _ _ D.b.symm (b2.extBut _ _ D.c.symm Za));have xz:x'≠z:=λe=>by subst e;rw[Zb]at ex;cases ex;simp at cx
   refine wpAny_setField_rec Zb (by simp) λg5 _ b5=>q g5 x' k2 (λc o n1 n2 n3 n4 e=>b5.extBut _ _ n1 (b4 _ _ n4 (b3.extBut _ _ n2 (b2.extBut _ _ n3 (b1.extBut _ _ n1 e))))) ⟨ox,b5.extBut _ _ xz ex,cx⟩
end
def MS(h:Heap)(v:Value)(o:Obj):Prop:=∀(prog:Program) (w:World) (A:Around) (E:Value->Shared->Prop) (s:Shared) (Q:Value->Shared->Prop),(∀b u,h.get? b=some u->s.heap.get? b=some u)->
 Q (.ref s.heap.objs.size) { s with heap:=s.heap.push o }->wpAny (model prog w) A (pyIter v) Q E s
def Sr.val:Sr->Value->Prop
 | .lst a,v=>v=.ref a
 | .tup a,v=>v=.ref a
 | .str x,v=>∃t,v=.str x t
def Sr.begins{S:Sr}{h:Heap}{v:Value}{vs:Array Value}(e:S.val v)(x:S.has h vs):∃o:Obj,MS h v o/\o.isFreed=false/\∀(h':Heap) (I:Addr),h'.get? I=some o->S.it h' I 0:=by
 cases S with
 | lst a=>
  cases (show v=.ref a from e);exact⟨_,λ_ _ _ _ s Q k q=>wpAny_pyIter_list (let⟨o,e,r⟩:=x;⟨o,k a o e,r⟩) q,rfl,λh' I e=>⟨_,e,rfl,rfl⟩⟩
 | tup a=>
  cases (show v=.ref a from e);exact⟨_,λ_ _ _ _ s Q k q=>wpAny_pyIter_tuple (let⟨o,e,r⟩:=x;⟨o,k a o e,r⟩) q,rfl,λh' I e=>⟨_,e,rfl,rfl⟩⟩
 | str z=>
  obtain⟨t,rfl⟩:=(show ∃t,v=.str z t from e);exact⟨_,λ_ _ _ _ s Q k q=>wpAny_pyIter_strU q,rfl,λh' I e=>⟨t,_,e,rfl,rfl⟩⟩
abbrev zh2(h:Heap)(o1 o2:Obj):Heap:=(h.push o1).push o2
abbrev zh3(h:Heap)(o1 o2:Obj):Heap:=(zh2 h o1 o2).push { cls:=.type "tuple",data:=.seq #[.ref h.objs.size,.ref (h.push o1).objs.size] }
abbrev zh4(h:Heap)(o1 o2:Obj):Heap:=(zh3 h o1 o2).push { cls:=.type "tuple",data:=.seq #[.none,.none] }
abbrev Tr(h:Heap)(o1 o2:Obj):Heap:=(zh4 h o1 o2).push { cls:=.type "zip",data:=.fields #[.none,.bool false,.bool false,.ref (zh2 h o1 o2).objs.size,.ref (zh3 h o1 o2).objs.size] }
def Ro(a b:Value)(o1 o2:Obj):Meets (Builtin.«zip.__new__» ⟨[.type "zip",a,b],[]⟩) (λ_ R s=>MS s.heap a o1/\MS s.heap b o2/\
      R (.ok (.ret (.ref (zh4 s.heap o1 o2).objs.size))) { s with heap:=Tr s.heap o1 o2 }):=
 .of_wp λprog w A R s h=>by
  obtain⟨hp,g,d,tk,os⟩:=s;obtain⟨h1,h2,h⟩:=h;have hsub:=sub_zip;have k1:∀{A':Around} {E':Value->Shared->Prop} {Q:Value->Shared->Prop},Q (.ref (Shared.heap ⟨hp,g,d,tk,os⟩).objs.size) ⟨hp.push o1,g,d,tk,os⟩->wpAny (model prog w) A' (pyIter a) Q E' ⟨hp,g,d,tk,os⟩:=λq=>h1 _ _ _ _ _ _ (λ_ _ e=>e) q;have k2:∀{A':Around} {E':Value->Shared->Prop} {Q:Value->Shared->Prop},Q (.ref (Shared.heap ⟨hp.push o1,g,d,tk,os⟩).objs.size) ⟨(hp.push o1).push o2,g,d,tk,os⟩->wpAny (model prog w) A' (pyIter b) Q E' ⟨hp.push o1,g,d,tk,os⟩:=λq=>h2 _ _ _ _ _ _ (λ_ _ e=>ak _ e) q
  wp_walk using k1,k2
  exact⟨_,rfl,h⟩
def Rc{prog:Program}{w:World}{A:Around}{E:Value->Shared->Prop}{s:Shared}{S1 S2:Sr}{v1 v2:Array Value}{a b:Value}{Q:Value->Shared->Prop}(e1:S1.val a)(e2:S2.val b)(x1:S1.has s.heap v1)(x2:S2.has s.heap v2)
    (q:∀h',ZS S1 S2 v1 v2 (s.heap.objs.size+4) (s.heap.objs.size+2) (s.heap.objs.size+3) s.heap.objs.size (s.heap.objs.size+1) 0 .none h'->ZA S1 S2 (s.heap.objs.size+4) (s.heap.objs.size+2) (s.heap.objs.size+3) s.heap.objs.size (s.heap.objs.size+1)->
     (∀c o,s.heap.get? c=some o->h'.get? c=some o)->Q (.ref (s.heap.objs.size+4)) { s with heap:=h' }):wpAny (model prog w) A (call (.type "zip") [a,b]) Q E s:=by
 obtain⟨o1,B1,f1,I1⟩:=Sr.begins e1 x1;obtain⟨o2,B2,f2,I2⟩:=Sr.begins e2 x2;refine callType_new F.called_zip (by decide) (F.typeCall_zip_2 _ _) (F.newCall_zip_2 _ _) (λobj=>F.args_object_init_3 obj _ _) F.entry_zip_new (Ro a b o1 o2) ⟨B1,B2,?_⟩;have y1:(s.heap.push o1).objs.size=s.heap.objs.size+1:=aX ..;have y2:(zh2 s.heap o1 o2).objs.size=s.heap.objs.size+2:=by rw[aX,y1]
 have y3:(zh3 s.heap o1 o2).objs.size=s.heap.objs.size+3:=by rw[aX,y2]
 have y4:(zh4 s.heap o1 o2).objs.size=s.heap.objs.size+4:=by rw[aX,y3]
 have g5:(Tr s.heap o1 o2).get? (zh4 s.heap o1 o2).objs.size=some _:=aA _ rfl;have g4:(Tr s.heap o1 o2).get? (zh3 s.heap o1 o2).objs.size=some _:=ak _ (aA _ rfl);have g3:(Tr s.heap o1 o2).get? (zh2 s.heap o1 o2).objs.size=some _:=ak _ (ak _ (aA _ rfl));have g2:(Tr s.heap o1 o2).get? (s.heap.push o1).objs.size=some o2:=ak _ (ak _ (ak _ (aA _ f2)));have g1:(Tr s.heap o1 o2).get? s.heap.objs.size=some o1:=ak _ (ak _ (ak _ (ak _ (aA _ f1))));have up:∀c o,s.heap.get? c=some o->(Tr s.heap o1 o2).get? c=some o:=λc o x=>ak _ (ak _ (ak _ (ak _ (ak _ x))));have off:∀{S:Sr} {vs:Array Value} (k:Nat),S.has s.heap vs->S.off (s.heap.objs.size+k):=λ{S vs} k x=>by
  cases S with
  | lst a=>obtain⟨o,e,_⟩:=x;exact az (aC (ao e) (Nat.le_add_right _ k))
  | tup a=>obtain⟨o,e,_⟩:=x;exact az (aC (ao e) (Nat.le_add_right _ k))
  | str z=>exact trivial
 have keep:∀{S:Sr} {vs:Array Value},S.has s.heap vs->S.has (Tr s.heap o1 o2) vs:=λ{S vs} x=>by
  cases S with
  | lst a=>obtain⟨o,e,r⟩:=x;exact⟨o,up _ _ e,r⟩
  | tup a=>obtain⟨o,e,r⟩:=x;exact⟨o,up _ _ e,r⟩
  | str z=>exact x
 show _/\_;rw[y2,y3,y4]at g5;rw[y1,y2]at g3;rw[y3]at g4;rw[y1]at g2;rw[y4];refine⟨⟨_,g5,rfl⟩,q _ ⟨g5,g3,⟨_,_,g4⟩,I1 _ _ g1,I2 _ _ g2,keep x1,keep x2⟩ ?_ up⟩;have ne:∀i j:Nat,i≠j->s.heap.objs.size+i≠s.heap.objs.size+j:=λi j hn h=>hn (Nat.add_left_cancel h);refine⟨ne 2 4 (by decide),ne 3 4 (by decide),ne 0 4 (by decide),ne 1 4 (by decide),ne 2 3 (by decide),ne 2 0 (by decide),ne 2 1 (by decide),ne 3 0 (by decide),ne 3 1 (by decide),ne 0 1 (by decide),λx hx=>?_⟩;simp only[ar,ck,or_false]at hx;rcases hx with rfl | rfl | rfl | rfl
 . exact⟨off 4 x1,off 4 x2⟩
 . exact⟨off 3 x1,off 3 x2⟩
 . exact⟨off 0 x1,off 0 x2⟩
 . exact⟨off 1 x1,off 1 x2⟩
section
variable{X:Cx}{pins:List (Addr × Obj)}{σ:St}{H:Hp}{s:Shared}{h':Heap}
def r9.turneds{t':Nat}{ch:List Addr}(I:r9 X pins σ H s)(k:∀b o,b ∉ ch->s.heap.get? b=some o->h'.get? b=some o)(hf:∀b∈ch,U8 X pins H b):r9 X pins σ H { s with heap:=h',toks:=t' }:=by
 have nit:∀b u,H b=some u->b ∉ ch:=λb u e z=>by rw[(hf b z).1]at e;cases e
 refine I.step (g':=s.gens) (d':=s.drawn) (ch:=ch) (λb hb=>?_) (λb o _ _ hc e _=>k b o hc e) (λb o _ _ hc e _=>⟨o.slots,k b o hc e⟩) (λ_ _ _ _ n=>n) (λb o hc e=>⟨o,k b o hc e⟩) (λ_ _ e=>e) (λ_ _ _ e=>e)
  (λb ps e=>⟨#[],by rw[e];simp⟩) (λm hm=>?_) (λb u e=>?_) I.bare
 . obtain⟨f0,f1,f2,f3,f4,f5⟩:=hf b hb;exact⟨f3,f1,f4,f5⟩
 . obtain⟨o,es,ep,ho,r⟩:=hm;exact⟨o,es,ep,k _ o (λz=>(hf _ z).2.1 rfl) ho,r⟩
 . refine(I.hok b u e).stay (λc v hc q=>k c v ?_ q) (λ_ q=>q) λ_ _ q=>q;rcases hc with z | z
   . rw[z];exact nit b u e
   . exact nit c _ z
theorem r9.track(I:r9 X pins σ H s)(hs:X.s₀.heap.objs.size<=a)(f:U8 X pins H a)(new:L6 X.prog X.w (upd H a o) s.heap a o):r9 X pins σ (upd H a o) s:=
 ⟨I.ok,I.os,I.bare,I.base.track hs f.1,I.loc,I.cell,by rw[o4 (Ne.symm f.2.1)];exact I.free,λx c e=>by rw[o4 (f.2.2.2.2.1 x c e)];exact I.freeC x c e,λp hp=>by
  obtain⟨e,n,r⟩:=I.pin p hp;exact⟨e,by rw[o4 (f.2.2.2.2.2 p hp)];exact n,r⟩,I.hok.track f.1 new,I.len⟩
end
def CZ(x:Str):List V:=x.cps.toList.map λc=>V.str ⟨#[c]⟩
def Sr.vals(K:aa)(H:Hp):Sr->List V->Prop
 | .lst a,xs=>o7 K H a xs
 | .tup a,xs=>o9 K H a xs
 | .str x,xs=>xs=CZ x
def Sr.ofV:Sr->V->Prop
 | .lst a,v=>v=.ref a
 | .tup a,v=>v=.ref a
 | .str x,v=>v=.str x
section
variable{X:Cx}{pins:List (Addr × Obj)}{σ:St}{H:Hp}{s:Shared}{S:Sr}{xs ys:List V}
theorem Sr.vals.get(I:r9 X pins σ H s)(h:S.vals X.K H xs):∃vs,S.has s.heap vs/\vs.size=xs.length/\∀i x v,xs[i]? = some x->S.is vs i v->D5 x v:=by
 cases S with
 | lst a=>
  obtain⟨its,rv,p,hz⟩:=I.list h;refine⟨its.toArray,p.isList,by have:=rv.length;simp;omega,λi x v e1 e2=>?_⟩;obtain⟨u,hu,ru⟩:=rv.get e1;have e2:its.toArray[i]? = some v:=e2;rw[List.getElem?_toArray,hu]at e2;cases e2;exact ru
 | tup a=>
  obtain⟨its,rv,p,hz⟩:=I.tuple h;refine⟨its.toArray,(show s.heap.IsTuple a its.toArray from p),by have:=rv.length;simp;omega,λi x v e1 e2=>?_⟩;obtain⟨u,hu,ru⟩:=rv.get e1;have e2:its.toArray[i]? = some v:=e2;rw[List.getElem?_toArray,hu]at e2;cases e2;exact ru
 | str z=>
  cases (show xs=CZ z from h);refine⟨Array.replicate z.cps.size .none,by show(Array.replicate _ _).size=_;simp,by simp[CZ],λi x v e1 e2=>?_⟩;obtain⟨c,u,ec,rfl⟩:=(show ∃c u,z.cps[i]? = some c/\v=.str ⟨#[c]⟩ u from e2);have:(CZ z)[i]? = some (V.str ⟨#[c]⟩):=by simp[CZ,ec]
  rw[this]at e1;cases e1;exact⟨u,rfl⟩
def Sr.vals.inj(I:r9 X pins σ H s)(h:S.vals X.K H xs)(h':S.vals X.K H ys):xs=ys:=by
 cases S with
 | lst a=>exact I.list_inj h h'
 | tup a=>exact I.tuple_inj h h'
 | str z=>exact(show xs=CZ z from h).trans (show ys=CZ z from h').symm
theorem Sr.ofV.val(e:S.ofV x)(r:D5 x u):S.val u:=by
 cases S with
 | lst a=>cases (show x=.ref a from e);exact r
 | tup a=>cases (show x=.ref a from e);exact r
 | str z=>cases (show x=.str z from e);exact r
end
def e0t(K:aa)(S1 S2:Sr):It:=
 ⟨λi H=>∃xs ys x y,S1.vals K H xs/\S2.vals K H ys/\xs[i]? = some x/\ys[i]? = some y,
  λi H v H'=>∃p x y,v=.ref p/\H p=none/\H'=upd H p (.tup [x,y])/\(∀xs,S1.vals K H xs->xs[i]? = some x)/\∀ys,S2.vals K H ys->ys[i]? = some y,
  λi H=>∃xs ys,S1.vals K H xs/\S2.vals K H ys/\(i=xs.length\/(i < xs.length/\i=ys.length))⟩
def OY{P:Program}{w:World}{K:aa}{es:List Expr}{kk:Nat}{tp:Pos}{S1 S2:Sr}{z TI TO i1 i2:Addr}(D:ZA S1 S2 z TI TO i1 i2) :
    MN P w K (.Tuple es kk tp) (e0t K S1 S2) [z,TI,TO,i1,i2] z (λi h=>IsZip h z TI TO .none/\IsPair h TI (.ref i1) (.ref i2)/\(∃a b,IsPair h TO a b)/\S1.it h i1 i/\S2.it h i2 i)where
 mem:=by simp
 obj:=λi h st b hb=>by
  obtain⟨hz,hi,⟨a,a',ho⟩,h1,h2⟩:=st;simp only[ar,ck,or_false]at hb;rcases hb with rfl | rfl | rfl | rfl | rfl
  . exact⟨_,hz,λv z=>by simp at z⟩
  . exact⟨_,hi,λv z=>by simp at z⟩
  . exact⟨_,ho,λv z=>by simp at z⟩
  . exact h1.obj
  . exact h2.obj
 keep:=λi h h' st k=>by
  obtain⟨hz,hi,⟨a,a',ho⟩,h1,h2⟩:=st;exact⟨k z (by simp) _ hz,k TI (by simp) _ hi,⟨a,a',k TO (by simp) _ ho⟩,h1.mv λo e=>k i1 (by simp) o e,h2.mv λo e=>k i2 (by simp) o e⟩
 item:=by
  intro X hP hw hK hc i pins s σ H E I hf st hg;subst hP hw hK;obtain⟨xs,ys,x,y,hx,hy,ex,ey⟩:=hg;obtain⟨v1,a1,z1,r1⟩:=Sr.vals.get I hx;obtain⟨v2,a2,z2,r2⟩:=Sr.vals.get I hy;obtain⟨hz,hi,ho,h1,h2⟩:=st;have l1:=(aQ.mp ex).1;have l2:=(aQ.mp ey).1;have hT:s.TypeIs (.ref z) "zip":=⟨_,hz,rfl⟩;have lt:∀b∈[z,TI,TO,i1,i2],b≠s.heap.objs.size:=λb hb=>by
   obtain⟨a,a',ho⟩:=ho;simp only[ar,ck,or_false]at hb;rcases hb with rfl | rfl | rfl | rfl | rfl
   . exact az (ao hz)
   . exact az (ao hi)
   . exact az (ao ho)
   . obtain⟨_,e,_⟩:=h1.obj;exact az (ao e)
   . obtain⟨_,e,_⟩:=h2.obj;exact az (ao e)
  unfold pyNext;refine wpAny_bind (wpAny_attempt (wpAny_callSpecial?_slot (name:=Str.ofString "__next__") hT F.slot_zip_next (wpAny_call_entry F.slot_zip_next hT F.entry_zip_next
   (OU (A:=X.A.in1) D (show X.A.in1.handled=none from I.ok.hd hc) ⟨hz,hi,ho,h1,h2,a1,a2⟩ oM oM λxv yv h' tk px py Z hp hs up=>wpAny_pure ?_) (F.args_zip_next_1 _))))
  refine⟨_,rfl,wpAny_letOwnedTupleGo_zip Z.z λh'' hz'' sb=>?_⟩;have sb:Heap.SameBut z h' h'':=sb;have kk:∀b o,b ∉ [z,TI,TO,i1,i2]->s.heap.get? b=some o->h''.get? b=some o:=λb o hb e=>by
   simp only[ar,ck,or_false,not_or]at hb;exact sb.extBut _ _ hb.1 (up b o hb.1 hb.2.2.1 hb.2.2.2.1 hb.2.2.2.2 e)
  have I1:r9 X pins σ H { s with heap:=h'',toks:=tk }:=I.turneds (t':=tk) kk hf;have fT:U8 X pins H s.heap.objs.size:=I.fpOk (ae _) (I.hok.fresh (ae _));have zT:s.heap.objs.size≠z:=Ne.symm (lt z (by simp));have oT:IsPair h'' s.heap.objs.size xv yv:=sb.extBut _ _ zT hp;have I2:r9 X pins σ (upd H s.heap.objs.size (.tup [x,y])) { s with heap:=h'',toks:=tk }:=I1.track (ah I.sz (ae _)) fT
   ⟨by show 2<=sizeLine;decide,[xv,yv],.cons (r1 i x xv ex px) (.cons (r2 i y yv ey py) .nil),⟨_,oT,rfl,_,rfl⟩,λ_=>⟨_,oT,rfl⟩⟩
  refine⟨.ref s.heap.objs.size,_,I2,rfl,⟨_,x,y,rfl,fT.1,rfl,λxs' h=>by rw[Sr.vals.inj I h hx];exact ex,λys' h=>by rw[Sr.vals.inj I h hy];exact ey⟩,⟨hz'',sb.extBut _ _ D.a Z.ti,?_,Z.s1.mv λo e=>sb.extBut _ _ D.c e,Z.s2.mv λo e=>sb.extBut _ _ D.d e⟩,λb hb=>?_⟩
  . obtain⟨a,a',ho⟩:=Z.to;exact⟨a,a',sb.extBut _ _ D.b ho⟩
  . rw[o4 (lt b hb)];exact(hf b hb).1
 done:=by
  intro X hP hw hK hc i pins s σ H E I hf st hg;subst hP hw hK;obtain⟨xs,ys,hx,hy,l⟩:=hg;obtain⟨v1,a1,z1,r1⟩:=Sr.vals.get I hx;obtain⟨v2,a2,z2,r2⟩:=Sr.vals.get I hy;obtain⟨hz,hi,ho,h1,h2⟩:=st;have hT:s.TypeIs (.ref z) "zip":=⟨_,hz,rfl⟩;unfold pyNext;refine wpAny_bind (wpAny_attempt (wpAny_callSpecial?_slot (name:=Str.ofString "__next__") hT F.slot_zip_next (wpAny_call_entry F.slot_zip_next hT F.entry_zip_next
   (Rp (A:=X.A.in1) D (show X.A.in1.handled=none from I.ok.hd hc) ⟨hz,hi,ho,h1,h2,a1,a2⟩ oM λh' e tk up ⟨o,eo,co⟩=>?_) (F.args_zip_next_1 _))))
  refine wpAny_bind (wpAny_isInstance (T:="StopIteration") (b:=true) ⟨o,eo,co⟩ isSubtype_stop ?_);refine wpAny_pure ⟨rfl,I.turneds (ch:=[z,TI,TO,i1,i2]) (t':=tk) (λb o hb e=>?_) hf⟩;simp only[ar,ck,or_false,not_or]at hb;exact up b o hb.1 hb.2.2.1 hb.2.2.2.1 hb.2.2.2.2 e
 self:=λ_ _ _ _ _ st h=>wpAny_pyIter_zip st.1 h
def iZip(K:aa)(ta:TA):TI:=λσ H R=>ta σ H λvs H1=>∃S1 S2 x y xs ys,vs=[x,y]/\Sr.ofV S1 x/\Sr.ofV S2 y/\S1.vals K H1 xs/\S2.vals K H1 ys/\R (e0t K S1 S2) H1
def Z9{X:Cx}{a b:Expr}{ta:TA}{p pos tp:Pos}{es:List Expr}{kk:Nat}(hg:Gl X "zip")(hm:X.mg "zip"=none)(ha:PA X [a,b] ta)(hs:starEach [a,b] X.env=[(false,eval a X.env),(false,eval b X.env)]:=by rfl)
    (hs2:starEach [b] X.env=[(false,eval b X.env)]:=by rfl):PI X (.Tuple es kk tp) (.Call (.Name "zip" p) [a,b] [] pos) (iZip X.K ta):=by
 intro pins s σ H R I h;refine Call_ (AH I hg hm boot_zip (cn (E3 (ha pos pins s σ H _ I h) λus s1 ⟨vs,H1,I1,r1,q1⟩=>?_) (by rw[hs,hs2]) (by rw[hs2];rfl)));obtain⟨S1,S2,x,y,xs,ys,e,e1,e2,hx,hy,q⟩:=q1;subst e;cases r1 with
 | cons r rr=>
  cases rr with
  | cons r' rr=>
   cases rr;obtain⟨v1,a1,z1,_⟩:=Sr.vals.get I1 hx;obtain⟨v2,a2,z2,_⟩:=Sr.vals.get I1 hy;refine Rc (e1.val r) (e2.val r') a1 a2 λh' Z D up=>wpAny_pyIter_zip Z.z ⟨_,_,_,_,H1,rfl,I1.kept (t':=s1.toks) up,OY D,⟨Z.z,Z.ti,Z.to,Z.s1,Z.s2⟩,λb hb=>?_,q⟩;simp only[ar,ck,or_false]at hb;have le:s1.heap.objs.size<=b:=by rcases hb with rfl | rfl | rfl | rfl | rfl <;>omega
   exact I1.fpOk le (I1.hok.fresh le)
def Fc{K:aa}{S1 S2:Sr}{xs ys:List V}{g:TG}{tb:TS}{D:Gr}{σ:St}{H:Hp}(Pv:Nat->St->Hp->Prop)(hll:xs.length=ys.length)(h0:Pv 0 σ H)(hl:∀i σ H,i<=xs.length->Pv i σ H->S1.vals K H xs/\S2.vals K H ys)
    (hs:∀i x y p σ H,xs[i]? = some x->ys[i]? = some y->H p=none->Pv i σ H->g (.ref p) σ (upd H p (.tup [x,y])) λσ2 H2=>tb { D with nx:=Pv (i+1),ct:=Pv (i+1),bk:=D.nx } σ2 H2) (hd:∀σ H,Pv xs.length σ H->D.nx σ H) :
    ∃W:Nat->Nat->St->Hp->Prop,(∃m,W 0 m σ H)/\∀i m σ H,W i m σ H->
     ((e0t K S1 S2).stop i H/\D.nx σ H)\/((e0t K S1 S2).go i H/\∃N:St->Hp->Prop,(∀σ' H',N σ' H'->∃m',m' < m/\W (i+1) m' σ' H')/\∀x H',(e0t K S1 S2).yld i H x H'->g x σ H' λσ2 H2=>tb { D with nx:=N,ct:=N,bk:=D.nx } σ2 H2):=by
 refine⟨λi m σ H=>m=xs.length - i/\i<=xs.length/\Pv i σ H,⟨xs.length,by simp,aR _,h0⟩,?_⟩;rintro i m σ H ⟨rfl,hi,p⟩;obtain⟨q1,q2⟩:=hl i σ H hi p;by_cases hlt:i < xs.length
 . have hly:i < ys.length:=by omega
   refine .inr ⟨⟨xs,ys,xs[i],ys[i],q1,q2,by simp[hlt],by simp[hly]⟩,Pv (i+1),λσ' H' p'=>⟨xs.length - (i+1),oM,rfl,hlt,p'⟩,λx H' y=>?_⟩;obtain⟨pp,x',y',rfl,hn,rfl,y1,y2⟩:=y;exact hs i x' y' pp σ H (y1 xs q1) (y2 ys q2) hn p
 . have e:i=xs.length:=by omega
   subst e;exact .inl ⟨⟨xs,ys,q1,q2,.inl rfl⟩,hd σ H p⟩
section
variable{X:Cx}
def rSlS:V->Option Int->Option Int->Hp->VK->Prop:=λx lo hi H Q=>∃z,x=.str z/\z.length<=sizeLine/\Q (.str (Txt.slice z lo hi)) H
def UB:e0m X rSlS:=by
 intro pins s σ H x v vl vu lo hi sl Q I rx hs pl pu h;obtain⟨z,rfl,hz,q⟩:=h;obtain⟨t,rfl⟩:=rx;have fin:∀t' k,EP X pins σ Q (.str (Txt.slice z lo hi) t') { s with toks:=k }:=λt' k=>⟨.str _,H,I.tok _,⟨_,rfl⟩,q⟩;refine⟨"str",_,F.slot_str_getitem.lookup,typeIs_str _ _ _,?_⟩;cases pl with
 | none=>
  cases pu with
  | none=>exact wpAny_getItem_str_slice (l:=none) (u:=none) (st:=none) hs rfl (post_val_or_str ⟨ah (Txt.slice_le z _ _) hz,fin⟩)
  | int j uj=>exact wpAny_getItem_str_slice (l:=none) (u:=some (j,uj)) (st:=none) hs rfl (post_val_or_str ⟨ah (Txt.slice_le z _ _) hz,fin⟩)
 | int i ui=>
  cases pu with
  | none=>exact wpAny_getItem_str_slice (l:=some (i,ui)) (u:=none) (st:=none) hs rfl (post_val_or_str ⟨ah (Txt.slice_le z _ _) hz,fin⟩)
  | int j uj=>exact wpAny_getItem_str_slice (l:=some (i,ui)) (u:=some (j,uj)) (st:=none) hs rfl (post_val_or_str ⟨ah (Txt.slice_le z _ _) hz,fin⟩)
def Its(z:Str):It:=⟨λi _=>i < z.cps.size,λi H x H'=>H'=H/\∃c,z.cps[i]? = some c/\x=.str ⟨#[c]⟩,λi _=>z.cps.size<=i⟩
def OZ{P:Program}{w:World}{K:aa}{tg:Expr}(z:Str)(t:Tok)(it:Addr):MN P w K tg (Its z) [it] it (λi h=>h.IsStrIter it "str_ascii_iterator" z t i)where
 mem:=by simp
 obj:=λi h st b hb=>by
  have e:b=it:=by simpa using hb
  subst e;obtain⟨o,e,c,d⟩:=st;exact⟨o,e,λv q=>by rw[d]at q;cases q⟩
 keep:=λi h h' st k=>by
  obtain⟨o,e,r⟩:=st;exact⟨o,k it (by simp) o e,r⟩
 item:=by
  intro X hP hw hK hc i pins s σ H E I hf st hg;subst hP hw hK;have hg:i < z.cps.size:=hg;obtain⟨f0,f1,f2,f3,f4,f5⟩:=hf it (by simp);refine wpAny_pyNext_ascii_item st (c:=z.cps[i]) (by simp[hg]) λh' st' sb=>?_;have I1:r9 X pins σ H { s with heap:=h',toks:=s.toks+1 }:=I.turned (t':=s.toks+1) (λb o hb e=>(sb.2 b hb).trans e) f0 f1 f3 f4 f5;obtain⟨o,e,c,d⟩:=id st';exact⟨_,rfl,KC (s:={ s with heap:=h',toks:=s.toks+1 }) e c d (by decide) ⟨.str ⟨#[z.cps[i]]⟩,H,I1,⟨_,rfl⟩,⟨rfl,_,by simp[hg],rfl⟩,st',λb hb=>(hf b hb).1⟩⟩
 done:=by
  intro X hP hw hK hc i pins s σ H E I hf st hg;subst hP hw hK;have hg:z.cps.size<=i:=hg;obtain⟨f0,f1,f2,f3,f4,f5⟩:=hf it (by simp);exact wpAny_pyNext_ascii_end (I.ok.hd hc) st (by simp;omega) λh' eb=>⟨rfl,I.turned (t':=s.toks) (λb o hb e=>eb b o hb e) f0 f1 f3 f4 f5⟩
 self:=λ_ _ _ _ _ st h=>wpAny_pyIter_striter_ascii st h
def iStr(tl:TE):TI:=λσ H R=>tl σ H λx H1=>∃z,x=.str z/\z.cps.all (· < 128)=true/\R (Its z) H1
def Vd{tg l:Expr}{tl:TE}(hl:PE X l tl):PI X tg l (iStr tl):=by
 intro pins s σ H R I h;refine E3 (hl pins s σ H _ I h) λv s1 ⟨x,H1,I1,r1,z,e,ha,q⟩=>?_;subst e;obtain⟨t,rfl⟩:=r1;refine wpAny_pyIter_ascii ha ?_;have hf:H1 s1.heap.objs.size=none:=I1.hok.fresh (ae _);refine⟨s1.heap.objs.size,[s1.heap.objs.size],_,Its z,H1,rfl,I1.kept (t':=s1.toks) (λb ob q=>ak _ q),OZ z t _,⟨_,aA _ rfl,rfl,rfl⟩,λb hb=>?_,q⟩;have e:b=s1.heap.objs.size:=by simpa using hb
 subst e;exact I1.fpOk (ae _) hf
end
section
variable{X:Cx}
def Rr{bs:List Bool}{its:List Value}(r:z8 (bs.map V.bl) its){i:Nat}{v:Value}(h:its[i]? = some v):∃b,bs[i]? = some b/\v=.bool b:=by
 have len:=r.length;rw[af]at len;have hi:i < its.length:=(aQ.mp h).1;have hb:bs[i]? = some (bs[i]'oM):=ag oM;obtain⟨u,hu,ru⟩:=r.get (i:=i) (x:=V.bl (bs[i]'oM)) (by rw[ay,hb];rfl);rw[h]at hu;cases hu;exact⟨_,hb,ru⟩
def OK(bs:List Bool):(List.range bs.length).all (λi=>bs[i]?.getD false)=bs.all id:=by
 rw[cG,bO,bO];constructor
 . intro h b hb;obtain⟨i,hi,e⟩:=bV hb;have:=h i (aV.mpr hi);rw[ag hi,de,e]at this;exact this
 . intro h i hi;have hi:=aV.mp hi;rw[ag hi,de];exact h _ (aM hi)
def rAll(K:aa)(f:List Bool->Bool):List V->Hp->VK->Prop:=λxs H Q=>∃a bs,xs=[.ref a]/\o7 K H a (bs.map V.bl)/\Q (.bl (f bs)) H
def Gm(hc:X.calm=true):U2 X (.builtin "all") (rAll X.K λbs=>bs.all id):=by
 intro pins s σ H xs us Q I r h;obtain⟨a,bs,rfl,hq,q⟩:=h;obtain⟨u,rfl,ru⟩:=r.one;cases (show u=Value.ref a from ru);obtain⟨its,rv,p,hz⟩:=I.list hq;have lt:a≠s.heap.objs.size:=by obtain⟨o,n,e,_⟩:=p;exact az (ao e)
 have hh:X.A.in1.handled=none:=I.ok.hd hc;have hl:=p.isList;have len:=rv.length;rw[af]at len;refine call_all_walk (wpAny_pyIter_list hl ⟨_,_,_,_,_,_,λi=>bs[i]?.getD false,rfl,Walks.list hh s.heap.objs.size a lt its.toArray,⟨⟨_,aA _ rfl,rfl,rfl⟩,Heap.IsList.push hl _⟩,λi v s' Q' E' hv q'=>?_,λh' tk k=>?_⟩)
 . have hv:its.toArray[i]? = some v:=hv;rw[List.getElem?_toArray]at hv;obtain⟨b,eb,rfl⟩:=Rr rv hv;have q':Q' (bs[i]?.getD false) s':=q';rw[eb]at q';exact wpAny_truthy_bool q'
 . rw[au,<- len,OK];refine⟨.bl _,H,I.kept (t':=tk) λb o e=>k b o (λz=>?_) (ak _ e),rfl,q⟩;rw[av]at z;exact absurd (ao e) (by rw[z];exact aI _)
end
section
variable{prog:Program}{w:World}{A:Around}{E:Value->Shared->Prop}{s:Shared}
end
def En{J:It}{n:Nat}{g:TG}{tb:TS}{D:Gr}{σ:St}{H:Hp}(Pv:Nat->St->Hp->Prop)(h0:Pv 0 σ H)
    (hs:∀i σ H,i < n->Pv i σ H->J.go i H/\∀x H',J.yld i H x H'->g x σ H' λσ2 H2=>tb { D with nx:=Pv (i+1),ct:=Pv (i+1),bk:=D.nx } σ2 H2) (hd:∀σ H,Pv n σ H->J.stop n H/\D.nx σ H) :
    ∃W:Nat->Nat->St->Hp->Prop,(∃m,W 0 m σ H)/\∀i m σ H,W i m σ H->
     (J.stop i H/\D.nx σ H)\/(J.go i H/\∃N:St->Hp->Prop,(∀σ' H',N σ' H'->∃m',m' < m/\W (i+1) m' σ' H')/\∀x H',J.yld i H x H'->g x σ H' λσ2 H2=>tb { D with nx:=N,ct:=N,bk:=D.nx } σ2 H2):=by
 refine⟨λi m σ H=>m=n - i/\i<=n/\Pv i σ H,⟨n,by simp,aR _,h0⟩,?_⟩;rintro i m σ H ⟨rfl,hi,p⟩;by_cases hlt:i < n
 . obtain⟨a,b⟩:=hs i σ H hlt p;exact .inr ⟨a,Pv (i+1),λσ' H' p'=>⟨n - (i+1),oM,rfl,hlt,p'⟩,b⟩
 . have e:i=n:=by omega
   subst e;exact .inl (hd σ H p)
def Jp(l b:Addr)(items items2:Array Value)(n n2:Nat)(dd dd2:Option Addr)(sl sl2:Array (Option Value))(hc0:items.isEmpty=true) :
    Meets (Builtin.«tuple.__add__» ⟨[.ref l,.ref b],[]⟩) (λ_ R s=>s.heap.get? l=some { cls:=.type "tuple",dict:=dd,data:=.seq items n,slots:=sl }/\s.heap.get? b=some { cls:=.type "tuple",dict:=dd2,data:=.seq items2 n2,slots:=sl2 }/\R (.ok (.ret (Value.ref b))) { s with heap:=s.heap,toks:=s.toks }):=
 .of_wp λprog w A R s h=>by obtain⟨hp,g,d,tk,os⟩:=s;obtain⟨hl,hb,h⟩:=h;have f1:=AutoSeq1.idx_int;have f2:=AutoSeq1.sub_tuple_tuple;wp_walk using AutoSeq1.wpAny_loadPart' hl,AutoSeq1.wpAny_loadPart' hb;exact⟨_,rfl,h⟩
def rCatA:R2:=λx y H Q=>∃a b xs ys,x=.ref a/\y=.ref b/\H a=some (.tup xs)/\H b=some (.tup ys)/\xs.length+ys.length<=sizeLine/\
 ∀p H',j0 H H'->H' p=some (.tup (xs++ys))->Q (.ref p) H'
def U7:DH X (binaryOp .Add) rCatA:=by
 intro pins s σ H x y v u Q I rx ry h;obtain⟨a,b,xs,ys,rfl,rfl,ha,hb,hz,q⟩:=h;cases rx;cases ry;by_cases hx:xs=[]
 . obtain⟨its,r1,p1,_⟩:=I.tuple (o9.of ha);obtain⟨its2,r2,p2,_⟩:=I.tuple (o9.of hb);have e0:its=[]:=r1.nil_iff.mpr hx;obtain⟨⟨cls,dd,data,sl⟩,ho,hc,n,hd⟩:=id p1;obtain⟨⟨cls2,dd2,data2,sl2⟩,ho2,hc2,n2,hd2⟩:=id p2;simp only at hc hd hc2 hd2;subst hc hd hc2 hd2;exact concat_meets ⟨_,ho,rfl⟩ ⟨_,ho2,rfl⟩ noFill_tuple_add seq_tuple_add dB dC (dD _ _)
    (Jp a b its.toArray its2.toArray n n2 dd dd2 sl sl2 (by rw[e0];rfl)) ⟨ho,ho2,⟨.ref b,H,I,rfl,q b H (j0.refl _) (by rw[hx];exact hb)⟩⟩
 . exact Sm pins s σ H (.ref a) (.ref b) (.ref a) (.ref b) Q I rfl rfl ⟨a,b,xs,ys,rfl,rfl,o9.of ha,o9.of hb,hx,hz,λz=>q a H (j0.refl _) (by rw[z,bb];exact ha),λ_ p np=>q p _ (c7 np) c4⟩
def B5(H H':Hp):Prop:=∀p vs,H p=some (.tup vs)->H' p=some (.tup vs)
def B5.refl(H:Hp):B5 H H:=λ_ _ h=>h
def B5.trans(x:B5 H H1)(y:B5 H1 H2):B5 H H2:=λp vs h=>y p vs (x p vs h)
def j0.t(x:j0 H H'):B5 H H':=λp vs h=>x p _ h
def j7(Pd:Nat->V->Hp->Prop)(ys:List V)(n:Nat)(H:Hp):Prop:=ys.length=n/\∀j,j < n->∃u,ys[j]? = some u/\Pd j u H
section
variable{Pd Pe:Nat->V->Hp->Prop}{ys:List V}{n:Nat}{H H':Hp}{v:V}
def j7.nil:j7 Pd [] 0 H:=⟨rfl,λj h=>absurd h (cP j)⟩
def j7.mono(h:j7 Pd ys n H)(s:∀j u,j < n->Pd j u H->Pe j u H'):j7 Pe ys n H':=⟨h.1,λj hj=>by
 obtain⟨u,e,p⟩:=h.2 j hj;exact⟨u,e,s j u hj p⟩⟩
def j7.snoc(h:j7 Pd ys n H)(p:Pd n v H):j7 Pd (ys++[v]) (n+1) H:=⟨by rw[aq,h.1];rfl,λj hj=>by
 by_cases hn:j < n
 . obtain⟨u,e,q⟩:=h.2 j hn;exact⟨u,by rw[aH (by rw[h.1];exact hn)];exact e,q⟩
 . have e:j=n:=by omega
   subst e;exact⟨v,by rw[aK (by rw[h.1];exact ae _),h.1,cQ];rfl,p⟩⟩
theorem j7.at(h:j7 Pd ys n H)(e:ys[j]? = some u):j < n/\Pd j u H:=by
 have hj:j < n:=by rw[<- h.1];exact(aQ.mp e).1
 obtain⟨u',e',p⟩:=h.2 j hj;rw[e]at e';cases e';exact⟨hj,p⟩
end
def N8(Pd:Nat->V->Hp->Prop)(n:Nat)(v:V)(H:Hp):Prop:=∃p vs,v=.ref p/\H p=some (.tup vs)/\j7 Pd vs n H
def EE(K:aa)(Pd:Nat->V->Hp->Prop)(n:Nat)(v:V)(H:Hp):Prop:=∃S vs,Sr.ofV S v/\S.vals K H vs/\(∀H',j0 H H'->S.vals K H' vs/\X2 K v H' vs.length)/\j7 Pd vs n H
def N8.seq{K:aa}{Pd:Nat->V->Hp->Prop}{n:Nat}{v:V}{H:Hp}(h:N8 Pd n v H):EE K Pd n v H:=by
 obtain⟨p,vs,rfl,hp,e⟩:=h;exact⟨.tup p,vs,rfl,o9.of hp,λH' q=>⟨o9.of (q _ _ hp),.inr ⟨_,o9.of (q _ _ hp),rfl⟩⟩,e⟩
theorem N8.mono(h:N8 Pd n v H)(s:B5 H H')(m:∀j u,j < n->Pd j u H->Pe j u H'):N8 Pe n v H':=by
 obtain⟨p,vs,rfl,hp,e⟩:=h;exact⟨p,vs,rfl,s _ _ hp,e.mono m⟩
theorem EE.mono{K:aa}{Pd Pe:Nat->V->Hp->Prop}{n:Nat}{v:V}{H H':Hp}(h:EE K Pd n v H)(s:j0 H H')(m:∀j u,j < n->Pd j u H->Pe j u H'):EE K Pe n v H':=by
 obtain⟨S,vs,e,hv,hs,he⟩:=h;exact⟨S,vs,e,(hs _ s).1,λH2 q=>hs _ (s.trans q),he.mono m⟩
def EE.list{K:aa}{Pd:Nat->V->Hp->Prop}{n:Nat}{p:Addr}{vs:List V}{H:Hp}(hp:H p=some (.lst vs))(e:j7 Pd vs n H):EE K Pd n (.ref p) H:=
 ⟨.lst p,vs,rfl,o7.of hp,λH' q=>⟨o7.of (q _ _ hp),.inl ⟨_,o7.of (q _ _ hp),rfl⟩⟩,e⟩
def N8.len{K:aa}{Pd:Nat->V->Hp->Prop}{n:Nat}{v:V}{H:Hp}(h:N8 Pd n v H):X2 K v H n:=by
 obtain⟨p,vs,rfl,hp,e⟩:=h;have e1:=e.1;subst e1;exact .inr ⟨_,o9.of hp,rfl⟩
def w5{J:It}{n k:Nat}{g:TG}{te:TE}{σ:St}{Q:VK}{H1:Hp}(Pv:Nat->List V->Hp->Prop)(hn:n<=1000)(h0:Pv 0 [] H1)(hl:∀i ys H,Pv i ys H->ys.length=i)
    (hgo:∀i ys H,i < n->Pv i ys H->J.go i H/\∀x H',J.yld i H x H'->g x (σ++List.replicate k none) H' λσ2 H2=>(∃zs,σ2=σ++zs/\zs.length=k)/\te σ2 H2 λv H3=>Pv (i+1) (ys++[v]) H3)
    (hstop:∀ys H,Pv n ys H->J.stop n H) (hend:∀ys H p,Pv n ys H->H p=none->Q (.ref p) (upd H p (.lst ys))) :
    Ui J k g te σ Q H1:=by
 have z:1000 < sizeLine:=by decide
 refine⟨λi m ys H=>m=n - i/\i<=n/\Pv i ys H,⟨n,rfl,aR _,h0⟩,?_⟩;rintro i m ys H ⟨rfl,hi,p⟩;have yl:=hl i ys H p;by_cases hlt:i < n
 . obtain⟨a,b⟩:=hgo i ys H hlt p;refine .inr ⟨a,oM,λx H' y=>?_⟩;have c:=b x H' y;have e:(λσ2 H2=>(∃zs,σ2=σ++zs/\zs.length=k)/\te σ2 H2 λv H3=>∃m',m' < n - i/\m'=n - (i+1)/\i+1<=n/\Pv (i+1) (ys++[v]) H3)=λσ2 H2=>(∃zs,σ2=σ++zs/\zs.length=k)/\te σ2 H2 λv H3=>Pv (i+1) (ys++[v]) H3:=by
    funext σ2 H2;congr 2;funext v H3;exact propext ⟨λ⟨_,_,_,_,q⟩=>q,λq=>⟨_,oM,rfl,hlt,q⟩⟩
   rw[e];exact c
 . have e:i=n:=by omega
   subst e;exact .inl ⟨hstop ys H p,oM,λq nq=>hend ys H q p nq⟩
end L2
namespace Mine
def sm(S:SR)(f:Nat->S.W):Nat->S.W
 | 0=>S.zero
 | n+1=>S.add (sm S f n) (f n)
section
variable{S:SR}
theorem u7:∀{n:Nat},(∀i,i < n->f i=g i)->sm S f n=sm S g n
 | 0,_=>rfl
 | n+1,h=>by
  show S.add _ _=S.add _ _;rw[u7 λi hi=>h i (dg hi),h n (bR n)]
theorem O0:∀n:Nat,sm S (λ_=>S.zero) n=S.zero
 | 0=>rfl
 | n+1=>by show S.add _ _=_;rw[O0 n,S.add_zero]
theorem Y9(f g:Nat->S.W):∀n:Nat,sm S (λi=>S.add (f i) (g i)) n=S.add (sm S f n) (sm S g n)
 | 0=>(S.add_zero S.zero).symm
 | n+1=>by
  show S.add _ _=S.add (S.add _ _) (S.add _ _);rw[Y9 f g n,S.add_assoc,S.add_assoc];congr 1;rw[<- S.add_assoc,S.add_comm (sm S g n) (f n),S.add_assoc]
theorem Fn(c:S.W)(f:Nat->S.W):∀n:Nat,S.mul c (sm S f n)=sm S (λi=>S.mul c (f i)) n
 | 0=>S.mul_zero c
 | n+1=>by
  show S.mul c (S.add _ _)=S.add _ _;rw[S.distrib,Fn c f n]
def RI(c:S.W)(f:Nat->S.W)(n:Nat):S.mul (sm S f n) c=sm S (λi=>S.mul (f i) c) n:=by
 rw[S.mul_comm,Fn];exact u7 λi _=>S.mul_comm _ _
theorem Na(f:Nat->Nat->S.W)(k:Nat):∀n:Nat,sm S (λi=>sm S (λj=>f i j) k) n=sm S (λj=>sm S (λi=>f i j) n) k
 | 0=>(O0 k).symm
 | n+1=>by
  show S.add _ _=_;rw[Na f k n,<- Y9];rfl
def Fo(r:Nat->S.W)(A:Nat->Nat->S.W)(b:Nat->S.W)(h w:Nat) :
    sm S (λj=>S.mul (sm S (λi=>S.mul (r i) (A i j)) h) (b j)) w=sm S (λi=>S.mul (r i) (sm S (λj=>S.mul (A i j) (b j)) w)) h:=by
 have e1:∀j,j < w->S.mul (sm S (λi=>S.mul (r i) (A i j)) h) (b j)=sm S (λi=>S.mul (r i) (S.mul (A i j) (b j))) h:=λj _=>by
  rw[RI];exact u7 λi _=>S.mul_assoc _ _ _
 have e2:∀i,i < h->S.mul (r i) (sm S (λj=>S.mul (A i j) (b j)) w)=sm S (λj=>S.mul (r i) (S.mul (A i j) (b j))) w:=λi _=>Fn _ _ _;rw[u7 e1,u7 e2,Na]
end
structure Ab(S:SR)where
 neg:S.W->S.W
 inv:S.W->S.W
 add_neg:∀x,S.add x (neg x)=S.zero
 mul_inv:∀x,x≠S.zero->S.mul x (inv x)=S.one
 sz_neg:∀m x,S.sz m x->S.sz m (neg x)
 sz_inv:∀m x,x≠S.zero->S.sz m x->S.sz m (inv x)
section
variable{S:SR}{F:Ab S}
def MF(x:S.W):S.add S.zero x=x:=by rw[S.add_comm,S.add_zero]
def Hi(x:S.W):S.mul S.zero x=S.zero:=by rw[S.mul_comm,S.mul_zero]
def QV(x:S.W):S.mul S.one x=x:=by rw[S.mul_comm,S.mul_one]
def Tf(x y z:S.W):S.mul (S.add x y) z=S.add (S.mul x z) (S.mul y z):=by rw[S.mul_comm,S.distrib,S.mul_comm z x,S.mul_comm z y]
def Ga(h:S.add x y=S.zero):y=F.neg x:=by
 have e:S.add (F.neg x) (S.add x y)=y:=by rw[<- S.add_assoc,S.add_comm (F.neg x) x,F.add_neg,MF]
 rw[h,S.add_zero]at e;exact e.symm
def Wb:F.neg S.zero=S.zero:=(Ga (F:=F) (S.add_zero S.zero)).symm
def Tc(x:S.W):F.neg (F.neg x)=x:=(Ga (F:=F) (by rw[S.add_comm,F.add_neg])).symm
def MG(x y:S.W):S.mul (F.neg x) y=F.neg (S.mul x y):=Ga (by rw[<- Tf,F.add_neg,Hi])
def Te(x y:S.W):S.mul x (F.neg y)=F.neg (S.mul x y):=by rw[S.mul_comm,MG,S.mul_comm]
def Td(x y:S.W):F.neg (S.add x y)=S.add (F.neg x) (F.neg y):=(Ga (F:=F) (by
 rw[S.add_assoc,<- S.add_assoc y,S.add_comm y,S.add_assoc,F.add_neg,S.add_zero,F.add_neg])).symm
def e0c(h:S.add x (F.neg y)=S.zero):x=y:=by
 have e:=Ga (F:=F) (show S.add (F.neg y) x=S.zero by rw[S.add_comm];exact h);rw[e,Tc]
def Wc(a b c d:S.W):S.add (S.add a b) (S.add c d)=S.add (S.add a c) (S.add b d):=by
 rw[S.add_assoc,S.add_assoc];congr 1;rw[<- S.add_assoc,S.add_comm b c,S.add_assoc]
theorem Ar:∀{n:Nat},i < n->(∀k,k < n->k≠i->f k=S.zero)->sm S f n=f i
 | 0,h,_=>absurd h (cP _)
 | n+1,h,z=>by
  show S.add _ _=_;by_cases e:i=n
  . subst e;rw[u7 (g:=λ_=>S.zero) (λk hk=>z k oM oM),O0,MF]
  . rw[Ar (i:=i) oM (λk hk hn=>z k oM hn),z n oM oM,S.add_zero]
def lin(S:SR)(c:Nat->S.W)(vs:Nat->Nat->S.W)(n:Nat):Nat->S.W:=λj=>sm S (λk=>S.mul (c k) (vs k j)) n
def SN(c d:Nat->S.W)(vs:Nat->Nat->S.W)(n j:Nat):lin S (λk=>S.add (c k) (d k)) vs n j=S.add (lin S c vs n j) (lin S d vs n j):=by
 unfold lin;rw[<- Y9];exact u7 λk _=>Tf _ _ _
def SK(a:S.W)(c:Nat->S.W)(vs:Nat->Nat->S.W)(n j:Nat):lin S (λk=>S.mul a (c k)) vs n j=S.mul a (lin S c vs n j):=by
 unfold lin;rw[Fn];exact u7 λk _=>S.mul_assoc _ _ _
def QA(vs:Nat->Nat->S.W)(n j:Nat):lin S (λ_=>S.zero) vs n j=S.zero:=by
 unfold lin;rw[u7 (g:=λ_=>S.zero) λk _=>Hi _,O0]
def SJ(h:i < n):lin S (λk=>if k=i then S.one else S.zero) vs n j=vs i j:=by
 unfold lin;rw[Ar (i:=i) h λk _ hk=>by dsimp only;rw[if_neg hk,Hi]];dsimp only;rw[if_pos rfl,QV]
def SM(c:Nat->S.W)(A:Nat->Nat->S.W)(vs:Nat->Nat->S.W)(m n j:Nat):sm S (λi=>S.mul (c i) (lin S (A i) vs n j)) m=lin S (λk=>sm S (λi=>S.mul (c i) (A i k)) m) vs n j:=(Fo c A (λk=>vs k j) m n).symm
def Q3(S:SR)(w n:Nat)(vs:Nat->Nat->S.W)(u:Nat->S.W):Prop:=∃c,∀j,j < w->u j=lin S c vs n j
theorem Q3.add(h:Q3 S w n vs u)(g:Q3 S w n vs v):Q3 S w n vs λj=>S.add (u j) (v j):=by
 obtain⟨c,hc⟩:=h;obtain⟨d,hd⟩:=g;exact⟨λk=>S.add (c k) (d k),λj hj=>by dsimp only;rw[SN,hc j hj,hd j hj]⟩
theorem Q3.mul(a:S.W)(h:Q3 S w n vs u):Q3 S w n vs λj=>S.mul a (u j):=by
 obtain⟨c,hc⟩:=h;exact⟨λk=>S.mul a (c k),λj hj=>by dsimp only;rw[SK,hc j hj]⟩
def Q3.gen(h:i < n):Q3 S w n vs (vs i):=⟨_,λj _=>(SJ h).symm⟩
theorem Q3.lin(h:∀i,i < m->Q3 S w n vs (us i)):Q3 S w n vs (lin S c us m):=by
 have hc:∀i,∃d:Nat->S.W,i < m->∀j,j < w->us i j=Mine.lin S d vs n j:=λi=>by
  by_cases hi:i < m
  . obtain⟨d,hd⟩:=h i hi;exact⟨d,λ_=>hd⟩
  . exact⟨λ_=>S.zero,λz=>absurd z hi⟩
 refine⟨λk=>sm S (λi=>S.mul (c i) ((hc i).choose k)) m,λj hj=>?_⟩;rw[<- SM c λi=>(hc i).choose];exact u7 λi hi=>by rw[(hc i).choose_spec hi j hj]
def Q3.congr(h:Q3 S w n vs u)(e:∀j,j < w->v j=u j):Q3 S w n vs v:=by
 obtain⟨c,hc⟩:=h;exact⟨c,λj hj=>by rw[e j hj,hc j hj]⟩
def stp(F:Ab S)(k:Nat × (Nat->S.W))(r:Nat->S.W):Nat->S.W:=λj=>S.add (r j) (S.mul (F.neg (r k.1)) (k.2 j))
def clr(F:Ab S)(ks:List (Nat × (Nat->S.W)))(r:Nat->S.W):Nat->S.W:=ks.foldl (λr k=>stp F k r) r
def P9(k:Nat × (Nat->S.W))(ks:List (Nat × (Nat->S.W)))(r:Nat->S.W):clr F (k::ks) r=clr F ks (stp F k r):=rfl
def BJ(k:Nat × (Nat->S.W))(ks:List (Nat × (Nat->S.W)))(r:Nat->S.W):clr F (ks++[k]) r=stp F k (clr F ks r):=by
 unfold clr;rw[cR];rfl
def Js(h:r k.1=S.zero):stp F k r=r:=by
 funext j;unfold stp;rw[h,Wb,Hi,S.add_zero]
def Rz(k:Nat × (Nat->S.W))(u v:Nat->S.W):stp F k (λj=>S.add (u j) (v j))=λj=>S.add (stp F k u j) (stp F k v j):=by
 funext j;unfold stp;rw[Td,Tf,Wc]
def Ry(k:Nat × (Nat->S.W))(a:S.W)(u:Nat->S.W):stp F k (λj=>S.mul a (u j))=λj=>S.mul a (stp F k u j):=by
 funext j;unfold stp;rw[S.distrib,<- S.mul_assoc,Te]
theorem NK:∀(ks:List (Nat × (Nat->S.W))) (u v:Nat->S.W),clr F ks (λj=>S.add (u j) (v j))=λj=>S.add (clr F ks u j) (clr F ks v j)
 | [],_,_=>rfl
 | k::ks,u,v=>by rw[P9,Rz,NK ks];rfl
theorem NI:∀(ks:List (Nat × (Nat->S.W))) (a:S.W) (u:Nat->S.W),clr F ks (λj=>S.mul a (u j))=λj=>S.mul a (clr F ks u j)
 | [],_,_=>rfl
 | k::ks,a,u=>by rw[P9,Ry,NI ks];rfl
theorem KW:∀(ks:List (Nat × (Nat->S.W))),clr F ks (λ_=>S.zero)=λ_=>S.zero
 | []=>rfl
 | k::ks=>by rw[P9,Js rfl,KW ks]
theorem NJ(ks:List (Nat × (Nat->S.W)))(c:Nat->S.W)(vs:Nat->Nat->S.W):∀n,clr F ks (lin S c vs n)=lin S c (λk=>clr F ks (vs k)) n
 | 0=>KW ks
 | n+1=>by
  have e:lin S c vs (n+1)=λj=>S.add (lin S c vs n j) (S.mul (c n) (vs n j)):=rfl;rw[e,NK,NJ ks c vs n,NI];rfl
theorem Gh:∀{ks:List (Nat × (Nat->S.W))} {u v:Nat->S.W},(∀k∈ks,k.1 < w)->(∀j,j < w->u j=v j)->∀j,j < w->clr F ks u j=clr F ks v j
 | [],_,_,_,e=>e
 | k::ks,u,v,h,e=>by
  rw[P9,P9];refine Gh (λq hq=>h q (aD _ hq)) λj hj=>?_;unfold stp;rw[e j hj,e k.1 (h k (aw ..))]
structure Kp(S:SR)(w:Nat)(ks:List (Nat × (Nat->S.W))):Prop where
 lt:∀k∈ks,k.1 < w
 one:∀k∈ks,k.2 k.1=S.one
 tri:ks.Pairwise λa b=>b.2 a.1=S.zero
theorem Kp.nil:Kp S w []:=⟨by simp,by simp,.nil⟩
theorem DF:∀{ks:List (Nat × (Nat->S.W))} {u:Nat->S.W},(∀k∈ks,k.2 p=S.zero)->clr F ks u p=u p
 | [],_,_=>rfl
 | k::ks,u,h=>by
  rw[P9,DF λq hq=>h q (aD _ hq)];unfold stp;rw[h k (aw ..),S.mul_zero,S.add_zero]
def Kp.tail(h:Kp S w (k::ks)):Kp S w ks:=⟨λq hq=>h.lt q (aD _ hq),λq hq=>h.one q (aD _ hq),(List.pairwise_cons.mp h.tri).2⟩
theorem Kp.clr:∀{ks:List (Nat × (Nat->S.W))} {u:Nat->S.W},Kp S w ks->∀k∈ks,clr F ks u k.1=S.zero
 | [],_,_,k,hk=>by cases hk
 | q::ks,u,h,k,hk=>by
  rw[P9];rcases ar.mp hk with rfl | hk
  . rw[DF λb hb=>(List.pairwise_cons.mp h.tri).1 b hb];unfold stp;rw[h.one k (aw ..),S.mul_one,F.add_neg]
  . exact Kp.clr h.tail k hk
theorem Ms:∀(w:Nat) (l:List Nat),l.Nodup->(∀x∈l,x < w)->l.length<=w
 | 0,l,_,h=>by
  cases l with
  | nil=>exact ae _
  | cons a l=>exact absurd (h a (aw ..)) (cP _)
 | w+1,l,nd,h=>by
  have:=Ms w (l.erase w) (nd.erase w) λx hx=>by
   have h1:=(nd.mem_erase_iff.mp hx);have:=h x h1.2;have:=h1.1;omega
  have e:=List.length_erase (a:=w) (l:=l);split at e <;>omega
def ML{w:Nat}{l:List Nat}(nd:l.Nodup)(h:∀x∈l,x < w)(e:l.length=w){j:Nat}(hj:j < w):j∈l:=by
 refine Classical.byContradiction λn=>?_;have:=Ms w (j::l) (bS.mpr ⟨n,nd⟩) λx hx=>by
  rcases ar.mp hx with rfl | hx
  . exact hj
  . exact h x hx
 rw[bq]at this;omega
def Kp.places(h:Kp S w ks):(ks.map Prod.fst).Nodup:=by
 rw[List.nodup_iff_pairwise_ne,cz];refine List.Pairwise.imp_of_mem (λ{a b} ha hb e z=>?_) h.tri;have:=h.one b hb;rw[<- z,e]at this;exact S.zo this
def Kp.len(h:Kp S w ks):ks.length<=w:=by
 have:=Ms w _ h.places λx hx=>by
  obtain⟨k,hk,rfl⟩:=aE.mp hx;exact h.lt k hk
 rw[af]at this;exact this
def Kp.full{w:Nat}{ks:List (Nat × (Nat->S.W))}{u:Nat->S.W}(h:Kp S w ks)(e:ks.length=w):∀j,j < w->Mine.clr F ks u j=S.zero:=λj hj=>by
 have:=ML h.places (λx hx=>by
  obtain⟨k,hk,rfl⟩:=aE.mp hx;exact h.lt k hk) (by rw[af];exact e) hj
 obtain⟨k,hk,rfl⟩:=aE.mp this;exact h.clr k hk
open Classical in
noncomputable def BG(v:Nat->S.W):Nat->Option Nat
 | 0=>none
 | w+1=>match BG v w with
  | some p=>some p
  | none=>if v w=S.zero then none else some w
theorem V0:∀{w:Nat},BG v w=none->∀j,j < w->v j=S.zero
 | 0,_,j,hj=>absurd hj (cP j)
 | w+1,h,j,hj=>by
  unfold BG at h;split at h
  . cases h
  . rename_i e;split at h
    . rename_i z;by_cases e':j=w
      . rw[e'];exact z
      . exact V0 e j oM
    . cases h
theorem R4:∀{w:Nat},BG v w=some p->p < w/\v p≠S.zero/\∀j,j < p->v j=S.zero
 | 0,h=>by cases h
 | w+1,h=>by
  unfold BG at h;split at h
  . rename_i q e;cases h;obtain⟨a,b⟩:=R4 e;exact⟨oM,b⟩
  . rename_i e;split at h
    . cases h
    . rename_i z;cases h;exact⟨oM,z,V0 e⟩
def IS(h:∀j,j < w->v j=S.zero):BG v w=none:=by
 cases e:BG v w with
 | none=>rfl
 | some p=>exact absurd (h p (R4 e).1) (R4 e).2.1
open Classical in
noncomputable def AI(F:Ab S)(w:Nat)(ks:List (Nat × (Nat->S.W)))(r:Nat->S.W):List (Nat × (Nat->S.W)):=
 if ks.length=w then ks else match BG (clr F ks r) w with
  | none=>ks
  | some p=>ks++[(p,λj=>S.mul (F.inv (clr F ks r p)) (clr F ks r j))]
def R5(M:List (Nat × (Nat->S.W))->Prop)(h1:ks.length=w->M ks)(h2:(∀j,j < w->clr F ks r j=S.zero)->M ks)(h3:∀p,p < w->clr F ks r p≠S.zero->M (ks++[(p,λj=>S.mul (F.inv (clr F ks r p)) (clr F ks r j))])):M (AI F w ks r):=by
 unfold AI;split
 . rename_i e;exact h1 e
 . split
   . rename_i e;exact h2 (V0 e)
   . rename_i p e;exact h3 p (R4 e).1 (R4 e).2.1
def Mt(h:Kp S w ks):Kp S w (AI F w ks r):=by
 refine R5 (λl=>Kp S w l) (λ_=>h) (λ_=>h) λp hp np=>?_;refine⟨λk hk=>?_,λk hk=>?_,List.pairwise_append.mpr ⟨h.tri,List.pairwise_singleton _ _,λa ha b hb=>?_⟩⟩
 . rcases aF.mp hk with hk | hk
   . exact h.lt k hk
   . rw[av.mp hk];exact hp
 . rcases aF.mp hk with hk | hk
   . exact h.one k hk
   . rw[av.mp hk];show S.mul _ _=_;rw[S.mul_comm,F.mul_inv _ np]
 . rw[av.mp hb];show S.mul _ (clr F ks r a.1)=_;rw[h.clr a ha,S.mul_zero]
def Nm(z:∀j,j < w->clr F ks u j=S.zero):∀j,j < w->clr F (AI F w ks r) u j=S.zero:=by
 refine R5 (λl=>∀j,j < w->clr F l u j=S.zero) (λ_=>z) (λ_=>z) λp hp np j hj=>?_;rw[BJ];unfold stp;rw[z j hj,z p hp,Wb,Hi,S.add_zero]
def Nn(h:Kp S w ks):∀j,j < w->clr F (AI F w ks r) r j=S.zero:=by
 refine R5 (λl=>∀j,j < w->clr F l r j=S.zero) (λe=>h.full e) (λz=>z) λp hp np j hj=>?_;rw[BJ];show S.add _ (S.mul (F.neg (clr F ks r p)) (S.mul (F.inv _) _))=_;rw[<- S.mul_assoc,MG,F.mul_inv _ np,MG,QV,F.add_neg]
noncomputable def kpL(F:Ab S)(w:Nat)(rs:List (Nat->S.W)):List (Nat × (Nat->S.W)):=rs.foldl (AI F w) []
def FQ:kpL F w (rs++[r])=AI F w (kpL F w rs) r:=by
 unfold kpL;rw[cR];rfl
def EY(M:List (Nat->S.W)->List (Nat × (Nat->S.W))->Prop)(h0:M [] [])(h1:∀rs ks r,Kp S w ks->M rs ks->M (rs++[r]) (AI F w ks r))(rs:List (Nat->S.W)):Kp S w (kpL F w rs)/\M rs (kpL F w rs):=by
 have key:∀n rs,rs.length=n->Kp S w (kpL F w rs)/\M rs (kpL F w rs):=by
  intro n
  induction n with
  | zero=>
   intro rs e;cases bw.mp e;exact⟨Kp.nil,h0⟩
  | succ n ih=>
   intro rs e;have ne:rs≠[]:=λz=>by rw[z]at e;cases e
   have sp:=dh ne;obtain⟨a,b⟩:=ih rs.dropLast (by rw[di,e];rfl);rw[<- sp,FQ];exact⟨Mt a,h1 _ _ _ a b⟩
 exact key _ rs rfl
def CK(rs:List (Nat->S.W)):Kp S w (kpL F w rs):=(EY (λ_ _=>True) trivial (λ_ _ _ _ _=>trivial) rs).1
def SQ(rs:List (Nat->S.W)):∀r∈rs,∀j,j < w->clr F (kpL F w rs) r j=S.zero:=(EY (λrs ks=>∀r∈rs,∀j,j < w->clr F ks r j=S.zero) (by simp) (λrs ks r K M q hq=>by
 rcases aF.mp hq with hq | hq
 . exact Nm (M q hq)
 . rw[av.mp hq];exact Nn K) rs).2
def kv(ks:List (Nat × (Nat->S.W))):Nat->Nat->S.W:=λi=>(ks.getD i (0,λ_=>S.zero)).2
def kp(ks:List (Nat × (Nat->S.W))):Nat->Nat:=λi=>(ks.getD i (0,λ_=>S.zero)).1
def QK{ks:List (Nat × (Nat->S.W))}{i:Nat}(h:i < ks.length):ks.getD i (0,λ_=>S.zero)∈ks:=by
 rw[bD,ag h];exact aM h
theorem NH:∀{ks:List (Nat × (Nat->S.W))} {u:Nat->S.W},(∀k∈ks,Q3 S w n vs k.2)->Q3 S w n vs u->Q3 S w n vs (clr F ks u)
 | [],_,_,h=>h
 | k::ks,u,hk,h=>by
  rw[P9];exact NH (λq hq=>hk q (aD _ hq)) (h.add ((hk k (aw ..)).mul _))
def SS(h:∀k∈ks,Q3 S w n vs k.2)(g:Q3 S w n vs r):∀k∈AI F w ks r,Q3 S w n vs k.2:=by
 refine R5 (λl=>∀k∈l,Q3 S w n vs k.2) (λ_=>h) (λ_=>h) λp hp np k hk=>?_;rcases aF.mp hk with hk | hk
 . exact h k hk
 . rw[av.mp hk];exact(NH h g).mul _
def Nl(rs:List (Nat->S.W))(h:∀r∈rs,Q3 S w n vs r):∀k∈kpL F w rs,Q3 S w n vs k.2:=by
 refine(EY (F:=F) (w:=w) (λrs ks=>(∀r∈rs,Q3 S w n vs r)->∀k∈ks,Q3 S w n vs k.2) (λ_=>by simp) (λrs ks r K M h=>?_) rs).2 h;exact SS (M λq hq=>h q (aW _ hq)) (h r (ax _ (cA r)))
theorem BK:∀{ks:List (Nat × (Nat->S.W))} {u:Nat->S.W},(∀k∈ks,Q3 S w n vs k.2)->Q3 S w n vs (λj=>S.add (clr F ks u j) (F.neg (u j)))
 | [],u,_=>⟨λ_=>S.zero,λj _=>by rw[QA];exact F.add_neg _⟩
 | k::ks,u,hk=>by
  rw[P9];have h1:=BK (u:=stp F k u) λq hq=>hk q (aD _ hq);have h2:=(hk k (aw ..)).mul (F.neg (u k.1));refine(h1.add h2).congr λj _=>?_;show _=S.add (S.add _ (F.neg (S.add (u j) (S.mul (F.neg (u k.1)) (k.2 j))))) _;rw[Td,S.add_assoc,S.add_assoc,S.add_comm (F.neg (S.mul _ _)),F.add_neg,S.add_zero]
def QC(rs:List (Nat->S.W)):∀r∈rs,Q3 S w (kpL F w rs).length (kv (kpL F w rs)) r:=λr hr=>by
 have h:=BK (F:=F) (w:=w) (n:=(kpL F w rs).length) (vs:=kv (kpL F w rs)) (ks:=kpL F w rs) (u:=r) λk hk=>by
  obtain⟨i,hi,e⟩:=bV hk;have:=Q3.gen (S:=S) (w:=w) (vs:=kv (kpL F w rs)) hi;have e2:kv (kpL F w rs) i=k.2:=by
   unfold kv;rw[bD,ag hi,<- e];rfl
  rw[e2]at this;exact this
 refine(h.mul (F.neg S.one)).congr λj hj=>?_;rw[SQ rs r hr j hj,MF,MG,QV,Tc]
end
structure Cb(S:SR)where
 cb:Nat->Nat->S.W->Prop
 mono:∀b t t' x,t<=t'->cb b t x->cb b t' x
 add:∀b t t' x y,cb b t x->cb b t' y->cb b (t+t') (S.add x y)
 mul:∀b b' t t' x y,cb b t x->cb b' t' y->cb (b * b') (t * t') (S.mul x y)
 up:∀b t k x,0 < k->cb b t x->cb (b * k) (t * k) x
 zero:∀b,0 < b->cb b 0 S.zero
 one:cb 1 1 S.one
 neg:∀b t x y,S.add x y=S.zero->cb b t x->cb b t y
 div:∀b t x z,S.mul x z=S.one->cb b t x->∃c,0 < c/\c<=max 1 t/\∀y t',cb b t' y->cb c t' (S.mul z y)
 sz:∀b t m x,b<=2 ^ m->t<=2 ^ m->cb b t x->S.sz m x
 dr:∀x,S.sz 2 x->cb 12 48 x
def Fr.cb(b t:Nat)(x:Fr):Prop:=0 < b/\∃a:Int,x.t * b=a * x.b/\a.natAbs<=t
def Fr.cb_add{b t t':Nat}{x y:Fr}(h:x.cb b t)(h':y.cb b t'):(Fr.add x y).cb b (t+t'):=by
 obtain⟨hb,a,e,l⟩:=h;obtain⟨_,a',e',l'⟩:=h';refine⟨hb,a+a',?_,by have:=Int.natAbs_add_le a a';omega⟩;have hc:(Fr.add x y).t * (x.b * y.b)=(x.t * y.b+y.t * x.b) * (Fr.add x y).b:=Fr.of_cross _ _ (aL x.p y.p);refine bf (cu x.nb y.nb) ?_;rw[aO,hc];have e2:(x.t * y.b+y.t * x.b) * (Fr.add x y).b * b=((x.t * b) * y.b+(y.t * b) * x.b) * (Fr.add x y).b:=by
  rw[aO,Int.add_mul,aO x.t,aO y.t]
 rw[e2,e,e'];have e3:a * x.b * y.b+a' * y.b * x.b=(a+a') * (x.b * y.b):=by
  rw[Int.add_mul,aG,aG a',aN y.b x.b]
 rw[e3,aO]
def Fr.cb_mul{b b' t t':Nat}{x y:Fr}(h:x.cb b t)(h':y.cb b' t'):(Fr.mul x y).cb (b * b') (t * t'):=by
 obtain⟨hb,a,e,l⟩:=h;obtain⟨hb',a',e',l'⟩:=h';refine⟨bW hb hb',a * a',?_,by rw[bu];exact bx l l'⟩;have hc:(Fr.mul x y).t * (x.b * y.b)=(x.t * y.t) * (Fr.mul x y).b:=Fr.of_cross _ _ (aL x.p y.p);refine bf (cu x.nb y.nb) ?_;rw[aO,hc,Int.natCast_mul];have e2:x.t * y.t * (Fr.mul x y).b * ((b:Int) * b')=(x.t * b) * (y.t * b') * (Fr.mul x y).b:=by ac_rfl
 rw[e2,e,e'];ac_rfl
def Fr.cb_up{b t k:Nat}{x:Fr}(hk:0 < k)(h:x.cb b t):x.cb (b * k) (t * k):=by
 obtain⟨hb,a,e,l⟩:=h;refine⟨bW hb hk,a * k,?_,by rw[bu,Int.natAbs_natCast];exact bh _ l⟩;rw[Int.natCast_mul,<- aG,e,aO]
def Fr.cb_neg{b t:Nat}{x y:Fr}(hz:Fr.add x y=Fr.zero)(h:x.cb b t):y.cb b t:=by
 obtain⟨hb,a,e,l⟩:=h;have hc:(Fr.add x y).t * (x.b * y.b)=(x.t * y.b+y.t * x.b) * (Fr.add x y).b:=Fr.of_cross _ _ (aL x.p y.p);rw[hz]at hc;have hc:0 * (x.b * y.b)=(x.t * y.b+y.t * x.b) * 1:=hc;rw[Int.zero_mul,cf]at hc;refine⟨hb,-a,?_,by rw[Int.natAbs_neg];exact l⟩;refine bf x.nb ?_;have e1:y.t * x.b = -(x.t * y.b):=by omega
 rw[aO,e1,cq,cq,cq,aO,e];congr 1;ac_rfl
def Fr.cb_div{b t:Nat}{x z:Fr}(ho:Fr.mul x z=Fr.one)(h:x.cb b t):∃c,0 < c/\c<=max 1 t/\∀(y:Fr) t',y.cb b t'->(Fr.mul z y).cb c t':=by
 obtain⟨hb,a,e,l⟩:=h;have hc:(Fr.mul x z).t * (x.b * z.b)=(x.t * z.t) * (Fr.mul x z).b:=Fr.of_cross _ _ (aL x.p z.p);rw[ho]at hc;have hc:1 * (x.b * z.b)=(x.t * z.t) * 1:=hc;rw[Int.one_mul,cf]at hc;have hz:z.t * a=z.b * b:=by
  refine bf x.nb ?_;have:z.t * a * x.b=z.t * (x.t * b):=by rw[e];ac_rfl
  rw[this];have:z.t * (x.t * b)=(x.t * z.t) * b:=by ac_rfl
  rw[this,<- hc];ac_rfl
 have ha:a≠0:=λz0=>by
  rw[z0,Int.mul_zero]at hz;rcases Int.mul_eq_zero.mp hz.symm with q | q
  . exact z.nb q
  . omega
 refine⟨a.natAbs,Int.natAbs_pos.mpr ha,oM,λy t' hy=>?_⟩;obtain⟨_,a',e',l'⟩:=hy;have key:(Fr.mul z y).t * a=a' * (Fr.mul z y).b:=by
  have hc:(Fr.mul z y).t * (z.b * y.b)=(z.t * y.t) * (Fr.mul z y).b:=Fr.of_cross _ _ (aL z.p y.p);refine bf (cu z.nb y.nb) ?_;rw[aO,hc];have e1:z.t * y.t * (Fr.mul z y).b * a=(z.t * a) * y.t * (Fr.mul z y).b:=by ac_rfl
  have e2:a' * (Fr.mul z y).b * (z.b * y.b)=(a' * y.b) * z.b * (Fr.mul z y).b:=by ac_rfl
  rw[e1,e2,hz,<- e'];ac_rfl
 refine⟨Int.natAbs_pos.mpr ha,?_⟩;rcases Int.natAbs_eq a with q | q
 . exact⟨a',by rw[<- q];exact key,l'⟩
 . refine⟨-a',?_,by rw[Int.natAbs_neg];exact l'⟩;have:((a.natAbs:Nat):Int) = -a:=by omega
   rw[this,Int.mul_neg,cq,key]
def Fr.cb_sz{b t m:Nat}{x:Fr}(hb:b<=2 ^ m)(ht:t<=2 ^ m)(h:x.cb b t):x.sz m:=by
 obtain⟨pb,a,e,l⟩:=h;have cop:Nat.Coprime x.t.natAbs x.b.natAbs:=by
  have l:=x.l;unfold dv at l;have:Int.gcd x.t x.b=1:=by omega
  exact this
 have e':x.t.natAbs * b=a.natAbs * x.b.natAbs:=by
  have:=congrArg Int.natAbs e;rw[bu,bu,Int.natAbs_natCast]at this;exact this
 constructor
 . have d:x.t.natAbs ∣ a.natAbs:=cop.dvd_of_dvd_mul_right ⟨b,e'.symm⟩;by_cases z:a.natAbs=0
   . rw[z,Nat.zero_mul]at e';rcases Nat.mul_eq_zero.mp e' with h | h <;>omega
   . exact ah (cy oM d) (ah l ht)
 . have d:x.b.natAbs ∣ b:=cop.symm.dvd_of_dvd_mul_left ⟨a.natAbs,by rw[e',bT]⟩;exact ah (cy pb d) hb
def Fr.cb_dr{x:Fr}(h:x.sz 2):x.cb 12 48:=by
 obtain⟨h1,h2⟩:=h;have p:=x.p;have e:(2:Nat) ^ 2=4:=rfl;rw[e]at h1 h2;have:x.b=1\/x.b=2\/x.b=3\/x.b=4:=by omega
 rcases this with b | b | b | b
 . exact⟨by decide,x.t * 12,by rw[b];omega,oM⟩
 . exact⟨by decide,x.t * 6,by rw[b];omega,oM⟩
 . exact⟨by decide,x.t * 4,by rw[b];omega,oM⟩
 . exact⟨by decide,x.t * 3,by rw[b];omega,oM⟩
def e0a:Cb Hh where
 cb:=Fr.cb
 mono _ _ _ _ h:=λ⟨p,a,e,l⟩=>⟨p,a,e,ah l h⟩
 add _ _ _ _ _ h h':=Fr.cb_add h h'
 mul _ _ _ _ _ _ h h':=Fr.cb_mul h h'
 up _ _ _ _ hk h:=Fr.cb_up hk h
 zero b hb:=⟨hb,0,by show(0:Int) * b=0 * 1;simp,ae _⟩
 one:=⟨by decide,1,by decide,by decide⟩
 neg _ _ _ _ hz h:=Fr.cb_neg hz h
 div _ _ _ _ ho h:=Fr.cb_div ho h
 sz _ _ _ _ hb ht h:=Fr.cb_sz hb ht h
 dr _ h:=Fr.cb_dr h
def XJ(p:Int)(hp:2<=p):Cb (Y3 p hp)where
 cb _ _ _:=True
 mono _ _ _ _ _ _:=trivial
 add _ _ _ _ _ _ _:=trivial
 mul _ _ _ _ _ _ _ _:=trivial
 up _ _ _ _ _ _:=trivial
 zero _ _:=trivial
 one:=trivial
 neg _ _ _ _ _ _:=trivial
 div _ t _ _ _ _:=⟨1,by decide,oM,λ_ _ _=>trivial⟩
 sz _ _ _ _ _ _ _:=trivial
 dr _ _:=trivial
section
variable{S:SR}{F:Ab S}{C:Cb S}
def J7(S:SR)(x y:Nat->S.W)(n:Nat):S.W:=sm S (λi=>S.mul (x i) (y i)) n
def Lg(S:SR)(r n:Nat)(x y:Nat->S.W):Prop:=(∀i,i < n->S.sz r (x i)/\S.sz r (y i))/\∀i,i<=n->S.sz r (J7 S x y i)
def Lh(F:Ab S)(W r:Nat)(ks:List (Nat × (Nat->S.W)))(x:Nat->S.W):Prop:=(∀i,i<=ks.length->∀j,j < W->S.sz r (clr F (ks.take i) x j))/\∀k∈ks,∀j,j < W->S.sz r (k.2 j)
def J8{α:Type}{l:List α}{i:Nat}{x:α}(h:l[i]? = some x):l.take (i+1)=l.take i++[x]:=by
 rw[List.take_add_one,h];rfl
def XB(C:Cb S)(W β t:Nat)(x:Nat->S.W):Prop:=∃b,0 < b/\b<=2 ^ β/\∀j,j < W->C.cb b (2 ^ t) (x j)
def AQ(h:a<=b):2 ^ a<=2 ^ b:=dc (by decide) h
theorem XB.mono(h:XB C W β t x)(hb:β<=β')(ht:t<=t'):XB C W β' t' x:=by
 obtain⟨b,b0,b1,e⟩:=h;exact⟨b,b0,ah b1 (AQ hb),λj hj=>C.mono _ _ _ _ (AQ ht) (e j hj)⟩
theorem XB.sz(h:XB C W β t x)(hb:β<=m)(ht:t<=m)(hj:j < W):S.sz m (x j):=by
 obtain⟨b,b0,b1,e⟩:=h;exact C.sz b (2 ^ t) m _ (ah b1 (AQ hb)) (AQ ht) (e j hj)
theorem XB.stp(h:XB C W β t x)(g:XB C W s s k.2)(hk:k.1 < W):XB C W (β+s) (t+s+1) (stp F k x):=by
 obtain⟨b,b0,b1,e⟩:=h;obtain⟨c,c0,c1,f⟩:=g;refine⟨b * c,bW b0 c0,by rw[bc];exact bx b1 c1,λj hj=>?_⟩;have h1:=C.mono _ _ (2 ^ t * 2 ^ s) _ (bg _ c1) (C.up _ _ c _ c0 (e j hj));have h2:=C.mul _ _ _ _ _ _ (C.neg _ _ _ _ (F.add_neg _) (e k.1 hk)) (f j hj);have:=C.add _ _ _ _ _ h1 h2;have e2:2 ^ (t+s+1)=2 ^ t * 2 ^ s+2 ^ t * 2 ^ s:=by rw[cK,bc];omega
 rw[e2];exact this
def XB.norm(h:XB C W β t x)(hp:p < W)(np:x p≠S.zero):XB C W t t λj=>S.mul (F.inv (x p)) (x j):=by
 obtain⟨b,b0,b1,e⟩:=h;obtain⟨c,c0,c1,f⟩:=C.div b _ (x p) _ (F.mul_inv _ np) (e p hp);have:1<=2 ^ t:=dj;exact⟨c,c0,oM,λj hj=>f _ _ (e j hj)⟩
def Kb(C:Cb S)(W r:Nat)(ks:List (Nat × (Nat->S.W))):Prop:=∀i k,ks[i]? = some k->k.1 < W/\XB C W ((r+1) * 2 ^ i - 1) ((r+1) * 2 ^ i - 1) k.2
def Kb.nil:Kb C W r []:=λi k h=>by simp at h
def OX(r i:Nat):(r+1) * 2 ^ (i+1)=(r+1) * 2 ^ i+(r+1) * 2 ^ i:=by rw[cK,<- bM];omega
def EV(r i:Nat):r+1<=(r+1) * 2 ^ i:=dk _ dj
def Lo(h:i<=l):(r+1) * 2 ^ i<=(r+1) * 2 ^ l:=bg _ (AQ h)
theorem Kb.clr{W β r:Nat}{ks:List (Nat × (Nat->S.W))}{x:Nat->S.W}(K:Kb C W r ks)(h:XB C W β r x):∀i,i<=ks.length->XB C W (β+((r+1) * 2 ^ i - (r+1))) ((r+1) * 2 ^ i - 1) (Mine.clr F (ks.take i) x)
 | 0,_=>h.mono oM (by simp)
 | i+1,hi=>by
  have e:ks[i]? = some (ks[i]'oM):=ag _;obtain⟨k1,k2⟩:=K i _ e;rw[J8 e,BJ];have:=OX r i;have:=EV r i;exact((Kb.clr K h i oM).stp k2 k1).mono oM oM
def Kb.all(K:Kb C W r ks)(h:XB C W β r x):XB C W (β+((r+1) * 2 ^ ks.length - (r+1))) ((r+1) * 2 ^ ks.length - 1) (Mine.clr F ks x):=by
 have:=K.clr (F:=F) h ks.length (ae _);rwa [bo]at this
def Kb.clrZ(K:Kb C W r ks)(h:XB C W β r x)(hl:ks.length<=l)(hm:β+(r+1) * 2 ^ l<=m):Lh F W m ks x:=by
 refine⟨λi hi j hj=>?_,λk hk j hj=>?_⟩
 . have:=Lo (r:=r) (show i<=l by omega);exact(K.clr (F:=F) h i hi).sz oM oM hj
 . obtain⟨i,hi,e⟩:=cB.mp hk;obtain⟨_,q⟩:=K i k (by rw[ag hi,e]);have:=Lo (r:=r) (show i<=l by omega);exact q.sz oM oM hj
def Kb.keep(K:Kb C W r ks)(h:XB C W β r x)(hl:l<=W):Kb C W r (AI F l ks x):=by
 refine R5 (λL=>Kb C W r L) (λ_=>K) (λ_=>K) λp hp np i k e=>?_;by_cases hi:i < ks.length
 . rw[aH hi]at e;exact K i k e
 . rw[aK oM]at e;have:i=ks.length:=by
    have:=(aQ.mp e).1;simp at this;omega
   subst this;rw[cQ]at e;cases Option.some.inj e;exact⟨by show p < W;omega,(K.all h).norm oM np⟩
theorem Kb.kpL(hl:l<=W)(rs:List (Nat->S.W))(h:∀x∈rs,XB C W β r x):Kb C W r (Mine.kpL F l rs):=by
 refine(EY (F:=F) (w:=l) (λms ks=>(∀x∈ms,XB C W β r x)->Kb C W r ks) (λ_=>Kb.nil) (λms ks x _ M h=>?_) rs).2 h;exact(M λq hq=>h q (aW _ hq)).keep (h x (ax _ (cA x))) hl
def Kb.mem(K:Kb C W r ks)(hl:ks.length<=l):∀k∈ks,k.1 < W/\XB C W ((r+1) * 2 ^ l - 1) ((r+1) * 2 ^ l - 1) k.2:=λk hk=>by
 obtain⟨i,hi,e⟩:=cB.mp hk;obtain⟨a,q⟩:=K i k (by rw[ag hi,e]);have:=Lo (r:=r) (show i<=l by omega);exact⟨a,q.mono oM oM⟩
theorem Gk(b0:0 < b)(c0:0 < c)(h:∀i,i < n->C.cb b t (x i))(g:∀i,i < n->C.cb c t' (y i)):∀i,i<=n->C.cb (b * c) (i * (t * t')) (J7 S x y i)
 | 0,_=>by rw[Nat.zero_mul];exact C.zero _ (bW b0 c0)
 | i+1,hi=>by
  rw[bQ];exact C.add _ _ _ _ _ (Gk b0 c0 h g i oM) (C.mul _ _ _ _ _ _ (h i oM) (g i oM))
def n_lt(n:Nat):n<=2 ^ n:=bJ Nat.lt_two_pow_self
def Jd(h:i<=n):i * (2 ^ t * 2 ^ t')<=2 ^ (t+t'+n):=by
 rw[bc,bc,bT];exact bg _ (ah h (n_lt n))
def Fe(h:XB C n β t x)(g:XB C n β' t' y)(hb:β+β'<=m)(ht:t+t'+n<=m):Lg S m n x y:=by
 refine⟨λi hi=>⟨h.sz oM oM hi,g.sz oM oM hi⟩,λi hi=>?_⟩;obtain⟨b,b0,b1,e⟩:=h;obtain⟨c,c0,c1,f⟩:=g;have:=Gk b0 c0 e f i hi;exact C.sz _ _ m _ (ah (bx b1 c1) (by rw[<- bc];exact AQ hb)) (ah (Jd hi) (AQ ht)) this
def TB(C:Cb S)(h n β t:Nat)(A:Nat->Nat->S.W):Prop:=∃b,0 < b/\b<=2 ^ β/\∀i,i < h->∀j,j < n->C.cb b (2 ^ t) (A i j)
theorem TB.mono(q:TB C h n β t A)(hb:β<=β')(ht:t<=t'):TB C h n β' t' A:=by
 obtain⟨b,b0,b1,e⟩:=q;exact⟨b,b0,ah b1 (AQ hb),λi hi j hj=>C.mono _ _ _ _ (AQ ht) (e i hi j hj)⟩
def TB.col(q:TB C h n β t A)(hj:j < n):XB C h β t λi=>A i j:=by
 obtain⟨b,b0,b1,e⟩:=q;exact⟨b,b0,b1,λi hi=>e i hi j hj⟩
theorem XB.by(q:XB C h β t x)(g:TB C h n β' t' A):XB C n (β+β') (t+t'+h) λj=>J7 S x (λi=>A i j) h:=by
 obtain⟨b,b0,b1,e⟩:=q;obtain⟨c,c0,c1,f⟩:=g;refine⟨b * c,bW b0 c0,by rw[bc];exact bx b1 c1,λj hj=>?_⟩;exact C.mono _ _ _ _ (Jd (ae _)) (Gk (y:=λi=>A i j) b0 c0 e (λi hi=>f i hi j hj) h (ae _))
theorem TB.by(g:TB C h n β' t' A)(q:XB C n β t x):XB C h (β'+β) (t'+t+n) λi=>J7 S (A i) x n:=by
 obtain⟨b,b0,b1,e⟩:=q;obtain⟨c,c0,c1,f⟩:=g;refine⟨c * b,bW c0 b0,by rw[bc];exact bx c1 b1,λi hi=>?_⟩;exact C.mono _ _ _ _ (Jd (ae _)) (Gk (x:=A i) c0 b0 (λj hj=>f i hi j hj) e n (ae _))
theorem TB.of:∀{h:Nat},(∀i,i < h->XB C n β t (A i))->TB C h n (h * β) (t+h * β) A
 | 0,_=>⟨1,by decide,by simp,λi hi=>absurd hi (cP i)⟩
 | h+1,q=>by
  obtain⟨b,b0,b1,e⟩:=TB.of (h:=h) λi hi=>q i oM;obtain⟨c,c0,c1,f⟩:=q h oM;have e1:(h+1) * β=h * β+β:=bQ ..;refine⟨b * c,bW b0 c0,by rw[e1,bc];exact bx b1 c1,λi hi j hj=>?_⟩;by_cases z:i=h
  . subst z;have:=C.up _ _ b _ b0 (f j hj);rw[bT c b]at this;refine C.mono _ _ _ _ ?_ this;rw[bc];exact bg _ (ah b1 (AQ oM))
  . have:=C.up _ _ c _ c0 (e i oM j hj);refine C.mono _ _ _ _ ?_ this;rw[e1,show t+(h * β+β)=(t+h * β)+β by omega,bc _ (t+h * β)];exact bg _ c1
def KN(F:Ab S):List (Nat × (Nat->S.W))->List (Nat × (Nat->S.W)):=λks=>ks.reverse.foldl (λtold k=>told++[(k.1,clr F told k.2)]) []
def echI(F:Ab S)(ks:List (Nat × (Nat->S.W)))(i:Nat):List (Nat × (Nat->S.W)):=(ks.reverse.take i).foldl (λtold k=>told++[(k.1,clr F told k.2)]) []
def O8{S:SR}{F:Ab S}{ks:List (Nat × (Nat->S.W))}{i:Nat}{k:Nat × (Nat->S.W)}(hi:i < ks.length)(h:ks[ks.length - 1 - i]? = some k):echI F ks (i+1)=echI F ks i++[(k.1,clr F (echI F ks i) k.2)]:=by
 unfold echI;rw[J8 (x:=k) (by rw[List.getElem?_reverse hi];exact h),cR];rfl
def S7:echI F ks ks.length=KN F ks:=by
 unfold echI KN;rw[<- List.length_reverse,bo]
theorem W7:∀{i:Nat},i<=ks.length->(echI F ks i).length=i
 | 0,_=>rfl
 | i+1,h=>by
  rw[O8 (k:=ks[ks.length - 1 - i]'oM) oM (ag _),aq,W7 oM];rfl
theorem KO:∀{i:Nat},i<=ks.length->∀e∈echI F ks i,∃k∈ks,e.1=k.1
 | 0,_,e,h=>nomatch h
 | i+1,h,e,he=>by
  rw[O8 (k:=ks[ks.length - 1 - i]'oM) oM (ag _)]at he;rcases aF.mp he with he | he
  . exact KO oM e he
  . rw[av.mp he];exact⟨_,aM (show ks.length - 1 - i < ks.length by omega),rfl⟩
theorem Kb.echI(h:∀k∈ks,k.1 < W/\XB C W s s k.2):∀{i:Nat},i<=ks.length->Kb C W s (Mine.echI F ks i)
 | 0,_=>Kb.nil
 | i+1,hi=>by
  have ih:=Kb.echI h (i:=i) oM;have il:=W7 (F:=F) (ks:=ks) (i:=i) oM;rw[O8 (k:=ks[ks.length - 1 - i]'oM) oM (ag _)];intro q k e;by_cases hq:q < i
  . rw[aH oM]at e;exact ih q k e
  . rw[aK oM,il]at e;have:q=i:=by
     have:=(aQ.mp e).1;simp at this;omega
    subst this;rw[cQ]at e;cases Option.some.inj e;obtain⟨a,b⟩:=h _ (aM (show ks.length - 1 - q < ks.length by omega));have:=ih.all (F:=F) b;rw[il]at this;have:=EV s q;exact⟨a,XB.mono (by assumption) oM oM⟩
end
section
variable{S:SR}{F:Ab S}{C:Cb S}
noncomputable def DJ(F:Ab S)(l:Nat)(ρ:List Nat->Nat->S.W)(ks:List (Nat × (Nat->S.W)))(ws:List (List Nat)):List (Nat × (Nat->S.W)):=ws.foldl (λks w=>AI F l ks (ρ w)) ks
def QR:DJ F l ρ ks (ws++[u])=AI F l (DJ F l ρ ks ws) (ρ u):=by
 unfold DJ;rw[cR];rfl
noncomputable def Em(F:Ab S)(l:Nat)(ρ:List Nat->Nat->S.W):List (Nat × (Nat->S.W))->List (List Nat)->List (List Nat)
 | _,[]=>[]
 | ks,u::ws=>(if(AI F l ks (ρ u)).length≠ks.length then [u]else [])++Em F l ρ (AI F l ks (ρ u)) ws
theorem KH:∀{ks:List (Nat × (Nat->S.W))} {ws:List (List Nat)} {u:List Nat},Em F l ρ ks (ws++[u])=Em F l ρ ks ws++(if(AI F l (DJ F l ρ ks ws) (ρ u)).length≠(DJ F l ρ ks ws).length then [u]else [])
 | ks,[],u=>by
  show(if _ then _ else _)++Em F l ρ _ []=[]++_;show(if _ then _ else _)++[]=[]++_;rw[bb,List.nil_append];rfl
 | ks,w::ws,u=>by
  rw[List.cons_append];show(if _ then _ else _)++Em F l ρ (AI F l ks (ρ w)) (ws++[u])=((if _ then _ else _)++Em F l ρ (AI F l ks (ρ w)) ws)++_;rw[KH,df];rfl
def Np:(AI F w ks r).length=ks.length\/(AI F w ks r).length=ks.length+1:=
 R5 (λl=>l.length=ks.length\/l.length=ks.length+1) (λ_=>.inl rfl) (λ_=>.inl rfl) λ_ _ _=>.inr (by rw[aq];rfl)
theorem AJ:∀{ws:List (List Nat)} {ks:List (Nat × (Nat->S.W))},(Em F l ρ ks ws).length+ks.length=(DJ F l ρ ks ws).length
 | [],ks=>by show 0+_=_;rw[Nat.zero_add];rfl
 | u::ws,ks=>by
  show((if _ then _ else _)++Em F l ρ (AI F l ks (ρ u)) ws).length+_=(DJ F l ρ (AI F l ks (ρ u)) ws).length;rw[<- AJ (ws:=ws),aq];rcases Np (F:=F) (w:=l) (ks:=ks) (r:=ρ u)with e | e
  . rw[if_neg oM,e];simp
  . rw[if_pos oM,e];simp;omega
theorem MA:∀{ws:List (List Nat)} {ks:List (Nat × (Nat->S.W))},Kp S l ks->Kp S l (DJ F l ρ ks ws)
 | [],_,h=>h
 | u::ws,ks,h=>MA (ws:=ws) (Mt (F:=F) h)
theorem MD(hl:l<=W):∀{ws:List (List Nat)} {ks:List (Nat × (Nat->S.W))},Kb C W r ks->(∀u∈ws,XB C W β r (ρ u))->Kb C W r (DJ F l ρ ks ws)
 | [],_,h,_=>h
 | u::ws,ks,h,g=>MD hl (ws:=ws) (h.keep (g u (aw ..)) hl) λv hv=>g v (aD _ hv)
theorem DC:∀{ws:List (List Nat)} {ks:List (Nat × (Nat->S.W))} {u:List Nat},u∈Em F l ρ ks ws->u∈ws
 | [],_,_,h=>nomatch h
 | v::ws,ks,u,h=>by
  rcases aF.mp h with h | h
  . split at h
    . rw[av.mp h];exact aw ..
    . cases h
  . exact aD _ (DC h)
structure Wr(S:SR)where
 ks:List (Nat × (Nat->S.W))
 told:List (List Nat)
 last:List (List Nat)
noncomputable def B3(F:Ab S)(l:Nat)(ρ:List Nat->Nat->S.W)(g:List (List Nat)->List (List Nat)):Nat->Wr S
 | 0=>⟨[],[],[[]]⟩
 | i+1=>⟨DJ F l ρ (B3 F l ρ g i).ks (B3 F l ρ g i).last,(B3 F l ρ g i).told++Em F l ρ (B3 F l ρ g i).ks (B3 F l ρ g i).last,g (Em F l ρ (B3 F l ρ g i).ks (B3 F l ρ g i).last)⟩
theorem T6:∀i,Kp S l (B3 F l ρ g i).ks
 | 0=>Kp.nil
 | i+1=>MA (T6 i)
theorem IU:∀i,(B3 F l ρ g i).told.length=(B3 F l ρ g i).ks.length
 | 0=>rfl
 | i+1=>by
  show((B3 F l ρ g i).told++Em F l ρ (B3 F l ρ g i).ks (B3 F l ρ g i).last).length=(DJ F l ρ (B3 F l ρ g i).ks (B3 F l ρ g i).last).length;rw[aq,IU i,<- AJ];omega
theorem QP(hl:l<=W)(h:∀i,∀u∈(B3 F l ρ g i).last,XB C W β r (ρ u)):∀i,Kb C W r (B3 F l ρ g i).ks
 | 0=>Kb.nil
 | i+1=>MD hl (QP hl h i) (h i)
def Wu(l:Nat)(s:Wr S):Nat:=if s.last=[]then 0 else l - s.ks.length+1
def QQ(hg:g []=[])(n:(B3 F l ρ g i).last≠[]):Wu l (B3 F l ρ g (i+1)) < Wu l (B3 F l ρ g i):=by
 unfold Wu;rw[if_neg n];have k:=(T6 (F:=F) (l:=l) (ρ:=ρ) (g:=g) (i+1)).len;have e:=AJ (F:=F) (l:=l) (ρ:=ρ) (ws:=(B3 F l ρ g i).last) (ks:=(B3 F l ρ g i).ks);have k':(DJ F l ρ (B3 F l ρ g i).ks (B3 F l ρ g i).last).length<=l:=k;split
 . omega
 . rename_i z;show l - (DJ F l ρ (B3 F l ρ g i).ks (B3 F l ρ g i).last).length+1 < _;by_cases z2:Em F l ρ (B3 F l ρ g i).ks (B3 F l ρ g i).last=[]
   . refine absurd ?_ z;show g (Em F l ρ (B3 F l ρ g i).ks (B3 F l ρ g i).last)=[];rw[z2,hg]
   . have:=List.length_pos_iff.mpr z2;omega
def KG(hg:g []=[])(h:(B3 F l ρ g i).last=[]):B3 F l ρ g (i+1)=B3 F l ρ g i:=by
 show Wr.mk _ _ _=_;rw[h];show Wr.mk (B3 F l ρ g i).ks ((B3 F l ρ g i).told++[]) (g [])=_;rw[bb,hg];cases e:B3 F l ρ g i with
 | mk a b c=>
  rw[e]at h;cases h;rfl
theorem My(hg:g []=[])(h:(B3 F l ρ g i).last=[]):∀j,B3 F l ρ g (i+j)=B3 F l ρ g i
 | 0=>rfl
 | j+1=>by
  have:=My hg h j;rw[<- Nat.add_assoc,KG hg (by rw[this];exact h),this]
def Nv(hg:g []=[]):(B3 F l ρ g (l+1)).last=[]:=by
 have key:∀i,(B3 F l ρ g i).last=[]\/Wu l (B3 F l ρ g i)+i<=l+1:=λi=>by
  induction i with
  | zero=>right;show(if _ then _ else _)+0<=_;split <;>simp <;>omega
  | succ i ih=>
   by_cases z:(B3 F l ρ g i).last=[]
   . left;rw[KG hg z];exact z
   . right;have:=QQ hg z;rcases ih with q | q
     . exact absurd q z
     . omega
 rcases key (l+1)with h | h
 . exact h
 . refine Classical.byContradiction λz=>?_;unfold Wu at h;rw[if_neg z]at h;omega
noncomputable def Fb(F:Ab S)(l:Nat)(ρ:List Nat->Nat->S.W)(g:List (List Nat)->List (List Nat)):List (List Nat):=(B3 F l ρ g (l+1)).told
def QM(hg:g []=[])(h:(B3 F l ρ g i).last=[]):(B3 F l ρ g i).told=Fb F l ρ g:=by
 unfold Fb;rcases Nat.le_total i (l+1)with q | q
 . have:=My hg h (l+1 - i);rw[show i+(l+1 - i)=l+1 by omega]at this;rw[this]
 . have:=My hg (Nv (F:=F) (l:=l) (ρ:=ρ) hg) (i - (l+1));rw[show l+1+(i - (l+1))=i by omega]at this;rw[this]
end
section
variable{S:SR}{F:Ab S}{C:Cb S}
def JS(S:SR)(n:Nat)(A:Nat->Nat->S.W)(x:Nat->S.W):Nat->S.W:=λj=>J7 S x (λi=>A i j) n
def E7(l:List Nat)(tb:Nat->α)(c:Nat):α:=tb (l.idxOf c)
def y6(S:SR)(n:Nat)(st:Nat->S.W)(tc:Nat->Nat->Nat->S.W)(u:List Nat):Nat->S.W:=u.foldl (λx c=>JS S n (tc c) x) st
def E1:y6 S n st tc (u++[c])=JS S n (tc c) (y6 S n st tc u):=by
 unfold y6;rw[cR];rfl
def gB(l:List Nat)(ws:List (List Nat)):List (List Nat):=ws.flatMap λu=>l.map λc=>u++[c]
def VY:gB l []=[]:=rfl
structure MB(C:Cb S)(n m μ:Nat)(st:Nat->S.W)(tb:Nat->Nat->Nat->S.W)(en:Nat->S.W):Prop where
 st:XB C n μ μ st
 tb:∀a,a < m->TB C n n μ μ (tb a)
 en:XB C n μ μ en
theorem MB.mono{n m μ μ':Nat}{st:Nat->S.W}{tb:Nat->Nat->Nat->S.W}{en:Nat->S.W}(h:MB C n m μ st tb en)(e:μ<=μ'):MB C n m μ' st tb en:=⟨h.st.mono e e,λa ha=>(h.tb a ha).mono e e,h.en.mono e e⟩
def SX{l:List Nat}{c:Nat}(h:c∈l):l.idxOf c < l.length:=dm.mpr h
def MB.row{n μ:Nat}{l:List Nat}{st:Nat->S.W}{tb:Nat->Nat->Nat->S.W}{en:Nat->S.W}(h:MB C n l.length μ st tb en)(u:List Nat)(hu:∀c∈u,c∈l):XB C n ((u.length+1) * (μ+n)) ((u.length+1) * (μ+n)) (y6 S n st (E7 l tb) u):=by
 have key:∀k,∀u:List Nat,u.length=k->(∀c∈u,c∈l)->XB C n ((k+1) * (μ+n)) ((k+1) * (μ+n)) (y6 S n st (E7 l tb) u):=by
  intro k
  induction k with
  | zero=>
   intro u e _;rw[bw.mp e];exact h.st.mono oM oM
  | succ k ih=>
   intro u e hu;have ne:u≠[]:=λz=>by rw[z]at e;cases e
   rw[<- dh ne,E1];have h1:=ih u.dropLast (by rw[di];omega) λc hc=>hu c (List.dropLast_subset u hc);have h2:=h.tb (l.idxOf (u.getLast ne)) (SX (hu _ (List.getLast_mem ne)));have e1:(k+1+1) * (μ+n)=(k+1) * (μ+n)+(μ+n):=bQ ..;exact(h1.by h2).mono oM oM
 exact key u.length u rfl hu
def N9(h:k<=n):(k+1) * x<=(n+1) * x:=bh _ oM
def Gw(l:List Nat)(g:List (List Nat)->List (List Nat)):Prop:=g []=[]/\∀ws i,(∀v∈ws,v.length=i/\∀c∈v,c∈l)->∀u∈g ws,u.length=i+1/\∀c∈u,c∈l
def KF:Gw l (gB l):=⟨rfl,λws i h u hu=>by
 obtain⟨v,hv,hu⟩:=dq.mp hu;obtain⟨c,hc,rfl⟩:=aE.mp hu;obtain⟨h1,h2⟩:=h v hv;refine⟨by rw[aq,h1];rfl,λd hd=>?_⟩;rcases aF.mp hd with hd | hd
 . exact h2 d hd
 . rw[av.mp hd];exact hc⟩
theorem Mx(hg:Gw l g):∀i,∀u∈(B3 F W ρ g i).last,u.length=i/\∀c∈u,c∈l
 | 0,u,hu=>by
  rw[av.mp hu];exact⟨rfl,by simp⟩
 | i+1,u,hu=>hg.2 _ i (λv hv=>Mx hg i v (DC hv)) u hu
theorem QO(hg:Gw l g):∀i,(B3 F W ρ g i).last≠[]->i<=(B3 F W ρ g i).ks.length
 | 0,_=>aR _
 | i+1,h=>by
  have h1:Em F W ρ (B3 F W ρ g i).ks (B3 F W ρ g i).last≠[]:=λz=>h (by show g (Em F W ρ (B3 F W ρ g i).ks (B3 F W ρ g i).last)=[];rw[z,hg.1]);have h2:(B3 F W ρ g i).last≠[]:=λz=>h1 (by rw[z];rfl);have:=QO hg i h2;have e:=AJ (F:=F) (l:=W) (ρ:=ρ) (ws:=(B3 F W ρ g i).last) (ks:=(B3 F W ρ g i).ks);have:=List.length_pos_iff.mpr h1;show i+1<=(DJ F W ρ (B3 F W ρ g i).ks (B3 F W ρ g i).last).length;omega
def QN(hg:Gw l g)(hu:u∈(B3 F W ρ g i).last):u.length<=W/\∀c∈u,c∈l:=by
 have h1:=Mx hg i u hu;have h2:=QO hg i λz=>by rw[z]at hu;cases hu
 have h3:=(T6 (F:=F) (l:=W) (ρ:=ρ) (g:=g) i).len;exact⟨oM,h1.2⟩
theorem FW(hg:Gw l g):∀i,∀u∈(B3 F W ρ g i).told,u.length<=W/\∀c∈u,c∈l
 | 0,u,hu=>nomatch hu
 | i+1,u,hu=>by
  rcases aF.mp hu with hu | hu
  . exact FW hg i u hu
  . exact QN hg (DC hu)
end
section
variable{S:SR}{F:Ab S}{C:Cb S}
def Ox(es:List (Nat × (Nat->S.W)))(j:Nat):Nat:=(es.map Prod.fst).getD j 0
def Vm(es:List (Nat × (Nat->S.W)))(st:Nat->S.W):Nat->S.W:=λj=>st (Ox es j)
def Ol(n:Nat)(es:List (Nat × (Nat->S.W)))(tb:Nat->Nat->Nat->S.W):Nat->Nat->Nat->S.W:=λa i j=>J7 S (kv es i) (λk=>tb a k (Ox es j)) n
def nen(n:Nat)(es:List (Nat × (Nat->S.W)))(en:Nat->S.W):Nat->S.W:=λi=>J7 S (kv es i) en n
def EA(h:es[i]? = some k):kv es i=k.2:=by
 unfold kv;rw[bD,h];rfl
def Ej(h:es[i]? = some k):Ox es i=k.1:=by
 unfold Ox;rw[bD,ay,h];rfl
def zF(n μ:Nat):Nat:=2 * (((n+2) * (μ+n)+1) * 2 ^ n)
def zC(n μ:Nat):Nat:=2 * (((n+2) * (μ+n)+1) * 4 ^ n)
def p24(n:Nat):2 ^ n<=4 ^ n:=Nat.pow_le_pow_left (by decide) n
def p4_1(n:Nat):1<=4 ^ n:=Nat.pos_of_ne_zero (by simp)
def Wz:zF n μ<=zC n μ:=bg _ (bg _ (p24 n))
def Wy:(n+2) * (μ+n)<=zF n μ:=by
 unfold zF;have:=dk ((n+2) * (μ+n)+1) (show 0 < 2 ^ n from dj);omega
def d0m:(n+1) * x<=(n+2) * x:=bh _ oM
def Wx:(n+1) * (μ+n)+((n+1) * (μ+n)+1) * 2 ^ n<=zF n μ:=by
 have h1:=Wy (n:=n) (μ:=μ);have h2:=d0m (n:=n) (x:=μ+n);have h3:((n+1) * (μ+n)+1) * 2 ^ n<=((n+2) * (μ+n)+1) * 2 ^ n:=bh _ oM;have h4:=dk ((n+2) * (μ+n)+1) (show 0 < 2 ^ n from dj);unfold zF;omega
def zU(n μ:Nat):Nat:=((n+1) * (μ+n)+1) * 4 ^ n
def zN(n μ:Nat):Nat:=(n+1) * (zU n μ+μ+n)
def zU_C:zU n μ+μ+n<=zC n μ:=by
 unfold zU zC;have h1:((n+1) * (μ+n)+1) * 4 ^ n<=((n+2) * (μ+n)+1) * 4 ^ n:=bh _ (by have:=d0m (n:=n) (x:=μ+n);omega);have h2:=dk ((n+2) * (μ+n)+1) (p4_1 n);have h3:μ+n<=(n+2) * (μ+n):=Nat.le_mul_of_pos_left _ oM;omega
def e0b(r n:Nat):(r+1) * 2 ^ n * 2 ^ n=(r+1) * 4 ^ n:=by
 rw[bM,<- Nat.mul_pow]
def zC_e:((n+1) * (μ+n)+1) * 2 ^ n+((n+1) * (μ+n)+1) * 4 ^ n<=zC n μ:=by
 unfold zC;have h1:((n+1) * (μ+n)+1) * 2 ^ n<=((n+1) * (μ+n)+1) * 4 ^ n:=bg _ (p24 n);have h2:((n+1) * (μ+n)+1) * 4 ^ n<=((n+2) * (μ+n)+1) * 4 ^ n:=bh _ (by have:=d0m (n:=n) (x:=μ+n);omega);omega
structure T2(F:Ab S)(n:Nat)(rs:List (Nat->S.W))(es:List (Nat × (Nat->S.W))):Prop where
 pm:es.Perm (KN F (kpL F (if rs.length=0 then 0 else n) rs))
 pw:es.Pairwise λp q=>p.1<=q.1
def Ba:(if k=0 then 0 else n)<=n:=by split <;>omega
def T2.len(h:T2 F n rs es):es.length=(kpL F (if rs.length=0 then 0 else n) rs).length:=by
 rw[h.pm.length_eq,<- S7,W7 (ae _)]
def T2.le(h:T2 F n rs es):es.length<=n:=by
 rw[h.len];exact ah (CK rs).len Ba
def T2.xb(h:T2 F n rs es)(hx:∀x∈rs,XB C n r r x):∀k∈es,k.1 < n/\XB C n ((r+1) * 4 ^ n) ((r+1) * 4 ^ n) k.2:=λk hk=>by
 have hk:=h.pm.mem_iff.mp hk;have K1:=Kb.kpL (F:=F) (l:=if rs.length=0 then 0 else n) Ba rs hx;have l1:=ah (CK (F:=F) (w:=if rs.length=0 then 0 else n) rs).len (Ba (n:=n));have K2:=Kb.echI (F:=F) (K1.mem l1) (ae _);rw[S7]at K2;have l2:(KN F (kpL F (if rs.length=0 then 0 else n) rs)).length<=n:=by rw[<- S7,W7 (ae _)];exact l1
 obtain⟨a,b⟩:=K2.mem l2 k hk;have e:=e0b r n;have p:=EV r n;rw[show(r+1) * 2 ^ n - 1+1=(r+1) * 2 ^ n by omega,e]at b;exact⟨a,b.mono oM oM⟩
def Wf{n r m i:Nat}{rs:List (Nat->S.W)}{x:Nat->S.W}{ms:List (Nat->S.W)}(hx:∀x∈ms,XB C n r r x)(h:XB C n r r x)(hm:r+(r+1) * 2 ^ n<=m):Lh F n m (kpL F (if i=0 then 0 else n) ms) x:=
 (Kb.kpL (F:=F) (l:=if i=0 then 0 else n) Ba ms hx).clrZ h (ah (CK ms).len Ba) hm
def We(hx:∀x∈ms,XB C n r r x)(hj:j<=(kpL F (if i=0 then 0 else n) ms).length)(hk:k∈kpL F (if i=0 then 0 else n) ms)(hm:(r+1) * 2 ^ n+(r+1) * 4 ^ n<=m):Lh F n m (echI F (kpL F (if i=0 then 0 else n) ms) j) k.2:=by
 have K1:=Kb.kpL (F:=F) (l:=if i=0 then 0 else n) Ba ms hx;have l1:=ah (CK (F:=F) (w:=if i=0 then 0 else n) ms).len (Ba (n:=n));have K2:=Kb.echI (F:=F) (K1.mem l1) hj;have l2:(echI F (kpL F (if i=0 then 0 else n) ms) j).length<=n:=by rw[W7 hj];omega
 have e:=e0b r n;have p:=EV r n;refine K2.clrZ (K1.mem l1 k hk).2 l2 ?_;rw[show(r+1) * 2 ^ n - 1+1=(r+1) * 2 ^ n by omega,e];omega
def Vq(h:MB C n m μ st tb en)(hx:∀k∈es,k.1 < n/\XB C n u u k.2)(hl:es.length<=n):MB C es.length m ((n+1) * (u+μ+n)) (Vm es st) (Ol n es tb) (nen n es en):=by
 have hp:∀j,j < es.length->Ox es j < n:=λj hj=>by
  rw[Ej (ag hj)];exact(hx _ (aM hj)).1
 have hk:∀i,i < es.length->XB C n u u (kv es i):=λi hi=>by
  rw[EA (ag hi)];exact(hx _ (aM hi)).2
 have z1:(n+1) * (u+μ+n)=n * (u+μ+n)+(u+μ+n):=bQ ..;have z2:es.length * (u+μ)<=n * (u+μ+n):=bx hl oM;refine⟨?_,λa ha=>?_,?_⟩
 . obtain⟨b,b0,b1,e⟩:=h.st;exact XB.mono ⟨b,b0,b1,λj hj=>e _ (hp j hj)⟩ oM oM
 . have:TB C es.length es.length (es.length * (u+μ)) (u+μ+n+es.length * (u+μ)) (Ol n es tb a):=TB.of λi hi=>by
    obtain⟨b,b0,b1,e⟩:=(hk i hi).by (h.tb a ha)
    exact⟨b,b0,b1,λj hj=>e _ (hp j hj)⟩
   exact this.mono oM oM
 . have:TB C es.length 1 (es.length * (u+μ)) (u+μ+n+es.length * (u+μ)) λi _=>nen n es en i:=TB.of λi hi=>by
    obtain⟨b,b0,b1,e⟩:=hk i hi;obtain⟨c,c0,c1,f⟩:=h.en;refine⟨b * c,bW b0 c0,by rw[bc];exact bx b1 c1,λj hj=>?_⟩;exact C.mono _ _ _ _ (Jd (ae _)) (Gk b0 c0 e f n (ae _))
   exact(this.col (j:=0) (by decide)).mono oM oM
def d0y(h:MB C n l.length μ st tb en):∀x∈(Fb F n (y6 S n st (E7 l tb)) (gB l)).map (y6 S n st (E7 l tb)),XB C n ((n+1) * (μ+n)) ((n+1) * (μ+n)) x:=λx hx=>by
 obtain⟨u,hu,rfl⟩:=aE.mp hx;have hw:=FW KF _ u hu;exact(h.row u hw.2).mono (N9 hw.1) (N9 hw.1)
def Vo(h:MB C n l.length μ st tb en)(E:T2 F n ((Fb F n (y6 S n st (E7 l tb)) (gB l)).map (y6 S n st (E7 l tb))) es):MB C es.length l.length (zN n μ) (Vm es st) (Ol n es tb) (nen n es en):=Vq h (E.xb (d0y h)) E.le
end
section
variable{S:SR}{F:Ab S}{C:Cb S}
def KM(rs:List (Nat->S.W)):Nat->Nat->S.W:=λi=>rs.getD i λ_=>S.zero
def Ja(h:rs[i]? = some r):KM rs i=r:=by
 unfold KM;rw[bD,h];rfl
def IZ{rs:List (Nat->S.W)}{r:Nat->S.W}(h:r∈rs):∃i,i < rs.length/\KM rs i=r:=by
 obtain⟨i,hi,e⟩:=cB.mp h;exact⟨i,hi,Ja (by rw[ag hi,e])⟩
def ME(h:i < rs.length):KM rs i∈rs:=by
 rw[Ja (ag h)];exact aM h
def QE(h:(AI F w ks r).length=ks.length):AI F w ks r=ks:=by
 revert h;refine R5 (λL=>L.length=ks.length->L=ks) (λ_ _=>rfl) (λ_ _=>rfl) λp _ _ e=>?_;rw[aq]at e;simp at e
structure Gq(F:Ab S)(w:Nat)(ρ:List Nat->Nat->S.W)(ks:List (Nat × (Nat->S.W)))(ws:List (List Nat)):Prop where
 is:ks=kpL F w (ws.map ρ)
 fu:ks.length=ws.length
def Gq.nil:Gq F w ρ [] []:=⟨rfl,rfl⟩
def Gq.step(h:Gq F w ρ ks ws)(u:List Nat):Gq F w ρ (AI F w ks (ρ u)) (ws++if(AI F w ks (ρ u)).length≠ks.length then [u]else []):=by
 by_cases e:(AI F w ks (ρ u)).length=ks.length
 . rw[if_neg (λz=>z e),bb,QE e];exact h
 . rw[if_pos e];have e2:(AI F w ks (ρ u)).length=ks.length+1:=(Np (F:=F)).resolve_left e;refine⟨?_,by rw[e2,aq,h.fu];rfl⟩;rw[aU,h.is];exact FQ.symm
structure DuS(S:SR)where
 ks:List (Nat × (Nat->S.W))
 due:List (List Nat)
open Classical in
end
def d0n(l:List Nat):Nat->List (List Nat)
 | 0=>[[]]
 | i+1=>gB l (d0n l i)
def Rt(l:List Nat):Nat->List (List Nat)
 | 0=>[[]]
 | i+1=>Rt l i++d0n l (i+1)
theorem QL:∀{ws:List (List Nat)},(gB l ws).length=ws.length * l.length
 | []=>by rw[VY];simp
 | u::ws=>by
  show((l.map λc=>u++[c])++gB l ws).length=_;rw[aq,af,QL,bq,bQ];omega
def SZ{l:List Nat}{ws:List (List Nat)}{j:Nat}{u:List Nat}(h:ws[j]? = some u):gB l (ws.take (j+1))=gB l (ws.take j)++l.map λc=>u++[c]:=by
 rw[J8 h];unfold gB;rw[List.flatMap_append,List.flatMap_singleton]
theorem Qw:∀(n:Nat) (u:List Nat),u.length=n->(∀c∈u,c∈l)->u∈d0n l n
 | 0,u,e,_=>by rw[bw.mp e];exact cA _
 | n+1,u,e,h=>by
  have ne:u≠[]:=λz=>by rw[z]at e;cases e
  rw[<- dh ne];have:=Qw n u.dropLast (by rw[di];omega) λc hc=>h c (List.dropLast_subset u hc);exact dq.mpr ⟨_,this,aE.mpr ⟨_,h _ (List.getLast_mem ne),rfl⟩⟩
theorem MT:∀(n:Nat) (u:List Nat),u.length<=n->(∀c∈u,c∈l)->u∈Rt l n
 | 0,u,e,_=>by rw[bw.mp (show u.length=0 by omega)];exact cA _
 | n+1,u,e,h=>by
  by_cases z:u.length=n+1
  . exact ax _ (Qw _ u z h)
  . exact aW _ (MT n u oM h)
section
variable{S:SR}{F:Ab S}{C:Cb S}
structure Grw(l:List Nat)(g:List (List Nat)->List (List Nat))(rs:List Nat->List Nat):Prop where
 nil:g []=[]
 lv:∀i,d0n l (i+1)=g (d0n l i)
 fl:∀L X:List (List Nat),((g L).filter λu=>decide (rs u∈X))=g (L.filter λu=>decide (u∈X))
 ln:∀i u,u.length=i+1->(rs u).length=i
end
section
variable{S:SR}{F:Ab S}{C:Cb S}
theorem Nw:∀i,Gq F w ρ (B3 F w ρ g i).ks (B3 F w ρ g i).told
 | 0=>Gq.nil
 | i+1=>by
  have key:∀(ws:List (List Nat)) (ks:List (Nat × (Nat->S.W))) (td:List (List Nat)),Gq F w ρ ks td->Gq F w ρ (DJ F w ρ ks ws) (td++Em F w ρ ks ws):=by
   intro ws
   induction ws with
   | nil=>intro ks td h;show Gq F w ρ ks (td++[]);rw[bb];exact h
   | cons u ws ih=>
    intro ks td h;have:=ih _ _ (h.step u);rw[df]at this;exact this
  exact key _ _ _ (Nw i)
def EU(F:Ab S)(w:Nat)(ks:List (Nat × (Nat->S.W)))(v:Nat->S.W):Prop:=∀j,j < w->clr F ks v j=S.zero
def EU.span(k:Gq F w ρ ks ws)(h:EU F w ks v):Q3 S w ws.length (KM (ws.map ρ)) v:=by
 have h1:∀q∈ks,Q3 S w ws.length (KM (ws.map ρ)) q.2:=by
  rw[k.is];exact Nl _ λr hr=>by
   obtain⟨i,hi,rfl⟩:=IZ hr;rw[af]at hi;exact Q3.gen hi
 have h2:=BK (F:=F) (u:=v) h1;refine(h2.mul (F.neg S.one)).congr λj hj=>?_;rw[h j hj,MF,MG,QV,Tc]
theorem IV:∀{ws:List (List Nat)} {ks:List (Nat × (Nat->S.W))},EU F w ks v->EU F w (DJ F w ρ ks ws) v
 | [],_,h=>h
 | u::ws,ks,h=>IV (ws:=ws) (Nm (F:=F) h)
theorem IW:∀{ws:List (List Nat)} {ks:List (Nat × (Nat->S.W))},Kp S w ks->∀u∈ws,EU F w (DJ F w ρ ks ws) (ρ u)
 | v::ws,ks,h,u,hu=>by
  rcases ar.mp hu with rfl | hu
  . exact IV (ws:=ws) (Nn h)
  . exact IW (ws:=ws) (Mt h) u hu
theorem Mz(h:EU F w (B3 F w ρ g i).ks v):∀k,EU F w (B3 F w ρ g (i+k)).ks v
 | 0=>h
 | k+1=>IV (Mz h k)
theorem Ci:∀{i:Nat},u∈(B3 F w ρ g i).told->∃k,k < i/\u∈Em F w ρ (B3 F w ρ g k).ks (B3 F w ρ g k).last
 | 0,h=>nomatch h
 | i+1,h=>by
  rcases aF.mp h with h | h
  . obtain⟨k,hk,e⟩:=Ci h;exact⟨k,oM,e⟩
  . exact⟨i,oM,h⟩
def MW(hg:Gw l g)(h:u∈Fb F w ρ g):u.length < w/\∀c∈u,c∈l:=by
 obtain⟨k,_,e⟩:=Ci h;obtain⟨a,b⟩:=Mx hg k u (DC e);have h2:=QO hg k λz=>by rw[z]at e;cases e
 have h3:=AJ (F:=F) (l:=w) (ρ:=ρ) (ws:=(B3 F w ρ g k).last) (ks:=(B3 F w ρ g k).ks);have h4:=List.length_pos_of_mem e;have h5:=(T6 (F:=F) (l:=w) (ρ:=ρ) (g:=g) (k+1)).len;have h5:(DJ F w ρ (B3 F w ρ g k).ks (B3 F w ρ g k).last).length<=w:=h5;exact⟨oM,b⟩
structure Lop(S:SR)(w:Nat)(L:(Nat->S.W)->Nat->S.W):Prop where
 co:∀x y,(∀j,j < w->x j=y j)->∀j,j < w->L x j=L y j
 li:∀c vs n,∀j,j < w->L (lin S c vs n) j=lin S c (λk=>L (vs k)) n j
def Mj:Lop S n (JS S n A):=⟨λx y h j _=>u7 λi hi=>by rw[h i hi],λc vs m j _=>by
 show sm S (λi=>S.mul (sm S (λk=>S.mul (c k) (vs k i)) m) (A i j)) n=sm S (λk=>S.mul (c k) (sm S (λi=>S.mul (vs k i) (A i j)) n)) m;exact Fo c vs (λi=>A i j) m n⟩
structure Wgr(l:List Nat)(g:List (List Nat)->List (List Nat))(ex:Nat->List Nat->List Nat):Prop where
 gw:Gw l g
 me:∀ws,∀u∈ws,∀c∈l,ex c u∈g ws
 ind:∀P:List Nat->Prop,P []->(∀c u,c∈l->(∀d∈u,d∈l)->P u->P (ex c u))->∀u,(∀d∈u,d∈l)->P u
def NU:Wgr l (gB l) λc u=>u++[c]:=⟨KF,λws u hu c hc=>dq.mpr ⟨u,hu,aE.mpr ⟨c,hc,rfl⟩⟩,λP h0 hs=>by
 have key:∀n (u:List Nat),u.length=n->(∀d∈u,d∈l)->P u:=by
  intro n
  induction n with
  | zero=>intro u e _;rw[bw.mp e];exact h0
  | succ n ih=>
   intro u e h;have ne:u≠[]:=λz=>by rw[z]at e;cases e
   rw[<- dh ne];have h':∀d∈u.dropLast,d∈l:=λc hc=>h c (List.dropLast_subset u hc);exact hs _ _ (h _ (List.getLast_mem ne)) h' (ih _ (by rw[di];omega) h')
 exact λu h=>key _ u rfl h⟩
def VZ{w:Nat}{l:List Nat}{ρ:List Nat->Nat->S.W}{g:List (List Nat)->List (List Nat)}{ex:Nat->List Nat->List Nat}{L:Nat->(Nat->S.W)->Nat->S.W}(G:Wgr l g ex)(hL:∀c∈l,Lop S w (L c))(hρ:∀c u,c∈l->∀j,j < w->ρ (ex c u) j=L c (ρ u) j):∀u,(∀d∈u,d∈l)->Q3 S w (Fb F w ρ g).length (KM ((Fb F w ρ g).map ρ)) (ρ u):=by
 have KP:=Nw (F:=F) (w:=w) (ρ:=ρ) (g:=g) (w+1);have fin:=Nv (F:=F) (l:=w) (ρ:=ρ) (g:=g) G.gw.1;have c0:EU F w (B3 F w ρ g (w+1)).ks (ρ []):=by
  have:EU F w (B3 F w ρ g (0+1)).ks (ρ []):=IW (F:=F) (ρ:=ρ) (T6 (F:=F) (l:=w) (ρ:=ρ) (g:=g) 0) [] (cA _);have:=Mz this w;rwa [show 0+1+w=w+1 by omega]at this
 have cs:∀v∈(B3 F w ρ g (w+1)).told,∀c∈l,EU F w (B3 F w ρ g (w+1)).ks (ρ (ex c v)):=λv hv c hc=>by
  obtain⟨k,hk,e⟩:=Ci hv;have hm:ex c v∈(B3 F w ρ g (k+1)).last:=G.me _ v e c hc;have k2:k+1≠w+1:=λz=>by rw[z,fin]at hm;cases hm
  have h1:EU F w (B3 F w ρ g (k+1+1)).ks (ρ (ex c v)):=IW (T6 (k+1)) _ hm;have:=Mz h1 (w+1 - (k+1+1));rwa [show k+1+1+(w+1 - (k+1+1))=w+1 by omega]at this
 have main:∀u,(∀d∈u,d∈l)->EU F w (B3 F w ρ g (w+1)).ks (ρ u):=G.ind _ c0 λc u hc hu ih=>by
  obtain⟨d,hd⟩:=ih.span KP;intro j hj;have e1:∀j,j < w->ρ (ex c u) j=lin S d (λk=>L c (KM ((B3 F w ρ g (w+1)).told.map ρ) k)) (B3 F w ρ g (w+1)).told.length j:=λj hj=>by
   rw[hρ c u hc j hj,(hL c hc).co _ _ hd j hj,(hL c hc).li _ _ _ j hj]
  rw[Gh (F:=F) (λk hk=>(T6 (F:=F) (l:=w) (ρ:=ρ) (g:=g) (w+1)).lt k hk) e1 j hj,NJ];show sm S _ _=S.zero;rw[u7 (g:=λ_=>S.zero) λk hk=>?_,O0];have hk':k < ((B3 F w ρ g (w+1)).told.map ρ).length:=by rw[af];exact hk
  have e2:KM ((B3 F w ρ g (w+1)).told.map ρ) k=ρ ((B3 F w ρ g (w+1)).told[k]):=Ja (by rw[ay,ag hk];rfl);have e3:clr F (B3 F w ρ g (w+1)).ks (L c (KM ((B3 F w ρ g (w+1)).told.map ρ) k)) j=S.zero:=by
   have e4:∀j,j < w->L c (KM ((B3 F w ρ g (w+1)).told.map ρ) k) j=ρ (ex c (B3 F w ρ g (w+1)).told[k]) j:=λj hj=>by
    rw[e2,hρ c _ hc j hj]
   rw[Gh (F:=F) (λk hk=>(T6 (F:=F) (l:=w) (ρ:=ρ) (g:=g) (w+1)).lt k hk) e4 j hj];exact cs _ (aM hk) c hc j hj
  dsimp only;rw[e3,S.mul_zero]
 exact λu hu=>(main u hu).span KP
structure OT(S:SR)(n:Nat)(es:List (Nat × (Nat->S.W))):Prop where
 lt:∀e∈es,e.1 < n
 one:∀e∈es,e.2 e.1=S.one
 mu:es.Pairwise λa b=>a.2 b.1=S.zero/\b.2 a.1=S.zero
theorem OT.Kp(h:OT S n es):Kp S n es:=⟨h.lt,h.one,h.mu.imp λz=>z.2⟩
def OT.perm(p:es'.Perm es)(h:OT S n es):OT S n es':=
 ⟨λe he=>h.lt e (p.mem_iff.mp he),λe he=>h.one e (p.mem_iff.mp he),(p.pairwise_iff λz=>⟨z.2,z.1⟩).mpr h.mu⟩
theorem Nz(K:Kp S n ks):∀i,i<=ks.length->OT S n (echI F ks i)/\(∀q k,q < ks.length - i->ks[q]? = some k->∀e∈echI F ks i,e.2 k.1=S.zero)
 | 0,_=>⟨⟨(λe he=>nomatch he),(λe he=>nomatch he),.nil⟩,(λq k _ _ e he=>nomatch he)⟩
 | i+1,hi=>by
  obtain⟨E,Z⟩:=Nz K i oM;have hk:ks[ks.length - 1 - i]? = some (ks[ks.length - 1 - i]'oM):=ag _;revert hk;generalize ks[ks.length - 1 - i]'oM=k;intro hk;have km:=aZ hk;have zk:∀e∈echI F ks i,e.2 k.1=S.zero:=Z _ k oM hk;rw[O8 oM hk];refine⟨⟨λe he=>?_,λe he=>?_,?_⟩,λq k' hq hk' e he=>?_⟩
  . rcases aF.mp he with he | he
    . exact E.lt e he
    . rw[av.mp he];exact K.lt k km
  . rcases aF.mp he with he | he
    . exact E.one e he
    . rw[av.mp he];show clr F (echI F ks i) k.2 k.1=S.one;rw[DF zk];exact K.one k km
  . rw[List.pairwise_append];refine⟨E.mu,List.pairwise_singleton _ _,λe he b hb=>?_⟩;rw[av.mp hb];exact⟨zk e he,E.Kp.clr e he⟩
  . have z0:∀e∈echI F ks i,e.2 k'.1=S.zero:=Z q k' oM hk';rcases aF.mp he with he | he
    . exact z0 e he
    . rw[av.mp he];show clr F (echI F ks i) k.2 k'.1=S.zero;rw[DF z0];have hq':q < ks.length - 1 - i:=by omega
      obtain⟨q1,q2⟩:=aQ.mp hk';obtain⟨r1,r2⟩:=aQ.mp hk;have:=List.pairwise_iff_getElem.mp K.tri q (ks.length - 1 - i) q1 r1 hq';rwa [q2,r2]at this
def VM{es:List (Nat × (Nat->S.W))}{e:Nat × (Nat->S.W)}(h:e∈es):∃i,i < es.length/\kv es i=e.2/\Ox es i=e.1:=by
 obtain⟨i,hi,z⟩:=cB.mp h;have:es[i]? = some e:=by rw[ag hi,z]
 exact⟨i,hi,EA this,Ej this⟩
def T2.ech(h:T2 F n rs es):OT S n es:=by
 have K:Kp S n (kpL F (if rs.length=0 then 0 else n) rs):=by
  have:=CK (F:=F) (w:=if rs.length=0 then 0 else n) rs;exact⟨λk hk=>aC (this.lt k hk) Ba,this.one,this.tri⟩
 have:=(Nz (F:=F) K _ (ae _)).1;rw[S7]at this;exact this.perm h.pm
def OT.at(h:OT S n es)(hi:i < es.length)(hj:j < es.length):kv es i (Ox es j)=if i=j then S.one else S.zero:=by
 rw[EA (ag hi),Ej (ag hj)];by_cases e:i=j
 . subst e;rw[if_pos rfl];exact h.one _ (aM hi)
 . rw[if_neg e];have P:=List.pairwise_iff_getElem.mp h.mu;by_cases lt:i < j
   . exact(P i j hi hj lt).1
   . exact(P j i hj hi oM).2
def OT.parts(h:OT S n es)(s:Q3 S n es.length (kv es) v):∀j,j < n->v j=lin S (λi=>v (Ox es i)) (kv es) es.length j:=by
 obtain⟨c,hc⟩:=s;have hp:∀i,i < es.length->Ox es i < n:=λi hi=>by rw[Ej (ag hi)];exact h.lt _ (aM hi)
 have ec:∀i,i < es.length->v (Ox es i)=c i:=λi hi=>by
  rw[hc _ (hp i hi)];unfold lin;rw[Ar (i:=i) hi λk hk ne=>by rw[h.at hk hi,if_neg ne,S.mul_zero],h.at hi hi,if_pos rfl,S.mul_one]
 intro j hj;rw[hc j hj];exact u7 λi hi=>by dsimp only;rw[ec i hi]
def QX{n:Nat}{ks es:List (Nat × (Nat->S.W))}(pm:es.Perm (KN F ks)):(∀k∈ks,Q3 S n es.length (kv es) k.2)/\∀m vs,(∀k∈ks,Q3 S n m vs k.2)->∀e∈es,Q3 S n m vs e.2:=by
 have gen:∀e∈es,Q3 S n es.length (kv es) e.2:=λe he=>by
  obtain⟨i,hi,z,_⟩:=VM he;rw[<- z];exact Q3.gen hi
 have key:∀i,i<=ks.length->∀e∈echI F ks i,e∈es:=by
  intro i hi e he;rw[pm.mem_iff,<- S7];have pre:∀k,i+k<=ks.length->e∈echI F ks (i+k):=by
   intro k
   induction k with
   | zero=>intro _;exact he
   | succ k ih=>
    intro hk;rw[<- Nat.add_assoc,O8 oM (ag (show ks.length - 1 - (i+k) < ks.length by omega))];exact aW _ (ih oM)
  have:=pre (ks.length - i) oM;rwa [show i+(ks.length - i)=ks.length by omega]at this
 constructor
 . intro k hk;obtain⟨q,hq,z⟩:=cB.mp hk;have hs:=O8 (F:=F) (ks:=ks) (i:=ks.length - 1 - q) (k:=k) oM (by rw[show ks.length - 1 - (ks.length - 1 - q)=q by omega,ag hq,z]);have m1:(k.1,clr F (echI F ks (ks.length - 1 - q)) k.2)∈es:=key (ks.length - 1 - q+1) oM _ (by rw[hs];exact ax _ (cA _));have h1:=gen _ m1;have h2:=BK (F:=F) (u:=k.2) λe he=>gen e (key (ks.length - 1 - q) oM e he);refine(h1.add (h2.mul (F.neg S.one))).congr λj hj=>?_;show _=S.add (clr F _ k.2 j) _;rw[MG,QV,Td,Tc,<- S.add_assoc,F.add_neg,MF]
 . intro m vs h2 e he;have h3:∀i,i<=ks.length->∀e∈echI F ks i,Q3 S n m vs e.2:=by
    intro i
    induction i with
    | zero=>intro _ e he;cases he
    | succ i ih=>
     intro hi e he;rw[O8 oM (ag (show ks.length - 1 - i < ks.length by omega))]at he;rcases aF.mp he with he | he
     . exact ih oM e he
     . rw[av.mp he];have a:=h2 _ (aM (show ks.length - 1 - i < ks.length by omega));have b:=BK (F:=F) (u:=(ks[ks.length - 1 - i]'oM).2) (ih oM);refine(b.add a).congr λj hj=>?_;rw[S.add_assoc,S.add_comm (F.neg _),F.add_neg,S.add_zero]
   have hm:=pm.mem_iff.mp he;rw[<- S7]at hm;exact h3 _ (ae _) _ hm
def T2.span(h:T2 F n rs es):(∀r∈rs,Q3 S n es.length (kv es) r)/\∀i,i < es.length->Q3 S n rs.length (KM rs) (kv es i):=by
 obtain⟨h1,h2⟩:=QX (n:=n) h.pm;constructor
 . intro r hr;have z:rs.length≠0:=λz=>by rw[bw.mp z]at hr;cases hr
   rw[if_neg z]at h1;obtain⟨c,hc⟩:=QC (F:=F) (w:=n) rs r hr;have:Q3 S n es.length (kv es) (lin S c (kv (kpL F n rs)) (kpL F n rs).length):=Q3.lin λi hi=>h1 _ (QK hi);exact this.congr hc
 . intro i hi;rw[EA (ag hi)];refine h2 _ _ (λk hk=>?_) _ (aM hi);have z:rs.length≠0:=λz=>by
    rw[bw.mp z]at hk;cases hk
   rw[if_neg z]at hk;exact Nl _ (λr hr=>by
    obtain⟨q,hq,rfl⟩:=IZ hr;exact Q3.gen hq) k hk
end
section
variable{S:SR}{F:Ab S}{C:Cb S}
def Ti:J7 S (lin S c vs m) y n=sm S (λk=>S.mul (c k) (J7 S (vs k) y n)) m:=Fo c vs y m n
def OG(h:∀j,j < n->x j=x' j):J7 S x y n=J7 S x' y n:=u7 λi hi=>by rw[h i hi]
structure Nar(F:Ab S)(l:List Nat)(n:Nat)(st:Nat->S.W)(tb:Nat->Nat->Nat->S.W)(es:List (Nat × (Nat->S.W))):Prop where
 ech:OT S n es
 all:∀u,(∀d∈u,d∈l)->Q3 S n es.length (kv es) (y6 S n st (E7 l tb) u)
 few:∀i,i < es.length->Q3 S n (Rt l (n - 1)).length (KM ((Rt l (n - 1)).map (y6 S n st (E7 l tb)))) (kv es i)
 stp:∀i,i < es.length->∀c∈l,Q3 S n es.length (kv es) (JS S n (E7 l tb c) (kv es i))
def Vp(E:T2 F n ((Fb F n (y6 S n st (E7 l tb)) (gB l)).map (y6 S n st (E7 l tb))) es):Nar F l n st tb es:=by
 obtain⟨s1,s2⟩:=E.span;have fa:=VZ (F:=F) (ρ:=y6 S n st (E7 l tb)) (L:=λc=>JS S n (E7 l tb c)) (NU (l:=l)) (λc _=>Mj) (λc u _ j _=>by rw[E1]);have all:∀u,(∀d∈u,d∈l)->Q3 S n es.length (kv es) (y6 S n st (E7 l tb) u):=λu hu=>by
  obtain⟨c,hc⟩:=fa u hu;have:Q3 S n es.length (kv es) (lin S c (KM ((Fb F n (y6 S n st (E7 l tb)) (gB l)).map (y6 S n st (E7 l tb)))) (Fb F n (y6 S n st (E7 l tb)) (gB l)).length):=Q3.lin λi hi=>s1 _ (ME (by rw[af];exact hi));exact this.congr hc
 refine⟨E.ech,all,λi hi=>?_,λi hi c hc=>?_⟩
 . obtain⟨d,hd⟩:=s2 i hi;refine(Q3.lin (c:=d) λk hk=>?_:Q3 S n _ _ (lin S d (KM ((Fb F n (y6 S n st (E7 l tb)) (gB l)).map (y6 S n st (E7 l tb)))) _)).congr hd;obtain⟨w,hw,e⟩:=aE.mp (ME hk);rw[<- e];have:=MW KF hw;obtain⟨q,hq,eq⟩:=IZ (List.mem_map_of_mem (f:=y6 S n st (E7 l tb)) (MT (l:=l) (n - 1) w oM this.2));rw[<- eq];rw[af]at hq;exact Q3.gen hq
 . obtain⟨d,hd⟩:=s2 i hi;have e1:∀j,j < n->JS S n (E7 l tb c) (kv es i) j=lin S d (λk=>JS S n (E7 l tb c) (KM ((Fb F n (y6 S n st (E7 l tb)) (gB l)).map (y6 S n st (E7 l tb))) k)) ((Fb F n (y6 S n st (E7 l tb)) (gB l)).map (y6 S n st (E7 l tb))).length j:=λj hj=>by
    rw[Mj.co _ _ hd j hj,Mj.li _ _ _ j hj]
   refine(Q3.lin (c:=d) λk hk=>?_:Q3 S n es.length (kv es) (lin S d _ _)).congr e1;obtain⟨w,hw,e⟩:=aE.mp (ME hk);have:=MW KF hw;rw[<- e,<- E1];exact all _ λq hq=>by
    rcases aF.mp hq with hq | hq
    . exact this.2 q hq
    . rw[av.mp hq];exact hc
def Ta{α:Type}{f:α->Nat->S.W}{ws:List α}{j:Nat}(d:α)(h:j < ws.length):KM (ws.map f) j=f (ws.getD j d):=by
 rw[Ja (r:=f ws[j]) (by rw[ay,ag h];rfl),bD,ag h];rfl
abbrev AL(l u:List Nat):Prop:=∀d∈u,d∈l
end
section
variable{S:SR}{F:Ab S}{C:Cb S}
end
section
variable{S:SR}{F:Ab S}{C:Cb S}
def Q2(S:SR)(l:List Nat)(n:Nat)(st:Nat->S.W)(tb:Nat->Nat->Nat->S.W)(en:Nat->S.W)(u:List Nat):S.W:=J7 S (y6 S n st (E7 l tb) u) en n
def Nu{ws:List (List Nat)}{k:Nat}(h:k < ws.length):ws.getD k []∈ws:=by
 rw[bD,ag h];exact aM h
section
variable{l:List Nat}{n:Nat}{st:Nat->S.W}{tb:Nat->Nat->Nat->S.W}{en:Nat->S.W}{es:List (Nat × (Nat->S.W))}{ws:List (List Nat)}{c:Nat->S.W}
end
section
variable{l:List Nat}{n n':Nat}{st st':Nat->S.W}{tb tb':Nat->Nat->Nat->S.W}{en en':Nat->S.W}{es es':List (Nat × (Nat->S.W))}
def T7(S:SR)(n:Nat)(x y:Nat->S.W):Nat->S.W:=λj=>if j < n then x j else y (j - n)
end
section
variable{l:List Nat}{n:Nat}{st st':Nat->S.W}{tb tb':Nat->Nat->Nat->S.W}{en en':Nat->S.W}
def Jn(e:(∀i,i < n->st' i=st i)/\(∀c,c < l.length->∀i,i < n->∀j,j < n->tb' c i j=tb c i j))
    (g:(∀c,c < l.length->∀j,j < n->tb' c n j=S.zero)\/(st' n=S.zero/\∀c,c < l.length->∀i,i < n->tb' c i n=S.zero)):∀u,AL l u->(∀i,i < n->y6 S (n+1) st' (E7 l tb') u i=y6 S n st (E7 l tb) u i)/\((∀c,c < l.length->∀j,j < n->tb' c n j=S.zero)\/y6 S (n+1) st' (E7 l tb') u n=S.zero):=by
 refine(NU (l:=l)).ind _ ⟨e.1,g.imp id And.left⟩ λc u hc hu ih=>?_;have hx:l.idxOf c < l.length:=dm.mpr hc;rw[E1,E1];have eq:∀j,j < n->JS S (n+1) (E7 l tb' c) (y6 S (n+1) st' (E7 l tb') u) j=S.add (JS S n (E7 l tb c) (y6 S n st (E7 l tb) u) j) (S.mul (y6 S (n+1) st' (E7 l tb') u n) (tb' (l.idxOf c) n j)):=λj hj=>by
  show S.add (sm S _ n) _=S.add (sm S _ n) _;congr 1;exact u7 λi hi=>by
   rw[ih.1 i hi];show S.mul _ (tb' (l.idxOf c) i j)=S.mul _ (tb (l.idxOf c) i j);rw[e.2 _ hx i hi j hj]
 rcases ih.2 with z | z
 . exact⟨λj hj=>by rw[eq j hj,z _ hx j hj,S.mul_zero,S.add_zero],.inl z⟩
 . refine⟨λj hj=>by rw[eq j hj,z,Hi,S.add_zero],?_⟩;rcases g with g | g
   . exact .inl g
   . right;show S.add (sm S (λi=>S.mul (y6 S (n+1) st' (E7 l tb') u i) (tb' (l.idxOf c) i n)) n) (S.mul (y6 S (n+1) st' (E7 l tb') u n) _)=_;rw[z,Hi,S.add_zero,u7 (g:=λ_=>S.zero) λi hi=>by rw[g.2 _ hx i hi,S.mul_zero],O0]
def Rq(e:(∀i,i < n->st' i=st i)/\(∀c,c < l.length->∀i,i < n->∀j,j < n->tb' c i j=tb c i j)/\∀i,i < n->en' i=en i)
    (g:(en' n=S.zero/\∀c,c < l.length->∀j,j < n->tb' c n j=S.zero)\/(st' n=S.zero/\∀c,c < l.length->∀i,i < n->tb' c i n=S.zero)) (u:List Nat) (hu:AL l u):Q2 S l (n+1) st' tb' en' u=Q2 S l n st tb en u:=by
 have d:Q2 S l (n+1) st' tb' en' u=S.add (J7 S (y6 S (n+1) st' (E7 l tb') u) en' n) (S.mul (y6 S (n+1) st' (E7 l tb') u n) (en' n)):=rfl;have f:(∀i,i < n->y6 S (n+1) st' (E7 l tb') u i=y6 S n st (E7 l tb) u i)->J7 S (y6 S (n+1) st' (E7 l tb') u) en' n=Q2 S l n st tb en u:=λa=>u7 λi hi=>by rw[a i hi,e.2.2 i hi]
 rcases g with g | g
 . have a:=(Jn (S:=S) ⟨e.1,e.2.1⟩ (.inl g.2) u hu).1;rw[d,g.1,S.mul_zero,S.add_zero,f a]
 . rcases Jn (S:=S) ⟨e.1,e.2.1⟩ (.inr g) u hu with ⟨a,b | b⟩
   . have r0:y6 S (n+1) st' (E7 l tb') u n=S.zero:=by
      have key:∀u,AL l u->y6 S (n+1) st' (E7 l tb') u n=S.zero:=by
       refine(NU (l:=l)).ind _ g.1 λc u hc hu ih=>?_;have hx:l.idxOf c < l.length:=dm.mpr hc;rw[E1];show S.add (sm S (λi=>S.mul (y6 S (n+1) st' (E7 l tb') u i) (tb' (l.idxOf c) i n)) n) (S.mul (y6 S (n+1) st' (E7 l tb') u n) _)=_;rw[ih,Hi,S.add_zero,u7 (g:=λ_=>S.zero) λi hi=>by rw[g.2 _ hx i hi,S.mul_zero],O0]
      exact key u hu
     rw[d,r0,Hi,S.add_zero,f a]
   . rw[d,b,Hi,S.add_zero,f a]
end
end
section
variable{S:SR}{F:Ab S}{C:Cb S}
def QY{w m:Nat}{vs:Nat->Nat->S.W}{u y:Nat->S.W}(h:Q3 S w m vs u)(z:∀k,k < m->J7 S (vs k) y w=S.zero):J7 S u y w=S.zero:=by
 obtain⟨c,hc⟩:=h;rw[OG hc,Ti,u7 (g:=λ_=>S.zero) λk hk=>by rw[z k hk,S.mul_zero],O0]
open Classical in
noncomputable def GM(D:List Nat->S.W)(ws:List (List Nat)):List (List Nat):=ws.filter λu=>decide (D u≠S.zero)
def Nh{D:List Nat->S.W}{ws:List (List Nat)}:(GM D ws).length<=ws.length:=List.length_filter_le _ _
def Ik{D:List Nat->S.W}{ws:List (List Nat)}{u:List Nat}:u∈GM D ws↔u∈ws/\D u≠S.zero:=by
 unfold GM;rw[cE];simp
def EX{D:List Nat->S.W}{ws:List (List Nat)}:GM D ws=[]↔∀u∈ws,D u=S.zero:=by
 rw[List.eq_nil_iff_forall_not_mem];exact⟨λh u hu=>Classical.byContradiction λn=>h u (Ik.mpr ⟨hu,n⟩),λh u hu=>(Ik.mp hu).2 (h u (Ik.mp hu).1)⟩
def Vb{D:List Nat->S.W}{ws:List (List Nat)}{u:List Nat}{j:Nat}(h:ws[j]? = some u)(e:D u=S.zero):GM D (ws.take (j+1))=GM D (ws.take j):=by
 unfold GM;rw[J8 h,List.filter_append];simp[e]
def Se{D:List Nat->S.W}{ws:List (List Nat)}{u:List Nat}{j:Nat}(h:ws[j]? = some u)(e:D u≠S.zero):GM D (ws.take (j+1))=GM D (ws.take j)++[u]:=by
 unfold GM;rw[J8 h,List.filter_append];simp[e]
noncomputable def gP(l:List Nat)(D:List Nat->S.W)(ws:List (List Nat)):List (List Nat):=if(GM D ws).length=0 then gB l ws else []
def KD{l:List Nat}{D:List Nat->S.W}:Gw l (gP l D):=by
 refine⟨?_,λws i h u hu=>?_⟩
 . unfold gP;split <;>rfl
 . unfold gP at hu;split at hu
   . exact KF.2 ws i h u hu
   . cases hu
section
variable{l:List Nat}{n:Nat}{ρ:List Nat->Nat->S.W}{D:List Nat->S.W}
theorem IY:∀i,(∀u∈(B3 F n ρ (gP l D) i).told,D u=S.zero)->B3 F n ρ (gP l D) i=B3 F n ρ (gB l) i
 | 0,_=>rfl
 | i+1,h=>by
  have h0:∀u∈(B3 F n ρ (gP l D) i).told,D u=S.zero:=λu hu=>h u (aW _ hu);have e:=IY i h0;have hf:GM D (Em F n ρ (B3 F n ρ (gP l D) i).ks (B3 F n ρ (gP l D) i).last)=[]:=EX.mpr λu hu=>h u (ax _ hu);have eg:gP l D (Em F n ρ (B3 F n ρ (gP l D) i).ks (B3 F n ρ (gP l D) i).last)=gB l (Em F n ρ (B3 F n ρ (gP l D) i).ks (B3 F n ρ (gP l D) i).last):=if_pos (by rw[hf];rfl);show(⟨_,_,gP l D _⟩:Wr S)=⟨_,_,gB l _⟩;rw[eg,e]
end
section
variable{l:List Nat}{n:Nat}{st:Nat->S.W}{tb:Nat->Nat->Nat->S.W}{en:Nat->S.W}
end
end
end Mine
namespace L2
open PySem Mine
def U1(C:Addr)(fs:List (Str × V))(H:Hp)(k:V):Prop:=∃p dx,k=.ref p/\H p=some (.ins C dx fs)
def U1.same{C:Addr}{fs:List (Str × V)}{H H':Hp}{k:V}(e:j0 H H')(h:U1 C fs H k):U1 C fs H' k:=by
 obtain⟨p,dx,rfl,h⟩:=h;exact⟨p,dx,rfl,e _ _ h⟩
def AM(S:SR)(n:Nat):Prop:=n<=60000000\/∀k y,S.sz k y
def AM.le{S:SR}{m n:Nat}(h:AM S n)(e:m<=n):AM S m:=h.imp (ah e) id
def Hu(C:Addr)(fs:List (Str × V))(S:SR)(is:Hp->V->S.W->Prop)(f:S.W->S.W->S.W):Sp:=λvs H Q _=>∃k x y a b m n,vs=[k,x,y]/\
 (U1 C fs H k/\is H x a/\is H y b/\S.sz m a/\S.sz n b/\AM S (m+n))/\∀v H',j0 H H'->is H' v (f a b)->Q v H'
def Ht(C:Addr)(fs:List (Str × V))(S:SR)(is:Hp->V->S.W->Prop)(z:S.W):Sp:=λvs H Q _=>∃k,vs=[k]/\U1 C fs H k/\∀v H',j0 H H'->is H' v z->Q v H'
def Pp(C:Addr)(fs:List (Str × V))(S:SR)(is:Hp->V->S.W->Prop):Sp:=λvs H Q _=>∃k x a,vs=[k,x]/\(U1 C fs H k/\is H x a)/\Q (.bl true) H
def WS(b:Bool):Sp:=λvs H Q _=>∃x,vs=[x]/\Q (.bl b) H
def Pn(C:Addr)(fs:List (Str × V))(S:SR)(is:Hp->V->S.W->Prop)(f:S.W->S.W):Sp:=λvs H Q _=>∃k x a,vs=[k,x]/\(U1 C fs H k/\is H x a)/\∀v H',j0 H H'->is H' v (f a)->Q v H'
def Pq(C:Addr)(fs:List (Str × V))(S:SR)(is:Hp->V->S.W->Prop)(f:S.W->S.W):Sp:=λvs H Q _=>∃k x a,vs=[k,x]/\(U1 C fs H k/\is H x a/\a≠S.zero)/\∀v H',j0 H H'->is H' v (f a)->Q v H'
set_option genInjectivity false in
set_option genSizeOfSpec false in
structure c9(P:Program)(w:World)(K:aa)(mg:Str->Option Value)(base:Heap)where
 S:SR
 C:Addr
 fs:List (Str × V)
 cl:MR K C
 is:Hp->V->S.W->Prop
 same:∀{H H':Hp} {v:V} {x:S.W},B5 H H'->is H v x->is H' v x
 isd:∀{H:Hp} {v:V} {x:S.W},is H v x->Is K H v (S.data x)
 F:Ab S
 B:Cb S
 f_minus:Addr
 d_minus:FuncData
 t_minus:Er K C "minus" f_minus
 b_minus:K9 K d_minus ["self","x"] []
 l_minus:fs.lookup ("minus":Str)=none
 G_minus:∀{base:Heap},x8 P w K mg base F9 40 f_minus d_minus ["self","x"] (Pn C fs S is F.neg)
 f_inverse:Addr
 d_inverse:FuncData
 t_inverse:Er K C "inverse" f_inverse
 b_inverse:K9 K d_inverse ["self","x"] []
 l_inverse:fs.lookup ("inverse":Str)=none
 G_inverse:∀{base:Heap},x8 P w K mg base F9 40 f_inverse d_inverse ["self","x"] (Pq C fs S is F.inv)
 f_is_field:Addr
 d_is_field:FuncData
 t_is_field:Er K C "is_field" f_is_field
 b_is_field:K9 K d_is_field ["self"] []
 l_is_field:fs.lookup ("is_field":Str)=none
 G_is_field:∀{base:Heap},x8 P w K mg base F9 40 f_is_field d_is_field ["self"] (WS true)
 f_plus:Addr
 d_plus:FuncData
 t_plus:Er K C "plus" f_plus
 b_plus:K9 K d_plus ["self","x","y"] []
 l_plus:fs.lookup ("plus":Str)=none
 G_plus:∀{base:Heap},x8 P w K mg base F9 40 f_plus d_plus ["self","x","y"] (Hu C fs S is S.add)
 f_times:Addr
 d_times:FuncData
 t_times:Er K C "times" f_times
 b_times:K9 K d_times ["self","x","y"] []
 l_times:fs.lookup ("times":Str)=none
 G_times:∀{base:Heap},x8 P w K mg base F9 40 f_times d_times ["self","x","y"] (Hu C fs S is S.mul)
 f_nought:Addr
 d_nought:FuncData
 t_nought:Er K C "nought" f_nought
 b_nought:K9 K d_nought ["self"] []
 l_nought:fs.lookup ("nought":Str)=none
 G_nought:∀{base:Heap},x8 P w K mg base F9 40 f_nought d_nought ["self"] (Ht C fs S is S.zero)
 f_is_weight:Addr
 d_is_weight:FuncData
 t_is_weight:Er K C "is_weight" f_is_weight
 b_is_weight:K9 K d_is_weight ["self","thing"] []
 l_is_weight:fs.lookup ("is_weight":Str)=none
 G_is_weight:∀{base:Heap},x8 P w K mg base F9 40 f_is_weight d_is_weight ["self","thing"] (Pp C fs S is)
 f_one:Addr
 d_one:FuncData
 t_one:Er K C "one" f_one
 b_one:K9 K d_one ["self"] []
 l_one:fs.lookup ("one":Str)=none
 G_one:∀{base:Heap},x8 P w K mg base F9 40 f_one d_one ["self"] (Ht C fs S is S.one)
def c9.re{P:Program}{w:World}{K:aa}{mg:Str->Option Value}{base:Heap}(R:c9 P w K mg base)(base2:Heap):c9 P w K mg base2:={ R with }
section
variable{P:Program}{w:World}{K:aa}{mg:Str->Option Value}{base:Heap}
def c9.neD(R:c9 P w K mg base){H:Hp}{x y:V}{a b:R.S.W}{Q:VK}(hx:R.is H x a)(hy:R.is H y b)(e:a=b)(q:Q (.bl false) H):Oe K x y H Q:=
 ⟨_,_,R.isd hx,R.isd hy,R.S.sh _,R.S.sh _,R.S.nm _ _,by subst e;rw[R.S.eq];exact q⟩
def c9.neT(R:c9 P w K mg base){H:Hp}{x y:V}{a b:R.S.W}{Q:VK}(hx:R.is H x a)(hy:R.is H y b)(e:a≠b)(q:Q (.bl true) H):Oe K x y H Q:=
 ⟨_,_,R.isd hx,R.isd hy,R.S.sh _,R.S.sh _,R.S.nm _ _,by rw[R.S.ne _ _ e];exact q⟩
end
def Gx(H:Hp)(v:V)(a b:Int):Prop:=∃p,v=.ref p/\H p=some (.tup [.int a,.int b])
def Gx.same{H H':Hp}{v:V}{a b:Int}(e:B5 H H')(h:Gx H v a b):Gx H' v a b:=by
 obtain⟨p,rfl,h⟩:=h;exact⟨p,rfl,e _ _ h⟩
def Gx.is{K:aa}{H:Hp}{v:V}{a b:Int}(h:Gx H v a b):Is K H v (.tuple [.int a,.int b]):=by
 obtain⟨p,rfl,h⟩:=h;exact .tup (o9.of h) (.cons (.int _) (.cons (.int _) .nil))
def Gx.new{H:Hp}{p:Addr}{a b:Int}:Gx (upd H p (.tup [.int a,.int b])) (.ref p) a b:=⟨p,rfl,c4⟩
def Kz(H:Hp)(v:V)(x:Fr):Prop:=Gx H v x.t x.b
def Kx(p:Int)(_:Hp)(v:V)(x:Re p):Prop:=v=.int x.x
def LX(p:Int):List (Str × V):=Bp "prime" (.int p) []
def Ai(p:Int):(LX p).lookup ("prime":Str)=some (.int p):=by
 unfold LX;rw[Y6,if_pos rfl]
def AE(p:Int){m:Str}(h:¬m="prime"):(LX p).lookup m=none:=by
 unfold LX;rw[Y6,if_neg h];rfl
def Hv{H:Hp}{C x dx:Addr}{fs:List (Str × V)}(n:H x=none)(m:H dx=none):j0 H (upd (upd H dx (.own x)) x (.ins C dx fs)):=λb o e=>by
 rw[o4 (l7 e n),o4 (l7 e m)];exact e
def Gg(xs:List V)(k:Nat):Ce xs none (some (k:Int))=xs.take k:=by
 unfold Ce;rw[HT.JJ,HT.Nd,List.drop_zero,Nat.sub_zero];by_cases h:k<=xs.length
 . rw[Nat.min_eq_left h]
 . rw[Nat.min_eq_right oM,bo,cS oM]
def decI{i j:Int}(e:i=j):decide (V.int i=V.int j)=true:=decide_eq_true (congrArg V.int e)
def Jr{x:Int}{n:Nat}(h:x.natAbs<=2 ^ n):Builtin.Int.intBits x<=n+1:=intBits_le_iff.mpr (Nat.lt_of_le_of_lt h (Nat.pow_lt_pow_right (by decide) (bR _)))
def GT{x y:Int}{m n:Nat}(h1:x.natAbs<=2 ^ m)(h2:y.natAbs<=2 ^ n)(h:m+n<=60000000):EG x y:=by
 have a:=Jr h1;have b:=Jr h2;show _<=2 ^ 27;have e:(2:Nat) ^ 27=134217728:=by decide
 omega
section
variable{P:Program}{w:World}{K:aa}{mg:Str->Option Value}{base:Heap}{R:c9 P w K mg base}{h n m:Nat}{x:Nat->R.S.W}{y:Nat->Nat->R.S.W}{v:V}{H H':Hp}
end
end L2
namespace L2
open PySem PySem.Spec PyProof.Rows
def WJ(ta:TA):TE:=λσ H Q=>ta σ H λvs H1=>∃n:Nat,vs=[.int n]/\n<=1000/\∀p,H1 p=none->Q (.ref p) (upd H1 p (.lst ((List.range n).map λi=>V.int (i:Nat))))
def Og{X:Cx}{a:Expr}{ta:TA}{p p' pos pos':Pos}(hc:X.calm=true)(hg:Gl X "list")(hm:X.mg "list"=none)(hg':Gl X "range")(hm':X.mg "range"=none)(ha:PA X [a] ta)
    (hs:starEach [a] X.env=[(false,eval a X.env)]:=by rfl) (hs':starEach [.Call (.Name "range" p') [a] [] pos'] X.env=[(false,eval (.Call (.Name "range" p') [a] [] pos') X.env)]:=by rfl) :
    PE X (.Call (.Name "list" p) [.Call (.Name "range" p') [a] [] pos'] [] pos) (WJ ta):=by
 intro pins s σ H Q I h;refine wpAny_Call_Name_kw (AH I hg hm boot_list ?_);refine cn ?_ hs' rfl;rw[hs'];refine Calls.spliced_cons ?_;refine Call_ (AH I hg' hm' boot_range (cn (E3 (ha pos' pins s σ H _ I h) λus s1 ⟨vs,H1,I1,r1,q1⟩=>?_) hs rfl));obtain⟨n,e,hn,q⟩:=q1;subst e;have line:1000 < sizeLine:=by decide
 cases r1 with
 | cons r rr=>
  cases rr;obtain⟨t,rfl⟩:=r;refine call_range_1 ?_;refine Calls.spliced_nil ?_;have sz:(s1.heap.push { cls:=.type "range",data:=.fields #[.int 0 s1.toks,.int n t,.int 1 (s1.toks+1)] }).objs.size=s1.heap.objs.size+1:=aX ..;refine call_list_range (n:=n) (I1.ok.hd hc) (IsRange.new ..) (small_one oM oM oM oM) (by rw[rangeSize_one];split <;>omega) oM λh' tk acc' c' hk hS hacc=>?_;have up:∀b o,s1.heap.get? b=some o->h'.get? b=some o:=λb o e=>hk b o (ak _ e);have sz2:s1.heap.objs.size<=(s1.heap.push { cls:=.type "range",data:=.fields #[.int 0 s1.toks,.int n t,.int 1 (s1.toks+1)] }).objs.size:=by rw[sz];omega
  obtain⟨hsz,hit⟩:=hacc;have vals:z8 ((List.range n).map λi=>V.int (i:Nat)) acc'.toList:=by
   have key:∀(m k:Nat) (ls:List Value),ls.length=m->(∀i v,ls[i]? = some v->∃t,v=Value.int ((k+i:Nat):Int) t)->z8 ((List.range' k m).map λi=>V.int (i:Nat)) ls:=by
    intro m
    induction m with
    | zero=>intro k ls e _;cases bw.mp e;exact .nil
    | succ m ih=>
     intro k ls e g;cases ls with
     | nil=>cases e
     | cons v ls=>
      rw[List.range'_succ,aP];obtain⟨t,rfl⟩:=g 0 v rfl;exact .cons ⟨t,rfl⟩ (ih (k+1) ls (by simpa using e) λi v hv=>by
       obtain⟨t,e2⟩:=g (i+1) v (by simpa using hv);exact⟨t,by rw[e2,show k+(i+1)=k+1+i by omega]⟩)
   have:=key n 0 acc'.toList (by simpa using hsz) λi v hv=>by
    obtain⟨t,e2⟩:=hit i v (by rw[<- Array.getElem?_toList];exact hv);exact⟨t,by rw[e2];congr 1;omega⟩
   rw[<- List.range_eq_range']at this;exact this
  exact⟨.ref _,_,I1.laid (t':=tk) up sz2 (show L6 X.prog X.w _ h' _ (.lst _)from⟨by rw[af,cj];omega,acc'.toList,c',vals,by rw[Array.toArray_toList];exact hS⟩),rfl,q _ (I1.hok.fresh sz2)⟩
end L2
namespace L2
open PySem PySem.Spec PyProof.Rows PySem.Builtin PySem.Builtin.Str
section
variable{X:Cx}
def DY{st:Stmt}{t:TS}(i:Nat)(h:PS X st t):PS X st (λD σ H=>t D (σ.set i none) H):=by
 intro pins s σ H D I q;refine h pins s (σ.set i none) H D (I.weak bC λj v e=>?_) q;by_cases z:i=j
 . subst z;by_cases z2:i < σ.length
   . rw[bZ z2]at e;cases e
   . rw[du (by rw[bC];omega)]at e;cases e
 . rwa [bE z]at e
end
end L2
namespace L2
open PySem PySem.Spec PyProof.Rows
section
variable{P:Program}{w:World}{H H':Hp}{h h':Heap}
def Ac.there(x:Ac P w H h)(e:H a=some o):∃ob,h.get? a=some ob:=by
 have y:=x a o e;clear e x
 induction o with
 | lst xs=>obtain⟨_,its,n,r,e⟩:=y;exact⟨_,e⟩
 | tup xs=>obtain⟨_,its,r,⟨ob,e,c⟩,_⟩:=y;exact⟨_,e⟩
 | dK kvs=>obtain⟨_,_,vs,r,ob,es,ep,e,c⟩:=y;exact⟨_,e⟩
 | dT kvs=>obtain⟨_,_,xs,r,ob,es,ep,e,c⟩:=y;exact⟨_,e⟩
 | set S n=>obtain⟨ob,es,ep,t,e,c⟩:=y;exact⟨_,e⟩
 | ins C dx fs=>obtain⟨d,z,ne,e,_⟩:=y;exact⟨_,e⟩
 | own y'=>exact y
 | xd fs=>obtain⟨mA,⟨od,es,ep,e,c⟩,r⟩:=y;exact⟨_,e⟩
 | rng lo hi=>obtain⟨t,u,v,e⟩:=y;exact⟨_,e⟩
 | frz ob u ih=>exact⟨_,y.1⟩
 | tbl ps=>exact⟨_,y⟩
 | met f y'=>exact⟨_,y⟩
 | ext φ=>exact y.2.1
def Ac.loose(x:Ac P w H h)(k:∀b u,H b≠none->h.get? b=some u->h'.get? b=some u):Ac P w H h':=λa o e=>
 (x a o e).stay (λb u hb q=>k b u (by
  rcases hb with z | z
  . rw[z,e];exact nofun
  . rw[z];exact nofun) q) (λ_ q=>q) λ_ _ q=>q
def XT(h:Heap)(a T C:Addr):Prop:=∃oe vs a0 oT ts,h.get? a=some oe/\(oe.cls=.ref C/\vs[0]? = some a0)/\oe.data=.fields vs/\vs[1]? = some (.ref T)/\T≠a/\h.get? T=some oT/\oT.data=.fields ts/\ts[3]? = some .none
structure Fly(P:Program)(w:World)(fs:List Addr)(H H':Hp)(s s':Shared)(a T C:Addr):Prop where
 os:s'.os=s.os
 bare:AllBare s'.gens
 un:Un fs [] H H' s.heap s'.heap
 hok:Ac P w H' s'.heap
 xt:XT s'.heap a T C
 na:s.heap.get? a=none
 nT:s.heap.get? T=none
 ha:H' a=none
 hT:H' T=none
def CX1(P:Program)(w:World):OO:=λouter H s E e s'=>∃a T C H',e=.ref a/\Fly P w (FY outer) H H' s s' a T C/\E (.ref C) none H'
end
section
variable{P:Program}{w:World}{H H':Hp}{s s':Shared}{a T C:Addr}{l:List Env}{base0:Heap}
end
def XP(X:Cx)(pins:List (Addr × Obj))(σ:St)(E:XK)(e:Value)(s':Shared):Prop:=∃s H,r9 X pins σ H s/\CX1 X.prog X.w X.stack H s E e s'
structure e0l(X:Cx)(E:XK):Prop where
 stk:X.stack=X.env::X.outer
 fr:X.env.frame=some X.env.locals
 ex:X.ex=[]
 xe:X.xe=λe s'=>wpAny (model X.prog X.w) X.A (leaving X.env e) (λ_ s''=>CX1 X.prog X.w X.outer X.H₀ X.s₀ E e s'') (λe' s''=>CX1 X.prog X.w X.outer X.H₀ X.s₀ E e' s'') s'
section
variable{X:Cx}{pins:List (Addr × Obj)}{σ:St}{H:Hp}{s s':Shared}{E:XK}{e:Value}
end
abbrev bmV:List Value:=[.type "ValueError",.type "Exception",.type "BaseException",.type "object"]
section
variable{P:Program}{w:World}{K:aa}{mg:Str->Option Value}{base:Heap}
def e0l.own(R:e0l X E):PassesOwn (model X.prog X.w) X.A X.env X.xe:=by rw[R.xe];exact PassesOwn.leaving
end
section
variable{X:Cx}{k:Nat}{f C:Addr}{fd:FuncData}{ps:List Str}{sp:Sp}{dvs:List V}{ds:List Value}{E:XK}{x m:Str}{p np cpos pos apos:Pos}{e o:Expr}{es:List Expr}{ta:TE}{t:TA}{tx:TX}
end
section
variable{X:Cx}{pins:List (Addr × Obj)}{σ:St}{H:Hp}{s:Shared}{a:Addr}
end
section
variable{X:Cx}{e:Expr}{te:TE}{tx:TX}{pos:Pos}{st:Stmt}{t u:TSX}
end
end L2
namespace Mine
open PySem PySem.W PySem.Spec PySem.Calls PyProof.Rows
section
variable{prog:Program}{w:World}{A:Around}{E:Value->Shared->Prop}{s:Shared}{K:Frag}{x D:Addr}{o:Obj}{c:Value}
open Builtin Builtin.Getset_descriptor in
end
end Mine
namespace L2
open PySem PySem.Spec PyProof.Rows
structure ExcK(K:aa)(C:Addr):Prop where
 ga:PySem.W.findIn K (.ref C) "__getattribute__"=some (some (.builtin "BaseException.__getattribute__"))
 gt:PySem.W.findIn K (.ref C) "__getattr__"=some none
 cl:PySem.W.findIn K (.ref C) "__class__"=some (some (.builtin "object.__class__"))
 ob:PySem.W.mroIn K C (.type "object")=some true
 be:PySem.W.mroIn K C (.type "BaseException")=some true
 ex:PySem.W.excIn K C bmV "ValueError.__new__"=true
section
variable{X:Cx}
end
section
variable{X:Cx}
end
end L2
namespace L2
open PySem PySem.Spec PyProof.Rows PySem.W
structure Tb(mg:Str->Option Value)(h:Heap)(c P:Addr):Prop where
 cd:CodeHd h c P
 bl:h.BuiltinsAt mg P
 gl:mainGlobals≠P
section
variable{P:Program}{w:World}{H:Hp}{h h':Heap}{p:Addr}{ps qs:Array Value}
def Ac.tab(x:Ac P w H h)(hp:H p=some (.tbl ps))(hx:Heap.ExtBut p h h')(e:h'.get? p=some (tabObj qs)):Ac P w (upd H p (.tbl qs)) h':=λb u q=>by
 have own:∀c a,H c=some (.own a)->upd H p (.tbl qs) c=some (.own a):=λc a z=>by rw[o4 (Y5 z hp (by simp))];exact z
 have tup:∀c xs,H c=some (.tup xs)->upd H p (.tbl qs) c=some (.tup xs):=λc xs z=>by rw[o4 (Y5 z hp (by simp))];exact z
 by_cases hb:b=p
 . subst hb;rw[c4]at q;cases q;exact e
 . rw[o4 hb]at q;refine(x b u q).stay (λc o hc z=>hx c o ?_ z) (λc z=>own c b z) tup;rcases hc with rfl | hc
   . exact hb
   . exact Y5 hc hp (by simp)
def Un.tab(hp:H p=some (.tbl ps))(hx:Heap.ExtBut p h h')(e:h'.get? p=some (tabObj (ps++qs))):Un fs ex H (upd H p (.tbl (ps++qs))) h h' where
 keep:=λb o q n _ _=>hx b o (λz=>by rw[z,hp]at n;cases n) q
 slot:=λb o q n _ _=>⟨o.slots,hx b o (λz=>by rw[z,hp]at n;cases n) q⟩
 free:=λb o q n _=>by rw[o4 (λz=>by rw[z,hp]at n;cases n)];exact n
 there:=λb o q _=>by
  by_cases hb:b=p
  . exact⟨_,hb▸e⟩
  . exact⟨o,hx b o hb q⟩
 tups:=λb xs z=>by rw[o4 (Y5 z hp (by simp))];exact z
 frzs:=λb o u z=>by rw[o4 (Y5 z hp (by simp))];exact z
 tbls:=λb qs' z=>by
  by_cases hb:b=p
  . subst hb;rw[hp]at z;cases z;exact⟨qs,c4⟩
  . exact⟨#[],by rw[o4 hb,z];simp⟩
end
section
variable{X:Cx}{pins:List (Addr × Obj)}{σ:St}{H:Hp}{s:Shared}
theorem Tb.keeps(t:Tb mg h c P)(k:∀b o,h.get? b=some o->h'.get? b=some o):Tb mg h' c P:=
 ⟨t.cd.keeps k,let⟨bm,o,a1,a2,a3,a4,a5,r⟩:=t.bl;⟨bm,o,a1,a2,a3,a4,k _ _ a5,r⟩,t.gl⟩
def Gb(hx:Heap.ExtBut P h h'):Heap.ExtBut P h (h'.push o):=λb u hb e=>ak _ (hx b u hb e)
end
def Ub(ts:List Addr)(H:Hp):Prop:=∀p∈ts,H p=some (.tbl #[])
def Lw{K:Frag}{x qual:Str}{st:Stmt}{f c P:Addr}{fd:FuncData}{oc:Value}{od:Option Addr}{osl:Array (Option Value)}(ht:tabIn K x=some (c,P))(hn:nsIn K mainGlobals x=some (some (.ref f)))(lk:K.lookup f=some ⟨oc,od,.func fd,osl⟩):fd.code=.ref c:=by
 unfold tabIn at ht;rw[hn]at ht;simp only[lk]at ht;split at ht
 . rename_i c₂ hc;split at ht
   . split at ht
     . cases ht;exact hc
     . cases ht
   . cases ht
 . cases ht
section
variable{P:Program}{w:World}{K:aa}{mg:Str->Option Value}{base:Heap}
def Ll.okC{x qual:Str}{st:Stmt}{f c p:Addr}{fd:FuncData}{N ps:List Str}{k:Nat}{sp:Sp}(F:Ll K x qual st f fd)(S:g6 N ps (b9 st))(ht:tabIn K x=some (c,p))(hn:nsIn K mainGlobals x=some (some (.ref f)))(len:∀vs H Q E,sp vs H Q E->vs.length=ps.length)
    (hbody:∀(A:Around) (outer:List Env) (s:Shared) (H:Hp) (vs:List V) (Q:VK) (E:XK),K8 k (A.deeper (envOfC qual (b9 st) s.heap.objs.size f (.ref c)))->sp vs H Q E->
     ∃t,MP (MI F9 P w K mg base N qual (b9 st) f (.ref c) A outer s H E).nox (D0 st) t/\t { nx:=λ_ H'=>Q .non H',rt:=Q } (CW N vs) H):x8 P w K mg base F9 (k+1) f fd ps sp:=by
 obtain⟨oc,od,kV,doc,pm,an,cdv,ct,osl,rfl,lk,hcd⟩:=F.ex;have hc:cdv=.ref c:=Lw (st:=st) (qual:=qual) ht hn lk;subst hc;refine TQ lk hcd S len λA outer s H vs Q E hr hsp=>?_;obtain⟨t,h,q⟩:=hbody A outer s H vs Q E hr hsp;exact⟨t,h.nox,q⟩
end
def Ov{P:Program}{w:World}{K:aa}{mg mb:Str->Option Value}{CX:OO}{k:Nat}{fa a:Addr}{fd:FuncData}{x:Str}{sp:Sp}{s₁:Shared}{vs:List Value}{ns:List Int}{tabs:List (Addr × Addr)}
    (KX:K.In s₁.heap) (hns:s₁.heap.Ns mainGlobals mg) (hb:s₁.heap.Ns builtinsNs mb) (hbb:∀x:Str,x≠"__name__"->mb x=bootBuiltins x) (hlim:s₁.heap.NoLimit) (hsee:s₁.heap.NoSeer) (hg:s₁.gens=#[])
    (ha:s₁.heap.get? a=some { cls:=.type "list",data:=.seq vs.toArray }) (hi:IntsAre vs ns) (hl:ns.length<=sizeLine) (hr:K8 k callerA)
    (hT:∀q∈tabs,Tb mg s₁.heap q.1 q.2/\s₁.heap.TableAt q.1 q.2 #[]/\K.lookup q.2=none)
    (F:∀base:Heap,K.In base->base.Ns mainGlobals mg->(∀q∈tabs,Tb mg base q.1 q.2)->x8 P w K mg base CX k fa fd [x] sp) (hbind:∀(s:Shared) (u:Value),BindsTo s fd ⟨[u],[]⟩ [(x,u)])
    (hsp:∀H:Hp,Ub (tabs.map (·.2)) H->o7 K H a (ns.map V.int)->sp [.ref a] H (λv _=>v=.bl true) λ_ _ _=>False)
    (hCX:∀H e s',CX [] H s₁ (λ_ _ _=>False) e s'->False) :
    codeAny (model P w) callerA (.call (.ref fa) ⟨[.ref a],[]⟩) (λr s'=>r=.ok (.ret (.bool true))/\OldK s₁.heap s'.heap/\s'.os=s₁.os/\AllBare s'.gens) s₁:=by
 have rv:=Hm hi;have lenV:=hi.length;have hTp:∀p∈tabs.map (·.2),s₁.heap.get? p=some (tabObj #[])/\K.lookup p=none/\∃c,s₁.heap.TableAt c p #[]:=λp hp=>by
  obtain⟨q,hq,rfl⟩:=aE.mp hp;exact⟨(hT q hq).2.1.2,(hT q hq).2.2,_,(hT q hq).2.1⟩
 have core:∀H:Hp,(∀b,H b=none\/(∃o xs,H b=some (.frz o (.lst xs))/\b=a/\K.lookup a=none)\/(H b=some (.tbl #[])/\b∈tabs.map (·.2)))->Ub (tabs.map (·.2)) H->o7 K H a (ns.map V.int)->Ac P w H s₁.heap->
     codeAny (model P w) callerA (.call (.ref fa) ⟨[.ref a],[]⟩) (λr s'=>r=.ok (.ret (.bool true))/\OldK s₁.heap s'.heap/\s'.os=s₁.os/\AllBare s'.gens) s₁:=by
  intro H hO hOT hS hok;have base_of:∀{b:Addr} {o:Obj},s₁.heap.get? b=some o->H b=none->(Hg s₁.heap H).get? b=some o:=λe n=>QI e n;have isA:∀{b:Addr} {o:Obj},s₁.heap.get? b=some o->o.cls≠.none->o.cls≠.type "list"->H b=none:=λ{b o} e c1 c2=>by
   rcases hO b with z | ⟨_,_,_,rfl,_⟩ | ⟨_,hm⟩
   . exact z
   . rw[ha]at e;cases e;exact absurd rfl c2
   . rw[(hTp _ hm).1]at e;cases e;exact absurd rfl c1
  have noA:∀{b:Addr} {o:Obj} {es:Array DictEntry} {ep:Nat},s₁.heap.get? b=some o->o.data=.dict es ep->H b=none:=λ{b o es ep} e d=>by
   rcases hO b with z | ⟨_,_,_,rfl,_⟩ | ⟨_,hm⟩
   . exact z
   . rw[ha]at e;cases e;cases (show Data.seq vs.toArray _=Data.dict es ep from d)
   . rw[(hTp _ hm).1]at e;cases e;cases (show Data.fields #[]=Data.dict es ep from d)
  have nsK:∀{b:Addr} {m:Str->Option Value},s₁.heap.Ns b m->(Hg s₁.heap H).Ns b m:=λ{b m} ⟨o,es,ep,e,d,r⟩=>⟨o,es,ep,base_of e (noA e d),d,r⟩;have hKb:K.In (Hg s₁.heap H):=λb o e=>base_of (KX b o e) (by
   rcases hO b with z | ⟨_,_,_,rfl,hk⟩ | ⟨_,hm⟩
   . exact z
   . rw[hk]at e;cases e
   . rw[(hTp _ hm).2.1]at e;cases e)
  have ty:∀{x y:String},x≠y->Value.type x≠Value.type y:=λn z=>by injection z with z;exact n z
  have hM:Mod K mg (Hg s₁.heap H):=⟨hKb,nsK hns,⟨mb,nsK hb,hbb⟩,let⟨mc,h1,h2⟩:=hlim;⟨mc,nsK h1,h2⟩,⟨let⟨mc,h1,h2⟩:=hsee.statics;⟨mc,nsK h1,h2⟩,let⟨mc,h1,h2⟩:=hsee.mods;⟨mc,nsK h1,h2⟩,let⟨mc,h1,h2⟩:=hsee.imp;⟨mc,nsK h1,h2⟩,by
    obtain⟨mg',bm,ob,n1,n2,n3,n4,n5⟩:=hsee.main;exact⟨mg',bm,ob,nsK n1,n2,base_of n3 (isA n3 (by rw[n4];nofun) (by rw[n4];exact ty (by decide))),n4,n5⟩⟩⟩
  have e0:Hl P w K mg (Hg s₁.heap H) callerA [] s₁ H:=⟨rfl,hM,λb o e=>Ss e,Nat.le_of_eq (OB _ _),trivial,λb hb=>absurd (show b∈([]:List Addr)from hb) (by simp),hok,.of_eq hg⟩;have hTb:∀q∈tabs,Tb mg (Hg s₁.heap H) q.1 q.2:=λq hq=>by
   obtain⟨o,ws,file,tf,flags,tg,inF,text,tt,e1,r1,r2⟩:=(hT q hq).1.cd;obtain⟨bm,ob,a1,a2,a3,a4,a5,a6,a7⟩:=(hT q hq).1.bl;exact⟨⟨o,ws,file,tf,flags,tg,inF,text,tt,base_of e1 (isA e1 (by rw[r1];nofun) (by rw[r1];exact ty (by decide))),r1,r2⟩,⟨bm,ob,a1,a2,a3,a4,base_of a5 (isA a5 (by rw[a6];nofun) (by rw[a6];exact ty (by decide))),a6,a7⟩,(hT q hq).1.gl⟩
  refine codeAny_mono ((F _ hKb (nsK hns) hTb).run callerA [] s₁ H ⟨[.ref a],[]⟩ [.ref a] [.ref a] _ _ hr e0 (hbind s₁ (.ref a)) (.cons rfl .nil) (hsp H hOT hS)) λr s' h=>?_;cases r with
  | error e=>exact(hCX H e s' h).elim
  | ok fl=>
   cases fl with
   | next=>exact False.elim h
   | brk=>exact False.elim h
   | cont=>exact False.elim h
   | ret u=>
    obtain⟨v,H',os,bare,un,hok',r',q⟩:=h;have q':v=.bl true:=q;subst q';obtain rfl:u=Value.bool true:=r';refine⟨rfl,⟨λb o e=>?_,λb o e=>un.there b o e (by simp)⟩,os,bare⟩;rcases hO b with z | ⟨ob,xs,z,_,_⟩ | ⟨z,hm⟩
    . exact .inl (un.keep b o e z (by intro z;exact absurd (show b∈([]:List Addr)from z) (by simp)) (by simp))
    . have z2:=un.frzs b ob _ z;obtain⟨e1,_⟩:=hok b _ z;obtain⟨e2,_⟩:=hok' b _ z2;rw[e]at e1;cases e1;exact .inl e2
    . obtain⟨g1,_,c,g3⟩:=hTp b hm;rw[g1]at e;cases e;obtain⟨more,z2⟩:=un.tbls b _ z;exact .inr (.inl ⟨g3.isCodeTable,rfl,#[],more,rfl,hok' b _ z2⟩)
 have aT:a ∉ tabs.map (·.2):=λz=>by have e:=(hTp a z).1;rw[ha]at e;cases e
 cases hk:K.lookup a with
 | some o=>
  have e:=KX a o hk;rw[ha]at e;cases e;refine core (λb=>if b∈tabs.map (·.2)then some (.tbl #[])else none) (λb=>?_) (λp hp=>if_pos hp) (.inr ⟨_,vs.toArray,_,hk,rfl,rfl,rfl,by rw[au,lenV];exact hl,by simpa using rv⟩) λb u z=>?_
  . by_cases hb:b∈tabs.map (·.2)
    . exact .inr (.inr ⟨if_pos hb,hb⟩)
    . exact .inl (if_neg hb)
  . by_cases hb:b∈tabs.map (·.2)
    . have z':=(if_pos hb).symm.trans z;cases z';exact(hTp b hb).1
    . have z':=(if_neg hb).symm.trans z;cases z'
 | none=>
  refine core (λb=>if b=a then some (.frz { cls:=.type "list",data:=.seq vs.toArray } (.lst (ns.map V.int)))else if b∈tabs.map (·.2)then some (.tbl #[])else none) (λb=>?_) (λp hp=>?_) (.inl (.inr ⟨{ cls:=.type "list",data:=.seq vs.toArray },if_pos rfl⟩)) λb u z=>?_
  . by_cases hb:b=a
    . exact .inr (.inl (za ⟨if_pos hb,hb,hk⟩))
    . by_cases hb':b∈tabs.map (·.2)
      . exact .inr (.inr ⟨(if_neg hb).trans (if_pos hb'),hb'⟩)
      . exact .inl ((if_neg hb).trans (if_neg hb'))
  . exact(if_neg (λe:p=a=>aT (by rw[<- e];exact hp))).trans (if_pos hp)
  . by_cases hb:b=a
    . have z':=(if_pos hb).symm.trans z;cases z';subst hb;exact⟨ha,by rw[af];exact hl,vs,_,rv,ha⟩
    . have z':=(if_neg hb).symm.trans z;by_cases hb':b∈tabs.map (·.2)
      . have z2:=(if_pos hb').symm.trans z';cases z2;exact(hTp b hb').1
      . have z2:=(if_neg hb').symm.trans z';cases z2
def GS{K:Frag}(hK:noTabs K=true){P:Addr}{h:Heap}{ps:Array Value}(X:K.In h)(e:h.get? P=some (tabObj ps)):K.lookup P=none:=by
 cases q:K.lookup P with
 | none=>rfl
 | some o=>
  have e2:=X _ _ q;rw[e]at e2;cases e2;have h2:=bO.mp hK (P,tabObj ps) (mem_of_lookupK q);exact absurd (show false=true from h2) aJ
def OW{l:PySem.W.OpenLaw}{n k:Nat}{q:Program}{loose:List Str}{XP:(Str->Option Value)->Heap->Prop}{YP:World->Heap->Prop}{d:DefRec}{K:Params->aa}{CX:OO}{sp:aa->Sp}{x:Str}(nms:List Str)
    (hn:l.most=some n) (hn2:n<=sizeLine) (hdf:d.params.defaults=[]) (hr:K8 k callerA) (hq:importsNone q=true)
    (hY:∀(w:World) (h:Heap),YP w h->(K w.params).In h)
    (hnt:∀w:World,noTabs (K w.params)=true) (hrec:∀y∈nms,((recsOf q).find? (λe=>e.name == y)).isSome=true)
    (F:∀(w:World) (mg:Str->Option Value) (fa:Addr) (h:Heap),(K w.params).In h->h.Ns mainGlobals mg->mg d.name=some (.ref fa)->
     ∃fd:FuncData,(∀(s:Shared) (u:Value),BindsTo s fd ⟨[u],[]⟩ [(x,u)])/\
      ∀base:Heap,(K w.params).In base->base.Ns mainGlobals mg->(∀y∈nms,∀c P,tabIn (K w.params) y=some (c,P)->Tb mg base c P)->x8 l.prog w (K w.params) mg base CX k fa fd [x] (sp (K w.params)))
    (hsp:∀(K:aa) (H:Hp) (a:Addr) (ns:List Int),ns.length<=n->(∀y∈nms,∀c P,tabIn K y=some (c,P)->H P=some (.tbl #[]))->o7 K H a (ns.map V.int)->sp K [.ref a] H (λv _=>v=.bl true) λ_ _ _=>False)
    (hCX:∀(H:Hp) (s:Shared) (e:Value) (s':Shared),CX [] H s (λ_ _ _=>False) e s'->False) :
    PySem.W.WalkO q loose XP YP l.row.toRowW d [] (λf vs=>PySem.call f vs):=by
 refine Att.KZ hn hdf λw s₀ s₁ mg mb fa o pm cd doc a vs ns G Y ho hd hcd hmg hobj hints hlen hg=>?_;have KX:=hY w _ Y;obtain⟨fd,hb,hF⟩:=F w mg fa _ KX G.T.g hmg;have hmem:∀{y c P},y∈nms->tabIn (K w.params) y=some (c,P)->(c,P)∈nms.filterMap (tabIn (K w.params)):=λhy ht=>bX.mpr ⟨_,hy,ht⟩;refine Ov (tabs:=nms.filterMap (tabIn (K w.params))) KX G.T.g G.T.b G.T.builtins G.T.nolimit (G.T.seer hq) hg hobj hints (ah hlen hn2) hr (λt ht=>?_) (λbase kb nb hT=>hF base kb nb λy hy c P e=>hT (c,P) (hmem hy e)) hb (λH hO hS=>hsp (K w.params) H a ns hlen (λy hy c P e=>hO P (aE.mpr ⟨(c,P),hmem hy e,rfl⟩)) hS) λH e s'=>hCX H s₁ e s';obtain⟨y,hy,ht⟩:=bX.mp ht;obtain⟨c,P⟩:=t;obtain⟨r,hr'⟩:=Option.isSome_iff_exists.mp (hrec y hy);obtain⟨C,e⟩:=tab_of G.T KX hr' ht;obtain⟨bm,ob,b1,b2,b3,b4,b5,b6⟩:=G.T.bmain;have gP:mainGlobals≠P:=λz=>by
  obtain⟨o',es,ep,e',hd',_⟩:=G.T.g;rw[z,e]at e';cases e';cases hd'
 have bP:bm≠P:=λz=>by
  rw[z,e]at b3;cases b3;cases b4
 have bG:bm≠mainGlobals:=λz=>by
  obtain⟨o',es,ep,e',hd',_⟩:=G.T.g;rw[z,e']at b3;cases b3;rw[b6]at hd';cases hd'
 exact⟨⟨C,⟨bm,ob,b1,b2,bG,bP,b3,b4,b5,b6⟩,gP⟩,C.tab e,GS (hnt w) KX e⟩
end L2
namespace L2
open PySem PySem.Spec PyProof.Rows
section
variable{X:Cx}
end
section
variable{prog:Program}{w:World}{A:Around}{E:Value->Shared->Prop}{s:Shared}
inductive e0v:Value->Value->Prop
 | int (i j:Int) (t u:Tok):e0v (.int i t) (.int j u)
 | str (x y:Str) (t u:Tok):e0v (.str x t) (.str y u)
variable{R:Result->Shared->Prop}{I l:Addr}
end
section
variable{X:Cx}
theorem Fj:∀{cs:List Addr} {its:List Value},z8 (cs.map V.ref) its->its=cs.map Value.ref
 | [],_,.nil=>rfl
 | c::r,_,.cons e t=>by
  cases (show _=Value.ref c from e);rw[Fj t];rfl
end
end L2
namespace L2
open PySem PySem.Spec PyProof.Rows PySem.W
section
variable{X:Cx}{pins:List (Addr × Obj)}{σ:St}{H:Hp}{R:Result->Shared->Prop}{Iv l S q:Addr}{ps:List Addr}
def SI(I:r9 X pins σ H s)(hq:o7 X.K H l (ps.map V.ref)):s.heap.IsList l (ps.map Value.ref).toArray:=by
 obtain⟨its,rv,p,_⟩:=I.list hq;cases Fj rv;exact p.isList
end
section
variable{X:Cx}
end
end L2
namespace L2
open PySem PySem.Spec PyProof.Rows
def Ww(K:aa)(a:Addr)(n:Nat):It:=
 ⟨λi H=>i < n/\∃xs x,o7 K H a xs/\xs[n - 1 - i]? = some x,λi H x H'=>H'=H/\∀xs,o7 K H a xs->xs[n - 1 - i]? = some x,λi _=>i=n⟩
def Pa{P:Program}{w:World}{K:aa}{tg:Expr}(a it:Addr)(n:Nat):MN P w K tg (Ww K a n) [it] it (λi h=>h.IsRevIter it a ((n:Int) - 1 - (i:Int)))where
 mem:=by simp
 obj:=λi h st b hb=>by
  have e:b=it:=by simpa using hb
  subst e;obtain⟨o,e,c,d⟩:=st;exact⟨o,e,λv z=>by rw[d]at z;cases z⟩
 keep:=λi h h' st k=>st.at λo e=>k it (by simp) o e
 item:=by
  intro X hP hw hK hc i pins s σ H E I hf st hg;subst hP hw hK;obtain⟨hi,xs,x,hq,hx⟩:=hg;obtain⟨its,rv,p,hz⟩:=I.list hq;obtain⟨u,hu,ru⟩:=rv.get hx;obtain⟨f0,f1,f2,f3,f4,f5⟩:=hf it (by simp);have e1:((n:Int) - 1 - i)=((n - 1 - i:Nat):Int):=by omega
  rw[e1]at st;refine wpAny_pyNext_rev_item st p.isList (x:=u) (by simpa using hu) λh' st' sb=>?_;have I1:r9 X pins σ H { s with heap:=h' }:=I.turned (t':=s.toks) (λb o hb e=>(sb.2 b hb).trans e) f0 f1 f3 f4 f5;obtain⟨o,e,c,d⟩:=id st';have e2:((n - 1 - i:Nat):Int) - 1=(n:Int) - 1 - ((i+1:Nat):Int):=by omega
  rw[e2]at st';exact⟨u,rfl,KC (s:={ s with heap:=h' }) e c d (by decide) ⟨x,H,I1,ru,⟨rfl,λys hy=>by rw[I.list_inj hy hq];exact hx⟩,st',λb hb=>(hf b hb).1⟩⟩
 done:=by
  intro X hP hw hK hc i pins s σ H E I hf st hg;subst hP hw hK;have hg:i=n:=hg;obtain⟨f0,f1,f2,f3,f4,f5⟩:=hf it (by simp);have e:(n:Int) - 1 - i = -1:=by omega
  rw[e]at st;exact wpAny_pyNext_rev_end (I.ok.hd hc) st λh' eb=>⟨rfl,I.turned (t':=s.toks) (λb o hb e=>eb b o hb e) f0 f1 f3 f4 f5⟩
 self:=λ_ _ _ _ _ st h=>wpAny_pyIter_revIter st h
def d0w(K:aa)(ta:TA):TI:=λσ H R=>ta σ H λvs H1=>∃a xs,vs=[.ref a]/\o7 K H1 a xs/\R (Ww K a xs.length) H1
def Sg(hg:Gl X "reversed")(hm:X.mg "reversed"=none)(ha:PA X [a] ta)(hs:starEach [a] X.env=[(false,eval a X.env)]:=by rfl) :
    PI X tg (.Call (.Name "reversed" p) [a] [] pos) (d0w X.K ta):=by
 intro pins s σ H R I h;refine Call_ (AH I hg hm boot_reversed (cn (E3 (ha pos pins s σ H _ I h) λus s1 ⟨vs,H1,I1,r1,q1⟩=>?_) hs rfl));obtain⟨l,xs,e,hq,q⟩:=q1;subst e;cases r1 with
 | cons r rr=>
  cases rr;cases r;obtain⟨its,rv,pl,hz⟩:=I1.list hq;have len:=rv.length;refine call_reversed_list pl.isList ?_;have hit:(s1.heap.push (revObj l ((its.toArray.size:Int) - 1))).IsRevIter s1.heap.objs.size l ((its.toArray.size:Int) - 1):=⟨_,aA _ rfl,rfl,rfl⟩;refine wpAny_pyIter_revIter hit ⟨_,[s1.heap.objs.size],_,Ww X.K l xs.length,H1,rfl,I1.kept (t':=s1.toks) λb o e=>ak _ e,Pa l _ _,?_,λb hb=>?_,q⟩
  . have e:((its.toArray.size:Int) - 1)=(xs.length:Int) - 1 - ((0:Nat):Int):=by rw[au,<- len];omega
    rw[e]at hit ⊢;exact hit
  . have e:b=s1.heap.objs.size:=by simpa using hb
    subst e;exact I1.fpOk (ae _) (I1.hok.fresh (ae _))
def QU{K:aa}{a:Addr}{xs:List V}{g:TG}{tb:TS}{D:Gr}{σ:St}{H:Hp}(Pv:Nat->St->Hp->Prop)(h0:Pv 0 σ H)(hl:∀i σ H,i<=xs.length->Pv i σ H->o7 K H a xs)
    (hs:∀i x σ H,i < xs.length->xs[xs.length - 1 - i]? = some x->Pv i σ H->g x σ H λσ2 H2=>tb { D with nx:=Pv (i+1),ct:=Pv (i+1),bk:=D.nx } σ2 H2) (hd:∀σ H,Pv xs.length σ H->D.nx σ H) :
    ∃W:Nat->Nat->St->Hp->Prop,(∃m,W 0 m σ H)/\∀i m σ H,W i m σ H->
     ((Ww K a xs.length).stop i H/\D.nx σ H)\/((Ww K a xs.length).go i H/\∃N:St->Hp->Prop,(∀σ' H',N σ' H'->∃m',m' < m/\W (i+1) m' σ' H')/\∀x H',(Ww K a xs.length).yld i H x H'->g x σ H' λσ2 H2=>tb { D with nx:=N,ct:=N,bk:=D.nx } σ2 H2):=by
 refine⟨λi m σ H=>m=xs.length - i/\i<=xs.length/\Pv i σ H,⟨xs.length,by simp,aR _,h0⟩,?_⟩;rintro i m σ H ⟨rfl,hi,p⟩;have q:=hl i σ H hi p;by_cases hlt:i < xs.length
 . refine .inr ⟨⟨hlt,xs,xs[xs.length - 1 - i],q,ag _⟩,Pv (i+1),λσ' H' p'=>⟨xs.length - (i+1),oM,rfl,hlt,p'⟩,λx H' y=>?_⟩;obtain⟨e,y⟩:=y;subst e;exact hs i x σ _ hlt (y xs q) p
 . have e:i=xs.length:=by omega
   subst e;exact .inl ⟨rfl,hd σ H p⟩
end L2
namespace L2
open PySem PySem.Spec PyProof.Rows PySem.W
def OE(qual:Str)(scope:Scope)(L a:Addr)(cd:Value)(clo:List (Str × Addr)):Env:=
 { scope:=scope,locals:=L,globals:=mainGlobals,cells:=clo,qual:=qual++".<locals>.",func:=some a,code:=cd,frame:=some L,builtins:=builtinsNs }
def e0f(P:Program)(w:World)(K:aa)(mg:Str->Option Value)(base:Heap)(N:List Str)(qual:Str)(scope:Scope)(f:Addr)(cd:Value)(clo:List (Str × Addr))(A:Around)(outer:List Env)(s:Shared)(H:Hp):Cx where
 prog:=P
 w:=w
 K:=K
 mg:=mg
 base:=base
 A:=A.deeper (OE qual scope s.heap.objs.size f cd clo)
 N:=N
 s₀:=s
 H₀:=H
 env:=OE qual scope s.heap.objs.size f cd clo
 outer:=outer
 stack:=OE qual scope s.heap.objs.size f cd clo::outer
 ex:=[]
 calm:=true
 fn:=λ_=>false
 pn:=[]
 xe:=λ_ _=>False
structure NQ(pn:Str)(fr:List Str)(sc:Scope):Prop where
 kind:sc.kind=.function
 co:sc.isCoroutine=false
 gen:sc.isGenerator=false
 nd:(pn::fr).Nodup
 par:sc.names.lookup pn=some .local
 fre:∀x∈fr,sc.names.lookup x=some .free
 nocell:∀y∈sc.names,y.2≠.cell
 all:∀y∈sc.names,y.2=.free->y.1∈fr
def e0u(base:Heap)(f c:Addr)(qual:Str)(params:Arguments)(body:Expr)(scope:Scope)(fr:List Str)(ws:List V):Prop:=
 ∃(clo:List (Str × Addr)) (pm ctv:Value),base.get? f=some (kla_obj "<lambda>" qual params body scope clo pm c ctv)/\
  (∀x y c,clo.lookup x=some c->clo.lookup y=some c->x=y)/\(∀x c,clo.lookup x=some c->∃v,base.IsCell c v)/\(∀x∈fr,∃c,clo.lookup x=some c)/\
  ∀(i:Nat) x v,fr[i]? = some x->ws[i]? = some v->∃c u,clo.lookup x=some c/\base.IsCell c (some u)/\D5 v u
def Gj{h h':Heap}{c:Addr}{v:Option Value}(x:h.IsCell c v)(k:∀b o,h.get? b=some o->h'.get? b=some o):h'.IsCell c v:=let⟨o,e,d⟩:=x;⟨o,k _ _ e,d⟩
section
variable{P:Program}{w:World}{K:aa}{mg:Str->Option Value}{base:Heap}{k:Nat}{f c0:Addr}{qual pn:Str}{params:Arguments}{body:Expr}{scope:Scope}{A:Around}{outer:List Env}{s:Shared}{H:Hp}{v:V}{u:Value}{tb:TE}{Q:VK}{fr:List Str}{ws:List V}
def QB(S:NQ pn fr scope)(F:e0u base f c0 qual params body scope fr ws)(hcd:s.heap.CodeRec (.ref c0) qual)(hw:ws.length=fr.length)
    (hbody:∀cd clo,K8 k (A.deeper (OE qual scope s.heap.objs.size f cd clo))->PE (e0f P w K mg base (pn::fr) qual scope f cd clo A outer s H) body tb)
    (hbind:∀clo pm cd ctv,bindArgs (kla_fn "<lambda>" qual params body scope clo pm cd ctv) ⟨[u],[]⟩=pure [(pn,u)])
    (hr:K8 (k+1) A) (e0:Hl P w K mg base A outer s H) (rv:D5 v u) (q:tb (some v::ws.map some) H Q) :
    codeAny (model P w) A (.call (.ref f) ⟨[u],[]⟩) (CR F9 outer P w H s Q E0) s:=by
 obtain⟨clo,pm,ctv,ho,hinj,hcell,hhas,hval⟩:=F;have bk:∀b o,base.get? b=some o->s.heap.get? b=some o:=λb o e=>(e0.bs b o e).1;have lim:s.heap.NoLimit:=e0.mod.nolimit.keeps bk;refine kla_callFunE hr.depth (bk _ _ ho) rfl S.co S.gen rfl hcd (BindsTo.of_eq (s:=s) (hbind clo pm (.ref c0) ctv) _ _ _ _ ?_);refine wpAny_newFunctionEnv S.nocell (λy hy=>by rw[av.mp hy];exact S.par) (λh' hns hsb=>?_) S.kind;have kp:∀b o,s.heap.get? b=some o->h'.get? b=some o:=λb o e=>hsb.extBut b o (az (ao e)) (ak _ e);refine⟨lim.keeps kp,kla_codeExpr ?_⟩;have noA:∀b:Addr,b ∉ (e0f P w K mg base (pn::fr) qual scope f (.ref c0) clo A outer s H).ex:=λb z=>absurd (show b∈([]:List Addr)from z) (by simp);have I:r9 (e0f P w K mg base (pn::fr) qual scope f (.ref c0) clo A outer s H) [] (some v::ws.map some) H { s with heap:=h',toks:=s.toks+[(pn,u)].length }:=by
  refine⟨⟨e0.mod,S.kind,rfl,rfl,ae _,hinj,λy hy=>?_,λy c z=>(nomatch z),λ_=>hr.hd,Around.frames_deeper e0.frames,.inr ⟨rfl,rfl⟩,λb z=>absurd z (noA b),e0.bs,e0.bsz,λb _ _=>noA b,λb z=>absurd z (noA b),e0.funs,e0.frf⟩,
   rfl,e0.bare,Un.kept kp,⟨_,hns,λi y v' h1 h2 h3=>?_⟩,λy c h=>?_,e0.hok.fresh (ae _),λy c h=>?_,λp hp=>absurd (show p∈([]:List (Addr × Obj))from hp) (by simp),e0.hok.kept kp,?_⟩
  . have hy:scope.names.lookup y=some .cell\/scope.names.lookup y=some .free:=hy;rcases hy with hy | hy
    . exact absurd rfl (S.nocell _ (aY hy))
    . exact hhas y (S.all _ (aY hy) rfl)
  . cases i with
    | zero=>
     have e1:pn=y:=Option.some.inj h1;have e2:v=v':=Option.some.inj (Option.some.inj h2);subst e1 e2;exact⟨u,rv,.inl ⟨S.par,by simp⟩⟩
    | succ i=>
     have h1:fr[i]? = some y:=h1;have h2:(ws.map some)[i]? = some (some v'):=h2;rw[ay]at h2;obtain⟨v2,e2,e3⟩:=dw.mp h2;cases e3;obtain⟨c,u',a1,a2,a3⟩:=hval i y _ h1 e2;exact⟨u',a3,.inr ⟨.inr (S.fre y (aZ h1)),c,a1,Gj a2 λb o e=>kp b o (bk b o e)⟩⟩
  . obtain⟨v',a⟩:=hcell y c h;exact⟨v',Gj a λb o e=>kp b o (bk b o e)⟩
  . obtain⟨v',o,e,_⟩:=hcell y c h;exact(e0.bs _ _ e).2
  . show(ws.map some).length+1=fr.length+1;rw[af,hw]
 refine wpAny_mono (hbody (.ref c0) clo (hr.deeper _) [] _ _ H _ I q) (λz s' hs=>?_) λe s' hs=>False.elim hs;obtain⟨v',H',J,rv',q'⟩:=hs;exact⟨v',H',J.os,J.bare,J.base,J.hok,rv',q'⟩
structure Hk(P:Program)(w:World)(K:aa)(mg:Str->Option Value)(base:Heap)(k:Nat)(f:Addr)(sp:Sp):Prop where
 fn:∃o fd,base.get? f=some o/\o.data=.func fd
 run:∀(A:Around) (outer:List Env) (s:Shared) (H:Hp) (u:Value) (v:V) (Q:VK),K8 k A->Hl P w K mg base A outer s H->D5 v u->sp [v] H Q E0->codeAny (model P w) A (.call (.ref f) ⟨[u],[]⟩) (CR F9 outer P w H s Q E0) s
end
section
variable{X:Cx}{pins:List (Addr × Obj)}{σ:St}{H:Hp}{s:Shared}
def Uv(P:Program)(w:World)(K:aa)(mg:Str->Option Value)(base:Heap)(i k:Nat)(t:TA):TE:=λσ H Q=>∃f sp,σ[i]? = some (some (.ref f))/\Hk P w K mg base k f sp/\t σ H λvs H1=>vs.length=1/\sp vs H1 Q E0
def Hk.at{P:Program}{w:World}{K:aa}{mg:Str->Option Value}{base h:Heap}{k:Nat}{f:Addr}{sp:Sp}(F:Hk P w K mg base k f sp)(bk:∀b o,base.get? b=some o->h.get? b=some o):FnAt f h:=by
 obtain⟨⟨oc,od,dt,sl⟩,fd,e,d⟩:=F.fn;cases d;exact⟨oc,od,fd,sl,bk _ _ e⟩
def Qd{i k:Nat}{x:Str}{e:Expr}{t:TA}{p pos:Pos}(hr:K8 k X.A)(ha:PA X [e] t)(hN:X.N[i]? = some x:=by rfl)(hv:Vis X.env.scope x:=by first | exact Or.inl rfl | exact Or.inr (Or.inl rfl) | exact Or.inr (Or.inr rfl))(hd:(x == ("__debug__":Str))=false:=by decide)(hcd:(x == ("__classdict__":Str))=false:=by decide)
    (he:starEach [e] X.env=(false,eval e X.env)::starEach [] X.env:=by rfl):PE X (.Call (.Name x p) [e] [] pos) (Uv X.prog X.w X.K X.mg X.base i k t):=by
 intro pins s σ H Q I h;obtain⟨f,sp,hf,F,h⟩:=h;refine wpAny_Call_Name_kw (wpAny_mono (PV hN hv hd hcd pins s σ H (λv H'=>v=.ref f/\H'=H) I ⟨_,hf,rfl,rfl⟩) (λu s1 hu=>?_) λ_ _ z=>z);obtain⟨v,H',I1,rv,rfl,rfl⟩:=hu;obtain rfl:u=Value.ref f:=rv;refine callWith_F (F.at I1.bk) (E3 (ha pos pins s1 σ H' _ I1 h) λus s2 ⟨vs,H2,I2,r,hl,q⟩=>⟨F.at I2.bk,?_⟩) he rfl;obtain⟨v,rfl⟩:∃v,vs=[v]:=by
  match vs,hl with
  | [v],_=>exact⟨v,rfl⟩
 obtain⟨u,rfl,ru⟩:=r.one;refine wpAny_call (codeAny_mono (F.run X.A X.stack s2 H2 u v Q hr I2.env0 ru q) λr s' hq=>?_);cases r with
 | error e=>exact False.elim hq
 | ok fl=>
  cases fl with
  | ret u=>exact I2.after hq
  | next=>exact False.elim hq
  | brk=>exact False.elim hq
  | cont=>exact False.elim hq
def Q5(H:Hp)(c:Addr)(qual:Str):Prop:=∃oc vs t,H c=some (.frz oc (.own 0))/\oc.data=.fields vs/\vs[1]? = some (.str qual t)
def O9(H:Hp)(P:Addr)(qual:Str):Prop:=∃ps,H P=some (.tbl ps)/\TriplesOk ps.toList/\∀lpos v,codeAmong lpos ps.toList=some v->∃c,v=.ref c/\Q5 H c qual
def OJ(l:List Value)(h:TriplesOk l)(e:codeAmong pos (l++[rawInt a,rawInt b,c])=some v):codeAmong pos l=some v\/v=c:=by
 fun_induction TriplesOk l with
 | case1=>
  simp only[List.nil_append,codeAmong,rawInt]at e;split at e
  . exact .inr (Option.some.inj e).symm
  . cases e
 | case2 a t b u x Af ih=>
  simp only[List.cons_append,codeAmong]at e ⊢;split at e
  . rename_i hc;rw[if_pos hc];exact .inl e
  . rename_i hc;rw[if_neg hc];exact ih h e
 | case3 l h1 h2=>exact h.elim
def Q5.rec(x:Q5 H c qual)(hok:Ac P w H h):h.CodeRec (.ref c) qual:=by
 obtain⟨oc,vs,t,e,d,q⟩:=x;exact⟨c,oc,vs,t,rfl,(hok c _ e).1,d,q⟩
def Lc(P:Addr)(H H':Hp):Prop:=∀b o,b≠P->H b=some o->H' b=some o
def Kw{c P:Addr}{params:Arguments}{body:Expr}{scope:Scope}{lpos:Pos}{Q:Value->Shared->Prop}{E:Value->Shared->Prop}(I:r9 X pins σ H s)(tb:Tb X.mg X.base c P)(hcode:X.env.code=.ref c)(hd0:params.defaults=[])(hk0:params.kw_defaults=[])
    (hfr:∀y∈scope.names,y.2=.free->X.env.scope.names.lookup y.1=some .cell\/X.env.scope.names.lookup y.1=some .free) (hT:O9 H P (X.env.qual++"<lambda>"))
    (h:∀f c' pm ctv s' H',r9 X pins σ H' s'->Lc P H H'->O9 H' P (X.env.qual++"<lambda>")->Q5 H' c' (X.env.qual++"<lambda>")->U8 X pins H' f->s'.heap.get? f=some (kla_obj "<lambda>" (X.env.qual++"<lambda>") params body scope (N6 X.env.cells scope.names []) pm c' ctv)->Q (.ref f) s') :
    wpAny (model X.prog X.w) X.A (eval (.Lambda params body scope lpos) X.env) Q E s:=by
 obtain⟨tps,hP,ht,hc⟩:=hT;rw[arm_eval_Lambda,defaultsOf_eq,hd0,hk0];refine wpAny_bind (wpAny_pure ?_);refine wpAny_bind (wpAny_holding (wpAny_pure ?_));have hcl:=Y7 (env:=X.env) (scope:=scope) λn hn=>I.ok.has n (hfr _ hn rfl);have tbh:=tb.keeps I.bk;have hPo:s.heap.get? P=some (tabObj tps):=I.hok P _ hP;cases hf:codeAmong lpos tps.toList with
 | none=>
  have hnf:=hf;refine kla_makeFunction (mg:=X.mg) hcl I.ok.glob (I.mod.glob.keeps I.bk) hcode tbh.cd hPo ht hnf tbh.gl tbh.bl λc' ctv h' tk hx' hge hlt hrec htb=>?_;have e:(h'.push (kla_obj "<lambda>" (X.env.qual++"<lambda>") params body scope (N6 X.env.cells scope.names []) ((X.mg "__name__").getD .none) c' ctv)).get? P=some (tabObj (tps++#[rawInt lpos.line,rawInt lpos.col,.ref c'])):=ak _ htb;have I2:=I.un (t':=tk) (Un.tab (fs:=X.fs) (ex:=[]) hP (Gb hx') e) (I.hok.tab hP (Gb hx') e);obtain⟨c2,oc,vs,tq,ec,eoc,edc,eq1⟩:=hrec;cases ec;have goc:=ak (kla_obj "<lambda>" (X.env.qual++"<lambda>") params body scope (N6 X.env.cells scope.names []) ((X.mg "__name__").getD .none) c' ctv) eoc;have gf:(h'.push (kla_obj "<lambda>" (X.env.qual++"<lambda>") params body scope (N6 X.env.cells scope.names []) ((X.mg "__name__").getD .none) c' ctv)).get? h'.objs.size=some (kla_obj "<lambda>" (X.env.qual++"<lambda>") params body scope (N6 X.env.cells scope.names []) ((X.mg "__name__").getD .none) c' ctv):=aA _ rfl;have hs1:s.heap.objs.size<=h'.objs.size:=bJ (Nat.lt_of_le_of_lt hge hlt);have pP:P < s.heap.objs.size:=ao hPo;have nH:∀b,s.heap.objs.size<=b->upd H P (.tbl (tps++#[rawInt lpos.line,rawInt lpos.col,.ref c'])) b=none:=λb hb=>by
   rw[o4 (bF (aC pP hb))];exact I.hok.fresh hb
  have I3:r9 X pins σ (upd (upd H P (.tbl (tps++#[rawInt lpos.line,rawInt lpos.col,.ref c']))) c' (.frz oc (.own 0))) { s with heap:=h'.push (kla_obj "<lambda>" (X.env.qual++"<lambda>") params body scope (N6 X.env.cells scope.names []) ((X.mg "__name__").getD .none) c' ctv),toks:=tk }:=by
   refine I.un (t':=tk) ((Un.tab (fs:=X.fs) (ex:=[]) hP (Gb hx') e).track hge (nH _ hge)) (I2.hok.track (nH _ hge) ⟨goc,⟨_,goc⟩⟩)
  have ncP:P≠c':=az (aC pP hge);have nfc:h'.objs.size≠c':=bF hlt;have cod:Q5 (upd (upd H P (.tbl (tps++#[rawInt lpos.line,rawInt lpos.col,.ref c']))) c' (.frz oc (.own 0))) c' (X.env.qual++"<lambda>"):=⟨oc,vs,tq,c4,edc,eq1⟩;refine h _ c' _ ctv _ _ I3 (λb o hb q=>?_) ⟨_,(o4 ncP).trans c4,?_,λlp v ev=>?_⟩ cod (I.fpOk hs1 ((o4 nfc).trans (nH _ hs1))) gf
  . rw[o4 (λz=>by have:=I.hok.fresh hge;rw[<- z,q]at this;cases this),o4 hb];exact q
  . rw[Array.toList_append];exact TriplesOk_snoc _ _ _ _ ht
  . rw[Array.toList_append]at ev;rcases OJ _ ht ev with z | z
    . obtain⟨c3,e3,oc3,vs3,t3,y1,y2⟩:=hc lp v z;have n1:c3≠P:=Y5 y1 hP (by simp);have n2:c3≠c':=λz=>by have:=I.hok.fresh hge;rw[<- z,y1]at this;cases this
      exact⟨c3,e3,oc3,vs3,t3,(by rw[o4 n2,o4 n1];exact y1),y2⟩
    . exact⟨c',z,cod⟩
 | some cv=>
  obtain⟨cc,rfl,hcc⟩:=hc lpos cv hf;refine kla_makeFunctionHit (mg:=X.mg) hcl I.ok.glob (I.mod.glob.keeps I.bk) hcode tbh.cd hPo ht hf tbh.bl λctv h' tk kp hge=>?_;have I2:r9 X pins σ H { s with heap:=h'.push (kla_obj "<lambda>" (X.env.qual++"<lambda>") params body scope (N6 X.env.cells scope.names []) ((X.mg "__name__").getD .none) cc ctv),toks:=tk }:=I.kept (t':=tk) λb u e=>ak _ (kp b u e);exact h _ cc _ ctv _ _ I2 (λ_ _ _ q=>q) ⟨tps,hP,ht,hc⟩ hcc (I.fpOk hge (I.hok.fresh hge)) (aA _ rfl)
def AK(X:Cx)(H:Hp)(h:Heap):Heap:=hideAll h (Up h H++FY X.stack)
theorem Mod.keeps{K:aa}{mg:Str->Option Value}{h h':Heap}(m:Mod K mg h)(k:∀b o,h.get? b=some o->h'.get? b=some o):Mod K mg h':=
 ⟨m.kin.keeps k,m.glob.keeps k,let⟨mb,a,b⟩:=m.blt;⟨mb,a.keeps k,b⟩,m.nolimit.keeps k,m.seer.keeps k⟩
def Jh(I:r9 X pins σ H s)(e:s.heap.get? b=some o)(n:H b=none)(nf:b ∉ FY X.stack):(AK X H s.heap).get? b=some o:=
 hideAll_get _ e λz=>by
  rcases aF.mp z with z | z
  . have:=(cE.mp z).2;rw[n]at this;cases this
  . exact nf z
def MK(I:r9 X pins σ H s):∀b o,X.base.get? b=some o->(AK X H s.heap).get? b=some o:=λb o e=>
 Jh I (I.bs b o e).1 (I.bs b o e).2 λz=>by
  have:=(I.stack.mem z).1;rw[e]at this;cases this
def Rf(I:r9 X pins σ H s):Hl X.prog X.w X.K X.mg (AK X H s.heap) X.A X.stack s H:=by
 refine⟨I.ok.frames,I.ok.mod.keeps (MK I),λb o e=>⟨of_hideAll _ e,?_⟩,Nat.le_of_eq (hideAll_size _ _),funFrames_hide I.stack (λenv he a ha=>ax _ (bX.mpr ⟨env,he,ha⟩)),I.stkFree,I.hok,I.bare⟩;cases q:H b with
 | none=>rfl
 | some u=>
  have hin:b∈Up s.heap H++FY X.stack:=aW _ (cE.mpr ⟨aV.mpr (ao (of_hideAll _ e)),by rw[q];rfl⟩);have:=hideAll_none _ (h:=s.heap) hin;rw[show hideAll s.heap (Up s.heap H++FY X.stack)=AK X H s.heap from rfl,e]at this;cases this
structure Uc(X:Cx)(pn:Str)(fr:List Str)(js:List Nat)(scope:Scope):Prop where
 fn:∀x,X.fn x=true
 sc:NQ pn fr scope
 vis:∀x∈fr,X.env.scope.names.lookup x=some .cell\/X.env.scope.names.lookup x=some .free
 all:∀x∈fr,(x,NameKind.free)∈scope.names
 at_:js.map (λj=>X.N[j]?)=fr.map some
def d0z{f c0:Addr}{kf:Nat}{pn:Str}{fr:List Str}{js:List Nat}{params:Arguments}{body:Expr}{scope:Scope}{pm ctv:Value}{qual:Str}{tb:TE}{ws:List V}(I:r9 X pins σ H s)(S:Uc X pn fr js scope)(ff:U8 X pins H f)
    (ho:s.heap.get? f=some (kla_obj "<lambda>" qual params body scope (N6 X.env.cells scope.names []) pm c0 ctv))
    (hws:js.map (λj=>σ[j]?)=ws.map λv=>some (some v))
    (hbody:∀cd clo A outer s0 H0,K8 kf (A.deeper (OE qual scope s0.heap.objs.size f cd clo))->PE (e0f X.prog X.w X.K X.mg (AK X H s.heap) (pn::fr) qual scope f cd clo A outer s0 H0) body tb)
    (hbind:∀clo pm cd ctv u,bindArgs (kla_fn "<lambda>" qual params body scope clo pm cd ctv) ⟨[u],[]⟩=pure [(pn,u)]) :
    Hk X.prog X.w X.K X.mg (AK X H s.heap) (kf+1) f (λvs H Q _=>Q5 H c0 qual/\∃v,vs=[v]/\tb (some v::ws.map some) H Q):=by
 have nf:∀b,b≠X.env.locals->b ∉ X.fs->b ∉ FY X.stack:=λb h1 h2 z=>by
  rcases ar.mp (I.stkSub b z)with z | z
  . exact h1 z
  . exact h2 z
 have hf:=Jh I ho ff.1 (nf f ff.2.1 ff.2.2.1);have hcl:∀n,(n,NameKind.free)∈scope.names->∃c,X.env.cells.lookup n=some c:=λn hn=>I.ok.has n (S.vis n (S.sc.all _ hn rfl));have up:∀{y c},(N6 X.env.cells scope.names []).lookup y=some c->X.env.cells.lookup y=some c:=λe=>by
  rcases Je hcl e with z | z
  . cases z
  . exact z
 have cin:∀{y c v},X.env.cells.lookup y=some c->s.heap.IsCell c v->(AK X H s.heap).IsCell c v:=λ{y c v} e ⟨o,h1,h2⟩=>by
  refine⟨o,Jh I h1 (I.freeC y c e) (nf c (I.cne y c e) λz=>?_),h2⟩;obtain⟨_,o',e',_⟩:=I.ok.funs.mem z;exact absurd (aC (ao e') (I.ok.cab y c (S.fn y) e)) (aI _)
 have jl:js.length=fr.length:=by
  have:=congrArg List.length S.at_;rwa [af,af]at this
 have wl:ws.length=fr.length:=by
  have:=congrArg List.length hws;rw[af,af,jl]at this;exact this.symm
 have F:e0u (AK X H s.heap) f c0 qual params body scope fr ws:=by
  refine⟨_,pm,ctv,hf,λx y c h1 h2=>I.ok.inj x y c (up h1) (up h2),λx c h=>?_,λx hx=>DG (.inr (S.all x hx)),λi x v h1 h2=>?_⟩
  . obtain⟨v,z⟩:=I.cell x c (up h);exact⟨v,cin (up h) z⟩
  . obtain⟨j,j1⟩:∃j,js[i]? = some j:=⟨_,ag (by rw[jl];exact(aQ.mp h1).1)⟩;have j2:X.N[j]? = some x:=by
     have:=congrArg (λl=>l[i]?) S.at_;simp only[ay,j1,h1,Option.map_some]at this;exact Option.some.inj this
    have hσ:σ[j]? = some (some v):=by
     have:=congrArg (λl=>l[i]?) hws;simp only[ay,j1,h2,Option.map_some]at this;exact Option.some.inj this
    obtain⟨m,hn,hl⟩:=I.loc;have hv:=S.vis x (aZ h1);obtain⟨u,rv,lk⟩:=hl j x v j2 hσ (.inr hv);rcases lk with ⟨z,_⟩ | ⟨_,c,e1,e2⟩
    . have z:X.env.scope.names.lookup x=some .local:=z;rw[z]at hv;rcases hv with hv | hv <;>cases hv
    . obtain⟨c',ec⟩:=DG (cells:=X.env.cells) (names:=scope.names) (cs:=[]) (.inr (S.all x (aZ h1)));have:=up ec;rw[e1]at this;cases this;exact⟨c,u,ec,cin e1 e2,rv⟩
 refine⟨za ⟨hf,rfl⟩,λA outer s0 H0 u v Q hr e0 rv hsp=>?_⟩;obtain⟨hc,v',e,q⟩:=hsp;cases e;exact QB S.sc F (hc.rec e0.hok) wl (λcd clo hr'=>hbody cd clo A outer s0 H0 hr') (λclo pm cd ctv=>hbind clo pm cd ctv u) hr e0 rv q
abbrev TAL:=St->Hp->(List V->Addr->Addr->Hp->Prop)->Prop
def LP(X:Cx)(params:Arguments)(body:Expr)(scope:Scope)(pins:List (Addr × Obj))(σ:St)(R:List V->Addr->Addr->Hp->Prop)(us:List Value)(s':Shared):Prop:=
 ∃us0 vs f c' pm ctv H',us=us0++[.ref f]/\z8 vs us0/\r9 X pins σ H' s'/\U8 X pins H' f/\s'.heap.get? f=some (kla_obj "<lambda>" (X.env.qual++"<lambda>") params body scope (N6 X.env.cells scope.names []) pm c' ctv)/\R vs f c' H'
def PAL(X:Cx)(params:Arguments)(body:Expr)(scope:Scope)(es:List Expr)(t:TAL):Prop:=
 ∀(pos:Pos) (pins:List (Addr × Obj)) (s:Shared) (σ:St) (H:Hp) (R:List V->Addr->Addr->Hp->Prop),r9 X pins σ H s->t σ H R->wpAny (model X.prog X.w) X.A (spliced (backTo pos (starEach es X.env))) (LP X params body scope pins σ R) X.xe s
def tLam(P:Addr)(qual:Str):TAL:=λ_ H R=>O9 H P qual/\∀f c H',Lc P H H'->O9 H' P qual->Q5 H' c qual->H' f=none->R [] f c H'
def Sk{c P:Addr}{params:Arguments}{body:Expr}{scope:Scope}{lpos:Pos}(tb:Tb X.mg X.base c P)(hcode:X.env.code=.ref c)(hd0:params.defaults=[])(hk0:params.kw_defaults=[])
    (hfr:∀y∈scope.names,y.2=.free->X.env.scope.names.lookup y.1=some .cell\/X.env.scope.names.lookup y.1=some .free)
    (hs:starEach [.Lambda params body scope lpos] X.env=(false,eval (.Lambda params body scope lpos) X.env)::starEach [] X.env:=by rfl):PAL X params body scope [.Lambda params body scope lpos] (tLam P (X.env.qual++"<lambda>")):=by
 intro pos pins s σ H R I h;obtain⟨hT,h⟩:=h;rw[hs];show wpAny _ _ (spliced ((false,eval (.Lambda params body scope lpos) X.env)::backTo pos (starEach [] X.env))) _ _ s;refine Calls.spliced_cons (Kw I tb hcode hd0 hk0 hfr hT λf c' pm ctv s' H' I' sp hT' hc ff ho=>?_);exact Calls.spliced_nil ⟨[],[],f,c',pm,ctv,H',rfl,.nil,I',ff,ho,h f c' H' sp hT' hc ff.1⟩
def JU(ha:PE X e te)(hr:PAL X params body scope es t)(hs:starEach (e::es) X.env=(false,eval e X.env)::starEach es X.env:=by rfl) :
    PAL X params body scope (e::es) (λσ H R=>te σ H λx H1=>t σ H1 λvs f c H2=>R (x::vs) f c H2):=by
 intro pos pins s σ H R I h;rw[hs];show wpAny _ _ (spliced ((false,eval e X.env)::backTo pos (starEach es X.env))) _ _ s;refine Calls.spliced_cons (E3 (ha pins s σ H _ I h) λu s1 ⟨x,H1,I1,r1,q1⟩=>?_);refine E3 (hr pos pins s1 σ H1 _ I1 q1) λus s2 hζ=>?_;obtain⟨us0,vs,f,c',pm,ctv,H2,e2,r2,I2,ff,ho,q2⟩:=hζ;exact⟨u::us0,x::vs,f,c',pm,ctv,H2,by rw[e2];rfl,.cons r1 r2,I2,ff,ho,q2⟩
def Pc(P:Program)(w:World)(K:aa)(mg:Str->Option Value)(kf:Nat)(qual:Str)(js:List Nat)(tb:Heap->TE)(spg:Heap->Sp)(t:TAL):TE:=λσ H Q=>∃ws:List V,js.map (λj=>σ[j]?)=ws.map (λv=>some (some v))/\
 t σ H λvs f c H2=>∀base':Heap,Hk P w K mg base' (kf+1) f (λxs H Q _=>Q5 H c qual/\∃v,xs=[v]/\tb base' (some v::ws.map some) H Q)->spg base' (vs++[.ref f]) H2 Q E0
def LZ{k kf:Nat}{g:Addr}{fd:FuncData}{ps:List Str}{spg:Heap->Sp}{x pn:Str}{fr:List Str}{js:List Nat}{p pos:Pos}{e:Expr}{es:List Expr}{params:Arguments}{body:Expr}{scope:Scope}{t:TAL}{tb:Heap->TE}
    (G:∀base':Heap,x8 X.prog X.w X.K X.mg base' F9 k g fd ps (spg base')) (hr:K8 k X.A) (hg:Gl X x) (hm:X.mg x=some (.ref g)) (hk:PySem.W.keepIn X.K (.ref g)=true) (hb:K9 X.K fd ps []) (hL:PAL X params body scope (e::es) t) (S:Uc X pn fr js scope)
    (hbody:∀base' f cd clo A outer s0 H0,K8 kf (A.deeper (OE (X.env.qual++"<lambda>") scope s0.heap.objs.size f cd clo))->PE (e0f X.prog X.w X.K X.mg base' (pn::fr) (X.env.qual++"<lambda>") scope f cd clo A outer s0 H0) body (tb base'))
    (hbind:∀clo pm cd ctv u,bindArgs (kla_fn "<lambda>" (X.env.qual++"<lambda>") params body scope clo pm cd ctv) ⟨[u],[]⟩=pure [(pn,u)])
    (hdb:(x == ("__debug__":Str))=false:=by decide) (he:starEach (e::es) X.env=(false,eval e X.env)::starEach es X.env:=by rfl) (hpl:(backTo pos (starEach es X.env)).any (·.1)=false:=by rfl) :
    PE X (.Call (.Name x p) (e::es) [] pos) (Pc X.prog X.w X.K X.mg kf (X.env.qual++"<lambda>") js tb spg t):=by
 intro pins s σ H Q I h;obtain⟨ws,hws,h⟩:=h;refine wpAny_Call_Name_kw (Dw I hg hm ?_ hdb);refine cV (h₀:=X.base) I.ok.mod.kin hk (E3 (hL pos pins s σ H _ I h) λus s1 hζ=>?_) he hpl;obtain⟨us0,vs,f,c',pm,ctv,H1,e1,r,I1,ff,ho,q⟩:=hζ;refine ⟨I1.kIn,?_⟩;subst e1;have q1:=q _ (d0z I1 S ff ho hws (hbody _ f) hbind);have F:=G (AK X H1 s1.heap);have r2:z8 (vs++[.ref f]) (us0++[Value.ref f]):=r.append (.cons rfl .nil);have hl:((us0++[Value.ref f])++[]).length=ps.length:=by rw[bb,<- r2.length];exact F.len _ _ _ _ q1
 have hb1:=hb s1 (us0++[Value.ref f]) I1.kIn hl;rw[bb]at hb1;refine wpAny_call (codeAny_mono (F.run X.A X.stack s1 H1 ⟨us0++[Value.ref f],[]⟩ _ _ Q E0 hr (Rf I1) hb1 r2 q1) λr s' hq=>?_);cases r with
 | error e=>exact False.elim hq
 | ok fl=>
  cases fl with
  | ret u=>exact I1.after hq
  | next=>exact False.elim hq
  | brk=>exact False.elim hq
  | cont=>exact False.elim hq
end
def Oy{P:Program}{w:World}{A:Around}{s:Shared}{q c' a:Addr}{pn qual:Str}{params:Arguments}{scope:Scope}{pm ctv:Value}{clo:List (Str × Addr)}{its:Array Value}{n:Int}{t:Tok}{p1 p2 p3:Pos}{j:Nat}
    (hroom:A.depth < recursionLimit) (lim:s.heap.NoLimit) (ho:s.heap.get? q=some (kla_obj "<lambda>" qual params (.Subscript (.Name pn p1) (.Constant (.int 0) j p2) p3) scope clo pm c' ctv)) (hcd:s.heap.CodeRec (.ref c') qual) (Sc:NQ pn [] scope)
    (hbind:bindArgs (kla_fn "<lambda>" qual params (.Subscript (.Name pn p1) (.Constant (.int 0) j p2) p3) scope clo pm (.ref c') ctv) ⟨[.ref a],[]⟩=pure [(pn,.ref a)]) (ht:IsTup s.heap a its) (h0:its[0]? = some (.int n t)) (hpn:(pn == ("__debug__":Str))=false) :
    wpAny (model P w) A (call (.ref q) [.ref a]) (λu s'=>∃h' tk t',u=.int n t'/\s'={ s with heap:=h',toks:=tk }/\∀b o,s.heap.get? b=some o->h'.get? b=some o) (λ_ _=>False) s:=by
 refine wpAny_call ?_;refine kla_callFunE hroom ho rfl Sc.co Sc.gen rfl hcd (BindsTo.of_eq (s:=s) hbind _ _ _ _ ?_);refine wpAny_newFunctionEnv Sc.nocell (λy hy=>by rw[av.mp hy];exact Sc.par) (λh' hns hsb=>?_) Sc.kind;have kp:∀b o,s.heap.get? b=some o->h'.get? b=some o:=λb o e=>hsb.extBut b o (az (ao e)) (ak _ e);refine⟨lim.keeps kp,kla_codeExpr ?_⟩;have ht':IsTup h' a its:=by
  obtain⟨o,e,c⟩:=ht;exact⟨o,kp _ _ e,c⟩
 have hz:0 < its.size:=(Array.getElem?_eq_some_iff.mp h0).1;refine Subscript_ (wpAny_Name (wpAny_loadName_local Sc.kind (show Env.kindOf _ pn=some .local from Sc.par) hns (v:=.ref a) (by simp) ?_) hpn);refine wpAny_Constant_int ?_;refine subscriptTail_builtinR (x:=.int n t) (s:={ s with heap:=h',toks:=_ }) ht'.typeIs slot_tuple_getitem.lookup (getItem_tuple (j:=0) ht' (by decide) (by decide) ?_ h0 ⟨rfl,?_⟩) (by rfl)
 . unfold seqIndex?;simp[hz]
 . exact⟨h',_,t,rfl,rfl,kp⟩
def adr:Value->Addr
 | .ref a=>a
 | _=>0
def PU{kz:List Int}{as:List Addr}{ps:List (Int × Value)}(h:ps.Perm (kz.zip (as.map Value.ref))):∃zs:List (Int × Addr),zs.Perm (kz.zip as)/\ps=zs.map λz=>(z.1,Value.ref z.2):=by
 have e0:kz.zip (as.map Value.ref)=(kz.zip as).map λz=>(z.1,Value.ref z.2):=by rw[List.zip_map_right];rfl
 refine⟨ps.map λp=>(p.1,adr p.2),?_,?_⟩
 . have:=h.map λp:Int × Value=>(p.1,adr p.2);rw[e0,cg]at this;have e1:(kz.zip as).map ((λp:Int × Value=>(p.1,adr p.2)) ∘ λz=>(z.1,Value.ref z.2))=kz.zip as:=by
    conv=>rhs;rw[<- List.map_id (kz.zip as)]
    rfl
   rwa [e1]at this
 . rw[cg]
   conv=>lhs;rw[<- List.map_id ps]
   refine List.map_congr_left λp hp=>?_;have:=h.mem_iff.mp hp;rw[e0]at this;obtain⟨z,_,rfl⟩:=aE.mp this;rfl
section
variable{X:Cx}
def Us(K:aa)(P:Addr)(qual:Str)(ta:TA):TE:=λσ H Q=>ta σ H λvs H1=>∃(l:Addr) (ps:List Addr) (kz:List Int),vs=[.ref l]/\o7 K H1 l (ps.map V.ref)/\kz.length=ps.length/\ps.length < 64/\O9 H1 P qual/\
 (∀(i:Nat) p n,ps[i]? = some p->kz[i]? = some n->∃r,H1 p=some (.tup (.int n::r)))/\
 ∀(H2:Hp) (d:Addr) (zs:List (Int × Addr)),Lc P H1 H2->O9 H2 P qual->H2 d=some (.lst (zs.map λz:Int × Addr=>V.ref z.2))->zs.Perm (kz.zip ps)->zs.Pairwise (λp q=>p.1<=q.1)->Q (.ref d) H2
def PY{c P:Addr}{k:Nat}{pn:Str}{p pos lpos kpos p1 p2 p3:Pos}{jj:Nat}{e:Expr}{params:Arguments}{scope:Scope}{ta:TA}(hr:K8 (k+3) X.A)(tb':Tb X.mg X.base c P)(hcode:X.env.code=.ref c)
    (hg:Gl X "sorted") (hm:X.mg "sorted"=none) (ha:PA X [e] ta) (hd0:params.defaults=[]) (hk0:params.kw_defaults=[]) (Sc:NQ pn [] scope)
    (hbind:∀clo pm cd ctv u,bindArgs (kla_fn "<lambda>" (X.env.qual++"<lambda>") params (.Subscript (.Name pn p1) (.Constant (.int 0) jj p2) p3) scope clo pm cd ctv) ⟨[u],[]⟩=pure [(pn,u)])
    (hpn:(pn == ("__debug__":Str))=false:=by decide)
    (hst:backTo pos (starEach [e] X.env)=(false,eval e X.env)::backTo pos (starEach [] X.env):=by rfl) (hpl:(backTo pos (starEach [e] X.env)).any (·.1)=false:=by rfl) :
    PE X (.Call (.Name "sorted" p) [e] [⟨some "key",.Lambda params (.Subscript (.Name pn p1) (.Constant (.int 0) jj p2) p3) scope lpos,kpos⟩] pos) (Us X.K P (X.env.qual++"<lambda>") ta):=by
 intro pins s σ H Q I h;refine wpAny_Call_Name_kw (AH I hg hm (show bootBuiltins "sorted"=some (.builtin "sorted") by decide +kernel) ?_);refine callWith_kw (E3 (ha pos pins s σ H _ I h) λus s1 ⟨vs,H1,I1,r1,q1⟩=>?_) hst hpl;obtain⟨l,ps,kz,rfl,hl,hlen,h64,hT,hk,q⟩:=q1;obtain⟨u,rfl,ru⟩:=r1.one;cases (show u=Value.ref l from ru);show wpAny _ _ (evalAll [(eval (.Lambda params (.Subscript (.Name pn p1) (.Constant (.int 0) jj p2) p3) scope lpos) X.env >>= λv=>(standAt pos >>= λ_=>pure v))]) _ _ _;unfold evalAll;refine wpAny_bind (wpAny_bind ?_);refine Kw I1 tb' hcode hd0 hk0 (λy hy hf=>nomatch Sc.all y hy hf) hT λf c' pm ctv s2 H2 I2 sp hT2 hc ff ho=>?_;refine wpAny_bind (wpAny_standAt (wpAny_pure ?_));refine wpAny_bind (wpAny_holding (wpAny_pure (wpAny_pure ?_)));show wpAny _ _ (call (.builtin "sorted") [.ref l] [(Str.ofString "key",.ref f)]) _ _ _;obtain⟨tps,hP,_⟩:=id hT;have hl2:o7 X.K H2 l (ps.map V.ref):=by
  rcases hl with (z | ⟨o,z⟩) | z
  . exact .inl (.inl (sp _ _ (Y5 z hP (by simp)) z))
  . exact .inl (.inr ⟨o,sp _ _ (Y5 z hP (by simp)) z⟩)
  . exact .inr z
 have hk2:∀(i:Nat) p n,ps[i]? = some p->kz[i]? = some n->∃r,H2 p=some (.tup (.int n::r)):=λi p n e1 e2=>by
  obtain⟨r,z⟩:=hk i p n e1 e2;exact⟨r,sp _ _ (Y5 z hP (by simp)) z⟩
 have hL:=SI I2 hl2;obtain⟨m,hF⟩:=I2.fr;have hN:=Qj (g:=X.base) (h:=s2.heap) (L:=X.env.locals);have all:∀{h':Heap} {own:List (Addr × Obj)},Fr X.base X.env.locals h' m->News X.base X.env.locals h' (BU X.base s2.heap X.env.locals++own)->∀b o,b≠X.env.locals->s2.heap.get? b=some o->h'.get? b=some o:=λ{h' own} F N b o hb e=>by
  cases z:X.base.get? b with
  | some u=>
   have:=I2.bk b u z;rw[e]at this;cases this;exact F.keep b _ z
  | none=>exact(N (b,o) (aW _ (Ey hb z e))).1
 have neL:∀{b o},H2 b=some o->b≠X.env.locals:=λe z=>by rw[z,I2.free]at e;cases e
 refine ksk_sorted (b:=false) (f:=.ref f) (kz:=kz) (vs:=ps.map Value.ref) hF hN hL (by rw[af];exact hlen) (by rw[af];exact h64) (ksk_s1 _ _) (λx=>ksk_l1 _ _) (λx=>ksk_t1 _ _) ?turn ?fin
 case turn=>
  intro i v n hv hn h' tk own F N;rw[ay]at hv;obtain⟨a,ea,rfl⟩:=dw.mp hv;obtain⟨r,hr2⟩:=hk2 i a n ea hn;have kp:=all F N;obtain⟨_,its,rv,⟨o,eo,co⟩,_⟩:=(show L6 X.prog X.w H2 s2.heap a (.tup (.int n::r))from I2.hok a _ hr2);have hits:∃t,its[0]? = some (Value.int n t):=by
   obtain⟨u,e1,t,e2⟩:=rv.get (i:=0) (x:=.int n) rfl;exact⟨t,by rw[e1,e2]⟩
  obtain⟨t,hits⟩:=hits;have hcr:=hc.rec I2.hok;obtain⟨c2,oc,ws,tq,ec,eoc,edc,eq1⟩:=hcr;cases ec;have ncL:c'≠X.env.locals:=by
   obtain⟨oc',vs',t',z,_⟩:=hc;exact neL z
  have lim:h'.NoLimit:=I2.ok.mod.nolimit.keeps F.keep;refine wpAny_mono (Oy (s:={ s2 with heap:=h',toks:=tk }) (n:=n) (t:=t) (its:=its.toArray) (a:=a) (by have:=hr.depth;exact this) lim (kp f _ ff.2.1 ho) ⟨c',oc,ws,tq,rfl,kp c' oc ncL eoc,edc,eq1⟩ Sc (hbind _ _ _ _ _) ⟨o,kp a o (neL hr2) eo,co⟩ (by simpa using hits) hpn) (λu s' hu=>?_) λ_ _ z=>z;obtain⟨h2,tk2,t2,rfl,rfl,kk⟩:=hu;exact⟨h2,tk2,t2,rfl,rfl,⟨F.ns.keeps kk,λb o e=>kk b o (F.keep b o e),F.above⟩,λp hp=>⟨kk _ _ (N p hp).1,(N p hp).2⟩⟩
 case fin=>
  intro D h' tk out cc F N lt out_is;have N':News X.base X.env.locals h' (BU X.base s2.heap X.env.locals++[]):=λp hp=>N p (aD _ (by simpa using hp));have kp:=all F N';obtain⟨gD,nDL,nDB⟩:=N (D,seqObj "list" out cc) aw;have neD:∀b o,s2.heap.get? b=some o->b≠X.env.locals->b≠D:=λb o e hb z=>by
   cases zz:X.base.get? b with
   | some u=>rw[z,show X.base.get? D=none from nDB]at zz;cases zz
   | none=>exact aI _ (z▸lt (b,o) (Ey hb zz e))
  have HD:H2 D=none:=by
   cases zz:H2 D with
   | none=>rfl
   | some u=>
    obtain⟨ob,eo⟩:=I2.hok.there zz;exact absurd rfl (neD D ob eo (neL zz))
  obtain⟨prs,pm1,pm2,pm3⟩:=out_is;obtain⟨zs,z1,rfl⟩:=PU pm1;have zl:zs.length=ps.length:=by rw[z1.length_eq,List.length_zip,hlen,Nat.min_self]
  have vz:∀zs:List (Int × Addr),z8 (zs.map λz=>V.ref z.2) ((zs.map λz=>(z.1,Value.ref z.2)).map Prod.snd):=λzs=>by
   induction zs with
   | nil=>exact .nil
   | cons z r ih=>exact .cons rfl ih
  have hok1:Ac X.prog X.w H2 h':=I2.hok.loose λb u hb e=>kp b u (λz=>hb (by rw[z];exact I2.free)) e;have hok2:Ac X.prog X.w (upd H2 D (.lst (zs.map λz=>V.ref z.2))) h':=hok1.track HD ⟨by rw[af,zl,sizeLine_eq];omega,_,cc,vz zs,by
   rw[<- pm2];exact gD⟩
  have I3:r9 X pins σ (upd H2 D (.lst (zs.map λz=>V.ref z.2))) { s2 with heap:=h',toks:=tk }:=by
   refine I2.step (g':=s2.gens) (d':=s2.drawn) (t':=tk) (ch:=[]) (λ_ z=>nomatch z) (λb o hL _ _ e _=>kp b o hL e) (λb o hL _ _ e _=>⟨o.slots,kp b o hL e⟩) (λb o _ e n=>?_) (λb o _ e=>?_) (λb xs e=>?_) (λb o u e=>?_) (λb tps e=>⟨#[],?_⟩) (λm' hm=>?_) hok2 I2.bare
   . by_cases hb:b=D
     . by_cases hbL:b=X.env.locals
       . exact absurd (hb.symm.trans hbL) nDL
       . exact absurd hb (neD b o e hbL)
     . rw[o4 hb];exact n
   . by_cases hb:b=X.env.locals
     . obtain⟨o',_,_,e',_⟩:=F.ns;exact⟨o',by rw[hb];exact e'⟩
     . exact⟨o,kp b o hb e⟩
   . rw[o4 (l7 e HD)];exact e
   . rw[o4 (l7 e HD)];exact e
   . rw[o4 (l7 e HD)];simpa using e
   . have:m'=m:=by
      obtain⟨o1,es1,ep1,a1,a2,_,a4⟩:=hm;obtain⟨o2,es2,ep2,b1,b2,_,b4⟩:=hF.ns;rw[a1]at b1;cases b1;rw[a2]at b2;cases b2;funext y;rw[<- a4 y,<- b4 y]
     rw[this];exact F.ns
  refine⟨.ref D,_,I3,rfl,q _ D zs (λb o hb e=>?_) ?_ c4 z1 ?_⟩
  . have e2:=sp b o hb e;rw[o4 (l7 e2 HD)];exact e2
  . obtain⟨tps2,hP2,ht2,hc2⟩:=hT2;refine⟨tps2,(by rw[o4 (l7 hP2 HD)];exact hP2),ht2,?_⟩;intro lp v ev;obtain⟨c3,z,oc3,vs3,t3,y1,y2⟩:=hc2 lp v ev;exact⟨c3,z,oc3,vs3,t3,(by rw[o4 (l7 y1 HD)];exact y1),y2⟩
  . have:=cz.mp pm3;exact this.imp λh=>by simpa using h
end
end L2
namespace L2
open PySem PySem.Spec PyProof.Rows PySem.Builtin PySem.Builtin.Str
section
variable{X:Cx}
theorem Jo:∀{ls:List Str} {its:List Value},z8 (ls.map V.str) its->∃l:List (Str × Tok),its=strValues l/\l.map (·.1)=ls
 | [],_,.nil=>⟨[],rfl,rfl⟩
 | x::ls,_,.cons r rs=>by
  obtain⟨t,rfl⟩:=r;obtain⟨l,rfl,e⟩:=Jo rs;exact⟨(x,t)::l,rfl,by rw[aP,e]⟩
def TC(K:aa):V->List V->Hp->VK->Prop:=λx xs H Q=>∃z a ls,x=.str z/\xs=[.ref a]/\o7 K H a (ls.map V.str)/\JoinOk z ls=true/\Q (.str (Txt.join z ls)) H
def SD:MtR X "str.join" (TC X.K):=by
 intro pins s σ H x xs v us Q I rx rs h;obtain⟨z,a,ls,rfl,rfl,hq,ok,q⟩:=h;obtain⟨t,rfl⟩:=rx;obtain⟨u,rfl,ru⟩:=rs.one;cases (show u=Value.ref a from ru);obtain⟨its,rv,p,hz⟩:=I.list hq;obtain⟨l,rfl,e⟩:=Jo rv;exact PySem.SC.join (l:=l) p.isList e ok λt' k=>⟨.str _,H,I.tok _,⟨_,rfl⟩,q⟩
end
end L2
namespace HT
open PySem PyProof.Rows
section
open PySem.SeqAt
open PySem.AutoSeq1 (wpAny_loadPart')
open PySem.MeetsSeq PySem.MeetsSeq2 PySem.MeetsSeq3
end
end HT
namespace L2
open PySem PySem.Spec PyProof.Rows PySem.SeqAt
section
variable{X:Cx}
end
section
variable{X:Cx}
end
end L2
namespace L2
open PySem PySem.Spec PyProof.Rows
end L2
namespace HT
open PySem PySem.Spec PyProof.Rows L2
section
variable{prog:Program}{w:World}{A:Around}{E:Value->Shared->Prop}{s:Shared}
def DB{t sl:Addr}{items:Array Value}{vl vu:Value}{lo hi:Option Int}{Q:Value->Shared->Prop}(ht:IsTup s.heap t items)(hs:s.heap.IsSliceOf sl vl vu .none)(pl:IsPart vl lo)(pu:IsPart vu hi)
    (hw:Q4 items.size 0 lo=0/\Q4 items.size items.size hi=items.size) (h:Q (.ref t) s):wpAny (model prog w) A (getItem (.ref t) (.ref sl)) Q E s:=by
 obtain⟨os,hos,hcs,hds⟩:=id hs;have hTs:s.TypeIs (.ref sl) "slice":=⟨os,hos,hcs⟩;unfold getItem
 try with_reducible refine wpAny_holding ?_
 first | refine wpAny_bind (wpAny_pure ?_) | skip
 refine wpAny_bind (wpAny_sequenceKey ht.typeIs (by decide) ?_);refine wpAny_bind (wpAny_callSpecial?_slot (name:=Str.ofString "__getitem__") ht.typeIs cX
  (wpAny_call_entry cX ht.typeIs entry_tuple_getitem ?_ (args_tuple_getitem _ _)))
 show wpAny _ _ (Builtin.Tuple.tupleItemsOf (.ref t) >>= _) _ _ s;refine wpAny_bind (tupleItemsOf_ ht ?_);refine wpAny_bind (wpAny_typeOf hTs ?_);rw[if_pos (by decide)];refine wpAny_bind (Ad hs pl pu ?_);rw[hw.1,hw.2];have hyes:((((0:Nat):Int) == 0 && (1:Int) == 1 && (items.size - 0) == items.size)=true):=by simp
 show wpAny _ _ (if((((0:Nat):Int) == 0 && (1:Int) == 1 && (items.size - 0) == items.size)=true)then _ else _) _ _ s;rw[if_pos hyes];refine wpAny_bind (wpAny_bind (m:=typeOf (.ref t)) (wpAny_typeOf ht.typeIs (wpAny_pure ?_)));rw[if_pos (by decide)];refine wpAny_bind (wpAny_rule ?_);exact wpAny_pure ⟨_,rfl,wpAny_pure h⟩
end
end HT
namespace L2
open PySem PySem.Spec PyProof.Rows
def XM(K:aa):V->Option Int->Option Int->Hp->VK->Prop:=λx lo hi H Q=>∃a xs,x=.ref a/\o9 K H a xs/\H a=some (.tup xs)/\
 ∀p H',j0 H H'->H' p=some (.tup (Ce xs lo hi))->Q (.ref p) H'
def EW:e0m X (XM X.K):=by
 intro pins s σ H x v vl vu lo hi sl Q I rx hs pl pu h;obtain⟨a,xs,rfl,hx,hx',q⟩:=h;by_cases hw:HT.Q4 xs.length 0 lo=0/\HT.Q4 xs.length xs.length hi=xs.length
 . cases rx;obtain⟨its,r,ht,hz⟩:=I.tuple hx;have hlen:its.toArray.size=xs.length:=by rw[au];exact r.length.symm
   refine⟨"tuple",_,PyProof.Rows.slot_tuple_getitem.lookup,ht.typeIs,?_⟩;refine HT.DB ht hs pl pu (by rw[hlen];exact hw) ?_;refine⟨.ref a,H,I,rfl,q a H (j0.refl _) ?_⟩;rw[hx'];unfold Ce;rw[hw.1,hw.2,Nat.sub_zero,List.drop_zero,bo]
 . exact Uz pins s σ H _ v vl vu lo hi sl Q I rx hs pl pu ⟨a,xs,rfl,hx,hw,λp n=>q p _ (c7 n) c4⟩
section
variable{prog:Program}{w:World}{A:Around}{E:Value->Shared->Prop}{s:Shared}
end
section
variable{prog:Program}{w:World}{A:Around}{E:Value->Shared->Prop}{s:Shared}
end
end L2
namespace L2
open PySem PySem.W PyProof.Rows PySem.AutoSeq1
section
variable{X:Cx}
end
end L2
namespace L2
open PySem PySem.Spec PyProof.Rows
def iSeq(K:aa)(tl:TE):TI:=λσ H R=>tl σ H λx H1=>∃a,x=.ref a/\(((∃xs,o7 K H1 a xs)/\R (Ug K a) H1)\/((∃xs,o9 K H1 a xs)/\R (Ud K a) H1))
def Ve{X:Cx}{tg l:Expr}{tl:TE}(hl:PE X l tl):PI X tg l (iSeq X.K tl):=by
 intro pins s σ H R I h;refine E3 (hl pins s σ H _ I h) λv s1 ⟨x,H1,I1,r1,q1⟩=>?_;obtain⟨a,e,q1⟩:=q1;subst e;cases r1;rcases q1 with ⟨⟨xs,hq⟩,q⟩ | ⟨⟨xs,hq⟩,q⟩
 . obtain⟨its,rv,p,hz⟩:=I1.list hq;refine wpAny_pyIter_list p.isList ?_;refine⟨s1.heap.objs.size,[s1.heap.objs.size],za ⟨H1,rfl,I1.kept (t':=s1.toks) λb o e=>ak _ e,Ho a _,⟨_,aA _ rfl,rfl,rfl⟩,λb hb=>?_,q⟩⟩;have e:b=s1.heap.objs.size:=by simpa using hb
   subst e;exact I1.fpOk (ae _) (I1.hok.fresh (ae _))
 . obtain⟨its,rv,p,hz⟩:=I1.tuple hq;refine wpAny_pyIter_tuple (show s1.heap.IsTuple a its.toArray from p) ?_;refine⟨s1.heap.objs.size,[s1.heap.objs.size],za ⟨H1,rfl,I1.kept (t':=s1.toks) λb o e=>ak _ e,Fk a _,⟨_,aA _ rfl,rfl,rfl⟩,λb hb=>?_,q⟩⟩;have e:b=s1.heap.objs.size:=by simpa using hb
   subst e;exact I1.fpOk (ae _) (I1.hok.fresh (ae _))
end L2
set_option maxHeartbeats 0
def PySem.W.Fast.tw7088412164684279238:PySem.Program:=PySem.Challenge.pw_weighwalk_k51_alike_with_a_paper
local macro_rules | `(tactic| trivial)=>`(tactic| ((try rw[Fast.te15667345088766844465]);(try rw[Fast.te14082659384304107361]);(try rw[Fast.te14374325043358763698]);(try rw[Fast.te10110043849684766642]);(try rw[Fast.te14364793385576792824]);(try rw[Fast.te11892475500146522536]);(try rw[Fast.te4187177175401517315]);(try rw[Fast.te5923862056798008813]);(try rw[Fast.te8920871248978507458]);kernel_rfl))
def PySem.W.Fast.te7088412164684279238:PySem.Challenge.pw_weighwalk_k51_alike_with_a_paper=PySem.W.Fast.tw7088412164684279238:=rfl
namespace H51
open PySem PySem.W
noncomputable section
abbrev q0:=SL.s658472552662922059x5
abbrev q1:=SL.s14018661285674007319x4
abbrev q2:=SL.s6070975301684473832x10
abbrev q3:=SL.s11030030927630378310x26
abbrev q4:=SL.s10062305145149207511x16
abbrev q5:=SL.s17162191345867700912x4
abbrev q6:=SL.s5946037652744460706x9
abbrev q7:=SL.s4278001404047624695x13
abbrev q8:=SL.s2742458400755230247x6
abbrev q9:=SL.s4209523147560561109x18
abbrev q10:=SL.s14755015743595814543x17
abbrev q11:=SL.s4290257624100764138x5
abbrev Lk:=SL.s4860613602091757760x24
abbrev q13:=SL.s11443829558043349243x14
def i(n:Int):Value:=.int n 0
def r(n:Addr):Value:=.ref n
def tu(a:Array Value)(n:Nat):Obj:=⟨.type SL.s2766695959194262286x5,none,.seq a n,#[]⟩
def co(a:Array Value):Obj:=⟨.type SL.s5856160107412720595x4,none,.fields a,#[]⟩
def fo(n q:Str)(s:Stmt)(m c:Value):Obj:=⟨.type SL.s7174869446012820540x8,none,.func ⟨n,q,L2.D9 s,.stmts (L2.D0 s),L2.b9 s,3,[],.none,.none,.none,m,none,c,.none,0⟩,#[]⟩
def f0(n q:Str)(s:Stmt):Obj:=⟨.none,none,.func ⟨n,q,L2.D9 s,.stmts (L2.D0 s),L2.b9 s,0,[],.none,.none,.none,.none,none,.none,.none,0⟩,#[]⟩
abbrev nd:=@BT.node
abbrev nl:=BT.nil
abbrev lf(x:Obj):BT:=.node x .nil .nil
abbrev kh:=@PySem.PyData.keyHash
abbrev pW:=PySem.Challenge.pw_weighwalk_k51_alike_with_a_paper
def i3(i:Nat):Stmt:=pW.main.body.getD i (.Pass ⟨0,0,0,0⟩)
def dN:Nat->Nat->List Nat
 | 0,_=>[]
 | f+1,n=>match n.beq 0 with
  | true=>[]
  | false=>n % 128::dN f (n / 128)
def sn(n:Nat):Str:=⟨⟨dN 99 n⟩⟩
def s0:=sn 35350842279982780
def s1:=sn 2357460733860917196365705647
def s2:=sn 53901867955744735
def s3:=sn 53901559791857631
def s4:=sn 6490460117354980097963784927358566800793842600015311231862432420312897155308
def s5:=sn 421105403244511
def s6:=sn 113039760542812094607327
def s7:=sn 883130438894441148383
def s8:=sn 53901488956436447
def s9:=sn 30344151541145318921183520387039
def Gv:=sn 14469218985635115783729119
def Gu:=sn 53901559540068319
def DW:=sn 883122557733039566815
def EI:=sn 29219126239
def RR:=sn 1059527485210603713239
def RQ:=sn 3465723181006
def s16:=sn 7268148298414553431
def s17:=sn 65763158886053838
def s18:=sn 3499278153557
def s19:=sn 4018155108302
def s20:=sn 509789213652974
def s21:=sn 8637845807904290036
def s22:=sn 8413708677377898467
def s23:=sn 948836330527398770659
def Rk:=sn 1914852
def s25:=sn 4184036210674
def s26:=sn 7988215201394064610
def s27:=sn 57336327856192738
def s28:=sn 31100499954
def s29:=sn 601770825760040032270655173063963374
def s30:=sn 3497399218914
def s31:=sn 938825954143424559856
def s32:=sn 930176747112159081198
def s33:=sn 456806758904556
def UG:=sn 67483170374514288
def RM:=sn 443305791420003
def UF:=sn 236548843
def UE:=sn 8354106484738241259
def s38:=sn 57912370749060343
def Tx:=sn 487628251738597
def s40:=sn 1067958212234468489574
def s41:=sn 67036844960590972611422421793785066743
def s42:=sn 8343920028383967841
def s43:=sn 56743316885909742
def s44:=sn 243069676
def Lj:=sn 456806792737008
def s46:=sn 528795963481232634269054977774975335
def s47:=sn 57336327837528311
def Wt:=sn 27338110561
def s49:=sn 57336776418130409
def s50:=sn 505222325449956
def s51:=sn 62416317159340390
def s52:=sn 57340970975885801
def s53:=sn 367430873507014
def s54:=sn 529798632943928514736
def s55:=sn 12624828682026729331812301
def WW:=sn 172336251032527473007704238407
def OQ:=sn 1021914557058473523689
def LR:=sn 939405744834617045746
def s59:=sn 8426683116950221550
def UD:=sn 211530955
def s61:=sn 27071706310
def s62:=sn 8349039631521052998
def s63:=sn 65187494496105170
def s64:=sn 8426682910831572575
def s65:=sn 939974376926731597407
def s66:=sn 17359306920133061789644383
def s67:=sn 67482964224144991
def s68:=sn 8352967321978435167
def WV:=sn 1068027428587418711647
def s70:=sn 1069180912801460811359
def s71:=sn 452440427624031
def s72:=sn 8423349363374847583
def s73:=sn 7268149395797341791
def s74:=sn 137915340185300882716255
def s75:=sn 15393529555129685134308959
def s76:=sn 929681940731938764383
def s77:=sn 15231853642127473347425887
def PB:=sn 7342485246647498335
def s79:=sn 15231881530645660210591327
def s80:=sn 65793839485974111
def s81:=sn 8127822628061214303
def s82:=sn 17513836086728843905758815
def s83:=sn 7340207024195008095
def s84:=sn 61880093487167071
def s85:=sn 118998641593221895452255
def s86:=sn 118998494039345563465311
def s87:=sn 576015282679341712653398372181898847
def s88:=sn 1962220
def s89:=sn 107
def Hy:=sn 883123151916293124063
def Jk:=sn 4701359296062669796661670190936823
def Rj:=sn 14469089781839015725264863
def Hx:=sn 30344074158132277796980072755167
def Hw:=sn 133454983862861831018029446609853876543483871
def s95:=sn 113039831549272488013791
def s96:=sn 4697231691935424025109761959293687
def RL:=sn 211530987
def Ws:=sn 1964018
def s99:=sn 3809077835747
def s100:=sn 29196367860
def Fv:=sn 120
def PF:=sn 121
def s103:=sn 448010674303213
def s104:=sn 76959527405706993652690204727243862775
def GJ:=sn 1668975
def UQ:=sn 30815173231
def s107:=sn 69030685704087611582940400770510123767
def s108:=sn 36719194879237978350877717197559
def UP:=sn 28162209015
def RW:=sn 27321202288
def RV:=sn 245117675
def UO:=sn 245166834
def UN:=sn 243136498
def GI:=sn 211498996
def s115:=sn 31381566694
def s116:=sn 29779294567
def XH:=sn 245166316
def s118:=sn 28160129382
def s119:=sn 240808176
def s120:=sn 37048485259150746188863889896183
def s121:=sn 32275144254994814856296232809207
def s122:=sn 220018658
def UM:=sn 27881272436
def s124:=sn 4700393738964033752103621815333623
def s125:=sn 65811471622830439
def XG:=sn 244953836
def XF:=sn 1849332
def XE:=sn 3775253002210
def s129:=sn 3463326495859
def XD:=sn 3944329476846
def s131:=sn 3947051413734
def s132:=sn 36694686467767925459708255302391
def RU:=sn 245248756
def XC:=sn 53902072520191967
def RT:=sn 56773483100109289
def RS:=sn 31096108272
def V8:=sn 215692019
def XA:=sn 249692419271657566055171716294
def Xz:=sn 136762130496189453923526
def JR:=sn 4013864876014
def JQ:=sn 243103344
def JP:=sn 31083689204
def JO:=sn 31117260013
def JN:=sn 448184882935657
def JM:=sn 8417684337481742825
def JL:=sn 29779293299
def JK:=sn 211317490
def Xy:=sn 249693942900369443720068102470
def Xx:=sn 4738735239314492059302342734412102
def Xw:=sn 1970378332810994856972810566
def Xv:=sn 287005771327406520212613790022
def Xu:=sn 36697143015659284620394997774662
def Xs:=sn 36736776431465389278236685924678
def Xr:=sn 529123317326050987060295870736529734
def Xq:=sn 9937847594675139374987317671213250672966
def Xp:=sn 35157184140118180154008019695942
def s157:=sn 3978691179760
def Xo:=sn 249479658437659509264028825926
def RP:=sn 53902074141372383
def UL:=sn 27342305648
def Xn:=sn 497158883364006940381786093148500690
def Xm:=sn 1950733928909096901437878994
def Xl:=sn 37021369057144469173921927459538
def Xk:=sn 15393580725046519694947026
def Xj:=sn 2242232588495324061535892178
def Xi:=sn 286696429809838121719210767058
def Xh:=sn 287006065870823314358598955730
def s168:=sn 513606627883376
def s169:=sn 3501140572403
def Xg:=sn 4133775916609773336369183864976082
def Xf:=sn 77639434333399526367088379928728367826
def Xe:=sn 274665501094673243075562500818
def Xd:=sn 1949059831544175538500072146
def PD:=sn 32292397437976189666475158042207
def RO:=sn 8781323754941216351
def UK:=sn 930329895887808525919
def Xc:=sn 137989276334399845594719
def s178:=sn 7263065528908412511
def s179:=sn 7843466381129971295
def UJ:=sn 57345570095265375
def UI:=sn 1058801290007509759583
def s182:=sn 63542589428102751
def s183:=sn 129716705428967878325855
def Xb:=sn 535556634736223
def GH:=sn 252284354985268781312971929183
def RN:=sn 4148921136735
def UH:=sn 4183280875103
def s188:=sn 135526128861644626359903
def s189:=sn 939474468468921235039
def Xa:=sn 529078639623794880859091104005912159
def WZ:=sn 8423912107169838687
def s192:=sn 3702244537951
def s193:=sn 3633525061215
def s194:=sn 3667884799583
def WY:=sn 67483170382575199
def s196:=sn 130878917859640350373471
def s197:=sn 1003179560991236585055
def WX:=sn 252284354984113581345394423391
def s199:=sn 7334577902617917023
def s200:=sn 8354106484744287839
def s201:=sn 1078262421209535247967
def s202:=sn 1068815606866360432223
def s203:=sn 513532042442335
def s204:=sn 1058807961740987889247
def s205:=sn 529078639625915187390690262777362015
def s206:=sn 7267005800625239647
def x0:Obj:=⟨.none,none,.fields #[],#[]⟩
def e0:Obj:=tu #[] 0
def dI(P:Params)(l:List (Str × Nat × Value))(n:Nat):Obj:=⟨.type q1,none,.dict ⟨l.map λx=>⟨kh P x.1,.str x.1 x.2.1,x.2.2⟩⟩ n,#[]⟩
def tV:List Nat->List Value
 | a::b::c::l=>i a::i b::r c::tV l
 | _=>[]
def tB(l:List Nat):Obj:=⟨.none,none,.fields ⟨tV l⟩,#[]⟩
def cC(n:Str)(t l a:Nat):Obj:=co #[.str n t,.str n (t+1),.str s1 (t+2),i l,i 0,i 0,i 0,i 0,r a,.bool false,i 181,r (a+1),.none,.none,.none,.none,i (t+3),i l,.str s1 (t+4)]
def pL(a b:Nat)(s:Value):Obj:=⟨.type q0,none,.plain,#[some (r a),some (r 3),some (r b),none,some s,none,some (r 0)]⟩
def cL(n:Str)(b m:List Value)(d:Nat)(s:List Value)(a t u:Nat)(z:String):Obj:=⟨.type q5,none,.cls ⟨n,b,m,d,n,true,[],s,false,none,false⟩,#[some (r a),none,some (.str n t),some (.str n u),some (.builtin z),some (.bool true)]⟩
def x3(a:Nat):Obj:=⟨.type q11,none,.fields #[r a,r a,r a],#[]⟩
def x2(a:Nat):Obj:=⟨.type q3,none,.fields #[.builtin Lk,r a],#[]⟩
def x1:Obj:=⟨.type q3,none,.fields #[.builtin q4,.type q5],#[]⟩
def m0:Value:=.str s2 164
def m1:Value:=.str s96 294
def m2:Value:=.str s104 350
def m3:Value:=.str s107 359
def m4:Value:=.str s108 381
def m5:Value:=.str s120 459
def m6:Value:=.str s121 493
def m7:Value:=.str s124 528
def m8:Value:=.str s132 565
def m9:Value:=.str s4 850
def vr:List Str->Nat->List Value
 | [],_=>[]
 | x::l,t=>.str x t::vr l (t+1)
def cO(n q:Str)(t l k a v:Nat):Obj:=co #[.str n t,.str q (t+1),.str s1 (t+2),i l,i k,i 0,i 0,i 3,r a,.bool true,i 181,r (a+1),.none,r (a+2),r (a+3),r (a+4),i (t+3+v),i l,.str s1 (t+4+v)]
def cN(n:Str)(t l k a v:Nat):Obj:=cO n n t l k a v
def fN(n:Str)(j:Nat)(m:Value)(c:Nat):Obj:=fo n n (i3 j) m (r c)
def f1:Obj->Obj
 | ⟨_,_,.func ⟨n,q,a,b,s,_,_,_,_,_,_,_,_,_,_⟩,_⟩=>⟨.none,none,.func ⟨n,q,a,b,s,0,[],.none,.none,.none,.none,none,.none,.none,0⟩,#[]⟩
 | o=>o
def D(t:Nat)(vs:List Str)(c f:Obj)(l:List Obj):List Obj:=e0::x0::tu ⟨vr vs t⟩ 0::e0::f1 f::c::f::l
def oL:List Obj->Nat->BT->BT
 | [],_,t=>t
 | o::l,n,t=>oL l (n+1) (t.ins n o)
def eO(n q:Str)(t l k a:Nat):Obj:=co #[.str n t,.str q (t+1),.str s1 (t+2),i l,i k,i 0,i 0,i 3,r a,.bool true,i 181,r (a+1),.none,.none,.none,r (a+2),i (t+3),i l,.str s1 (t+4)]
def eN(n:Str)(t l k a:Nat):Obj:=eO n n t l k a
def E(c f:Obj)(l:List Obj):List Obj:=e0::x0::f1 f::c::f::l
def Vl:Obj:=e0
def c0p:Obj:=x0
def Vk:Obj:=cC s0 182 1 11
def Vj:Obj:=pL 13 3 m0
def o3(P:Params):Obj:=dI P [(s3,165,m9),(s5,166,.none),(s6,167,.none),(s7,168,.builtin SL.s7097527257260152453x26),(s8,169,.none),(s9,170,r 6),(Gv,171,r 4),(Gu,173,.str s1 172),(DW,174,.none),(EI,193,r 21),(RR,213,r 31),(RQ,229,r 44),(s16,245,r 56),(s17,261,r 68),(s18,277,r 80),(s19,293,r 92),(s20,301,r 99),(s21,307,r 104),(s22,313,r 109),(s23,319,r 114),(Rk,331,r 121),(s25,337,r 126),(s26,343,r 131),(s27,349,r 136),(s28,358,r 143),(s29,368,r 150),(s30,374,r 155),(s31,380,r 160),(s32,389,r 167),(s33,399,r 174),(UG,405,r 179),(RM,417,r 186),(UF,429,r 193),(UE,440,r 200),(s38,447,r 207),(Tx,458,r 214),(s40,474,r 221),(s41,480,r 226),(s42,486,r 231),(s43,492,r 236),(s44,500,r 241),(Lj,506,r 246),(s46,515,r 253),(s47,521,r 258),(Wt,527,r 263),(s49,536,r 270),(s50,547,r 277),(s51,556,r 284),(s52,564,r 291),(s53,568,.str s54 567),(s55,570,.int 30 569),(WW,572,.int 1000000 571),(OQ,578,r 296),(LR,585,r 303),(s59,592,r 310),(UD,612,r 320),(s61,642,r 348),(s62,740,r 430),(s63,849,r 519),(s64,860,r 528),(s65,869,r 535),(s66,877,r 542),(s67,886,r 549),(s68,895,r 556),(WV,904,r 563),(s70,912,r 570),(s71,920,r 577),(s72,928,r 584),(s73,935,r 591),(s74,943,r 598),(s75,949,r 603),(s76,955,r 608),(s77,961,r 613),(PB,967,r 618),(s79,981,r 625),(s80,993,r 632),(s81,999,r 637),(s82,1005,r 642),(s83,1011,r 647),(s84,1017,r 652),(s85,1023,r 657),(s86,1043,r 664),(s87,1049,r 669),(s88,1067,r 676)] 84
def o20:=cN EI 187 1 1 15 1
def o21:=fN EI 0 m0 20
def o30(P:Params):Obj:=dI P [(Hy,203,.str Jk 194),(Hx,207,.int 5 206),(Hw,208,r 29),(s95,210,r 32),(s5,211,.none)] 3
def o31:Obj:=cL RR [.type q2] [r 31,.type q2,.type q6,.type q7,.type q8] 30 [r 44,r 56,r 68,r 80,r 92] 22 196 204 q9
def o43(P:Params):Obj:=dI P [(Hy,221,.str Jk 194),(Hx,225,.int 7 224),(Hw,226,r 42),(s5,227,.none)] 2
def o44:Obj:=cL RQ [r 31] [r 44,r 31,.type q2,.type q6,.type q7,.type q8] 43 [] 35 214 222 q9
def o55(P:Params):Obj:=dI P [(Hy,237,.str Jk 194),(Hx,241,.int 9 240),(Hw,242,r 54),(s5,243,.none)] 2
def o56:Obj:=cL s16 [r 31] [r 56,r 31,.type q2,.type q6,.type q7,.type q8] 55 [] 47 230 238 q9
def o67(P:Params):Obj:=dI P [(Hy,253,.str Jk 194),(Hx,257,.int 11 256),(Hw,258,r 66),(s5,259,.none)] 2
def o68:Obj:=cL s17 [r 31] [r 68,r 31,.type q2,.type q6,.type q7,.type q8] 67 [] 59 246 254 q9
def o79(P:Params):Obj:=dI P [(Hy,269,.str Jk 194),(Hx,273,.int 13 272),(Hw,274,r 78),(s5,275,.none)] 2
def o80:Obj:=cL s18 [r 31] [r 80,r 31,.type q2,.type q6,.type q7,.type q8] 79 [] 71 262 270 q9
def o91(P:Params):Obj:=dI P [(Hy,285,.str Jk 194),(Hx,289,.int 15 288),(Hw,290,r 90),(s5,291,.none)] 2
def o92:Obj:=cL s19 [r 31] [r 92,r 31,.type q2,.type q6,.type q7,.type q8] 91 [] 83 278 286 q9
def o98:=eN s20 296 18 2 95
def o99:=fN s20 9 m1 98
def c0z:=eN s21 302 20 3 100
def c0y:=fN s21 10 m1 103
def c0x:=eN s22 308 22 2 105
def c0w:=fN s22 11 m1 108
def c0v:=eN s23 314 24 1 110
def c0u:=fN s23 12 m1 113
def c0t:=cN Rk 320 28 3 115 6
def c0s:=fN Rk 13 m1 120
def c0r:=eN s25 332 33 3 122
def c0q:=fN s25 14 m1 125
def c0o:=eN s26 338 35 3 127
def c0n:=fN s26 15 m1 130
def c0m:=eN s27 344 37 3 132
def c0l:=fN s27 16 m1 135
def c0k:=cN s28 352 40 1 137 1
def c0j:=fN s28 18 m2 142
def c0i:=cN s29 361 43 2 144 2
def c0h:=fN s29 20 m3 149
def c0g:=eN s30 369 46 4 151
def c0f:=fN s30 21 m3 154
def c0e:=eN s31 375 50 3 156
def c0d:=fN s31 22 m3 159
def c0c:=cN s32 383 55 1 161 1
def c0b:=fN s32 24 m4 166
def c0a:=cN s33 390 58 3 168 4
def b0z:=fN s33 25 m4 173
def b0y:=eN UG 400 63 3 175
def b0x:=fN UG 26 m4 178
def b0w:=cN RM 406 65 3 180 6
def b0v:=fN RM 27 m4 185
def b0u:=cN UF 418 71 4 187 6
def b0t:=fN UF 28 m4 192
def b0s:=cN UE 430 80 3 194 5
def b0r:=fN UE 29 m4 199
def b0q:=cN s38 441 85 1 201 1
def b0p:=fN s38 30 m4 206
def b0o:=cN Tx 448 87 2 208 5
def b0n:=fN Tx 31 m4 213
def b0m:=cN s40 461 93 3 215 8
def b0l:=fN s40 33 m5 220
def b0k:=eN s41 475 105 3 222
def b0j:=fN s41 34 m5 225
def b0i:=eN s42 481 110 2 227
def b0h:=fN s42 35 m5 230
def b0g:=eN s43 487 112 3 232
def b0f:=fN s43 36 m5 235
def b0e:=eN s44 495 120 3 237
def b0d:=fN s44 38 m6 240
def b0c:=eN Lj 501 123 3 242
def b0b:=fN Lj 39 m6 245
def b0a:=cN s46 507 125 3 247 3
def a0z:=fN s46 40 m6 252
def a0y:=eN s47 516 129 3 254
def a0x:=fN s47 41 m6 257
def a0w:=eN Wt 522 134 3 259
def a0v:=fN Wt 42 m6 262
def a0u:=cN s49 530 144 1 264 1
def a0t:=fN s49 44 m7 269
def a0s:=cN s50 537 146 2 271 5
def a0r:=fN s50 45 m7 276
def a0q:=cN s51 548 154 2 278 3
def a0p:=fN s51 46 m7 283
def a0o:=cN s52 557 163 1 285 2
def a0n:=fN s52 47 m7 290
def a0m:=eN OQ 573 176 1 292
def a0l:=fN OQ 52 m8 295
def a0k:=cN LR 579 185 1 297 1
def a0j:=fN LR 53 m8 302
def a0i:=cN s59 586 189 1 304 1
def a0h:=fN s59 54 m8 309
def a0g(P:Params):Obj:=dI P [(Hy,600,m8),(Hx,604,.int 192 603),(Hw,605,r 318),(XC,607,r 321),(s95,609,r 322),(s5,610,.none)] 4
def a0f:Obj:=⟨.type q5,none,.cls ⟨UD,[.type q8],[r 320,.type q8],319,UD,true,[],[r 348],false,none,false⟩,#[none,none,some (.str UD 593),some (.str UD 601),some (.builtin q13),some (.bool true)]⟩
def a0e:=cO RT XA 625 196 1 332 1
def a0d:=fo RT XA (L2.x5 (i3 56) 0) m8 (r 337)
def a0c:=cO RS Xz 632 199 1 339 1
def a0b:=fo RS Xz (L2.x5 (i3 56) 1) m8 (r 344)
def a0a(P:Params):Obj:=dI P [(Hy,620,m8),(Hx,624,.int 194 623),(RT,631,r 338),(RS,638,r 345),(Hw,639,r 346),(s5,640,.none)] 2
def ZZ:Obj:=cL s61 [r 320] [r 348,r 320,.type q8] 347 [r 430,r 519] 325 613 621 q13
def ZY:=cO GI Xy 655 203 1 358 1
def ZX:=fo GI Xy (L2.x5 (i3 57) 0) m8 (r 363)
def ZW:=cO JR Xx 662 206 1 365 1
def ZV:=fo JR Xx (L2.x5 (i3 57) 1) m8 (r 370)
def ZU:=cO GJ Xw 669 209 1 372 1
def ZT:=fo GJ Xw (L2.x5 (i3 57) 2) m8 (r 377)
def ZR:=cO JQ Xv 676 212 3 379 3
def ZQ:=fo JQ Xv (L2.x5 (i3 57) 3) m8 (r 384)
def ZP:=cO JP Xu 685 215 3 386 3
def ZO:=fo JP Xu (L2.x5 (i3 57) 4) m8 (r 391)
def ZN:=cO JO Xs 694 218 2 393 2
def ZM:=fo JO Xs (L2.x5 (i3 57) 5) m8 (r 398)
def ZL:=cO JN Xr 702 221 2 400 2
def ZK:=fo JN Xr (L2.x5 (i3 57) 6) m8 (r 405)
def ZJ:=cO JM Xq 710 224 2 407 2
def ZI:=fo JM Xq (L2.x5 (i3 57) 7) m8 (r 412)
def ZH:=cO JL Xp 718 231 2 414 2
def ZG:=fo JL Xp (L2.x5 (i3 57) 8) m8 (r 419)
def ZF:=cO JK Xo 726 234 2 421 5
def ZE:=fo JK Xo (L2.x5 (i3 57) 9) m8 (r 426)
def ZD(P:Params):Obj:=dI P [(Hy,650,m8),(Hx,654,.int 201 653),(GI,661,r 364),(JR,668,r 371),(GJ,675,r 378),(JQ,684,r 385),(JP,693,r 392),(JO,701,r 399),(JN,709,r 406),(JM,717,r 413),(JL,725,r 420),(JK,736,r 427),(Hw,737,r 428),(s5,738,.none)] 2
def ZC:Obj:=cL s62 [r 348] [r 430,r 348,r 320,.type q8] 429 [] 351 643 651 q13
def Zy:=cO RP Xn 753 246 2 440 2
def Zx:=fo RP Xn (L2.x5 (i3 58) 0) m8 (r 445)
def Zw:=cO GI Xm 761 251 1 447 2
def Zv:=fo GI Xm (L2.x5 (i3 58) 1) m8 (r 452)
def Zu:=cO JR Xl 769 255 1 454 1
def Zt:=fo JR Xl (L2.x5 (i3 58) 2) m8 (r 459)
def Zs:=cO GJ Xk 776 258 1 461 1
def Zr:=fo GJ Xk (L2.x5 (i3 58) 3) m8 (r 466)
def Zq:=cO JQ Xj 783 261 3 468 3
def Zp:=fo JQ Xj (L2.x5 (i3 58) 4) m8 (r 473)
def Zn:=cO JP Xi 792 264 3 475 3
def Zm:=fo JP Xi (L2.x5 (i3 58) 5) m8 (r 480)
def Zl:=cO JO Xh 801 267 2 482 2
def Zk:=fo JO Xh (L2.x5 (i3 58) 6) m8 (r 487)
def Zj:=cO JN Xg 809 270 2 489 5
def Zh:=fo JN Xg (L2.x5 (i3 58) 7) m8 (r 494)
def Zg:=cO JM Xf 820 283 2 496 2
def Zf:=fo JM Xf (L2.x5 (i3 58) 8) m8 (r 501)
def Ze:=cO JL Xe 828 286 2 503 2
def Zd:=fo JL Xe (L2.x5 (i3 58) 9) m8 (r 508)
def Zc:=cO JK Xd 836 289 2 510 3
def YZ:=fo JK Xd (L2.x5 (i3 58) 10) m8 (r 515)
def YY(P:Params):Obj:=dI P [(Hy,748,m8),(Hx,752,.int 244 751),(RP,760,r 446),(GI,768,r 453),(JR,775,r 460),(GJ,782,r 467),(JQ,791,r 474),(JP,800,r 481),(JO,808,r 488),(JN,819,r 495),(JM,827,r 502),(JL,835,r 509),(JK,844,r 516),(Hw,846,r 517),(s5,847,.none)] 2
def YX:Obj:=cL s63 [r 348] [r 519,r 348,r 320,.type q8] 518 [] 433 741 749 q13
def YW:=cN s64 852 295 2 522 3
def YV:=fN s64 60 m9 527
def YU:=cN s65 861 304 1 529 3
def YT:=fN s65 61 m9 534
def YS:=cN s66 870 311 2 536 2
def YR:=fN s66 62 m9 541
def YQ:=cN s67 878 315 2 543 3
def YO:=fN s67 63 m9 548
def YN:=cN s68 887 318 3 550 3
def YM:=fN s68 64 m9 555
def YL:=cN WV 896 322 3 557 3
def YK:=fN WV 65 m9 562
def YJ:=cN s70 905 326 2 564 2
def YI:=fN s70 66 m9 569
def YH:=cN s71 913 330 2 571 2
def YG:=fN s71 67 m9 576
def YF:=cN s72 921 334 1 578 2
def YE:=fN s72 68 m9 583
def YD:=cN s73 929 337 1 585 1
def YC:=fN s73 69 m9 590
def YB:=cN s74 936 341 2 592 2
def YA:=fN s74 70 m9 597
def Yz:=eN s75 944 347 4 599
def Yy:=fN s75 71 m9 602
def Yx:=eN s76 950 356 5 604
def Yw:=fN s76 72 m9 607
def Yv:=eN s77 956 372 3 609
def Yu:=fN s77 73 m9 612
def Yt:=eN PB 962 381 4 614
def Ys:=fN PB 74 m9 617
def Yr:=cN s79 968 398 4 619 8
def Yq:=fN s79 75 m9 624
def Yp:=cN s80 982 411 3 626 6
def Yo:=fN s80 76 m9 631
def Yn:=eN s81 994 416 3 633
def Ym:=fN s81 77 m9 636
def Yl:=eN s82 1000 418 1 638
def Yk:=fN s82 78 m9 641
def Yj:=eN s83 1006 423 4 643
def Yi:=fN s83 79 m9 646
def Yh:=eN s84 1012 427 4 648
def Yg:=fN s84 80 m9 651
def Ye:=eN s85 1018 432 4 653
def Yd:=fN s85 81 m9 656
def Yc:=cN s86 1024 450 5 658 14
def Yb:=fN s86 82 m9 663
def XZ:=eN s87 1044 467 1 665
def XY:=fN s87 83 m9 668
def XX:=cN s88 1050 478 1 670 12
def XW:=fN s88 84 m9 675
def Wd:Env:={ scope:=pW.main.scope,locals:=mainNs,globals:=mainNs,cells:=[],code:=(r 13),frame:=some 14 }
def cT:Code:=.body (behindTheImports pW) Wd
def qP:Pos:=⟨0,0,0,0⟩
def Ha(P:Params):Heap:=⟨⟨[boot_o_0 P,boot_o_1 P,boot_o_2 P,boot_o_3 P,boot_o_4 P,boot_o_5 P,boot_o_6 P,boot_o_7 P,boot_o_8 P,boot_o_9 P,boot_o_10 P,Vl,c0p,Vk,Vj]⟩,PySem.Life.mk [] [] [] 0 [] [] false #[] [] 0 false false false 0 [2000,10,10] false 0 true [] [] 0 false⟩
def Sa(w:World)(os:OsState):Shared:=⟨Ha w.params,⟨[]⟩,PySem.Drawn.mk 0 0 0 0,187,os⟩
def Tb(P:Params):BT:=(nd (boot_o_0 P) (nd (boot_o_1 P) (nd (boot_o_3 P) (lf (boot_o_7 P)) (lf Vl)) (nd (boot_o_5 P) (lf (boot_o_9 P)) (lf Vk))) (nd (boot_o_2 P) (nd (boot_o_4 P) (lf (boot_o_8 P)) (lf c0p)) (nd (boot_o_6 P) (lf (boot_o_10 P)) (lf Vj))))
def Sb(w:World)(os:OsState):SharedT:=⟨Tb w.params,15,PySem.Life.mk [] [] [] 0 [] [] false #[] [] 0 false false false 0 [2000,10,10] false 0 true [] [] 0 false,⟨[]⟩,PySem.Drawn.mk 0 0 0 0,187,os⟩
def oA(P:Params):List Obj:=boot_o_0 P::boot_o_1 P::boot_o_2 P::o3 P::boot_o_4 P::boot_o_5 P::boot_o_6 P::boot_o_7 P::boot_o_8 P::boot_o_9 P::boot_o_10 P::Vl::tB [1,0,20,5,0,27,7,0,40,9,0,52,11,0,64,13,0,76,15,0,88,18,0,98,20,0,103,22,0,108,24,0,113,28,0,120,33,0,125,35,0,130,37,0,135,40,0,142,43,0,149,46,0,154,50,0,159,55,0,166,58,0,173,63,0,178,65,0,185,71,0,192,80,0,199,85,0,206,87,0,213,93,0,220,105,0,225,110,0,230,112,0,235,120,0,240,123,0,245,125,0,252,129,0,257,134,0,262,144,0,269,146,0,276,154,0,283,163,0,290,176,0,295,185,0,302,189,0,309,192,0,316,194,0,330,201,0,356,244,0,438,295,0,527,304,0,534,311,0,541,315,0,548,318,0,555,322,0,562,326,0,569,330,0,576,334,0,583,337,0,590,341,0,597,347,0,602,356,0,607,372,0,612,381,0,617,398,0,624,411,0,631,416,0,636,418,0,641,423,0,646,427,0,651,432,0,656,450,0,663,467,0,668,478,0,675]::Vk::Vj::D 190 [s89] o20 o21 (tu #[.type q2] 0::x1::dI P [(Hy,203,.str Jk 194),(Rj,205,.str RR 204),(Hx,207,.int 5 206),(Hw,208,r 29)] 4::e0::x0::cC RR 198 5 25::pL 27 24 (.str Jk 194)::e0::o30 P::o31::⟨.type q10,none,.fields #[.str s95 209,r 31,.builtin SL.s10220274742760427390x26,.none],#[]⟩::x3 31::x2 31::tu #[r 31] 0::x1::dI P [(Hy,221,.str Jk 194),(Rj,223,.str RQ 222),(Hx,225,.int 7 224),(Hw,226,r 42)] 4::e0::x0::cC RQ 216 7 38::pL 40 37 (.str Jk 194)::e0::o43 P::o44::x3 44::x2 44::tu #[r 31] 0::x1::dI P [(Hy,237,.str Jk 194),(Rj,239,.str s16 238),(Hx,241,.int 9 240),(Hw,242,r 54)] 4::e0::x0::cC s16 232 9 50::pL 52 49 (.str Jk 194)::e0::o55 P::o56::x3 56::x2 56::tu #[r 31] 0::x1::dI P [(Hy,253,.str Jk 194),(Rj,255,.str s17 254),(Hx,257,.int 11 256),(Hw,258,r 66)] 4::e0::x0::cC s17 248 11 62::pL 64 61 (.str Jk 194)::e0::o67 P::o68::x3 68::x2 68::tu #[r 31] 0::x1::dI P [(Hy,269,.str Jk 194),(Rj,271,.str s18 270),(Hx,273,.int 13 272),(Hw,274,r 78)] 4::e0::x0::cC s18 264 13 74::pL 76 73 (.str Jk 194)::e0::o79 P::o80::x3 80::x2 80::tu #[r 31] 0::x1::dI P [(Hy,285,.str Jk 194),(Rj,287,.str s19 286),(Hx,289,.int 15 288),(Hw,290,r 90)] 4::e0::x0::cC s19 280 15 86::pL 88 85 (.str Jk 194)::e0::o91 P::o92::x3 92::x2 92::E o98 o99 (E c0z c0y (E c0x c0w (E c0v c0u (D 323 [RL,Ws,s99,s100,Fv,PF] c0t c0s (E c0r c0q (E c0o c0n (E c0m c0l (D 355 [s103] c0k c0j (D 364 [GJ,UQ] c0i c0h (E c0g c0f (E c0e c0d (D 386 [RL] c0c c0b (D 393 [RL,Ws,UP,RW] c0a b0z (E b0y b0x (D 409 [RL,RV,Ws,UO,RW,UQ] b0w b0v (D 421 [RL,RV,Ws,UP,UO,RW] b0u b0t (D 433 [RL,UN,UP,RV,Ws] b0s b0r (D 444 [UN] b0q b0p (D 451 [RL,UN,GI,RW,Ws] b0o b0n (D 464 [RL,s115,s116,RV,GI,XH,s118,s119] b0m b0l (E b0k b0j (E b0i b0h (E b0g b0f (E b0e b0d (E b0c b0b (D 510 [RL,s122,XH] b0a a0z (E a0y a0x (E a0w a0v (D 533 [UM] a0u a0t (D 540 [GJ,UQ,s125,UO,XG] a0s a0r (D 551 [XF,XE,s129] a0q a0p (D 560 [XD,s131] a0o a0n (E a0m a0l (D 582 [RU] a0k a0j (D 589 [RU] a0i a0h (e0::x1::dI P [(Hy,600,m8),(Rj,602,.str UD 601),(Hx,604,.int 192 603),(Hw,605,r 318)] 4::e0::x0::cC UD 595 192 314::pL 316 313 m8::e0::a0g P::a0f::⟨.type q10,none,.fields #[.str XC 606,r 320,.builtin SL.s6511155373996960695x17,.builtin SL.s12411053484034534018x21],#[]⟩::⟨.type q10,none,.fields #[.str s95 608,r 320,.builtin SL.s10220274742760427390x26,.none],#[]⟩::x3 320::x2 320::tu #[r 320] 0::x1::dI P [(Hy,620,m8),(Rj,622,.str s61 621),(Hx,624,.int 194 623),(RT,631,r 338),(RS,638,r 345),(Hw,639,r 346)] 6::e0::tB [196,4,337,199,4,344]::cC s61 615 194 328::pL 330 327 m8::D 628 [V8] a0e a0d (D 635 [V8] a0c a0b (e0::a0a P::ZZ::x3 348::x2 348::tu #[r 348] 0::x1::dI P [(Hy,650,m8),(Rj,652,.str s62 651),(Hx,654,.int 201 653),(GI,661,r 364),(JR,668,r 371),(GJ,675,r 378),(JQ,684,r 385),(JP,693,r 392),(JO,701,r 399),(JN,709,r 406),(JM,717,r 413),(JL,725,r 420),(JK,736,r 427),(Hw,737,r 428)] 14::e0::tB [203,4,363,206,4,370,209,4,377,212,4,384,215,4,391,218,4,398,221,4,405,224,4,412,231,4,419,234,4,426]::cC s62 645 201 354::pL 356 353 m8::D 658 [V8] ZY ZX (D 665 [V8] ZW ZV (D 672 [V8] ZU ZT (D 679 [V8,Fv,PF] ZR ZQ (D 688 [V8,Fv,PF] ZP ZO (D 697 [V8,Fv] ZN ZM (D 705 [V8,Fv] ZL ZK (D 713 [V8,UM] ZJ ZI (D 721 [V8,Fv] ZH ZG (D 729 [V8,RU,s157,XF,XE] ZF ZE (e0::ZD P::ZC::x3 430::x2 430::tu #[r 348] 0::x1::dI P [(Hy,748,m8),(Rj,750,.str s63 749),(Hx,752,.int 244 751),(RP,760,r 446),(GI,768,r 453),(JR,775,r 460),(GJ,782,r 467),(JQ,791,r 474),(JP,800,r 481),(JO,808,r 488),(JN,819,r 495),(JM,827,r 502),(JL,835,r 509),(JK,844,r 516),(Hw,846,r 517)] 15::e0::tB [246,4,445,251,4,452,255,4,459,258,4,466,261,4,473,264,4,480,267,4,487,270,4,494,283,4,501,286,4,508,289,4,515]::cC s63 743 244 436::pL 438 435 m8::D 756 [V8,UL] Zy Zx (D 764 [V8,UL] Zw Zv (D 772 [V8] Zu Zt (D 779 [V8] Zs Zr (D 786 [V8,Fv,PF] Zq Zp (D 795 [V8,Fv,PF] Zn Zm (D 804 [V8,Fv] Zl Zk (D 812 [V8,Fv,s168,s169,XG] Zj Zh (D 823 [V8,UM] Zg Zf (D 831 [V8,Fv] Ze Zd (D 839 [V8,RU,XD] Zc YZ (tu #[.str UL 845] 0::YY P::YX::x3 519::x2 519::D 855 [PD,RO,UK] YW YV (D 864 [Xc,s178,s179] YU YT (D 873 [UJ,UI] YS YR (D 881 [s182,s183,Xb] YQ YO (D 890 [GH,RN,UH] YN YM (D 899 [GH,RN,UH] YL YK (D 908 [GH,RN] YJ YI (D 916 [GH,s188] YH YG (D 924 [PD,s189] YF YE (D 932 [GH] YD YC (D 939 [PD,GH] YB YA (E Yz Yy (E Yx Yw (E Yv Yu (E Yt Ys (D 971 [PD,GH,Xa,WZ,s192,RO,s193,s194] Yr Yq (D 985 [GH,WY,s196,s197,RN,UH] Yp Yo (E Yn Ym (E Yl Yk (E Yj Yi (E Yh Yg (E Ye Yd (D 1027 [WX,GH,UJ,UI,UK,s199,RO,s200,s201,s202,WY,s203,Xb,s204] Yc Yb (E XZ XY (D 1053 [Xc,PD,GH,WX,s205,RO,WZ,Xa,UJ,UI,UK,s206] XX XW ([])))))))))))))))))))))))))))))))))))))))))))))))))))))))))))))))))))))))))))))))))))))
def T0(P:Params):BT:=oL (oA P) 0 .nil
def S0(w:World)(os:OsState):SharedT:=⟨T0 w.params,677,PySem.Life.mk [] [] [] 0 [] [] false #[] [] 0 false false false 0 [2000,10,10] false 0 true [] [] 0 false,⟨[]⟩,PySem.Drawn.mk 0 0 0 0,1068,os⟩
def Hf(P:Params):Heap:=⟨⟨oA P⟩,PySem.Life.mk [] [] [] 0 [] [] false #[] [] 0 false false false 0 [2000,10,10] false 0 true [] [] 0 false⟩
def Sf(w:World)(os:OsState):Shared:=⟨Hf w.params,⟨[]⟩,PySem.Drawn.mk 0 0 0 0,1068,os⟩
def pre_(w:World)(os:OsState):topGo treeTable pW w 11 ((some (r 6))) 12 ⟨boot_heap w.params,⟨[]⟩,boot_drawn,boot_toks,os⟩ (topStub pW)=some (Sa w os,⟨denote treeTable cT,cT,⟨0,0,0,0⟩,[topFrame qP]⟩):=by trivial
def Wl(w:World)(os:OsState):segRun treeTable pW w 11 ((some (r 6))) 1 1 (Sa w os) (blockOf (behindTheImports pW) Wd cT ⟨0,0,0,0⟩ [topFrame qP])=some (.next,(Sb w os).abs,cT,⟨0,0,0,0⟩):=by trivial
def WO:List Stmt:=[i3 0,i3 1,i3 2,i3 3,i3 4,i3 5,i3 6,i3 7,i3 8,i3 9,i3 10,i3 11,i3 12,i3 13,i3 14,i3 15,i3 16,i3 17,i3 18,i3 19,i3 20,i3 21,i3 22,i3 23,i3 24,i3 25,i3 26,i3 27,i3 28,i3 29,i3 30,i3 31,i3 32,i3 33,i3 34,i3 35,i3 36,i3 37,i3 38,i3 39,i3 40,i3 41,i3 42,i3 43,i3 44,i3 45,i3 46,i3 47,i3 48,i3 49,i3 50,i3 51,i3 52,i3 53,i3 54,i3 55,i3 56,i3 57,i3 58,i3 59,i3 60,i3 61,i3 62,i3 63,i3 64,i3 65,i3 66,i3 67,i3 68,i3 69,i3 70,i3 71,i3 72,i3 73,i3 74,i3 75,i3 76,i3 77,i3 78,i3 79,i3 80,i3 81,i3 82,i3 83,i3 84]
def pc0(w:World)(os:OsState):segRunT treeTable pW w 11 ((some (r 6))) 1 4772 (Sb w os) (piecesOf WO Wd cT ⟨0,0,0,0⟩ [topFrame qP])=some (.next,S0 w os,cT,⟨478,0,504,121⟩):=by trivial
def fin_(w:World)(os:OsState):topRun treeTable pW w 11 ((some (r 6))) 2 (S0 w os).abs ⟨doneF .next,cT,⟨478,0,504,121⟩,[topFrame qP]⟩=some (Sf w os):=by trivial
def To:behindTheImports pW=(WO++[]):=by kernel_rfl
def run_(w:World)(os:OsState):topRun treeTable pW w 11 ((some (r 6))) (12+(1+(4772+2))) ⟨boot_heap w.params,⟨[]⟩,boot_drawn,boot_toks,os⟩ (topStub pW)=some (Sf w os):=by
 have h:=(piece_app (segRun_of (pc0 w os)) (piece_nil (fin_ w os)));rw[<- To]at h;exact go_top (pre_ w os) (piece_block (Wl w os) h)
def K(P:Params):Frag:=(nat_lit 2,boot_o_2 P)::(nat_lit 3,o3 P)::(nat_lit 20,o20)::(nat_lit 21,o21)::(nat_lit 30,o30 P)::(nat_lit 31,o31)::(nat_lit 43,o43 P)::(nat_lit 44,o44)::(nat_lit 55,o55 P)::(nat_lit 56,o56)::(nat_lit 67,o67 P)::(nat_lit 68,o68)::(nat_lit 79,o79 P)::(nat_lit 80,o80)::(nat_lit 91,o91 P)::(nat_lit 92,o92)::(nat_lit 98,o98)::(nat_lit 99,o99)::(nat_lit 103,c0z)::(nat_lit 104,c0y)::(nat_lit 108,c0x)::(nat_lit 109,c0w)::(nat_lit 113,c0v)::(nat_lit 114,c0u)::(nat_lit 120,c0t)::(nat_lit 121,c0s)::(nat_lit 125,c0r)::(nat_lit 126,c0q)::(nat_lit 130,c0o)::(nat_lit 131,c0n)::(nat_lit 135,c0m)::(nat_lit 136,c0l)::(nat_lit 142,c0k)::(nat_lit 143,c0j)::(nat_lit 149,c0i)::(nat_lit 150,c0h)::(nat_lit 154,c0g)::(nat_lit 155,c0f)::(nat_lit 159,c0e)::(nat_lit 160,c0d)::(nat_lit 166,c0c)::(nat_lit 167,c0b)::(nat_lit 173,c0a)::(nat_lit 174,b0z)::(nat_lit 178,b0y)::(nat_lit 179,b0x)::(nat_lit 185,b0w)::(nat_lit 186,b0v)::(nat_lit 192,b0u)::(nat_lit 193,b0t)::(nat_lit 199,b0s)::(nat_lit 200,b0r)::(nat_lit 206,b0q)::(nat_lit 207,b0p)::(nat_lit 213,b0o)::(nat_lit 214,b0n)::(nat_lit 220,b0m)::(nat_lit 221,b0l)::(nat_lit 225,b0k)::(nat_lit 226,b0j)::(nat_lit 230,b0i)::(nat_lit 231,b0h)::(nat_lit 235,b0g)::(nat_lit 236,b0f)::(nat_lit 240,b0e)::(nat_lit 241,b0d)::(nat_lit 245,b0c)::(nat_lit 246,b0b)::(nat_lit 252,b0a)::(nat_lit 253,a0z)::(nat_lit 257,a0y)::(nat_lit 258,a0x)::(nat_lit 262,a0w)::(nat_lit 263,a0v)::(nat_lit 269,a0u)::(nat_lit 270,a0t)::(nat_lit 276,a0s)::(nat_lit 277,a0r)::(nat_lit 283,a0q)::(nat_lit 284,a0p)::(nat_lit 290,a0o)::(nat_lit 291,a0n)::(nat_lit 295,a0m)::(nat_lit 296,a0l)::(nat_lit 302,a0k)::(nat_lit 303,a0j)::(nat_lit 309,a0i)::(nat_lit 310,a0h)::(nat_lit 319,a0g P)::(nat_lit 320,a0f)::(nat_lit 337,a0e)::(nat_lit 338,a0d)::(nat_lit 344,a0c)::(nat_lit 345,a0b)::(nat_lit 347,a0a P)::(nat_lit 348,ZZ)::(nat_lit 363,ZY)::(nat_lit 364,ZX)::(nat_lit 370,ZW)::(nat_lit 371,ZV)::(nat_lit 377,ZU)::(nat_lit 378,ZT)::(nat_lit 384,ZR)::(nat_lit 385,ZQ)::(nat_lit 391,ZP)::(nat_lit 392,ZO)::(nat_lit 398,ZN)::(nat_lit 399,ZM)::(nat_lit 405,ZL)::(nat_lit 406,ZK)::(nat_lit 412,ZJ)::(nat_lit 413,ZI)::(nat_lit 419,ZH)::(nat_lit 420,ZG)::(nat_lit 426,ZF)::(nat_lit 427,ZE)::(nat_lit 429,ZD P)::(nat_lit 430,ZC)::(nat_lit 445,Zy)::(nat_lit 446,Zx)::(nat_lit 452,Zw)::(nat_lit 453,Zv)::(nat_lit 459,Zu)::(nat_lit 460,Zt)::(nat_lit 466,Zs)::(nat_lit 467,Zr)::(nat_lit 473,Zq)::(nat_lit 474,Zp)::(nat_lit 480,Zn)::(nat_lit 481,Zm)::(nat_lit 487,Zl)::(nat_lit 488,Zk)::(nat_lit 494,Zj)::(nat_lit 495,Zh)::(nat_lit 501,Zg)::(nat_lit 502,Zf)::(nat_lit 508,Ze)::(nat_lit 509,Zd)::(nat_lit 515,Zc)::(nat_lit 516,YZ)::(nat_lit 518,YY P)::(nat_lit 519,YX)::(nat_lit 527,YW)::(nat_lit 528,YV)::(nat_lit 534,YU)::(nat_lit 535,YT)::(nat_lit 541,YS)::(nat_lit 542,YR)::(nat_lit 548,YQ)::(nat_lit 549,YO)::(nat_lit 555,YN)::(nat_lit 556,YM)::(nat_lit 562,YL)::(nat_lit 563,YK)::(nat_lit 569,YJ)::(nat_lit 570,YI)::(nat_lit 576,YH)::(nat_lit 577,YG)::(nat_lit 583,YF)::(nat_lit 584,YE)::(nat_lit 590,YD)::(nat_lit 591,YC)::(nat_lit 597,YB)::(nat_lit 598,YA)::(nat_lit 602,Yz)::(nat_lit 603,Yy)::(nat_lit 607,Yx)::(nat_lit 608,Yw)::(nat_lit 612,Yv)::(nat_lit 613,Yu)::(nat_lit 617,Yt)::(nat_lit 618,Ys)::(nat_lit 624,Yr)::(nat_lit 625,Yq)::(nat_lit 631,Yp)::(nat_lit 632,Yo)::(nat_lit 636,Yn)::(nat_lit 637,Ym)::(nat_lit 641,Yl)::(nat_lit 642,Yk)::(nat_lit 646,Yj)::(nat_lit 647,Yi)::(nat_lit 651,Yh)::(nat_lit 652,Yg)::(nat_lit 656,Ye)::(nat_lit 657,Yd)::(nat_lit 663,Yc)::(nat_lit 664,Yb)::(nat_lit 668,XZ)::(nat_lit 669,XY)::(nat_lit 675,XX)::(nat_lit 676,XW)::[]
def KA:List Addr:=[2,3,20,21,30,31,43,44,55,56,67,68,79,80,91,92,98,99,103,104,108,109,113,114,120,121,125,126,130,131,135,136,142,143,149,150,154,155,159,160,166,167,173,174,178,179,185,186,192,193,199,200,206,207,213,214,220,221,225,226,230,231,235,236,240,241,245,246,252,253,257,258,262,263,269,270,276,277,283,284,290,291,295,296,302,303,309,310,319,320,337,338,344,345,347,348,363,364,370,371,377,378,384,385,391,392,398,399,405,406,412,413,419,420,426,427,429,430,445,446,452,453,459,460,466,467,473,474,480,481,487,488,494,495,501,502,508,509,515,516,518,519,527,528,534,535,541,542,548,549,555,556,562,563,569,570,576,577,583,584,590,591,597,598,602,603,607,608,612,613,617,618,624,625,631,632,636,637,641,642,646,647,651,652,656,657,663,664,668,669,675,676]
def e0s(P:Params):KA=(K P).map (·.1):=by kernel_rfl
def qT:Program:={ pW with main:={ pW.main with body:=[i3 0,i3 2,i3 3,i3 4,i3 5,i3 6,i3 7,i3 9,i3 10,i3 11,i3 12,i3 13,i3 14,i3 15,i3 16,i3 18,i3 20,i3 21,i3 22,i3 24,i3 25,i3 26,i3 27,i3 28,i3 29,i3 30,i3 31,i3 33,i3 34,i3 35,i3 36,i3 38,i3 39,i3 40,i3 41,i3 42,i3 44,i3 45,i3 46,i3 47,i3 49,i3 50,i3 51,i3 52,i3 53,i3 54,i3 55,i3 56,i3 57,i3 58,i3 60,i3 61,i3 62,i3 63,i3 64,i3 65,i3 66,i3 67,i3 68,i3 69,i3 70,i3 71,i3 72,i3 73,i3 74,i3 75,i3 76,i3 77,i3 78,i3 79,i3 80,i3 81,i3 82,i3 83,i3 84] } }
def recs:=RowW.records (OpenRow.toRowW (OpenLaw.row PySem.Challenge.rw_weighwalk_k51_alike_with_a_paper))
abbrev Xt(q:Program)(s:Shared):Bool:=xlAt q [] s && recOk recs s
abbrev FV:Hook:=kHook K KA e0s
def WT(w:World):((boot_heap w.params).isNs mainGlobals && (⟨[]⟩:Array GenState).size == 0,(boot_heap w.params).objs.size,(boot_heap w.params).nsMap mainGlobals "__annotations__")=(true,11,(some (r 6))):=by trivial
def XQ:∀w:World,(fencedOpening treeTable pW w 9668).map (λs=>(s.heap,s.gens,s.drawn,s.toks))=some (boot_heap w.params,⟨[]⟩,boot_drawn,boot_toks):=boot_open (by kernel_rfl) (by decide) (λs=>by trivial)
def d0r(w:World)(os:OsState):(staticsOk (importedModules pW.main.body) (boot_heap w.params) (Hf w.params) && namesBound pW (Hf w.params) && gensDone (Sf w os) && laidKept (boot_heap w.params) (Hf w.params))=true:=by trivial
def d0q(w:World)(os:OsState):openSeen qT [] (importedModules pW.main.body) (Xt qT) true (Sf w os)=openGood qT []:=by trivial
def d0p(w:World)(os:OsState):FV.obs (Sf w os)=FV.val w:=by kernel_rfl
def left:LeftO pW qT [] (Xt qT) FV.obs FV.val 9668:=LeftO.of_pieces (H₁:=Hf) XQ WT run_ (by decide) (λw=>funext λos=>looks_pair (d0r w os) (looks_pair (d0q w os) (d0p w os)))
def dO:DefRec:=⟨PySem.Str.ofString "law",L2.D9 (i3 84),L2.D0 (i3 84),L2.b9 (i3 84),⟨478,0,504,121⟩⟩
def VX(said:(OpenLaw.row PySem.Challenge.rw_weighwalk_k51_alike_with_a_paper).wellSaid=true)(hw:(OpenLaw.row PySem.Challenge.rw_weighwalk_k51_alike_with_a_paper).toRowW.promised)(hc:WalkO qT [] (XL qT []) (Hook.says FV) (OpenLaw.row PySem.Challenge.rw_weighwalk_k51_alike_with_a_paper).toRowW dO [] (λf vs=>PySem.call f vs)):(OpenLaw.row PySem.Challenge.rw_weighwalk_k51_alike_with_a_paper).Holds:=
 holds_open (r:=(OpenLaw.row PySem.Challenge.rw_weighwalk_k51_alike_with_a_paper)) (q:=qT) (loose:=[]) (Xt:=Xt qT) (XP:=XL qT []) (Yf:=FV.obs) (Ya:=FV.val) (YP:=FV.says) (d:=dO) (kwd:=[]) (N:=9668) left FV.of FV.keeps (λs e=>xl_of s (Bool.and_eq_true_iff.mp e).1) XL.keeps (by kernel_rfl) (by kernel_rfl) (by kernel_rfl) (λs e=>recFacts_of (Bool.and_eq_true_iff.mp e).2) (by kernel_rfl) said (by decide +kernel) ⟨rfl,rfl,rfl,rfl,rfl,by decide +kernel⟩ hw hc
abbrev fO(n q:String)(s:Stmt)(m c:Value):Obj:=⟨.type SL.s7174869446012820540x8,none,.func (fnOf (PySem.Str.ofString n) (PySem.Str.ofString q) (L2.D9 s) (L2.D0 s) (L2.b9 s) .none .none .none m none c .none),#[]⟩
def lp P a n j m c(h:(K P).lookup a=some (fO n n (i3 j) m (r c)):=by kernel_rfl):=h
def lc P a n q j k m c(h:(K P).lookup a=some (fO n q (L2.x5 (i3 j) k) m (r c)):=by kernel_rfl):=h
def Mm P:=lp P 99 "noughts" 9 m1 98
def IE P:=lp P 104 "times_row" 10 m1 103
def IG P:=lp P 109 "column_at" 11 m1 108
def GX P:=lp P 114 "columns_of" 12 m1 113
def VJ P:=lp P 121 "dot" 13 m1 120
def Ot P:=lp P 126 "row_by" 14 m1 125
def IH P:=lp P 131 "by_column" 15 m1 130
def Ks P:=lp P 136 "by_table" 16 m1 135
def Qy P:=lp P 143 "rooms" 18 m2 142
def BB P:=lp P 150 "need_same_letters" 20 m3 149
def Ou P:=lp P 155 "beside" 21 m3 154
def GU P:=lp P 160 "put_beside" 22 m3 159
def GV P:=lp P 167 "need_field" 24 m4 166
def Mn P:=lp P 174 "leading" 25 m4 173
def Km P:=lp P 179 "plus_row" 26 m4 178
def Mq P:=lp P 186 "cleared" 27 m4 185
def SH P:=lp P 193 "keep" 28 m4 192
def IF P:=lp P 200 "kept_rows" 29 m4 199
def Kk P:=lp P 207 "width_of" 30 m4 206
def Mo P:=lp P 214 "echelon" 31 m4 213
def GW P:=lp P 221 "free_words" 33 m5 220
def AX P:=lp P 226 "with_letter_behind" 34 m5 225
def II P:=lp P 231 "at_places" 35 m5 230
def Kn P:=lp P 236 "narrowed" 36 m5 235
def SG P:=lp P 241 "less" 38 m6 240
def Ml P:=lp P 246 "parting" 39 m6 245
def BC P:=lp P 253 "grown_while_alike" 40 m6 252
def Kl P:=lp P 258 "walkable" 41 m6 257
def Qz P:=lp P 263 "alike" 42 m6 262
def Ko P:=lp P 270 "is_whole" 44 m7 269
def Mp P:=lp P 277 "divisor" 45 m7 276
def Kr P:=lp P 284 "fraction" 46 m7 283
def Kq P:=lp P 291 "is_prime" 47 m7 290
def Dv P:=lc P 338 "is_field" "Field.is_field" 56 0 m8 337
def Cc P:=lc P 371 "nought" "Fractions.nought" 57 1 m8 370
def Eh P:=lc P 378 "one" "Fractions.one" 57 2 m8 377
def Du P:=lc P 385 "plus" "Fractions.plus" 57 3 m8 384
def CI P:=lc P 392 "times" "Fractions.times" 57 4 m8 391
def CJ P:=lc P 399 "minus" "Fractions.minus" 57 5 m8 398
def BF P:=lc P 406 "inverse" "Fractions.inverse" 57 6 m8 405
def AG P:=lc P 413 "is_weight" "Fractions.is_weight" 57 7 m8 412
def BE P:=lc P 446 "__init__" "Residues.__init__" 58 0 m8 445
def CH P:=lc P 460 "nought" "Residues.nought" 58 2 m8 459
def ER P:=lc P 467 "one" "Residues.one" 58 3 m8 466
def Eg P:=lc P 474 "plus" "Residues.plus" 58 4 m8 473
def Ds P:=lc P 481 "times" "Residues.times" 58 5 m8 480
def Dt P:=lc P 488 "minus" "Residues.minus" 58 6 m8 487
def Ca P:=lc P 495 "inverse" "Residues.inverse" 58 7 m8 494
def AY P:=lc P 502 "is_weight" "Residues.is_weight" 58 8 m8 501
def IM P:=lp P 528 "_law_next" 60 m9 527
def GZ P:=lp P 535 "_law_state" 61 m9 534
def EO P:=lp P 542 "_law_divisor" 62 m9 541
def Ku P:=lp P 549 "_law_low" 63 m9 548
def IL P:=lp P 556 "_law_plus" 64 m9 555
def GY P:=lp P 563 "_law_times" 65 m9 562
def Hc P:=lp P 570 "_law_minus" 66 m9 569
def Mr P:=lp P 577 "_law_of" 67 m9 576
def IK P:=lp P 584 "_law_sort" 68 m9 583
def IR P:=lp P 591 "_law_kind" 69 m9 590
def FN P:=lp P 598 "_law_weight" 70 m9 597
def EL P:=lp P 603 "_law_machine" 71 m9 602
def Hb P:=lp P 608 "_law_moved" 72 m9 607
def EK P:=lp P 613 "_law_swapped" 73 m9 612
def IP P:=lp P 618 "_law_more" 74 m9 617
def EN P:=lp P 625 "_law_dressed" 75 m9 624
def Kv P:=lp P 632 "_law_dot" 76 m9 631
def IJ P:=lp P 637 "_law_step" 77 m9 636
def EM P:=lp P 642 "_law_letters" 78 m9 641
def IQ P:=lp P 647 "_law_line" 79 m9 646
def Kt P:=lp P 652 "_law_sum" 80 m9 651
def FP P:=lp P 657 "_law_formed" 81 m9 656
def FO P:=lp P 664 "_law_walked" 82 m9 663
def BD P:=lp P 669 "_law_each_its_own" 83 m9 668
def VI P:=lp P 676 "law" 84 m9 675
end
end H51
set_option maxHeartbeats 4000000
abbrev n0N:List PySem.Str:=["_law_state_here","_law_sort_here","_law_machine_here","_law_seen","_law_letters_here","_law_start","_law_tables","_law_ends","_law_many","_law_nought","_law_made","_law_table","_law_lines","_law_line_here","_law_last","_law_begin","_law_end"]
abbrev n1N:List PySem.Str:=["_law_sort_here","_law_machine_here","_law_i","_law_j","_law_by","_law_letters_here","_law_start","_law_tables","_law_ends","_law_taken","_law_first","_law_last","_law_made","_law_table","_law_lines","#1","_law_low_here"]
abbrev n2N:List PySem.Str:=["_law_machine_here","_law_i","_law_j","_law_letters_here","_law_start","_law_tables","_law_ends","_law_order","_law_made","_law_table","_law_q"]
abbrev n3N:List PySem.Str:=["_law_machine_here","_law_i","_law_j","_law_letters_here","_law_start","_law_tables","_law_ends","_law_order","_law_made","_law_table"]
abbrev n4N:List PySem.Str:=["_law_sort_here","_law_machine_here","_law_i","_law_j","_law_by","_law_letters_here","_law_start","_law_tables","_law_ends","_law_taken","_law_first","_law_last","_law_made","_law_table","_law_lines","_law_line_here","_law_low_here","_law_x","_law_y"]
abbrev n5N:List PySem.Str:=["_law_state_here","_law_sort_here","_law_machine_here","_law_seen","_law_letters_here","_law_start","_law_tables","_law_ends","_law_many","_law_nought","_law_made","_law_table","_law_lines","_law_line_here","_law_last","_law_begin","_law_end","_law_k"]
abbrev n6N:List PySem.Str:=["_law_sort_here","_law_machine_here","_law_i","_law_j","_law_by","_law_letters_here","_law_start","_law_tables","_law_ends","_law_taken","_law_first","_law_last","_law_made","_law_table","_law_lines","#1","_law_low_here","_law_line_here"]
abbrev n7N:List PySem.Str:=["_law_sort_here","_law_machine_here","_law_i","_law_j","_law_by","_law_letters_here","_law_start","_law_tables","_law_ends","_law_taken","_law_first","_law_last","_law_made","_law_table","_law_lines","_law_line_here","_law_low_here"]
abbrev IB:List PySem.Str:=["kind","one","other"]
abbrev n9N:List PySem.Str:=["_law_kind_here","_law_found","_law_letters_here","_law_wide","_law_rows","_law_first","_law_steps","_law_step_here"]
abbrev Qs:List PySem.Str:=["_law_kind_here","_law_line_here","_law_many","_law_is_tuple"]
abbrev SB:List PySem.Str:=["kind","machine","kept","places","rows","tables","table","place","row"]
abbrev Ki:List PySem.Str:=["_law_sort_here","_law_x","_law_y"]
abbrev d0l:List PySem.Str:=["_law_state_here","_law_sort_here","_law_letters_here","_law_many","_law_start","_law_tables","_law_letter","_law_table","#1","_law_k"]
abbrev BZ:List PySem.Str:=["self","x","y"]
abbrev d0k:List PySem.Str:=["_law_state_here","_law_sort_here","_law_letters_here","_law_many","_law_start","_law_tables","_law_letter","_law_table","_law_k"]
abbrev VG:List PySem.Str:=["_law_sort_here","_law_by","_law_rows","_law_wide","_law_total","_law_x","_law_row"]
abbrev d0j:List PySem.Str:=["_law_state_here","_law_sort_here","_law_letters_here","_law_many","_law_start","_law_tables","_law_letter","_law_table","#1"]
abbrev SA:List PySem.Str:=["kind","machine","kept","places","rows","tables","table"]
abbrev VF:List PySem.Str:=["_law_kind_here","_law_sort_here","_law_one","_law_other","_law_found"]
abbrev d0i:List PySem.Str:=["_law_sort_here","_law_by","_law_rows","_law_wide","_law_total","_law_x","_law_row","_law_y","_law_z"]
abbrev Qr:List PySem.Str:=["_law_sort_here","_law_row","_law_table"]
abbrev d0h:List PySem.Str:=["_law_told","_law_rows","_law_first","_law_steps","_law_some","_law_step_here","_law_sizes","_law_k"]
abbrev VE:List PySem.Str:=["_law_state_here","_law_sort_here","_law_letters_here","_law_many"]
abbrev VD:List PySem.Str:=["_law_state_here","_law_sort_here","_law_machine_here","_law_seen"]
abbrev VC:List PySem.Str:=["_law_state_here","_law_sort_here","_law_machine_here","_law_most"]
abbrev VB:List PySem.Str:=["_law_sort_here","_law_machine_here","_law_i","_law_j","_law_by"]
abbrev VA:List PySem.Str:=["_law_kind_here","_law_found","_law_letters_here","_law_wide"]
abbrev CF:List PySem.Str:=["self","x"]
abbrev Vz:List PySem.Str:=["_law_sort_here","_law_by","_law_rows","_law_wide"]
abbrev Vy:List PySem.Str:=["kind","first","second","step","upper","lower"]
abbrev Vx:List PySem.Str:=["kind","both","rows","kept","narrow","steps"]
abbrev Sz:List PySem.Str:=["_law_state_here","_law_sort_here"]
abbrev d0g:List PySem.Str:=["kind","machine","last","told","word","row","letter","table"]
abbrev d0f:List PySem.Str:=["kind","first","second","step","upper","lower","row","extra"]
abbrev Kh:List PySem.Str:=["self","thing"]
abbrev Qq:List PySem.Str:=["kind","table","column"]
abbrev Vw:List PySem.Str:=["kind","one","other","no_step","tables"]
abbrev Vv:List PySem.Str:=["_law_sort_here","_law_row","_law_column"]
abbrev d0e:List PySem.Str:=["kind","both","rows","kept","narrow","steps","place","row"]
abbrev Sy:List PySem.Str:=["_law_sort_here","_law_number"]
abbrev d0d:List PySem.Str:=["kind","one","other","both","found","parted","word","row"]
abbrev d0c:List PySem.Str:=["kind","one","other","no_step","tables","first","second"]
abbrev Qp:List PySem.Str:=["kind","both","found"]
abbrev Vu:List PySem.Str:=["_law_machine_here","_law_i","_law_j"]
abbrev Qo:List PySem.Str:=["kind","row","table"]
abbrev d0b:List PySem.Str:=["kind","both","rows","kept","narrow","steps","table"]
abbrev Mf:List PySem.Str:=["one","other"]
abbrev Sx:List PySem.Str:=["_law_sort_here","_law_x"]
abbrev Oo:List PySem.Str:=["table","place"]
abbrev Qn:List PySem.Str:=["kind","by","row"]
abbrev Vt:List PySem.Str:=["kind","first","second","step"]
abbrev Sw:List PySem.Str:=["_law_one","_law_other"]
abbrev Vs:List PySem.Str:=["kind","kept","row","width"]
abbrev Sv:List PySem.Str:=["kind","both","last"]
abbrev Vr:List PySem.Str:=["_law_state_here","_law_many"]
abbrev Qm:List PySem.Str:=["row","places"]
abbrev Ql:List PySem.Str:=["kind","size"]
namespace L2
open PySem
@[elab_as_elim] def E8{motive:Hp->Prop}{H:Hp}{a:Addr}{o:HO}(n:H a=none)(h:∀G,j0 H G->G a=some o->motive G):motive (upd H a o):=h _ (c7 n) c4
def gN{X:Cx}{pos:Pos}(i:Nat){x:Str}(hN:X.N.Nodup)(hi:X.N[i]? = some x:=by rfl)(hx:X.env.scope.names.lookup x=some .local:=by rfl)(hf:X.fn x=true\/X.env.scope.names.lookup x=some .local:=by first | exact .inl rfl | exact .inr rfl | assumption):PG X (.Name x pos) (E9 i):=l4 hN hi (Or.inl hx) hf
def sT{X:Cx}{pos pos':Pos}(i:Nat){x:Str}{e:Expr}{te:TE}(hN:X.N.Nodup)(he:PE X e te)(hi:X.N[i]? = some x:=by rfl)(hx:X.env.scope.names.lookup x=some .local:=by rfl)(hs:swapsWith e (some (.Name x pos')) pos.line X.env=pure false:=by rfl)(hf:X.fn x=true\/X.env.scope.names.lookup x=some .local:=by first | exact .inl rfl | exact .inr rfl | assumption):PS X (.Assign [.Name x pos'] e pos) (Lx te (E9 i)):=AD hN hi (Or.inl hx) he hs hf
end L2
namespace K51
open PySem L2 Mine PyProof.Rows PySem.SeqAt
abbrev Pr:Program:=PySem.Challenge.pw_weighwalk_k51_alike_with_a_paper
def MU:Pr.given.tree=none:=rfl
def top(i:Nat):Stmt:=PySem.Challenge.pw_weighwalk_k51_alike_with_a_paper.main.body.getD i (.Pass ⟨0,0,0,0⟩)
abbrev Cu:Stmt:=top 44
abbrev DU:Stmt:=top 45
abbrev Cw:Stmt:=top 46
abbrev Cv:Stmt:=top 47
abbrev O4:Stmt:=x5 (top 57) 1
abbrev T5:Stmt:=x5 (top 57) 2
abbrev R1:Stmt:=x5 (top 57) 3
abbrev P5:Stmt:=x5 (top 57) 4
abbrev L4:Stmt:=x5 (top 57) 7
abbrev N3:Stmt:=x5 (top 58) 0
abbrev P3:Stmt:=x5 (top 58) 2
abbrev V7:Stmt:=x5 (top 58) 3
abbrev T4:Stmt:=x5 (top 58) 4
abbrev Q9:Stmt:=x5 (top 58) 5
abbrev L8:Stmt:=x5 (top 58) 8
abbrev R3:Stmt:=x5 (top 56) 0
abbrev P6:Stmt:=x5 (top 57) 5
abbrev N4:Stmt:=x5 (top 57) 6
abbrev R0:Stmt:=x5 (top 58) 6
abbrev O3:Stmt:=x5 (top 58) 7
abbrev X6:Stmt:=top 10
abbrev BN:Stmt:=top 9
abbrev X7:Stmt:=top 11
abbrev U5:Stmt:=top 12
abbrev Pz:Stmt:=top 13
abbrev Dh:Stmt:=top 14
abbrev X8:Stmt:=top 15
abbrev AC:Stmt:=top 16
abbrev Ig:Stmt:=top 18
abbrev M8:Stmt:=top 20
abbrev Bo:Stmt:=top 21
abbrev P1:Stmt:=top 22
abbrev Ax:Stmt:=top 24
abbrev DP:Stmt:=top 25
abbrev Aw:Stmt:=top 26
abbrev DV:Stmt:=top 27
abbrev LQ:Stmt:=top 28
abbrev Bn:Stmt:=top 29
abbrev Cp:Stmt:=top 30
abbrev DS:Stmt:=top 31
abbrev AB:Stmt:=top 33
abbrev J0:Stmt:=top 34
abbrev X9:Stmt:=top 35
abbrev Q8:Stmt:=top 36
abbrev Ih:Stmt:=top 38
abbrev BM:Stmt:=top 39
abbrev M9:Stmt:=top 40
abbrev Q7:Stmt:=top 41
abbrev Y0:Stmt:=top 42
abbrev Cs:Stmt:=top 60
abbrev Bl:Stmt:=top 61
abbrev Z4:Stmt:=top 62
abbrev DQ:Stmt:=top 63
abbrev Cr:Stmt:=top 64
abbrev Bk:Stmt:=top 65
abbrev Bm:Stmt:=top 66
abbrev Fu:Stmt:=top 67
abbrev Cq:Stmt:=top 68
abbrev Ct:Stmt:=top 69
abbrev Ay:Stmt:=top 70
abbrev L3:Stmt:=top 71
abbrev O5:Stmt:=top 72
abbrev J5:Stmt:=top 73
abbrev V6:Stmt:=top 74
abbrev Z3:Stmt:=top 75
abbrev DR:Stmt:=top 76
abbrev V5:Stmt:=top 77
abbrev R6:Stmt:=top 78
abbrev AA:Stmt:=top 79
abbrev Ae:Stmt:=top 80
abbrev P2:Stmt:=top 81
abbrev Az:Stmt:=top 82
abbrev K4:Stmt:=top 83
abbrev Py:Stmt:=top 84
def _root_.L2.K8.m{j k:Nat}{A:Around}(r:K8 k A)(h:j<=k:=by decide):K8 j A:=r.mono h
def w4{N P:List Str}{s:Scope}(a:s.kind=.function:=by rfl)(b:s.isCoroutine=false:=by rfl)(c:s.isGenerator=false:=by rfl)(d:N.Nodup:=by decide +kernel)(e:N.take P.length=P:=by rfl)(f:∀x∈P,s.names.lookup x=some .local\/s.names.lookup x=some .cell:=by decide +kernel)(g:∀y∈s.names,y.2≠.free:=by decide +kernel):g6 N P s:=⟨a,b,c,d,e,f,g⟩
def JH:g6 ["thing"] ["thing"] (b9 Cu):=w4
def Q6:g6 ["one","other","greatest","rest","left"] Mf (b9 DU):=w4
def Bh:g6 ["top","bottom","shared"] ["top","bottom"] (b9 Cw):=w4
def Bf:g6 ["number","factor"] ["number"] (b9 Cv):=w4
def BV:g6 ["self"] ["self"] (b9 O4):=w4
def DO:g6 ["self"] ["self"] (b9 T5):=w4
def De:g6 BZ BZ (b9 R1):=w4
def Cm:g6 BZ BZ (b9 P5):=w4
def Av:g6 Kh Kh (b9 L4):=w4
def Bi:g6 ["self","prime"] ["self","prime"] (b9 N3):=w4
def Ck:g6 ["self"] ["self"] (b9 P3):=w4
def EH:g6 ["self"] ["self"] (b9 V7):=w4
def DN:g6 BZ BZ (b9 T4):=w4
def Dc:g6 BZ BZ (b9 Q9):=w4
def AU:g6 Kh Kh (b9 L8):=w4
def Dg:g6 ["self"] ["self"] (b9 R3):=w4
def Cn:g6 CF CF (b9 P6):=w4
def Bj:g6 CF CF (b9 N4):=w4
def Dd:g6 CF CF (b9 R0):=w4
def B9:g6 ["self","x","product","square","left"] CF (b9 O3):=w4
def HX:g6 Qn Qn (b9 X6):=w4
def LO:g6 Ql Ql (b9 BN):=w4
def Ib:g6 Oo Oo (b9 X7):=w4
def GG:g6 ["table"] ["table"] (b9 U5):=w4
def Ft:g6 ["kind","row","column","total","x","y"] ["kind","row","column"] (b9 Pz):=w4
def Oc:g6 Qo Qo (b9 Dh):=w4
def Ic:g6 Qq Qq (b9 X8):=w4
def JI:g6 IB IB (b9 AC):=w4
def Px:g6 ["machine"] ["machine"] (b9 Ig):=w4
def Bd:g6 Mf Mf (b9 M8):=w4
def DM:g6 Vy Vt (b9 Bo):=w4
def Z0:g6 Vw IB (b9 P1):=w4
def GD:g6 ["kind"] ["kind"] (b9 Ax):=w4
def Fq:g6 ["kind","row","width","place"] ["kind","row","width"] (b9 DP):=w4
def JC:g6 IB IB (b9 Aw):=w4
def V4:g6 ["kind","kept","row","rest","place","other"] ["kind","kept","row"] (b9 DV):=w4
def Ia:g6 ["kind","kept","row","width","rest","place"] Vs (b9 LQ):=w4
def As:g6 ["kind","rows","width","kept","row"] ["kind","rows","width"] (b9 Bn):=w4
def JB:g6 ["rows"] ["rows"] (b9 Cp):=w4
def Au:g6 ["kind","rows","told","place","row"] ["kind","rows"] (b9 DS):=w4
def J3:g6 ["kind","first","grown","kept","told","last","fresh","pair"] ["kind","first","grown"] (b9 AB):=w4
def F7:g6 ["kind","machine","last","told","word","row"] ["kind","machine","last"] (b9 J0):=w4
def Ie:g6 Qm Qm (b9 X9):=w4
def S6:g6 SA ["kind","machine","kept"] (b9 Q8):=w4
def Nc:g6 ["kind","one","other","minus_ends"] IB (b9 Ih):=w4
def LN:g6 Qp Qp (b9 BM):=w4
def Bg:g6 Sv Sv (b9 M9):=w4
def X3:g6 Vx ["kind","both","rows"] (b9 Q7):=w4
def Da:g6 ["kind","one","other","both","found","parted"] IB (b9 Y0):=w4
def Et:g6 ["_law_state_here","_law_many","_law_found"] Vr (b9 Cs):=w4
def U3:g6 ["_law_script","_law_seed","_law_cell"] ["_law_script"] (b9 Bl):=w4
def Be:g6 Sw Sw (b9 Z4):=w4
def Fs:g6 ["_law_top","_law_bottom","_law_by"] ["_law_top","_law_bottom"] (b9 DQ):=w4
def JE:g6 Ki Ki (b9 Cr):=w4
def HY:g6 Ki Ki (b9 Bk):=w4
def HZ:g6 Sx Sx (b9 Bm):=w4
def Od:g6 Sy Sy (b9 Fu):=w4
def Es:g6 ["_law_state_here","_law_prime"] ["_law_state_here"] (b9 Cq):=w4
def JG:g6 ["_law_sort_here"] ["_law_sort_here"] (b9 Ct):=w4
def GE:g6 Sz Sz (b9 Ay):=w4
def J9:g6 d0k VE (b9 L3):=w4
def C2:g6 n7N VB (b9 O5):=w4
def D6:g6 n3N Vu (b9 J5):=w4
def B6:g6 n0N VD (b9 V6):=w4
def C8:g6 ["_law_state_here","_law_sort_here","_law_machine_here","_law_most","_law_k","_law_many","_law_i","_law_j"] VC (b9 Z3):=w4
def V3:g6 ["_law_sort_here","_law_row","_law_column","_law_total","_law_x","_law_y"] Vv (b9 DR):=w4
def JD:g6 Qr Qr (b9 V5):=w4
def P0:g6 ["_law_state_here","_law_size","_law_first","_law_far"] ["_law_state_here"] (b9 R6):=w4
def JF:g6 Qs Qs (b9 AA):=w4
def V2:g6 VG Vz (b9 Ae):=w4
def N5:g6 n9N VA (b9 P2):=w4
def C1:g6 ["_law_kind_here","_law_sort_here","_law_one","_law_other","_law_found","_law_wide","_law_many","_law_rows","_law_first","_law_steps","_law_row","_law_at","_law_by","_law_later"] VF (b9 Az):=w4
def y8:g6 d0h ["_law_told"] (b9 K4):=w4
def M7:g6 ["_law_script","_law_state_here","_law_sort_here","_law_kind_here","_law_letters_here","_law_many","_law_most","_law_machine_here","_law_one","_law_other","_law_found","_law_held"] ["_law_script"] (b9 Py):=w4
def sp_whole:Sp:=λvs H Q _=>∃i,vs=[.int i]/\Q (.bl true) H
def sp_divisor:Sp:=λvs H Q _=>∃a b,vs=[.int a,.int b]/\Q (.int (dv a b)) H
def sp_fraction:Sp:=λvs H Q _=>∃a b,vs=[.int a,.int b]/\b≠0/\∀v H',j0 H H'->Gx H' v (tp a b) (bt a b)->Q v H'
def sp_prime:Sp:=λvs H Q _=>∃n,vs=[.int n]/\(2<=n/\n<=1000000/\Jl n=true)/\Q (.bl true) H
def RH(C:Addr):Sp:=λvs H Q _=>∃x dx n,vs=[.ref x,.int n]/\(2<=n/\n<=1000000/\Jl n=true)/\H x=some (.ins C dx [])/\Q .non (upd H x (.ins C dx (LX n)))
set_option genInjectivity false in
set_option genSizeOfSpec false in
structure Rn where
 c_alike:Addr
 P_alike:Addr
 c_echelon:Addr
 P_echelon:Addr
 l0y:Addr
 k0e:FuncData
 m0v:Addr
 k0u:FuncData
 m0e:Addr
 j0x:FuncData
 m0p:Addr
 k0h:FuncData
 g0m:Addr
 f0l:FuncData
 h0b:Addr
 g0r:FuncData
 g0y:Addr
 g0n:FuncData
 g0s:Addr
 g0c:FuncData
 f0d:Addr
 e0w:FuncData
 f0w:Addr
 f0c:FuncData
 g0u:Addr
 f0y:FuncData
 h0v:Addr
 g0v:FuncData
 h0l:Addr
 g0o:FuncData
 g0z:Addr
 g0j:FuncData
 f0o:Addr
 f0a:FuncData
 h0a:Addr
 g0k:FuncData
 g0q:Addr
 g0a:FuncData
 f0x:Addr
 f0g:FuncData
 g0x:Addr
 g0h:FuncData
 g0i:Addr
 f0n:FuncData
 k0r:Addr
 j0b:FuncData
 m0t:Addr
 l0k:FuncData
 l0n:Addr
 i0h:FuncData
 k0q:Addr
 h0x:FuncData
 dot:Addr
 n0n:FuncData
 n0i:Addr
 l0w:FuncData
 k0z:Addr
 i0r:FuncData
 m0h:Addr
 j0l:FuncData
 n0o:Addr
 m0r:FuncData
 g0b:Addr
 f0h:FuncData
 n0h:Addr
 m0f:FuncData
 k0a:Addr
 h0r:FuncData
 j0c:Addr
 h0u:FuncData
 n0e:Addr
 k0t:FuncData
 m0n:Addr
 j0q:FuncData
 m0y:Addr
 l0j:FuncData
 keep:Addr
 n0k:FuncData
 k0y:Addr
 i0o:FuncData
 m0a:Addr
 k0l:FuncData
 echelon:Addr
 l0d:FuncData
 k0i:Addr
 h0z:FuncData
 f0m:Addr
 e0y:FuncData
 l0f:Addr
 i0j:FuncData
 m0k:Addr
 j0u:FuncData
 n0r:Addr
 d_less:FuncData
 m0w:Addr
 l0a:FuncData
 f0v:Addr
 f0i:FuncData
 m0d:Addr
 j0h:FuncData
 alike:Addr
 n0d:FuncData
 l0u:Addr
 j0s:FuncData
 l0c:Addr
 i0g:FuncData
 i0e:Addr
 h0m:FuncData
 n0c:Addr
 l0r:FuncData
 m0m:Addr
 j0g:FuncData
 l0l:Addr
 i0p:FuncData
 l0e:Addr
 i0c:FuncData
 n0f:Addr
 m0o:FuncData
 l0z:Addr
 j0n:FuncData
 m0c:Addr
 j0z:FuncData
 j0f:Addr
 h0w:FuncData
 i0x:Addr
 h0f:FuncData
 l0i:Addr
 i0k:FuncData
 i0i:Addr
 h0e:FuncData
 m0j:Addr
 j0v:FuncData
 i0v:Addr
 h0d:FuncData
 m0u:Addr
 l0h:FuncData
 l0v:Addr
 j0y:FuncData
 i0q:Addr
 h0j:FuncData
 l0x:Addr
 j0e:FuncData
 m0z:Addr
 l0b:FuncData
 k0j:Addr
 h0q:FuncData
 j0m:Addr
 i0a:FuncData
 g0f:Addr
 f0s:FuncData
 law:Addr
 n0m:FuncData
 k0x:Addr
 l0t:Addr
 n0q:Addr
def B4{X:Cx}{e0:Expr}{t0:TE}(h0:PE X e0 t0)(s0:starEach [e0] X.env=(false,eval e0 X.env)::starEach [] X.env:=by rfl):PA X [e0] (AN t0 tNil):=(D8 h0 K5 s0)
def F6{X:Cx}{e0:Expr}{t0:TE}{e1:Expr}{t1:TE}(h0:PE X e0 t0)(h1:PE X e1 t1)(s0:starEach [e0,e1] X.env=(false,eval e0 X.env)::starEach [e1] X.env:=by rfl)(s1:starEach [e1] X.env=(false,eval e1 X.env)::starEach [] X.env:=by rfl):PA X [e0,e1] (AN t0 (AN t1 tNil)):=(D8 h0 (D8 h1 K5 s1) s0)
def X1{X:Cx}{e0:Expr}{t0:TE}{e1:Expr}{t1:TE}{e2:Expr}{t2:TE}(h0:PE X e0 t0)(h1:PE X e1 t1)(h2:PE X e2 t2)(s0:starEach [e0,e1,e2] X.env=(false,eval e0 X.env)::starEach [e1,e2] X.env:=by rfl)(s1:starEach [e1,e2] X.env=(false,eval e1 X.env)::starEach [e2] X.env:=by rfl)(s2:starEach [e2] X.env=(false,eval e2 X.env)::starEach [] X.env:=by rfl):PA X [e0,e1,e2] (AN t0 (AN t1 (AN t2 tNil))):=(D8 h0 (D8 h1 (D8 h2 K5 s2) s1) s0)
def Ew{X:Cx}{e0:Expr}{t0:TE}{e1:Expr}{t1:TE}{e2:Expr}{t2:TE}{e3:Expr}{t3:TE}(h0:PE X e0 t0)(h1:PE X e1 t1)(h2:PE X e2 t2)(h3:PE X e3 t3)(s0:starEach [e0,e1,e2,e3] X.env=(false,eval e0 X.env)::starEach [e1,e2,e3] X.env:=by rfl)(s1:starEach [e1,e2,e3] X.env=(false,eval e1 X.env)::starEach [e2,e3] X.env:=by rfl)(s2:starEach [e2,e3] X.env=(false,eval e2 X.env)::starEach [e3] X.env:=by rfl)(s3:starEach [e3] X.env=(false,eval e3 X.env)::starEach [] X.env:=by rfl):PA X [e0,e1,e2,e3] (AN t0 (AN t1 (AN t2 (AN t3 tNil)))):=(D8 h0 (D8 h1 (D8 h2 (D8 h3 K5 s3) s2) s1) s0)
structure Df(K:aa)(mg:Str->Option Value)(n:Str)(s:Stmt)(ps:List Str)(a:Addr)(d:FuncData):Prop where
 F:Ll K n n s a d
 b:K9 K d ps []
 m:mg n=some (.ref a)
structure Dm(K:aa)(C:Addr)(n q:Str)(s:Stmt)(ps:List Str)(a:Addr)(d:FuncData):Prop where
 F:Ll K n q s a d
 b:K9 K d ps []
 t:Er K C n a
def E6{X:Cx}{x:Str}{p pos:Pos}{k:Nat}{f:Addr}{fd:FuncData}{ps:List Str}{sp:Sp}{s:Stmt}{e:Expr}{es:List Expr}{t:TA}(F:x8 X.prog X.w X.K X.mg X.base F9 k f fd ps sp)(hr:K8 k X.A)(D:Df X.K X.mg x s ps f fd)(ha:PA X (e::es) t)(hg:Gl X x:=by rfl)(hdb:(x==("__debug__":Str))=false:=by decide)(he:starEach (e::es) X.env=(false,eval e X.env)::starEach es X.env:=by rfl)(hpl:(backTo pos (starEach es X.env)).any (·.1)=false:=by rfl):PE X (.Call (.Name x p) (e::es) [] pos) (Tv sp [] E0 t):=C3 F hr hg D.m D.F.kp D.b .nil C4 ha hdb he hpl
structure Txt(K:aa)(mg:Str->Option Value)(t:Rn):Prop where
 k0m:Df K mg "is_whole" Cu ["thing"] t.l0y t.k0e
 l0g:Df K mg "divisor" DU Mf t.m0v t.k0u
 j0i:Df K mg "fraction" Cw ["top","bottom"] t.m0e t.j0x
 j0j:Df K mg "is_prime" Cv ["number"] t.m0p t.k0h
 f0q:Dm K t.k0x "nought" "Fractions.nought" O4 ["self"] t.g0m t.f0l
 g0t:Dm K t.k0x "one" "Fractions.one" T5 ["self"] t.h0b t.g0r
 g0g:Dm K t.k0x "plus" "Fractions.plus" R1 BZ t.g0y t.g0n
 f0t:Dm K t.k0x "times" "Fractions.times" P5 BZ t.g0s t.g0c
 e0x:Dm K t.k0x "is_weight" "Fractions.is_weight" L4 Kh t.f0d t.e0w
 f0e:Dm K t.l0t "__init__" "Residues.__init__" N3 ["self","prime"] t.f0w t.f0c
 f0u:Dm K t.l0t "nought" "Residues.nought" P3 ["self"] t.g0u t.f0y
 g0w:Dm K t.l0t "one" "Residues.one" V7 ["self"] t.h0v t.g0v
 g0p:Dm K t.l0t "plus" "Residues.plus" T4 BZ t.h0l t.g0o
 g0l:Dm K t.l0t "times" "Residues.times" Q9 BZ t.g0z t.g0j
 f0b:Dm K t.l0t "is_weight" "Residues.is_weight" L8 Kh t.f0o t.f0a
 g0d:Dm K t.n0q "is_field" "Field.is_field" R3 ["self"] t.h0a t.g0k
 f0z:Dm K t.k0x "minus" "Fractions.minus" P6 CF t.g0q t.g0a
 f0j:Dm K t.k0x "inverse" "Fractions.inverse" N4 CF t.f0x t.f0g
 g0e:Dm K t.l0t "minus" "Residues.minus" R0 CF t.g0x t.g0h
 f0p:Dm K t.l0t "inverse" "Residues.inverse" O3 CF t.g0i t.f0n
 i0l:Df K mg "times_row" X6 Qn t.k0r t.j0b
 k0v:Df K mg "noughts" BN Ql t.m0t t.l0k
 i0f:Df K mg "column_at" X7 Oo t.l0n t.i0h
 h0n:Df K mg "columns_of" U5 ["table"] t.k0q t.h0x
 n0p:Df K mg "dot" Pz ["kind","row","column"] t.dot t.n0n
 m0i:Df K mg "row_by" Dh Qo t.n0i t.l0w
 i0t:Df K mg "by_column" X8 Qq t.k0z t.i0r
 j0w:Df K mg "by_table" AC IB t.m0h t.j0l
 n0a:Df K mg "rooms" Ig ["machine"] t.n0o t.m0r
 f0f:Df K mg "need_same_letters" M8 Mf t.g0b t.f0h
 m0b:Df K mg "beside" Bo Vt t.n0h t.m0f
 h0o:Df K mg "put_beside" P1 IB t.k0a t.h0r
 h0p:Df K mg "need_field" Ax ["kind"] t.j0c t.h0u
 l0s:Df K mg "leading" DP ["kind","row","width"] t.n0e t.k0t
 k0c:Df K mg "plus_row" Aw IB t.m0n t.j0q
 l0o:Df K mg "cleared" DV ["kind","kept","row"] t.m0y t.l0j
 n0g:Df K mg "keep" LQ Vs t.keep t.n0k
 i0n:Df K mg "kept_rows" Bn ["kind","rows","width"] t.k0y t.i0o
 j0r:Df K mg "width_of" Cp ["rows"] t.m0a t.k0l
 k0w:Df K mg "echelon" DS ["kind","rows"] t.echelon t.l0d
 h0t:Df K mg "free_words" AB ["kind","first","grown"] t.k0i t.h0z
 e0z:Df K mg "with_letter_behind" J0 ["kind","machine","last"] t.f0m t.e0y
 i0z:Df K mg "at_places" X9 Qm t.l0f t.i0j
 j0o:Df K mg "narrowed" Q8 ["kind","machine","kept"] t.m0k t.j0u
 n0j:Df K mg "less" Ih IB t.n0r t.d_less
 l0m:Df K mg "parting" BM Qp t.m0w t.l0a
 f0k:Df K mg "grown_while_alike" M9 Sv t.f0v t.f0i
 j0k:Df K mg "walkable" Q7 ["kind","both","rows"] t.m0d t.j0h
 m0x:Df K mg "alike" Y0 IB t.alike t.n0d
 k0b:Df K mg "_law_next" Cs Vr t.l0u t.j0s
 i0u:Df K mg "_law_state" Bl ["_law_script"] t.l0c t.i0g
 h0c:Df K mg "_law_divisor" Z4 Sw t.i0e t.h0m
 l0q:Df K mg "_law_low" DQ ["_law_top","_law_bottom"] t.n0c t.l0r
 k0d:Df K mg "_law_plus" Cr Ki t.m0m t.j0g
 i0s:Df K mg "_law_times" Bk Ki t.l0l t.i0p
 i0y:Df K mg "_law_minus" Bm Sx t.l0e t.i0c
 m0l:Df K mg "_law_of" Fu Sy t.n0f t.m0o
 k0n:Df K mg "_law_sort" Cq ["_law_state_here"] t.l0z t.j0n
 j0p:Df K mg "_law_kind" Ct ["_law_sort_here"] t.m0c t.j0z
 i0b:Df K mg "_law_weight" Ay Sz t.j0f t.h0w
 h0k:Df K mg "_law_machine" L3 VE t.i0x t.h0f
 i0d:Df K mg "_law_moved" O5 VB t.l0i t.i0k
 h0i:Df K mg "_law_swapped" J5 Vu t.i0i t.h0e
 k0f:Df K mg "_law_more" V6 VD t.m0j t.j0v
 h0h:Df K mg "_law_dressed" Z3 VC t.i0v t.h0d
 l0p:Df K mg "_law_dot" DR Vv t.m0u t.l0h
 k0k:Df K mg "_law_step" V5 Qr t.l0v t.j0y
 h0g:Df K mg "_law_letters" R6 ["_law_state_here"] t.i0q t.h0j
 k0p:Df K mg "_law_line" AA Qs t.l0x t.j0e
 k0s:Df K mg "_law_sum" Ae Vz t.m0z t.l0b
 h0s:Df K mg "_law_formed" P2 VA t.k0j t.h0q
 h0y:Df K mg "_law_walked" Az VF t.j0m t.i0a
 f0r:Df K mg "_law_each_its_own" K4 ["_law_told"] t.g0f t.f0s
 n0l:Df K mg "law" Py ["_law_script"] t.law t.n0m
 j0a:MR K t.k0x
 i0m:mg "Fractions"=some (.ref t.k0x)
 i0w:MkO K t.k0x
 k0g:MR K t.l0t
 j0t:mg "Residues"=some (.ref t.l0t)
 k0o:Mk K t.l0t t.f0w
 m0s:MR K t.n0q
 n0b:mg "Field"=some (.ref t.n0q)
 m0q:MkO K t.n0q
 z_isinstance:mg "isinstance"=none
 z_int:mg "int"=none
 z_bool:mg "bool"=none
 z_abs:mg "abs"=none
 z_tuple:mg "tuple"=none
 z_len:mg "len"=none
 c_GREATEST_PRIME:∃tk,mg "GREATEST_PRIME"=some (Value.int 1000000 tk)
 z_range:mg "range"=none
 z_zip:mg "zip"=none
 z_reversed:mg "reversed"=none
 z_sorted:mg "sorted"=none
 z_list:mg "list"=none
 z_all:mg "all"=none
 k_ii:PySem.W.kitOne K (.type "int") (.type "int")=some true
 k_ib:PySem.W.kitOne K (.type "int") (.type "bool")=some false
 k_tt:PySem.W.kitOne K (.type "tuple") (.type "tuple")=some true
 k_bb:PySem.W.kitOne K (.type "bool") (.type "bool")=some true
 nP:CQ K t.l0t "prime"
 iF_is_field:PySem.W.findIn K (.ref t.k0x) "is_field"=some (some (.ref t.h0a))
 iR_is_field:PySem.W.findIn K (.ref t.l0t) "is_field"=some (some (.ref t.h0a))
 k_ll:PySem.W.kitOne K (.type "list") (.type "list")=some true
 d_tabs:([t.P_echelon,t.P_alike]:List Addr).Nodup
 k_ss:PySem.W.kitOne K (.type "str") (.type "str")=some true
 tb_echelon:PySem.W.tabIn K "echelon"=some (t.c_echelon,t.P_echelon)
 j0d:PySem.W.nsIn K mainGlobals "echelon"=some (some (.ref t.echelon))
 tb_alike:PySem.W.tabIn K "alike"=some (t.c_alike,t.P_alike)
 m0g:PySem.W.nsIn K mainGlobals "alike"=some (some (.ref t.alike))
structure TbA(mg:Str->Option Value)(base:Heap)(t:Rn):Prop where
 echelon:Tb mg base t.c_echelon t.P_echelon
 alike:Tb mg base t.c_alike t.P_alike
def FT{K:aa}{a:Addr}{xs:List V}{u:V}{i:Nat}{G:Hp}{M:V->Hp->Prop}(h:o9 K G a xs)(e:xs[i]?=some u)(m:M u G):(Ud K a).go i G/\∀x H',(Ud K a).yld i G x H'->M x H':=⟨za ⟨h,e⟩,λx H' y=>by
 obtain⟨rfl,y⟩:=y;have:=y _ h;rw[e]at this;cases this;exact m⟩
def Dy{K:aa}{a:Addr}{xs:List V}{u:V}{i:Nat}{G:Hp}{M:V->Hp->Prop}(h:o7 K G a xs)(e:xs[i]?=some u)(m:M u G):(Ug K a).go i G/\∀x H',(Ug K a).yld i G x H'->M x H':=⟨za ⟨h,e⟩,λx H' y=>by
 obtain⟨rfl,y⟩:=y;have:=y _ h;rw[e]at this;cases this;exact m⟩
def He{lo:Int}{n i:Nat}{G:Hp}{M:V->Hp->Prop}(h:i<n)(m:M (.int (lo+i)) G):(Ue lo n).go i G/\∀x H',(Ue lo n).yld i G x H'->M x H':=⟨h,λx H' y=>by
 obtain⟨rfl,rfl⟩:=y;exact m⟩
seal L2.MP L2.PS L2.PE L2.PT L2.PW L2.PA L2.PG L2.e0p L2.PI
local macro_rules | `(tactic| fail)=>`(tactic| (first | apply Exists.intro | refine And.intro rfl ?_ | refine And.intro (by with_reducible assumption) ?_ | refine And.intro (o9.of (by assumption)) ?_ | refine And.intro (o7.of (by assumption)) ?_ | refine And.intro (X0.int _) ?_ | refine And.intro (X0.tup (by assumption)) ?_ | refine And.intro (‹Txt _ _ _›.k_ii) ?_ | refine And.intro (‹Txt _ _ _›.k_ib) ?_ | refine And.intro (‹Txt _ _ _›.k_tt) ?_ | refine And.intro (‹Txt _ _ _›.k_bb) ?_ | refine And.intro (‹Txt _ _ _›.nP) ?_ | refine And.intro (‹Txt _ _ _›.iF_is_field) ?_ | refine And.intro (‹Txt _ _ _›.iR_is_field) ?_ | refine And.intro (‹Txt _ _ _›.k_ll) ?_ | refine And.intro (‹Txt _ _ _›.d_tabs) ?_ | refine And.intro (‹Txt _ _ _›.k_ss) ?_))
section
variable{w:World}{K:aa}{mg:Str->Option Value}{base:Heap}{t:Rn}
def O7(T:Txt K mg t):x8 Pr w K mg base F9 1 t.l0y t.k0e ["thing"] sp_whole:=by
 refine T.k0m.F.ok JH (by rintro _ _ _ _ ⟨_,rfl,_⟩;rfl) λcdv A outer s H vs Q E hr h=>?_;obtain⟨i,rfl,k⟩:=h;refine⟨_,(c6 (c8 (Io (l5 N7 (by rfl) T.z_isinstance boot_isinstance (F6 (pv 0) (R9 (v:=.ty "int") rfl T.z_int boot_int rfl))) (Il (PZ (l5 N7 (by rfl) T.z_isinstance boot_isinstance (F6 (pv 0) (R9 (v:=.ty "bool") rfl T.z_bool boot_bool rfl)))))))),?_⟩
 (repeat fail)
 (try refine Hd ?_)
 (repeat fail)
 exact k
def FH(T:Txt K mg t):x8 Pr w K mg base F9 1 t.m0v t.k0u Mf sp_divisor:=by
 refine T.l0g.F.ok Q6 (by rintro _ _ _ _ ⟨_,_,rfl,_⟩;rfl) λcdv A outer s H vs Q E hr h=>?_;obtain⟨a,b,rfl,k⟩:=h;refine⟨_,(a8 (sT 2 Q6.nd (l5 Gn (by rfl) T.z_abs boot_abs (B4 (pv 0)))) (a8 (sT 3 Q6.nd (l5 Gn (by rfl) T.z_abs boot_abs (B4 (pv 1)))) (a8 (Bq aB (o8 Cg (pv 3) c5 (w6 _)) (a8 (sT 4 Q6.nd (o6 F2 (pv 2) (pv 3))) (a8 (sT 2 Q6.nd (pv 3)) (c6 (sT 3 Q6.nd (pv 4)))))) (c6 (c8 (pv 2)))))),?_⟩;refine⟨_,rfl,_,rfl,_,rfl,_,rfl,?_⟩;refine⟨λm σ H'=>∃g r l,σ=[some (.int a),some (.int b),some (.int g),some (.int r),l]/\m=r.toNat/\(0<=g/\0<=r/\dv g r=dv a b)/\H'=H,zg ⟨rfl,rfl,Ux a b,rfl⟩,?_⟩;rintro m σ H' ⟨g,r,l,rfl,rfl,⟨g0,r0,e⟩,rfl⟩
 (repeat fail)
 refine Cd (λhr0=>?_) (λhr0=>?_)
 . refine⟨λσ' H''=>∃g' r' l',σ'=[some (.int a),some (.int b),some (.int g'),some (.int r'),l']/\r'.toNat < r.toNat/\(0<=g'/\0<=r'/\dv g' r'=dv a b)/\H''=H',λσ' H'' ⟨g',r',l',e1,e2,e3,e4⟩=>⟨_,e2,g',r',l',e1,rfl,e3,e4⟩,?_⟩;refine⟨_,rfl,_,rfl,za ⟨rfl,rfl,(show r≠0 by omega),_,rfl,_,rfl,?_⟩⟩;exact zf ⟨rfl,d_less hr0,Wj e hr0,rfl⟩
 . refine⟨_,rfl,?_⟩
   (try dsimp only)
   rw[e0e e g0 r0 hr0];exact k
def Nx{a b:Int}(pb:0 < b):a.fdiv (dv a b)=tp a b/\b.fdiv (dv a b)=bt a b:=by
 unfold tp bt;rw[Pu oM];exact⟨rfl,rfl⟩
def QT{a b:Int}(nb:b < 0):a.fdiv (-(dv a b))=tp a b/\b.fdiv (-(dv a b))=bt a b:=by
 unfold tp bt;rw[Pw nb];exact⟨rfl,rfl⟩
def Bw(T:Txt K mg t):x8 Pr w K mg base F9 36 t.m0e t.j0x ["top","bottom"] sp_fraction:=by
 refine T.j0i.F.ok Bh (by rintro _ _ _ _ ⟨_,_,rfl,_⟩;rfl) λcdv A outer s H vs Q E hr h=>?_;obtain⟨a,b,rfl,nb,k⟩:=h;have hd:dv a b≠0:=cJ (Gf nb);refine⟨_,(a8 (B0 (PW.pt (Ag (E4 (D2 (E6 (O7 T) hr.m T.k0m (B4 (pv 0))))) (V9 (E4 (D2 (E6 (O7 T) hr.m T.k0m (B4 (pv 1)))))))) (c6 Ah) o5) (a8 (B0 (o8 M5 (pv 1) c5 (w6 _)) (c6 Ah) o5) (a8 (sT 2 Bh.nd (E6 (FH T) hr.m T.l0g (F6 (pv 0) (pv 1)))) (a8 (B0 (o8 Ni (pv 1) c5 (w6 _)) (c6 (sT 2 Bh.nd (PX Ln (pv 2)))) o5) (c6 (c8 (E5 (F6 (o6 (Dl hr (by decide) MU) (pv 0) (pv 2)) (o6 (Dl hr (by decide) MU) (pv 1) (pv 2)))))))))),?_⟩
 (repeat fail)
 (try refine L7 ?_)
 (repeat fail)
 (try refine L7 ?_)
 (repeat fail)
 refine Dx (λh0=>absurd h0 nb) (λ_=>?_)
 (repeat fail)
 refine Cd (λh0=>?_) (λh0=>?_)
 . have hd':-(dv a b)≠0:=by omega
   (repeat fail)
   refine⟨(by show 2<=sizeLine;decide),λp hp=>?_⟩;refine k _ _ (c7 hp) ?_
   (try dsimp only)
   rw[(QT h0).1,(QT h0).2];exact Gx.new
 . (repeat fail)
   refine⟨(by show 2<=sizeLine;decide),λp hp=>?_⟩;refine k _ _ (c7 hp) ?_
   (try dsimp only)
   rw[(Nx oM).1,(Nx oM).2];exact Gx.new
def Ke(T:Txt K mg t):x8 Pr w K mg base F9 1 t.m0p t.k0h ["number"] sp_prime:=by
 refine T.j0j.F.ok Bf (by rintro _ _ _ _ ⟨_,rfl,_⟩;rfl) λcdv A outer s H vs Q E hr h=>?_;obtain⟨n,rfl,⟨n2,n6,hp⟩,k⟩:=h;have PP:=Ky hp;refine⟨_,(a8 (B0 (o8 Ni (pv 0) c5 (w6 _)) (c6 (c8 F4)) o5) (a8 (sT 1 Bf.nd c5) (a8 (Bq aB (o8 TJ (o6 Ed (pv 1) (pv 1)) (pv 0) (w6 _)) (a8 (B0 (o8 M5 (o6 F2 (pv 0) (pv 1)) c5 (w6 _)) (c6 (c8 F4)) o5) (c6 (sT 1 Bf.nd (o6 L5 (pv 1) c5))))) (c6 (c8 F4))))),?_⟩;refine⟨_,rfl,za ⟨rfl,rfl,_,rfl,?_⟩⟩;refine Cd (λh0=>absurd h0 oM) (λ_=>?_);refine⟨λm σ H'=>∃f:Int,σ=[some (.int n),some (.int f)]/\m=(n+2 - f).toNat/\(2<=f/\f<=n+1)/\H'=H,za ⟨rfl,rfl,⟨oM,oM⟩,rfl⟩,?_⟩;rintro m σ H' ⟨f,rfl,rfl,⟨f2,fn⟩,rfl⟩;have cm:OP f f:=.inl ⟨oM,oM⟩;refine⟨_,rfl,_,rfl,za ⟨rfl,rfl,cm,_,rfl,za ⟨rfl,rfl,_,rfl,?_⟩⟩⟩;refine Cd (λh0=>?_) (λh0=>?_)
 . refine⟨λσ' H''=>∃f':Int,σ'=[some (.int n),some (.int f')]/\(n+2 - f').toNat < (n+2 - f).toNat/\(2<=f'/\f'<=n+1)/\H''=H',λσ' H'' ⟨f',e1,e2,e3,e4⟩=>⟨_,e2,f',e1,rfl,e3,e4⟩,?_⟩;refine⟨_,rfl,_,rfl,za ⟨rfl,rfl,(show f≠0 by omega),rfl,_,rfl,?_⟩⟩;have hs:=WR f2 h0;refine Dx (λh1=>absurd h1 (PP.2 f f2 h0)) (λ_=>?_);refine⟨_,rfl,za ⟨rfl,rfl,?_⟩⟩;exact⟨_,rfl,oM,⟨oM,oM⟩,rfl⟩
 . exact k
def Bx(T:Txt K mg t):x8 Pr w K mg base F9 2 t.f0w t.f0c ["self","prime"] (RH t.l0t):=by
 refine T.f0e.F.ok Bi (by rintro _ _ _ _ ⟨_,_,_,rfl,_⟩;rfl) λcdv A outer s H vs Q E hr h=>?_;obtain⟨x,dx,n,rfl,hn,hx,k⟩:=h;refine⟨_,(a8 (B0 (PW.pt (Ag (E4 (D2 (E6 (O7 T) hr.m T.k0m (B4 (pv 1))))) (Ag (o8 Cg (pv 1) (Si (v:=.int 1000000) rfl T.c_GREATEST_PRIME.choose_spec ⟨_,rfl⟩) (w6 _)) (V9 (E4 (D2 (E6 (Ke T) hr.m T.j0j (B4 (pv 1))))))))) (c6 Ah) o5) (c6 (Va (pv 0) (pv 1) rfl))),?_⟩;refine⟨_,rfl,_,rfl,_,rfl,?_⟩
 (try refine L7 ?_)
 refine⟨_,rfl,za ⟨rfl,rfl,_,rfl,?_⟩⟩;refine Cd (λh0=>absurd h0 (by have:=hn.2.1;omega)) (λ_=>?_);refine⟨_,rfl,_,rfl,hn,_,rfl,?_⟩
 (try refine L7 ?_)
 refine⟨_,rfl,_,rfl,x,_,dx,_,rfl,hx,T.k0g,T.nP,(by show 0 < 1000;decide),?_⟩;exact k
def HV{n:Nat}(h:AM Hh n):n<=60000000:=by
 rcases h with h | h
 . exact h
 . have:=h 0 (⟨2,1,by decide,by unfold dv;decide⟩:Fr);exact absurd this.1 (by decide)
def BY(T:Txt K mg t):x8 Pr w K mg base F9 1 t.g0m t.f0l ["self"] (Ht t.k0x [] Hh Kz Fr.zero):=by
 refine T.f0q.F.ok BV (by rintro _ _ _ _ ⟨_,rfl,_⟩;rfl) λcdv A outer s H vs Q E hr h=>?_;obtain⟨x,rfl,_,k⟩:=h;refine⟨_,(c6 (c8 (E5 (F6 c5 c5)))),?_⟩;exact⟨(by show 2<=sizeLine;decide),λp hp=>k _ _ (c7 hp) Gx.new⟩
def Dq(T:Txt K mg t):x8 Pr w K mg base F9 38 t.g0y t.g0n BZ (Hu t.k0x [] Hh Kz Fr.add):=by
 refine T.g0g.F.ok De (by rintro _ _ _ _ ⟨_,_,_,_,_,_,_,rfl,_⟩;rfl) λcdv A outer s H vs Q E hr h=>?_;obtain⟨k0,x,y,a,b,m,n,rfl,⟨_,⟨px,rfl,hx⟩,⟨py,rfl,hy⟩,sa,sb,hmn⟩,k⟩:=h;have sa:a.sz m:=sa;have sb:b.sz n:=sb;have hmn:=HV hmn;have m1:EG a.t b.b:=GT (n:=n) sa.1 sb.2 oM;have m2:EG b.t a.b:=GT (n:=m) sb.1 sa.2 oM;have m3:EG a.b b.b:=GT (n:=n) sa.2 sb.2 oM;refine⟨_,(c6 (c8 (E6 (Bw T) hr.m T.j0i (F6 (o6 L5 (o6 S3 (j5 i0 (pv 1) c5 (λ_ _=>rfl)) (j5 i0 (pv 2) c5 (λ_ _=>rfl))) (o6 S3 (j5 i0 (pv 2) c5 (λ_ _=>rfl)) (j5 i0 (pv 1) c5 (λ_ _=>rfl)))) (o6 S3 (j5 i0 (pv 1) c5 (λ_ _=>rfl)) (j5 i0 (pv 2) c5 (λ_ _=>rfl))))))),?_⟩
 (repeat fail)
 exact⟨cJ (aL a.p b.p),k⟩
def CC(T:Txt K mg t):x8 Pr w K mg base F9 38 t.g0s t.g0c BZ (Hu t.k0x [] Hh Kz Fr.mul):=by
 refine T.f0t.F.ok Cm (by rintro _ _ _ _ ⟨_,_,_,_,_,_,_,rfl,_⟩;rfl) λcdv A outer s H vs Q E hr h=>?_;obtain⟨k0,x,y,a,b,m,n,rfl,⟨_,⟨px,rfl,hx⟩,⟨py,rfl,hy⟩,sa,sb,hmn⟩,k⟩:=h;have sa:a.sz m:=sa;have sb:b.sz n:=sb;have hmn:=HV hmn;have m1:EG a.t b.t:=GT (n:=n) sa.1 sb.1 oM;have m3:EG a.b b.b:=GT (n:=n) sa.2 sb.2 oM;refine⟨_,(c6 (c8 (E6 (Bw T) hr.m T.j0i (F6 (o6 S3 (j5 i0 (pv 1) c5 (λ_ _=>rfl)) (j5 i0 (pv 2) c5 (λ_ _=>rfl))) (o6 S3 (j5 i0 (pv 1) c5 (λ_ _=>rfl)) (j5 i0 (pv 2) c5 (λ_ _=>rfl))))))),?_⟩
 (repeat fail)
 exact⟨cJ (aL a.p b.p),k⟩
def CB(T:Txt K mg t)(p:Int)(hp:2<=p):x8 Pr w K mg base F9 1 t.g0u t.f0y ["self"] (Ht t.l0t (LX p) (Y3 p hp) (Kx p) (Y3 p hp).zero):=by
 refine T.f0u.F.ok Ck (by rintro _ _ _ _ ⟨_,rfl,_⟩;rfl) λcdv A outer s H vs Q E hr h=>?_;obtain⟨x,rfl,_,k⟩:=h;refine⟨_,(c6 (c8 c5)),?_⟩;exact k _ _ (j0.refl _) rfl
def Ee(T:Txt K mg t)(p:Int)(hp:2<=p):x8 Pr w K mg base F9 1 t.h0l t.g0o BZ (Hu t.l0t (LX p) (Y3 p hp) (Kx p) (Y3 p hp).add):=by
 refine T.g0p.F.ok DN (by rintro _ _ _ _ ⟨_,_,_,_,_,_,_,rfl,_⟩;rfl) λcdv A outer s H vs Q E hr h=>?_;obtain⟨k0,x,y,a,b,m,n,rfl,⟨⟨q,dx,rfl,hq⟩,rfl,rfl,sa,sb,hmn⟩,k⟩:=h;refine⟨_,(c6 (c8 (o6 F2 (o6 L5 (pv 1) (pv 2)) (Fz (pv 0) rfl)))),?_⟩;refine⟨_,rfl,_,rfl,za ⟨rfl,rfl,_,rfl,q,_,dx,za ⟨rfl,hq,T.k0g,T.nP,Ai p,za ⟨rfl,rfl,(show p≠0 by omega),?_⟩⟩⟩⟩;exact k _ _ (j0.refl _) rfl
def P8(T:Txt K mg t)(p:Int)(hp:2<=p)(hq:p<=1000000):x8 Pr w K mg base F9 1 t.g0z t.g0j BZ (Hu t.l0t (LX p) (Y3 p hp) (Kx p) (Y3 p hp).mul):=by
 refine T.g0l.F.ok Dc (by rintro _ _ _ _ ⟨_,_,_,_,_,_,_,rfl,_⟩;rfl) λcdv A outer s H vs Q E hr h=>?_;obtain⟨k0,x,y,a,b,m,n,rfl,⟨⟨q,dx,rfl,hk⟩,rfl,rfl,sa,sb,hmn⟩,k⟩:=h;have cm:OP a.x b.x:=.inl ⟨by have:=a.h0;omega,by have:=a.h1;omega⟩;refine⟨_,(c6 (c8 (o6 F2 (o6 Ed (pv 1) (pv 2)) (Fz (pv 0) rfl)))),?_⟩;refine⟨_,rfl,_,rfl,za ⟨rfl,rfl,cm,_,rfl,q,_,dx,za ⟨rfl,hk,T.k0g,T.nP,Ai p,za ⟨rfl,rfl,(show p≠0 by omega),?_⟩⟩⟩⟩;exact k _ _ (j0.refl _) rfl
def AF(T:Txt K mg t):x8 Pr w K mg base F9 2 t.f0d t.e0w Kh (Pp t.k0x [] Hh Kz):=by
 refine T.e0x.F.ok Av (by rintro _ _ _ _ ⟨_,_,_,rfl,_⟩;rfl) λcdv A outer s H vs Q E hr h=>?_;obtain⟨k0,x,a,rfl,⟨_,⟨px,rfl,hx⟩⟩,k⟩:=h;have hl:X2 K (.ref px) H 2:=.inr ⟨_,o9.of hx,rfl⟩;refine⟨_,(a8 (B0 (PW.pt (Ag (E4 (D2 (l5 N7 (by rfl) T.z_isinstance boot_isinstance (F6 (pv 1) (R9 (v:=.ty "tuple") rfl T.z_tuple boot_tuple rfl))))) (V9 (o8 Dk (l5 w8 (by rfl) T.z_len PySem.boot_len (B4 (pv 1))) c5 (w6 _))))) (c6 (c8 F4)) o5) (a8 (B0 (PW.pt (Ag (E4 (D2 (E6 (O7 T) hr.m T.k0m (B4 (j5 i0 (pv 1) c5 (λ_ _=>rfl)))))) (V9 (E4 (D2 (E6 (O7 T) hr.m T.k0m (B4 (j5 i0 (pv 1) c5 (λ_ _=>rfl))))))))) (c6 (c8 F4)) o5) (c6 (c8 (Io (Dj XR (j5 i0 (pv 1) c5 (λ_ _=>rfl)) c5 (w6 _)) (Il (Dj M5 (E6 (FH T) hr.m T.l0g (F6 (j5 i0 (pv 1) c5 (λ_ _=>rfl)) (j5 i0 (pv 1) c5 (λ_ _=>rfl)))) c5 (w6 _)))))))),?_⟩;refine⟨_,rfl,zg ⟨rfl,X0.tup hx,T.k_tt,_,rfl,?_⟩⟩
 (try refine L7 ?_)
 refine⟨_,rfl,za ⟨rfl,hl,rfl,_,rfl,?_⟩⟩
 (try dsimp only)
 refine FS (λne=>absurd rfl ne) (λ_=>?_);refine⟨_,rfl,zg ⟨rfl,rfl,o9.of hx,rfl,_,rfl,_,rfl,?_⟩⟩
 (try refine L7 ?_)
 refine⟨_,rfl,zg ⟨rfl,rfl,o9.of hx,rfl,_,rfl,_,rfl,?_⟩⟩
 (try refine L7 ?_)
 (try refine L7 ?_)
 refine⟨_,rfl,zg ⟨rfl,rfl,o9.of hx,rfl,za ⟨rfl,rfl,_,rfl,?_⟩⟩⟩;refine Cd (λ_=>?_) (λh0=>absurd a.p oM);refine⟨_,rfl,zg ⟨rfl,rfl,o9.of hx,rfl,_,rfl,zg ⟨rfl,rfl,o9.of hx,rfl,za ⟨rfl,rfl,?_⟩⟩⟩⟩;rw[show decide (V.int (dv a.t a.b)=V.int 1)=true from decI a.l];exact k
def AW(T:Txt K mg t)(p:Int)(hp:2<=p):x8 Pr w K mg base F9 2 t.f0o t.f0a Kh (Pp t.l0t (LX p) (Y3 p hp) (Kx p)):=by
 refine T.f0b.F.ok AU (by rintro _ _ _ _ ⟨_,_,_,rfl,_⟩;rfl) λcdv A outer s H vs Q E hr h=>?_;obtain⟨k0,x,a,rfl,⟨⟨q,dx,rfl,hq⟩,rfl⟩,k⟩:=h;have a0:=a.h0;have a1:=a.h1;refine⟨_,(c6 (c8 (Io (E6 (O7 T) hr.m T.k0m (B4 (pv 1))) (Il (Qc TJ Ni c5 (pv 1) (Fz (pv 0) rfl)))))),?_⟩;refine⟨_,rfl,_,rfl,_,rfl,?_⟩;refine Hd ?_;refine⟨_,rfl,za ⟨rfl,rfl,_,rfl,?_⟩⟩;refine Cd (λ_=>?_) (λh0=>absurd a0 oM);refine⟨_,rfl,q,_,dx,za ⟨rfl,hq,T.k0g,T.nP,Ai p,za ⟨rfl,rfl,?_⟩⟩⟩;have e:Q (V.bl (decide (Re.x (p:=p) a < p))) H:=by rw[decide_eq_true a1];exact k
 exact e
def Ef(T:Txt K mg t):x8 Pr w K mg base F9 1 t.h0b t.g0r ["self"] (Ht t.k0x [] Hh Kz Fr.one):=by
 refine T.g0t.F.ok DO (by rintro _ _ _ _ ⟨_,rfl,_⟩;rfl) λcdv A outer s H vs Q E hr h=>?_;obtain⟨x,rfl,_,k⟩:=h;refine⟨_,(c6 (c8 (E5 (F6 c5 c5)))),?_⟩;exact⟨(by show 2<=sizeLine;decide),λp hp=>k _ _ (c7 hp) Gx.new⟩
def EJ(T:Txt K mg t)(p:Int)(hp:2<=p):x8 Pr w K mg base F9 1 t.h0v t.g0v ["self"] (Ht t.l0t (LX p) (Y3 p hp) (Kx p) (Y3 p hp).one):=by
 refine T.g0w.F.ok EH (by rintro _ _ _ _ ⟨_,rfl,_⟩;rfl) λcdv A outer s H vs Q E hr h=>?_;obtain⟨x,rfl,_,k⟩:=h;refine⟨_,(c6 (c8 c5)),?_⟩;exact k _ _ (j0.refl _) rfl
def Y4(T:Txt K mg t):x8 Pr w K mg base F9 1 t.h0a t.g0k ["self"] (WS true):=by
 refine T.g0d.F.ok Dg (by rintro _ _ _ _ ⟨_,rfl,_⟩;rfl) λcdv A outer s H vs Q E hr h=>?_;obtain⟨x,rfl,k⟩:=h;exact⟨_,(c6 (c8 F4)),k⟩
def Uh(x:Fr):Fr:=⟨-x.t,x.b,x.p,by rw[Wg];exact x.l⟩
def AR(x:Fr):Fr:=if h:x.t≠0 then⟨tp x.b x.t,bt x.b x.t,CN h,d0o h⟩else x
def BL{x:Fr}(h:x≠Fr.zero):x.t≠0:=λe=>by
 refine h (Fr.eq_of e ?_);have h1:=x.l;rw[e]at h1;have h2:dv 0 x.b=x.b:=by rw[Th,Jc];have:=x.p;omega
 rw[h2]at h1;exact h1
def Lf{x:Fr}(h:x.t≠0):AR x=⟨tp x.b x.t,bt x.b x.t,CN h,d0o h⟩:=by unfold AR;rw[dif_pos h]
def Fh{x:Fr}(h:x.t≠0):(AR x).t=tp x.b x.t:=by rw[Lf h]
def Fi{x:Fr}(h:x.t≠0):(AR x).b=bt x.b x.t:=by rw[Lf h]
def CD(T:Txt K mg t):x8 Pr w K mg base F9 1 t.g0q t.g0a CF (Pn t.k0x [] Hh Kz Uh):=by
 refine T.f0z.F.ok Cn (by rintro _ _ _ _ ⟨_,_,_,rfl,_⟩;rfl) λcdv A outer s H vs Q E hr h=>?_;obtain⟨k0,x,a,rfl,⟨_,⟨px,rfl,hx⟩⟩,k⟩:=h;refine⟨_,(c6 (c8 (E5 (F6 (PX Ln (j5 i0 (pv 1) c5 (λ_ _=>rfl))) (j5 i0 (pv 1) c5 (λ_ _=>rfl)))))),?_⟩
 (repeat fail)
 exact⟨(by show 2<=sizeLine;decide),λp hp=>k _ _ (c7 hp) Gx.new⟩
def By(T:Txt K mg t):x8 Pr w K mg base F9 37 t.f0x t.f0g CF (Pq t.k0x [] Hh Kz AR):=by
 refine T.f0j.F.ok Bj (by rintro _ _ _ _ ⟨_,_,_,rfl,_⟩;rfl) λcdv A outer s H vs Q E hr h=>?_;obtain⟨k0,x,a,rfl,⟨_,⟨px,rfl,hx⟩,na⟩,k⟩:=h;have h0:=BL (x:=a) na;refine⟨_,(c6 (c8 (E6 (Bw T) hr.m T.j0i (F6 (j5 i0 (pv 1) c5 (λ_ _=>rfl)) (j5 i0 (pv 1) c5 (λ_ _=>rfl)))))),?_⟩
 (repeat fail)
 refine λv H' q f=>k v H' q ?_;show Gx H' v (AR a).t (AR a).b;rw[Fh h0,Fi h0];exact f
def TZ(p:Int)(hp:2<=p)(a:Re p):Re p:=Re.of p oM (-a.x)
def Ua(p:Int)(hp:2<=p)(a:Re p):Re p:=⟨ri p a.x,(Tz oM).1,(Tz oM).2⟩
def Dp(T:Txt K mg t)(p:Int)(hp:2<=p):x8 Pr w K mg base F9 1 t.g0x t.g0h CF (Pn t.l0t (LX p) (Y3 p hp) (Kx p) (TZ p hp)):=by
 refine T.g0e.F.ok Dd (by rintro _ _ _ _ ⟨_,_,_,rfl,_⟩;rfl) λcdv A outer s H vs Q E hr h=>?_;obtain⟨k0,x,a,rfl,⟨⟨q,dx,rfl,hq⟩,rfl⟩,k⟩:=h;refine⟨_,(c6 (c8 (o6 F2 (PX Ln (pv 1)) (Fz (pv 0) rfl)))),?_⟩;refine⟨_,rfl,_,rfl,_,rfl,q,_,dx,za ⟨rfl,hq,T.k0g,T.nP,Ai p,za ⟨rfl,rfl,(show p≠0 by omega),?_⟩⟩⟩;exact k _ _ (j0.refl _) rfl
def half{l:Int}(h:0 < l):0<=l.fdiv 2/\(l.fdiv 2).toNat < l.toNat:=by
 rw[dH l (by decide)];omega
def BX(T:Txt K mg t)(p:Int)(hp:2<=p)(hq:p<=1000000):x8 Pr w K mg base F9 3 t.g0i t.f0n CF (Pq t.l0t (LX p) (Y3 p hp) (Kx p) (Ua p hp)):=by
 refine T.f0p.F.ok B9 (by rintro _ _ _ _ ⟨_,_,_,rfl,_⟩;rfl) λcdv A outer s H vs Q E hr h=>?_;obtain⟨k0,x,a,rfl,⟨⟨q,dx,rfl,hk0⟩,rfl,na⟩,k⟩:=h;have hk:∀{H':Hp},j0 H H'->H' q=some (.ins t.l0t dx (LX p)):=λe=>e _ _ hk0;have nt:(LX p).lookup ("times":Str)=none:=AE p dK;refine⟨_,(a8 (B0 (o8 M5 (pv 1) c5 (w6 _)) (c6 Ah) o5) (a8 (sT 2 B9.nd c5) (a8 (sT 3 B9.nd (pv 1)) (a8 (sT 4 B9.nd (o6 Ec (Fz (pv 0) rfl) c5)) (a8 (Bq aB (o8 Cg (pv 4) c5 (w6 _)) (a8 (B0 (o8 M5 (o6 F2 (pv 4) c5) c5 (w6 _)) (c6 (sT 2 B9.nd (R8 (pv 0) T.k0g T.g0l.t (P8 T p hp hq) hr.m T.g0l.b .nil C4 (F6 (pv 2) (pv 3))))) o5) (a8 (sT 3 B9.nd (R8 (pv 0) T.k0g T.g0l.t (P8 T p hp hq) hr.m T.g0l.b .nil C4 (F6 (pv 3) (pv 3)))) (c6 (sT 4 B9.nd (o6 Al (pv 4) c5)))))) (c6 (c8 (pv 2)))))))),?_⟩;refine⟨_,rfl,rfl,_,rfl,?_⟩;refine Dx (λh0=>absurd (Re.eq_of h0) na) (λh0=>?_);refine⟨_,rfl,_,rfl,q,_,dx,za ⟨rfl,hk0,T.k0g,T.nP,Ai p,za ⟨rfl,rfl,?_⟩⟩⟩;refine⟨λm σ H'=>∃l pr sq:Int,σ=[some (.ref q),some (.int a.x),some (.int pr),some (.int sq),some (.int l)]/\m=l.toNat/\(0<=l/\0<=sq/\sq < p/\Ld p a.x l pr sq)/\j0 H H',zg ⟨rfl,rfl,⟨oM,a.h0,a.h1,PK hp⟩,j0.refl _⟩,?_⟩;rintro m σ H' ⟨l,pr,sq,rfl,rfl,⟨l0,s0,s1,ri⟩,qq⟩;refine⟨_,rfl,za ⟨rfl,rfl,_,rfl,?_⟩⟩;refine Cd (λhl=>?_) (λhl=>?_)
 . refine⟨λσ' H''=>∃l' pr' sq':Int,σ'=[some (.ref q),some (.int a.x),some (.int pr'),some (.int sq'),some (.int l')]/\l'.toNat < l.toNat/\(0<=l'/\0<=sq'/\sq' < p/\Ld p a.x l' pr' sq')/\j0 H H'',λσ' H'' ⟨l',pr',sq',e1,e2,e3,e4⟩=>⟨_,e2,l',pr',sq',e1,rfl,e3,e4⟩,?_⟩;have fd:=half hl;have m0:∀S:SR,AM S (0+0):=λ_=>.inl (by decide);refine⟨_,rfl,za ⟨rfl,rfl,(show(2:Int)≠0 by decide),rfl,_,rfl,?_⟩⟩;refine Dx (λho=>?_) (λho=>?_)
   . refine⟨_,rfl,zf ⟨rfl,hk qq,nt,_,rfl,_,rfl,zf ⟨(⟨pr,ri.2.1,ri.2.2⟩:Re p),(⟨sq,s0,s1⟩:Re p),0,0,rfl,⟨za ⟨rfl,hk qq⟩,rfl,rfl,trivial,trivial,m0 _⟩,λv1 H1 q1 f1=>?_⟩⟩⟩;obtain rfl:v1=.int ((pr * sq).fmod p):=f1;have s2:=qq.trans q1;refine⟨_,rfl,zf ⟨rfl,hk s2,nt,_,rfl,_,rfl,zf ⟨(⟨sq,s0,s1⟩:Re p),(⟨sq,s0,s1⟩:Re p),0,0,rfl,⟨za ⟨rfl,hk s2⟩,rfl,rfl,trivial,trivial,m0 _⟩,λv2 H2 q2 f2=>?_⟩⟩⟩;obtain rfl:v2=.int ((sq * sq).fmod p):=f2;refine⟨_,rfl,za ⟨rfl,rfl,⟨by decide,by decide⟩,?_⟩⟩;exact zf ⟨rfl,fd.2,⟨fd.1,(LU oM).1,(LU oM).2,UV oM ri hl (by rw[<- fe (by decide)];exact ho)⟩,s2.trans q2⟩
   . refine⟨_,rfl,zf ⟨rfl,hk qq,nt,_,rfl,_,rfl,zf ⟨(⟨sq,s0,s1⟩:Re p),(⟨sq,s0,s1⟩:Re p),0,0,rfl,⟨za ⟨rfl,hk qq⟩,rfl,rfl,trivial,trivial,m0 _⟩,λv2 H2 q2 f2=>?_⟩⟩⟩;obtain rfl:v2=.int ((sq * sq).fmod p):=f2;refine⟨_,rfl,za ⟨rfl,rfl,⟨by decide,by decide⟩,?_⟩⟩;exact zf ⟨rfl,fd.2,⟨fd.1,(LU oM).1,(LU oM).2,Sd oM ri hl (by rw[<- fe (by decide)];exact ho)⟩,qq.trans q2⟩
 . refine⟨_,rfl,?_⟩;have e:=UT ri hl;refine k _ _ qq ?_;show V.int pr=.int (Mine.ri p a.x);rw[e]
def Wq{p:Int}{hp:2<=p}{x:Re p}(h:x≠(Y3 p hp).zero):0 < x.x:=by
 have h0:=x.h0;by_cases e:x.x=0
 . exact absurd (Re.eq_of e) h
 . omega
def R_fr(T:Txt K mg t):c9 Pr w K mg base where
 S:=Hh
 C:=t.k0x
 fs:=[]
 cl:=T.j0a
 is:=Kz
 same e h:=Gx.same e h
 isd h:=Gx.is h
 F:={
  neg:=Uh
  inv:=AR
  add_neg:=λx=>Fr.eq_of (Fx x.p).1 (Fx x.p).2
  mul_inv:=λx h=>Fr.eq_of (by show tp (x.t * (AR x).t) (x.b * (AR x).b)=1;rw[Fh (BL h),Fi (BL h)];exact(Hr (BL h) x.nb).1) (by show bt (x.t * (AR x).t) (x.b * (AR x).b)=1;rw[Fh (BL h),Fi (BL h)];exact(Hr (BL h) x.nb).2)
  sz_neg:=λm x h=>⟨by show(-x.t).natAbs<=_;rw[Int.natAbs_neg];exact h.1,h.2⟩
  sz_inv:=λm x h s=>⟨by rw[Fh (BL h)];exact ah (MV (BL h)) s.2,by rw[Fi (BL h)];exact ah (NM (BL h)) s.1⟩ }
 B:=e0a
 f_plus:=_
 d_plus:=_
 t_plus:=T.g0g.t
 b_plus:=T.g0g.b
 l_plus:=rfl
 G_plus:=(Dq T).mono (by decide)
 f_times:=_
 d_times:=_
 t_times:=T.f0t.t
 b_times:=T.f0t.b
 l_times:=rfl
 G_times:=(CC T).mono (by decide)
 f_nought:=_
 d_nought:=_
 t_nought:=T.f0q.t
 b_nought:=T.f0q.b
 l_nought:=rfl
 G_nought:=(BY T).mono (by decide)
 f_one:=_
 d_one:=_
 t_one:=T.g0t.t
 b_one:=T.g0t.b
 l_one:=rfl
 G_one:=(Ef T).mono (by decide)
 f_is_weight:=_
 d_is_weight:=_
 t_is_weight:=T.e0x.t
 b_is_weight:=T.e0x.b
 l_is_weight:=rfl
 G_is_weight:=(AF T).mono (by decide)
 f_minus:=_
 d_minus:=_
 t_minus:=T.f0z.t
 b_minus:=T.f0z.b
 l_minus:=rfl
 G_minus:=(CD T).mono (by decide)
 f_inverse:=_
 d_inverse:=_
 t_inverse:=T.f0j.t
 b_inverse:=T.f0j.b
 l_inverse:=rfl
 G_inverse:=(By T).mono (by decide)
 f_is_field:=_
 d_is_field:=_
 t_is_field:=⟨T.iF_is_field,T.g0d.t.2,T.g0d.t.3⟩
 b_is_field:=T.g0d.b
 l_is_field:=rfl
 G_is_field:=(Y4 T).mono (by decide)
def R_re(T:Txt K mg t)(p:Int)(hp:2<=p)(hq:p<=1000000)(hP:Jl p=true):c9 Pr w K mg base where
 S:=Y3 p hp
 C:=t.l0t
 fs:=LX p
 cl:=T.k0g
 is:=Kx p
 same _ h:=h
 isd {H v x} h:=by cases (show v=.int x.x from h);exact .int _
 F:={
  neg:=TZ p hp
  inv:=Ua p hp
  add_neg:=λx=>Re.eq_of (r_pm oM)
  mul_inv:=λx h=>Re.eq_of (UU (Ky hP).nat (Wq (hp:=hp) h) x.h1)
  sz_neg:=λ_ _ _=>trivial
  sz_inv:=λ_ _ _ _=>trivial }
 B:=XJ p hp
 f_plus:=_
 d_plus:=_
 t_plus:=T.g0p.t
 b_plus:=T.g0p.b
 l_plus:=AE p dK
 G_plus:=(Ee T p hp).mono (by decide)
 f_times:=_
 d_times:=_
 t_times:=T.g0l.t
 b_times:=T.g0l.b
 l_times:=AE p dK
 G_times:=(P8 T p hp hq).mono (by decide)
 f_nought:=_
 d_nought:=_
 t_nought:=T.f0u.t
 b_nought:=T.f0u.b
 l_nought:=AE p dK
 G_nought:=(CB T p hp).mono (by decide)
 f_one:=_
 d_one:=_
 t_one:=T.g0w.t
 b_one:=T.g0w.b
 l_one:=AE p dK
 G_one:=(EJ T p hp).mono (by decide)
 f_is_weight:=_
 d_is_weight:=_
 t_is_weight:=T.f0b.t
 b_is_weight:=T.f0b.b
 l_is_weight:=AE p dK
 G_is_weight:=(AW T p hp).mono (by decide)
 f_minus:=_
 d_minus:=_
 t_minus:=T.g0e.t
 b_minus:=T.g0e.b
 l_minus:=AE p dK
 G_minus:=(Dp T p hp).mono (by decide)
 f_inverse:=_
 d_inverse:=_
 t_inverse:=T.f0p.t
 b_inverse:=T.f0p.b
 l_inverse:=AE p dK
 G_inverse:=(BX T p hp hq).mono (by decide)
 f_is_field:=_
 d_is_field:=_
 t_is_field:=⟨T.iR_is_field,T.g0d.t.2,T.g0d.t.3⟩
 b_is_field:=T.g0d.b
 l_is_field:=AE p dK
 G_is_field:=(Y4 T).mono (by decide)
inductive So(T:Txt K mg t):c9 Pr w K mg base->Str->Int->Prop
 | fr:So T (R_fr T) "fractions" 0
 | re (p:Int) (hp:2<=p) (hq:p<=1000000) (hi:Jl p=true):So T (R_re T p hp hq hi) "residues" p
def M3(_:Hp)(v:V)(_:Str)(p:Int):Prop:=v=.int p
def M3.same{H H':Hp}{v:V}{nm:Str}{p:Int}(_:B5 H H')(h:M3 H v nm p):M3 H' v nm p:=h
def Dr(H:Hp)(a:Addr):Prop:=∃x:Int,H a=some (.lst [.int x])\/∃d:Int,H a=some (.lst [.int d,.int x])
def l9(a:Addr)(H H':Hp):Prop:=∀b o,b≠a->H b=some o->H' b=some o
def l9.refl(a:Addr)(H:Hp):l9 a H H:=λ_ _ _ h=>h
def l9.trans{a:Addr}{H H1 H2:Hp}(x:l9 a H H1)(y:l9 a H1 H2):l9 a H H2:=λb o n h=>y b o n (x b o n h)
theorem l9.upd{a:Addr}{H:Hp}{o:HO}:l9 a H (upd H a o):=λb u n h=>by rw[o4 n];exact h
def l9.of{a:Addr}{H H':Hp}(x:j0 H H'):l9 a H H':=λb o _ h=>x b o h
def sp_next:Sp:=λvs H Q _=>∃(a:Addr) (m:Int),vs=[.ref a,.int m]/\(Dr H a/\0 < m/\m<=1000000000000000)/\∀(r:Int) H',l9 a H H'->Dr H' a->0<=r->r < m->Q (.int r) H'
def Pf(K:aa):Sp:=λvs H Q _=>∃(a:Addr) (ns:List Int),vs=[.ref a]/\o7 K H a (ns.map V.int)/\ns.length<=63/\∀b H',H b=none->j0 H H'->Dr H' b->Q (.ref b) H'
def DL{m:Int}(h:0 < m)(h':m<=1000000000000000)(x:Int):Uj x m:=by
 refine⟨oM,?_⟩;have:m.natAbs<=2 ^ 50:=by
  have e:(2:Nat) ^ 50=1125899906842624:=by decide
  omega
 by_cases e:m.natAbs=0
 . rw[e];decide
 . rw[Nat.log2_lt e];exact Nat.lt_of_le_of_lt this (Nat.pow_lt_pow_right (by decide) (by decide))
def y7(T:Txt K mg t):x8 Pr w K mg base F9 1 t.l0u t.j0s Vr sp_next:=by
 refine T.k0b.F.ok Et (by rintro _ _ _ _ ⟨_,_,rfl,_⟩;rfl) λcdv A outer s H vs Q E hr h=>?_;obtain⟨a,m,rfl,⟨⟨x,hD⟩,m0,m1⟩,k⟩:=h;refine⟨_,(a8 (B0 (o8 M5 (l5 w8 (by rfl) T.z_len PySem.boot_len (B4 (pv 0))) c5 (w6 _)) (a8 (sT 2 Et.nd (o6 F2 (j5 B8 (pv 0) c5 (λ_ _=>rfl)) (pv 1))) (a8 (P7 (o6 Al (j5 B8 (pv 0) c5 (λ_ _=>rfl)) (pv 1)) (Br (pv 0) c5 S5)) (a8 (B0 (o8 M5 (j5 B8 (pv 0) c5 (λ_ _=>rfl)) c5 (w6 _)) (c6 (F8 (U0 ba PySem.F.slot_list_pop PySem.F.type_list_pop Qt (pv 0) (B4 c5)))) o5) (c6 (c8 (pv 2)))))) o5) (a8 (P7 (o6 F2 (o6 L5 (o6 Ed (j5 B8 (pv 0) c5 (λ_ _=>rfl)) c5) c5) c5) (Br (pv 0) c5 S5)) (c6 (c8 (o6 F2 (o6 Al (j5 B8 (pv 0) c5 (λ_ _=>rfl)) c5) (pv 1)))))),?_⟩;rcases hD with hD | ⟨d,hD⟩
 . have lc:X2 K (.ref a) H 1:=.inl ⟨_,o7.of hD,rfl⟩;refine⟨_,rfl,za ⟨rfl,lc,rfl,_,rfl,?_⟩⟩;refine Dx (λh=>absurd h (by decide)) (λ_=>?_);refine⟨_,rfl,zg ⟨rfl,rfl,o7.of hD,rfl,za ⟨rfl,rfl,.inr ⟨by decide,by decide⟩,za ⟨rfl,rfl,za ⟨rfl,rfl,(show(2305843009213693951:Int)≠0 by decide),?_⟩⟩⟩⟩⟩;refine⟨_,rfl,zg ⟨rfl,rfl,hD,rfl,?_⟩⟩;refine⟨_,rfl,zg ⟨rfl,rfl,o7.of c4,rfl,za ⟨rfl,rfl,⟨by decide,by decide⟩,_,rfl,za ⟨rfl,rfl,(show m≠0 by omega),?_⟩⟩⟩⟩;exact k _ _ l9.upd ⟨_,.inl c4⟩ (bH _ m0) (bI _ m0)
 . have lc:X2 K (.ref a) H 2:=.inl ⟨_,o7.of hD,rfl⟩;refine⟨_,rfl,za ⟨rfl,lc,rfl,_,rfl,?_⟩⟩;refine Dx (λ_=>?_) (λh=>absurd rfl h);refine⟨_,rfl,zg ⟨rfl,rfl,o7.of hD,rfl,_,rfl,za ⟨rfl,rfl,(show m≠0 by omega),?_⟩⟩⟩;refine⟨_,rfl,zg ⟨rfl,rfl,o7.of hD,rfl,_,rfl,za ⟨rfl,rfl,DL m0 m1 _,?_⟩⟩⟩;refine⟨_,rfl,zg ⟨rfl,rfl,hD,rfl,?_⟩⟩;refine⟨_,rfl,zg ⟨rfl,rfl,o7.of c4,rfl,rfl,_,rfl,?_⟩⟩;refine Dx (λ_=>?_) (λ_=>?_)
   . refine⟨_,rfl,.inl ⟨rfl,_,o7.of c4⟩,zh ⟨rfl,rfl,c4,(by decide),(by decide),rfl,rfl,?_⟩⟩;refine⟨_,rfl,?_⟩;exact k _ _ (l9.upd.trans l9.upd) ⟨x,.inl c4⟩ (bH _ m0) (bI _ m0)
   . refine⟨_,rfl,?_⟩;exact k _ _ l9.upd ⟨x,.inr ⟨_,c4⟩⟩ (bH _ m0) (bI _ m0)
def Ir(T:Txt K mg t):x8 Pr w K mg base F9 1 t.l0c t.i0g ["_law_script"] (Pf K):=by
 refine T.i0u.F.ok U3 (by rintro _ _ _ _ ⟨_,_,rfl,_⟩;rfl) λcdv A outer s H vs Q E hr h=>?_;obtain⟨a,ns,rfl,hS,hlen,k⟩:=h;refine⟨_,(a8 (sT 1 U3.nd c5) (a8 (D7 aB rfl (C9 (Aj RJ (pv 0) BQ (BP c5))) (gN 2 U3.nd) (c6 (sT 1 U3.nd (o6 F2 (o6 L5 (o6 L5 (o6 Ed (pv 1) c5) (o6 F2 (pv 2) (o6 Vg c5 c5))) c5) c5)))) (a8 (B0 (PW.pt (Ij (o8 Cg (l5 w8 (by rfl) T.z_len PySem.boot_len (B4 (pv 0))) c5 (w6 _)) (Ij (o8 Cg (j5 B8 (pv 0) c5 (λ_ _=>rfl)) c5 (w6 _)) (Ii (o8 M5 (o6 F2 (j5 B8 (pv 0) c5 (λ_ _=>rfl)) c5) c5 (w6 _)))))) (c6 (c8 (D3 (F6 (o6 Al (j5 B8 (pv 0) c5 (λ_ _=>rfl)) c5) (pv 1))))) o5) (c6 (c8 (D3 (B4 (pv 1)))))))),?_⟩;refine⟨_,rfl,_,rfl,za ⟨rfl,hS,λc1 hc1=>?_⟩⟩;have ec:Ce (ns.map V.int) none (some 200)=(ns.take 200).map V.int:=by
  rw[show(200:Int)=((200:Nat):Int)from rfl,Gg,List.map_take]
 have s1:=c7 (o:=.lst (Ce (ns.map V.int) none (some 200))) hc1;have k1:=c4 (H:=H) (a:=c1) (o:=.lst (Ce (ns.map V.int) none (some 200)));have hS1:=s1.seq hS;clear hc1;revert s1 k1 hS1;generalize upd H c1 (.lst (Ce (ns.map V.int) none (some 200)))=H1;intro s1 k1 hS1;rw[ec]at k1;refine⟨c1,rfl,⟨_,o7.of k1⟩,BI (K:=K) (a:=c1) (xs:=(ns.take 200).map V.int) (λi σ H'=>∃(x:Int) (v:Option V),σ=[some (.ref a),some (.int x),v]/\H'=H1) ⟨_,_,rfl,rfl⟩ (λi σ H' _ ⟨_,_,_,e⟩=>e▸o7.of k1) ?_ ?_⟩
 . rintro i y σ H' hi ⟨x,v,rfl,rfl⟩;obtain⟨z,rfl⟩:∃z,y=V.int z:=by
    rw[ay]at hi;cases e:(ns.take 200)[i]? with
    | none=>rw[e]at hi;cases hi
    | some z=>rw[e]at hi;exact⟨z,(Option.some.inj hi).symm⟩
   refine⟨_,rfl,za ⟨rfl,rfl,.inr ⟨by decide,by decide⟩,_,rfl,za ⟨rfl,rfl,⟨by decide,by decide,by decide⟩,za ⟨rfl,rfl,(show((10:Int) ^ (30:Int).toNat)≠0 by decide),za ⟨rfl,rfl,za ⟨rfl,rfl,za ⟨rfl,rfl,(show(2305843009213693951:Int)≠0 by decide),?_⟩⟩⟩⟩⟩⟩⟩;exact za ⟨rfl,rfl⟩
 . rintro σ H' ⟨x,v,rfl,rfl⟩;have lc:X2 K (.ref a) H' (ns.map V.int).length:=.inl ⟨_,hS1,rfl⟩;rw[af]at lc;have last:WB tNext (WC (WI (AN (Ur 1) tNil))) { nx:=λ_ H''=>Q .non H'',rt:=Q } [some (.ref a),some (.int x),v] H':=by
    refine⟨_,rfl,(by show 1<=sizeLine;decide),λb hb=>?_⟩;exact k b _ (s1.free hb) (s1.trans (c7 hb)) ⟨x,.inl c4⟩
   refine⟨_,rfl,za ⟨rfl,lc,za ⟨rfl,rfl,_,rfl,?_⟩⟩⟩;refine Cd (λh0=>?_) (λ_=>?_)
   . obtain⟨n0,g0⟩:∃n,ns[0]? = some n:=⟨ns[0]'oM,by simp⟩;have a0:OI (ns.map V.int) 0=some (V.int n0):=C0 (j:=0) (by rw[ay,g0];rfl);refine⟨_,rfl,zg ⟨rfl,rfl,hS1,a0,za ⟨rfl,rfl,_,rfl,?_⟩⟩⟩;refine Cd (λ_=>?_) (λ_=>?_)
     . refine⟨_,rfl,zg ⟨rfl,rfl,hS1,a0,za ⟨rfl,rfl,(show(2:Int)≠0 by decide),rfl,_,rfl,?_⟩⟩⟩;refine Dx (λ_=>?_) (λ_=>?_)
       . refine⟨_,rfl,zg ⟨rfl,rfl,hS1,a0,za ⟨rfl,rfl,⟨by decide,by decide⟩,_,rfl,(by show 2<=sizeLine;decide),λb hb=>?_⟩⟩⟩;exact k b _ (s1.free hb) (s1.trans (c7 hb)) ⟨x,.inr ⟨_,c4⟩⟩
       . exact last
     . exact last
   . exact last
def Dr.same{H H':Hp}{a:Addr}(e:j0 H H')(h:Dr H a):Dr H' a:=by
 obtain⟨x,h | ⟨d,h⟩⟩:=h
 . exact⟨x,.inl (e _ _ h)⟩
 . exact⟨x,.inr ⟨d,e _ _ h⟩⟩
theorem Dr.lst{H:Hp}{a:Addr}(h:Dr H a):∃xs,H a=some (.lst xs):=by
 obtain⟨x,h | ⟨d,h⟩⟩:=h
 . exact⟨_,h⟩
 . exact⟨_,h⟩
def l9.tt{a:Addr}{H H':Hp}(s:l9 a H H')(d:Dr H a):B5 H H':=λp vs h=>s p _ (by
 rintro rfl;obtain⟨xs,e⟩:=d.lst;rw[h]at e;cases e) h
def l9.tup{a p:Addr}{H:Hp}{o:HO}(n:H p=none)(d:Dr H a):l9 a H (L2.upd H p o)/\Dr (L2.upd H p o) a:=⟨.of (c7 n),d.same (c7 n)⟩
def B7{H:Hp}{a:Addr}{xs:List V}{o:HO}(h:H a=some (.lst xs)):B5 H (upd H a o):=λb vs hb=>by
 rw[o4 (by rintro rfl;rw[h]at hb;cases hb)];exact hb
def X5{H H1:Hp}{a:Addr}{o:HO}(s:j0 H H1)(n:H a=none):j0 H (upd H1 a o):=λb u hb=>by
 rw[o4 (l7 hb n)];exact s _ _ hb
def l9.put{a b:Addr}{H H1:Hp}{o:HO}(s:l9 a H H1)(n:H b=none):l9 a H (L2.upd H1 b o):=λc u hc hu=>by
 rw[o4 (l7 hu n)];exact s c u hc hu
def Dr.put{a b:Addr}{H:Hp}{o:HO}(d:Dr H a)(n:b≠a):Dr (L2.upd H b o) a:=by
 obtain⟨x,h | ⟨y,h⟩⟩:=d
 . exact⟨x,.inl (by rw[o4 (Ne.symm n)];exact h)⟩
 . exact⟨x,.inr ⟨y,by rw[o4 (Ne.symm n)];exact h⟩⟩
def Qk{H:Hp}{a p:Addr}(d:Dr H a)(n:H p=none):p≠a:=λe=>by
 obtain⟨xs,z⟩:=d.lst;rw[<- e,n]at z;cases z
def tx(l:List Nat):Str:=⟨l.toArray⟩
def vT(l:List Nat):V:=.str (tx l)
def Uo(a b:List Nat):tx a++tx b=tx (a++b):=by
 show(⟨a.toArray++b.toArray⟩:Str)=⟨(a++b).toArray⟩;simp
def Y8(a:List Nat):(tx a).length=a.length:=by
 show a.toArray.size=a.length;simp
def TR:(Str.ofString "")=tx []:=by decide +kernel
def Um{l:List Nat}(h:∀c∈l,c < 128):(tx l).cps.all (· < 128)=true:=by
 show l.toArray.all (· < 128)=true;simp only[List.all_toArray,bO,decide_eq_true_eq];exact h
def CY(l:List Nat):L2.CZ (tx l)=l.map λc=>vT [c]:=by
 unfold L2.CZ tx;simp only[List.map_inj_left];intro c _;rfl
abbrev j9(R:c9 Pr w K mg base)(n:Nat)(x:Nat->R.S.W):V->Hp->Prop:=N8 (λj u H=>R.is H u (x j)) n
theorem j9.same{R:c9 Pr w K mg base}{n:Nat}{x:Nat->R.S.W}{v:V}{H H':Hp}(s:B5 H H')(e:j9 R n x v H):j9 R n x v H':=e.mono s λ_ _ _ q=>R.same s q
def j9.congr{R:c9 Pr w K mg base}{n:Nat}{x y:Nat->R.S.W}{v:V}{H:Hp}(h:∀i,i < n->x i=y i)(r:j9 R n x v H):j9 R n y v H:=
 r.mono (B5.refl _) λj _ hj q=>by rw[<- h j hj];exact q
def j9.at{R:c9 Pr w K mg base}{n:Nat}{x:Nat->R.S.W}{v:V}{H:Hp}(r:j9 R n x v H){j:Nat}(hj:j < n):∃p vs u,v=.ref p/\o9 K H p vs/\OI vs (j:Int)=some u/\R.is H u (x j):=by
 obtain⟨p,vs,rfl,hp,e⟩:=r;obtain⟨u,eu,q⟩:=e.2 j hj;exact⟨p,vs,u,rfl,o9.of hp,C0 eu,q⟩
def HP(w:World)(K:aa)(mg:Str->Option Value)(base:Heap):Sp:=λvs H Q _=>∃(R:c9 Pr w K mg base),∃kv bv row n b x r,vs=[kv,bv,row]/\(U1 R.C R.fs H kv/\R.is H bv b/\R.S.sz r b/\j9 R n x row H/\(∀i,i < n->R.S.sz r (x i))/\n<=1000/\AM R.S (r+r))/\
 ∀v H',j0 H H'->j9 R n (λi=>R.S.mul b (x i)) v H'->Q v H'
def Dn(T:Txt K mg t):x8 Pr w K mg base F9 41 t.k0r t.j0b Qn (HP w K mg base):=by
 refine T.i0l.F.ok HX (by rintro _ _ _ _ ⟨_,_,_,_,_,_,_,_,rfl,_⟩;rfl) λcdv A outer s H vs Q E hr h=>?_;obtain⟨R,kv,bv,row,n,b,x,r,rfl,⟨⟨kp,dx,rfl,hk⟩,hb,lb,⟨p,us,rfl,hp,ent⟩,lx,hn,hz⟩,k⟩:=h;refine⟨_,(c6 (c8 (j8 g9 (by rfl) T.z_tuple boot_tuple (B4 (z5 (xs:=["x"]) rfl (show w9 Qn (b9 X6) _ from⟨rfl,dK,dK,dK,dK,dK⟩) (L9 (pv 2)) (λ_ _ _ _ _=>(l4 (i:=3) (by show List.Nodup (["kind","by","row","x"]:List Str);decide +kernel) rfl (Or.inl rfl))) (λ_ _ _ _ _=>(R8 (pv 0) R.cl R.t_times R.G_times hr.m R.b_times .nil C4 (F6 (pv 1) (pv 3))))))))),?_⟩;refine⟨_,rfl,p,rfl,⟨_,o9.of hp⟩,w5 (n:=n) (λj ys H2=>j0 H H2/\j7 (λi u H=>R.is H u (R.S.mul b (x i))) ys j H2) hn ⟨j0.refl _,j7.nil⟩ (λj ys H2 q=>q.2.1) ?_ ?_ ?_⟩
 . rintro j ys H2 hj ⟨q,e⟩;obtain⟨u,eu,pu⟩:=ent.2 j hj;refine FT (o9.of (q _ _ hp)) eu ?_;refine⟨⟨[some _],rfl,rfl⟩,_,rfl,zf ⟨rfl,q _ _ hk,R.l_times,_,rfl,_,rfl,zh ⟨r,r,rfl,⟨za ⟨rfl,q _ _ hk⟩,R.same q.t hb,R.same q.t pu,lb,lx j hj,hz⟩,λv H3 s3 f3=>?_⟩⟩⟩;exact⟨q.trans s3,(e.mono λ_ _ _ z=>R.same s3.t z).snoc f3⟩
 . rintro ys H2 ⟨q,e⟩;exact⟨_,o9.of (q _ _ hp),by rw[ent.1];exact ae _⟩
 . rintro ys H2 l ⟨q,e⟩ nl;have s1':=c7 (o:=.lst ys) nl;refine⟨l,ys,rfl,.inl ⟨o7.of c4,λl2 n2=>?_⟩⟩;have s2:=c7 (o:=.tup ys) n2;exact k _ _ (q.trans (s1'.trans s2)) ⟨l2,ys,rfl,c4,e.mono λ_ _ _ z=>R.same (s1'.trans s2).t z⟩
def Gz(w:World)(K:aa)(mg:Str->Option Value)(base:Heap):Sp:=λvs H Q _=>∃(R:c9 Pr w K mg base),∃kv,vs=[kv]/\U1 R.C R.fs H kv/\Q .non H
def GO(T:Txt K mg t):x8 Pr w K mg base F9 41 t.j0c t.h0u ["kind"] (Gz w K mg base):=by
 refine T.h0p.F.ok GD (by rintro _ _ _ _ ⟨_,_,rfl,_⟩;rfl) λcdv A outer s H vs Q E hr h=>?_;obtain⟨R,kv,rfl,⟨kp,dx,rfl,hk⟩,k⟩:=h;refine⟨_,(c6 (B0 (E4 (D2 (Ak (pv 0) R.cl R.t_is_field R.G_is_field hr.m R.b_is_field .nil C4))) (c6 Ah) o5)),?_⟩;refine⟨_,rfl,zf ⟨rfl,hk,R.l_is_field,_,rfl,_,rfl,?_⟩⟩
 (try refine L7 ?_)
 exact k
def TL:Option Nat->V
 | none=>.non
 | some p=>.int (p:Nat)
def SO{S:SR}{x:Nat->S.W}{i w:Nat}(h:BG x i=none)(n:x i≠S.zero)(hi:i < w):BG x w=some i:=by
 cases e:BG x w with
 | none=>exact absurd (V0 e i hi) n
 | some p=>
  obtain⟨a,b,c⟩:=R4 e;by_cases h1:p < i
  . exact absurd (V0 h p h1) b
  . by_cases h2:i < p
    . exact absurd (c i h2) n
    . rw[show p=i by omega]
def LF(w:World)(K:aa)(mg:Str->Option Value)(base:Heap):Sp:=λvs H Q _=>∃(R:c9 Pr w K mg base),∃kv rv,∃(n l:Nat),∃x,vs=[kv,rv,.int (l:Nat)]/\(U1 R.C R.fs H kv/\j9 R n x rv H/\l<=n/\n<=1000)/\∀H',j0 H H'->Q (TL (BG x l)) H'
def Mb(T:Txt K mg t):x8 Pr w K mg base F9 41 t.n0e t.k0t ["kind","row","width"] (LF w K mg base):=by
 refine T.l0s.F.ok Fq (by rintro _ _ _ _ ⟨_,_,_,_,_,_,rfl,_⟩;rfl) λcdv A outer s H vs Q E hr h=>?_;obtain⟨R,kv,rv,n,l,x,rfl,⟨⟨kp,dx,rfl,hk⟩,hr',hl,hn⟩,k⟩:=h;refine⟨_,(a8 (D7 aB rfl (C6 rfl T.z_range (B4 (pv 2))) (gN 3 Fq.nd) (c6 (B0 (o8 (Cy hr.units) (j5 i0 (pv 1) (pv 3) (λ_ _=>rfl)) (Ak (pv 0) R.cl R.t_nought R.G_nought hr.m R.b_nought .nil C4) (w6 _)) (c6 (c8 (pv 3))) o5))) (c6 (c8 LY))),?_⟩;refine⟨_,rfl,_,rfl,oM,oM,An (lo:=0) (n:=(l:Int).toNat) (λi σ H2=>∃v3,σ=[some (.ref kp),some rv,some (.int (l:Nat)),v3]/\j0 H H2/\BG x i=none) ⟨_,rfl,j0.refl _,rfl⟩ ?_ ?_⟩
 . rintro i σ H2 hi ⟨v3,rfl,q,z⟩;have hi:i < l:=by omega
   obtain⟨p,us,u,rfl,hp,hu,iu⟩:=j9.at (j9.same q.t hr') (show i < n by omega);rw[show(i:Int)=0+(i:Int) by omega]at hu;refine⟨_,rfl,_,rfl,zg ⟨rfl,rfl,hp,hu,_,rfl,zf ⟨rfl,q _ _ hk,R.l_nought,_,rfl,za ⟨rfl,q _ _ hk⟩,λzv H3 s3 f3=>?_⟩⟩⟩;by_cases e:x i=R.S.zero
   . refine R.neD (R.same s3.t iu) f3 e ⟨_,rfl,?_⟩
     (try refine L7 ?_)
     refine⟨_,rfl,q.trans s3,?_⟩;exact IS λj hj=>by
      by_cases ej:j=i
      . rw[ej];exact e
      . exact V0 z j oM
   . refine R.neT (R.same s3.t iu) f3 e ⟨_,rfl,?_⟩
     (try refine Hd ?_)
     have:=k _ (q.trans s3);rw[SO z e hi]at this;refine⟨_,rfl,?_⟩;rw[show(0:Int)+(i:Int)=((i:Nat):Int) by omega];exact this
 . rintro σ H2 ⟨v3,rfl,q,z⟩;rw[show(l:Int).toNat=l by omega]at z;have:=k _ q;rw[z]at this;exact this
def Jv(w:World)(K:aa)(mg:Str->Option Value)(base:Heap):Sp:=λvs H Q _=>∃(R:c9 Pr w K mg base),∃kv ov hv,∃(n m m':Nat),∃x y,vs=[kv,ov,hv]/\(U1 R.C R.fs H kv/\j9 R n x ov H/\j9 R n y hv H/\(∀i,i < n->R.S.sz m (x i)/\R.S.sz m' (y i))/\n<=1000/\AM R.S (m+m'))/\
 ∀v H',j0 H H'->j9 R n (λi=>R.S.add (x i) (y i)) v H'->Q v H'
def JY(T:Txt K mg t):x8 Pr w K mg base F9 41 t.m0n t.j0q IB (Jv w K mg base):=by
 refine T.k0c.F.ok JC (by rintro _ _ _ _ ⟨_,_,_,_,_,_,_,_,_,rfl,_⟩;rfl) λcdv A outer s H vs Q E hr h=>?_;obtain⟨R,kv,ov,hv,n,m,m',x,y,rfl,⟨⟨kp,dx,rfl,hk⟩,⟨fp,fs,rfl,hf,ef⟩,⟨gp,gs,rfl,hg,eg⟩,lx,hn,hz⟩,k⟩:=h;refine⟨_,(c6 (c8 (j8 g9 (by rfl) T.z_tuple boot_tuple (B4 (z5 (xs:=["x","y"]) rfl (show w9 IB (b9 Aw) _ from⟨rfl,dK,dK,dK,dK,dK⟩) (Z9 rfl T.z_zip (F6 (pv 1) (pv 2))) (λ_ _ _ _ _=>(show PG _ _ (ET K 2 _)from(F1 rfl (j6 (l4 (i:=3) (by show List.Nodup (["kind","one","other","x","y"]:List Str);decide +kernel) rfl (Or.inl rfl)) (j6 (l4 (i:=4) (by show List.Nodup (["kind","one","other","x","y"]:List Str);decide +kernel) rfl (Or.inl rfl)) C7))))) (λ_ _ _ _ _=>(R8 (pv 0) R.cl R.t_plus R.G_plus hr.m R.b_plus .nil C4 (F6 (pv 3) (pv 4))))))))),?_⟩;refine⟨_,rfl,_,rfl,.tup fp,.tup gp,za ⟨fs,gs,rfl,rfl,rfl,o9.of hf,o9.of hg,w5 (n:=n) (λj ys H2=>j0 H H2/\j7 (λi u H=>R.is H u (R.S.add (x i) (y i))) ys j H2) oM ⟨j0.refl _,j7.nil⟩ (λj ys H2 q=>q.2.1) ?_ ?_ ?_⟩⟩
 . rintro j ys H2 hj ⟨q,e⟩;obtain⟨u,eu,pu⟩:=ef.2 j hj;obtain⟨v,ev,pv⟩:=eg.2 j hj;refine⟨⟨fs,gs,u,v,o9.of (q _ _ hf),o9.of (q _ _ hg),eu,ev⟩,λy' H' hy=>?_⟩;obtain⟨pp,x',y',rfl,np,rfl,f1,f2⟩:=hy;have e1:=f1 _ (o9.of (q _ _ hf));rw[eu]at e1;cases e1;have e2:=f2 _ (o9.of (q _ _ hg));rw[ev]at e2;cases e2;have s3:=c7 (o:=.tup [u,v]) np;have q3:=q.trans s3;refine⟨pp,_,rfl,o9.of c4,rfl,za ⟨rfl,za ⟨rfl,rfl,⟨[some _,some _],rfl,rfl⟩,_,rfl,zf ⟨rfl,q3 _ _ hk,R.l_plus,_,rfl,_,rfl,zh ⟨m,m',rfl,⟨za ⟨rfl,q3 _ _ hk⟩,R.same q3.t pu,R.same q3.t pv,(lx j hj).1,(lx j hj).2,hz⟩,λv4 H4 s4 f4=>?_⟩⟩⟩⟩⟩;exact⟨q3.trans s4,(e.mono λ_ _ _ z=>R.same (s3.trans s4).t z).snoc f4⟩
 . rintro ys H2 ⟨q,e⟩;exact⟨fs,gs,o9.of (q _ _ hf),o9.of (q _ _ hg),.inl ef.1.symm⟩
 . rintro ys H2 l ⟨q,e⟩ nl;have s1':=c7 (o:=.lst ys) nl;refine⟨l,ys,rfl,.inl ⟨o7.of c4,λl2 n2=>?_⟩⟩;have s2:=c7 (o:=.tup ys) n2;exact k _ _ (q.trans (s1'.trans s2)) ⟨l2,ys,rfl,c4,e.mono λ_ _ _ z=>R.same (s1'.trans s2).t z⟩
def DI(R:c9 Pr w K mg base)(W:Nat)(ks:List (Nat × (Nat->R.S.W))):Nat->V->Hp->Prop:=λi u H=>∃k q rv,ks[i]? = some k/\u=.ref q/\H q=some (.tup [.int (k.1:Nat),rv])/\j9 R W k.2 rv H
theorem DI.same{R:c9 Pr w K mg base}{W i:Nat}{ks:List (Nat × (Nat->R.S.W))}{u:V}{H H':Hp}(s:B5 H H')(h:DI R W ks i u H):DI R W ks i u H':=by
 obtain⟨k,q,rv,e,rfl,hq,r⟩:=h;exact⟨k,q,rv,e,rfl,s _ _ hq,j9.same s r⟩
def M6(R:c9 Pr w K mg base)(W:Nat)(ks:List (Nat × (Nat->R.S.W)))(a:Addr)(H:Hp):Prop:=∃us,H a=some (.lst us)/\j7 (DI R W ks) us ks.length H
theorem M6.same{R:c9 Pr w K mg base}{W:Nat}{ks:List (Nat × (Nat->R.S.W))}{a:Addr}{H H':Hp}(s:j0 H H')(h:M6 R W ks a H):M6 R W ks a H':=by
 obtain⟨us,ha,e⟩:=h;exact⟨us,s _ _ ha,e.mono λ_ _ _ q=>q.same s.t⟩
def LH(w:World)(K:aa)(mg:Str->Option Value)(base:Heap):Sp:=λvs H Q _=>∃(R:c9 Pr w K mg base),∃kv a rv,∃(W r:Nat),∃ks x,vs=[kv,.ref a,rv]/\(U1 R.C R.fs H kv/\M6 R W ks a H/\(∀k∈ks,k.1 < W)/\j9 R W x rv H/\W<=1000/\Lh R.F W r ks x/\AM R.S (3 * r))/\
 ∀v H',j0 H H'->j9 R W (clr R.F ks x) v H'->Q v H'
def FI(T:Txt K mg t):x8 Pr w K mg base F9 42 t.m0y t.l0j ["kind","kept","row"] (LH w K mg base):=by
 refine T.l0o.F.ok V4 (by rintro _ _ _ _ ⟨_,_,_,_,_,_,_,_,rfl,_⟩;rfl) λcdv A outer s H vs Q E hr h=>?_;obtain⟨R,kv,a,rv,W,r,ks,x,rfl,⟨⟨kp,dx,rfl,hk⟩,⟨us,ha,eK⟩,hlt,hR,hW,⟨zc,zr⟩,hS⟩,k⟩:=h;refine⟨_,(a8 (sT 3 V4.nd (pv 2)) (a8 (D7 aB rfl (C9 (pv 1)) (F1 rfl (j6 (gN 4 V4.nd) (j6 (gN 5 V4.nd) C7))) (c6 (B0 (o8 (Cy hr.units) (j5 i0 (pv 3) (pv 4) (λ_ _=>rfl)) (Ak (pv 0) R.cl R.t_nought R.G_nought hr.m R.b_nought .nil C4) (w6 _)) (c6 (sT 3 V4.nd (E6 (JY T) hr.m T.k0c (X1 (pv 0) (pv 3) (E6 (Dn T) hr.m T.i0l (X1 (pv 0) (R8 (pv 0) R.cl R.t_minus R.G_minus hr.m R.b_minus .nil C4 (B4 (j5 i0 (pv 3) (pv 4) (λ_ _=>rfl)))) (pv 5))))))) o5))) (c6 (c8 (pv 3))))),?_⟩;refine⟨_,rfl,?_⟩;show E9 3 rv [some (.ref kp),some (.ref a),some rv,none,none,none] H _;refine⟨_,rfl,a,rfl,⟨_,o7.of ha⟩,BI (K:=K) (a:=a) (xs:=us) (λi σ H2=>∃v3 v4 v5,σ=[some (.ref kp),some (.ref a),some rv,some v3,v4,v5]/\j0 H H2/\j9 R W (clr R.F (ks.take i) x) v3 H2) ⟨_,_,_,rfl,j0.refl _,hR⟩ (λi σ H2 _ ⟨_,_,_,_,q,_⟩=>o7.of (q _ _ ha)) ?_ ?_⟩
 . rintro i y σ H2 hi ⟨v3,v4,v5,rfl,q,hr3⟩;obtain⟨il,kq,qa,ov,ek,rfl,hq,ro⟩:=eK.at hi;have hkp:kq.1 < W:=hlt kq (aZ ek);have z0:=zc i oM;have ts:ks.take (i+1)=ks.take i++[kq]:=J8 ek;refine⟨qa,_,rfl,o9.of (q _ _ hq),rfl,za ⟨rfl,za ⟨rfl,rfl,?_⟩⟩⟩;obtain⟨p,us',u,rfl,hp,hu,iu⟩:=j9.at hr3 hkp;refine⟨_,rfl,_,rfl,zg ⟨rfl,rfl,hp,hu,_,rfl,zf ⟨rfl,q _ _ hk,R.l_nought,_,rfl,za ⟨rfl,q _ _ hk⟩,λzv H3 s3 f3=>?_⟩⟩⟩;have q3:=q.trans s3;by_cases e:clr R.F (ks.take i) x kq.1=R.S.zero
   . refine R.neD (R.same s3.t iu) f3 e ⟨_,rfl,?_⟩
     (try refine L7 ?_)
     refine zf ⟨rfl,q3,?_⟩;rw[ts,BJ,Js e];exact j9.same s3.t hr3
   . refine R.neT (R.same s3.t iu) f3 e ⟨_,rfl,?_⟩
     (try refine Hd ?_)
     obtain⟨p',us2,u2,e',hp2,hu2,iu2⟩:=j9.at (j9.same s3.t hr3) hkp;cases e';refine⟨_,rfl,_,rfl,_,rfl,_,rfl,zf ⟨rfl,q3 _ _ hk,R.l_minus,_,rfl,_,rfl,zg ⟨rfl,rfl,hp2,hu2,zf ⟨rfl,⟨za ⟨rfl,q3 _ _ hk⟩,iu2⟩,λmv H4 s4 f4=>?_⟩⟩⟩⟩;have q4:=q3.trans s4;refine⟨_,rfl,R,zy _ _ _ W _ kq.2 r ⟨rfl,⟨za ⟨rfl,q4 _ _ hk⟩,f4,R.F.sz_neg _ _ (z0 kq.1 hkp),j9.same q4.t ro,zr kq (aZ ek),hW,hS.le oM⟩,λtv H5 s5 r5=>?_⟩⟩;have q5:=q4.trans s5;refine⟨R,zB _ _ _ W r (r+r) _ _ ⟨rfl,⟨za ⟨rfl,q5 _ _ hk⟩,j9.same (s3.trans (s4.trans s5)).t hr3,r5,λj hj=>⟨z0 j hj,R.S.sz_mul _ _ _ _ (R.F.sz_neg _ _ (z0 kq.1 hkp)) (zr kq (aZ ek) j hj)⟩,hW,hS.le oM⟩,λpv H6 s6 r6=>?_⟩⟩;refine zf ⟨rfl,q5.trans s6,?_⟩;rw[ts,BJ];exact r6
 . rintro σ H2 ⟨v3,v4,v5,rfl,q,r3⟩;have e1:=eK.1;refine⟨_,rfl,?_⟩;rw[e1,bo]at r3;exact k _ _ q r3
def QG{S:SR}{F:Ab S}{w:Nat}{ks:List (Nat × (Nat->S.W))}{r:Nat->S.W}(h:ks.length=w):AI F w ks r=ks:=by
 unfold AI;rw[if_pos h]
def QF{S:SR}{F:Ab S}{w:Nat}{ks:List (Nat × (Nat->S.W))}{r:Nat->S.W}(h:BG (clr F ks r) w=none):AI F w ks r=ks:=by
 unfold AI;split
 . rfl
 . rw[h]
def QD{S:SR}{F:Ab S}{w p:Nat}{ks:List (Nat × (Nat->S.W))}{r:Nat->S.W}(n:ks.length≠w)(h:BG (clr F ks r) w=some p):AI F w ks r=ks++[(p,λj=>S.mul (F.inv (clr F ks r p)) (clr F ks r j))]:=by
 unfold AI;rw[if_neg n,h]
def DI.app{R:c9 Pr w K mg base}{W i:Nat}{ks:List (Nat × (Nat->R.S.W))}{k:Nat × (Nat->R.S.W)}{u:V}{H:Hp}(hi:i < ks.length)(h:DI R W ks i u H):DI R W (ks++[k]) i u H:=by
 obtain⟨k',q,rv,e,r⟩:=h;exact⟨k',q,rv,by rw[aH hi];exact e,r⟩
def RG(w:World)(K:aa)(mg:Str->Option Value)(base:Heap):Sp:=λvs H Q _=>∃(R:c9 Pr w K mg base),∃kv a rv,∃(W l r:Nat),∃ks x,vs=[kv,.ref a,rv,.int (l:Nat)]/\(U1 R.C R.fs H kv/\M6 R W ks a H/\Kp R.S l ks/\j9 R W x rv H/\l<=W/\W<=1000/\(ks.length≠l->Lh R.F W r ks x)/\AM R.S (3 * r))/\
 ∀H',l9 a H H'->M6 R W (AI R.F l ks x) a H'->Q (.bl (decide ((AI R.F l ks x).length≠ks.length))) H'
def Nj(T:Txt K mg t):x8 Pr w K mg base F9 43 t.keep t.n0k Vs (RG w K mg base):=by
 refine T.n0g.F.ok Ia (by rintro _ _ _ _ ⟨_,_,_,_,_,_,_,_,_,rfl,_⟩;rfl) λcdv A outer s H vs Q E hr h=>?_;obtain⟨R,kv,a,rv,W,l,r,ks,x,rfl,⟨⟨kp,dx,rfl,hk⟩,hK,KP,hR,hl,hW,hz,hS⟩,k⟩:=h;have hK0:=hK;obtain⟨us,ha,eK⟩:=hK;have e0:=eK.1;have kl:=KP.len;have sl:1000 < sizeLine:=by decide
 have kf:∀H',j0 H H'->AI R.F l ks x=ks->Q (.bl false) H':=λH' s' e=>by
  have:=k H' (.of s') (by rw[e];exact hK0.same s');rw[e,decide_eq_false (λz=>z rfl)]at this;exact this
 refine⟨_,(a8 (B0 (o8 M5 (l5 w8 (by rfl) T.z_len PySem.boot_len (B4 (pv 1))) (pv 3) (w6 _)) (c6 (c8 F4)) o5) (a8 (sT 4 Ia.nd (E6 (FI T) hr.m T.l0o (X1 (pv 0) (pv 1) (pv 2)))) (a8 (sT 5 Ia.nd (E6 (Mb T) hr.m T.l0s (X1 (pv 0) (pv 4) (pv 3)))) (a8 (B0 (o8 Vh (pv 5) LY (w6 _)) (c6 (c8 F4)) o5) (a8 (F8 (U0 ba bz bA G0 (pv 1) (B4 (E5 (F6 (pv 5) (E6 (Dn T) hr.m T.i0l (X1 (pv 0) (R8 (pv 0) R.cl R.t_inverse R.G_inverse hr.m R.b_inverse .nil C4 (B4 (j5 i0 (pv 4) (pv 5) (λ_ _=>rfl)))) (pv 4)))))))) (c6 (c8 F4))))))),?_⟩;refine⟨_,rfl,za ⟨rfl,(show X2 K (.ref a) H ks.length from .inl ⟨_,o7.of ha,e0.symm⟩),_,rfl,rfl,_,rfl,?_⟩⟩;refine Dx (λe=>?_) (λne=>?_)
 . exact kf _ (j0.refl _) (QG oM)
 have nl:ks.length≠l:=λe=>ne (by rw[e]);refine⟨_,rfl,_,rfl,_,rfl,R,zy _ a rv W r ks x ⟨rfl,⟨za ⟨rfl,hk⟩,hK0,λq hq=>aC (KP.lt q hq) hl,hR,hW,hz nl,hS⟩,λAf H1 s1 r1=>?_⟩⟩;show E9 4 Af [some (.ref kp),some (.ref a),some rv,some (.int (l:Nat)),none,none] H1 _;refine⟨_,rfl,_,rfl,_,rfl,R,zu _ _ W l _ ⟨rfl,⟨za ⟨rfl,s1 _ _ hk⟩,r1,hl,hW⟩,λH2 s2=>?_⟩⟩;show E9 5 (TL (BG (clr R.F ks x) l)) [some (.ref kp),some (.ref a),some rv,some (.int (l:Nat)),some Af,none] H2 _;have DW:=s1.trans s2;cases e:BG (clr R.F ks x) l with
 | none=>
  refine⟨_,rfl,rfl,_,rfl,?_⟩;refine Hd ?_;exact kf _ DW (QF e)
 | some p=>
  obtain⟨pl,pn,_⟩:=R4 e;show E9 5 (V.int (p:Nat)) [some (.ref kp),some (.ref a),some rv,some (.int (l:Nat)),some Af,none] H2 _;have z0:=(hz nl).1 ks.length (ae _);rw[bo]at z0;obtain⟨q,us',u,rfl,hq,hu,iu⟩:=j9.at (j9.same s2.t r1) (show p < W by omega);refine⟨_,rfl,rfl,_,rfl,?_⟩;refine L7 ?_;refine⟨_,rfl,.inl ⟨rfl,_,o7.of (DW _ _ ha)⟩,_,rfl,_,rfl,_,rfl,zf ⟨rfl,DW _ _ hk,R.l_inverse,_,rfl,_,rfl,zg ⟨rfl,rfl,hq,hu,zf ⟨rfl,⟨za ⟨rfl,DW _ _ hk⟩,iu,pn⟩,λiv H3 s3 f3=>?_⟩⟩⟩⟩;have EI:=DW.trans s3;refine⟨_,rfl,R,zy _ _ _ W _ _ r ⟨rfl,⟨za ⟨rfl,EI _ _ hk⟩,f3,R.F.sz_inv _ _ pn (z0 p oM),j9.same (s2.trans s3).t r1,z0,hW,hS.le oM⟩,λtv H4 s4 r4=>?_⟩⟩;have RR:=EI.trans s4;refine⟨(by show 2<=sizeLine;decide),λp5 n5=>?_⟩;have t5:=c7 (o:=.tup [V.int (p:Nat),tv]) n5;have k5:upd H4 p5 (.tup [V.int (p:Nat),tv]) p5=some (.tup [V.int (p:Nat),tv]):=c4;revert t5 k5;generalize upd H4 p5 (.tup [V.int (p:Nat),tv])=H5;intro t5 k5;have RQ:=RR.trans t5;have ha5:=RQ _ _ ha;refine⟨a,us,V.ref p5,rfl,rfl,ha5,oM,?_⟩;have st:=B7 (o:=.lst (us++[V.ref p5])) ha5;have ek:=QD (F:=R.F) nl e;have:=k (upd H5 a (.lst (us++[V.ref p5]))) ((l9.of RQ).trans l9.upd) (by
   rw[ek];refine⟨_,c4,?_⟩;rw[aq];refine j7.snoc (eK.mono λi w' hi q=>(DI.app hi (q.same RQ.t)).same st) ⟨(p,λj=>R.S.mul (R.F.inv (clr R.F ks x p)) (clr R.F ks x j)),p5,tv,?_,rfl,st _ _ k5,?_⟩
   . rw[aK (ae _),cQ];rfl
   . exact j9.same st (j9.same t5.t r4))
  rw[ek,aq,decide_eq_true (show ks.length+[_].length≠ks.length by show ks.length+1≠_;omega)]at this;exact this
def EF(R:c9 Pr w K mg base)(W n:Nat)(rs:Nat->Nat->R.S.W)(v:V)(H:Hp):Prop:=∃a us,v=.ref a/\H a=some (.lst us)/\j7 (λi u H=>j9 R W (rs i) u H) us n H
theorem EF.same{R:c9 Pr w K mg base}{W n:Nat}{rs:Nat->Nat->R.S.W}{v:V}{H H':Hp}(s:j0 H H')(h:EF R W n rs v H):EF R W n rs v H':=by
 obtain⟨a,us,rfl,ha,e⟩:=h;exact⟨a,us,rfl,s _ _ ha,e.mono λ_ _ _ q=>j9.same s.t q⟩
def Eu{α:Type}(rs:Nat->α)(n:Nat):List α:=(List.range n).map rs
def PH{α:Type}(rs:Nat->α)(n:Nat):Eu rs (n+1)=Eu rs n++[rs n]:=by
 unfold Eu;rw[List.range_succ,aU];rfl
def RX{α:Type}{rs:Nat->α}{n:Nat}{r:α}(h:r∈Eu rs n):∃i,i < n/\r=rs i:=by
 obtain⟨i,hi,rfl⟩:=aE.mp h;exact⟨i,aV.mp hi,rfl⟩
def RZ{α:Type}{rs:Nat->α}{n:Nat}:(Eu rs n).length=n:=by unfold Eu;rw[af,cj]
def HQ(w:World)(K:aa)(mg:Str->Option Value)(base:Heap):Sp:=λvs H Q _=>∃(R:c9 Pr w K mg base),∃kv rv,∃(W l r n:Nat),∃rs,vs=[kv,rv,.int (l:Nat)]/\(U1 R.C R.fs H kv/\EF R W n rs rv H/\l<=W/\W<=1000/\(∀i,i < n->(kpL R.F l (Eu rs i)).length≠l->Lh R.F W r (kpL R.F l (Eu rs i)) (rs i))/\AM R.S (3 * r))/\
 ∀a H',H a=none->j0 H H'->M6 R W (kpL R.F l (Eu rs n)) a H'->Q (.ref a) H'
def Iy(T:Txt K mg t):x8 Pr w K mg base F9 44 t.k0y t.i0o ["kind","rows","width"] (HQ w K mg base):=by
 refine T.i0n.F.ok As (by rintro _ _ _ _ ⟨_,_,_,_,_,_,_,_,rfl,_⟩;rfl) λcdv A outer s H vs Q E hr h=>?_;obtain⟨R,kv,rv,W,l,r,n,rs,rfl,⟨hk,⟨b,us,rfl,hb,eR⟩,hl,hW,hz,hS⟩,k⟩:=h;refine⟨_,(a8 (sT 3 As.nd (D3 K5)) (a8 (D7 aB rfl (C9 (pv 1)) (gN 4 As.nd) (c6 (F8 (E6 (Nj T) hr.m T.n0g (Ew (pv 0) (pv 3) (pv 4) (pv 2)))))) (c6 (c8 (pv 3))))),?_⟩;refine⟨(by show 0<=sizeLine;decide),λa na=>?_⟩;have s1:=c7 (o:=.lst []) na;have k1:upd H a (.lst []) a=some (.lst []):=c4;show E9 3 (.ref a) [some kv,some (.ref b),some (.int (l:Nat)),none,none] _ _;refine⟨_,rfl,b,rfl,⟨_,o7.of (s1 _ _ hb)⟩,BI (K:=K) (a:=b) (xs:=us) (λi σ H2=>∃v4,σ=[some kv,some (.ref b),some (.int (l:Nat)),some (.ref a),v4]/\j0 H H2/\M6 R W (kpL R.F l (Eu rs i)) a H2) ⟨_,rfl,s1,⟨_,k1,j7.nil⟩⟩ (λi σ H2 _ ⟨_,_,q,_⟩=>o7.of (q _ _ hb)) ?_ ?_⟩
 . rintro i y σ H2 hi ⟨v4,rfl,q,hK⟩;obtain⟨hi',ry⟩:=eR.at hi;refine⟨_,rfl,_,rfl,_,rfl,_,rfl,R,zB kv a y W l r _ _ ⟨rfl,⟨hk.same q,hK,CK _,j9.same q.t ry,hl,hW,hz i hi',hS⟩,λH3 s3 K3=>?_⟩⟩;refine⟨_,rfl,λc o hc=>?_,?_⟩
   . exact s3 c o (l7 hc na) (q _ _ hc)
   . rw[PH,FQ];exact K3
 . rintro σ H2 ⟨v4,rfl,q,hK⟩;rw[eR.1]at hK;exact⟨_,rfl,k _ _ na q hK⟩
def NP(R:c9 Pr w K mg base)(W n:Nat)(rs:Nat->Nat->R.S.W)(v:V)(H:Hp):Prop:=EF R W n rs v H\/N8 (λi u H=>j9 R W (rs i) u H) n v H
theorem NP.same{R:c9 Pr w K mg base}{W n:Nat}{rs:Nat->Nat->R.S.W}{v:V}{H H':Hp}(s:j0 H H')(h:NP R W n rs v H):NP R W n rs v H':=h.imp (EF.same s) λe=>e.mono s.t λ_ _ _ q=>j9.same s.t q
def Jt(w:World)(K:aa)(mg:Str->Option Value)(base:Heap):Sp:=λvs H Q _=>∃(R:c9 Pr w K mg base),∃rv,∃(W n:Nat),∃rs,vs=[rv]/\NP R W n rs rv H/\Q (.int ((if n=0 then 0 else W):Nat)) H
def JV(T:Txt K mg t):x8 Pr w K mg base F9 1 t.m0a t.k0l ["rows"] (Jt w K mg base):=by
 refine T.j0r.F.ok JB (by rintro _ _ _ _ ⟨_,_,_,_,_,rfl,_⟩;rfl) λcdv A outer s H vs Q E hr h=>?_;obtain⟨R,rv,W,n,rs,rfl,hR,k⟩:=h;refine⟨_,(c6 (c8 (Qb (o8 Cg (l5 w8 (by rfl) T.z_len PySem.boot_len (B4 (pv 0))) c5 (w6 _)) (l5 w8 (by rfl) T.z_len PySem.boot_len (B4 (j5 VR (pv 0) c5 (λ_ _=>rfl)))) c5))),?_⟩;have hlen:X2 K rv H n:=by
  rcases hR with ⟨b,us,rfl,hb,eR⟩ | hR
  . exact .inl ⟨_,o7.of hb,eR.1.symm⟩
  . exact hR.len
 refine⟨_,rfl,za ⟨rfl,hlen,za ⟨rfl,rfl,_,rfl,?_⟩⟩⟩;refine Cd (λh0=>?_) (λh0=>?_)
 . rw[if_neg oM]at k;rcases hR with ⟨b,us,rfl,hb,eR⟩ | ⟨b,us,rfl,hb,eR⟩
   . obtain⟨u,eu,ru⟩:=eR.2 0 oM;exact⟨_,rfl,.inl (zg ⟨rfl,rfl,o7.of hb,C0 (j:=0) eu,za ⟨rfl,ru.len,k⟩⟩)⟩
   . obtain⟨u,eu,ru⟩:=eR.2 0 oM;exact⟨_,rfl,.inr (.inl (zg ⟨rfl,rfl,o9.of hb,C0 (j:=0) eu,za ⟨rfl,ru.len,k⟩⟩))⟩
 . rw[if_pos oM]at k;exact k
def O9.same{H H':Hp}{P:Addr}{q:Str}(s:j0 H H')(h:O9 H P q):O9 H' P q:=by
 obtain⟨ps,h1,h2,h3⟩:=h;refine⟨ps,s _ _ h1,h2,λlp v e=>?_⟩;obtain⟨c,e1,oc,vs,t,y1,y2⟩:=h3 lp v e;exact⟨c,e1,oc,vs,t,s _ _ y1,y2⟩
def JT{α β:Type}{f:α->β}{zs ys:List β}(h:zs.Perm ys):∀L0:List α,ys=L0.map f->∃L:List α,L.Perm L0/\zs=L.map f:=by
 induction h with
 | nil=>intro L0 e;exact⟨L0,.refl _,e⟩
 | cons x _ ih=>
  intro L0 e
  match L0,e with
  | y::L1,e=>
   rw[aP]at e;injection e with e1 e2;obtain⟨L,h1,h2⟩:=ih L1 e2;exact⟨y::L,h1.cons y,by rw[aP,e1,h2]⟩
 | swap x y l=>
  intro L0 e
  match L0,e with
  | a::b::L1,e=>
   rw[aP,aP]at e;injection e with e1 e;injection e with e2 e3;exact⟨b::a::L1,.swap _ _ _,by rw[aP,aP,e1,e2,e3]⟩
 | trans _ _ i1 i2=>
  intro L0 e;obtain⟨L,h1,h2⟩:=i2 L0 e;obtain⟨L',h3,h4⟩:=i1 L h2;exact⟨L',h3.trans h1,h4⟩
def adV:V->Addr
 | .ref a=>a
 | _=>0
def M6.refs{R:c9 Pr w K mg base}{W:Nat}{es:List (Nat × (Nat->R.S.W))}{a:Addr}{H:Hp}(h:M6 R W es a H):∃ps:List Addr,H a=some (.lst (ps.map V.ref))/\ps.length=es.length/\
    ∀(i:Nat) p e,ps[i]? = some p->es[i]? = some e->∃rv,H p=some (.tup [.int (e.1:Nat),rv])/\j9 R W e.2 rv H:=by
 obtain⟨us,ha,en⟩:=h;have el:=en.1;have hu:us=(us.map adV).map V.ref:=by
  apply List.ext_getElem?;intro i;rw[ay,ay];cases hi:us[i]? with
  | none=>rfl
  | some u=>
   obtain⟨_,k,q,rv,_,rfl,_⟩:=en.at hi;rfl
 refine⟨us.map adV,by rw[<- hu];exact ha,by rw[af,el],λi p e h1 h2=>?_⟩;rw[ay]at h1;obtain⟨u,hu',rfl⟩:=dw.mp h1;obtain⟨_,k,q,rv,e1,rfl,hq,ro⟩:=en.at hu';rw[h2]at e1;cases e1;exact⟨rv,hq,ro⟩
def qE:Str:=(("echelon":Str)++".<locals>.")++"<lambda>"
def LG(w:World)(K:aa)(mg:Str->Option Value)(base:Heap)(t:Rn):Sp:=λvs H Q _=>∃(R:c9 Pr w K mg base),∃kv rv,∃(W r n:Nat),∃rs,vs=[kv,rv]/\(U1 R.C R.fs H kv/\EF R W n rs rv H/\W < 64/\
 (∀i,i < n->(kpL R.F (if n=0 then 0 else W) (Eu rs i)).length≠(if n=0 then 0 else W)->Lh R.F W r (kpL R.F (if n=0 then 0 else W) (Eu rs i)) (rs i))/\
 (∀i k,i < (kpL R.F (if n=0 then 0 else W) (Eu rs n)).length->(kpL R.F (if n=0 then 0 else W) (Eu rs n))[(kpL R.F (if n=0 then 0 else W) (Eu rs n)).length - 1 - i]? = some k->Lh R.F W r (echI R.F (kpL R.F (if n=0 then 0 else W) (Eu rs n)) i) k.2)/\
 AM R.S (3 * r)/\O9 H t.P_echelon qE)/\
 ∀es a H',Lc t.P_echelon H H'->O9 H' t.P_echelon qE->M6 R W es a H'->es.Perm (KN R.F (kpL R.F (if n=0 then 0 else W) (Eu rs n)))->es.Pairwise (λp q=>p.1<=q.1)->Q (.ref a) H'
def Mc(T:Txt K mg t)(hTb:TbA mg base t):x8 Pr w K mg base F9 46 t.echelon t.l0d ["kind","rows"] (LG w K mg base t):=by
 refine T.k0w.F.okC Au T.tb_echelon T.j0d (by rintro _ _ _ _ ⟨_,_,_,_,_,_,_,rfl,_⟩;rfl) λA outer s H vs Q E hr h=>?_;obtain⟨R,kv,rv,W,r,n,rs,rfl,⟨hk,hR,hW,hz,he,hS,hT⟩,k⟩:=h;have zl:10000 < sizeLine:=by decide
 have hKp:Kp R.S (if n=0 then 0 else W) (kpL R.F (if n=0 then 0 else W) (Eu rs n)):=CK _;have lW:(if n=0 then 0 else W)<=W:=by split <;>omega
 refine⟨_,(a8 (sT 2 Au.nd (D3 K5)) (a8 (D7 aB rfl (Sg rfl T.z_reversed (B4 (E6 (Iy T) hr.m T.i0n (X1 (pv 0) (pv 1) (E6 (JV T) hr.m T.j0r (B4 (pv 1))))))) (F1 rfl (j6 (gN 3 Au.nd) (j6 (gN 4 Au.nd) C7))) (c6 (F8 (U0 ba bz bA G0 (pv 2) (B4 (E5 (F6 (pv 3) (E6 (FI T) hr.m T.l0o (X1 (pv 0) (pv 2) (pv 4)))))))))) (c6 (c8 (PY (k:=0) (pn:="pair") hr.m hTb.echelon rfl (by rfl) T.z_sorted (B4 (pv 2)) rfl rfl (by exact⟨rfl,rfl,rfl,dK,rfl,dK,dK,dK⟩) (λ_ _ _ _ _=>rfl)))))),?_⟩;refine⟨(by show 0<=sizeLine;omega),λa na=>?_⟩;refine E8 (o:=.lst []) na λH1 s1 k1=>?_;show E9 2 (.ref a) [some kv,some rv,none,none,none] H1 _;have hR1:=hR.same s1;refine⟨_,rfl,_,rfl,_,rfl,R,zt rv W n rs ⟨rfl,.inl hR1,?_⟩⟩;revert hz he hKp k lW;generalize (if n=0 then 0 else W)=l;intro k hz he hKp lW;refine⟨R,zy kv rv W l r n rs ⟨rfl,⟨hk.same s1,hR1,lW,oM,hz,hS⟩,λb H2 nb s2 hK=>?_⟩⟩;revert he hKp k hK;generalize kpL R.F l (Eu rs n)=ks;intro k he hKp hK;have ksl:=hKp.len;obtain⟨us,hb,eK⟩:=hK;have ul:=eK.1;have ab:b≠a:=λz=>by rw[z,k1]at nb;cases nb
 have up:∀{G},l9 a H2 G->j0 H G:=λsG c o hc=>sG c o (l7 hc na) (s2 _ _ (s1 _ _ hc));have upT:∀{G},l9 a H2 G->B5 H2 G:=λsG p vs hp=>sG p _ (λz=>by
  have z2:=s2 _ _ k1;rw[<- z,hp]at z2;cases z2) hp
 refine⟨b,us,rfl,o7.of hb,QU (a:=b) (xs:=us) (λi σ G=>∃v3 v4:Option V,σ=[some kv,some rv,some (.ref a),v3,v4]/\l9 a H2 G/\M6 R W (echI R.F ks i) a G) ⟨none,none,rfl,l9.refl _ _,⟨[],s2 _ _ k1,j7.nil⟩⟩ (λi σ G _ ⟨_,_,_,sG,_⟩=>o7.of (sG _ _ ab hb)) ?_ ?_⟩
 . rintro i x σ G hi hx ⟨v3,v4,rfl,sG,hKG⟩;obtain⟨_,kq,qa,ov,ek,rfl,hq,ro⟩:=eK.at hx;rw[ul]at ek;have hqG:=upT sG _ _ hq;refine⟨qa,_,rfl,o9.of hqG,rfl,za ⟨rfl,za ⟨rfl,rfl,?_⟩⟩⟩;have hKG0:=hKG;obtain⟨ts,hta,ent⟩:=hKG;have tl:=ent.1;rw[W7 oM]at tl;refine⟨_,rfl,.inl ⟨rfl,_,o7.of hta⟩,_,rfl,_,rfl,_,rfl,_,rfl,R,zy kv a ov W r (echI R.F ks i) kq.2 ⟨rfl,⟨hk.same (up sG),hKG0,λe he'=>?_,j9.same (upT sG) ro,oM,he i kq oM ek,hS⟩,λAf G1 t1 r1=>?_⟩⟩
   . obtain⟨k',hk',e1⟩:=KO oM e he';rw[e1];exact aC (hKp.lt k' hk') lW
   refine⟨(by show 2<=sizeLine;omega),λp5 n5=>?_⟩;refine E8 (o:=.tup [V.int (kq.1:Nat),Af]) n5 λG5 t5 k5=>?_;have t15:=t1.trans t5;have ha5:=t15 _ _ hta;refine⟨a,ts,V.ref p5,rfl,rfl,ha5,oM,?_⟩;have st:=B7 (o:=.lst (ts++[V.ref p5])) ha5;refine za ⟨rfl,sG.trans ((l9.of t15).trans l9.upd),?_⟩;rw[O8 oM ek];refine⟨_,c4,?_⟩;rw[aq];refine j7.snoc (ent.mono λj w' hj q=>(DI.app hj (q.same t15.t)).same st) ⟨(kq.1,clr R.F (echI R.F ks i) kq.2),p5,Af,?_,rfl,st _ _ k5,?_⟩
   . rw[aK (ae _),cQ];rfl
   . exact j9.same st (j9.same t5.t r1)
 . rintro σ G ⟨v3,v4,rfl,sG,hKG⟩;rw[ul,S7]at hKG;have hel:(KN R.F ks).length=ks.length:=by rw[<- S7,W7 (ae _)]
   revert hKG hel k;generalize KN R.F ks=es0;intro k hKG hel;obtain⟨ps,hpa,pl,hps⟩:=hKG.refs;have hTG:=O9.same (up sG) hT;refine⟨_,rfl,a,ps,es0.map λe=>((e.1:Nat):Int),rfl,o7.of hpa,by rw[af,pl],oM,hTG,λi p m h1 h2=>?_,λH5 d zs sp hT5 hd pm pw=>?_⟩
   . rw[ay]at h2;obtain⟨e,e1,rfl⟩:=dw.mp h2;obtain⟨rv',z,_⟩:=hps i p e h1 e1;exact⟨_,z⟩
   . obtain⟨tps,hP,_⟩:=id hTG;have sT:B5 G H5:=λp vs hp=>sp p _ (Y5 hp hP (by simp)) hp;have ez:(es0.map λe=>((e.1:Nat):Int)).zip ps=(es0.zip ps).map λx=>(((x.1.1:Nat):Int),x.2):=by
      rw[List.zip_map_left];rfl
     rw[ez]at pm;obtain⟨L,l1,rfl⟩:=JT pm _ rfl;have pe:(L.map Prod.fst).Perm es0:=by
      have:=l1.map Prod.fst;rwa [List.map_fst_zip oM]at this
     refine k (L.map Prod.fst) d H5 (λc o hc e=>sp c o hc (up sG c o e)) hT5 ⟨_,hd,?_⟩ pe ?_
     . refine⟨by simp,λj hj=>?_⟩;rw[af]at hj;have hm:L[j]∈es0.zip ps:=l1.mem_iff.mp (aM hj);obtain⟨i,hi,ei⟩:=cB.mp hm;have hi':i < es0.length/\i < ps.length:=by rw[List.length_zip]at hi;omega
       rw[List.getElem_zip]at ei;obtain⟨rv',z1,z2⟩:=hps i ps[i] es0[i] (ag hi'.2) (ag hi'.1);refine⟨V.ref L[j].2,by rw[cg,ay,ag hj];rfl,L[j].1,L[j].2,rv',by rw[ay,ag hj];rfl,rfl,?_,?_⟩
       . rw[<- ei];exact sT _ _ z1
       . rw[<- ei];exact j9.same sT z2
     . have:=cz.mp pw;exact cz.mpr (this.imp λh=>by
        have h:((_:Nat):Int)<=((_:Nat):Int):=h;exact Int.ofNat_le.mp h)
def Uy(w:World)(K:aa)(mg:Str->Option Value)(base:Heap):Sp:=λvs H Q _=>∃(R:c9 Pr w K mg base),∃kv row col n x y r,vs=[kv,row,col]/\(U1 R.C R.fs H kv/\j9 R n x row H/\j9 R n y col H/\Lg R.S r n x y/\AM R.S (3 * r))/\
 ∀v H',j0 H H'->R.is H' v (J7 R.S x y n)->Q v H'
def Md(T:Txt K mg t):x8 Pr w K mg base F9 41 t.dot t.n0n ["kind","row","column"] (Uy w K mg base):=by
 refine T.n0p.F.ok Ft (by rintro _ _ _ _ ⟨_,_,_,_,_,_,_,_,rfl,_⟩;rfl) λcdv A outer s H vs Q E hr h=>?_;obtain⟨R,kv,row,col,n,x,y,r,rfl,⟨⟨kp,dx,rfl,hk⟩,⟨fp,xs,rfl,hf,e1⟩,⟨gp,ys,rfl,hg,e2⟩,⟨z1,z2⟩,hz⟩,k⟩:=h;refine⟨_,(a8 (sT 3 Ft.nd (Ak (pv 0) R.cl R.t_nought R.G_nought hr.m R.b_nought .nil C4)) (a8 (D7 aB rfl (Z9 rfl T.z_zip (F6 (pv 1) (pv 2))) (F1 rfl (j6 (gN 4 Ft.nd) (j6 (gN 5 Ft.nd) C7))) (c6 (sT 3 Ft.nd (R8 (pv 0) R.cl R.t_plus R.G_plus hr.m R.b_plus .nil C4 (F6 (pv 3) (R8 (pv 0) R.cl R.t_times R.G_times hr.m R.b_times .nil C4 (F6 (pv 4) (pv 5)))))))) (c6 (c8 (pv 3))))),?_⟩;refine⟨_,rfl,zf ⟨rfl,hk,R.l_nought,_,rfl,za ⟨rfl,hk⟩,λz H1 s1 f1=>?_⟩⟩;refine⟨_,rfl,_,rfl,.tup fp,.tup gp,za ⟨xs,ys,rfl,rfl,rfl,o9.of (s1 _ _ hf),o9.of (s1 _ _ hg),Fc (K:=K) (xs:=xs) (ys:=ys) (λi σ H2=>∃tot v4 v5,σ=[some (.ref kp),some (.ref fp),some (.ref gp),some tot,v4,v5]/\j0 H H2/\R.is H2 tot (J7 R.S x y i)) (by rw[e1.1,e2.1]) ⟨_,_,_,rfl,s1,f1⟩ (λi σ H2 _ ⟨_,_,_,_,q,_⟩=>⟨o9.of (q _ _ hf),o9.of (q _ _ hg)⟩) ?_ ?_⟩⟩
 . rintro i u v p σ H2 hu hv np ⟨tot,v4,v5,rfl,q,f⟩;obtain⟨hi,pu⟩:=e1.at hu;obtain⟨_,pv⟩:=e2.at hv;have sp:=c7 (o:=.tup [u,v]) np;have q2:=q.trans sp;refine⟨p,_,rfl,o9.of c4,rfl,za ⟨rfl,za ⟨rfl,rfl,?_⟩⟩⟩;refine⟨_,rfl,zf ⟨rfl,q2 _ _ hk,R.l_plus,_,rfl,_,rfl,zf ⟨rfl,q2 _ _ hk,R.l_times,_,rfl,_,rfl,zh ⟨r,r,rfl,⟨za ⟨rfl,q2 _ _ hk⟩,R.same q2.t pu,R.same q2.t pv,(z1 i hi).1,(z1 i hi).2,hz.le oM⟩,λpr H3 s3 f3=>?_⟩⟩⟩⟩;have q3:=q2.trans s3;refine zh ⟨r,r+r,rfl,⟨za ⟨rfl,q3 _ _ hk⟩,R.same (sp.trans s3).t f,f3,z2 i oM,R.S.sz_mul _ _ _ _ (z1 i hi).1 (z1 i hi).2,hz.le oM⟩,λtt H4 s4 f4=>?_⟩;exact zf ⟨rfl,q3.trans s4,f4⟩
 . rintro σ H2 ⟨tot,v4,v5,rfl,q,f⟩;rw[e1.1]at f;exact⟨_,rfl,k _ _ q f⟩
abbrev D1(R:c9 Pr w K mg base)(h n:Nat)(x:Nat->Nat->R.S.W):V->Hp->Prop:=N8 (λi u H=>j9 R n (x i) u H) h
theorem D1.same{R:c9 Pr w K mg base}{h n:Nat}{x:Nat->Nat->R.S.W}{v:V}{H H':Hp}(s:B5 H H')(e:D1 R h n x v H):D1 R h n x v H':=e.mono s λ_ _ _ q=>j9.same s q
def HR(w:World)(K:aa)(mg:Str->Option Value)(base:Heap):Sp:=λvs H Q _=>∃(R:c9 Pr w K mg base),∃tb,∃(z:Int),∃(i:Nat),∃h n x,vs=[tb,.int z]/\(D1 R h n x tb H/\i < n/\h<=1000/\z=i)/\
 ∀v H',j0 H H'->j9 R h (λj=>x j i) v H'->Q v H'
def Iz(T:Txt K mg t):x8 Pr w K mg base F9 1 t.l0n t.i0h Oo (HR w K mg base):=by
 refine T.i0f.F.ok Ib (by rintro _ _ _ _ ⟨_,_,_,_,_,_,_,rfl,_⟩;rfl) λcdv A outer s H vs Q E hr h=>?_;obtain⟨R,tb,z,i,h,n,x,rfl,⟨⟨p,rows,rfl,hp,ent⟩,hi,hh,rfl⟩,k⟩:=h;refine⟨_,(c6 (c8 (j8 g9 (by rfl) T.z_tuple boot_tuple (B4 (z5 (xs:=["row"]) rfl (show w9 Oo (b9 X7) _ from⟨rfl,dK,dK,dK,dK,dK⟩) (L9 (pv 0)) (λ_ _ _ _ _=>(l4 (i:=2) (by show List.Nodup (["table","place","row"]:List Str);decide +kernel) rfl (Or.inl rfl))) (λ_ _ _ _ _=>(j5 (show Le _ (GL K)from i0) (pv 2) (pv 1) (λ_ _=>rfl)))))))),?_⟩;refine⟨_,rfl,p,rfl,⟨_,o9.of hp⟩,w5 (n:=h) (λj ys H2=>j7 (λj u H=>R.is H u (x j i)) ys j H/\H2=H) hh ⟨j7.nil,rfl⟩ (λj ys H2 q=>q.1.1) ?_ ?_ ?_⟩
 . rintro j ys H2 hj ⟨e,rfl⟩;obtain⟨u,eu,pu⟩:=ent.2 j hj;refine FT (o9.of hp) eu ?_;obtain⟨q,cs,rfl,hq,ec⟩:=pu;obtain⟨z,ez,pz⟩:=ec.2 i hi;refine⟨⟨[some (.ref q)],rfl,rfl⟩,_,rfl,_,rfl,zg ⟨rfl,rfl,o9.of hq,C0 ez,?_⟩⟩;exact⟨e.snoc pz,rfl⟩
 . rintro ys H2 ⟨e,rfl⟩;exact⟨_,o9.of hp,by rw[ent.1];exact ae _⟩
 . rintro ys H2 l ⟨e,rfl⟩ nl;have s1:=c7 (o:=.lst ys) nl;refine⟨l,ys,rfl,.inl ⟨o7.of c4,λl2 n2=>?_⟩⟩;have s2:=c7 (o:=.tup ys) n2;exact k _ _ (s1.trans s2) ⟨l2,ys,rfl,c4,e.mono λ_ _ _ q=>R.same (s1.trans s2).t q⟩
def GB(w:World)(K:aa)(mg:Str->Option Value)(base:Heap):Sp:=λvs H Q _=>∃(R:c9 Pr w K mg base),∃tb h n x,vs=[tb]/\(D1 R h n x tb H/\h<=1000/\n<=1000)/\
 ∀v H',j0 H H'->D1 R (if h=0 then 0 else n) h (λj i=>x i j) v H'->Q v H'
def GR(T:Txt K mg t):x8 Pr w K mg base F9 2 t.k0q t.h0x ["table"] (GB w K mg base):=by
 refine T.h0n.F.ok GG (by rintro _ _ _ _ ⟨_,_,_,_,_,rfl,_⟩;rfl) λcdv A outer s H vs Q E hr h=>?_;obtain⟨R,tb,h,n,x,rfl,⟨ht,hh,hn⟩,k⟩:=h;refine⟨_,(a8 (B0 (o8 M5 (l5 w8 (by rfl) T.z_len PySem.boot_len (B4 (pv 0))) c5 (w6 _)) (c6 (c8 (E5 K5))) o5) (c6 (c8 (j8 g9 (by rfl) T.z_tuple boot_tuple (B4 (z5 (xs:=["place"]) rfl (show w9 ["table"] (b9 U5) _ from⟨rfl,dK,dK,dK,dK,dK⟩) (C6 rfl T.z_range (B4 (l5 w8 (by rfl) T.z_len PySem.boot_len (B4 (j5 i0 (pv 0) c5 (λ_ _=>rfl)))))) (λ_ _ _ _ _=>(l4 (i:=1) (by show List.Nodup (Oo);decide +kernel) rfl (Or.inl rfl))) (λ_ _ _ _ _=>(C3 (Iz (w:=w) (base:=base) T) hr.m rfl T.i0f.m T.i0f.F.kp T.i0f.b .nil C4 (F6 (pv 0) (pv 1)))))))))),?_⟩;refine⟨_,rfl,za ⟨rfl,ht.len,rfl,_,rfl,?_⟩⟩;refine Dx (λe0=>?_) (λe0=>?_)
 . have e:h=0:=by omega
   subst e;refine⟨(by show 0<=sizeLine;decide),λp np=>k _ _ (c7 np) ⟨p,[],rfl,c4,j7.nil⟩⟩
 . obtain⟨p,rows,rfl,hp,ent⟩:=ht;obtain⟨u,eu,pu⟩:=ent.2 0 oM;have e0:h≠0:=by omega
   rw[if_neg e0]at k;refine⟨_,rfl,zg ⟨rfl,rfl,o9.of hp,C0 (j:=0) eu,za ⟨rfl,pu.len,_,rfl,oM,oM,w5 (n:=n) (λj ys H2=>j0 H H2/\j7 (λj u H=>j9 R h (λi=>x i j) u H) ys j H2) hn ⟨j0.refl _,j7.nil⟩ (λj ys H2 q=>q.2.1) ?_ ?_ ?_⟩⟩⟩
   . rintro j ys H2 hj ⟨q,e⟩;refine He (by omega) ?_;refine⟨⟨[some (.int (0+(j:Int)))],rfl,rfl⟩,_,rfl,_,rfl,R,zw _ _ j h n x ⟨rfl,⟨D1.same q.t ⟨p,rows,rfl,hp,ent⟩,hj,hh,oM⟩,λv H3 s3 r3=>?_⟩⟩;exact⟨q.trans s3,(e.mono λ_ _ _ z=>j9.same s3.t z).snoc r3⟩
   . rintro ys H2 ⟨q,e⟩;show(n:Int).toNat<=n;omega
   . rintro ys H2 l ⟨q,e⟩ nl;have s1:=c7 (o:=.lst ys) nl;refine⟨l,ys,rfl,.inl ⟨o7.of c4,λl2 n2=>?_⟩⟩;have s2:=c7 (o:=.tup ys) n2;exact k _ _ (q.trans (s1.trans s2)) ⟨l2,ys,rfl,c4,e.mono λ_ _ _ z=>j9.same (s1.trans s2).t z⟩
def NV(w:World)(K:aa)(mg:Str->Option Value)(base:Heap):Sp:=λvs H Q _=>∃(R:c9 Pr w K mg base),∃kv row tb h n x A r,vs=[kv,row,tb]/\(U1 R.C R.fs H kv/\j9 R h x row H/\D1 R h n A tb H/\h<=1000/\n<=1000/\(∀j,j < n->Lg R.S r h x (λi=>A i j))/\AM R.S (3 * r))/\
 ∀v H',j0 H H'->j9 R (if h=0 then 0 else n) (λj=>J7 R.S x (λi=>A i j) h) v H'->Q v H'
def Hz(T:Txt K mg t):x8 Pr w K mg base F9 42 t.n0i t.l0w Qo (NV w K mg base):=by
 refine T.m0i.F.ok Oc (by rintro _ _ _ _ ⟨_,_,_,_,_,_,_,_,_,rfl,_⟩;rfl) λcdv A outer s H vs Q E hr h=>?_;obtain⟨R,kv,row,tb,h,n,x,B,r,rfl,⟨hk,hx,ht,hh,hn,hz,hS⟩,k⟩:=h;refine⟨_,(c6 (c8 (j8 g9 (by rfl) T.z_tuple boot_tuple (B4 (z5 (xs:=["column"]) rfl (show w9 Qo (b9 Dh) _ from⟨rfl,dK,dK,dK,dK,dK⟩) (L9 (E6 (GR T) hr.m T.h0n (B4 (pv 2)))) (λ_ _ _ _ _=>(l4 (i:=3) (by show List.Nodup (["kind","row","table","column"]:List Str);decide +kernel) rfl (Or.inl rfl))) (λ_ _ _ _ _=>(C3 (Md (w:=w) (base:=base) T) hr.m rfl T.n0p.m T.n0p.F.kp T.n0p.b .nil C4 (X1 (pv 0) (pv 1) (pv 3))))))))),?_⟩;refine⟨_,rfl,R,zt _ h n B ⟨rfl,⟨ht,hh,hn⟩,?_⟩⟩;rintro cv H1 s1 ⟨p,cols,rfl,hp,ent⟩;refine⟨p,rfl,⟨_,o9.of hp⟩,w5 (n:=if h=0 then 0 else n) (λj ys H2=>j0 H1 H2/\j7 (λj u H=>R.is H u (J7 R.S x (λi=>B i j) h)) ys j H2) (by split <;>omega) ⟨j0.refl _,j7.nil⟩ (λj ys H2 q=>q.2.1) ?_ ?_ ?_⟩
 . rintro j ys H2 hj ⟨q,e⟩;obtain⟨u,eu,pu⟩:=ent.2 j hj;refine FT (o9.of (q _ _ hp)) eu ?_;refine⟨⟨[some _],rfl,rfl⟩,_,rfl,_,rfl,_,rfl,R,zy _ _ _ h x (λi=>B i j) r ⟨rfl,⟨hk.same (s1.trans q),j9.same (s1.trans q).t hx,j9.same q.t pu,hz j (by split at hj <;>omega),hS⟩,λv H3 s3 f3=>?_⟩⟩;exact⟨q.trans s3,(e.mono λ_ _ _ z=>R.same s3.t z).snoc f3⟩
 . rintro ys H2 ⟨q,e⟩;exact⟨_,o9.of (q _ _ hp),by rw[ent.1];exact ae _⟩
 . rintro ys H2 l ⟨q,e⟩ nl;have s1':=c7 (o:=.lst ys) nl;refine⟨l,ys,rfl,.inl ⟨o7.of c4,λl2 n2=>?_⟩⟩;have s2:=c7 (o:=.tup ys) n2;exact k _ _ ((s1.trans q).trans (s1'.trans s2)) ⟨l2,ys,rfl,c4,e.mono λ_ _ _ z=>R.same (s1'.trans s2).t z⟩
def HS(w:World)(K:aa)(mg:Str->Option Value)(base:Heap):Sp:=λvs H Q _=>∃(R:c9 Pr w K mg base),∃kv tb col h n A y r,vs=[kv,tb,col]/\(U1 R.C R.fs H kv/\D1 R h n A tb H/\j9 R n y col H/\h<=1000/\(∀i,i < h->Lg R.S r n (A i) y)/\AM R.S (3 * r))/\
 ∀v H',j0 H H'->j9 R h (λi=>J7 R.S (A i) y n) v H'->Q v H'
def IA(T:Txt K mg t):x8 Pr w K mg base F9 42 t.k0z t.i0r Qq (HS w K mg base):=by
 refine T.i0t.F.ok Ic (by rintro _ _ _ _ ⟨_,_,_,_,_,_,_,_,_,rfl,_⟩;rfl) λcdv A outer s H vs Q E hr h=>?_;obtain⟨R,kv,tb,col,h,n,B,y,r,rfl,⟨hk,⟨p,rows,rfl,hp,ent⟩,hy,hh,hz,hS⟩,k⟩:=h;refine⟨_,(c6 (c8 (j8 g9 (by rfl) T.z_tuple boot_tuple (B4 (z5 (xs:=["row"]) rfl (show w9 Qq (b9 X8) _ from⟨rfl,dK,dK,dK,dK,dK⟩) (L9 (pv 1)) (λ_ _ _ _ _=>(l4 (i:=3) (by show List.Nodup (["kind","table","column","row"]:List Str);decide +kernel) rfl (Or.inl rfl))) (λ_ _ _ _ _=>(C3 (Md (w:=w) (base:=base) T) hr.m rfl T.n0p.m T.n0p.F.kp T.n0p.b .nil C4 (X1 (pv 0) (pv 3) (pv 2))))))))),?_⟩;refine⟨_,rfl,p,rfl,⟨_,o9.of hp⟩,w5 (n:=h) (λj ys H2=>j0 H H2/\j7 (λi u H=>R.is H u (J7 R.S (B i) y n)) ys j H2) hh ⟨j0.refl _,j7.nil⟩ (λj ys H2 q=>q.2.1) ?_ ?_ ?_⟩
 . rintro j ys H2 hj ⟨q,e⟩;obtain⟨u,eu,pu⟩:=ent.2 j hj;refine FT (o9.of (q _ _ hp)) eu ?_;refine⟨⟨[some _],rfl,rfl⟩,_,rfl,_,rfl,_,rfl,R,zy _ _ _ n (B j) y r ⟨rfl,⟨hk.same q,j9.same q.t pu,j9.same q.t hy,hz j hj,hS⟩,λv H3 s3 f3=>?_⟩⟩;exact⟨q.trans s3,(e.mono λ_ _ _ z=>R.same s3.t z).snoc f3⟩
 . rintro ys H2 ⟨q,e⟩;exact⟨_,o9.of (q _ _ hp),by rw[ent.1];exact ae _⟩
 . rintro ys H2 l ⟨q,e⟩ nl;have s1':=c7 (o:=.lst ys) nl;refine⟨l,ys,rfl,.inl ⟨o7.of c4,λl2 n2=>?_⟩⟩;have s2:=c7 (o:=.tup ys) n2;exact k _ _ (q.trans (s1'.trans s2)) ⟨l2,ys,rfl,c4,e.mono λ_ _ _ z=>R.same (s1'.trans s2).t z⟩
def JA(w:World)(K:aa)(mg:Str->Option Value)(base:Heap):Sp:=λvs H Q _=>∃(R:c9 Pr w K mg base),∃kv ov tb h n A B r,vs=[kv,ov,tb]/\(U1 R.C R.fs H kv/\D1 R h n A ov H/\D1 R n n B tb H/\h<=1000/\n<=1000/\(∀i,i < h->∀j,j < n->Lg R.S r n (A i) (λk=>B k j))/\AM R.S (3 * r))/\
 ∀v H',j0 H H'->D1 R h n (λi j=>J7 R.S (A i) (λk=>B k j) n) v H'->Q v H'
def Kf(T:Txt K mg t):x8 Pr w K mg base F9 43 t.m0h t.j0l IB (JA w K mg base):=by
 refine T.j0w.F.ok JI (by rintro _ _ _ _ ⟨_,_,_,_,_,_,_,_,_,rfl,_⟩;rfl) λcdv A outer s H vs Q E hr h=>?_;obtain⟨R,kv,ov,tb,h,n,A',B,r,rfl,⟨hk,⟨p,rows,rfl,hp,ent⟩,ht,hh,hn,hz,hS⟩,k⟩:=h;refine⟨_,(c6 (c8 (j8 g9 (by rfl) T.z_tuple boot_tuple (B4 (z5 (xs:=["row"]) rfl (show w9 IB (b9 AC) _ from⟨rfl,dK,dK,dK,dK,dK⟩) (L9 (pv 1)) (λ_ _ _ _ _=>(l4 (i:=3) (by show List.Nodup (["kind","one","other","row"]:List Str);decide +kernel) rfl (Or.inl rfl))) (λ_ _ _ _ _=>(C3 (Hz (w:=w) (base:=base) T) hr.m rfl T.m0i.m T.m0i.F.kp T.m0i.b .nil C4 (X1 (pv 0) (pv 3) (pv 2))))))))),?_⟩;refine⟨_,rfl,p,rfl,⟨_,o9.of hp⟩,w5 (n:=h) (λj ys H2=>j0 H H2/\j7 (λi u H=>j9 R n (λj=>J7 R.S (A' i) (λk=>B k j) n) u H) ys j H2) hh ⟨j0.refl _,j7.nil⟩ (λj ys H2 q=>q.2.1) ?_ ?_ ?_⟩
 . rintro j ys H2 hj ⟨q,e⟩;obtain⟨u,eu,pu⟩:=ent.2 j hj;refine FT (o9.of (q _ _ hp)) eu ?_;refine⟨⟨[some _],rfl,rfl⟩,_,rfl,_,rfl,_,rfl,R,zB _ _ _ n n (A' j) B r ⟨rfl,⟨hk.same q,j9.same q.t pu,D1.same q.t ht,hn,hn,hz j hj,hS⟩,λv H3 s3 f3=>?_⟩⟩;rw[show(if n=0 then 0 else n)=n by split <;>omega]at f3;exact⟨q.trans s3,(e.mono λ_ _ _ z=>j9.same s3.t z).snoc f3⟩
 . rintro ys H2 ⟨q,e⟩;exact⟨_,o9.of (q _ _ hp),by rw[ent.1];exact ae _⟩
 . rintro ys H2 l ⟨q,e⟩ nl;have s1':=c7 (o:=.lst ys) nl;refine⟨l,ys,rfl,.inl ⟨o7.of c4,λl2 n2=>?_⟩⟩;have s2:=c7 (o:=.tup ys) n2;exact k _ _ (q.trans (s1'.trans s2)) ⟨l2,ys,rfl,c4,e.mono λ_ _ _ z=>j9.same (s1'.trans s2).t z⟩
abbrev Gp(R:c9 Pr w K mg base)(m n:Nat)(tb:Nat->Nat->Nat->R.S.W):V->Hp->Prop:=N8 (λj u H=>D1 R n n (tb j) u H) m
theorem Gp.same{R:c9 Pr w K mg base}{m n:Nat}{tb:Nat->Nat->Nat->R.S.W}{v:V}{H H':Hp}(s:B5 H H')(h:Gp R m n tb v H):Gp R m n tb v H':=h.mono s λ_ _ _ q=>D1.same s q
def x6(R:c9 Pr w K mg base)(l:List Nat)(n:Nat)(st:Nat->R.S.W)(tb:Nat->Nat->Nat->R.S.W)(en:Nat->R.S.W)(v:V)(H:Hp):Prop:=
 ∃p sv tv ev,v=.ref p/\H p=some (.tup [vT l,sv,tv,ev])/\j9 R n st sv H/\Gp R l.length n tb tv H/\j9 R n en ev H
theorem x6.same{R:c9 Pr w K mg base}{l:List Nat}{n:Nat}{st:Nat->R.S.W}{tb:Nat->Nat->Nat->R.S.W}{en:Nat->R.S.W}{v:V}{H H':Hp}(s:B5 H H')(h:x6 R l n st tb en v H):x6 R l n st tb en v H':=by
 obtain⟨p,sv,tv,ev,rfl,hp,h1,h2,h3⟩:=h;exact⟨p,sv,tv,ev,rfl,s _ _ hp,j9.same s h1,Gp.same s h2,j9.same s h3⟩
def Cf(R:c9 Pr w K mg base)(W:Nat)(ρ:List Nat->Nat->R.S.W)(ws:List (List Nat)):Nat->V->Hp->Prop:=λi u H=>∃wd q rv,ws[i]? = some wd/\u=.ref q/\H q=some (.tup [vT wd,rv])/\j9 R W (ρ wd) rv H
theorem Cf.same{R:c9 Pr w K mg base}{W i:Nat}{ρ:List Nat->Nat->R.S.W}{ws:List (List Nat)}{u:V}{H H':Hp}(s:B5 H H')(h:Cf R W ρ ws i u H):Cf R W ρ ws i u H':=by
 obtain⟨wd,q,rv,e,rfl,hq,r⟩:=h;exact⟨wd,q,rv,e,rfl,s _ _ hq,j9.same s r⟩
def K0(R:c9 Pr w K mg base)(W:Nat)(ρ:List Nat->Nat->R.S.W)(ws:List (List Nat))(a:Addr)(H:Hp):Prop:=∃us,H a=some (.lst us)/\j7 (Cf R W ρ ws) us ws.length H
theorem K0.same{R:c9 Pr w K mg base}{W:Nat}{ρ:List Nat->Nat->R.S.W}{ws:List (List Nat)}{a:Addr}{H H':Hp}(s:j0 H H')(h:K0 R W ρ ws a H):K0 R W ρ ws a H':=by
 obtain⟨us,ha,e⟩:=h;exact⟨us,s _ _ ha,e.mono λ_ _ _ q=>q.same s.t⟩
def Cf.up{R:c9 Pr w K mg base}{W i:Nat}{ρ:List Nat->Nat->R.S.W}{ws vs:List (List Nat)}{u:V}{H:Hp}(hi:i < ws.length)(h:Cf R W ρ ws i u H):Cf R W ρ (ws++vs) i u H:=by
 obtain⟨wd,q,rv,e,r⟩:=h;exact⟨wd,q,rv,by rw[aH hi];exact e,r⟩
def Cf.lift{R:c9 Pr w K mg base}{W i:Nat}{ρ:List Nat->Nat->R.S.W}{ws vs:List (List Nat)}{u:V}{H:Hp}(h:Cf R W ρ vs i u H):Cf R W ρ (ws++vs) (ws.length+i) u H:=by
 obtain⟨wd,q,rv,e,r⟩:=h;exact⟨wd,q,rv,by rw[aK oM,show ws.length+i - ws.length=i by omega];exact e,r⟩
def Gc{R:c9 Pr w K mg base}{W:Nat}{ρ:List Nat->Nat->R.S.W}{ws vs:List (List Nat)}{us xs:List V}{H:Hp}(h:j7 (Cf R W ρ ws) us ws.length H)(g:j7 (Cf R W ρ vs) xs vs.length H):j7 (Cf R W ρ (ws++vs)) (us++xs) (ws++vs).length H:=by
 refine⟨by rw[aq,aq,h.1,g.1],λj hj=>?_⟩;rw[aq]at hj;by_cases z:j < ws.length
 . obtain⟨u,e,p⟩:=h.2 j z;exact⟨u,by rw[aH (by rw[h.1];exact z)];exact e,p.up z⟩
 . obtain⟨u,e,p⟩:=g.2 (j - ws.length) oM;refine⟨u,by rw[aK (by rw[h.1];omega),h.1];exact e,?_⟩;have:=p.lift (ws:=ws);rwa [show ws.length+(j - ws.length)=j by omega]at this
def J6(D:Addr->Prop)(H H':Hp):Prop:=∀b o,¬D b->H b=some o->H' b=some o
def J6.of{D:Addr->Prop}{H H':Hp}(s:j0 H H'):J6 D H H':=λb o _ h=>s b o h
def J6.trans{D:Addr->Prop}{H H1 H2:Hp}(s:J6 D H H1)(s':J6 D H1 H2):J6 D H H2:=λb o n h=>s' b o n (s b o n h)
def spG(R:c9 Pr w K mg base)(W:Nat)(ρ:List Nat->Nat->R.S.W)(g:List (List Nat)->List (List Nat))(Ok:List (List Nat)->Prop)(D:Addr->Prop)(J:Hp->Prop):Sp:=λvs H Q _=>∃a ws,vs=[.ref a]/\(K0 R W ρ ws a H/\Ok ws/\J H)/\
 ∀b H',J6 D H H'->J H'->H b=none->K0 R W ρ (g ws) b H'->Q (.ref b) H'
theorem J6.tup{D:Addr->Prop}{H H':Hp}(s:J6 D H H')(h:∀b,D b->∃o,H b=some o/\(∀ts,o≠.tup ts)/\∀C dx fs,o≠.ins C dx fs):B5 H H':=λp ts e=>s p _ (λd=>by
 obtain⟨o,h1,h2,_⟩:=h p d;rw[e]at h1;exact h2 ts (Option.some.inj h1).symm) e
def U1.sameD{D:Addr->Prop}{H H':Hp}{C:Addr}{fs:List (Str × V)}{v:V}(s:J6 D H H')(h:∀b,D b->∃o,H b=some o/\(∀ts,o≠.tup ts)/\∀C dx fs,o≠.ins C dx fs)(k:U1 C fs H v):U1 C fs H' v:=by
 obtain⟨p,dx,rfl,e⟩:=k;refine⟨p,dx,rfl,s p _ (λd=>?_) e⟩;obtain⟨o,h1,_,h2⟩:=h p d;rw[e]at h1;exact h2 _ _ _ (Option.some.inj h1).symm
def l9.lt{a:Addr}{xs:List V}{H H':Hp}(s:l9 a H H')(h:H a=some (.lst xs)):B5 H H':=λp ts e=>s p _ (λz=>by rw[z,h]at e;cases e) e
def K0.sameX{R:c9 Pr w K mg base}{W:Nat}{ρ:List Nat->Nat->R.S.W}{ws:List (List Nat)}{a b:Addr}{xs:List V}{H H':Hp}(s:l9 b H H')(hb:H b=some (.lst xs))(n:a≠b)(h:K0 R W ρ ws a H):K0 R W ρ ws a H':=by
 obtain⟨us,ha,e⟩:=h;exact⟨us,s _ _ n ha,e.mono λ_ _ _ q=>q.same (s.lt hb)⟩
def M6.sameX{R:c9 Pr w K mg base}{W:Nat}{ks:List (Nat × (Nat->R.S.W))}{a b:Addr}{xs:List V}{H H':Hp}(s:l9 b H H')(hb:H b=some (.lst xs))(n:a≠b)(h:M6 R W ks a H):M6 R W ks a H':=by
 obtain⟨us,ha,e⟩:=h;exact⟨us,s _ _ n ha,e.mono λ_ _ _ q=>q.same (s.lt hb)⟩
def K0.sameD{R:c9 Pr w K mg base}{W:Nat}{ρ:List Nat->Nat->R.S.W}{ws:List (List Nat)}{a:Addr}{D:Addr->Prop}{H H':Hp}(s:J6 D H H')(t:B5 H H')(n:¬D a)(h:K0 R W ρ ws a H):K0 R W ρ ws a H':=by
 obtain⟨us,ha,e⟩:=h;exact⟨us,s _ _ n ha,e.mono λ_ _ _ q=>q.same t⟩
def M6.sameD{R:c9 Pr w K mg base}{W:Nat}{ks:List (Nat × (Nat->R.S.W))}{a:Addr}{D:Addr->Prop}{H H':Hp}(s:J6 D H H')(t:B5 H H')(n:¬D a)(h:M6 R W ks a H):M6 R W ks a H':=by
 obtain⟨us,ha,e⟩:=h;exact⟨us,s _ _ n ha,e.mono λ_ _ _ q=>q.same t⟩
def Hk.imp{P:Program}{w:World}{K:aa}{mg:Str->Option Value}{base:Heap}{k:Nat}{f:Addr}{sp sp':Sp}(F:Hk P w K mg base k f sp)(h:∀v H Q,sp' [v] H Q E0->sp [v] H Q E0):Hk P w K mg base k f sp':=
 ⟨F.fn,λA outer s H u v Q hr e rv q=>F.run A outer s H u v Q hr e rv (h v H Q q)⟩
def GA(w:World)(K:aa)(mg:Str->Option Value)(base:Heap):Sp:=λvs H Q _=>∃(R:c9 Pr w K mg base),∃kv fv f,∃(W β r:Nat),∃ρ g Ok D J,vs=[kv,fv,.ref f]/\(U1 R.C R.fs H kv/\j9 R W (ρ []) fv H/\W<=60/\Hk Pr w K mg base 48 f (spG R W ρ g Ok D J)/\(J H/\(∀G G',j0 G G'->J G->J G')/\∀a xs G G',H a=none->G a=some (.lst xs)->l9 a G G'->J G->J G')/\(∀G,J G->∀b,D b->∃o,G b=some o/\(∀ts,o≠.tup ts)/\∀C dx fs,o≠.ins C dx fs)/\g []=[]/\
    (∀i,(B3 R.F W ρ g i).last≠[]->Ok (Em R.F W ρ (B3 R.F W ρ g i).ks (B3 R.F W ρ g i).last))/\(∀i,∀u∈(B3 R.F W ρ g i).last,XB R.B W β r (ρ u))/\AM R.S (3 * (β+(r+1) * 2 ^ W)))/\
 ∀b H',J6 D H H'->J H'->H b=none->K0 R W ρ (Fb R.F W ρ g) b H'->Q (.ref b) H'
def GQ(T:Txt K mg t):x8 Pr w K mg base F9 51 t.k0i t.h0z ["kind","first","grown"] (GA w K mg base):=by
 refine T.h0t.F.ok J3 (by rintro _ _ _ _ ⟨_,_,_,_,_,_,_,_,_,_,_,_,rfl,_⟩;rfl) λcdv A outer s H vs Q E hr h=>?_;obtain⟨R,kv,fv,f,W,β,r,ρ,g,Ok,D,J,rfl,⟨hk,hf,hW,hG,⟨hJ,hJs,hJl⟩,hD,hg0,hOk,hX,hS⟩,k⟩:=h;refine⟨_,(a8 (sT 3 J3.nd (D3 K5)) (a8 (sT 4 J3.nd (D3 K5)) (a8 (sT 5 J3.nd (D3 (B4 (E5 (F6 Eb (pv 1)))))) (a8 (Bq aB (o8 Cg (l5 w8 (by rfl) T.z_len PySem.boot_len (B4 (pv 5))) c5 (w6 _)) (a8 (sT 6 J3.nd (D3 K5)) (a8 (D7 aB rfl (C9 (pv 5)) (gN 7 J3.nd) (c6 (B0 (D2 (E6 (Nj T) hr.m T.n0g (Ew (pv 0) (pv 3) (j5 i0 (pv 7) c5 (λ_ _=>rfl)) (l5 w8 (by rfl) T.z_len PySem.boot_len (B4 (pv 1)))))) (c6 (F8 (U0 ba bz bA G0 (pv 6) (B4 (pv 7))))) o5))) (a8 (F8 (U0 ba PySem.F.slot_list_extend PySem.F.type_list_extend HB (pv 4) (B4 (pv 6)))) (c6 (sT 5 J3.nd (Qd (i:=2) (k:=48) hr.m (B4 (pv 6))))))))) (c6 (c8 (pv 4))))))),?_⟩;refine⟨(by show 0<=sizeLine;decide),λka nk=>?_⟩;refine E8 (o:=.lst []) nk λH1 s1 k1=>?_;refine⟨(by show 0<=sizeLine;decide),λta nt=>?_⟩;refine E8 (o:=.lst []) nt λH2 s2 k2=>?_;have tk:ta≠ka:=λz=>by rw[z,k1]at nt;cases nt
 show E9 4 (V.ref ta) [some kv,some fv,some (.ref f),some (.ref ka),none,none,none,none] H2 _;refine⟨_,rfl,(by show 2<=sizeLine;decide),λtp ntp=>?_⟩;rw[TR];refine E8 (o:=.tup [V.str (tx []),fv]) ntp λH3 s3 k3=>?_;refine⟨(by show 1<=sizeLine;decide),λla nl=>?_⟩;refine E8 (o:=.lst [V.ref tp]) nl λH4 s4 k4=>?_;show E9 5 (V.ref la) [some kv,some fv,some (.ref f),some (.ref ka),some (.ref ta),none,none,none] H4 _;have q2:=s1.trans s2;have q3:=q2.trans s3;have q4:=q3.trans s4;have nta:H ta=none:=by
  cases e:H ta with
  | none=>rfl
  | some o=>rw[s1 _ _ e]at nt;cases nt
 have nla:H la=none:=by
  cases e:H la with
  | none=>rfl
  | some o=>rw[q3 _ _ e]at nl;cases nl
 have lk:la≠ka:=λz=>by rw[z,s3 _ _ (s2 _ _ k1)]at nl;cases nl
 have lt:la≠ta:=λz=>by rw[z,s3 _ _ k2]at nl;cases nl
 refine⟨λm σ G=>∃(i:Nat) (la:Addr) (v6 v7:Option V),σ=[some kv,some fv,some (.ref f),some (.ref ka),some (.ref ta),some (.ref la),v6,v7]/\m=Wu W (B3 R.F W ρ g i)/\J6 D H G/\J G/\M6 R W (B3 R.F W ρ g i).ks ka G/\K0 R W ρ (B3 R.F W ρ g i).told ta G/\K0 R W ρ (B3 R.F W ρ g i).last la G/\H la=none/\la≠ka/\la≠ta,⟨_,0,la,za ⟨rfl,rfl,J6.of q4,hJs _ _ q4 hJ,⟨_,(s2.trans (s3.trans s4)) _ _ k1,j7.nil⟩,⟨_,(s3.trans s4) _ _ k2,j7.nil⟩,⟨_,k4,j7.snoc j7.nil ⟨[],tp,fv,rfl,rfl,s4 _ _ k3,j9.same q4.t hf⟩⟩,nla,lk,lt⟩⟩,?_⟩
 rintro m σ G ⟨i,la,v6,v7,rfl,rfl,sD,jG,hK,hT,hL,nla,lk,lt⟩;have hL0:=hL;obtain⟨us,hla,eL⟩:=hL;have hlen:X2 K (.ref la) G (B3 R.F W ρ g i).last.length:=.inl ⟨_,o7.of hla,eL.1.symm⟩;refine⟨_,rfl,za ⟨rfl,hlen,za ⟨rfl,rfl,_,rfl,?_⟩⟩⟩;refine Cd (λh0=>?_) (λh0=>?_)
 . have ne:(B3 R.F W ρ g i).last≠[]:=λz=>by rw[z]at h0;exact absurd h0 (by decide)
   refine⟨λσ' G'=>∃(la:Addr) (v6 v7:Option V),σ'=[some kv,some fv,some (.ref f),some (.ref ka),some (.ref ta),some (.ref la),v6,v7]/\J6 D H G'/\J G'/\M6 R W (B3 R.F W ρ g (i+1)).ks ka G'/\K0 R W ρ (B3 R.F W ρ g (i+1)).told ta G'/\K0 R W ρ (B3 R.F W ρ g (i+1)).last la G'/\H la=none/\la≠ka/\la≠ta,
    λσ' G' ⟨la,v6,v7,e1,e2,e3,e4,e5,e6,e7,e8,e9⟩=>⟨_,QQ hg0 ne,i+1,la,v6,v7,e1,rfl,e2,e3,e4,e5,e6,e7,e8,e9⟩,?_⟩
   have dG:=hD _ jG;have nd:∀{b:Addr},H b=none->¬D b:=λ{b} e d=>by
    obtain⟨o,h1,_⟩:=hD _ hJ b d;rw[e]at h1;cases h1
   have nn:∀{b:Addr} {G:Hp},J6 D H G->J G->G b=none->H b=none:=λ{b G} sG jG e=>by
    cases e':H b with
    | none=>rfl
    | some o=>
     by_cases d:D b
     . obtain⟨o,h1,_⟩:=hD _ jG b d;rw[e]at h1;cases h1
     . rw[sG b o d e']at e;cases e
   refine⟨(by show 0<=sizeLine;decide),λfa nf=>?_⟩;have t1:=c7 (o:=.lst ([]:List V)) nf;have f1:=c4 (H:=G) (a:=fa) (o:=.lst []);have nfa:=nn sD jG nf;have fk:fa≠ka:=λz=>by obtain⟨_,e,_⟩:=hK;rw[<- z,nf]at e;cases e
   have ft:fa≠ta:=λz=>by obtain⟨_,e,_⟩:=hT;rw[<- z,nf]at e;cases e
   have fl:fa≠la:=λz=>by rw[<- z,nf]at hla;cases hla
   revert t1 f1;generalize upd G fa (.lst [])=G1;intro t1 f1;show E9 6 (V.ref fa) [some kv,some fv,some (.ref f),some (.ref ka),some (.ref ta),some (.ref la),v6,v7] G1 _;have KP:∀j,Kp R.S W (DJ R.F W ρ (B3 R.F W ρ g i).ks ((B3 R.F W ρ g i).last.take j)):=λj=>MA (T6 i);have KB:∀j,Kb R.B W r (DJ R.F W ρ (B3 R.F W ρ g i).ks ((B3 R.F W ρ g i).last.take j)):=λj=>MD (β:=β) (ae _) (QP (β:=β) (ae _) hX i) λu hu=>hX i u (cU hu);have FL:∀j,(Em R.F W ρ (B3 R.F W ρ g i).ks ((B3 R.F W ρ g i).last.take j)).length<=W:=λj=>by
    have:=AJ (F:=R.F) (l:=W) (ρ:=ρ) (ws:=(B3 R.F W ρ g i).last.take j) (ks:=(B3 R.F W ρ g i).ks);have:=(KP j).len;omega
   have zl:10000 < sizeLine:=by decide
   refine⟨_,rfl,la,rfl,⟨_,o7.of (t1 _ _ hla)⟩,BI (K:=K) (a:=la) (xs:=us) (λj σ G2=>∃v7,σ=[some kv,some fv,some (.ref f),some (.ref ka),some (.ref ta),some (.ref la),some (.ref fa),v7]/\J6 D H G2/\J G2/\M6 R W (DJ R.F W ρ (B3 R.F W ρ g i).ks ((B3 R.F W ρ g i).last.take j)) ka G2/\K0 R W ρ (B3 R.F W ρ g i).told ta G2/\(G2 la=some (.lst us)/\j7 (Cf R W ρ (B3 R.F W ρ g i).last) us (B3 R.F W ρ g i).last.length G2)/\K0 R W ρ (Em R.F W ρ (B3 R.F W ρ g i).ks ((B3 R.F W ρ g i).last.take j)) fa G2)
    ⟨_,rfl,sD.trans (.of t1),hJs _ _ t1 jG,hK.same t1,hT.same t1,⟨t1 _ _ hla,eL.mono λ_ _ _ q=>q.same t1.t⟩,⟨_,f1,j7.nil⟩⟩ (λj σ G2 _ ⟨_,_,_,_,_,_,e,_⟩=>o7.of e.1) ?_ ?_⟩
   . rintro j y σ G2 hj ⟨v7,rfl,sD2,jG2,hK2,hT2,⟨hla2,eL2⟩,hF2⟩;obtain⟨jl,wd,q,rv,ew,rfl,hq,ro⟩:=eL2.at hj;have dG2:=hD _ jG2;have st2:B5 H G2:=sD2.tup (hD _ hJ);have hk2:U1 R.C R.fs G2 kv:=U1.sameD sD2 (hD _ hJ) hk;have ts:(B3 R.F W ρ g i).last.take (j+1)=(B3 R.F W ρ g i).last.take j++[wd]:=J8 ew;have ek:DJ R.F W ρ (B3 R.F W ρ g i).ks ((B3 R.F W ρ g i).last.take (j+1))=AI R.F W (DJ R.F W ρ (B3 R.F W ρ g i).ks ((B3 R.F W ρ g i).last.take j)) (ρ wd):=by rw[ts,QR]
     have ef:Em R.F W ρ (B3 R.F W ρ g i).ks ((B3 R.F W ρ g i).last.take (j+1))=Em R.F W ρ (B3 R.F W ρ g i).ks ((B3 R.F W ρ g i).last.take j)++(if(AI R.F W (DJ R.F W ρ (B3 R.F W ρ g i).ks ((B3 R.F W ρ g i).last.take j)) (ρ wd)).length≠(DJ R.F W ρ (B3 R.F W ρ g i).ks ((B3 R.F W ρ g i).last.take j)).length then [wd]else []):=by rw[ts,KH]
     refine⟨_,rfl,_,rfl,_,rfl,zg ⟨rfl,rfl,o9.of hq,rfl,_,rfl,za ⟨rfl,(j9.same st2 hf).len,R,zB kv ka rv W W (β+(r+1) * 2 ^ W) _ (ρ wd) ⟨rfl,⟨hk2,hK2,KP j,ro,ae _,oM,λ_=>(KB j).clrZ (hX i wd (aZ ew)) (KP j).len (ae _),hS⟩,λG3 s3 K3=>?_⟩⟩⟩⟩;obtain⟨kus,hka2,_⟩:=id hK2;have hF3:=hF2.sameX s3 hka2 fk;have hT3:=hT2.sameX s3 hka2 tk;have st3:=s3.lt hka2;have sD3:J6 D H G3:=λb o d e=>s3 b o (l7 e nk) (sD2 b o d e);have jG3:=hJl ka _ _ _ nk hka2 s3 jG2;have hla3:=s3 _ _ lk hla2;have eL3:=eL2.mono λ_ _ _ (q:Cf R W ρ (B3 R.F W ρ g i).last _ _ _)=>q.same st3;by_cases hc:(AI R.F W (DJ R.F W ρ (B3 R.F W ρ g i).ks ((B3 R.F W ρ g i).last.take j)) (ρ wd)).length≠(DJ R.F W ρ (B3 R.F W ρ g i).ks ((B3 R.F W ρ g i).last.take j)).length
     . rw[if_pos hc]at ef;rw[decide_eq_true hc];refine⟨_,rfl,?_⟩;refine Hd ?_;obtain⟨fus,hfa3,eF3⟩:=hF3;have:=FL j;refine⟨_,rfl,.inl ⟨rfl,_,o7.of hfa3⟩,_,rfl,fa,fus,V.ref q,rfl,rfl,hfa3,(by rw[eF3.1];omega),?_⟩;have sx:l9 fa G3 (upd G3 fa (.lst (fus++[V.ref q]))):=l9.upd;have sl:=B7 (o:=.lst (fus++[V.ref q])) hfa3;refine⟨_,rfl,λb o d e=>sx b o (l7 e nfa) (sD3 b o d e),hJl fa _ _ _ nfa hfa3 sx jG3,?_,hT3.sameX sx hfa3 (Ne.symm ft),⟨sx _ _ (Ne.symm fl) hla3,eL3.mono λ_ _ _ q=>q.same sl⟩,?_⟩
       . rw[ek];exact K3.sameX sx hfa3 (Ne.symm fk)
       . rw[ef];refine⟨_,c4,Gc (eF3.mono λ_ _ _ q=>q.same sl) (j7.snoc j7.nil ⟨wd,q,rv,rfl,rfl,sl _ _ (st3 _ _ hq),j9.same sl (j9.same st3 ro)⟩)⟩
     . rw[if_neg hc,bb]at ef;rw[decide_eq_false hc];refine⟨_,rfl,?_⟩;refine L7 ?_;refine⟨_,rfl,sD3,jG3,?_,hT3,⟨hla3,eL3⟩,?_⟩
       . rw[ek];exact K3
       . rw[ef];exact hF3
   . rintro σ G2 ⟨v7,rfl,sD2,jG2,hK2,hT2,⟨hla2,eL2⟩,hF2⟩;rw[eL2.1,bo]at hK2 hF2;have FL:=FL (B3 R.F W ρ g i).last.length;rw[bo]at FL;obtain⟨fus,hfa2,eF2⟩:=id hF2;obtain⟨tus,hta2,eT2⟩:=id hT2;have tl:=IU (F:=R.F) (l:=W) (ρ:=ρ) (g:=g) i;have tl2:=(T6 (F:=R.F) (l:=W) (ρ:=ρ) (g:=g) i).len;refine⟨_,rfl,.inl ⟨rfl,_,o7.of hta2⟩,_,rfl,ta,fa,tus,fus,rfl,rfl,hta2,hfa2,(by rw[eF2.1,eT2.1];omega),?_⟩;have sx:l9 ta G2 (upd G2 ta (.lst (tus++fus))):=l9.upd;have sl:=B7 (o:=.lst (tus++fus)) hta2;have sD3:J6 D H (upd G2 ta (.lst (tus++fus))):=λb o d e=>sx b o (l7 e nta) (sD2 b o d e);have jG3:=hJl ta _ _ _ nta hta2 sx jG2;have hK3:=hK2.sameX sx hta2 (Ne.symm tk);have hF3:=hF2.sameX sx hta2 ft;have hT3:K0 R W ρ (B3 R.F W ρ g (i+1)).told ta (upd G2 ta (.lst (tus++fus))):=⟨_,c4,Gc (eT2.mono λ_ _ _ q=>q.same sl) (eF2.mono λ_ _ _ q=>q.same sl)⟩;revert sD3 jG3 hK3 hF3 hT3;generalize upd G2 ta (.lst (tus++fus))=G3;intro sD3 jG3 hK3 hF3 hT3;refine⟨f,_,rfl,hG,_,rfl,rfl,fa,_,rfl,⟨hF3,hOk i ne,jG3⟩,λb G4 s4 j4 n4 P4=>?_⟩;have st4:=s4.tup (hD _ jG3);obtain⟨_,e1,_⟩:=id hK3;obtain⟨_,e2,_⟩:=id hT3;exact⟨b,za ⟨rfl,sD3.trans s4,j4,hK3.sameD s4 st4 (nd nk),hT3.sameD s4 st4 (nd nta),P4,nn sD3 jG3 n4,(λz=>by rw[<- z,n4]at e1;cases e1),(λz=>by rw[<- z,n4]at e2;cases e2)⟩⟩
 . have ne:(B3 R.F W ρ g i).last=[]:=by
    cases e:(B3 R.F W ρ g i).last with
    | nil=>rfl
    | cons a b=>rw[e]at h0;exact absurd (by simp) h0
   refine⟨_,rfl,?_⟩;rw[QM hg0 ne]at hT;exact k _ _ sD jG nta hT
def HU(w:World)(K:aa)(mg:Str->Option Value)(base:Heap):Sp:=λvs H Q _=>∃(R:c9 Pr w K mg base),∃rv,∃a,∃(n:Nat),∃x,∃(ps:List Nat),vs=[rv,.ref a]/\(j9 R n x rv H/\H a=some (.lst (ps.map λp:Nat=>V.int (p:Int)))/\(∀p∈ps,p < n)/\ps.length<=1000)/\
 ∀v H',j0 H H'->j9 R ps.length (λj=>x (ps.getD j 0)) v H'->Q v H'
def Do(T:Txt K mg t):x8 Pr w K mg base F9 1 t.l0f t.i0j Qm (HU w K mg base):=by
 refine T.i0z.F.ok Ie (by rintro _ _ _ _ ⟨_,_,_,_,_,_,rfl,_⟩;rfl) λcdv A outer s H vs Q E hr h=>?_;obtain⟨R,rv,a,n,x,ps,rfl,⟨hx,ha,hp,hn⟩,k⟩:=h;refine⟨_,(c6 (c8 (j8 g9 (by rfl) T.z_tuple boot_tuple (B4 (z5 (xs:=["place"]) rfl (show w9 Qm (b9 X9) _ from⟨rfl,dK,dK,dK,dK,dK⟩) (C9 (pv 1)) (λ_ _ _ _ _=>(l4 (i:=2) (by show List.Nodup (["row","places","place"]:List Str);decide +kernel) rfl (Or.inl rfl))) (λ_ _ _ _ _=>(j5 (show Le _ (GL K)from i0) (pv 0) (pv 2) (λ_ _=>rfl)))))))),?_⟩;refine⟨_,rfl,a,rfl,⟨_,o7.of ha⟩,w5 (n:=ps.length) (λj ys H2=>j7 (λj u H=>R.is H u (x (ps.getD j 0))) ys j H/\H2=H) hn ⟨j7.nil,rfl⟩ (λj ys H2 q=>q.1.1) ?_ ?_ ?_⟩
 . rintro j ys H2 hj ⟨e,rfl⟩;have ej:(ps.map λp:Nat=>V.int (p:Int))[j]? = some (V.int ((ps[j]:Nat):Int)):=by rw[ay,ag hj];rfl
   refine Dy (o7.of ha) ej ?_;obtain⟨p,us,u,rfl,h1,h2,h3⟩:=j9.at hx (hp _ (aM hj));refine⟨⟨[some _],rfl,rfl⟩,_,rfl,_,rfl,zg ⟨rfl,rfl,h1,h2,?_⟩⟩;have eg:ps.getD j 0=ps[j]:=by rw[bD,ag hj];rfl
   exact⟨e.snoc (by rw[eg];exact h3),rfl⟩
 . rintro ys H2 ⟨e,rfl⟩;exact⟨_,o7.of ha,by rw[af];exact ae _⟩
 . rintro ys H2 l ⟨e,rfl⟩ nl;have s1:=c7 (o:=.lst ys) nl;refine⟨l,ys,rfl,.inl ⟨o7.of c4,λl2 n2=>?_⟩⟩;have s2:=c7 (o:=.tup ys) n2;exact k _ _ (s1.trans s2) ⟨l2,ys,rfl,c4,e.mono λ_ _ _ q=>R.same (s1.trans s2).t q⟩
structure Aa(l:List Nat):Prop where
 nd:l.Nodup
 as:∀c∈l,c < 128
 h3:l.length<=3
def Aa.asc{l:List Nat}(L:Aa l):(tx l).cps.all (· < 128)=true:=Um L.as
def VU{l:List Nat}(nd:l.Nodup){j c:Nat}(h:l[j]? = some c):l.idxOf c=j:=by
 obtain⟨hj,e⟩:=aQ.mp h;have h1:l.idxOf c < l.length:=dm.mpr (by rw[<- e];exact aM hj);have h2:=List.getElem_idxOf h1;exact(List.getElem_inj nd).mp (h2.trans e.symm)
def AS(w:World)(K:aa)(mg:Str->Option Value)(base:Heap):Sp:=λvs H Q _=>∃(R:c9 Pr w K mg base),∃kv mv a l,∃(n μ:Nat),∃st tb en ws,vs=[kv,mv,.ref a]/\(U1 R.C R.fs H kv/\x6 R l n st tb en mv H/\MB R.B n l.length μ st tb en/\Aa l/\n<=60/\K0 R n (y6 R.S n st (E7 l tb)) ws a H/\(∀u∈ws,u.length<=n/\∀c∈u,c∈l)/\ws.length<=1000/\AM R.S (3 * ((n+2) * (μ+n))))/\
 ∀b H',j0 H H'->H b=none->K0 R n (y6 R.S n st (E7 l tb)) (gB l ws) b H'->Q (.ref b) H'
def AV(T:Txt K mg t):x8 Pr w K mg base F9 45 t.f0m t.e0y ["kind","machine","last"] (AS w K mg base):=by
 refine T.e0z.F.ok F7 (by rintro _ _ _ _ ⟨_,_,_,_,_,_,_,_,_,_,_,rfl,_⟩;rfl) λcdv A outer s H vs Q E hr h=>?_;obtain⟨R,kv,mv,a,l,n,μ,st,tb,en,ws,rfl,⟨hk,hM,hB,L,hn,⟨us,ha,eP⟩,hw,hwl,hS⟩,k⟩:=h;obtain⟨mp,sv,tv,ev,rfl,hm,_,hT,_⟩:=id hM;have zl:10000 < sizeLine:=by decide
 refine⟨_,(a8 (sT 3 F7.nd (D3 K5)) (a8 (D7 aB rfl (C9 (pv 2)) (F1 rfl (j6 (l4 (i:=4) F7.nd rfl (Or.inr rfl)) (j6 (l4 (i:=5) F7.nd rfl (Or.inr rfl)) C7))) (c6 (F8 (U0 ba PySem.F.slot_list_extend PySem.F.type_list_extend HB (pv 3) (B4 (z5 (xs:=["letter","table"]) rfl (show w9 ["kind","machine","last","told","word","row"] (b9 J0) _ from⟨rfl,dK,dK,dK,dK,dK⟩) (Z9 rfl T.z_zip (F6 (j5 i0 (pv 1) c5 (λ_ _=>rfl)) (j5 i0 (pv 1) c5 (λ_ _=>rfl)))) (λ_ _ _ _ _=>(show PG _ _ (ET K 2 _)from(F1 rfl (j6 (l4 (i:=6) (by show List.Nodup (d0g);decide +kernel) rfl (Or.inl rfl)) (j6 (l4 (i:=7) (by show List.Nodup (d0g);decide +kernel) rfl (Or.inl rfl)) C7))))) (λ_ _ _ _ _=>(E5 (F6 (o6 Ma (pv 4) (pv 6)) (C3 (Hz (w:=w) (base:=base) T) hr.m rfl T.m0i.m T.m0i.F.kp T.m0i.b .nil C4 (X1 (pv 0) (pv 5) (pv 7)))))))))))) (c6 (c8 (pv 3))))),?_⟩;refine⟨(by show 0<=sizeLine;decide),λb nb=>?_⟩;refine E8 (o:=.lst []) nb λH1 s1 k1=>?_;have ab:a≠b:=λz=>by rw[z,nb]at ha;cases ha
 show E9 3 (V.ref b) [some kv,some (.ref mp),some (.ref a),none,none,none] H1 _;refine⟨_,rfl,a,rfl,⟨_,o7.of (s1 _ _ ha)⟩,BI (K:=K) (a:=a) (xs:=us) (λj σ G=>∃v4 v5,σ=[some kv,some (.ref mp),some (.ref a),some (.ref b),v4,v5]/\j0 H G/\K0 R n (y6 R.S n st (E7 l tb)) (gB l (ws.take j)) b G) ⟨_,_,rfl,s1,⟨_,k1,j7.nil⟩⟩ (λj σ G _ ⟨_,_,_,q,_⟩=>o7.of (q _ _ ha)) ?_ ?_⟩
 . rintro j y σ G hj ⟨v4,v5,rfl,q,hP⟩;obtain⟨jl,wd,p,rv,ew,rfl,hp,ro⟩:=eP.at hj;obtain⟨wl,wc⟩:=hw wd (aZ ew);refine⟨p,_,rfl,o9.of (q _ _ hp),rfl,za ⟨rfl,za ⟨rfl,rfl,?_⟩⟩⟩;obtain⟨tp,tabs,rfl,htp,eT⟩:=id hT;obtain⟨bus,hb,eB⟩:=id hP;have bl:=eB.1;rw[QL]at bl;have wt:(ws.take j).length * l.length<=1000 * 3:=bx (by rw[bK];omega) L.h3;have zx:XB R.B n ((n+1) * (μ+n)) ((n+1) * (μ+n)) (y6 R.S n st (E7 l tb) wd):=(hB.row wd wc).mono (N9 wl) (N9 wl);have e2:(n+2) * (μ+n)=(n+1) * (μ+n)+(μ+n):=bQ ..;refine⟨_,rfl,.inl ⟨rfl,_,o7.of hb⟩,_,rfl,zg ⟨rfl,rfl,o9.of (q _ _ hm),rfl,_,rfl,zg ⟨rfl,rfl,o9.of (q _ _ hm),rfl,.str (tx l),.tup tp,za ⟨l.map (λc=>vT [c]),tabs,rfl,rfl,rfl,(CY l).symm,o9.of (q _ _ htp),w5 (n:=l.length) (λi ys G2=>j0 G G2/\j7 (Cf R n (y6 R.S n st (E7 l tb)) (l.map λc=>wd++[c])) ys i G2) (by have:=L.h3;omega) ⟨j0.refl _,j7.nil⟩ (λj ys H2 q=>q.2.1) ?_ ?_ ?_⟩⟩⟩⟩
   . rintro i ys G2 hi ⟨q2,e⟩;obtain⟨u,eu,pu⟩:=eT.2 i hi;have ec:(l.map λc=>vT [c])[i]? = some (vT [l[i]]):=by rw[ay,ag hi];rfl
     have q02:=q.trans q2;refine⟨⟨_,tabs,_,u,(CY l).symm,o9.of (q02 _ _ htp),ec,eu⟩,λy' H' hy=>?_⟩;obtain⟨pp,x',y',rfl,np,rfl,f1,f2⟩:=hy;have e1:=f1 _ (CY l).symm;rw[ec]at e1;cases e1;have e2':=f2 _ (o9.of (q02 _ _ htp));rw[eu]at e2';cases e2';have s3:=c7 (o:=.tup [vT [l[i]],u]) np;have q3:=q02.trans s3;refine⟨pp,_,rfl,o9.of c4,rfl,za ⟨rfl,za ⟨rfl,rfl,⟨[some _,some _],rfl,rfl⟩,_,rfl,_,rfl,za ⟨rfl,rfl,(by show(tx wd).length+(tx [l[i]]).length<=_;rw[Y8,Y8];simp;omega),?_⟩⟩⟩⟩;refine⟨_,rfl,_,rfl,_,rfl,R,zB _ _ _ n n (y6 R.S n st (E7 l tb) wd) (tb i) ((n+2) * (μ+n)) ⟨rfl,⟨hk.same q3,j9.same q3.t ro,D1.same q3.t pu,oM,oM,λj hj=>Fe zx ((hB.tb i hi).col hj) oM oM,hS⟩,λv H3 s3' f3=>?_⟩⟩;rw[show(if n=0 then 0 else n)=n by split <;>omega]at f3;refine⟨(by show 2<=sizeLine;decide),λp5 n5=>?_⟩;rw[Uo];have s5:=c7 (o:=.tup [V.str (tx (wd++[l[i]])),v]) n5;refine⟨q2.trans (s3.trans (s3'.trans s5)),(e.mono λ_ _ _ z=>z.same (s3.trans (s3'.trans s5)).t).snoc ⟨wd++[l[i]],p5,v,by rw[ay,ag hi];rfl,rfl,c4,j9.same s5.t ?_⟩⟩;have ei:E7 l tb l[i]=tb i:=by unfold E7;rw[VU L.nd (ag hi)]
     rw[E1,ei];exact f3
   . rintro ys G2 ⟨q2,e⟩;exact⟨_,tabs,(CY l).symm,o9.of ((q.trans q2) _ _ htp),.inl (by rw[af])⟩
   . rintro ys G2 z ⟨q2,e⟩ nl;refine E8 (o:=.lst ys) nl λG3 s3 k3=>?_;have q3:=q2.trans s3;have hb3:=q3 _ _ hb;have l3:=L.h3;refine⟨b,z,bus,ys,rfl,rfl,hb3,k3,(by rw[bl,e.1];omega),?_⟩;have sx:l9 b G3 (upd G3 b (.lst (bus++ys))):=l9.upd;have sl:=B7 (o:=.lst (bus++ys)) hb3;refine za ⟨rfl,λc o hc=>sx c o (l7 hc nb) ((q.trans q3) c o hc),?_⟩;rw[SZ ew];have el:l.length=(l.map λc=>wd++[c]).length:=by rw[af]
     rw[el]at e;exact⟨_,c4,Gc (eB.mono λ_ _ _ z=>(z.same q3.t).same sl) (e.mono λ_ _ _ z=>(z.same s3.t).same sl)⟩
 . rintro σ G ⟨v4,v5,rfl,q,hP⟩;rw[eP.1,bo]at hP;exact⟨_,rfl,k _ _ q nb hP⟩
def qAL:Str:=(("alike":Str)++".<locals>.")++"<lambda>"
def tabs(t:Rn):List (Addr × Str):=[(t.P_echelon,qE),(t.P_alike,qAL)]
def Rv(T:Txt K mg t):((tabs t).map Prod.fst).Nodup:=T.d_tabs
def Ts:(t.P_echelon,qE)∈tabs t:=by simp[tabs]
def Pb:(t.P_alike,qAL)∈tabs t:=by simp[tabs]
def DT(t:Rn)(b:Addr):Prop:=∃q,(b,q)∈tabs t
def M1(t:Rn)(H:Hp):Prop:=∀p∈tabs t,O9 H p.1 p.2
theorem M1.same{H H':Hp}(s:j0 H H')(h:M1 t H):M1 t H':=λp hp=>O9.same s (h p hp)
def O9.sameX{a P:Addr}{q:Str}{xs:List V}{H H':Hp}(s:l9 a H H')(ha:H a=some (.lst xs))(h:O9 H P q):O9 H' P q:=by
 obtain⟨ps,h1,h2,h3⟩:=h;refine⟨ps,s _ _ (Y5 h1 ha (by simp)) h1,h2,λlp v e=>?_⟩;obtain⟨c,e1,oc,vs,t,y1,y2⟩:=h3 lp v e;exact⟨c,e1,oc,vs,t,s _ _ (Y5 y1 ha (by simp)) y1,y2⟩
theorem M1.sameX{a:Addr}{xs:List V}{H H':Hp}(s:l9 a H H')(ha:H a=some (.lst xs))(h:M1 t H):M1 t H':=λp hp=>O9.sameX s ha (h p hp)
def Q5.sameX{a c:Addr}{q:Str}{xs:List V}{H H':Hp}(s:l9 a H H')(ha:H a=some (.lst xs))(h:Q5 H c q):Q5 H' c q:=by
 obtain⟨oc,vs,t,y1,y2⟩:=h;exact⟨oc,vs,t,s _ _ (Y5 y1 ha (by simp)) y1,y2⟩
def Q5.same0{c:Addr}{q:Str}{H H':Hp}(s:j0 H H')(h:Q5 H c q):Q5 H' c q:=by
 obtain⟨oc,vs,t,y1,y2⟩:=h;exact⟨oc,vs,t,s _ _ y1,y2⟩
def M1.not{H:Hp}(h:M1 t H):∀b,DT t b->∃o,H b=some o/\(∀ts,o≠.tup ts)/\∀C dx fs,o≠.ins C dx fs:=λb ⟨q,hq⟩=>by
 obtain⟨ps,h1,_⟩:=h _ hq;exact⟨_,h1,λ_=>by simp,λ_ _ _=>by simp⟩
theorem M1.lst{H:Hp}{b:Addr}{xs:List V}(h:M1 t H)(e:H b=some (.lst xs)):¬DT t b:=λ⟨q,hq⟩=>by
 obtain⟨ps,h1,_⟩:=h _ hq;rw[e]at h1;cases h1
theorem M1.none{H:Hp}{b:Addr}(h:M1 t H)(e:H b=none):¬DT t b:=λ⟨q,hq⟩=>by
 obtain⟨ps,h1,_⟩:=h _ hq;rw[e]at h1;cases h1
theorem HA{α β:Type}:∀{l:List (α × β)},(l.map Prod.fst).Nodup->∀{p q},p∈l->q∈l->p.1=q.1->p=q
 | [],_,_,_,h,_,_=>nomatch h
 | a::l,nd,p,q,hp,hq,e=>by
  rw[aP,bS]at nd;rcases ar.mp hp with e1 | h1
  . rcases ar.mp hq with e2 | h2
    . rw[e1,e2]
    . exact absurd (aE.mpr ⟨q,h2,by rw[<- e,e1]⟩) nd.1
  . rcases ar.mp hq with e2 | h2
    . exact absurd (aE.mpr ⟨p,h1,by rw[e,e2]⟩) nd.1
    . exact HA nd.2 h1 h2 e
def M1.step{P:Addr}{q:Str}{H H':Hp}(T:Txt K mg t)(h:M1 t H)(m:(P,q)∈tabs t)(s:Lc P H H')(g:O9 H' P q):M1 t H'/\J6 (DT t) H H':=by
 refine⟨λp hp=>?_,λb o d e=>s b o (λz=>d (by rw[z];exact⟨q,m⟩)) e⟩;by_cases z:p.1=P
 . cases HA (Rv T) hp m z;exact g
 . obtain⟨pp,hP,_⟩:=h _ m;obtain⟨ps,h1,h2,h3⟩:=h p hp;refine⟨ps,s _ _ z h1,h2,λlp v e=>?_⟩;obtain⟨c,e1,oc,vs,t,y1,y2⟩:=h3 lp v e;exact⟨c,e1,oc,vs,t,s _ _ (Y5 y1 hP (by simp)) y1,y2⟩
def Jw(w:World)(K:aa)(mg:Str->Option Value)(base:Heap):Sp:=λvs H Q _=>∃(R:c9 Pr w K mg base),∃kd mv a l,∃(n μ u:Nat),∃st tb en es,vs=[kd,mv,.ref a]/\(U1 R.C R.fs H kd/\x6 R l n st tb en mv H/\MB R.B n l.length μ st tb en/\M6 R n es a H/\(∀k∈es,k.1 < n/\XB R.B n u u k.2)/\n<=60/\es.length<=60/\l.length<=1000/\AM R.S (3 * (u+μ+n)))/\
 ∀v H',j0 H H'->x6 R l es.length (Vm es st) (Ol n es tb) (nen n es en) v H'->Q v H'
def JZ(T:Txt K mg t):x8 Pr w K mg base F9 46 t.m0k t.j0u ["kind","machine","kept"] (Jw w K mg base):=by
 refine T.j0o.F.ok S6 (by rintro _ _ _ _ ⟨_,_,_,_,_,_,_,_,_,_,_,_,rfl,_⟩;rfl) λcdv A outer s H vs Q E hr h=>?_;obtain⟨R,kd,mv,a,l,n,μ,u,st,tb,en,es,rfl,⟨hk,hM,hB,⟨us,ha,eK⟩,hX,hn,he,hl,hS⟩,k⟩:=h;obtain⟨mp,sv,tv,ev,rfl,hm,h1,⟨tp,tabs,rfl,htp,eT⟩,h3⟩:=id hM;have zl:10000 < sizeLine:=by decide
 refine⟨_,(a8 (AD (i:=3) S6.nd rfl (Or.inr rfl) (z5 (xs:=["place","row"]) rfl (show w9 SA (b9 Q8) _ from⟨rfl,dK,dK,dK,dK,dK⟩) (C9 (pv 2)) (λ_ _ _ _ _=>(show PG _ _ (ET K 2 _)from(F1 rfl (j6 (l4 (i:=7) (by show List.Nodup (SB);decide +kernel) rfl (Or.inl rfl)) (j6 (l4 (i:=8) (by show List.Nodup (SB);decide +kernel) rfl (Or.inl rfl)) C7))))) (λ_ _ _ _ _=>(pv 7)))) (a8 (sT 4 S6.nd (j8 g9 (by rfl) T.z_tuple boot_tuple (B4 (z5 (xs:=["place","row"]) rfl (show w9 SA (b9 Q8) _ from⟨rfl,dK,dK,dK,dK,dK⟩) (C9 (pv 2)) (λ_ _ _ _ _=>(show PG _ _ (ET K 2 _)from(F1 rfl (j6 (l4 (i:=7) (by show List.Nodup (SB);decide +kernel) rfl (Or.inl rfl)) (j6 (l4 (i:=8) (by show List.Nodup (SB);decide +kernel) rfl (Or.inl rfl)) C7))))) (λ_ _ _ _ _=>(pv 8)))))) (a8 (sT 5 S6.nd (D3 K5)) (a8 (D7 aB rfl (L9 (j5 i0 (pv 1) c5 (λ_ _=>rfl))) (gN 6 S6.nd) (c6 (F8 (U0 ba bz bA G0 (pv 5) (B4 (j8 g9 (by rfl) T.z_tuple boot_tuple (B4 (z5 (xs:=["row"]) rfl (show w9 SA (b9 Q8) _ from⟨rfl,dK,dK,dK,dK,dK⟩) (L9 (E6 (Kf T) hr.m T.j0w (X1 (pv 0) (pv 4) (pv 6)))) (λ_ _ _ _ _=>(l4 (i:=7) (by show List.Nodup (["kind","machine","kept","places","rows","tables","table","row"]:List Str);decide +kernel) rfl (Or.inl rfl))) (λ_ _ _ _ _=>(C3 (Do (w:=w) (base:=base) T) hr.m rfl T.i0z.m T.i0z.F.kp T.i0z.b .nil C4 (F6 (pv 7) (pv 3)))))))))))) (c6 (c8 (E5 (Ew (j5 i0 (pv 1) c5 (λ_ _=>rfl)) (E6 (Do T) hr.m T.i0z (F6 (j5 i0 (pv 1) c5 (λ_ _=>rfl)) (pv 3))) (j8 g9 (by rfl) T.z_tuple boot_tuple (B4 (pv 5))) (E6 (IA T) hr.m T.i0t (X1 (pv 0) (pv 4) (j5 i0 (pv 1) c5 (λ_ _=>rfl)))))))))))),?_⟩;refine⟨_,rfl,a,rfl,⟨_,o7.of ha⟩,w5 (n:=es.length) (λj ys H2=>ys.length=j/\ys=((es.take j).map Prod.fst).map (λp:Nat=>V.int (p:Int))/\H2=H) oM ⟨rfl,rfl,rfl⟩ (λj ys H2 q=>q.1) ?_ ?_ ?_⟩
 . rintro j ys H2 hj ⟨e0,e1,rfl⟩;obtain⟨y,ey,k',q,rv,ek,rfl,hq,ro⟩:=eK.2 j hj;refine Dy (o7.of ha) ey ?_;refine⟨q,_,rfl,o9.of hq,rfl,za ⟨rfl,za ⟨rfl,rfl,⟨[some _,some _],rfl,rfl⟩,_,rfl,by rw[aq,e0];rfl,?_,rfl⟩⟩⟩;rw[J8 ek,aU,aU,<- e1];rfl
 . rintro ys H2 ⟨e0,e1,rfl⟩;exact⟨_,o7.of ha,by rw[eK.1];exact ae _⟩
 . rintro ys H2 pa ⟨e0,e1,rfl⟩ npa;rw[bo]at e1;subst e1;refine E8 (o:=.lst ((es.map Prod.fst).map (λp:Nat=>V.int (p:Int)))) npa λH1 s1 k1=>?_;show E9 3 (V.ref pa) [some kd,some (.ref mp),some (.ref a),none,none,none,none] H1 _;refine⟨_,rfl,a,rfl,⟨_,o7.of (s1 _ _ ha)⟩,w5 (n:=es.length) (λj ys H3=>j7 (λi u H=>j9 R n (kv es i) u H) ys j H1/\H3=H1) oM ⟨j7.nil,rfl⟩ (λj ys H3 q=>q.1.1) ?_ ?_ ?_⟩
   . rintro j ys H3 hj ⟨e,rfl⟩;obtain⟨y,ey,k',q,rv,ek,rfl,hq,ro⟩:=eK.2 j hj;refine Dy (o7.of (s1 _ _ ha)) ey ?_;refine⟨q,_,rfl,o9.of (s1 _ _ hq),rfl,za ⟨rfl,za ⟨rfl,rfl,⟨[some _,some _],rfl,rfl⟩,_,rfl,e.snoc ?_,rfl⟩⟩⟩;rw[EA ek];exact j9.same s1.t ro
   . rintro ys H3 ⟨e,rfl⟩;exact⟨_,o7.of (s1 _ _ ha),by rw[eK.1];exact ae _⟩
   . rintro ys H3 z ⟨e,rfl⟩ nz;have s2:=c7 (o:=.lst ys) nz;refine⟨z,ys,rfl,.inl ⟨o7.of c4,λz2 n2=>?_⟩⟩;have s3:=c7 (o:=.tup ys) n2;have EI:=s2.trans s3;have hR:D1 R es.length n (kv es) (.ref z2) (upd (upd H3 z (.lst ys)) z2 (.tup ys)):=⟨z2,ys,rfl,c4,e.mono λ_ _ _ q=>j9.same EI.t q⟩;revert EI hR;generalize upd (upd H3 z (.lst ys)) z2 (.tup ys)=H4;intro EI hR;show E9 4 (V.ref z2) [some kd,some (.ref mp),some (.ref a),some (.ref pa),none,none,none] H4 _;have q4:=s1.trans EI;refine⟨(by show 0<=sizeLine;decide),λb nb=>?_⟩;refine E8 (o:=.lst []) nb λH5 s5 k5=>?_;have hb0:∀{c o},H2 c=some o->c≠b:=λ{c o} e z=>by rw[z]at e;rw[q4 _ _ e]at nb;cases nb
     have q5:=q4.trans s5;show E9 5 (V.ref b) [some kd,some (.ref mp),some (.ref a),some (.ref pa),some (.ref z2),none,none] H5 _;have pk:=λi (hi:i < es.length)=>hX _ (aM hi);have kvx:∀i,i < es.length->XB R.B n u u (kv es i):=λi hi=>by rw[EA (ag hi)];exact(pk i hi).2
     have hps:∀p∈es.map Prod.fst,p < n:=λp hp=>by
      obtain⟨k',hk',rfl⟩:=aE.mp hp;exact(hX k' hk').1
     have hpl:(es.map Prod.fst).length=es.length:=af ..;refine⟨_,rfl,zg ⟨rfl,rfl,o9.of (q5 _ _ hm),rfl,tp,rfl,⟨_,o9.of (q5 _ _ htp)⟩,DD (K:=K) (a:=tp) (xs:=tabs) (λi σ G=>∃v6,σ=[some kd,some (.ref mp),some (.ref a),some (.ref pa),some (.ref z2),some (.ref b),v6]/\j0 H4 G/\∃ts,G b=some (.lst ts)/\j7 (λa u H=>D1 R es.length es.length (Ol n es tb a) u H) ts i G) ⟨_,rfl,s5,[],k5,j7.nil⟩ (λi σ G _ ⟨_,_,q,_⟩=>o9.of (q _ _ (q4 _ _ htp))) ?_ ?_⟩⟩
     . rintro i y σ G hi ⟨v6,rfl,q,ts,hts,eB⟩;obtain⟨il,pv⟩:=eT.at hi;have q0:=q4.trans q;refine⟨_,rfl,.inl ⟨rfl,_,o7.of hts⟩,_,rfl,_,rfl,_,rfl,R,zB kd (.ref z2) y es.length n (kv es) (tb i) (u+μ+n) ⟨rfl,⟨hk.same q0,D1.same q.t hR,D1.same q0.t pv,oM,oM,λi' hi' j hj=>Fe (kvx i' hi') ((hB.tb i il).col hj) oM oM,hS⟩,?_⟩⟩;rintro bv G1 t1 ⟨bp,brs,rfl,hbp,eR⟩;refine⟨bp,rfl,⟨_,o9.of hbp⟩,w5 (n:=es.length) (λj ys G2=>j0 G1 G2/\j7 (λi' u H=>j9 R es.length (Ol n es tb i i') u H) ys j G2) oM ⟨j0.refl _,j7.nil⟩ (λj ys H2 q=>q.2.1) ?_ ?_ ?_⟩
       . rintro j ys G2 hj ⟨q2,e⟩;obtain⟨y2,ey,py⟩:=eR.2 j hj;refine FT (o9.of (q2 _ _ hbp)) ey ?_;refine⟨⟨[some _],rfl,rfl⟩,_,rfl,_,rfl,R,zu _ pa n _ (es.map Prod.fst) ⟨rfl,⟨j9.same q2.t py,(EI.trans (q.trans (t1.trans q2))) _ _ k1,hps,by rw[hpl];omega⟩,λv G3 t3 f3=>?_⟩⟩;rw[hpl]at f3;exact⟨q2.trans t3,(e.mono λ_ _ _ z=>j9.same t3.t z).snoc f3⟩
       . rintro ys G2 ⟨q2,e⟩;exact⟨_,o9.of (q2 _ _ hbp),by rw[eR.1];exact ae _⟩
       . rintro ys G2 z3 ⟨q2,e⟩ nz3;have t3:=c7 (o:=.lst ys) nz3;refine⟨z3,ys,rfl,.inl ⟨o7.of c4,λz4 n4=>?_⟩⟩;have t4:=c7 (o:=.tup ys) n4;have t34:=q2.trans (t3.trans t4);have hR4:D1 R es.length es.length (Ol n es tb i) (.ref z4) (upd (upd G2 z3 (.lst ys)) z4 (.tup ys)):=⟨z4,ys,rfl,c4,e.mono λ_ _ _ z=>j9.same (t3.trans t4).t z⟩;revert t34 hR4;generalize upd (upd G2 z3 (.lst ys)) z4 (.tup ys)=G4;intro t34 hR4;have t14:=t1.trans t34;have hts4:=t14 _ _ hts;have tl:=eB.1;refine⟨b,ts,V.ref z4,rfl,rfl,hts4,oM,?_⟩;have sx:l9 b G4 (upd G4 b (.lst (ts++[V.ref z4]))):=l9.upd;have sl:=B7 (o:=.lst (ts++[V.ref z4])) hts4;refine⟨_,rfl,λc o e=>sx c o (l7 e nb) ((q.trans t14) c o e),_,c4,j7.snoc (eB.mono λ_ _ _ z=>D1.same sl (D1.same t14.t z)) (D1.same sl hR4)⟩
     . rintro σ G ⟨v6,rfl,q,ts,hts,eB⟩;rw[eT.1]at eB;have q0:=q4.trans q;refine⟨_,rfl,zg ⟨rfl,rfl,o9.of (q0 _ _ hm),rfl,_,rfl,zg ⟨rfl,rfl,o9.of (q0 _ _ hm),rfl,_,rfl,R,zu sv pa n st (es.map Prod.fst) ⟨rfl,⟨j9.same q0.t h1,(EI.trans q) _ _ k1,hps,by rw[hpl];omega⟩,λv1 G1 t1 r1=>?_⟩⟩⟩⟩;rw[hpl]at r1;refine⟨_,rfl,b,ts,rfl,.inl ⟨o7.of (t1 _ _ hts),λz6 n6=>?_⟩⟩;refine E8 (o:=.tup ts) n6 λG2 t2 k6=>?_;have t12:=t1.trans t2;have q2:=q0.trans t12;refine⟨_,rfl,_,rfl,_,rfl,zg ⟨rfl,rfl,o9.of (q2 _ _ hm),rfl,R,zB kd (.ref z2) ev es.length n (kv es) en (u+μ+n) ⟨rfl,⟨hk.same q2,D1.same (q.trans t12).t hR,j9.same q2.t h3,oM,λi hi=>Fe (kvx i hi) hB.en oM oM,hS⟩,λv3 G3 t3 r3=>?_⟩⟩⟩;refine⟨(by show 4<=sizeLine;decide),λz7 n7=>?_⟩;have t4:=c7 (o:=.tup [vT l,v1,V.ref z6,v3]) n7;have t24:=t2.trans (t3.trans t4);refine k _ _ (q2.trans (t3.trans t4)) ⟨z7,v1,.ref z6,v3,rfl,c4,j9.same t24.t r1,⟨z6,ts,rfl,(t3.trans t4) _ _ k6,eB.mono λ_ _ _ z=>D1.same (t1.trans t24).t z⟩,j9.same t4.t r3⟩
def j7.app{Pd:Nat->V->Hp->Prop}{xs ys:List V}{n k:Nat}{H:Hp}(h1:j7 Pd xs n H)(h2:j7 (λj=>Pd (n+j)) ys k H):j7 Pd (xs++ys) (n+k) H:=
 ⟨by rw[aq,h1.1,h2.1],λj hj=>by
  by_cases hn:j < n
  . obtain⟨u,e,q⟩:=h1.2 j hn;exact⟨u,by rw[aH (by rw[h1.1];exact hn)];exact e,q⟩
  . obtain⟨u,e,q⟩:=h2.2 (j - n) oM;rw[show n+(j - n)=j by omega]at q;exact⟨u,by rw[aK (by rw[h1.1];omega),h1.1];exact e,q⟩⟩
def KR{xs:List V}{k:Nat}(h:k<=xs.length):Ce xs (some (k:Int)) none=xs.drop k:=by
 unfold Ce;rw[HT.JJ,HT.Nd,Nat.min_eq_left h];exact cS (by rw[cW];exact ae _)
def LA(w:World)(K:aa)(mg:Str->Option Value)(base:Heap):Sp:=λvs H Q _=>∃(R:c9 Pr w K mg base),∃kv,∃(z:Int),∃(n:Nat),vs=[kv,.int z]/\(U1 R.C R.fs H kv/\n<=1000/\z=n)/\
 ∀v H',j0 H H'->j9 R n (λ_=>R.S.zero) v H'->Q v H'
def FB(T:Txt K mg t):x8 Pr w K mg base F9 41 t.m0t t.l0k Ql (LA w K mg base):=by
 refine T.k0v.F.ok LO (by rintro _ _ _ _ ⟨_,_,_,_,rfl,_⟩;rfl) λcdv A outer s H vs Q E hr h=>?_;obtain⟨R,kv,z,n,rfl,⟨⟨kp,dx,rfl,hk⟩,hn,rfl⟩,k⟩:=h;refine⟨_,(c6 (c8 (j8 g9 (by rfl) T.z_tuple boot_tuple (B4 (z5 (xs:=["place"]) rfl (show w9 Ql (b9 BN) _ from⟨rfl,dK,dK,dK,dK,dK⟩) (C6 rfl T.z_range (B4 (pv 1))) (λ_ _ _ _ _=>(l4 (i:=2) (by show List.Nodup (["kind","size","place"]:List Str);decide +kernel) rfl (Or.inl rfl))) (λ_ _ _ _ _=>(Ak (pv 0) R.cl R.t_nought R.G_nought hr.m R.b_nought .nil C4))))))),?_⟩;refine⟨_,rfl,_,rfl,oM,oM,w5 (n:=n) (λj ys H2=>j0 H H2/\j7 (λ_ u H=>R.is H u R.S.zero) ys j H2) hn ⟨j0.refl _,j7.nil⟩ (λj ys H2 q=>q.2.1) ?_ ?_ ?_⟩
 . rintro j ys H2 hj ⟨q,e⟩;refine He (by omega) ?_;refine⟨⟨[some _],rfl,rfl⟩,_,rfl,zf ⟨rfl,q _ _ hk,R.l_nought,_,rfl,za ⟨rfl,q _ _ hk⟩,λv H3 s3 f3=>?_⟩⟩;exact⟨q.trans s3,(e.mono λ_ _ _ z=>R.same s3.t z).snoc f3⟩
 . rintro ys H2 ⟨q,e⟩;show(n:Int).toNat<=n;omega
 . rintro ys H2 l ⟨q,e⟩ nl;have s1':=c7 (o:=.lst ys) nl;refine⟨l,ys,rfl,.inl ⟨o7.of c4,λl2 n2=>?_⟩⟩;have s2:=c7 (o:=.tup ys) n2;exact k _ _ (q.trans (s1'.trans s2)) ⟨l2,ys,rfl,c4,e.mono λ_ _ _ z=>R.same (s1'.trans s2).t z⟩
def Q0{S:SR}{n i:Nat}{x y:Nat->S.W}(h:i < n):T7 S n x y i=x i:=if_pos h
def Q1{S:SR}{n i:Nat}{x y:Nat->S.W}:T7 S n x y (n+i)=y i:=by
 unfold T7;rw[if_neg oM,dy]
def V1{R:c9 Pr w K mg base}{n l:Nat}{x y:Nat->R.S.W}{xs ys:List V}{H:Hp}(a:j7 (λj u H=>R.is H u (x j)) xs n H)(b:j7 (λj u H=>R.is H u (y j)) ys l H):j7 (λj u H=>R.is H u (T7 R.S n x y j)) (xs++ys) (n+l) H:=
 j7.app (a.mono λj _ hj q=>by rw[Q0 hj];exact q) (b.mono λj _ _ q=>by rw[Q1];exact q)
def Fg(S:SR)(n:Nat)(A B:Nat->Nat->S.W):Nat->Nat->S.W:=λi=>if i < n then T7 S n (A i) λ_=>S.zero else T7 S n (λ_=>S.zero) (B (i - n))
def Pg(w:World)(K:aa)(mg:Str->Option Value)(base:Heap):Sp:=λvs H Q _=>∃(R:c9 Pr w K mg base),∃mv l,∃(n:Nat),∃st tb en,vs=[mv]/\x6 R l n st tb en mv H/\Q (.int (n:Nat)) H
def JX(T:Txt K mg t):x8 Pr w K mg base F9 1 t.n0o t.m0r ["machine"] (Pg w K mg base):=by
 refine T.n0a.F.ok Px (by rintro _ _ _ _ ⟨_,_,_,_,_,_,_,rfl,_⟩;rfl) λcdv A outer s H vs Q E hr h=>?_;obtain⟨R,mv,l,n,st,tb,en,rfl,hM,k⟩:=h;obtain⟨mp,sv,tv,ev,rfl,hm,h1,h2,h3⟩:=hM;refine⟨_,(c6 (c8 (l5 w8 (by rfl) T.z_len PySem.boot_len (B4 (j5 i0 (pv 0) c5 (λ_ _=>rfl)))))),?_⟩;exact⟨_,rfl,zg ⟨rfl,rfl,o9.of hm,rfl,za ⟨rfl,h1.len,k⟩⟩⟩
def NX(w:World)(K:aa)(mg:Str->Option Value)(base:Heap):Sp:=λvs H Q _=>∃(R:c9 Pr w K mg base),∃mv ov l,∃(n n':Nat),∃st tb en st' tb' en',vs=[mv,ov]/\(x6 R l n st tb en mv H/\x6 R l n' st' tb' en' ov H)/\Q .non H
def Bs(T:Txt K mg t):x8 Pr w K mg base F9 1 t.g0b t.f0h Mf (NX w K mg base):=by
 refine T.f0f.F.ok Bd (by rintro _ _ _ _ ⟨_,_,_,_,_,_,_,_,_,_,_,_,rfl,_⟩;rfl) λcdv A outer s H vs Q E hr h=>?_;obtain⟨R,mv,ov,l,n,n',st,tb,en,st',tb',en',rfl,⟨hM,hM'⟩,k⟩:=h;obtain⟨mp,sv,tv,ev,rfl,hm,h1,h2,h3⟩:=hM;obtain⟨mp',sv',tv',ev',rfl,hm',h1',h2',h3'⟩:=hM';refine⟨_,(c6 (B0 (o8 Dk (j5 i0 (pv 0) c5 (λ_ _=>rfl)) (j5 i0 (pv 1) c5 (λ_ _=>rfl)) (w6 _)) (c6 Ah) o5)),?_⟩;refine⟨_,rfl,zg ⟨rfl,rfl,o9.of hm,rfl,_,rfl,zg ⟨rfl,rfl,o9.of hm',rfl,rfl,_,rfl,?_⟩⟩⟩;refine FR (by rw[decide_eq_true rfl];rfl) ?_;exact k
def Oa(w:World)(K:aa)(mg:Str->Option Value)(base:Heap):Sp:=λvs H Q _=>∃(R:c9 Pr w K mg base),∃kv fv sv ep,∃(n n':Nat),∃A B us,vs=[kv,fv,sv,.ref ep]/\(U1 R.C R.fs H kv/\D1 R n n A fv H/\D1 R n' n' B sv H/\H ep=some (.lst us)/\j7 (λ_ u H=>j9 R n' (λ_=>R.S.zero) u H) us n H/\n<=60/\n'<=60)/\
 ∀v H',j0 H H'->D1 R (n+n') (n+n') (Fg R.S n A B) v H'->Q v H'
def Oi(T:Txt K mg t):x8 Pr w K mg base F9 42 t.n0h t.m0f Vt (Oa w K mg base):=by
 refine T.m0b.F.ok DM (by rintro _ _ _ _ ⟨_,_,_,_,_,_,_,_,_,_,rfl,_⟩;rfl) λcdv A outer s H vs Q E hr h=>?_;obtain⟨R,kv,fv,sv,ep,n,n',X,Y,us,rfl,⟨hk,⟨fp,fs,rfl,hfp,eF⟩,⟨sp,ss,rfl,hsp,eS⟩,hep,eE,hn,hn'⟩,k⟩:=h;have zl:10000 < sizeLine:=by decide
 refine⟨_,(a8 (R7 (i₀:=4) (xs:=["row","extra"]) DM.nd rfl (Or.inl rfl) rfl (show w9 Vy (b9 Bo) _ from⟨rfl,dK,dK,dK,dK,dK⟩) (Z9 rfl T.z_zip (F6 (pv 1) (pv 3))) (λ_ _ _ _ _=>(show PG _ _ (ET K 2 _)from(F1 rfl (j6 (l4 (i:=6) (by show List.Nodup (d0f);decide +kernel) rfl (Or.inl rfl)) (j6 (l4 (i:=7) (by show List.Nodup (d0f);decide +kernel) rfl (Or.inl rfl)) C7))))) (λ_ _ _ _ _=>(o6 U7 (pv 6) (pv 7)))) (a8 (R7 (i₀:=5) (xs:=["row"]) DM.nd rfl (Or.inl rfl) rfl (show w9 Vy (b9 Bo) _ from⟨rfl,dK,dK,dK,dK,dK⟩) (L9 (pv 2)) (λ_ _ _ _ _=>(l4 (i:=6) (by show List.Nodup (["kind","first","second","step","upper","lower","row"]:List Str);decide +kernel) rfl (Or.inl rfl))) (λ_ _ _ _ _=>(o6 U7 (C3 (FB (w:=w) (base:=base) T) hr.m rfl T.k0v.m T.k0v.F.kp T.k0v.b .nil C4 (F6 (pv 0) (l5 (show U2 _ (.builtin "len") (λxs H Q=>∃x n,xs=[x]/\X2 K x H n/\Q (V.int (n:Nat)) H)from w8) (by rfl) T.z_len PySem.boot_len (B4 (pv 1))))) (pv 6)))) (c6 (c8 (j8 g9 (by rfl) T.z_tuple boot_tuple (B4 (o6 Iq (pv 4) (pv 5)))))))),?_⟩;refine⟨_,rfl,_,rfl,.tup fp,.lst ep,za ⟨fs,us,rfl,rfl,rfl,o9.of hfp,o7.of hep,w5 (n:=n) (λi ys G=>j0 H G/\j7 (λi u H=>j9 R (n+n') (T7 R.S n (X i) λ_=>R.S.zero) u H) ys i G) oM ⟨j0.refl _,j7.nil⟩ (λj ys G q=>q.2.1) ?_ ?_ ?_⟩⟩
 . rintro i ys G hi ⟨q,e⟩;obtain⟨u,eu,pu⟩:=eF.2 i hi;obtain⟨x,ex,px⟩:=eE.2 i hi;refine⟨⟨fs,us,u,x,o9.of (q _ _ hfp),o7.of (q _ _ hep),eu,ex⟩,λy' H' hy=>?_⟩;obtain⟨pp,x',y',rfl,np,rfl,f1,f2⟩:=hy;have e1:=f1 _ (o9.of (q _ _ hfp));rw[eu]at e1;cases e1;have e2:=f2 _ (o7.of (q _ _ hep));rw[ex]at e2;cases e2;refine E8 (o:=.tup [u,x]) np λG1 s3 k3=>?_;have q3:=q.trans s3;obtain⟨up,uvs,rfl,hup,eU⟩:=j9.same q3.t pu;obtain⟨xp,xvs,rfl,hxp,eX⟩:=j9.same q3.t px;have ul:=eU.1;have xl:=eX.1;refine⟨pp,_,rfl,o9.of k3,rfl,za ⟨rfl,za ⟨rfl,rfl,⟨[some _,some _],rfl,rfl⟩,_,rfl,_,rfl,zg ⟨rfl,rfl,hup,hxp,oM,λp4 G4 s4 h4=>?_⟩⟩⟩⟩;exact⟨q3.trans s4,(e.mono λ_ _ _ z=>j9.same (s3.trans s4).t z).snoc ⟨p4,_,rfl,h4,(V1 eU eX).mono λ_ _ _ z=>R.same s4.t z⟩⟩
 . rintro ys G ⟨q,e⟩;exact⟨fs,us,o9.of (q _ _ hfp),o7.of (q _ _ hep),.inl (by rw[eF.1])⟩
 . rintro ys G z ⟨q,e⟩ nz;refine E8 (o:=.lst ys) nz λH1 s1 k1=>?_;have q1:=q.trans s1;have e1:=e.mono (H':=H1) λ_ _ _ z=>j9.same s1.t z;refine⟨_,rfl,sp,rfl,⟨_,o9.of (q1 _ _ hsp)⟩,w5 (n:=n') (λi ys G=>j0 H1 G/\j7 (λi u H=>j9 R (n+n') (T7 R.S n (λ_=>R.S.zero) (Y i)) u H) ys i G) oM ⟨j0.refl _,j7.nil⟩ (λj ys G q=>q.2.1) ?_ ?_ ?_⟩
   . rintro i zs G2 hi ⟨q2,e2⟩;obtain⟨u,eu,pu⟩:=eS.2 i hi;have Lk:=q1.trans q2;refine FT (o9.of (Lk _ _ hsp)) eu ?_;have hl:X2 K (.ref fp) G2 n:=.inr ⟨_,o9.of (Lk _ _ hfp),eF.1.symm⟩;refine⟨⟨[some _],rfl,rfl⟩,_,rfl,_,rfl,za ⟨rfl,hl,R,zm kv _ n ⟨rfl,⟨hk.same Lk,oM,rfl⟩,λv G3 s3 r3=>?_⟩⟩⟩;obtain⟨vp,vvs,rfl,hvp,eV⟩:=r3;obtain⟨up,uvs,rfl,hup,eU⟩:=j9.same (Lk.trans s3).t pu;have vl:=eV.1;have ul:=eU.1;refine⟨_,rfl,zg ⟨rfl,rfl,hvp,hup,oM,λp4 G4 s4 h4=>?_⟩⟩;exact⟨q2.trans (s3.trans s4),(e2.mono λ_ _ _ z=>j9.same (s3.trans s4).t z).snoc ⟨p4,_,rfl,h4,(V1 eV eU).mono λ_ _ _ z=>R.same s4.t z⟩⟩
   . rintro zs G2 ⟨q2,e2⟩;exact⟨_,o9.of ((q1.trans q2) _ _ hsp),by rw[eS.1];exact ae _⟩
   . rintro zs G2 z2 ⟨q2,e2⟩ nz2;refine E8 (o:=.lst zs) nz2 λH2 s2 k2=>?_;have Lk:=q2.trans s2;have yl:=e1.1;have zl':=e2.1;refine⟨_,rfl,_,rfl,z,z2,ys,zs,rfl,rfl,Lk _ _ k1,k2,oM,λp3 n3=>?_⟩;refine E8 (o:=.lst (ys++zs)) n3 λH3 s3 k3=>?_;refine⟨p3,_,rfl,.inl ⟨o7.of k3,λp4 n4=>?_⟩⟩;have s4:=c7 (o:=.tup (ys++zs)) n4;have UG:=s3.trans s4;refine k _ _ (q1.trans (Lk.trans UG)) ⟨p4,_,rfl,c4,j7.app (e1.mono λi _ hi z=>?_) (e2.mono λi _ hi z=>?_)⟩
     . show j9 R (n+n') (Fg R.S n X Y i) _ _;unfold Fg;rw[if_pos hi];exact j9.same (Lk.trans UG).t z
     . show j9 R (n+n') (Fg R.S n X Y (n+i)) _ _;unfold Fg;rw[if_neg oM,dy];exact j9.same (s2.trans UG).t z
def Gy(w:World)(K:aa)(mg:Str->Option Value)(base:Heap):Sp:=λvs H Q _=>∃(R:c9 Pr w K mg base),∃kv mv ov l,∃(n n':Nat),∃st tb en st' tb' en',vs=[kv,mv,ov]/\(U1 R.C R.fs H kv/\x6 R l n st tb en mv H/\x6 R l n' st' tb' en' ov H/\Aa l/\n<=60/\n'<=60)/\
 ∀v H',j0 H H'->x6 R l (n+n') (T7 R.S n st st') (λa=>Fg R.S n (tb a) (tb' a)) (T7 R.S n en en') v H'->Q v H'
def GN(T:Txt K mg t):x8 Pr w K mg base F9 43 t.k0a t.h0r IB (Gy w K mg base):=by
 refine T.h0o.F.ok Z0 (by rintro _ _ _ _ ⟨_,_,_,_,_,_,_,_,_,_,_,_,_,rfl,_⟩;rfl) λcdv A outer s H vs Q E hr h=>?_;obtain⟨R,kv,mv,ov,l,n,n',st,tb,en,st',tb',en',rfl,⟨hk,hM,hM',L,hn,hn'⟩,k⟩:=h;have zl:10000 < sizeLine:=by decide
 have l3:=L.h3;obtain⟨mp,sv,tv,ev,rfl,hm,⟨sp,ss,rfl,hsp,eS⟩,⟨tp,ts,rfl,htp,eT⟩,⟨ep,es,rfl,hep,eE⟩⟩:=id hM;obtain⟨mp',sv',tv',ev',rfl,hm',⟨sp',ss',rfl,hsp',eS'⟩,⟨tp',ts',rfl,htp',eT'⟩,⟨ep',es',rfl,hep',eE'⟩⟩:=id hM';have lS:=eS.1;have lS':=eS'.1;have lE:=eE.1;have lE':=eE'.1;refine⟨_,(a8 (AD (i:=3) Z0.nd rfl (Or.inr rfl) (z5 (xs:=["room"]) rfl (show w9 Vw (b9 P1) _ from⟨rfl,dK,dK,dK,dK,dK⟩) (C6 rfl T.z_range (B4 (E6 (JX T) hr.m T.n0a (B4 (pv 1))))) (λ_ _ _ _ _=>(l4 (i:=5) (by show List.Nodup (["kind","one","other","no_step","tables","room"]:List Str);decide +kernel) rfl (Or.inl rfl))) (λ_ _ _ _ _=>(C3 (FB (w:=w) (base:=base) T) hr.m rfl T.k0v.m T.k0v.F.kp T.k0v.b .nil C4 (F6 (pv 0) (C3 (JX (w:=w) (base:=base) T) hr.m rfl T.n0a.m T.n0a.F.kp T.n0a.b .nil C4 (B4 (pv 2)))))))) (a8 (R7 (i₀:=4) (xs:=["first","second"]) Z0.nd rfl (Or.inl rfl) rfl (show w9 Vw (b9 P1) _ from⟨rfl,dK,dK,dK,dK,dK⟩) (Z9 rfl T.z_zip (F6 (j5 i0 (pv 1) c5 (λ_ _=>rfl)) (j5 i0 (pv 2) c5 (λ_ _=>rfl)))) (λ_ _ _ _ _=>(show PG _ _ (ET K 2 _)from(F1 rfl (j6 (l4 (i:=5) (by show List.Nodup (d0c);decide +kernel) rfl (Or.inl rfl)) (j6 (l4 (i:=6) (by show List.Nodup (d0c);decide +kernel) rfl (Or.inl rfl)) C7))))) (λ_ _ _ _ _=>(C3 (Oi (w:=w) (base:=base) T) hr.m rfl T.m0b.m T.m0b.F.kp T.m0b.b .nil C4 (Ew (pv 0) (pv 5) (pv 6) (pv 3))))) (c6 (c8 (E5 (Ew (j5 i0 (pv 1) c5 (λ_ _=>rfl)) (o6 U7 (j5 i0 (pv 1) c5 (λ_ _=>rfl)) (j5 i0 (pv 2) c5 (λ_ _=>rfl))) (j8 g9 (by rfl) T.z_tuple boot_tuple (B4 (pv 4))) (o6 U7 (j5 i0 (pv 1) c5 (λ_ _=>rfl)) (j5 i0 (pv 2) c5 (λ_ _=>rfl))))))))),?_⟩;refine⟨_,rfl,R,zw (.ref mp) l n st tb en ⟨rfl,hM,?_⟩⟩;refine⟨_,rfl,oM,oM,w5 (n:=n) (λi ys G=>j0 H G/\j7 (λi u H=>j9 R n' (λ_=>R.S.zero) u H) ys i G) oM ⟨j0.refl _,j7.nil⟩ (λj ys G q=>q.2.1) ?_ ?_ ?_⟩
 . rintro i ys G hi ⟨q,e⟩;refine He (by omega) ?_;refine⟨⟨[some _],rfl,rfl⟩,_,rfl,_,rfl,R,zw (.ref mp') l n' st' tb' en' ⟨rfl,x6.same q.t hM',R,zm kv _ n' ⟨rfl,⟨hk.same q,oM,rfl⟩,λv G3 s3 r3=>?_⟩⟩⟩;exact⟨q.trans s3,(e.mono λ_ _ _ z=>j9.same s3.t z).snoc r3⟩
 . rintro ys G ⟨q,e⟩;show(n:Int).toNat<=n;omega
 . rintro us G up ⟨q,e⟩ nup;refine E8 (o:=.lst us) nup λH1 s1 k1=>?_;have q1:=q.trans s1;have e1:=e.mono (H':=H1) λ_ _ _ z=>j9.same s1.t z;refine⟨_,rfl,zg ⟨rfl,rfl,o9.of (q1 _ _ hm),rfl,_,rfl,zg ⟨rfl,rfl,o9.of (q1 _ _ hm'),rfl,.tup tp,.tup tp',za ⟨ts,ts',rfl,rfl,rfl,o9.of (q1 _ _ htp),o9.of (q1 _ _ htp'),w5 (n:=l.length) (λi ys G=>j0 H1 G/\j7 (λa u H=>D1 R (n+n') (n+n') (Fg R.S n (tb a) (tb' a)) u H) ys i G) oM ⟨j0.refl _,j7.nil⟩ (λj ys G q=>q.2.1) ?_ ?_ ?_⟩⟩⟩⟩
   . rintro i ys G2 hi ⟨q2,e2⟩;have Lk:=q1.trans q2;obtain⟨u,eu,pu⟩:=eT.2 i hi;obtain⟨x,ex,px⟩:=eT'.2 i hi;refine⟨⟨ts,ts',u,x,o9.of (Lk _ _ htp),o9.of (Lk _ _ htp'),eu,ex⟩,λy' H' hy=>?_⟩;obtain⟨pp,x',y',rfl,np,rfl,f1,f2⟩:=hy;have g1:=f1 _ (o9.of (Lk _ _ htp));rw[eu]at g1;cases g1;have g2:=f2 _ (o9.of (Lk _ _ htp'));rw[ex]at g2;cases g2;refine E8 (o:=.tup [u,x]) np λG3 s3 k3=>?_;have q3:=Lk.trans s3;have q23:=q2.trans s3;refine⟨pp,_,rfl,o9.of k3,rfl,za ⟨rfl,za ⟨rfl,rfl,⟨[some _,some _],rfl,rfl⟩,_,rfl,_,rfl,_,rfl,_,rfl,R,zD kv u x up n n' (tb i) (tb' i) us ⟨rfl,⟨hk.same q3,D1.same q3.t pu,D1.same q3.t px,q23 _ _ k1,e1.mono λ_ _ _ z=>j9.same q23.t z,hn,hn'⟩,λv G4 s4 r4=>?_⟩⟩⟩⟩;exact⟨q23.trans s4,(e2.mono λ_ _ _ z=>D1.same (s3.trans s4).t z).snoc r4⟩
   . rintro ys G2 ⟨q2,e2⟩;exact⟨ts,ts',o9.of ((q1.trans q2) _ _ htp),o9.of ((q1.trans q2) _ _ htp'),.inl (by rw[eT.1])⟩
   . rintro ys G2 bp ⟨q2,e2⟩ nbp;refine E8 (o:=.lst ys) nbp λH2 s2 k2=>?_;have u2:=q1.trans (q2.trans s2);refine⟨_,rfl,zg ⟨rfl,rfl,o9.of (u2 _ _ hm),rfl,?_⟩⟩;refine⟨_,rfl,zg ⟨rfl,rfl,o9.of (u2 _ _ hm),rfl,_,rfl,zg ⟨rfl,rfl,o9.of (u2 _ _ hm'),rfl,zg ⟨rfl,rfl,u2 _ _ hsp,u2 _ _ hsp',oM,λp3 H3 s3 h3=>?_⟩⟩⟩⟩;refine⟨_,rfl,bp,ys,rfl,.inl ⟨o7.of (s3 _ _ k2),λp4 n4=>?_⟩⟩;refine E8 (o:=.tup ys) n4 λH4 s4 k4=>?_;have u4:=u2.trans (s3.trans s4);refine⟨_,rfl,zg ⟨rfl,rfl,o9.of (u4 _ _ hm),rfl,_,rfl,zg ⟨rfl,rfl,o9.of (u4 _ _ hm'),rfl,zg ⟨rfl,rfl,u4 _ _ hep,u4 _ _ hep',oM,λp5 H5 s5 h5=>?_⟩⟩⟩⟩;refine⟨(by show 4<=sizeLine;decide),λp6 n6=>?_⟩;have s6:=c7 (o:=.tup [vT l,V.ref p3,V.ref p4,V.ref p5]) n6;have u6:=u4.trans (s5.trans s6);exact k _ _ u6 ⟨p6,_,_,_,rfl,c4,⟨p3,_,rfl,(s4.trans (s5.trans s6)) _ _ h3,(V1 eS eS').mono λ_ _ _ z=>R.same u6.t z⟩,⟨p4,ys,rfl,(s5.trans s6) _ _ k4,e2.mono λ_ _ _ z=>D1.same (s2.trans (s3.trans (s4.trans (s5.trans s6)))).t z⟩,⟨p5,_,rfl,s6 _ _ h5,(V1 eE eE').mono λ_ _ _ z=>R.same u6.t z⟩⟩
def Rb{J:It}{n k:Nat}{g:TG}{tc:TT}{te:TE}{σ:L2.St}{Q:VK}{H1:Hp}(Pv:Nat->List V->Hp->Prop)(hn:n<=10000)(h0:Pv 0 [] H1)(hl:∀i ys H,Pv i ys H->ys.length<=i)
    (hgo:∀i ys H,i < n->Pv i ys H->J.go i H/\∀x H',J.yld i H x H'->g x (σ++List.replicate k none) H' λσ2 H2=>(∃zs,σ2=σ++zs/\zs.length=k)/\tc σ2 H2 λb H3=>if b=true then te σ2 H3 λv H4=>Pv (i+1) (ys++[v]) H4 else Pv (i+1) ys H3)
    (hstop:∀ys H,Pv n ys H->J.stop n H) (hend:∀ys H p,Pv n ys H->H p=none->Q (.ref p) (upd H p (.lst ys))) :
    Ri J k g tc te σ Q H1:=by
 have z:10000 < sizeLine:=by decide
 refine⟨λi m ys H=>m=n - i/\i<=n/\Pv i ys H,⟨n,rfl,aR _,h0⟩,?_⟩;rintro i m ys H ⟨rfl,hi,p⟩;have yl:=hl i ys H p;by_cases hlt:i < n
 . obtain⟨a,b⟩:=hgo i ys H hlt p;refine .inr ⟨a,oM,λx H' y=>?_⟩;have c:=b x H' y;have e1:∀ys H3,(∃m',m' < n - i/\m'=n - (i+1)/\i+1<=n/\Pv (i+1) ys H3)=Pv (i+1) ys H3:=λys H3=>propext ⟨λ⟨_,_,_,_,q⟩=>q,λq=>⟨_,oM,rfl,hlt,q⟩⟩;simp only[e1];exact c
 . have e:i=n:=by omega
   subst e;exact .inl ⟨hstop ys H p,oM,λq nq=>hend ys H q p nq⟩
def RY{α β:Type}{f:α->β}{ws:List α}{d:α}:Eu (λi=>f (ws.getD i d)) ws.length=ws.map f:=by
 unfold Eu;apply List.ext_getElem (by simp);intro i h1 h2;simp at h1;rw[List.getElem_map,List.getElem_map,List.getElem_range];congr 1;rw[bD,ag h1];rfl
def RD(w:World)(K:aa)(mg:Str->Option Value)(base:Heap):Sp:=λvs H Q _=>∃(R:c9 Pr w K mg base),∃kv mv ov l,∃(n n':Nat),∃st tb en st' tb' en',vs=[kv,mv,ov]/\(U1 R.C R.fs H kv/\x6 R l n st tb en mv H/\x6 R l n' st' tb' en' ov H/\Aa l/\n<=60/\n'<=60)/\
 ∀v H',j0 H H'->x6 R l (n+n') (T7 R.S n st st') (λa=>Fg R.S n (tb a) (tb' a)) (T7 R.S n en λi=>R.F.neg (en' i)) v H'->Q v H'
def Sq(T:Txt K mg t):x8 Pr w K mg base F9 44 t.n0r t.d_less IB (RD w K mg base):=by
 refine T.n0j.F.ok Nc (by rintro _ _ _ _ ⟨_,_,_,_,_,_,_,_,_,_,_,_,_,rfl,_⟩;rfl) λcdv A outer s H vs Q E hr h=>?_;obtain⟨R,kv,mv,ov,l,n,n',st,tb,en,st',tb',en',rfl,⟨⟨kp,dx,rfl,hk⟩,hM,hM',L,hn,hn'⟩,k⟩:=h;obtain⟨mp',sv',tv',ev',rfl,hm',h1',h2',⟨ep',es',rfl,hep',eE'⟩⟩:=id hM';refine⟨_,(a8 (sT 3 Nc.nd (j8 g9 (by rfl) T.z_tuple boot_tuple (B4 (z5 (xs:=["x"]) rfl (show w9 ["kind","one","other","minus_ends"] (b9 Ih) _ from⟨rfl,dK,dK,dK,dK,dK⟩) (L9 (j5 i0 (pv 2) c5 (λ_ _=>rfl))) (λ_ _ _ _ _=>(l4 (i:=4) (by show List.Nodup (["kind","one","other","minus_ends","x"]:List Str);decide +kernel) rfl (Or.inl rfl))) (λ_ _ _ _ _=>(R8 (pv 0) R.cl R.t_minus R.G_minus hr.m R.b_minus .nil C4 (B4 (pv 4)))))))) (c6 (c8 (E6 (GN T) hr.m T.h0o (X1 (pv 0) (pv 1) (E5 (Ew (j5 i0 (pv 2) c5 (λ_ _=>rfl)) (j5 i0 (pv 2) c5 (λ_ _=>rfl)) (j5 i0 (pv 2) c5 (λ_ _=>rfl)) (pv 3)))))))),?_⟩;refine⟨_,rfl,zg ⟨rfl,rfl,o9.of hm',rfl,ep',rfl,⟨_,o9.of hep'⟩,w5 (n:=n') (λi ys G=>j0 H G/\j7 (λi u H=>R.is H u (R.F.neg (en' i))) ys i G) oM ⟨j0.refl _,j7.nil⟩ (λj ys G q=>q.2.1) ?_ ?_ ?_⟩⟩
 . rintro i ys G hi ⟨q,e⟩;obtain⟨u,eu,pu⟩:=eE'.2 i hi;refine FT (o9.of (q _ _ hep')) eu ?_;refine⟨⟨[some _],rfl,rfl⟩,_,rfl,zf ⟨rfl,q _ _ hk,R.l_minus,_,rfl,zf ⟨rfl,⟨za ⟨rfl,q _ _ hk⟩,R.same q.t pu⟩,λv G3 s3 r3=>?_⟩⟩⟩;exact⟨q.trans s3,(e.mono λ_ _ _ z=>R.same s3.t z).snoc r3⟩
 . rintro ys G ⟨q,e⟩;exact⟨_,o9.of (q _ _ hep'),by rw[eE'.1];exact ae _⟩
 . rintro ys G lp ⟨q,e⟩ nl;have s1:=c7 (o:=.lst ys) nl;refine⟨lp,ys,rfl,.inl ⟨o7.of c4,λp2 n2=>?_⟩⟩;have s2:=c7 (o:=.tup ys) n2;have k2:=c4 (H:=upd G lp (.lst ys)) (a:=p2) (o:=.tup ys);revert s1 s2 k2;generalize upd (upd G lp (.lst ys)) p2 (.tup ys)=H2;intro s1 s2 k2;have u2:=q.trans (s1.trans s2);refine⟨_,rfl,_,rfl,_,rfl,zg ⟨rfl,rfl,o9.of (u2 _ _ hm'),rfl,_,rfl,zg ⟨rfl,rfl,o9.of (u2 _ _ hm'),rfl,_,rfl,zg ⟨rfl,rfl,o9.of (u2 _ _ hm'),rfl,_,rfl,(by show 4<=sizeLine;decide),λp3 n3=>?_⟩⟩⟩⟩;refine E8 (o:=.tup [vT l,sv',tv',V.ref p2]) n3 λH3 s3 k3=>?_;have u3:=u2.trans s3;refine⟨R,zH (.ref kp) mv (.ref p3) l n n' st tb en st' tb' _ ⟨rfl,⟨za ⟨rfl,u3 _ _ hk⟩,x6.same u3.t hM,⟨p3,zf ⟨rfl,k3,j9.same u3.t h1',Gp.same u3.t h2',⟨p2,ys,rfl,s3 _ _ k2,e.mono λ_ _ _ z=>R.same (s1.trans (s2.trans s3)).t z⟩⟩⟩,L,hn,hn'⟩,λv H4 s4 r4=>?_⟩⟩;exact k _ _ (u3.trans s4) r4
structure Rg(R:c9 Pr w K mg base)(l:List Nat)(n μ:Nat)(st:Nat->R.S.W)(tb:Nat->Nat->Nat->R.S.W)(en:Nat->R.S.W)(ws:List (List Nat)):Prop where
 mb:MB R.B n l.length μ st tb en
 L:Aa l
 hn:n<=60
 al:∀u∈ws,u.length<=n/\∀c∈u,c∈l
 wl:ws.length<=1000
 sm:AM R.S (3 * ((n+2) * (μ+n)))
def Lz(w:World)(K:aa)(mg:Str->Option Value)(base:Heap):Sp:=λvs H Q _=>∃(R:c9 Pr w K mg base),∃kv mv a l,∃(n μ:Nat),∃st tb en ws,vs=[kv,mv,.ref a]/\(U1 R.C R.fs H kv/\x6 R l n st tb en mv H/\K0 R n (y6 R.S n st (E7 l tb)) ws a H/\Rg R l n μ st tb en ws)/\
 ∀b H',j0 H H'->H b=none->H' b=some (.lst ((GM (Q2 R.S l n st tb en) ws).map vT))->Q (.ref b) H'
def FA(T:Txt K mg t):x8 Pr w K mg base F9 42 t.m0w t.l0a Qp (Lz w K mg base):=by
 refine T.l0m.F.ok LN (by rintro _ _ _ _ ⟨_,_,_,_,_,_,_,_,_,_,_,rfl,_⟩;rfl) λcdv A outer s H vs Q E hr h=>?_;obtain⟨R,kv,mv,a,l,n,μ,st,tb,en,ws,rfl,⟨⟨kp,dx,rfl,hk⟩,hM,⟨us,ha,eP⟩,P⟩,k⟩:=h;obtain⟨mp,sv,tv,ev,rfl,hm,h1,h2,h3⟩:=id hM;have hn:=P.hn;have wl:=P.wl;refine⟨_,(c6 (c8 (Oh (xs:=["word","row"]) rfl (show w9 Qp (b9 BM) _ from⟨rfl,dK,dK,dK,dK,dK⟩) (C9 (pv 2)) (λ_ _ _ _ _=>(show PG _ _ (ET K 2 _)from(F1 rfl (j6 (l4 (i:=3) (by show List.Nodup (["kind","both","found","word","row"]:List Str);decide +kernel) rfl (Or.inl rfl)) (j6 (l4 (i:=4) (by show List.Nodup (["kind","both","found","word","row"]:List Str);decide +kernel) rfl (Or.inl rfl)) C7))))) (λ_ _ _ _ _=>(o8 (show DH _ (compareOp .NotEq) (Oe K)from Cy hr.units) (C3 (Md (w:=w) (base:=base) T) hr.m rfl T.n0p.m T.n0p.F.kp T.n0p.b .nil C4 (X1 (pv 0) (pv 4) (j5 (show Le _ (GL K)from i0) (pv 1) c5 (λ_ _=>rfl)))) (Ak (pv 0) R.cl R.t_nought R.G_nought hr.m R.b_nought .nil C4) (w6 _))) (λ_ _ _ _ _=>(pv 3))))),?_⟩;refine⟨_,rfl,a,rfl,⟨_,o7.of ha⟩,Rb (n:=ws.length) (λj ys G=>j0 H G/\ys=(GM (Q2 R.S l n st tb en) (ws.take j)).map vT) oM ⟨j0.refl _,rfl⟩ (λj ys G q=>by rw[q.2,af];exact ah Nh (by rw[bK];omega)) ?_ ?_ ?_⟩
 . rintro j ys G hj ⟨q,rfl⟩;obtain⟨y,ey,wd,pp,rv,ew,rfl,hq,ro⟩:=eP.2 j hj;obtain⟨a1,a2⟩:=P.al wd (aZ ew);refine Dy (o7.of (q _ _ ha)) ey ?_;have zx:=(P.mb.row wd a2).mono (N9 a1) (N9 a1);have e2:(n+2) * (μ+n)=(n+1) * (μ+n)+(μ+n):=bQ ..;refine⟨pp,_,rfl,o9.of (q _ _ hq),rfl,za ⟨rfl,za ⟨rfl,rfl,⟨[some _,some _],rfl,rfl⟩,?_⟩⟩⟩;refine⟨_,rfl,_,rfl,_,rfl,zg ⟨rfl,rfl,o9.of (q _ _ hm),rfl,R,zy _ rv ev n _ en ((n+2) * (μ+n)) ⟨rfl,⟨za ⟨rfl,q _ _ hk⟩,j9.same q.t ro,j9.same q.t h3,Fe zx P.mb.en oM oM,P.sm⟩,λv G1 s1 f1=>?_⟩⟩⟩;have q1:=q.trans s1;refine⟨_,rfl,zf ⟨rfl,q1 _ _ hk,R.l_nought,_,rfl,za ⟨rfl,q1 _ _ hk⟩,λzv G2 s2 f2=>?_⟩⟩;by_cases e:Q2 R.S l n st tb en wd=R.S.zero
   . refine R.neD (R.same s2.t f1) f2 e ⟨_,rfl,?_⟩
     (try refine L7 ?_)
     exact⟨q1.trans s2,by rw[Vb ew e]⟩
   . refine R.neT (R.same s2.t f1) f2 e ⟨_,rfl,?_⟩
     (try refine Hd ?_)
     exact⟨_,rfl,q1.trans s2,by rw[Se ew e,aU];rfl⟩
 . rintro ys G ⟨q,rfl⟩;exact⟨_,o7.of (q _ _ ha),by rw[eP.1];exact ae _⟩
 . rintro ys G z ⟨q,rfl⟩ nz;rw[bo];refine k z _ (q.trans (c7 nz)) ?_ c4;cases e:H z with
   | none=>rfl
   | some o=>rw[q _ _ e]at nz;cases nz
def Bb(w:World)(K:aa)(mg:Str->Option Value)(base:Heap):Sp:=λvs H Q _=>∃(R:c9 Pr w K mg base),∃kv mv a l,∃(n μ:Nat),∃st tb en ws,vs=[kv,mv,.ref a]/\(U1 R.C R.fs H kv/\x6 R l n st tb en mv H/\K0 R n (y6 R.S n st (E7 l tb)) ws a H/\Rg R l n μ st tb en ws)/\
 ∀b H',j0 H H'->H b=none->K0 R n (y6 R.S n st (E7 l tb)) (gP l (Q2 R.S l n st tb en) ws) b H'->Q (.ref b) H'
def Bv(T:Txt K mg t):x8 Pr w K mg base F9 46 t.f0v t.f0i Sv (Bb w K mg base):=by
 refine T.f0k.F.ok Bg (by rintro _ _ _ _ ⟨_,_,_,_,_,_,_,_,_,_,_,rfl,_⟩;rfl) λcdv A outer s H vs Q E hr h=>?_;obtain⟨R,kv,mv,a,l,n,μ,st,tb,en,ws,rfl,⟨hk,hM,hP,P⟩,k⟩:=h;refine⟨_,(a8 (B0 (o8 Cg (l5 w8 (by rfl) T.z_len PySem.boot_len (B4 (E6 (FA T) hr.m T.l0m (X1 (pv 0) (pv 1) (pv 2))))) c5 (w6 _)) (c6 (c8 (D3 K5))) o5) (c6 (c8 (E6 (AV T) hr.m T.e0z (X1 (pv 0) (pv 1) (pv 2)))))),?_⟩;refine⟨_,rfl,_,rfl,_,rfl,R,zE kv mv a l n μ st tb en ws ⟨rfl,⟨hk,hM,hP,P⟩,λb H1 s1 nb hb=>?_⟩⟩;have hl:X2 K (.ref b) H1 (GM (Q2 R.S l n st tb en) ws).length:=.inl ⟨_,o7.of hb,by rw[af]⟩;refine za ⟨rfl,hl,za ⟨rfl,rfl,_,rfl,?_⟩⟩;have bn:∀{z:Addr},H1 z=none->H z=none:=λ{z} nz=>by
  cases e:H z with
  | none=>rfl
  | some o=>rw[s1 _ _ e]at nz;cases nz
 refine Cd (λgt=>?_) (λgt=>?_)
 . refine⟨(by show 0<=sizeLine;decide),λz nz=>?_⟩;refine k z _ (s1.trans (c7 nz)) (bn nz) ?_;unfold gP;rw[if_neg oM];exact⟨[],c4,j7.nil⟩
 . refine⟨_,rfl,_,rfl,_,rfl,R,zE kv mv a l n μ st tb en ws ⟨rfl,⟨hk.same s1,x6.same s1.t hM,P.mb,P.L,P.hn,hP.same s1,P.al,P.wl,P.sm⟩,λz H2 s2 nz hz=>?_⟩⟩;refine k z _ (s1.trans s2) (bn nz) ?_;unfold gP;rw[if_pos oM];exact hz
def Lb(R:c9 Pr w K mg base)(m:Nat)(D:Nat->Nat->R.S.W)(s:Addr × List Addr)(H:Hp):Prop:=H s.1=some (.lst (s.2.map V.ref))/\s.2.length=m/\∀i r,s.2[i]? = some r->∃ws,H r=some (.lst ws)/\j7 (λk u H=>R.is H u (D i k)) ws m H
def W4(ps:List (Addr × List Addr)):List Addr:=ps.flatMap λs=>s.1::s.2
structure Aq(R:c9 Pr w K mg base)(k n:Nat)(es:List (Nat × (Nat->R.S.W)))(c:Nat->R.S.W)(D:Nat->Nat->Nat->R.S.W)(q z x y:Addr)(us fs:List V)(ps:List (Addr × List Addr))(H:Hp):Prop where
 hq:H q=some (.tup [.ref z,.ref x,.ref y])
 hz:H z=some (.lst us)
 hu:j7 (λi u H=>j9 R n (Mine.kv es i) u H) us es.length H
 hx:H x=some (.lst fs)
 hf:j7 (λi u H=>R.is H u (c i)) fs es.length H
 hy:H y=some (.lst (ps.map λs=>V.ref s.1))
 pl:ps.length=k
 hp:∀a s,ps[a]? = some s->Lb R es.length (D a) s H
 nd:(z::x::y::W4 ps).Nodup
def La(R:c9 Pr w K mg base)(k n:Nat)(es:List (Nat × (Nat->R.S.W)))(c:Nat->R.S.W)(D:Nat->Nat->Nat->R.S.W)(v:V)(H:Hp):Prop:=∃q z x y us fs ps,v=.ref q/\Aq R k n es c D q z x y us fs ps H
section
variable{R:c9 Pr w K mg base}{m k n:Nat}{es:List (Nat × (Nat->R.S.W))}{c:Nat->R.S.W}{E:Nat->Nat->R.S.W}{D:Nat->Nat->Nat->R.S.W}{H H':Hp}
theorem Lb.same{s:Addr × List Addr}(g:j0 H H')(h:Lb R m E s H):Lb R m E s H':=⟨g _ _ h.1,h.2.1,λi r e=>let⟨ws,a,b⟩:=h.2.2 i r e;⟨ws,g _ _ a,b.mono λ_ _ _ z=>R.same g.t z⟩⟩
theorem Aq.same{q z x y:Addr}{us fs:List V}{ps:List (Addr × List Addr)}(g:j0 H H')(h:Aq R k n es c D q z x y us fs ps H):Aq R k n es c D q z x y us fs ps H':=
 ⟨g _ _ h.hq,g _ _ h.hz,h.hu.mono λ_ _ _ z=>j9.same g.t z,g _ _ h.hx,h.hf.mono λ_ _ _ z=>R.same g.t z,g _ _ h.hy,h.pl,λa s e=>(h.hp a s e).same g,h.nd⟩
theorem La.same{v:V}(g:j0 H H')(h:La R k n es c D v H):La R k n es c D v H':=let⟨q,z,x,y,us,fs,ps,e,a⟩:=h;⟨q,z,x,y,us,fs,ps,e,a.same g⟩
end
def Lv(L:List Addr)(G:Hp):Prop:=L.Nodup/\∀a∈L,G a≠none
def Lv.same{L:List Addr}{G G':Hp}(s:j0 G G')(h:Lv L G):Lv L G':=⟨h.1,λa ha e=>by
 cases z:G a with
 | none=>exact h.2 a ha z
 | some o=>rw[s _ _ z]at e;cases e⟩
def Lv.not{L:List Addr}{G:Hp}{r:Addr}(h:Lv L G)(n:G r=none):r ∉ L:=λm=>h.2 r m n
def Lv.cons{L:List Addr}{G:Hp}{r:Addr}{o:HO}(h:Lv L G)(n:G r=none):Lv (r::L) (upd G r o):=⟨bS.mpr ⟨h.not n,h.1⟩,λa ha=>by
 rcases ar.mp ha with rfl | ha
 . rw[c4];simp
 . exact(h.same (c7 n)).2 a ha⟩
def Lv.snoc{L:List Addr}{G:Hp}{r:Addr}{o:HO}(h:Lv L G)(n:G r=none):Lv (L++[r]) (upd G r o):=by
 have c:=h.cons (o:=o) n;exact⟨(List.perm_append_comm (l₁:=L) (l₂:=[r])).nodup_iff.mpr c.1,λa ha=>c.2 a ((List.perm_append_comm (l₁:=L) (l₂:=[r])).subset ha)⟩
def Lv.mid{L M:List Addr}{G:Hp}{r:Addr}{o:HO}(h:Lv (L++M) G)(n:G r=none):Lv (L++r::M) (upd G r o):=by
 have c:=h.cons (o:=o) n;have p:(L++r::M).Perm (r::(L++M)):=List.perm_middle;exact⟨p.nodup_iff.mpr c.1,λa ha=>c.2 a (p.subset ha)⟩
def Ju(w:World)(K:aa)(mg:Str->Option Value)(base:Heap)(t:Rn):Sp:=λvs H Q _=>∃(R:c9 Pr w K mg base),∃kv mv rv l,∃(n μ k:Nat),∃st tb en rs,vs=[kv,mv,rv]/\(U1 R.C R.fs H kv/\x6 R l n st tb en mv H/\MB R.B n l.length μ st tb en/\Aa l/\n<=60/\k<=60/\EF R n k rs rv H/\(∀i,i < k->XB R.B n ((n+1) * (μ+n)) ((n+1) * (μ+n)) (rs i))/\AM R.S (3 * zC n μ)/\M1 t H)/\
 ∀es v H',T2 R.F n (Eu rs k) es->La R l.length n es (Vm es st) (Ol n es tb) v H'->J6 (DT t) H H'->M1 t H'->Q v H'
def JW(T:Txt K mg t)(hTb:TbA mg base t):x8 Pr w K mg base F9 54 t.m0d t.j0h ["kind","both","rows"] (Ju w K mg base t):=by
 refine T.j0k.F.ok X3 (by rintro _ _ _ _ ⟨_,_,_,_,_,_,_,_,_,_,_,_,rfl,_⟩;rfl) λcdv A outer s H vs Q E hr h=>?_;obtain⟨R,kv,mv,rv,l,n,μ,k0,st,tb,en,rs,rfl,⟨hk,hM,hB,L,hn,hk0,hR,hx,hS,hT⟩,k⟩:=h;have l3:=L.h3;have sl:10000 < sizeLine:=by decide
 refine⟨_,(a8 (sT 3 X3.nd (E6 (Mc T hTb) hr.m T.k0w (F6 (pv 0) (pv 2)))) (a8 (sT 4 X3.nd (E6 (JZ T) hr.m T.j0o (X1 (pv 0) (pv 1) (pv 3)))) (a8 (R7 (i₀:=5) (xs:=["table"]) X3.nd rfl (Or.inl rfl) rfl (show w9 Vx (b9 Q7) _ from⟨rfl,dK,dK,dK,dK,dK⟩) (L9 (j5 i0 (pv 4) c5 (λ_ _=>rfl))) (λ_ _ _ _ _=>(l4 (i:=6) (by show List.Nodup (d0b);decide +kernel) rfl (Or.inl rfl))) (λ_ _ _ _ _=>(z5 (xs:=["row"]) rfl (show w9 d0b (rlS (b9 Q7) _) _ from⟨rfl,dK,dK,dK,dK,dK⟩) (show PI _ _ _ (VV K _)from L9 (pv 6)) (λ_ _ _ _ _=>(l4 (i:=7) (by show List.Nodup (["kind","both","rows","kept","narrow","steps","table","row"]:List Str);decide +kernel) rfl (Or.inl rfl))) (λ_ _ _ _ _=>(j8 (show U2 _ (.type "list") (λxs H Q=>∃p ys,xs=[.ref p]/\(o7 K H p ys\/o9 K H p ys)/\∀l,H l=none->Q (.ref l) (upd H l (.lst ys)))from K7) (by rfl) T.z_list boot_list (B4 (pv 7))))))) (c6 (c8 (E5 (X1 (z5 (xs:=["place","row"]) rfl (show w9 Vx (b9 Q7) _ from⟨rfl,dK,dK,dK,dK,dK⟩) (C9 (pv 3)) (λ_ _ _ _ _=>(show PG _ _ (ET K 2 _)from(F1 rfl (j6 (l4 (i:=6) (by show List.Nodup (d0e);decide +kernel) rfl (Or.inl rfl)) (j6 (l4 (i:=7) (by show List.Nodup (d0e);decide +kernel) rfl (Or.inl rfl)) C7))))) (λ_ _ _ _ _=>(pv 7))) (j8 K7 (by rfl) T.z_list boot_list (B4 (j5 i0 (pv 4) c5 (λ_ _=>rfl)))) (pv 5)))))))),?_⟩;have hx2:∀i,i<=k0->∀x∈Eu rs i,XB R.B n ((n+1) * (μ+n)) ((n+1) * (μ+n)) x:=λi hi x hx'=>by
  obtain⟨j,hj,rfl⟩:=RX hx';exact hx j oM
 have zb:=Wx (n:=n) (μ:=μ);have zc:=Wz (n:=n) (μ:=μ);refine⟨_,rfl,_,rfl,R,zw kv rv n (zC n μ) k0 rs ⟨rfl,⟨hk,hR,oM,λi hi _=>Wf (rs:=[]) (hx2 i oM) (hx i hi) oM,λi k' hi ek=>We (hx2 _ (ae _)) oM (aZ ek) zC_e,hS,hT _ Ts⟩,λes a H3 sP hT3 hK pm pw=>?_⟩⟩;obtain⟨hTs,sD3⟩:=hT.step T Ts sP hT3;have st3:B5 H H3:=sD3.tup hT.not;have EC:T2 R.F n (Eu rs k0) es:=⟨by rw[RZ];exact pm,pw⟩;have el:=EC.le;have hk3:=U1.sameD sD3 hT.not hk;refine⟨_,rfl,_,rfl,_,rfl,R,zG kv mv a l n μ (zU n μ) st tb en es ⟨rfl,⟨hk3,x6.same st3 hM,hB,hK,EC.xb (hx2 _ (ae _)),hn,oM,oM,hS.le (bg _ zU_C)⟩,λv H4 s4 hN=>?_⟩⟩;obtain⟨mp,sv,tv,ev,rfl,hm,⟨sp,ss,rfl,hsp,eS⟩,⟨tp,ts,rfl,htp,eT⟩,h3⟩:=hN;refine⟨_,rfl,zg ⟨rfl,rfl,o9.of hm,rfl,tp,rfl,⟨_,o9.of htp⟩,w5 (n:=l.length) (λi ys G=>j0 H4 G/\∃ps,ys=ps.map (λs=>V.ref s.1)/\ps.length=i/\(∀a s,ps[a]? = some s->Lb R es.length (Ol n es tb a) s G)/\Lv (W4 ps) G) oM ⟨j0.refl _,[],rfl,rfl,λa s e=>by simp at e,List.nodup_nil,λa ha=>nomatch ha⟩ (λj ys G q=>by obtain⟨_,ps,e,el,_⟩:=q;rw[e,af,el]) ?_ ?_ ?_⟩⟩
 . rintro i ys G hi ⟨q,ps,rfl,el,hP,hV⟩;obtain⟨u,eu,pu⟩:=eT.2 i hi;refine⟨za ⟨o9.of (q _ _ htp),eu⟩,λy' H' hy'=>?_⟩;obtain⟨rfl,hy'⟩:=hy';have:=hy' _ (o9.of (q _ _ htp));rw[eu]at this;cases this;obtain⟨up,us,rfl,hup,eU⟩:=D1.same q.t pu;refine⟨⟨[some _],rfl,rfl⟩,_,rfl,up,rfl,⟨_,o9.of hup⟩,w5 (n:=es.length) (λj zs G2=>j0 H' G2/\∃rs,zs=rs.map V.ref/\rs.length=j/\(∀i' r,rs[i']? = some r->∃ws,G2 r=some (.lst ws)/\j7 (λk u H=>R.is H u (Ol n es tb i i' k)) ws es.length G2)/\Lv (W4 ps++rs) G2) oM ⟨j0.refl _,[],rfl,rfl,λa s e=>by simp at e,by rw[bb];exact hV⟩ (λj ys G q=>by obtain⟨_,rs,e,el,_⟩:=q;rw[e,af,el]) ?_ ?_ ?_⟩
   . rintro j zs G2 hj ⟨q2,rs,rfl,e2,hR2,hV2⟩;obtain⟨x,ex,px⟩:=eU.2 j hj;refine FT (o9.of (q2 _ _ hup)) ex ?_;obtain⟨xp,xs,rfl,hxp,eX⟩:=j9.same q2.t px;refine⟨⟨[some _],rfl,rfl⟩,_,rfl,xp,xs,rfl,.inr (o9.of hxp),λlp nl=>?_⟩;have s5:=c7 (o:=.lst xs) nl;refine⟨q2.trans s5,rs++[lp],by rw[aU];rfl,by rw[aq,e2];rfl,λi' r e=>?_,by rw[<- df];exact hV2.snoc nl⟩;by_cases z:i' < rs.length
     . rw[aH z]at e;obtain⟨ws,a,b⟩:=hR2 i' r e;exact⟨ws,s5 _ _ a,b.mono λ_ _ _ z=>R.same s5.t z⟩
     . rw[aK oM]at e;by_cases y:i' - rs.length=0
       . rw[y]at e;cases e;rw[show i'=j by omega];exact⟨xs,c4,eX.mono λ_ _ _ z=>R.same s5.t z⟩
       . rw[du (by simp;omega)]at e;cases e
   . rintro zs G2 ⟨q2,e2⟩;exact⟨_,o9.of (q2 _ _ hup),by rw[eU.1];exact ae _⟩
   . rintro zs G2 z ⟨q2,rs,rfl,e2,hR2,hV2⟩ nz;have s5:=c7 (o:=.lst (rs.map V.ref)) nz;refine⟨(q.trans q2).trans s5,ps++[(z,rs)],by rw[aU];rfl,by rw[aq,el];rfl,λa s e=>?_,?_⟩
     . by_cases y:a < ps.length
       . rw[aH y]at e;exact(hP a s e).same (q2.trans s5)
       . rw[aK oM]at e;by_cases y:a - ps.length=0
         . rw[y]at e;cases e;rw[show a=i by omega];exact⟨c4,e2,λi' r e=>let⟨ws,a,b⟩:=hR2 i' r e;⟨ws,s5 _ _ a,b.mono λ_ _ _ z=>R.same s5.t z⟩⟩
         . rw[du (by simp;omega)]at e;cases e
     . have e:W4 (ps++[(z,rs)])=W4 ps++z::rs:=by unfold W4;rw[List.flatMap_append];simp
       rw[e];exact hV2.mid nz
 . rintro ys G ⟨q,e⟩;exact⟨_,o9.of (q _ _ htp),by rw[eT.1];exact ae _⟩
 . rintro ys G z ⟨q,ps,rfl,el2,hP,hV⟩ nz;have s5:=c7 (o:=.lst (ps.map λs=>V.ref s.1)) nz;have k5:=c4 (H:=G) (a:=z) (o:=.lst (ps.map λs=>V.ref s.1));have hV5:=hV.cons (o:=.lst (ps.map λs=>V.ref s.1)) nz;have q5:=q.trans s5;revert s5 k5 hV5 q5;generalize upd G z (.lst (ps.map λs=>V.ref s.1))=H5;intro s5 k5 hV5 q5;obtain⟨kus,hka,eK⟩:=hK.same (s4.trans q5);refine⟨_,rfl,a,rfl,⟨_,o7.of hka⟩,w5 (n:=es.length) (λi zs G=>j0 H5 G/\j7 (λi u H=>j9 R n (Mine.kv es i) u H) zs i G) oM ⟨j0.refl _,j7.nil⟩ (λj ys G q=>q.2.1) ?_ ?_ ?_⟩
   . rintro i zs G2 hi ⟨q2,e2⟩;obtain⟨u,eu,kq,qa,ov,ek,rfl,hq,ro⟩:=eK.2 i hi;refine Dy (o7.of (q2 _ _ hka)) eu ?_;refine⟨qa,_,rfl,o9.of (q2 _ _ hq),rfl,za ⟨rfl,za ⟨rfl,rfl,⟨[some _,some _],rfl,rfl⟩,_,rfl,q2,e2.snoc ?_⟩⟩⟩;rw[show Mine.kv es i=kq.2 from EA ek];exact j9.same q2.t ro
   . rintro zs G2 ⟨q2,e2⟩;exact⟨_,o7.of (q2 _ _ hka),by rw[eK.1];exact ae _⟩
   . rintro zs G2 z2 ⟨q2,e2⟩ nz2;have s6:=c7 (o:=.lst zs) nz2;have k6:=c4 (H:=G2) (a:=z2) (o:=.lst zs);have hV6:=(hV5.same q2).cons (o:=.lst zs) nz2;revert s6 k6 hV6;generalize upd G2 z2 (.lst zs)=H6;intro s6 k6 hV6;have q6:=q5.trans (q2.trans s6);refine⟨_,rfl,zg ⟨rfl,rfl,o9.of (q6 _ _ hm),rfl,sp,ss,rfl,.inr (o9.of (q6 _ _ hsp)),λp7 n7=>?_⟩⟩;have s7:=c7 (o:=.lst ss) n7;have hV7:=hV6.cons (o:=.lst ss) n7;have k7:=c4 (H:=H6) (a:=p7) (o:=.lst ss);refine⟨_,rfl,(by show 3<=sizeLine;decide),λp8 n8=>?_⟩;have s8':=c7 (o:=.tup [V.ref z2,V.ref p7,V.ref z]) n8;have s8:=s7.trans s8';have Wt:=s4.trans (q6.trans s8);refine k es _ _ EC ⟨p8,z2,p7,z,zs,ss,ps,rfl,c4,s8 _ _ k6,e2.mono λ_ _ _ g=>j9.same (s6.trans s8).t g,s8' _ _ k7,eS.mono λ_ _ _ g=>R.same (q6.trans s8).t g,(q2.trans (s6.trans s8)) _ _ k5,el2,λa s e=>(hP a s e).same (s5.trans (q2.trans (s6.trans s8))),?_⟩ (sD3.trans (.of Wt)) (hTs.same Wt);exact(List.Perm.swap ..).nodup_iff.mpr hV7.1
noncomputable abbrev CT{S:SR}(n:Nat)(st st':Nat->S.W):Nat->S.W:=T7 S n st st'
noncomputable abbrev CS{S:SR}(n:Nat)(tb tb':Nat->Nat->Nat->S.W):Nat->Nat->Nat->S.W:=λa=>Fg S n (tb a) (tb' a)
noncomputable abbrev ED{S:SR}(F:Ab S)(n:Nat)(en en':Nat->S.W):Nat->S.W:=T7 S n en λi=>F.neg (en' i)
noncomputable def Rl{S:SR}(F:Ab S)(l:List Nat)(m:Nat)(st:Nat->S.W)(tb:Nat->Nat->Nat->S.W)(en:Nat->S.W):List (List Nat):=Fb F m (y6 S m st (E7 l tb)) (gP l (Q2 S l m st tb en))
def Pm(w:World)(K:aa)(mg:Str->Option Value)(base:Heap)(t:Rn):Sp:=λvs H Q _=>∃(R:c9 Pr w K mg base),∃kv mv ov l,∃(n n' μ:Nat),∃st tb en st' tb' en',vs=[kv,mv,ov]/\(U1 R.C R.fs H kv/\x6 R l n st tb en mv H/\x6 R l n' st' tb' en' ov H/\MB R.B (n+n') l.length μ (CT n st st') (CS n tb tb') (ED R.F n en en')/\Aa l/\n+n'<=60/\AM R.S (3 * zC (n+n') μ)/\M1 t H)/\
 ∀p v H',J6 (DT t) H H'->M1 t H'->(∀ws,GM (Q2 R.S l (n+n') (CT n st st') (CS n tb tb') (ED R.F n en en')) (Rl R.F l (n+n') (CT n st st') (CS n tb tb') (ED R.F n en en'))=ws->(ws=[]/\H' p=some (.tup [.str (Str.ofString "yes"),v])/\∃es,T2 R.F (n+n') ((Rl R.F l (n+n') (CT n st st') (CS n tb tb') (ED R.F n en en')).map (y6 R.S (n+n') (CT n st st') (E7 l (CS n tb tb')))) es/\La R l.length (n+n') es (Vm es (CT n st st')) (Ol (n+n') es (CS n tb tb')) v H')\/∃u T,ws=u::T/\H' p=some (.tup [.str (Str.ofString "no"),vT u]))->Q (.ref p) H'
def FJ(T:Txt K mg t)(hTb:TbA mg base t):x8 Pr w K mg base F9 56 t.alike t.n0d IB (Pm w K mg base t):=by
 refine T.m0x.F.okC Da T.tb_alike T.m0g (by rintro _ _ _ _ ⟨_,_,_,_,_,_,_,_,_,_,_,_,_,_,rfl,_⟩;rfl) λA outer s H vs Q E hr h=>?_;obtain⟨R,kv,mv,ov,l,n,n',μ,st,tb,en,st',tb',en',rfl,⟨hk,hM,hM',hB,L,hn,hS,hT⟩,k⟩:=h;refine⟨_,(a8 (F8 (E6 (GO T) hr.m T.h0p (B4 (pv 0)))) (a8 (F8 (E6 (Bs T) hr.m T.f0f (F6 (pv 1) (pv 2)))) (a8 (AD (i:=3) Da.nd rfl (Or.inr rfl) (E6 (Sq T) hr.m T.n0j (X1 (pv 0) (pv 1) (pv 2)))) (a8 (sT 4 Da.nd (LZ (kf:=47) (pn:="last") (fr:=["kind","both"]) (js:=[0,3]) (λbase=>GQ (w:=w) (base:=base) T) hr.m rfl T.h0t.m T.h0t.F.kp T.h0t.b (JU (pv 0) (JU (j5 i0 (pv 3) c5 (λ_ _=>rfl)) (Sk hTb.alike rfl rfl rfl (show ∀y:Str × NameKind,y∈_->y.2=.free->(b9 Y0).names.lookup y.1=some .cell\/(b9 Y0).names.lookup y.1=some .free from by decide +kernel)))) (by exact⟨λ_=>rfl,⟨rfl,rfl,rfl,dK,rfl,dK,dK,dK⟩,(show ∀y:Str,y∈(["kind","both"]:List Str)->(b9 Y0).names.lookup y=some .cell\/(b9 Y0).names.lookup y=some .free from by decide +kernel),dK,rfl⟩) (λbase _ _ _ _ _ _ _ hr=>(C3 (Bv (w:=w) (base:=base) T) hr.m rfl T.f0k.m T.f0k.F.kp T.f0k.b .nil C4 (X1 (pv 1) (pv 2) (pv 0)))) (λ_ _ _ _ _=>rfl))) (a8 (sT 5 Da.nd (E6 (FA T) hr.m T.l0m (X1 (pv 0) (pv 3) (pv 4)))) (a8 (B0 (o8 Cg (l5 w8 (by rfl) T.z_len PySem.boot_len (B4 (pv 5))) c5 (w6 _)) (c6 (c8 (E5 (F6 Eb (j5 B8 (pv 5) c5 (λ_ _=>rfl)))))) o5) (c6 (c8 (E5 (F6 Eb (E6 (JW T hTb) hr.m T.j0k (X1 (pv 0) (pv 3) (z5 (xs:=["word","row"]) rfl (show w9 ["kind","one","other","both","found","parted"] (b9 Y0) _ from⟨rfl,dK,dK,dK,dK,dK⟩) (C9 (pv 4)) (λ_ _ _ _ _=>(show PG _ _ (ET K 2 _)from(F1 rfl (j6 (l4 (i:=6) (by show List.Nodup (d0d);decide +kernel) rfl (Or.inl rfl)) (j6 (l4 (i:=7) (by show List.Nodup (d0d);decide +kernel) rfl (Or.inl rfl)) C7))))) (λ_ _ _ _ _=>(pv 7))))))))))))))),?_⟩;refine⟨_,rfl,R,kv,rfl,hk,?_⟩;refine⟨_,rfl,_,rfl,R,zG mv ov l n n' st tb en st' tb' en' ⟨rfl,⟨hM,hM'⟩,?_⟩⟩;refine⟨_,rfl,_,rfl,_,rfl,R,zH kv mv ov l n n' st tb en st' tb' en' ⟨rfl,⟨hk,hM,hM',L,oM,oM⟩,λbv H1 s1 hM1=>?_⟩⟩;have hT1:=hT.same s1;have hk1:=hk.same s1;have fd:∀u∈Rl R.F l (n+n') (CT n st st') (CS n tb tb') (ED R.F n en en'),u.length<=n+n'/\∀c∈u,c∈l:=λu hu=>FW KD _ u hu;have fl:(Rl R.F l (n+n') (CT n st st') (CS n tb tb') (ED R.F n en en')).length<=n+n':=by
  unfold Rl Fb;rw[IU];exact(T6 _).len
 have hM1:x6 R l (n+n') (CT n st st') (CS n tb tb') (ED R.F n en en') bv H1:=hM1;have k':=k;unfold Rl at k' fd fl;revert hM1 hB k' fd fl;generalize CT n st st'=bs;generalize CS n tb tb'=bt;generalize ED R.F n en en'=be;generalize n+n'=m at *;intro hB fd fl hM1 k';obtain⟨mp,sv,tv,ev,rfl,hm,h1,h2,h3⟩:=id hM1;have zl:∀i,∀u∈(B3 R.F m (y6 R.S m bs (E7 l bt)) (gP l (Q2 R.S l m bs bt be)) i).last,u.length<=m/\∀c∈u,c∈l:=λi u hu=>QN KD hu;have zFC:=Wz (n:=m) (μ:=μ);have smF:=hS.le (bg 3 zFC);have smA:AM R.S (3 * ((m+2) * (μ+m))):=smF.le (bg _ Wy);have held:∀ws:List (List Nat),(∀u∈ws,u.length<=m/\∀c∈u,c∈l)->ws.length<=1000->Rg R l m μ bs bt be ws:=λws h1 h2=>⟨hB,L,hn,h1,h2,smA⟩;refine⟨[kv,.ref mp],rfl,_,rfl,_,rfl,zg ⟨rfl,rfl,o9.of hm,rfl,hT1 _ Pb,λf c H2 sP hT2 hC nf base' hF=>?_⟩⟩;obtain⟨hTs,sD⟩:=hT1.step T Pb sP hT2;have st2:B5 H1 H2:=sD.tup hT1.not;have hk2:U1 R.C R.fs H2 kv:=U1.sameD sD hT1.not hk1;have hM2:=x6.same st2 hM1;refine⟨R.re base',kv,sv,f,m,(m+1) * (μ+m),(m+1) * (μ+m),y6 R.S m bs (E7 l bt),gP l (Q2 R.S l m bs bt be),λws=>(∀u∈ws,u.length<=m/\∀c∈u,c∈l)/\ws.length<=1000,λ_=>False,λG=>Q5 G c qAL/\U1 R.C R.fs G kv/\x6 R l m bs bt be (.ref mp) G/\M1 t G,rfl,⟨hk2,j9.same st2 h1,hn,?_,⟨⟨hC,hk2,hM2,hTs⟩,λG G' s' j=>⟨Q5.same0 s' j.1,j.2.1.same s',x6.same s'.t j.2.2.1,j.2.2.2.same s'⟩,λa xs G G' _ ha s' j=>⟨Q5.sameX s' ha j.1,?_,x6.same (s'.lt ha) j.2.2.1,j.2.2.2.sameX s' ha⟩⟩,λG j b d=>d.elim,KD.1,λi ne=>?_,λi u hu=>(hB.row u (zl i u hu).2).mono (N9 (zl i u hu).1) (N9 (zl i u hu).1),smF.le (bg _ Wx)⟩,λb H3 s3 j3 nb hP=>?_⟩
 . refine Hk.imp hF λv G Q' h=>?_;obtain⟨a,ws,e,⟨hL,⟨o1,o2⟩,j1,j2,j3,j4⟩,k'⟩:=h;cases e;refine⟨j1,_,rfl,_,rfl,_,rfl,_,rfl,R.re base',kv,.ref mp,a,l,m,μ,bs,bt,be,ws,rfl,⟨j2,j3,hL,⟨hB,L,hn,o1,o2,smA⟩⟩,λb G' s' nb hP=>?_⟩;exact k' b G' (.of s') ⟨Q5.same0 s' j1,j2.same s',x6.same s'.t j3,j4.same s'⟩ nb hP
 . obtain⟨kp,dx,rfl,hkp⟩:=j.2.1;exact⟨kp,dx,rfl,s' _ _ (λz=>by rw[z,ha]at hkp;cases hkp) hkp⟩
 . refine⟨λu hu=>zl i u (DC hu),?_⟩;have e:=AJ (F:=R.F) (l:=m) (ρ:=y6 R.S m bs (E7 l bt)) (ws:=(B3 R.F m (y6 R.S m bs (E7 l bt)) (gP l (Q2 R.S l m bs bt be)) i).last) (ks:=(B3 R.F m (y6 R.S m bs (E7 l bt)) (gP l (Q2 R.S l m bs bt be)) i).ks);have k2:=(T6 (F:=R.F) (l:=m) (ρ:=y6 R.S m bs (E7 l bt)) (g:=gP l (Q2 R.S l m bs bt be)) (i+1)).len;have k2:(DJ R.F m (y6 R.S m bs (E7 l bt)) (B3 R.F m (y6 R.S m bs (E7 l bt)) (gP l (Q2 R.S l m bs bt be)) i).ks (B3 R.F m (y6 R.S m bs (E7 l bt)) (gP l (Q2 R.S l m bs bt be)) i).last).length<=m:=k2;show(Em R.F m (y6 R.S m bs (E7 l bt)) (B3 R.F m (y6 R.S m bs (E7 l bt)) (gP l (Q2 R.S l m bs bt be)) i).ks (B3 R.F m (y6 R.S m bs (E7 l bt)) (gP l (Q2 R.S l m bs bt be)) i).last).length<=1000;omega
 . have hP:K0 R m (y6 R.S m bs (E7 l bt)) (Fb R.F m (y6 R.S m bs (E7 l bt)) (gP l (Q2 R.S l m bs bt be))) b H3:=hP;have hT3:=j3.2.2.2;have hk3:U1 R.C R.fs H3 kv:=j3.2.1;have hM3:=j3.2.2.1;have sD3:J6 (DT t) H1 H3:=sD.trans λc o _ e=>s3 c o (λz=>z) e;have hx:∀u∈Fb R.F m (y6 R.S m bs (E7 l bt)) (gP l (Q2 R.S l m bs bt be)),XB R.B m ((m+1) * (μ+m)) ((m+1) * (μ+m)) (y6 R.S m bs (E7 l bt) u):=λu hu=>(hB.row u (fd u hu).2).mono (N9 (fd u hu).1) (N9 (fd u hu).1);revert hP k' fd fl hx;generalize Fb R.F m (y6 R.S m bs (E7 l bt)) (gP l (Q2 R.S l m bs bt be))=ws;intro fd fl k' hP hx;have hd:=held ws fd oM;refine⟨_,rfl,_,rfl,_,rfl,R,zE kv (.ref mp) b l m μ bs bt be ws ⟨rfl,⟨hk3,hM3,hP,hd⟩,λpb H4 s4 npb hpb=>?_⟩⟩;have pl:=Nh (D:=Q2 R.S l m bs bt be) (ws:=ws);have hl:X2 K (.ref pb) H4 (GM (Q2 R.S l m bs bt be) ws).length:=.inl ⟨_,o7.of hpb,by rw[af]⟩;have sD4:=sD3.trans (.of s4);refine⟨_,rfl,za ⟨rfl,hl,za ⟨rfl,rfl,_,rfl,?_⟩⟩⟩;cases ep:GM (Q2 R.S l m bs bt be) ws with
   | cons u Tl=>
    refine Cd (λgt=>?_) (λgt=>absurd (show(0:Int) < ((u::Tl).length:Nat) by rw[bq];omega) gt);rw[ep]at hpb;refine⟨_,rfl,zg ⟨rfl,rfl,o7.of hpb,(show OI ((u::Tl).map vT) 0=some (vT u)from C0 (j:=0) rfl),(by show 2<=sizeLine;decide),λp np=>?_⟩⟩;have s5:=c7 (o:=.tup [V.str (Str.ofString "no"),vT u]) np;refine k' p .non _ ((J6.of s1).trans (sD4.trans (.of s5))) ((hT3.same s4).same s5) λws' e'=>.inr ⟨u,Tl,?_,c4⟩;rw[<- e',ep]
   | nil=>
    refine Cd (λgt=>absurd gt (by simp)) (λgt=>?_);obtain⟨us,hb,eP⟩:=hP.same s4;refine⟨_,rfl,_,rfl,_,rfl,b,rfl,⟨_,o7.of hb⟩,w5 (n:=ws.length) (λj ys G=>j7 (λi u H=>j9 R m (y6 R.S m bs (E7 l bt) (ws.getD i [])) u H) ys j H4/\G=H4) oM ⟨j7.nil,rfl⟩ (λj ys H3 q=>q.1.1) ?_ ?_ ?_⟩
    . rintro j ys G hj ⟨e,rfl⟩;obtain⟨y,ey,wd,q,rv,ew,rfl,hq,ro⟩:=eP.2 j hj;refine Dy (o7.of hb) ey ?_;refine⟨q,_,rfl,o9.of hq,rfl,za ⟨rfl,za ⟨rfl,rfl,⟨[some _,some _],rfl,rfl⟩,_,rfl,e.snoc ?_,rfl⟩⟩⟩;rw[bD,ew];exact ro
    . rintro ys G ⟨e,rfl⟩;exact⟨_,o7.of hb,by rw[eP.1];exact ae _⟩
    . rintro ys G z ⟨e,rfl⟩ nz;refine E8 (o:=.lst ys) nz λH5 s5 k5=>?_;have Lj:=s4.trans s5;refine⟨R,zG kv (.ref mp) (.ref z) l m μ ws.length bs bt be (λi=>y6 R.S m bs (E7 l bt) (ws.getD i [])) ⟨rfl,⟨hk3.same Lj,x6.same Lj.t hM3,hB,L,hn,oM,⟨z,ys,rfl,k5,e.mono λ_ _ _ q=>j9.same s5.t q⟩,λi hi=>hx _ (Mine.Nu hi),hS,hT3.same Lj⟩,λes v H6 EC hW sD6 hT6=>?_⟩⟩;refine⟨(by show 2<=sizeLine;decide),λp np=>?_⟩;have s7:=c7 (o:=.tup [V.str (Str.ofString "yes"),v]) np;refine k' p v _ ((J6.of s1).trans (sD3.trans ((J6.of Lj).trans (sD6.trans (.of s7))))) (hT6.same s7) λws' e'=>.inl ⟨by rw[<- e',ep],c4,es,?_,hW.same s7⟩;rw[RY]at EC;exact EC
def FG(T:Txt K mg t):x8 Pr w K mg base F9 1 t.i0e t.h0m Sw sp_divisor:=by
 refine T.h0c.F.ok Be (by rintro _ _ _ _ ⟨_,_,rfl,_⟩;rfl) λcdv A outer s H vs Q E hr h=>?_;obtain⟨a,b,rfl,k⟩:=h;refine⟨_,(a8 (Bq aB (o8 Dk (pv 1) c5 (w6 _)) (c6 (UZ (i:=0) (j:=1) rfl Be.nd rfl rfl (by decide) rfl rfl (F6 (pv 1) (o6 F2 (pv 0) (pv 1))) rfl))) (c6 (c8 (l5 Gn (by rfl) T.z_abs boot_abs (B4 (pv 0)))))),?_⟩;refine⟨λm σ H'=>∃x y,σ=[some (.int x),some (.int y)]/\m=y.natAbs/\dv x y=dv a b/\H'=H,zf ⟨rfl,rfl,rfl,rfl⟩,?_⟩;rintro m σ H' ⟨x,y,rfl,rfl,e,rfl⟩
 (repeat fail)
 refine FS (λh0=>?_) (λh0=>?_)
 . refine⟨λσ' H''=>∃x' y',σ'=[some (.int x'),some (.int y')]/\y'.natAbs < y.natAbs/\dv x' y'=dv a b/\H''=H',λσ' H'' ⟨x',y',e1,e2,e3,e4⟩=>⟨_,e2,x',y',e1,rfl,e3,e4⟩,?_⟩;refine⟨_,rfl,_,rfl,_,rfl,za ⟨rfl,rfl,h0,za ⟨rfl,?_⟩⟩⟩;exact za ⟨rfl,KJ _ _ h0,VL e,rfl⟩
 . refine⟨_,rfl,_,rfl,?_⟩
   (try dsimp only)
   rw[out2 e h0];exact k
def sp_low:Sp:=λvs H Q _=>∃a b,vs=[.int a,.int b]/\0 < b/\∀v H',j0 H H'->Gx H' v (tp a b) (bt a b)->Q v H'
def Cz(T:Txt K mg t):x8 Pr w K mg base F9 36 t.n0c t.l0r ["_law_top","_law_bottom"] sp_low:=by
 refine T.l0q.F.ok Fs (by rintro _ _ _ _ ⟨_,_,rfl,_⟩;rfl) λcdv A outer s H vs Q E hr h=>?_;obtain⟨a,b,rfl,pb,k⟩:=h;have hd:dv a b≠0:=cJ (Gf oM);refine⟨_,(a8 (sT 2 Fs.nd (E6 (FG T) hr.m T.h0c (F6 (pv 0) (pv 1)))) (c6 (c8 (E5 (F6 (o6 (Dl hr (by decide) MU) (pv 0) (pv 2)) (o6 (Dl hr (by decide) MU) (pv 1) (pv 2))))))),?_⟩
 (repeat fail)
 refine⟨(by show 2<=sizeLine;decide),λp hp=>?_⟩;refine k _ _ (c7 hp) ?_
 (try dsimp only)
 rw[(Nx pb).1,(Nx pb).2];exact Gx.new
def MY(T:Txt K mg t)(f:∀S:SR,S.W->S.W->S.W):Sp:=λvs H Q _=>∃(R:c9 Pr w K mg base),∃nm p so x y a b m n,So T R nm p/\vs=[so,x,y]/\
 (M3 H so nm p/\R.is H x a/\R.is H y b/\R.S.sz m a/\R.S.sz n b/\AM R.S (m+n))/\∀v H',j0 H H'->R.is H' v (f R.S a b)->Q v H'
def O6(T:Txt K mg t):x8 Pr w K mg base F9 37 t.m0m t.j0g Ki (MY (w:=w) (base:=base) T λS=>S.add):=by
 refine T.k0d.F.ok JE (by rintro _ _ _ _ ⟨_,_,_,_,_,_,_,_,_,_,_,rfl,_⟩;rfl) λcdv A outer s H vs Q E hr h=>?_;obtain⟨R,nm,p,so,x,y,a,b,m,n,hS,rfl,⟨rfl,hx,hy,sa,sb,hmn⟩,k⟩:=h;refine⟨_,(a8 (B0 (o8 M5 (pv 0) c5 (w6 _)) (c6 (c8 (E6 (Cz T) hr.m T.l0q (F6 (o6 L5 (o6 S3 (j5 i0 (pv 1) c5 (λ_ _=>rfl)) (j5 i0 (pv 2) c5 (λ_ _=>rfl))) (o6 S3 (j5 i0 (pv 2) c5 (λ_ _=>rfl)) (j5 i0 (pv 1) c5 (λ_ _=>rfl)))) (o6 S3 (j5 i0 (pv 1) c5 (λ_ _=>rfl)) (j5 i0 (pv 2) c5 (λ_ _=>rfl))))))) o5) (c6 (c8 (o6 F2 (o6 L5 (pv 1) (pv 2)) (pv 0))))),?_⟩;cases hS with
 | fr=>
  obtain⟨px,rfl,hx⟩:=hx;obtain⟨py,rfl,hy⟩:=hy;have sa:a.sz m:=sa;have sb:b.sz n:=sb;have hmn:=HV hmn;refine⟨_,rfl,rfl,_,rfl,?_⟩;refine BH (decide_eq_true rfl) ?_;refine⟨_,rfl,zg ⟨rfl,rfl,o9.of hx,rfl,_,rfl,zg ⟨rfl,rfl,o9.of hy,rfl,za ⟨rfl,rfl,GT (n:=n) sa.1 sb.2 oM,_,rfl,zg ⟨rfl,rfl,o9.of hy,rfl,_,rfl,zg ⟨rfl,rfl,o9.of hx,rfl,za ⟨rfl,rfl,GT (n:=m) sb.1 sa.2 oM,za ⟨rfl,rfl,?_⟩⟩⟩⟩⟩⟩⟩⟩;refine⟨_,rfl,zg ⟨rfl,rfl,o9.of hx,rfl,_,rfl,zg ⟨rfl,rfl,o9.of hy,rfl,za ⟨rfl,rfl,GT (n:=n) sa.2 sb.2 oM,za ⟨rfl,aL a.p b.p,λv H' s' f'=>k v H' s' f'⟩⟩⟩⟩⟩
 | re p hp hq' hi=>
  cases (show x=.int a.x from hx);cases (show y=.int b.x from hy);refine⟨_,rfl,rfl,_,rfl,?_⟩;refine FR (decide_eq_false λz=>by injection z with z;omega) ?_;refine⟨_,rfl,_,rfl,za ⟨rfl,rfl,_,rfl,za ⟨rfl,rfl,(show p≠0 by omega),?_⟩⟩⟩;exact k _ _ (j0.refl _) rfl
def M4(T:Txt K mg t):x8 Pr w K mg base F9 37 t.l0l t.i0p Ki (MY (w:=w) (base:=base) T λS=>S.mul):=by
 refine T.i0s.F.ok HY (by rintro _ _ _ _ ⟨_,_,_,_,_,_,_,_,_,_,_,rfl,_⟩;rfl) λcdv A outer s H vs Q E hr h=>?_;obtain⟨R,nm,p,so,x,y,a,b,m,n,hS,rfl,⟨rfl,hx,hy,sa,sb,hmn⟩,k⟩:=h;refine⟨_,(a8 (B0 (o8 M5 (pv 0) c5 (w6 _)) (c6 (c8 (E6 (Cz T) hr.m T.l0q (F6 (o6 S3 (j5 i0 (pv 1) c5 (λ_ _=>rfl)) (j5 i0 (pv 2) c5 (λ_ _=>rfl))) (o6 S3 (j5 i0 (pv 1) c5 (λ_ _=>rfl)) (j5 i0 (pv 2) c5 (λ_ _=>rfl))))))) o5) (c6 (c8 (o6 F2 (o6 Ed (pv 1) (pv 2)) (pv 0))))),?_⟩;cases hS with
 | fr=>
  obtain⟨px,rfl,hx⟩:=hx;obtain⟨py,rfl,hy⟩:=hy;have sa:a.sz m:=sa;have sb:b.sz n:=sb;have hmn:=HV hmn;refine⟨_,rfl,rfl,_,rfl,?_⟩;refine BH (decide_eq_true rfl) ?_;refine⟨_,rfl,zg ⟨rfl,rfl,o9.of hx,rfl,_,rfl,zg ⟨rfl,rfl,o9.of hy,rfl,za ⟨rfl,rfl,GT (n:=n) sa.1 sb.1 oM,?_⟩⟩⟩⟩;refine⟨_,rfl,zg ⟨rfl,rfl,o9.of hx,rfl,_,rfl,zg ⟨rfl,rfl,o9.of hy,rfl,za ⟨rfl,rfl,GT (n:=n) sa.2 sb.2 oM,za ⟨rfl,aL a.p b.p,λv H' s' f'=>k v H' s' f'⟩⟩⟩⟩⟩
 | re p hp hq' hi=>
  cases (show x=.int a.x from hx);cases (show y=.int b.x from hy);refine⟨_,rfl,rfl,_,rfl,?_⟩;refine FR (decide_eq_false λz=>by injection z with z;omega) ?_;have cm:OP a.x b.x:=.inl ⟨by have:=a.h0;omega,by have:=a.h1;omega⟩;refine⟨_,rfl,_,rfl,za ⟨rfl,rfl,cm,_,rfl,za ⟨rfl,rfl,(show p≠0 by omega),?_⟩⟩⟩;exact k _ _ (j0.refl _) rfl
def NW(T:Txt K mg t):Sp:=λvs H Q _=>∃(R:c9 Pr w K mg base),∃nm p so,∃(n:Int),So T R nm p/\vs=[so,.int n]/\(M3 H so nm p/\-2<=n/\n<=2)/\∀v H' x,j0 H H'->R.is H' v x->(n=0->x=R.S.zero)->(n=1->x=R.S.one)->R.S.sz 1 x->R.B.cb 1 2 x->Q v H'
def Am(T:Txt K mg t):x8 Pr w K mg base F9 1 t.n0f t.m0o Sy (NW (w:=w) (base:=base) T):=by
 refine T.m0l.F.ok Od (by rintro _ _ _ _ ⟨_,_,_,_,_,_,rfl,_⟩;rfl) λcdv A outer s H vs Q E hr h=>?_;obtain⟨R,nm,p,so,n,hS,rfl,⟨rfl,n0,n1⟩,k⟩:=h;refine⟨_,(a8 (B0 (o8 M5 (pv 0) c5 (w6 _)) (c6 (c8 (E5 (F6 (pv 1) c5)))) o5) (c6 (c8 (o6 F2 (pv 1) (pv 0))))),?_⟩;cases hS with
 | fr=>
  refine⟨_,rfl,rfl,_,rfl,?_⟩;refine BH (decide_eq_true rfl) ?_;refine⟨_,rfl,(by show 2<=sizeLine;decide),λp1 np=>?_⟩;refine k _ _ (⟨n,1,by decide,by unfold dv;rw[Int.gcd_one_right];rfl⟩:Fr) (c7 np) Gx.new (λe=>Fr.eq_of e rfl) (λe=>Fr.eq_of e rfl) ⟨?_,by show(1:Int).natAbs<=2 ^ 1;decide⟩ ?_
  . show n.natAbs<=2 ^ 1;rw[Nat.pow_one];omega
  . exact⟨by decide,n,rfl,by show n.natAbs<=2;omega⟩
 | re p hp hq' hi=>
  refine⟨_,rfl,rfl,_,rfl,?_⟩;refine FR (decide_eq_false λz=>by injection z with z;omega) ?_;refine⟨_,rfl,_,rfl,za ⟨rfl,rfl,(show p≠0 by omega),?_⟩⟩;refine k _ _ (Re.of p oM n) (j0.refl _) rfl (λe=>?_) (λe=>?_) trivial trivial
  . subst e;exact Re.eq_of (by show(0:Int).fmod p=0;exact Fw oM oM)
  . subst e;exact Re.eq_of (by show(1:Int).fmod p=1;exact Fw oM oM)
def p13':Jl 13=true:=p13
def d0a{r:Int}(h0:0<=r)(h1:r < 9):∃p:Int,OI ([2,3,5,7,11,13,101,65537,999983].map V.int) r=some (V.int p)/\2<=p/\p<=1000000/\Jl p=true:=by
 rcases(by omega:r=0\/r=1\/r=2\/r=3\/r=4\/r=5\/r=6\/r=7\/r=8)with rfl | rfl | rfl | rfl | rfl | rfl | rfl | rfl | rfl
 . exact⟨2,rfl,by decide,by decide,p2⟩
 . exact⟨3,rfl,by decide,by decide,p3⟩
 . exact⟨5,rfl,by decide,by decide,p5⟩
 . exact⟨7,rfl,by decide,by decide,p7⟩
 . exact⟨11,rfl,by decide,by decide,p11⟩
 . exact⟨13,rfl,by decide,by decide,p13'⟩
 . exact⟨101,rfl,by decide,by decide,p101⟩
 . exact⟨65537,rfl,by decide,by decide,Vf⟩
 . exact⟨999983,rfl,by decide,by decide,Sl⟩
def RA(T:Txt K mg t):Sp:=λvs H Q _=>∃(a:Addr),vs=[.ref a]/\Dr H a/\∀(R:c9 Pr w K mg base) nm p v H',So T R nm p->M3 H' v nm p->l9 a H H'->Dr H' a->Q v H'
def Ka(T:Txt K mg t):x8 Pr w K mg base F9 2 t.l0z t.j0n ["_law_state_here"] (RA (w:=w) (base:=base) T):=by
 refine T.k0n.F.ok Es (by rintro _ _ _ _ ⟨_,rfl,_⟩;rfl) λcdv A outer s H vs Q E hr h=>?_;obtain⟨a,rfl,hD,k⟩:=h;refine⟨_,(a8 (sT 1 Es.nd (j5 B8 (D3 (D8 c5 (D8 c5 (D8 c5 (D8 c5 (D8 c5 (Ew c5 c5 c5 c5))))))) (E6 (y7 T) hr.m T.k0b (F6 (pv 0) c5)) (λ_ _=>rfl))) (c6 (c8 (j5 B8 (D3 (X1 c5 (pv 1) (pv 1))) (E6 (y7 T) hr.m T.k0b (F6 (pv 0) c5)) (λ_ _=>rfl))))),?_⟩;refine⟨(by show 9<=sizeLine;decide),λp1 n1=>?_⟩;have t1:=c7 (o:=.lst [V.int 2,V.int 3,V.int 5,V.int 7,V.int 11,V.int 13,V.int 101,V.int 65537,V.int 999983]) n1;have k1:upd H p1 (.lst [V.int 2,V.int 3,V.int 5,V.int 7,V.int 11,V.int 13,V.int 101,V.int 65537,V.int 999983]) p1=some (.lst [V.int 2,V.int 3,V.int 5,V.int 7,V.int 11,V.int 13,V.int 101,V.int 65537,V.int 999983]):=c4;have b1:p1≠a:=Qk hD n1;revert t1 k1;generalize upd H p1 (.lst [V.int 2,V.int 3,V.int 5,V.int 7,V.int 11,V.int 13,V.int 101,V.int 65537,V.int 999983])=H1;intro t1 k1;have d1:=hD.same t1;refine⟨_,rfl,a,9,rfl,⟨d1,by decide,by decide⟩,λr2 H2 s2 d2 a2 b2=>?_⟩;obtain⟨p,ep,p2,p3,p4⟩:=d0a a2 b2;refine zg ⟨rfl,rfl,o7.of (s2 _ _ b1 k1),ep,?_⟩;refine⟨_,rfl,_,rfl,(by show 3<=sizeLine;decide),λp5 n5=>?_⟩;have t5:=c7 (o:=.lst [V.int 0,V.int p,V.int p]) n5;have k5:=c4 (H:=H2) (a:=p5) (o:=.lst [V.int 0,V.int p,V.int p]);have b5:p5≠a:=Qk d2 n5;revert t5 k5;generalize upd H2 p5 (.lst [V.int 0,V.int p,V.int p])=H5;intro t5 k5;refine⟨_,rfl,a,3,rfl,⟨d2.same t5,by decide,by decide⟩,λr6 H6 s6 d6 a6 b6=>?_⟩;have sA:l9 a H H6:=((l9.of t1).trans s2).trans ((l9.of t5).trans s6);rcases(by omega:r6=0\/r6=1\/r6=2)with rfl | rfl | rfl
 . exact zg ⟨rfl,rfl,o7.of (s6 _ _ b5 k5),rfl,k _ _ _ _ _ .fr rfl sA d6⟩
 . exact zg ⟨rfl,rfl,o7.of (s6 _ _ b5 k5),rfl,k _ _ _ _ _ (.re p p2 p3 p4) rfl sA d6⟩
 . exact zg ⟨rfl,rfl,o7.of (s6 _ _ b5 k5),rfl,k _ _ _ _ _ (.re p p2 p3 p4) rfl sA d6⟩
def RF(T:Txt K mg t):Sp:=λvs H Q _=>∃(R:c9 Pr w K mg base),∃nm p so,So T R nm p/\vs=[so]/\M3 H so nm p/\∀v H',j0 H H'->U1 R.C R.fs H' v->Q v H'
def Kd(T:Txt K mg t):x8 Pr w K mg base F9 4 t.m0c t.j0z ["_law_sort_here"] (RF (w:=w) (base:=base) T):=by
 refine T.j0p.F.ok JG (by rintro _ _ _ _ ⟨_,_,_,_,_,rfl,_⟩;rfl) λcdv A outer s H vs Q E hr h=>?_;obtain⟨R,nm,p,so,hS,rfl,rfl,k⟩:=h;refine⟨_,(a8 (B0 (o8 M5 (pv 0) c5 (w6 _)) (c6 (c8 (Qa T.i0w rfl T.i0m))) o5) (c6 (c8 (Sh T.k0o (Bx T) hr.m rfl T.j0t T.f0e.b .nil C4 (B4 (pv 0)))))),?_⟩;cases hS with
 | fr=>
  refine⟨_,rfl,rfl,_,rfl,?_⟩;refine BH (decide_eq_true rfl) ?_;intro x dx nx ndx nex;exact k _ _ (Hv nx ndx) ⟨x,dx,rfl,c4⟩
 | re p hp hq' hi=>
  refine⟨_,rfl,rfl,_,rfl,?_⟩;refine FR (decide_eq_false λz=>by injection z with z;omega) ?_;refine⟨_,rfl,λx dx nx ndx nex=>?_⟩;refine⟨x,dx,p,rfl,⟨hp,hq',hi⟩,c4,?_⟩;refine⟨rfl,k _ _ (λb o e=>?_) ⟨x,dx,rfl,c4⟩⟩;rw[o4 (l7 e nx)];exact Hv nx ndx b o e
def LB(T:Txt K mg t):Sp:=λvs H Q _=>∃(R:c9 Pr w K mg base),∃nm p,∃(a:Addr),∃so,So T R nm p/\vs=[.ref a,so]/\(Dr H a/\M3 H so nm p)/\∀v H' x,l9 a H H'->Dr H' a->R.is H' v x->R.B.cb 12 48 x->Q v H'
def F5(T:Txt K mg t):x8 Pr w K mg base F9 37 t.j0f t.h0w Sz (LB (w:=w) (base:=base) T):=by
 refine T.i0b.F.ok GE (by rintro _ _ _ _ ⟨_,_,_,_,_,_,rfl,_⟩;rfl) λcdv A outer s H vs Q E hr h=>?_;obtain⟨R,nm,p,a,so,hS,rfl,⟨hD,rfl⟩,k⟩:=h;refine⟨_,(a8 (B0 (o8 M5 (E6 (y7 T) hr.m T.k0b (F6 (pv 0) c5)) c5 (w6 _)) (c6 (c8 (E6 (Am T) hr.m T.m0l (F6 (pv 1) c5)))) o5) (a8 (B0 (o8 M5 (pv 1) c5 (w6 _)) (c6 (c8 (E6 (Cz T) hr.m T.l0q (F6 (o6 Ec (E6 (y7 T) hr.m T.k0b (F6 (pv 0) c5)) c5) (o6 L5 c5 (E6 (y7 T) hr.m T.k0b (F6 (pv 0) c5))))))) o5) (c6 (c8 (E6 (y7 T) hr.m T.k0b (F6 (pv 0) (pv 1))))))),?_⟩;refine⟨_,rfl,a,4,rfl,⟨hD,by decide,by decide⟩,λr0 H0 s0 d0 a0 b0=>⟨rfl,_,rfl,?_⟩⟩;refine Dx (λ_=>?_) (λ_=>?_)
 . refine⟨_,rfl,R,zt nm p _ 0 ⟨hS,rfl,⟨rfl,by decide,by decide⟩,λv H' x s' f' _ _ z _=>?_⟩⟩;exact k v H' x (s0.trans (.of s')) (d0.same s') f' (R.B.dr _ (R.S.sz_mono _ _ _ (by decide) z))
 . cases hS with
   | fr=>
    refine⟨_,rfl,rfl,_,rfl,?_⟩;refine BH (decide_eq_true rfl) ?_;refine⟨_,rfl,a,9,rfl,⟨d0,by decide,by decide⟩,λr2 H2 s2 d2 a2 b2=>?_⟩;refine za ⟨rfl,rfl,_,rfl,a,3,rfl,⟨d2,by decide,by decide⟩,λr3 H3 s3 d3 a3 b3=>?_⟩;refine za ⟨rfl,rfl,za ⟨rfl,(show(0:Int) < 1+r3 by omega),λv H4 s4 f4=>?_⟩⟩;have e:(2:Nat) ^ 2=4:=rfl;exact k v H4 (Fr.of _ _ (show(0:Int) < 1+r3 by omega)) (((s0.trans s2).trans s3).trans (.of s4)) (d3.same s4) f4 (e0a.dr _ (Qg (by rw[e];omega) (by rw[e];omega)))
   | re p hp hq' hi=>
    refine⟨_,rfl,rfl,_,rfl,?_⟩;refine FR (decide_eq_false λz=>by injection z with z;omega) ?_;refine⟨_,rfl,_,rfl,a,_,rfl,⟨d0,oM,oM⟩,λr2 H2 s2 d2 a2 b2=>?_⟩;exact k _ _ ⟨r2,a2,b2⟩ (s0.trans s2) d2 rfl trivial
def Fd{α:Type}(d:α){P:Nat->α->V->Hp->Prop}{us:List V}{n:Nat}{H:Hp}(h:j7 (λi u H=>∃x,P i x u H) us n H):∃f:Nat->α,j7 (λi u H=>P i (f i) u H) us n H:=by
 have h2:∀i,∃x,i < n->∃u,us[i]? = some u/\P i x u H:=λi=>by
  by_cases hi:i < n
  . obtain⟨u,e,x,p⟩:=h.2 i hi;exact⟨x,λ_=>⟨u,e,p⟩⟩
  . exact⟨d,λz=>absurd z hi⟩
 exact⟨λi=>(h2 i).choose,h.1,λj hj=>(h2 j).choose_spec hj⟩
def Ls{α:Type}(d:α){P:Nat->α->V->Hp->Prop}{v:V}{n:Nat}{H:Hp}(h:N8 (λi u H=>∃x,P i x u H) n v H):∃f:Nat->α,N8 (λi u H=>P i (f i) u H) n v H:=by
 obtain⟨p,vs,rfl,hp,e⟩:=h;obtain⟨f,hf⟩:=Fd d e;exact⟨f,p,vs,rfl,hp,hf⟩
def HN{P:Nat->V->Hp->Prop}{Z:Nat->Prop}{v:V}{n:Nat}{H:Hp}(h:N8 P n v H)(g:∀i u,P i u H->Z i):∀i,i < n->Z i:=λi hi=>by
 obtain⟨p,vs,rfl,hp,e⟩:=h;obtain⟨u,_,q⟩:=e.2 i hi;exact g i u q
abbrev AZ(R:c9 Pr w K mg base)(b m n:Nat):V->Hp->Prop:=N8 (λ_ u H=>∃x,R.is H u x/\R.B.cb b m x) n
theorem AZ.same{R:c9 Pr w K mg base}{b m n:Nat}{v:V}{H H':Hp}(s:B5 H H')(h:AZ R b m n v H):AZ R b m n v H':=h.mono s λ_ _ _ ⟨x,q,z⟩=>⟨x,R.same s q,z⟩
def AZ.ch{R:c9 Pr w K mg base}{b m n:Nat}{v:V}{H:Hp}(h:AZ R b m n v H):∃x,j9 R n x v H/\∀i,i < n->R.B.cb b m (x i):=by
 obtain⟨f,hf⟩:=Ls R.S.zero h;exact⟨f,hf.mono (B5.refl _) λ_ _ _ q=>q.1,HN hf λi u q=>q.2⟩
abbrev CO(R:c9 Pr w K mg base)(b m n:Nat):V->Hp->Prop:=N8 (λ_ u H=>AZ R b m n u H) n
theorem CO.same{R:c9 Pr w K mg base}{b m n:Nat}{v:V}{H H':Hp}(s:B5 H H')(h:CO R b m n v H):CO R b m n v H':=h.mono s λ_ _ _ q=>AZ.same s q
theorem CO.ch{R:c9 Pr w K mg base}{b m n:Nat}{v:V}{H:Hp}(h:CO R b m n v H):∃A,D1 R n n A v H/\∀i,i < n->∀j,j < n->R.B.cb b m (A i j):=by
 have h2:N8 (λ_ u H=>∃x,j9 R n x u H/\∀i,i < n->R.B.cb b m (x i)) n v H:=h.mono (B5.refl _) λ_ _ _ q=>AZ.ch q;obtain⟨f,hf⟩:=Ls (λ_=>R.S.zero) h2;exact⟨f,hf.mono (B5.refl _) λ_ _ _ q=>q.1,HN hf λi u q=>q.2⟩
theorem TabsE.ch{R:c9 Pr w K mg base}{b m n k:Nat}{v:V}{H:Hp}(h:N8 (λ_ u H=>CO R b m n u H) k v H):∃A,Gp R k n A v H/\∀a,a < k->∀i,i < n->∀j,j < n->R.B.cb b m (A a i j):=by
 have h2:N8 (λ_ u H=>∃x,D1 R n n x u H/\∀i,i < n->∀j,j < n->R.B.cb b m (x i j)) k v H:=h.mono (B5.refl _) λ_ _ _ q=>CO.ch q;obtain⟨f,hf⟩:=Ls (λ_ _=>R.S.zero) h2;exact⟨f,hf.mono (B5.refl _) λ_ _ _ q=>q.1,HN hf λi u q=>q.2⟩
structure MC(R:c9 Pr w K mg base)(b m n k:Nat)(st:Nat->R.S.W)(tb:Nat->Nat->Nat->R.S.W)(en:Nat->R.S.W):Prop where
 st:∀i,i < n->R.B.cb b m (st i)
 tb:∀a,a < k->∀i,i < n->∀j,j < n->R.B.cb b m (tb a i j)
 en:∀i,i < n->R.B.cb b m (en i)
def MC.mb{R:c9 Pr w K mg base}{b m n k μ:Nat}{st:Nat->R.S.W}{tb:Nat->Nat->Nat->R.S.W}{en:Nat->R.S.W}(h:MC R b m n k st tb en)(b0:0 < b)(b1:b<=2 ^ μ)(m1:m<=2 ^ μ):MB R.B n k μ st tb en:=
 ⟨⟨b,b0,b1,λj hj=>R.B.mono _ _ _ _ m1 (h.st j hj)⟩,λa ha=>⟨b,b0,b1,λi hi j hj=>R.B.mono _ _ _ _ m1 (h.tb a ha i hi j hj)⟩,⟨b,b0,b1,λj hj=>R.B.mono _ _ _ _ m1 (h.en j hj)⟩⟩
theorem MC.up{R:c9 Pr w K mg base}{b m n k:Nat}{st:Nat->R.S.W}{tb:Nat->Nat->Nat->R.S.W}{en:Nat->R.S.W}(c:Nat)(c0:0 < c)(h:MC R b m n k st tb en):MC R (b * c) (m * c) n k st tb en:=
 ⟨λi hi=>R.B.up _ _ c _ c0 (h.st i hi),λa ha i hi j hj=>R.B.up _ _ c _ c0 (h.tb a ha i hi j hj),λi hi=>R.B.up _ _ c _ c0 (h.en i hi)⟩
theorem MC.mono{R:c9 Pr w K mg base}{b m m' n k:Nat}{st:Nat->R.S.W}{tb:Nat->Nat->Nat->R.S.W}{en:Nat->R.S.W}(h:MC R b m n k st tb en)(e:m<=m'):MC R b m' n k st tb en:=
 ⟨λi hi=>R.B.mono _ _ _ _ e (h.st i hi),λa ha i hi j hj=>R.B.mono _ _ _ _ e (h.tb a ha i hi j hj),λi hi=>R.B.mono _ _ _ _ e (h.en i hi)⟩
def Dr.ne{H:Hp}{a p:Addr}(d:Dr H a)(n:H p=none):p≠a:=Qk d n
def Jy(T:Txt K mg t):Sp:=λvs H Q _=>∃(R:c9 Pr w K mg base),∃nm p,∃(a:Addr),∃so l,∃(n:Nat),∃(z:Int),So T R nm p/\vs=[.ref a,so,vT l,.int z]/\(Dr H a/\M3 H so nm p/\Aa l/\n<=60/\z=n)/\∀v H' st tb en,l9 a H H'->Dr H' a->x6 R l n st tb en v H'->MC R 12 48 n l.length st tb en->Q v H'
def FE(T:Txt K mg t):x8 Pr w K mg base F9 40 t.i0x t.h0f VE (Jy (w:=w) (base:=base) T):=by
 refine T.h0k.F.ok J9 (by rintro _ _ _ _ ⟨_,_,_,_,_,_,_,_,_,rfl,_⟩;rfl) λcdv A outer s H vs Q E hr h=>?_;obtain⟨R,nm,p,a,so,l,n,z,hS,rfl,⟨hD,hso,L,hn,rfl⟩,k⟩:=h;have l3:=L.h3;have z20:1000 < sizeLine:=by decide
 refine⟨_,(a8 (sT 4 J9.nd (j8 g9 (by rfl) T.z_tuple boot_tuple (B4 (Im 8 "#1" (z5 (xs:=["_law_k"]) rfl (show w9 d0j (b9 L3) _ from⟨rfl,dK,dK,dK,dK,dK⟩) (C6 rfl T.z_range (B4 (pv 3))) (λ_ _ _ _ _=>(l4 (i:=9) (by show List.Nodup (d0l);decide +kernel) rfl (Or.inl rfl))) (λ_ _ _ _ _=>(C3 (F5 (w:=w) (base:=base) T) hr.m rfl T.i0b.m T.i0b.F.kp T.i0b.b .nil C4 (F6 (pv 0) (pv 1))))))))) (a8 (sT 5 J9.nd (D3 K5)) (a8 (D7 aB rfl (Vd (pv 2)) (gN 6 J9.nd) (a8 (sT 7 J9.nd (D3 K5)) (a8 (D7 aB rfl (C6 rfl T.z_range (B4 (pv 3))) (gN 8 J9.nd) (c6 (F8 (U0 ba bz bA G0 (pv 7) (B4 (j8 g9 (by rfl) T.z_tuple boot_tuple (B4 (z5 (xs:=["_law_j"]) rfl (show w9 d0k (b9 L3) _ from⟨rfl,dK,dK,dK,dK,dK⟩) (C6 rfl T.z_range (B4 (pv 3))) (λ_ _ _ _ _=>(l4 (i:=9) (by show List.Nodup (["_law_state_here","_law_sort_here","_law_letters_here","_law_many","_law_start","_law_tables","_law_letter","_law_table","_law_k","_law_j"]:List Str);decide +kernel) rfl (Or.inl rfl))) (λ_ _ _ _ _=>(C3 (F5 (w:=w) (base:=base) T) hr.m rfl T.i0b.m T.i0b.F.kp T.i0b.b .nil C4 (F6 (pv 0) (pv 1)))))))))))) (c6 (F8 (U0 ba bz bA G0 (pv 5) (B4 (j8 g9 (by rfl) T.z_tuple boot_tuple (B4 (pv 7)))))))))) (c6 (DY 8 (c8 (E5 (Ew (pv 2) (pv 4) (j8 g9 (by rfl) T.z_tuple boot_tuple (B4 (pv 5))) (j8 g9 (by rfl) T.z_tuple boot_tuple (B4 (Im 8 "#1" (z5 (xs:=["_law_k"]) rfl (show w9 d0j (b9 L3) _ from⟨rfl,dK,dK,dK,dK,dK⟩) (C6 rfl T.z_range (B4 (pv 3))) (λ_ _ _ _ _=>(l4 (i:=9) (by show List.Nodup (d0l);decide +kernel) rfl (Or.inl rfl))) (λ_ _ _ _ _=>(C3 (F5 (w:=w) (base:=base) T) hr.m rfl T.i0b.m T.i0b.F.kp T.i0b.b .nil C4 (F6 (pv 0) (pv 1)))))))))))))))),?_⟩;refine⟨rfl,_,rfl,_,rfl,oM,oM,w5 (n:=n) (λj ys H2=>l9 a H H2/\Dr H2 a/\j7 (λ_ u H=>∃x,R.is H u x/\R.B.cb 12 48 x) ys j H2) oM ⟨l9.refl _ _,hD,j7.nil⟩ (λj ys H2 q=>q.2.2.1) ?_ ?_ ?_⟩
 . rintro j ys H2 hj ⟨q,d2,e2⟩;refine He (by omega) ?_;refine⟨⟨[some _],rfl,rfl⟩,_,rfl,_,rfl,R,zt nm p a so ⟨hS,rfl,⟨d2,hso.same (q.tt hD)⟩,λv H3 x s3 d3 iv cv=>?_⟩⟩;exact⟨q.trans s3,d3,(e2.mono λ_ _ _ ⟨x,z1,z2⟩=>⟨x,R.same (s3.tt d2) z1,z2⟩).snoc ⟨x,iv,cv⟩⟩
 . rintro ys H2 ⟨q,d2,e2⟩;show(n:Int).toNat<=n;omega
 rintro ys0 H0 l0 ⟨q0,d0,e0⟩ nl0;have t1:=c7 (o:=.lst ys0) nl0;refine⟨l0,_,rfl,.inl ⟨o7.of c4,λsp nsp=>?_⟩⟩;have t2:=t1.trans (c7 (o:=.tup ys0) nsp);have r1:AZ R 12 48 n (.ref sp) (upd (upd H0 l0 (.lst ys0)) sp (.tup ys0)):=⟨sp,ys0,rfl,c4,e0.mono λ_ _ _ ⟨x,z1,z2⟩=>⟨x,R.same t2.t z1,z2⟩⟩;have s1:l9 a H (upd (upd H0 l0 (.lst ys0)) sp (.tup ys0)):=q0.trans (.of t2);have d1:=d0.same t2;clear t1 t2 nl0 nsp;revert r1 s1 d1;generalize upd (upd H0 l0 (.lst ys0)) sp (.tup ys0)=H1;intro r1 s1 d1;refine⟨aR _,λtp ntp=>?_⟩;have s2:=c7 (o:=.lst []) ntp;have k2:=c4 (H:=H1) (a:=tp) (o:=.lst []);have d2:=d1.same s2;have na:tp≠a:=d1.ne ntp;revert s2 k2 d2;generalize upd H1 tp (.lst [])=H2;intro s2 k2 d2;refine⟨_,rfl,_,rfl,L.asc,En (n:=l.length) (λi σ H3=>∃v6 v7 v8 ys,σ=[some (.ref a),some so,some (vT l),some (.int n),some (.ref sp),some (.ref tp),v6,v7,v8]/\l9 a H1 H3/\Dr H3 a/\H3 tp=some (.lst ys)/\
  j7 (λ_ u H=>CO R 12 48 n u H) ys i H3) ⟨_,_,_,[],rfl,.of s2,d2,k2,j7.nil⟩ ?_ ?_⟩
 . rintro i σ H3 hi ⟨v6,v7,v8,ys,rfl,s3,d3,k3,e3⟩;refine⟨(by show i < l.toArray.size;simpa using hi),λy G3 hy=>?_⟩;obtain⟨rfl,c,hc,rfl⟩:=hy;refine⟨aR _,λbp nbp=>?_⟩;have s4:=c7 (o:=.lst []) nbp;have k4:=c4 (H:=G3) (a:=bp) (o:=.lst []);have d4:=d3.same s4;have nb:bp≠a:=d3.ne nbp;have nt:tp≠bp:=λz=>by rw[z,nbp]at k3;cases k3
   revert s4 k4 d4;generalize upd G3 bp (.lst [])=H4;intro s4 k4 d4;refine⟨_,rfl,_,rfl,oM,oM,En (n:=n) (λj σ H5=>∃v8 zs,σ=[some (.ref a),some so,some (vT l),some (.int n),some (.ref sp),some (.ref tp),some (.str ⟨#[c]⟩),some (.ref bp),v8]/\l9 a G3 H5/\Dr H5 a/\H5 bp=some (.lst zs)/\
    j7 (λ_ u H=>AZ R 12 48 n u H) zs j H5) ⟨_,[],rfl,.of s4,d4,k4,j7.nil⟩ ?_ ?_⟩
   . rintro j σ H5 hj ⟨v8,zs,rfl,s5,d5,k5,e5⟩;refine⟨(show j < (n:Int).toNat by omega),λy G5 hy=>?_⟩;obtain⟨rfl,rfl⟩:=hy;refine⟨_,rfl,.inl ⟨rfl,_,o7.of k5⟩,?_⟩;refine⟨_,rfl,_,rfl,oM,oM,w5 (n:=n) (λj ys H2=>l9 a G5 H2/\Dr H2 a/\j7 (λ_ u H=>∃x,R.is H u x/\R.B.cb 12 48 x) ys j H2) oM ⟨l9.refl _ _,d5,j7.nil⟩ (λj ys H2 q=>q.2.2.1) ?_ ?_ ?_⟩
     . rintro j' ys' H2 hj' ⟨q,d2,e2⟩;refine He (by omega) ?_;have u1:=((((s1.trans s3).trans s5).trans q).tt hD);refine⟨⟨[some _],rfl,rfl⟩,_,rfl,_,rfl,R,zt nm p a so ⟨hS,rfl,⟨d2,hso.same u1⟩,λv H3 x s3 d3 iv cv=>?_⟩⟩;exact⟨q.trans s3,d3,(e2.mono λ_ _ _ ⟨x,z1,z2⟩=>⟨x,R.same (s3.tt d2) z1,z2⟩).snoc ⟨x,iv,cv⟩⟩
     . rintro ys' H2 ⟨q,d2,e2⟩;show(n:Int).toNat<=n;omega
     . rintro ys' H6 lp ⟨s6,d6,e6⟩ nl;have t1:=c7 (o:=.lst ys') nl;refine⟨lp,_,rfl,.inl ⟨o7.of c4,λl2 n2=>?_⟩⟩;have t2:=c7 (o:=.tup ys') n2;have t12:=t1.trans t2;have k6:=t12 _ _ (s6 bp _ nb k5);have hr6:AZ R 12 48 n (.ref l2) (upd (upd H6 lp (.lst ys')) l2 (.tup ys')):=⟨l2,ys',rfl,c4,e6.mono λ_ _ _ ⟨x,z1,z2⟩=>⟨x,R.same t12.t z1,z2⟩⟩;have d6':=d6.same t12;have s6':l9 a G5 (upd (upd H6 lp (.lst ys')) l2 (.tup ys')):=s6.trans (.of t12);clear t1 t2 t12 nl n2;revert k6 hr6 d6' s6';generalize upd (upd H6 lp (.lst ys')) l2 (.tup ys')=H7;intro k6 hr6 d6' s6';refine⟨bp,zs,_,rfl,rfl,k6,(by rw[e5.1];omega),?_⟩;have nx:=B7 (o:=.lst (zs++[.ref l2])) k6;refine⟨_,zs++[.ref l2],rfl,λc' o nc hc'=>?_,?_,c4,(e5.mono λ_ _ _ h=>AZ.same nx (AZ.same (s6'.tt d5) h)).snoc (AZ.same nx hr6)⟩
       . rw[o4 (l7 hc' nbp)];exact s6' c' o nc (s5 c' o nc hc')
       . exact d6'.put nb
   . rintro σ H5 ⟨v8,zs,rfl,s5,d5,k5,e5⟩;refine⟨(by show(n:Int).toNat<=n;omega),?_⟩;have k5t:=s5 tp _ na k3;refine⟨_,rfl,.inl ⟨rfl,_,o7.of k5t⟩,_,rfl,bp,zs,rfl,.inl ⟨o7.of k5,λl2 n2=>?_⟩⟩;have t2:=c7 (o:=.tup zs) n2;have k6:=t2 _ _ k5t;have ht6:CO R 12 48 n (.ref l2) (upd H5 l2 (.tup zs)):=⟨l2,zs,rfl,c4,e5.mono λ_ _ _ q=>AZ.same t2.t q⟩;have d6:=d5.same t2;have s6:l9 a G3 (upd H5 l2 (.tup zs)):=s5.trans (.of t2);clear t2 n2;revert k6 ht6 d6 s6;generalize upd H5 l2 (.tup zs)=H7;intro k6 ht6 d6 s6;refine⟨tp,ys,_,rfl,rfl,k6,(by rw[e3.1];omega),?_⟩;have nx:=B7 (o:=.lst (ys++[.ref l2])) k6;refine zf ⟨ys++[.ref l2],rfl,λc' o nc hc'=>?_,?_,c4,(e3.mono λ_ _ _ h=>CO.same nx (CO.same (s6.tt d3) h)).snoc (CO.same nx ht6)⟩
     . rw[o4 (l7 hc' ntp)];exact s6 c' o nc (s3 c' o nc hc')
     . exact d6.put na
 . rintro σ H3 ⟨v6,v7,v8,ys,rfl,s3,d3,k3,e3⟩;refine⟨(by show l.toArray.size<=_;simp),?_⟩;refine⟨_,rfl,_,rfl,_,rfl,tp,ys,rfl,.inl ⟨o7.of k3,λl2 n2=>?_⟩⟩;have t1:=c7 (o:=.tup ys) n2;have ht:N8 (λ_ u H=>CO R 12 48 n u H) l.length (.ref l2) (upd H3 l2 (.tup ys)):=⟨l2,ys,rfl,c4,e3.mono λ_ _ _ q=>CO.same t1.t q⟩;have d4:=d3.same t1;have s4:l9 a H1 (upd H3 l2 (.tup ys)):=s3.trans (.of t1);clear t1 n2;revert ht d4 s4;generalize upd H3 l2 (.tup ys)=H4;intro ht d4 s4;refine⟨rfl,_,rfl,_,rfl,oM,oM,w5 (n:=n) (λj ys H2=>l9 a H4 H2/\Dr H2 a/\j7 (λ_ u H=>∃x,R.is H u x/\R.B.cb 12 48 x) ys j H2) oM ⟨l9.refl _ _,d4,j7.nil⟩ (λj ys H2 q=>q.2.2.1) ?_ ?_ ?_⟩
   . rintro j' ys' H2 hj' ⟨q,d2,e2⟩;refine He (by omega) ?_;refine⟨⟨[some _],rfl,rfl⟩,_,rfl,_,rfl,R,zt nm p a so ⟨hS,rfl,⟨d2,hso.same (((s1.trans s4).trans q).tt hD)⟩,λv H3 x s3 d3 iv cv=>?_⟩⟩;exact⟨q.trans s3,d3,(e2.mono λ_ _ _ ⟨x,z1,z2⟩=>⟨x,R.same (s3.tt d2) z1,z2⟩).snoc ⟨x,iv,cv⟩⟩
   . rintro ys' H2 ⟨q,d2,e2⟩;show(n:Int).toNat<=n;omega
   . rintro ys' H5 lp ⟨s5,d5,e5⟩ nl;have t1:=c7 (o:=.lst ys') nl;refine⟨lp,_,rfl,.inl ⟨o7.of c4,λl3 n3=>?_⟩⟩;have t2:=t1.trans (c7 (o:=.tup ys') n3);have re:AZ R 12 48 n (.ref l3) (upd (upd H5 lp (.lst ys')) l3 (.tup ys')):=⟨l3,ys',rfl,c4,e5.mono λ_ _ _ ⟨x,z1,z2⟩=>⟨x,R.same t2.t z1,z2⟩⟩;refine⟨(by show 4<=sizeLine;decide),λp6 n6=>?_⟩;have t7:=c7 (o:=.tup [vT l,.ref sp,.ref l2,.ref l3]) n6;have t6:=t2.trans t7;have u5:B5 H4 _:=(s5.tt d4).trans t6.t;obtain⟨st,q1,c1⟩:=AZ.ch ((r1.same (s4.tt d1)).same u5);obtain⟨en,q3,c3⟩:=AZ.ch (re.same t7.t);obtain⟨tb,q2,c2⟩:=TabsE.ch (ht.mono u5 λ_ _ _ q=>CO.same u5 q);exact k _ _ st tb en (((s1.trans s4).trans s5).trans (.of t6)) (d5.same t6) ⟨p6,_,_,_,rfl,c4,q1,q2,q3⟩ ⟨c1,c2,c3⟩
def jn(sep:List Nat):List (List Nat)->List Nat
 | []=>[]
 | [p]=>p
 | p::q::r=>p++sep++jn sep (q::r)
theorem HE(sep:List Nat):∀(ls:List (List Nat)) (acc:List Nat),(ls.map tx).foldl (λa p=>a++(tx sep).cps++p.cps) acc.toArray=(ls.foldl (λa p=>a++sep++p) acc).toArray
 | [],acc=>rfl
 | p::ls,acc=>by
  rw[aP,List.foldl_cons,List.foldl_cons];have:acc.toArray++(tx sep).cps++(tx p).cps=(acc++sep++p).toArray:=by simp[tx]
  rw[this];exact HE sep ls _
theorem Nr(sep:List Nat):∀(ls:List (List Nat)) (p:List Nat),ls.foldl (λa p=>a++sep++p) p=jn sep (p::ls)
 | [],p=>rfl
 | q::ls,p=>by
  rw[List.foldl_cons,Nr sep ls];cases ls with
  | nil=>rfl
  | cons r ls=>simp[jn]
def SU(sep:List Nat):∀ls:List (List Nat),Txt.join (tx sep) (ls.map tx)=tx (jn sep ls)
 | []=>rfl
 | p::ls=>by
  show(⟨_⟩:Str)=⟨_⟩;rw[aP,List.drop_succ_cons,List.drop_zero,List.headD_cons];have:=HE sep ls p;rw[show(tx p).cps=p.toArray from rfl,this,Nr]
def Tw{p:List Nat}{q:Int}(h0:0<=q)(h1:q<=p.length):Txt.slice (tx p) none (some q)=tx (p.take q.toNat):=by
 have e:=PyProof.Rows.slice_closes_toL (x:=tx p) (j:=q) h0 (by rw[Y8];exact h1);rw[beq_iff_eq]at e;rw[e];show(⟨_⟩:Str)=⟨_⟩;simp[tx]
theorem Ny{sep:Str}{k:Nat}:∀{ls:List Str} {a:Nat},(∀p∈ls,p.length<=k)->ls.foldl (λx y=>x+y.length+sep.length) a<=a+ls.length * (k+sep.length)
 | [],a,_=>by simp
 | p::ls,a,h=>by
  have h1:=h p (by simp);have h2:=Ny (sep:=sep) (k:=k) (ls:=ls) (a:=a+p.length+sep.length) (λx hx=>h x (aD _ hx));rw[List.foldl_cons,bq,bQ];omega
def UW{sep:List Nat}{sz:Str}(hz:sz=tx sep){a:Addr}{ls:List (List Nat)}{k:Nat}{H:Hp}{Q:VK}(hk:∀p∈ls,p.length<=k)(hl:ls.length * (k+sep.length)<=16777216)(hq:o7 K H a (ls.map vT))(q:Q (vT (jn sep ls)) H) :
    TC K (.str sz) [.ref a] H Q:=by
 subst hz;refine⟨tx sep,a,ls.map tx,rfl,rfl,by rw[cg];exact hq,?_,by rw[SU];exact q⟩;unfold PySem.JoinOk Builtin.Str.tooLong;have:=Ny (sep:=tx sep) (k:=k) (ls:=ls.map tx) (a:=0) (λp hp=>by
  obtain⟨x,hx,rfl⟩:=aE.mp hp;rw[Y8];exact hk x hx)
 have hl':ls.length * (k+(tx sep).length)<=16777216:=by rw[Y8];exact hl
 rw[af]at this;have z:sizeLine=16777216:=by decide
 rw[List.foldl_toArray];simp only[Bool.not_eq_true',decide_eq_false_iff_not];omega
def SV{sep p:List Nat}{ls:List (List Nat)}(h:ls≠[]):jn sep (p::ls)=p++sep++jn sep ls:=by
 cases ls with
 | nil=>exact absurd rfl h
 | cons q ls=>simp[jn]
def Vn:(Str.ofString "")=tx []:=TR
def VS{b:Bool}{A B:Prop}(h:b=false)(q:B):if b=true then A else B:=by subst h;exact L7 q
def iteY{b:Bool}{A B:Prop}(h:b=true)(q:A):if b=true then A else B:=by subst h;exact Hd q
def azs:List Nat:=[97,98,99,100,101,102,103,104,105,106,107,108,109,110,111,112,113,114,115,116,117,118,119,120,121,122]
def e0k:(Str.ofString "abcdefghijklmnopqrstuvwxyz")=tx azs:=by decide +kernel
theorem Nq:∀ls:List Nat,jn [] (ls.map λc=>[c])=ls
 | []=>rfl
 | [a]=>rfl
 | a::b::ls=>by
  have:=Nq (b::ls);rw[aP,SV (by simp),this];rfl
def e0j{i:Nat}(h:i < 26):azs[i]? = some (97+i):=by
 have:∀i,i < 26->azs[i]? = some (97+i):=by decide
 exact this i h
def cL(a b:Int)(k:Nat):Nat:=97+((a+b * (k:Int)).fmod 26).toNat
def e0h{a b:Int}{k:Nat}:OI (tx azs).cps.toList ((a+b * (k:Int)).fmod 26)=some (cL a b k):=by
 have m0:0<=(a+b * (k:Int)).fmod 26:=bH _ (by decide);have m1:(a+b * (k:Int)).fmod 26 < 26:=bI _ (by decide);unfold cL;revert m0 m1;generalize (a+b * (k:Int)).fmod 26=r;intro m0 m1;obtain⟨i,rfl⟩:∃i:Nat,r=(i:Int):=⟨r.toNat,oM⟩;have e:(tx azs).cps.toList=azs:=by simp[tx]
 rw[e];exact C0 (e0j oM)
def e0g{a b:Int}(a0:0<=a)(a1:a < 26)(b0:1<=b)(b1:b<=8){n:Nat}(hn:n<=3):Aa ((List.range n).map (cL a b)):=by
 have lt:∀k,cL a b k < 128:=λk=>by
  have m1:(a+b * (k:Int)).fmod 26 < 26:=bI _ (by decide);unfold cL;omega
 refine⟨?_,λc hc=>?_,by rw[af,cj];exact hn⟩
 . refine cz.mpr ((List.pairwise_lt_range).imp_of_mem λ{i j} hi hj hij e=>?_);have hi:=aV.mp hi;have hj:=aV.mp hj;unfold cL at e;have f:∀k:Nat,(a+b * (k:Int)).fmod 26=(a+b * (k:Int)) % 26:=λk=>dF _ (by decide);rw[f i,f j]at e;rcases(by omega:(i=0/\j=1)\/(i=0/\j=2)\/(i=1/\j=2))with ⟨rfl,rfl⟩ | ⟨rfl,rfl⟩ | ⟨rfl,rfl⟩ <;>simp at e <;>omega
 . obtain⟨k,_,rfl⟩:=aE.mp hc;exact lt k
def sp_lletters:Sp:=λvs H Q _=>∃(a:Addr),vs=[.ref a]/\Dr H a/\∀l H',l9 a H H'->Dr H' a->Aa l->1<=l.length->Q (vT l) H'
def FF(T:Txt K mg t):x8 Pr w K mg base F9 2 t.i0q t.h0j ["_law_state_here"] sp_lletters:=by
 refine T.h0g.F.ok P0 (by rintro _ _ _ _ ⟨_,rfl,_⟩;rfl) λcdv A outer s H vs Q E hr h=>?_;obtain⟨a,rfl,hD,k⟩:=h;have zl:10000 < sizeLine:=by decide
 refine⟨_,(a8 (sT 1 P0.nd (o6 L5 c5 (E6 (y7 T) hr.m T.k0b (F6 (pv 0) c5)))) (a8 (AD (i:=2) P0.nd rfl (Or.inr rfl) (E6 (y7 T) hr.m T.k0b (F6 (pv 0) c5))) (a8 (AD (i:=3) P0.nd rfl (Or.inr rfl) (o6 L5 c5 (E6 (y7 T) hr.m T.k0b (F6 (pv 0) c5)))) (c6 (c8 (U0 PySem.F.plainAttrs_str PySem.F.slot_str_join PySem.F.type_str_join SD Eb (B4 (z5 (xs:=["_law_k"]) rfl (show w9 ["_law_state_here","_law_size","_law_first","_law_far"] (b9 R6) _ from⟨rfl,dK,dK,dK,dK,dK⟩) (C6 rfl T.z_range (B4 (pv 1))) (λ_ _ _ _ _=>(l4 (i:=4) (by show List.Nodup (["_law_state_here","_law_size","_law_first","_law_far","_law_k"]:List Str);decide +kernel) rfl (Or.inl rfl))) (λ_ _ _ _ _=>(j5 QH Eb (o6 F2 (o6 L5 (pv 2) (o6 Ed (pv 3) (pv 4))) c5) (λ_ _=>rfl))))))))))),?_⟩;rw[e0k];refine⟨_,rfl,a,3,rfl,⟨hD,by decide,by decide⟩,λr1 H1 s1 d1 a1 b1=>za ⟨rfl,rfl,?_⟩⟩;refine⟨_,rfl,a,26,rfl,⟨d1,by decide,by decide⟩,λr2 H2 s2 d2 a2 b2=>?_⟩;refine⟨_,rfl,a,8,rfl,⟨d2,by decide,by decide⟩,λr3 H3 s3 d3 a3 b3=>za ⟨rfl,rfl,?_⟩⟩;have EI:=(s1.trans s2).trans s3;obtain⟨n,en⟩:∃n:Nat,1+r1=(n:Int):=⟨(1+r1).toNat,oM⟩;refine⟨rfl,_,rfl,_,rfl,oM,oM,w5 (n:=n) (λj ys G=>G=H3/\ys=(((List.range j).map (cL r2 (1+r3))).map λc=>[c]).map vT) oM ⟨rfl,rfl⟩ (λj ys G q=>by rw[q.2];simp) ?_ ?_ ?_⟩
 . rintro j ys G hj ⟨rfl,rfl⟩;refine⟨(show j < (1+r1).toNat by omega),λy H' hy=>?_⟩;obtain⟨rfl,rfl⟩:=hy;have ec:=e0h (a:=r2) (b:=1+r3) (k:=j);rw[show((j:Nat):Int)=0+(j:Int) by omega]at ec;refine⟨⟨[some _],rfl,rfl⟩,_,rfl,_,rfl,_,rfl,za ⟨rfl,rfl,.inl ⟨oM,oM⟩,za ⟨rfl,rfl,za ⟨rfl,rfl,(by show(26:Int)≠0;decide),zf ⟨rfl,rfl,(by rw[Y8];show 26<=_;omega),ec,rfl,?_⟩⟩⟩⟩⟩;rw[List.range_succ,aU,aU,aU];rfl
 . rintro ys G ⟨rfl,rfl⟩;show(1+r1).toNat<=n;omega
 . rintro ys G p ⟨rfl,rfl⟩ np;have e2:=c7 (o:=.lst ((((List.range n).map (cL r2 (1+r3))).map λc=>[c]).map vT)) np;refine UW (sep:=[]) (k:=1) Vn ?_ ?_ (o7.of c4) ?_
   . intro x hx;obtain⟨c,_,rfl⟩:=aE.mp hx;exact ae _
   . rw[af,af,cj];show n * (1+0)<=_;omega
   . rw[Nq];exact k _ _ (EI.trans (.of e2)) (d3.same e2) (e0g a2 b2 oM oM oM) (by rw[af,cj];omega)
def NZ(T:Txt K mg t):Sp:=λvs H Q _=>∃(R:c9 Pr w K mg base),∃nm p so x a,So T R nm p/\vs=[so,x]/\(M3 H so nm p/\R.is H x a)/\∀v H',j0 H H'->R.is H' v (R.F.neg a)->Q v H'
def Iw(T:Txt K mg t):x8 Pr w K mg base F9 1 t.l0e t.i0c Sx (NZ (w:=w) (base:=base) T):=by
 refine T.i0y.F.ok HZ (by rintro _ _ _ _ ⟨_,_,_,_,_,_,_,rfl,_⟩;rfl) λcdv A outer s H vs Q E hr h=>?_;obtain⟨R,nm,p,so,x,a,hS,rfl,⟨rfl,ha⟩,k⟩:=h;refine⟨_,(a8 (B0 (o8 M5 (pv 0) c5 (w6 _)) (c6 (c8 (E5 (F6 (o6 Ec c5 (j5 i0 (pv 1) c5 (λ_ _=>rfl))) (j5 i0 (pv 1) c5 (λ_ _=>rfl)))))) o5) (c6 (c8 (o6 F2 (o6 Ec c5 (pv 1)) (pv 0))))),?_⟩;cases hS with
 | fr=>
  obtain⟨px,rfl,hx⟩:=ha;refine⟨_,rfl,rfl,_,rfl,?_⟩;refine BH (decide_eq_true rfl) ?_;refine⟨_,rfl,zg ⟨rfl,rfl,o9.of hx,rfl,za ⟨rfl,rfl,_,rfl,zg ⟨rfl,rfl,o9.of hx,rfl,(by show 2<=sizeLine;decide),λp1 np=>?_⟩⟩⟩⟩;refine k _ _ (c7 np) ?_;show Gx (upd H p1 (.tup [V.int (0 - a.t),V.int a.b])) (.ref p1) (-a.t) a.b;rw[Int.zero_sub];exact Gx.new
 | re p hp hq' hi=>
  cases (show x=.int a.x from ha);refine⟨_,rfl,rfl,_,rfl,?_⟩;refine FR (decide_eq_false λz=>by injection z with z;omega) ?_;refine⟨_,rfl,za ⟨rfl,rfl,_,rfl,za ⟨rfl,rfl,(show p≠0 by omega),?_⟩⟩⟩;refine k _ _ (j0.refl _) ?_;show V.int ((0 - a.x).fmod p)=V.int ((-a.x).fmod p);rw[Int.zero_sub]
def T3{S:SR}(i j:Nat)(b:S.W)(x:Nat->S.W):Nat->S.W:=λk=>if k=j then S.add (x j) (S.mul b (x i))else x k
def Li{S:SR}(i j:Nat)(b c:S.W)(A:Nat->Nat->S.W):Nat->Nat->S.W:=λr=>if r=i then λk=>S.add (T3 i j b (A i) k) (S.mul c (T3 i j b (A j) k))else T3 i j b (A r)
def El{n j:Nat}(h:j < n):SW n (j:Int)=some j:=by
 unfold SW;rw[if_pos oM,if_pos oM];congr 1
def LL(R:c9 Pr w K mg base)(n:Nat)(H0:Hp)(x:Nat->Nat->R.S.W)(rs:List Addr)(G:Hp):Prop:=rs.Nodup/\∀q r,rs[q]? = some r->H0 r=none/\∃vs,G r=some (.lst vs)/\j7 (λk u H=>R.is H u (x q k)) vs n G
section
variable{R:c9 Pr w K mg base}{n:Nat}{H0 G G':Hp}{x:Nat->Nat->R.S.W}{rs:List Addr}{r:Addr}
theorem LL.same(s:j0 G G')(h:LL R n H0 x rs G):LL R n H0 x rs G':=⟨h.1,λq r e=>let⟨z,vs,a,b⟩:=h.2 q r e;⟨z,vs,s _ _ a,b.mono λ_ _ _ z=>R.same s.t z⟩⟩
def LL.not(h:LL R n H0 x rs G)(hr:G r=none):r ∉ rs:=λm=>by
 obtain⟨q,hq,e⟩:=bV m;obtain⟨_,vs,a,_⟩:=h.2 q r (by rw[ag hq,e]);rw[hr]at a;cases a
def LL.snoc{vs:List V}(h:LL R n H0 x rs G)(s:j0 H0 G)(hr:G r=none)(e:j7 (λk u H=>R.is H u (x rs.length k)) vs n G):LL R n H0 x (rs++[r]) (upd G r (.lst vs)):=by
 have s1:=c7 (o:=.lst vs) hr;refine⟨List.nodup_append.mpr ⟨h.1,bS.mpr ⟨ck,List.nodup_nil⟩,λa ha b hb=>?_⟩,λq r' hq=>?_⟩
 . rw[av.mp hb];exact λz=>h.not hr (z▸ha)
 . by_cases z:q < rs.length
   . rw[aH z]at hq;exact(h.same s1).2 q r' hq
   . rw[aK oM]at hq;have z0:q - rs.length=0:=by
      by_cases y:q - rs.length=0
      . exact y
      . rw[du (by simp;omega)]at hq;cases hq
     rw[z0]at hq;cases hq;refine⟨?_,vs,c4,?_⟩
     . cases e0:H0 r with
       | none=>rfl
       | some o=>rw[s _ _ e0]at hr;cases hr
     . rw[show q=rs.length by omega];exact e.mono λ_ _ _ z=>R.same s1.t z
def LL.put{vs:List V}{q:Nat}{y:Nat->R.S.W}{vs0:List V}(h:LL R n H0 x rs G)(hq:rs[q]? = some r)(h0:G r=some (.lst vs0))(e:j7 (λk u H=>R.is H u (y k)) vs n (upd G r (.lst vs))):LL R n H0 (λq'=>if q'=q then y else x q') rs (upd G r (.lst vs)):=by
 have t1:=B7 (o:=.lst vs) h0;refine⟨h.1,λq' r' e'=>?_⟩;obtain⟨z,vs',a,b⟩:=h.2 q' r' e';by_cases eq:q'=q
 . subst eq;rw[hq]at e';cases e';exact⟨z,vs,c4,by dsimp only;rw[if_pos rfl];exact e⟩
 . have ne:r'≠r:=λw=>by
    rw[w]at e';have h1:=(aQ.mp e').1;exact eq ((List.getElem?_inj h1 h.1).mp (e'.trans hq.symm))
   exact⟨z,vs',by rw[o4 ne];exact a,by dsimp only;rw[if_neg eq];exact b.mono λ_ _ _ z=>R.same t1 z⟩
end
def Jb{R:c9 Pr w K mg base}{n i j:Nat}{b:R.S.W}{x:Nat->R.S.W}{us:List V}{pv:V}{G:Hp}(e:j7 (λk u H=>R.is H u (x k)) us n G)(f:R.is G pv (R.S.add (x j) (R.S.mul b (x i)))):j7 (λk u H=>R.is H u (T3 i j b x k)) (us.set j pv) n G:=by
 refine⟨by rw[bC,e.1],λq hq=>?_⟩;by_cases z:q=j
 . subst z;refine⟨pv,bZ (by rw[e.1];exact hq),?_⟩;dsimp only;rw[show T3 (S:=R.S) i q b x q=R.S.add (x q) (R.S.mul b (x i))from if_pos rfl];exact f
 . obtain⟨uq,euq,puq⟩:=e.2 q hq;refine⟨uq,by rw[bE (Ne.symm z)];exact euq,?_⟩;dsimp only;rw[show T3 (S:=R.S) i j b x q=x q from if_neg z];exact puq
def MO(R:c9 Pr w K mg base)(n:Nat)(x:Nat->R.S.W)(v:V)(H:Hp):Prop:=∃p us,v=.ref p/\H p=some (.lst us)/\j7 (λk u H=>R.is H u (x k)) us n H
theorem MO.same{R:c9 Pr w K mg base}{n:Nat}{x:Nat->R.S.W}{v:V}{H H':Hp}(s:j0 H H')(h:MO R n x v H):MO R n x v H':=by
 obtain⟨p,us,rfl,hp,e⟩:=h;exact⟨p,us,rfl,s _ _ hp,e.mono λ_ _ _ q=>R.same s.t q⟩
def LL.rows{R:c9 Pr w K mg base}{n:Nat}{H0 G:Hp}{x:Nat->Nat->R.S.W}{rs:List Addr}(h:LL R n H0 x rs G):j7 (λr u H=>MO R n (x r) u H) (rs.map V.ref) rs.length G:=⟨by rw[af],λq hq=>by
 have e:=ag hq;obtain⟨_,vs,a,b⟩:=h.2 q _ e;exact⟨V.ref rs[q],by rw[ay,e];rfl,_,vs,rfl,a,b⟩⟩
def WN{R:c9 Pr w K mg base}{i j n m:Nat}{b:R.S.W}{x:Nat->R.S.W}(hi:i < n)(hj:j < n)(hb:R.S.sz m b)(h:∀k,k < n->R.S.sz m (x k)):∀k,k < n->R.S.sz (m+(m+m)+1) (T3 i j b x k):=λk hk=>by
 unfold T3;split
 . exact R.S.sz_add _ _ _ _ (h j hj) (R.S.sz_mul _ _ _ _ hb (h i hi))
 . exact R.S.sz_mono _ _ _ oM (h k hk)
def XI{T:Txt K mg t}{R:c9 Pr w K mg base}{nm:Str}{p:Int}(hS:So T R nm p){n:Nat}{G:Hp}{r q r1 i:Nat}{x:Nat->R.S.W}{us xs ys:List V}(n0:i < n)(hq:G q=some (.lst us))(e:us[i]? = some (.ref r1))(h1:G r1=some (.lst xs))(h:G r=some (.lst ys))(b:j7 (λk u H=>R.is H u (x k)) ys n G):r≠q:=λz=>by
 rw[z,hq]at h;cases h;obtain⟨u,eu,ix⟩:=b.2 i n0;rw[e]at eu;cases eu;cases hS with
 | fr=>
  obtain⟨px,ep,hx⟩:=ix;cases ep;rw[h1]at hx;cases hx
 | re p hp hq' hi=>cases (show V.ref r1=.int (x i).x from ix)
structure SzM(R:c9 Pr w K mg base)(n k m:Nat)(st:Nat->R.S.W)(tb:Nat->Nat->Nat->R.S.W)(en:Nat->R.S.W):Prop where
 st:∀i,i < n->R.S.sz m (st i)
 tb:∀a,a < k->∀i,i < n->∀j,j < n->R.S.sz m (tb a i j)
 en:∀i,i < n->R.S.sz m (en i)
def NY(T:Txt K mg t):Sp:=λvs H Q _=>∃(R:c9 Pr w K mg base),∃nm p so mv bv l,∃(n i j m:Nat),∃st tb en b,So T R nm p/\vs=[so,mv,.int (i:Nat),.int (j:Nat),bv]/\(M3 H so nm p/\x6 R l n st tb en mv H/\Aa l/\R.is H bv b/\R.S.sz m b/\i < n/\j < n/\n<=60/\SzM R n l.length m st tb en/\AM R.S (10 * m+10))/\
 ∀v H',j0 H H'->x6 R l n (T3 i j b st) (λa=>Li i j b (R.F.neg b) (tb a)) (T3 j i (R.F.neg b) en) v H'->Q v H'
def Iu(T:Txt K mg t):x8 Pr w K mg base F9 40 t.l0i t.i0k VB (NY (w:=w) (base:=base) T):=by
 refine T.i0d.F.ok C2 (by rintro _ _ _ _ ⟨_,_,_,_,_,_,_,_,_,_,_,_,_,_,_,_,rfl,_⟩;rfl) λcdv A outer s H vs Q E hr h=>?_;obtain⟨R,nm,p,so,mv,bv,l,n,i,j,m,st,tb,en,b,hS,rfl,⟨hso,hM,L,hb,zb,hi,hj,hn,Z,hz⟩,k⟩:=h;obtain⟨mp,sv,tv,ev,rfl,hm,⟨sp,ss,rfl,hsp,eS⟩,⟨tp,tabs,rfl,htp,eT⟩,⟨ep,es,rfl,hep,eE⟩⟩:=id hM;have l3:=L.h3;have sl:10000 < sizeLine:=by decide
 refine⟨_,(a8 (P7 (pv 1) (F1 rfl (j6 (gN 5 C2.nd) (j6 (gN 6 C2.nd) (j6 (gN 7 C2.nd) (j6 (gN 8 C2.nd) C7)))))) (a8 (AD (i:=9) C2.nd rfl (Or.inr rfl) (E6 (Iw T) hr.m T.i0y (F6 (pv 0) (pv 4)))) (a8 (sT 10 C2.nd (j8 K7 (by rfl) T.z_list boot_list (B4 (pv 6)))) (a8 (P7 (E6 (O6 T) hr.m T.k0d (X1 (pv 0) (j5 B8 (pv 10) (pv 3) (λ_ _=>rfl)) (E6 (M4 T) hr.m T.i0s (X1 (pv 0) (pv 4) (j5 B8 (pv 10) (pv 2) (λ_ _=>rfl)))))) (Br (pv 10) (pv 3) S5)) (a8 (sT 11 C2.nd (j8 K7 (by rfl) T.z_list boot_list (B4 (pv 8)))) (a8 (P7 (E6 (O6 T) hr.m T.k0d (X1 (pv 0) (j5 B8 (pv 11) (pv 2) (λ_ _=>rfl)) (E6 (M4 T) hr.m T.i0s (X1 (pv 0) (pv 9) (j5 B8 (pv 11) (pv 3) (λ_ _=>rfl)))))) (Br (pv 11) (pv 2) S5)) (a8 (sT 12 C2.nd (D3 K5)) (a8 (D7 aB rfl (L9 (pv 7)) (gN 13 C2.nd) (a8 (DY 15 (PN 15 "#1" (by decide) (R7 (i₀:=14) (xs:=["_law_line_here"]) (by show List.Nodup (n1N);decide +kernel) rfl (Or.inl rfl) rfl (show w9 n1N (b9 O5) _ from⟨rfl,dK,dK,dK,dK,dK⟩) (L9 (pv 13)) (λ_ _ _ _ _=>(l4 (i:=17) (by show List.Nodup (n6N);decide +kernel) rfl (Or.inl rfl))) (λ_ _ _ _ _=>(j8 (show U2 _ (.type "list") (λxs H Q=>∃p ys,xs=[.ref p]/\(o7 K H p ys\/o9 K H p ys)/\∀l,H l=none->Q (.ref l) (upd H l (.lst ys)))from K7) (by rfl) T.z_list boot_list (B4 (pv 17))))))) (a8 (D7 aB rfl (C9 (pv 14)) (gN 15 C2.nd) (c6 (P7 (E6 (O6 T) hr.m T.k0d (X1 (pv 0) (j5 B8 (pv 15) (pv 3) (λ_ _=>rfl)) (E6 (M4 T) hr.m T.i0s (X1 (pv 0) (pv 4) (j5 B8 (pv 15) (pv 2) (λ_ _=>rfl)))))) (Br (pv 15) (pv 3) S5)))) (a8 (sT 16 C2.nd (j5 B8 (pv 14) (pv 3) (λ_ _=>rfl))) (a8 (P7 (z5 (xs:=["_law_x","_law_y"]) rfl (show w9 n7N (b9 O5) _ from⟨rfl,dK,dK,dK,dK,dK⟩) (Z9 rfl T.z_zip (F6 (j5 B8 (pv 14) (pv 2) (λ_ _=>rfl)) (pv 16))) (λ_ _ _ _ _=>(show PG _ _ (ET K 2 _)from(F1 rfl (j6 (l4 (i:=17) (by show List.Nodup (n4N);decide +kernel) rfl (Or.inl rfl)) (j6 (l4 (i:=18) (by show List.Nodup (n4N);decide +kernel) rfl (Or.inl rfl)) C7))))) (λ_ _ _ _ _=>(C3 (O6 (w:=w) (base:=base) T) hr.m rfl T.k0d.m T.k0d.F.kp T.k0d.b .nil C4 (X1 (pv 0) (pv 17) (C3 (M4 (w:=w) (base:=base) T) hr.m rfl T.i0s.m T.i0s.F.kp T.i0s.b .nil C4 (X1 (pv 0) (pv 9) (pv 18))))))) (Br (pv 14) (pv 2) S5)) (c6 (DY 15 (F8 (U0 ba bz bA G0 (pv 12) (B4 (j8 g9 (by rfl) T.z_tuple boot_tuple (B4 (Im 15 "#1" (z5 (xs:=["_law_line_here"]) rfl (show w9 n1N (b9 O5) _ from⟨rfl,dK,dK,dK,dK,dK⟩) (C9 (pv 14)) (λ_ _ _ _ _=>(l4 (i:=17) (by show List.Nodup (n6N);decide +kernel) rfl (Or.inl rfl))) (λ_ _ _ _ _=>(j8 (show U2 _ (.type "tuple") (λxs H Q=>∃p ys,xs=[.ref p]/\((o7 K H p ys/\∀l,H l=none->Q (.ref l) (upd H l (.tup ys)))\/(o9 K H p ys/\Q (.ref p) H)))from g9) (by rfl) T.z_tuple boot_tuple (B4 (pv 17)))))))))))))))))) (c6 (c8 (E5 (Ew (pv 5) (j8 g9 (by rfl) T.z_tuple boot_tuple (B4 (pv 10))) (j8 g9 (by rfl) T.z_tuple boot_tuple (B4 (pv 12))) (j8 g9 (by rfl) T.z_tuple boot_tuple (B4 (pv 11))))))))))))))),?_⟩;refine⟨_,rfl,mp,_,rfl,o9.of hm,rfl,za ⟨rfl,za ⟨rfl,za ⟨rfl,za ⟨rfl,rfl,?_⟩⟩⟩⟩⟩;refine⟨_,rfl,_,rfl,R,zu nm p so bv b ⟨hS,rfl,⟨hso,hb⟩,λcv H1 s1 f1=>?_⟩⟩;have zc:R.S.sz m (R.F.neg b):=R.F.sz_neg _ _ zb;refine⟨_,rfl,sp,ss,rfl,.inr (o9.of (s1 _ _ hsp)),λfp nfp=>?_⟩;refine E8 (o:=.lst ss) nfp λH2 s2 k2=>?_;have t2:=s1.trans s2;obtain⟨ui,eui,pui⟩:=eS.2 i hi;obtain⟨uj,euj,puj⟩:=eS.2 j hj;refine⟨_,rfl,_,rfl,_,rfl,zg ⟨rfl,rfl,o7.of k2,C0 euj,_,rfl,_,rfl,_,rfl,_,rfl,zg ⟨rfl,rfl,o7.of k2,C0 eui,R,zD nm p so bv ui b (st i) m m ⟨hS,rfl,⟨hso.same t2.t,R.same t2.t hb,R.same t2.t pui,zb,Z.st i hi,hz.le oM⟩,λtv3 H3 s3 f3=>?_⟩⟩⟩⟩;refine⟨R,zD nm p so uj tv3 (st j) _ m (m+m) ⟨hS,rfl,⟨hso.same (t2.trans s3).t,R.same (t2.trans s3).t puj,f3,Z.st j hj,R.S.sz_mul _ _ _ _ zb (Z.st i hi),hz.le oM⟩,λpv4 H4 s4 f4=>?_⟩⟩;have Rk:=s3.trans s4;refine⟨_,rfl,_,rfl,fp,ss,(j:Int),j,rfl,rfl,Rk _ _ k2,(by rw[eS.1];exact El hj),?_⟩;have nfp0:H fp=none:=by
  cases e:H fp with
  | none=>rfl
  | some o=>rw[s1 _ _ e]at nfp;cases nfp
 have s5:j0 H (upd H4 fp (.lst (ss.set j pv4))):=X5 (t2.trans Rk) nfp0;have eF:j7 (λk u H=>R.is H u (T3 i j b st k)) (ss.set j pv4) n (upd H4 fp (.lst (ss.set j pv4))):=Jb (eS.mono λ_ _ _ z=>R.same s5.t z) (R.same (B7 (o:=.lst (ss.set j pv4)) (Rk _ _ k2)) f4);have kF:=c4 (H:=H4) (a:=fp) (o:=.lst (ss.set j pv4));have f1:=R.same ((s2.trans Rk).t.trans (B7 (o:=.lst (ss.set j pv4)) (Rk _ _ k2))) f1;clear s1 s2 t2 s3 s4 Rk f3 f4 k2 nfp;revert s5 eF kF f1;generalize upd H4 fp (.lst (ss.set j pv4))=H5;intro s5 eF kF f1;refine⟨_,rfl,ep,es,rfl,.inr (o9.of (s5 _ _ hep)),λgp ngp=>?_⟩;have s6:=c7 (o:=.lst es) ngp;have k6:=c4 (H:=H5) (a:=gp) (o:=.lst es);have nfg:fp≠gp:=λz=>by rw[z,ngp]at kF;cases kF
 revert s6 k6;generalize upd H5 gp (.lst es)=H6;intro s6 k6;have t6:=s5.trans s6;have kF:=s6 _ _ kF;have eF:j7 (λk u H=>R.is H u (T3 i j b st k)) (ss.set j pv4) n H6:=eF.mono λ_ _ _ z=>R.same s6.t z;obtain⟨vi,evi,pvi⟩:=eE.2 i hi;obtain⟨vj,evj,pvj⟩:=eE.2 j hj;refine⟨_,rfl,_,rfl,_,rfl,zg ⟨rfl,rfl,o7.of k6,C0 evi,_,rfl,_,rfl,_,rfl,_,rfl,zg ⟨rfl,rfl,o7.of k6,C0 evj,R,zD nm p so cv vj (R.F.neg b) (en j) m m ⟨hS,rfl,⟨hso.same t6.t,R.same s6.t f1,R.same t6.t pvj,zc,Z.en j hj,hz.le oM⟩,λtv7 H7 s7 f7=>?_⟩⟩⟩⟩;refine⟨R,zD nm p so vi tv7 (en i) _ m (m+m) ⟨hS,rfl,⟨hso.same (t6.trans s7).t,R.same (t6.trans s7).t pvi,f7,Z.en i hi,R.S.sz_mul _ _ _ _ zc (Z.en j hj),hz.le oM⟩,λpv8 H8 s8 f8=>?_⟩⟩;have PB:=s7.trans s8;refine⟨_,rfl,_,rfl,gp,es,(i:Int),i,rfl,rfl,PB _ _ k6,(by rw[eE.1];exact El hi),?_⟩;have ngp0:H gp=none:=by
  cases e:H gp with
  | none=>rfl
  | some o=>rw[s5 _ _ e]at ngp;cases ngp
 have tl:=B7 (o:=.lst (es.set i pv8)) (PB _ _ k6);have s9:j0 H (upd H8 gp (.lst (es.set i pv8))):=X5 (t6.trans PB) ngp0;have eG:j7 (λk u H=>R.is H u (T3 j i (R.F.neg b) en k)) (es.set i pv8) n (upd H8 gp (.lst (es.set i pv8))):=Jb (eE.mono λ_ _ _ z=>R.same s9.t z) (R.same tl f8);have kG:=c4 (H:=H8) (a:=gp) (o:=.lst (es.set i pv8));have kF9:upd H8 gp (.lst (es.set i pv8)) fp=some (.lst (ss.set j pv4)):=by rw[o4 nfg];exact PB _ _ kF
 have eF9:j7 (λk u H=>R.is H u (T3 i j b st k)) (ss.set j pv4) n (upd H8 gp (.lst (es.set i pv8))):=eF.mono λ_ _ _ z=>R.same (PB.t.trans tl) z;have f9:=R.same (s6.t.trans (PB.t.trans tl)) f1;clear s5 s6 s7 s8 PB t6 eF kF f1 f7 f8 k6 ngp tl;revert s9 eG kG kF9 eF9 f9;generalize upd H8 gp (.lst (es.set i pv8))=H9;intro s9 eG kG kF9 eF9 f9;refine⟨(by show 0<=sizeLine;decide),λma nma=>?_⟩;refine E8 (o:=.lst []) nma λH10 Gv k10=>?_;refine⟨_,rfl,tp,rfl,⟨_,o9.of (Gv _ _ (s9 _ _ htp))⟩,DD (K:=K) (a:=tp) (xs:=tabs) (λc σ G=>∃v13 v14 v15 v16 us,σ=[some so,some (.ref mp),some (.int (i:Nat)),some (.int (j:Nat)),some bv,some (vT l),some (.ref sp),some (.ref tp),some (.ref ep),some cv,some (.ref fp),some (.ref gp),some (.ref ma),v13,v14,v15,v16]/\j0 H9 G/\G ma=some (.lst us)/\j7 (λc u H=>D1 R n n (Li i j b (R.F.neg b) (tb c)) u H) us c G) ⟨_,_,_,_,[],rfl,Gv,k10,j7.nil⟩ (λi' σ G _ ⟨_,_,_,_,_,_,q,_⟩=>o9.of (q _ _ (s9 _ _ htp))) ?_ ?_⟩
 . rintro c y σ G hc ⟨v13,v14,v15,v16,us,rfl,sG,kM,eM⟩;obtain⟨cl,pv⟩:=eT.at hc;obtain⟨yp,Eu,rfl,hyp,eY⟩:=pv;have hyG:=sG _ _ (s9 _ _ hyp);refine⟨rfl,_,rfl,yp,rfl,⟨_,o9.of hyG⟩,w5 (n:=n) (λq ys G1=>j0 G G1/\∃rs,ys=rs.map V.ref/\rs.length=q/\LL R n G (tb c) rs G1) oM ⟨j0.refl _,[],rfl,rfl,List.nodup_nil,λq r e=>by simp at e⟩ (λq ys G1 h=>by obtain⟨_,rs,e,el,_⟩:=h;rw[e,af,el]) ?_ ?_ ?_⟩
   . rintro q ys G1 hq ⟨s1,rs,rfl,el,hL⟩;obtain⟨u,eu,pu⟩:=eY.2 q hq;refine⟨za ⟨o9.of (s1 _ _ hyG),eu⟩,λy' H' hy'=>?_⟩;obtain⟨rfl,hy'⟩:=hy';have:=hy' _ (o9.of (s1 _ _ hyG));rw[eu]at this;cases this;have u9:B5 H H':=(s9.trans (sG.trans s1)).t;obtain⟨up,uus,rfl,hup,eU⟩:=j9.same u9 pu;refine⟨⟨[some _],rfl,rfl⟩,_,rfl,up,uus,rfl,.inr (o9.of hup),λr nr=>?_⟩;refine⟨s1.trans (c7 nr),rs++[r],by rw[aU];rfl,by rw[aq,el];rfl,hL.snoc s1 nr ?_⟩;rw[el];exact eU
   . rintro ys G1 ⟨s1,_⟩;exact⟨_,o9.of (s1 _ _ hyG),by rw[eY.1];exact ae _⟩
   . rintro ys G1 lp ⟨s1,rs,rfl,el,hL⟩ nlp;have s2:=c7 (o:=.lst (rs.map V.ref)) nlp;have k2:=c4 (H:=G1) (a:=lp) (o:=.lst (rs.map V.ref));have nlG:G lp=none:=by
      cases e:G lp with
      | none=>rfl
      | some o=>rw[s1 _ _ e]at nlp;cases nlp
     have hL2:=hL.same s2;have nrl:lp ∉ rs:=hL.not nlp;have s2:=s1.trans s2;clear s1 hL nlp;revert s2 k2 hL2;generalize upd G1 lp (.lst (rs.map V.ref))=G2;intro k2 hL2 s2;show E9 14 (.ref lp) [some so,some (.ref mp),some (.int (i:Nat)),some (.int (j:Nat)),some bv,some (vT l),some (.ref sp),some (.ref tp),some (.ref ep),some cv,some (.ref fp),some (.ref gp),some (.ref ma),some (.ref yp),v14,none,v16] G2 _;have zA:=Z.tb c cl;refine⟨_,rfl,lp,rfl,⟨_,o7.of k2⟩,En (n:=n) (λq σ G3=>∃v15,σ=[some so,some (.ref mp),some (.int (i:Nat)),some (.int (j:Nat)),some bv,some (vT l),some (.ref sp),some (.ref tp),some (.ref ep),some cv,some (.ref fp),some (.ref gp),some (.ref ma),some (.ref yp),some (.ref lp),v15,v16]/\j0 G G3/\G3 lp=some (.lst (rs.map V.ref))/\LL R n G (λq'=>if q' < q then T3 i j b (tb c q')else tb c q') rs G3) ⟨_,rfl,s2,k2,hL2⟩ ?_ ?_⟩
     . rintro q σ G3 hq ⟨v15,rfl,s3,k3,hL3⟩;have er:=ag (show q < rs.length by omega);obtain⟨z0,us3,hr3,e3⟩:=hL3.2 q _ er;have ey:(rs.map V.ref)[q]? = some (V.ref rs[q]):=by rw[ay,er];rfl
       refine Dy (o7.of k3) ey ?_
       (try dsimp only at e3)
       rw[if_neg (aI q)]at e3;obtain⟨xi,exi,pxi⟩:=e3.2 i hi;obtain⟨xj,exj,pxj⟩:=e3.2 j hj;have t3:=s9.trans (sG.trans s3);have zq:=zA q hq;refine⟨_,rfl,_,rfl,_,rfl,zg ⟨rfl,rfl,o7.of hr3,C0 exj,_,rfl,_,rfl,_,rfl,_,rfl,zg ⟨rfl,rfl,o7.of hr3,C0 exi,R,zD nm p so bv xi b (tb c q i) m m ⟨hS,rfl,⟨hso.same t3.t,R.same t3.t hb,pxi,zb,zq i hi,hz.le oM⟩,λtv4 G4 s4 f4=>?_⟩⟩⟩⟩;refine⟨R,zD nm p so xj tv4 (tb c q j) _ m (m+m) ⟨hS,rfl,⟨hso.same (t3.trans s4).t,R.same s4.t pxj,f4,zq j hj,R.S.sz_mul _ _ _ _ zb (zq i hi),hz.le oM⟩,λpv5 G5 s5 f5=>?_⟩⟩;have Lj:=s4.trans s5;refine⟨_,rfl,_,rfl,rs[q],us3,(j:Int),j,rfl,rfl,Lj _ _ hr3,(by rw[e3.1];exact El hj),?_⟩;have tl:=B7 (o:=.lst (us3.set j pv5)) (Lj _ _ hr3);have e6:j7 (λk u H=>R.is H u (T3 i j b (tb c q) k)) (us3.set j pv5) n (upd G5 rs[q] (.lst (us3.set j pv5))):=Jb (e3.mono λ_ _ _ z=>R.same (Lj.t.trans tl) z) (R.same tl f5);refine⟨_,rfl,X5 (s3.trans Lj) z0,?_,?_⟩
       . rw[o4 (λz=>nrl (by rw[z];exact aM _))];exact Lj _ _ k3
       . have h6:=(hL3.same Lj).put er (Lj _ _ hr3) e6;have ef:(λq'=>if q' < q+1 then T3 i j b (tb c q')else tb c q')=λq'=>if q'=q then T3 i j b (tb c q)else if q' < q then T3 i j b (tb c q')else tb c q':=by
          funext q';by_cases z:q'=q
          . rw[if_pos z,z,if_pos oM]
          . by_cases z2:q' < q
            . rw[if_neg z,if_pos z2,if_pos oM]
            . rw[if_neg z,if_neg z2,if_neg oM]
         rw[ef];exact h6
     . rintro σ G3 ⟨v15,rfl,s3,k3,hL3⟩;refine⟨⟨_,o7.of k3,by rw[af];omega⟩,?_⟩;have e:=hL3.rows;rw[el]at e;have e:j7 (λr u H=>MO R n (T3 i j b (tb c r)) u H) (rs.map V.ref) n G3:=⟨e.1,λr hr=>by
        obtain⟨u,a,b⟩:=e.2 r hr
        (try dsimp only at b)
        rw[if_pos hr]at b;exact⟨u,a,b⟩⟩
       clear hL3 hL2 k2 s2 nrl;revert k3 e;generalize rs.map V.ref=ys;intro k3 e;have yl:=e.1;obtain⟨ui',eui',pui',usi,rfl,hpi,ei⟩:=e.2 i hi;obtain⟨uj',euj',puj',usj,rfl,hpj,ej⟩:=e.2 j hj;refine⟨_,rfl,_,rfl,zg ⟨rfl,rfl,o7.of k3,C0 euj',?_⟩⟩;refine⟨_,rfl,_,rfl,zg ⟨rfl,rfl,o7.of k3,C0 eui',_,rfl,.lst pui',.lst puj',za ⟨usi,usj,rfl,rfl,rfl,o7.of hpi,o7.of hpj,w5 (n:=n) (λk ys' G4=>j0 G3 G4/\j7 (λk u H=>R.is H u (R.S.add (T3 i j b (tb c i) k) (R.S.mul (R.F.neg b) (T3 i j b (tb c j) k)))) ys' k G4) oM ⟨j0.refl _,j7.nil⟩ (λj ys G q=>q.2.1) ?_ ?_ ?_⟩⟩⟩
       . rintro k' ys' G4 hk' ⟨q4,e4⟩;obtain⟨xu,exu,pxu⟩:=ei.2 k' hk';obtain⟨yu,eyu,pyu⟩:=ej.2 k' hk';refine⟨⟨usi,usj,xu,yu,o7.of (q4 _ _ hpi),o7.of (q4 _ _ hpj),exu,eyu⟩,λy' H' hy=>?_⟩;obtain⟨pp,x',y',rfl,np,rfl,f1,f2⟩:=hy;have e1:=f1 _ (o7.of (q4 _ _ hpi));rw[exu]at e1;cases e1;have e2:=f2 _ (o7.of (q4 _ _ hpj));rw[eyu]at e2;cases e2;have t5:=c7 (o:=.tup [xu,yu]) np;have q5':=q4.trans t5;have u9:=(sG.trans (s3.trans q5')).t;have uq:=s9.t.trans u9;have z1:∀r,r < n->R.S.sz (m+(m+m)+1) (T3 i j b (tb c r) k'):=λr hr=>WN hi hj zb (zA r hr) k' hk';refine⟨pp,_,rfl,o9.of c4,rfl,za ⟨rfl,za ⟨rfl,rfl,⟨[some _,some _],rfl,rfl⟩,_,rfl,_,rfl,_,rfl,_,rfl,_,rfl,R,zD nm p so cv yu (R.F.neg b) _ m (m+(m+m)+1) ⟨hS,rfl,⟨hso.same uq,R.same u9 f9,R.same q5'.t pyu,zc,z1 j hj,hz.le oM⟩,λtv G6 s7 f7=>?_⟩⟩⟩⟩;refine⟨R,zD nm p so xu tv _ _ (m+(m+m)+1) (m+(m+(m+m)+1)) ⟨hS,rfl,⟨hso.same (uq.trans s7.t),R.same (q5'.trans s7).t pxu,f7,z1 i hi,R.S.sz_mul _ _ _ _ zc (z1 j hj),hz.le oM⟩,λav G7 s8 f8=>?_⟩⟩;exact⟨q4.trans (t5.trans (s7.trans s8)),(e4.mono λ_ _ _ z=>R.same (t5.trans (s7.trans s8)).t z).snoc f8⟩
       . rintro ys' G4 ⟨q4,e4⟩;exact⟨usi,usj,o7.of (q4 _ _ hpi),o7.of (q4 _ _ hpj),.inl ei.1.symm⟩
       . rintro ys' G4 z2 ⟨q4,e4⟩ nz2;have t5:=c7 (o:=.lst ys') nz2;have k5:=c4 (H:=G4) (a:=z2) (o:=.lst ys');have e5:j7 (λk u H=>R.is H u (R.S.add (T3 i j b (tb c i) k) (R.S.mul (R.F.neg b) (T3 i j b (tb c j) k)))) ys' n (upd G4 z2 (.lst ys')):=e4.mono λ_ _ _ z=>R.same t5.t z;have nzz:z2≠lp:=λe=>by rw[e,q4 _ _ k3]at nz2;cases nz2
         revert t5 k5 e5;generalize upd G4 z2 (.lst ys')=G5;intro t5 k5 e5;have q45:=q4.trans t5;have kz5:=q45 _ _ k3;refine⟨_,rfl,_,rfl,lp,ys,(i:Int),i,rfl,rfl,kz5,(by rw[yl];exact El hi),?_⟩;have tl:=B7 (o:=.lst (ys.set i (.ref z2))) kz5;have t6:j0 G (upd G5 lp (.lst (ys.set i (.ref z2)))):=X5 (s3.trans q45) nlG;have k6':=c4 (H:=G5) (a:=lp) (o:=.lst (ys.set i (.ref z2)));have kz2:upd G5 lp (.lst (ys.set i (.ref z2))) z2=some (.lst ys'):=by rw[o4 nzz];exact k5
         have e6:j7 (λk u H=>R.is H u (R.S.add (T3 i j b (tb c i) k) (R.S.mul (R.F.neg b) (T3 i j b (tb c j) k)))) ys' n (upd G5 lp (.lst (ys.set i (.ref z2)))):=e5.mono λ_ _ _ x=>R.same tl x;have eR:j7 (λr u H=>MO R n (Li i j b (R.F.neg b) (tb c) r) u H) (ys.set i (.ref z2)) n (upd G5 lp (.lst (ys.set i (.ref z2)))):=by
          refine⟨by rw[bC,yl],λr hr'=>?_⟩;by_cases er:r=i
          . subst er;refine⟨.ref z2,bZ (by rw[yl];exact hr'),?_⟩;dsimp only;rw[show Li r j b (R.F.neg b) (tb c) r=λk=>R.S.add (T3 r j b (tb c r) k) (R.S.mul (R.F.neg b) (T3 r j b (tb c j) k))from if_pos rfl];exact⟨z2,ys',rfl,kz2,e6⟩
          . obtain⟨u,eu,pu⟩:=e.2 r hr';refine⟨u,by rw[bE (Ne.symm er)];exact eu,?_⟩;dsimp only;rw[show Li i j b (R.F.neg b) (tb c) r=T3 i j b (tb c r)from if_neg er];obtain⟨r1,us1,rfl,h1,h2⟩:=pu;exact⟨r1,us1,rfl,by rw[o4 (XI hS oM k3 eui' hpi h1 h2)];exact q45 _ _ h1,h2.mono λ_ _ _ x=>R.same (q45.t.trans tl) x⟩
         clear q4 t5 k5 e5 kz5 q45 tl kz2 e6 e k3 e4;revert t6 k6' eR;generalize upd G5 lp (.lst (ys.set i (.ref z2)))=G6;intro t6 k6' eR;have kma:=t6 _ _ kM;refine⟨_,rfl,.inl ⟨rfl,_,o7.of kma⟩,rfl,_,rfl,lp,rfl,⟨_,o7.of k6'⟩,w5 (n:=n) (λr zs G7=>j0 G6 G7/\j7 (λr u H=>j9 R n (Li i j b (R.F.neg b) (tb c) r) u H) zs r G7) oM ⟨j0.refl _,j7.nil⟩ (λj ys H2 q=>q.2.1) ?_ ?_ ?_⟩
         . rintro r zs G7 hr' ⟨q7,e7⟩;obtain⟨u,eu,pu⟩:=eR.2 r hr';refine Dy (o7.of (q7 _ _ k6')) eu ?_;obtain⟨up,uvs,rfl,hup,eU⟩:=MO.same q7 pu;refine⟨⟨[some _],rfl,rfl⟩,_,rfl,up,uvs,rfl,.inl ⟨o7.of hup,λtz ntz=>?_⟩⟩;have t8:=c7 (o:=.tup uvs) ntz;exact⟨q7.trans t8,(e7.mono λ_ _ _ x=>j9.same t8.t x).snoc ⟨tz,uvs,rfl,c4,eU.mono λ_ _ _ x=>R.same t8.t x⟩⟩
         . rintro zs G7 ⟨q7,e7⟩;exact⟨_,o7.of (q7 _ _ k6'),by rw[eR.1];exact ae _⟩
         . rintro zs G7 lz ⟨q7,e7⟩ nlz;have t8:=c7 (o:=.lst zs) nlz;refine⟨lz,zs,rfl,.inl ⟨o7.of c4,λtz ntz=>?_⟩⟩;have t9:=t8.trans (c7 (o:=.tup zs) ntz);have hT9:D1 R n n (Li i j b (R.F.neg b) (tb c)) (.ref tz) (upd (upd G7 lz (.lst zs)) tz (.tup zs)):=⟨tz,zs,rfl,c4,e7.mono λ_ _ _ x=>j9.same t9.t x⟩;have t10:=t6.trans (q7.trans t9);revert hT9 t10;generalize upd (upd G7 lz (.lst zs)) tz (.tup zs)=G8;intro hT9 t10;have kma8:=t10 _ _ kM;have eu:=eM.1;have et:=eT.1;refine⟨ma,us,V.ref tz,rfl,rfl,kma8,oM,?_⟩;have nx:=B7 (o:=.lst (us++[V.ref tz])) kma8;exact zg ⟨us++[V.ref tz],rfl,X5 (sG.trans t10) nma,c4,(eM.mono λ_ _ _ x=>D1.same nx (D1.same t10.t x)).snoc (D1.same nx hT9)⟩
 . rintro σ G ⟨v13,v14,v15,v16,us,rfl,sG,kM,eM⟩;rw[eT.1]at eM;refine⟨_,rfl,_,rfl,fp,_,rfl,.inl ⟨o7.of (sG _ _ kF9),λq1 nq1=>?_⟩⟩;refine E8 (o:=.tup (ss.set j pv4)) nq1 λG1 t1 k1=>?_;refine⟨_,rfl,ma,us,rfl,.inl ⟨o7.of (t1 _ _ kM),λq2 nq2=>?_⟩⟩;refine E8 (o:=.tup us) nq2 λG2 t2 k2=>?_;refine⟨_,rfl,gp,_,rfl,.inl ⟨o7.of ((sG.trans (t1.trans t2)) _ _ kG),λq3 nq3=>?_⟩⟩;refine E8 (o:=.tup (es.set i pv8)) nq3 λG3 t3 k3=>?_;refine⟨(by show 4<=sizeLine;decide),λq4 nq4=>?_⟩;have t4:=c7 (o:=.tup [vT l,V.ref q1,V.ref q2,V.ref q3]) nq4;have t14:=t1.trans (t2.trans (t3.trans t4));exact k _ _ (s9.trans (sG.trans t14)) ⟨q4,_,_,_,rfl,c4,⟨q1,_,rfl,(t2.trans (t3.trans t4)) _ _ k1,eF9.mono λ_ _ _ z=>R.same (sG.trans t14).t z⟩,⟨q2,us,rfl,(t3.trans t4) _ _ k2,eM.mono λ_ _ _ x=>D1.same t14.t x⟩,⟨q3,_,rfl,t4 _ _ k3,eG.mono λ_ _ _ z=>R.same (sG.trans t14).t z⟩⟩
def PR(ub:Bool)(x y:V):OI [x,y] (if ub=true then 1 else 0)=some (if ub=true then y else x):=by cases ub <;>rfl
def RowW(R:c9 Pr w K mg base)(n:Nat)(ub:Bool)(x:Nat->R.S.W)(v:V)(H:Hp):Prop:=∃y,j9 R (n+1) y v H/\(∀j,j < n->y j=x j)/\R.B.cb 12 48 (y n)/\(ub=false->y n=R.S.zero)
theorem RowW.same{R:c9 Pr w K mg base}{n:Nat}{ub:Bool}{x:Nat->R.S.W}{v:V}{H H':Hp}(s:B5 H H')(h:RowW R n ub x v H):RowW R n ub x v H':=by
 obtain⟨y,h1,h2⟩:=h;exact⟨y,j9.same s h1,h2⟩
def OM(R:c9 Pr w K mg base)(n:Nat)(ub:Bool)(A:Nat->Nat->R.S.W)(v:V)(H:Hp):Prop:=∃B,D1 R (n+1) (n+1) B v H/\(∀i,i < n->∀j,j < n->B i j=A i j)/\(∀i,i<=n->R.B.cb 12 48 (B n i)/\R.B.cb 12 48 (B i n))/\(ub=true->∀j,j < n->B n j=R.S.zero)/\(ub=false->∀i,i < n->B i n=R.S.zero)
theorem OM.same{R:c9 Pr w K mg base}{n:Nat}{ub:Bool}{x:Nat->Nat->R.S.W}{v:V}{H H':Hp}(s:B5 H H')(h:OM R n ub x v H):OM R n ub x v H':=by
 obtain⟨y,h1,h2⟩:=h;exact⟨y,D1.same s h1,h2⟩
def ON(R:c9 Pr w K mg base)(ub:Bool):Nat->V->Hp->Prop:=λ_ u H=>∃x,R.is H u x/\R.B.cb 12 48 x/\(ub=true->x=R.S.zero)
theorem ON.same{R:c9 Pr w K mg base}{ub:Bool}{i:Nat}{v:V}{H H':Hp}(s:B5 H H')(h:ON R ub i v H):ON R ub i v H':=by
 obtain⟨x,h1,h2⟩:=h;exact⟨x,R.same s h1,h2⟩
def Pi(T:Txt K mg t):Sp:=λvs H Q _=>∃(R:c9 Pr w K mg base),∃nm p,∃(a:Addr),∃so mv l,∃(n:Nat),∃(se:Bool),∃st tb en,So T R nm p/\vs=[.ref a,so,mv,.bl se]/\(Dr H a/\M3 H so nm p/\Aa l/\n<=50/\x6 R l n st tb en mv H)/\
 ∀v H' st' tb' en',l9 a H H'->Dr H' a->x6 R l (n+1) st' tb' en' v H'->((∀i,i < n->st' i=st i)/\(∀c,c < l.length->∀i,i < n->∀j,j < n->tb' c i j=tb c i j)/\∀i,i < n->en' i=en i)->
  (R.B.cb 12 48 (st' n)/\(∀c,c < l.length->∀i,i<=n->R.B.cb 12 48 (tb' c n i)/\R.B.cb 12 48 (tb' c i n))/\R.B.cb 12 48 (en' n))->
  ((en' n=R.S.zero/\∀c,c < l.length->∀j,j < n->tb' c n j=R.S.zero)\/(st' n=R.S.zero/\∀c,c < l.length->∀i,i < n->tb' c i n=R.S.zero))->Q v H'
def Kc(T:Txt K mg t):x8 Pr w K mg base F9 42 t.m0j t.j0v VD (Pi (w:=w) (base:=base) T):=by
 refine T.k0f.F.ok B6 (by rintro _ _ _ _ ⟨_,_,_,_,_,_,_,_,_,_,_,_,_,rfl,_⟩;rfl) λcdv A outer s H vs Q E hr h=>?_;obtain⟨R,nm,p,a,so,mv,l,n,se,st,tb,en,hS,rfl,⟨hD,hso,L,hn,hM⟩,k⟩:=h;obtain⟨mp,sv,tv,ev,rfl,hm,h1,⟨tp,tabs,rfl,htp,eT⟩,h3⟩:=id hM;refine⟨_,(a8 (P7 (pv 2) (F1 rfl (j6 (gN 4 B6.nd) (j6 (gN 5 B6.nd) (j6 (gN 6 B6.nd) (j6 (gN 7 B6.nd) C7)))))) (a8 (sT 8 B6.nd (l5 w8 (by rfl) T.z_len PySem.boot_len (B4 (pv 5)))) (a8 (AD (i:=9) B6.nd rfl (Or.inr rfl) (E6 (Am T) hr.m T.m0l (F6 (pv 1) c5))) (a8 (sT 10 B6.nd (D3 K5)) (a8 (D7 aB rfl (L9 (pv 6)) (gN 11 B6.nd) (a8 (sT 12 B6.nd (D3 K5)) (a8 (D7 aB rfl (L9 (pv 11)) (gN 13 B6.nd) (c6 (F8 (U0 ba bz bA G0 (pv 12) (B4 (o6 U7 (pv 13) (E5 (B4 (j5 B8 (D3 (F6 (pv 9) (E6 (F5 T) hr.m T.i0b (F6 (pv 0) (pv 1))))) (j8 BS (by rfl) T.z_int boot_int (B4 (PZ (pv 3)))) (λ_ _=>rfl)))))))))) (a8 (R7 (i₀:=14) (xs:=["_law_k"]) B6.nd rfl (Or.inl rfl) rfl (show w9 n0N (b9 V6) _ from⟨rfl,dK,dK,dK,dK,dK⟩) (C6 rfl T.z_range (B4 (pv 8))) (λ_ _ _ _ _=>(l4 (i:=17) (by show List.Nodup (n5N);decide +kernel) rfl (Or.inl rfl))) (λ_ _ _ _ _=>(C3 (F5 (w:=w) (base:=base) T) hr.m rfl T.i0b.m T.i0b.F.kp T.i0b.b .nil C4 (F6 (pv 0) (pv 1))))) (a8 (B0 (E4 (D2 (pv 3))) (c6 (R7 (i₀:=14) (xs:=["_law_k"]) B6.nd rfl (Or.inl rfl) rfl (show w9 n0N (b9 V6) _ from⟨rfl,dK,dK,dK,dK,dK⟩) (C6 rfl T.z_range (B4 (pv 8))) (λ_ _ _ _ _=>(l4 (i:=17) (by show List.Nodup (n5N);decide +kernel) rfl (Or.inl rfl))) (λ_ _ _ _ _=>(pv 9)))) o5) (a8 (F8 (U0 ba bz bA G0 (pv 12) (B4 (j8 g9 (by rfl) T.z_tuple boot_tuple (B4 (o6 Iq (pv 14) (D3 (B4 (E6 (F5 T) hr.m T.i0b (F6 (pv 0) (pv 1))))))))))) (c6 (F8 (U0 ba bz bA G0 (pv 10) (B4 (j8 g9 (by rfl) T.z_tuple boot_tuple (B4 (pv 12))))))))))))) (a8 (sT 15 B6.nd (j5 B8 (D3 (F6 (E6 (F5 T) hr.m T.i0b (F6 (pv 0) (pv 1))) (pv 9))) (j8 BS (by rfl) T.z_int boot_int (B4 (pv 3))) (λ_ _=>rfl))) (a8 (sT 16 B6.nd (j5 B8 (D3 (F6 (pv 9) (E6 (F5 T) hr.m T.i0b (F6 (pv 0) (pv 1))))) (j8 BS (by rfl) T.z_int boot_int (B4 (pv 3))) (λ_ _=>rfl))) (c6 (c8 (E5 (Ew (pv 4) (o6 U7 (pv 5) (E5 (B4 (pv 15)))) (j8 g9 (by rfl) T.z_tuple boot_tuple (B4 (pv 10))) (o6 U7 (pv 7) (E5 (B4 (pv 16))))))))))))))),?_⟩;have zl:10000 < sizeLine:=by decide
 have l3:=L.h3;refine⟨_,rfl,mp,_,rfl,o9.of hm,rfl,za ⟨rfl,za ⟨rfl,za ⟨rfl,za ⟨rfl,rfl,?_⟩⟩⟩⟩⟩;refine⟨_,rfl,za ⟨rfl,h1.len,?_⟩⟩;refine⟨_,rfl,R,zt nm p so 0 ⟨hS,rfl,⟨hso,by decide,by decide⟩,λzv H2 x0 s1 f2 ez _ _ _=>?_⟩⟩;cases ez rfl;have c0:R.B.cb 12 48 R.S.zero:=R.B.mono _ _ _ _ (aR _) (R.B.zero 12 (by decide));have d2:=hD.same s1;have q2:l9 a H H2:=.of s1;obtain⟨ub,hub⟩:∃ub,(!se)=ub:=⟨_,rfl⟩;refine⟨(by show 0<=sizeLine;decide),λma nma=>?_⟩;have s3:=c7 (o:=.lst ([]:List V)) nma;have k3:=c4 (H:=H2) (a:=ma) (o:=.lst []);have d3:=d2.same s3;have na:ma≠a:=d2.ne nma;revert s3 k3 d3;generalize upd H2 ma (.lst [])=H3;intro s3 k3 d3;have q3:l9 a H H3:=q2.trans (.of s3);show E9 10 (.ref ma) [some (.ref a),some so,some (.ref mp),some (.bl se),some (vT l),some sv,some (.ref tp),some ev,some (.int (n:Nat)),some zv,none,none,none,none,none,none,none] H3 _;have nma0:∀{G},l9 a H3 G->∀b o,b≠a->H2 b=some o->b≠ma:=λ_ b o _ e z=>by rw[z,nma]at e;cases e
 refine⟨_,rfl,tp,rfl,⟨_,o9.of (q3.tt hD _ _ htp)⟩,DD (K:=K) (a:=tp) (xs:=tabs) (λi σ G=>∃v11 v12 v13 v14 us,σ=[some (.ref a),some so,some (.ref mp),some (.bl se),some (vT l),some sv,some (.ref tp),some ev,some (.int (n:Nat)),some zv,some (.ref ma),v11,v12,v13,v14,none,none]/\l9 a H2 G/\Dr G a/\G ma=some (.lst us)/\j7 (λc u H=>OM R n ub (tb c) u H) us i G) ⟨_,_,_,_,[],rfl,.of s3,d3,k3,j7.nil⟩ (λi σ G _ ⟨_,_,_,_,_,_,q,_⟩=>o9.of ((q2.trans q).tt hD _ _ htp)) ?_ ?_⟩
 . rintro i y σ G hi ⟨v11,v12,v13,v14,us,rfl,sG,dG,kG,eG⟩;obtain⟨il,pv⟩:=eT.at hi;refine⟨(by show 0<=sizeLine;decide),λra nra=>?_⟩;have s4:=c7 (o:=.lst ([]:List V)) nra;have k4:=c4 (H:=G) (a:=ra) (o:=.lst []);have d4:=dG.same s4;have nr:ra≠a:=dG.ne nra;have nrm:ra≠ma:=λz=>by rw[z,kG]at nra;cases nra
   revert s4 k4 d4;generalize upd G ra (.lst [])=G1;intro s4 k4 d4;show E9 12 (.ref ra) [some (.ref a),some so,some (.ref mp),some (.bl se),some (vT l),some sv,some (.ref tp),some ev,some (.int (n:Nat)),some zv,some (.ref ma),some y,v12,v13,v14,none,none] G1 _;obtain⟨yp,rws',rfl,hyp,eY⟩:=pv;have u0:=(q2.trans sG).tt hD;have hyG:=u0 _ _ hyp;refine⟨_,rfl,yp,rfl,⟨_,o9.of (s4 _ _ hyG)⟩,DD (K:=K) (a:=yp) (xs:=rws') (λi' σ G2=>∃v13 us',σ=[some (.ref a),some so,some (.ref mp),some (.bl se),some (vT l),some sv,some (.ref tp),some ev,some (.int (n:Nat)),some zv,some (.ref ma),some (.ref yp),some (.ref ra),v13,v14,none,none]/\l9 a G G2/\Dr G2 a/\G2 ra=some (.lst us')/\j7 (λi' u H=>RowW R n ub (tb i i') u H) us' i' G2) ⟨_,[],rfl,.of s4,d4,k4,j7.nil⟩ (λi' σ G2 _ ⟨_,_,_,q,_⟩=>o9.of (q.tt dG _ _ hyG)) ?_ ?_⟩
   . rintro i' y' σ G2 hi' ⟨v13,us',rfl,sG2,dG2,kG2,eG2⟩;obtain⟨il',pv'⟩:=eY.at hi';obtain⟨yp',cs,rfl,hyp',eC⟩:=pv';have u2:=sG2.tt dG;have hy2:=u2 _ _ (u0 _ _ hyp');refine⟨_,rfl,.inl ⟨rfl,_,o7.of kG2⟩,?_⟩;refine⟨_,rfl,_,rfl,_,rfl,_,rfl,R,zt nm p a so ⟨hS,rfl,⟨dG2,(hso.same u0).same u2⟩,λwv G3 wx s5 d5 iw cw=>?_⟩⟩;have t5:=s5.tt dG2;have f5:=R.same t5 (R.same u2 (R.same (sG.tt d2) f2));have kra5:=s5 _ _ nr kG2;refine⟨(by show 2<=sizeLine;decide),λlp nlp=>?_⟩;refine E8 (o:=.lst [zv,wv]) nlp λG4 s6 k6=>?_;refine⟨_,rfl,_,rfl,.inr ⟨ub,by rw[hub],zg ⟨rfl,rfl,o7.of k6,PR ub zv wv,?_⟩⟩⟩;refine⟨(by show 1<=sizeLine;decide),λzp nzp=>?_⟩;refine E8 (o:=.tup [if ub=true then wv else zv]) nzp λG5 s7 k7=>?_;have OQ:=s6.trans s7;refine⟨yp',zp,cs,_,rfl,rfl,OQ _ _ (t5 _ _ hy2),k7,(by rw[eC.1];show n+1<=sizeLine;omega),λpz G6 s8 k8=>?_⟩;have LR:=OQ.trans s8;have d8:=d5.same LR;have kra8:=LR _ _ kra5;have el:=eG2.1;have e1:=eY.1;refine⟨ra,us',V.ref pz,rfl,rfl,kra8,oM,?_⟩;have nx:=B7 (o:=.lst (us'++[V.ref pz])) kra8;have sx:l9 ra G6 (upd G6 ra (.lst (us'++[V.ref pz]))):=l9.upd;have T8:B5 G2 G6:=t5.trans LR.t;refine⟨_,us'++[V.ref pz],rfl,λb o nb e=>?_,d8.put nr,c4,(eG2.mono λ_ _ _ h=>RowW.same nx (RowW.same T8 h)).snoc (RowW.same nx ?_)⟩
     . exact sx b o (l7 e nra) (LR b o (s5 b o nb (sG2 b o nb e)))
     . refine⟨λj=>if j < n then tb i i' j else(if ub=true then wx else R.S.zero),⟨pz,_,rfl,k8,by rw[aq,eC.1];rfl,λj hj=>?_⟩,λj hj=>if_pos hj,?_,λe=>?_⟩
       . by_cases z:j < n
         . obtain⟨u,eu,pu⟩:=eC.2 j z;refine⟨u,by rw[aH (by rw[eC.1];exact z)];exact eu,?_⟩;dsimp only;rw[if_pos z];exact R.same (u0.trans (u2.trans T8)) pu
         . refine⟨if ub=true then wv else zv,by rw[aK (by rw[eC.1];omega),eC.1,show j - n=0 by omega];rfl,?_⟩;dsimp only;rw[if_neg z];cases ub with
           | true=>exact R.same LR.t iw
           | false=>exact R.same LR.t f5
       . dsimp only;rw[if_neg (aI n)];cases ub with
         | true=>exact cw
         | false=>exact c0
       . dsimp only;rw[if_neg (aI n),e];rfl
   . rintro σ G2 ⟨v13,us',rfl,sG2,dG2,kG2,eG2⟩;rw[eY.1]at eG2;have u2:=sG2.tt dG;obtain⟨svp,svs,rfl,hsv,eS⟩:=id h1;have hsv2:=u2 _ _ (u0 _ _ hsv);have nra2:=nra;refine⟨_,rfl,_,rfl,oM,oM,w5 (n:=n) (λj ys G3=>l9 a G2 G3/\Dr G3 a/\j7 (λ_ u H=>∃x,R.is H u x/\R.B.cb 12 48 x) ys j G3) oM ⟨l9.refl _ _,dG2,j7.nil⟩ (λj ys H2 q=>q.2.2.1) ?_ ?_ ?_⟩
     . rintro j ys G3 hj ⟨s5,d5,e5⟩;have t5:=s5.tt dG2;refine He (by omega) ?_;refine⟨⟨[some _],rfl,rfl⟩,_,rfl,_,rfl,R,zt nm p a so ⟨hS,rfl,⟨d5,((hso.same u0).same u2).same t5⟩,λwv G4 wx s6 d6 iw cw=>?_⟩⟩;exact⟨s5.trans s6,d6,(e5.mono λ_ _ _ ⟨x,z1,z2⟩=>⟨x,R.same (s6.tt d5) z1,z2⟩).snoc ⟨wx,iw,cw⟩⟩
     . rintro ys G3 _;show(n:Int).toNat<=n;omega
     . rintro ys0 G3 zl0 ⟨s5,d5,e5⟩ nzl;have s6:=c7 (o:=.lst ys0) nzl;have k6:=c4 (H:=G3) (a:=zl0) (o:=.lst ys0);have e6:j7 (λ_ u H=>∃x,R.is H u x/\R.B.cb 12 48 x) ys0 n (upd G3 zl0 (.lst ys0)):=e5.mono λ_ _ _ ⟨x,z1,z2⟩=>⟨x,R.same s6.t z1,z2⟩;have d6:=d5.same s6;have nza0:zl0≠a:=d5.ne nzl;have q60:l9 a G2 (upd G3 zl0 (.lst ys0)):=s5.trans (.of s6);clear s5 d5 e5;revert s6 k6 e6 d6 q60;generalize upd G3 zl0 (.lst ys0)=G40;intro s6 k6 e6 d60 q60;clear s6;show E9 14 (.ref zl0) [some (.ref a),some so,some (.ref mp),some (.bl se),some (vT l),some (.ref svp),some (.ref tp),some ev,some (.int (n:Nat)),some zv,some (.ref ma),some (.ref yp),some (.ref ra),v13,v14,none,none] G40 _;refine(λ(key:∀(zl':Addr) (ys:List V) (G4:Hp),G4 zl'=some (.lst ys)->j7 (ON R ub) ys n G4->Dr G4 a->zl'≠a->l9 a G2 G4->(?F0:L2.St->Hp->Prop) [some (.ref a),some so,some (.ref mp),some (.bl se),some (vT l),some (.ref svp),some (.ref tp),some ev,some (.int (n:Nat)),some zv,some (.ref ma),some (.ref yp),some (.ref ra),v13,some (.ref zl'),none,none] G4)=>?main0) ?rest0
       case main0=>
        rcases(by cases se <;>simp:se=true\/se=false)with e | e
        . have eu:ub=false:=by rw[<- hub,e];rfl
          refine⟨_,rfl,_,rfl,?_⟩;refine VS (by rw[e];rfl) ?_;exact key zl0 ys0 G40 k6 (e6.mono λ_ _ _ ⟨x,z1,z2⟩=>⟨x,z1,z2,λe=>by rw[eu]at e;cases e⟩) d60 nza0 q60
        . refine⟨_,rfl,_,rfl,?_⟩;refine iteY (by rw[e];rfl) ?_;have f60:=R.same (q60.tt dG2) (R.same u2 (R.same (sG.tt d2) f2));refine⟨_,rfl,_,rfl,oM,oM,w5 (n:=n) (λj ys G3=>G3=G40/\j7 (ON R ub) ys j G3) oM ⟨rfl,j7.nil⟩ (λj ys H2 q=>q.2.1) ?_ ?_ ?_⟩
          . rintro j ys G3 hj ⟨rfl,e5⟩;refine He (by omega) ?_;exact⟨⟨[some _],rfl,rfl⟩,_,rfl,rfl,e5.snoc ⟨_,f60,c0,λ_=>rfl⟩⟩
          . rintro ys G3 _;show(n:Int).toNat<=n;omega
          . rintro ys G3 zl1 ⟨rfl,e5⟩ nzl1;have s7:=c7 (o:=.lst ys) nzl1;exact key zl1 ys _ c4 (e5.mono λ_ _ _ z=>ON.same s7.t z) (d60.same s7) (d60.ne nzl1) (q60.trans (.of s7))
       case rest0=>
       intro zl' ys G4 k6 e6 d6 nza q6;have t6:=q6.tt dG2;have kra6:=q6 _ _ nr kG2;refine⟨_,rfl,.inl ⟨rfl,_,o7.of kra6⟩,?_⟩;refine⟨_,rfl,_,rfl,_,rfl,R,zt nm p a so ⟨hS,rfl,⟨d6,((hso.same u0).same u2).same t6⟩,λwv G5 wx s7 d7 iw cw=>?_⟩⟩;have t7:=s7.tt d6;have k7:=s7 _ _ nza k6;have kra7:=s7 _ _ nr kra6;refine⟨(by show 1<=sizeLine;decide),λl1 nl1=>?_⟩;refine E8 (o:=.lst [wv]) nl1 λG6 s8 k8=>?_;refine⟨zl',l1,ys,[wv],rfl,rfl,s8 _ _ k7,k8,(by rw[e6.1];show n+1<=sizeLine;omega),λl2 nl2=>?_⟩;refine E8 (o:=.lst (ys++[wv])) nl2 λG7 s9 k9=>?_;refine⟨l2,ys++[wv],rfl,.inl ⟨o7.of k9,λzp nzp=>?_⟩⟩;refine E8 (o:=.tup (ys++[wv])) nzp λG8 Gv k10=>?_;have S8:=s8.trans (s9.trans Gv);have kra8:=S8 _ _ kra7;have el:=eG2.1;refine⟨ra,us',V.ref zp,rfl,rfl,kra8,oM,?_⟩;have nx:=B7 (o:=.lst (us'++[V.ref zp])) kra8;have sx:l9 ra G8 (upd G8 ra (.lst (us'++[V.ref zp]))):=l9.upd;have kra9:=c4 (H:=G8) (a:=ra) (o:=.lst (us'++[V.ref zp]));have d9:=(d7.same S8).put (o:=.lst (us'++[V.ref zp])) nr;have T9:B5 G2 (upd G8 ra (.lst (us'++[V.ref zp]))):=t6.trans (t7.trans (S8.t.trans nx));have eR9:=eG2.mono λ_ _ _ (h:RowW R n ub _ _ _)=>RowW.same T9 h;obtain⟨ls,hls⟩:=Fd R.S.zero (P:=λ_ x u H=>R.is H u x/\R.B.cb 12 48 x/\(ub=true->x=R.S.zero)) e6;have hl9:j9 R (n+1) (λj=>if j < n then ls j else wx) (.ref zp) (upd G8 ra (.lst (us'++[V.ref zp]))):=by
        refine⟨zp,_,rfl,nx _ _ k10,by rw[aq,e6.1];rfl,λj hj=>?_⟩;by_cases z:j < n
        . obtain⟨u,eu,pu⟩:=hls.2 j z;refine⟨u,by rw[aH (by rw[e6.1];exact z)];exact eu,?_⟩;dsimp only;rw[if_pos z];exact R.same (t7.trans (S8.t.trans nx)) pu.1
        . refine⟨wv,by rw[aK (by rw[e6.1];omega),e6.1,show j - n=0 by omega];rfl,?_⟩;dsimp only;rw[if_neg z];exact R.same (S8.t.trans nx) iw
       have sG9:l9 a G (upd G8 ra (.lst (us'++[V.ref zp]))):=λb o nb e=>sx b o (l7 e nra) (S8 b o (s7 b o nb (q6 b o nb (sG2 b o nb e))));revert kra9 d9 T9 eR9 hl9 sG9;generalize upd G8 ra (.lst (us'++[V.ref zp]))=G9;intro kra9 d9 T9 eR9 hl9 sG9;have kma9:=sG9 _ _ na kG;refine⟨_,rfl,.inl ⟨rfl,_,o7.of kma9⟩,_,rfl,ra,_,rfl,.inl ⟨o7.of kra9,λtz ntz=>?_⟩⟩;refine E8 (o:=.tup (us'++[V.ref zp])) ntz λG10 Gu k11=>?_;have kma10:=Gu _ _ kma9;have eu:=eG.1;have et:=eT.1;refine⟨ma,us,V.ref tz,rfl,rfl,kma10,oM,?_⟩;have nx2:=B7 (o:=.lst (us++[V.ref tz])) kma10;have sx2:l9 ma G10 (upd G10 ma (.lst (us++[V.ref tz]))):=l9.upd;have T10:B5 G (upd G10 ma (.lst (us++[V.ref tz]))):=(sG9.tt dG).trans (Gu.t.trans nx2);refine zg ⟨us++[V.ref tz],rfl,λb o nb e=>?_,(d9.same Gu).put na,c4,(eG.mono λ_ _ _ h=>OM.same T10 h).snoc (OM.same nx2 ?_)⟩
       . exact sx2 b o (l7 e nma) (Gu b o (sG9 b o nb (sG b o nb e)))
       . obtain⟨f,hf⟩:=Fd (λ_=>R.S.zero) (P:=λi' y u H=>j9 R (n+1) y u H/\(∀j,j < n->y j=tb i i' j)/\R.B.cb 12 48 (y n)/\(ub=false->y n=R.S.zero)) eR9;have hfa:∀r,r < n->(∀j,j < n->f r j=tb i r j)/\R.B.cb 12 48 (f r n)/\(ub=false->f r n=R.S.zero):=λr hr=>by
          obtain⟨_,_,q⟩:=hf.2 r hr;exact q.2
         have hla:∀r,r < n->R.B.cb 12 48 (ls r)/\(ub=true->ls r=R.S.zero):=λr hr=>by
          obtain⟨_,_,q⟩:=hls.2 r hr;exact q.2
         have bn:∀j,(λr=>if r < n then f r else λj=>if j < n then ls j else wx) n j=if j < n then ls j else wx:=λj=>by
          dsimp only;rw[if_neg (aI n)]
         have br:∀r,r < n->(λr=>if r < n then f r else λj=>if j < n then ls j else wx) r=f r:=λr hr=>if_pos hr;refine⟨λr=>if r < n then f r else λj=>if j < n then ls j else wx,⟨tz,_,rfl,k11,by rw[aq,el];rfl,λr hr=>?_⟩,λr hr j hj=>?_,λr hr=>?_,λe j hj=>?_,λe r hr=>?_⟩
         . by_cases z:r < n
           . obtain⟨u,eu,pu⟩:=hf.2 r z;refine⟨u,by rw[aH (by rw[el];exact z)];exact eu,?_⟩;dsimp only;rw[if_pos z];exact j9.same Gu.t pu.1
           . refine⟨.ref zp,by rw[aK (by rw[el];omega),el,show r - n=0 by omega];rfl,?_⟩;dsimp only;rw[if_neg z];exact j9.same Gu.t hl9
         . rw[br r hr];exact(hfa r hr).1 j hj
         . rw[bn];constructor
           . split
             . rename_i z;exact(hla r z).1
             . exact cw
           . by_cases z:r < n
             . rw[br r z];exact(hfa r z).2.1
             . rw[show r=n by omega,bn,if_neg (aI n)];exact cw
         . rw[bn,if_pos hj];exact(hla j hj).2 e
         . rw[br r hr];exact(hfa r hr).2.2 e
 . rintro σ G ⟨v11,v12,v13,v14,us,rfl,sG,dG,kG,eG⟩;rw[eT.1]at eG;have u0:=(q2.trans sG).tt hD;have fG:=R.same (sG.tt d2) f2;refine⟨_,rfl,_,rfl,R,zt nm p a so ⟨hS,rfl,⟨dG,hso.same u0⟩,λwv G1 wx s4 d4 iw cw=>?_⟩⟩;have t4:=s4.tt dG;have kG1:=s4 _ _ na kG;refine⟨_,rfl,(by show 2<=sizeLine;decide),λlp nlp=>?_⟩;refine E8 (o:=.lst [wv,zv]) nlp λG2 s5 k5=>?_;have iw2:=R.same s5.t iw;have fz2:=R.same (t4.trans s5.t) fG;refine⟨_,rfl,.inr ⟨se,rfl,zg ⟨rfl,rfl,o7.of k5,PR se wv zv,?_⟩⟩⟩;refine⟨_,rfl,_,rfl,_,rfl,R,zt nm p a so ⟨hS,rfl,⟨d4.same s5,(hso.same u0).same (t4.trans s5.t)⟩,λwv2 G3 wx2 s6 d6 iw3 cw3=>?_⟩⟩;have t6:=s6.tt (d4.same s5);have kG3:=s6 _ _ na (s5 _ _ kG1);refine⟨(by show 2<=sizeLine;decide),λlq nlq=>?_⟩;refine E8 (o:=.lst [zv,wv2]) nlq λG4 s7 k7=>?_;refine⟨_,rfl,.inr ⟨se,rfl,zg ⟨rfl,rfl,o7.of k7,PR se zv wv2,?_⟩⟩⟩;obtain⟨bs,hbs⟩:∃bs,(if se=true then zv else wv)=bs:=⟨_,rfl⟩;obtain⟨be,hbe⟩:∃be,(if se=true then wv2 else zv)=be:=⟨_,rfl⟩;have T24:=t6.trans s7.t;obtain⟨xs,is,cs,zs⟩:∃xs,R.is G4 bs xs/\R.B.cb 12 48 xs/\(ub=false->xs=R.S.zero):=by
    rw[<- hbs];cases se with
    | true=>exact⟨_,R.same T24 fz2,c0,λ_=>rfl⟩
    | false=>exact⟨_,R.same T24 iw2,cw,λe=>by rw[<- hub]at e;cases e⟩
   obtain⟨xe,ie,ce,ze⟩:∃xe,R.is G4 be xe/\R.B.cb 12 48 xe/\(ub=true->xe=R.S.zero):=by
    rw[<- hbe];cases se with
    | true=>exact⟨_,R.same s7.t iw3,cw3,λe=>by rw[<- hub]at e;cases e⟩
    | false=>exact⟨_,R.same T24 fz2,c0,λ_=>rfl⟩
   show E9 16 (if se=true then wv2 else zv) [some (.ref a),some so,some (.ref mp),some (.bl se),some (vT l),some sv,some (.ref tp),some ev,some (.int (n:Nat)),some zv,some (.ref ma),v11,v12,v13,v14,some (if se=true then zv else wv),none] G4 _;rw[hbs,hbe];have kma4:=s7 _ _ kG3;obtain⟨svp,svs,rfl,hsv,eS⟩:=id h1;obtain⟨evp,evs,rfl,hev,eE⟩:=id h3;have U4:B5 H G4:=u0.trans (t4.trans (s5.t.trans T24));have X4:l9 a H G4:=q2.trans (sG.trans (s4.trans ((l9.of s5).trans (s6.trans (.of s7)))));have D4:=d6.same s7;have TG:=t4.trans (s5.t.trans T24);clear s4 s5 s6 s7 d6 d4 kG1 kG3 t6 T24;refine⟨_,rfl,_,rfl,_,rfl,(by show 1<=sizeLine;decide),λzp nzp=>?_⟩;refine E8 (o:=.tup [bs]) nzp λG5 s7 k7=>?_;refine⟨svp,zp,svs,[bs],rfl,rfl,s7 _ _ (U4 _ _ hsv),k7,(by rw[eS.1];show n+1<=sizeLine;omega),λsp G6 s8 k8=>?_⟩;refine⟨_,rfl,ma,us,rfl,.inl ⟨o7.of ((s7.trans s8) _ _ kma4),λtq ntq=>?_⟩⟩;refine E8 (o:=.tup us) ntq λG7 s9 k9=>?_;have WV:=s7.trans (s8.trans s9);refine⟨_,rfl,_,rfl,(by show 1<=sizeLine;decide),λzq nzq=>?_⟩;refine E8 (o:=.tup [be]) nzq λG8 Gv k10=>?_;have s610:=WV.trans Gv;refine⟨evp,zq,evs,[be],rfl,rfl,s610 _ _ (U4 _ _ hev),k10,(by rw[eE.1];show n+1<=sizeLine;omega),λep G9 Gu k11=>?_⟩;refine⟨(by show 4<=sizeLine;decide),λfp nfp=>?_⟩;refine E8 (o:=.tup [vT l,V.ref sp,V.ref tq,V.ref ep]) nfp λGF DW k12=>?_;have S9:=s610.trans (Gu.trans DW);have U9:B5 H GF:=U4.trans S9.t;obtain⟨TB',hTB⟩:=Fd (λ_ _=>R.S.zero) (P:=λc B u H=>D1 R (n+1) (n+1) B u H/\(∀i,i < n->∀j,j < n->B i j=tb c i j)/\(∀i,i<=n->R.B.cb 12 48 (B n i)/\R.B.cb 12 48 (B i n))/\(ub=true->∀j,j < n->B n j=R.S.zero)/\(ub=false->∀i,i < n->B i n=R.S.zero)) eG;have hTa:=λc (hc:c < l.length)=>(hTB.2 c hc).choose_spec.2.2;have ext:∀{x:Nat->R.S.W} {v:R.S.W} {vs:List V} {u:V} {z:Addr},j7 (λj u H=>R.is H u (x j)) vs n H->R.is GF u v->GF z=some (.tup (vs++[u]))->j9 R (n+1) (λj=>if j < n then x j else v) (.ref z) GF:=λ{x v vs u z} en iu kz=>by
    refine⟨z,_,rfl,kz,by rw[aq,en.1];rfl,λj hj=>?_⟩;by_cases z:j < n
    . obtain⟨u',eu,pu⟩:=en.2 j z;refine⟨u',by rw[aH (by rw[en.1];exact z)];exact eu,?_⟩;dsimp only;rw[if_pos z];exact R.same U9 pu
    . refine⟨u,by rw[aK (by rw[en.1];omega),en.1,show j - n=0 by omega];rfl,?_⟩;dsimp only;rw[if_neg z];exact iu
   refine k _ GF (λj=>if j < n then st j else xs) TB' (λj=>if j < n then en j else xe) (X4.trans (.of S9)) (D4.same S9) ⟨fp,_,_,_,rfl,k12,ext eS (R.same S9.t is) ((s9.trans (Gv.trans (Gu.trans DW))) _ _ k8),⟨tq,us,rfl,(Gv.trans (Gu.trans DW)) _ _ k9,hTB.mono λ_ _ _ q=>D1.same (TG.trans S9.t) q.1⟩,ext eE (R.same S9.t ie) (DW _ _ k11)⟩ ⟨λi hi=>if_pos hi,λc hc=>(hTa c hc).1,λi hi=>if_pos hi⟩ ⟨by rw[if_neg (aI n)];exact cs,λc hc=>(hTa c hc).2.1,by rw[if_neg (aI n)];exact ce⟩ ?_;cases hub':ub with
   | true=>exact .inl ⟨by rw[if_neg (aI n)];exact ze hub',λc hc=>(hTa c hc).2.2.1 hub'⟩
   | false=>exact .inr ⟨by rw[if_neg (aI n)];exact zs hub',λc hc=>(hTa c hc).2.2.2 hub'⟩
def AO(i j q:Nat):Nat:=if q=j then i else if q=i then j else q
def DK{n i j q:Nat}(hi:i < n)(hj:j < n)(hq:q < n):AO i j q < n:=by
 unfold AO;by_cases h:q=j
 . rw[if_pos h];exact hi
 . rw[if_neg h];split <;>assumption
def Jx(w:World)(K:aa)(mg:Str->Option Value)(base:Heap):Sp:=λvs H Q _=>∃(R:c9 Pr w K mg base),∃mv l,∃(n i j:Nat),∃st tb en,vs=[mv,.int (i:Nat),.int (j:Nat)]/\(x6 R l n st tb en mv H/\Aa l/\i < n/\j < n/\i≠j/\n<=60)/\
 ∀v H',j0 H H'->x6 R l n (λq=>st (AO i j q)) (λa q r=>tb a (AO i j q) (AO i j r)) (λq=>en (AO i j q)) v H'->Q v H'
def FC(T:Txt K mg t):x8 Pr w K mg base F9 40 t.i0i t.h0e Vu (Jx w K mg base):=by
 refine T.h0i.F.ok D6 (by rintro _ _ _ _ ⟨_,_,_,_,_,_,_,_,_,rfl,_⟩;rfl) λcdv A outer s H vs Q E hr h=>?_;obtain⟨R,mv,l,n,i,j,st,tb,en,rfl,⟨hM,L,hi,hj,ne,hn⟩,k⟩:=h;obtain⟨mp,sv,tv,ev,rfl,hm,⟨sp,ss,rfl,hsp,eS⟩,⟨tp,tabs,rfl,htp,eT⟩,⟨ep,es,rfl,hep,eE⟩⟩:=id hM;have l3:=L.h3;have sl:10000 < sizeLine:=by decide
 have lS:=eS.1;refine⟨_,(a8 (P7 (pv 0) (F1 rfl (j6 (gN 3 D6.nd) (j6 (l4 (i:=4) D6.nd rfl (Or.inr rfl)) (j6 (gN 5 D6.nd) (j6 (l4 (i:=6) D6.nd rfl (Or.inr rfl)) C7)))))) (a8 (AD (i:=7) D6.nd rfl (Or.inr rfl) (Og rfl rfl T.z_list rfl T.z_range (B4 (l5 w8 (by rfl) T.z_len PySem.boot_len (B4 (pv 4)))))) (a8 (P7 (pv 2) (Br (pv 7) (pv 1) S5)) (a8 (P7 (pv 1) (Br (pv 7) (pv 2) S5)) (a8 (sT 8 D6.nd (D3 K5)) (a8 (D7 aB rfl (L9 (pv 5)) (l4 (i:=9) D6.nd rfl (Or.inr rfl)) (c6 (F8 (U0 ba bz bA G0 (pv 8) (B4 (j8 g9 (by rfl) T.z_tuple boot_tuple (B4 (z5 (xs:=["_law_q"]) rfl (show w9 n3N (b9 J5) _ from⟨rfl,dK,dK,dK,dK,dK⟩) (C9 (pv 7)) (λ_ _ _ _ _=>(l4 (i:=10) (by show List.Nodup (n2N);decide +kernel) rfl (Or.inr rfl))) (λ_ _ _ _ _=>(j8 (show U2 _ (.type "tuple") (λxs H Q=>∃p ys,xs=[.ref p]/\((o7 K H p ys/\∀l,H l=none->Q (.ref l) (upd H l (.tup ys)))\/(o9 K H p ys/\Q (.ref p) H)))from g9) (by rfl) T.z_tuple boot_tuple (B4 (z5 (xs:=["_law_r"]) rfl (show w9 n2N (rlS (b9 J5) _) _ from⟨rfl,dK,dK,dK,dK,dK⟩) (show PI _ _ _ (TN K _)from C9 (pv 7)) (λ_ _ _ _ _=>(l4 (i:=11) (by show List.Nodup (["_law_machine_here","_law_i","_law_j","_law_letters_here","_law_start","_law_tables","_law_ends","_law_order","_law_made","_law_table","_law_q","_law_r"]:List Str);decide +kernel) rfl (Or.inl rfl))) (λ_ _ _ _ _=>(j5 (show Le _ (GL K)from i0) (j5 (show Le _ (GL K)from i0) (pv 9) (pv 10) (λ_ _=>rfl)) (pv 11) (λ_ _=>rfl))))))))))))))) (c6 (c8 (E5 (Ew (pv 3) (j8 g9 (by rfl) T.z_tuple boot_tuple (B4 (z5 (xs:=["_law_q"]) rfl (show w9 n3N (b9 J5) _ from⟨rfl,dK,dK,dK,dK,dK⟩) (C9 (pv 7)) (λ_ _ _ _ _=>(l4 (i:=10) (by show List.Nodup (n2N);decide +kernel) rfl (Or.inl rfl))) (λ_ _ _ _ _=>(j5 (show Le _ (GL K)from i0) (pv 4) (pv 10) (λ_ _=>rfl)))))) (j8 g9 (by rfl) T.z_tuple boot_tuple (B4 (pv 8))) (j8 g9 (by rfl) T.z_tuple boot_tuple (B4 (z5 (xs:=["_law_q"]) rfl (show w9 n3N (b9 J5) _ from⟨rfl,dK,dK,dK,dK,dK⟩) (C9 (pv 7)) (λ_ _ _ _ _=>(l4 (i:=10) (by show List.Nodup (n2N);decide +kernel) rfl (Or.inl rfl))) (λ_ _ _ _ _=>(j5 (show Le _ (GL K)from i0) (pv 6) (pv 10) (λ_ _=>rfl)))))))))))))))),?_⟩;refine⟨_,rfl,mp,_,rfl,o9.of hm,rfl,za ⟨rfl,za ⟨rfl,za ⟨rfl,za ⟨rfl,rfl,?_⟩⟩⟩⟩⟩;have hl:X2 K (.ref sp) H n:=.inr ⟨_,o9.of hsp,lS.symm⟩;refine⟨_,rfl,za ⟨rfl,hl,?_⟩⟩;refine⟨n,rfl,oM,λop nop=>?_⟩;have k1:=c4 (H:=H) (a:=op) (o:=.lst ((List.range n).map λi=>V.int (i:Nat)));have s1:=c7 (o:=.lst ((List.range n).map λi=>V.int (i:Nat))) nop;have e1:∀q,q < n->((List.range n).map λi=>V.int (i:Nat))[q]? = some (V.int (q:Nat)):=λq hq=>by rw[ay,List.getElem?_range hq];rfl
 have y1:((List.range n).map λi=>V.int (i:Nat)).length=n:=by rw[af,cj]
 revert k1 s1 e1 y1;generalize ((List.range n).map λi=>V.int (i:Nat))=y0;intro k1 s1 e1 y1;revert k1 s1;generalize upd H op (.lst y0)=H1;intro k1 s1;show E9 7 (.ref op) [some (.ref mp),some (.int (i:Nat)),some (.int (j:Nat)),some (vT l),some (.ref sp),some (.ref tp),some (.ref ep),none,none,none] H1 _;refine⟨_,rfl,_,rfl,_,rfl,op,y0,(i:Int),i,rfl,rfl,k1,(by rw[y1];exact El hi),?_⟩;refine⟨_,rfl,_,rfl,_,rfl,op,y0.set i (.int (j:Nat)),(j:Int),j,rfl,rfl,c4,(by rw[bC,y1];exact El hj),?_⟩;have s2:j0 H (upd (upd H1 op (.lst (y0.set i (.int (j:Nat))))) op (.lst ((y0.set i (.int (j:Nat))).set j (.int (i:Nat))))):=X5 (X5 s1 nop) nop;have k2:=c4 (H:=upd H1 op (.lst (y0.set i (.int (j:Nat))))) (a:=op) (o:=.lst ((y0.set i (.int (j:Nat))).set j (.int (i:Nat))));have e2:∀q,q < n->((y0.set i (.int (j:Nat))).set j (.int (i:Nat)))[q]? = some (V.int (AO i j q:Nat)):=λq hq=>by
  unfold AO;by_cases h:q=j
  . rw[if_pos h,h,bZ (by rw[bC,y1];exact hj)]
  . rw[if_neg h,bE (Ne.symm h)];by_cases h2:q=i
    . rw[if_pos h2,h2,bZ (by rw[y1];exact hi)]
    . rw[if_neg h2,bE (Ne.symm h2)];exact e1 q hq
 have y2:((y0.set i (.int (j:Nat))).set j (.int (i:Nat))).length=n:=by rw[bC,bC,y1]
 clear s1 k1 e1 y1;revert s2 k2 e2 y2;generalize ((y0.set i (.int (j:Nat))).set j (.int (i:Nat)))=os;generalize upd (upd H1 op (.lst (y0.set i (.int (j:Nat))))) op (.lst os)=H2;intro s2 k2 e2 y2;have row:∀{us:List V} {x:Nat->R.S.W} {z:Addr} {G:Hp} {q:Nat},j7 (λj u H=>R.is H u (x j)) us n H->j0 H G->q < n->∃u,us[AO i j q]? = some u/\R.is G u (x (AO i j q)):=λ{us x z G q} e s hq=>by
  obtain⟨u,eu,pu⟩:=e.2 _ (DK hi hj hq);exact⟨u,eu,R.same s.t pu⟩
 refine⟨(by show 0<=sizeLine;decide),λma nma=>?_⟩;refine E8 (o:=.lst []) nma λH3 s3 k3=>?_;refine⟨_,rfl,tp,rfl,⟨_,o9.of (s3 _ _ (s2 _ _ htp))⟩,DD (K:=K) (a:=tp) (xs:=tabs) (λc σ G=>∃v9 us,σ=[some (.ref mp),some (.int (i:Nat)),some (.int (j:Nat)),some (vT l),some (.ref sp),some (.ref tp),some (.ref ep),some (.ref op),some (.ref ma),v9]/\j0 H2 G/\G ma=some (.lst us)/\j7 (λc u H=>D1 R n n (λq r=>tb c (AO i j q) (AO i j r)) u H) us c G) ⟨_,[],rfl,s3,k3,j7.nil⟩ (λi' σ G _ ⟨_,_,_,q,_⟩=>o9.of (q _ _ (s2 _ _ htp))) ?_ ?_⟩
 . rintro c y σ G hc ⟨v9,us,rfl,sG,kM,eM⟩;obtain⟨cl,pv⟩:=eT.at hc;obtain⟨yp,Eu,rfl,hyp,eY⟩:=pv;have hyG:=sG _ _ (s2 _ _ hyp);have kO:=sG _ _ k2;refine⟨_,rfl,.inl ⟨rfl,_,o7.of kM⟩,_,rfl,op,rfl,⟨_,o7.of kO⟩,w5 (n:=n) (λq ys G1=>j0 G G1/\j7 (λq u H=>j9 R n (λr=>tb c (AO i j q) (AO i j r)) u H) ys q G1) oM ⟨j0.refl _,j7.nil⟩ (λq ys G1 h=>h.2.1) ?_ ?_ ?_⟩
   . rintro q ys G1 hq ⟨s4,e4⟩;refine⟨za ⟨o7.of (s4 _ _ kO),e2 q hq⟩,λy' H' hy'=>?_⟩;obtain⟨rfl,hy'⟩:=hy';have:=hy' _ (o7.of (s4 _ _ kO));rw[e2 q hq]at this;cases this;obtain⟨rw',erw,prw⟩:=eY.2 _ (DK hi hj hq);have u9:j0 H H':=s2.trans (sG.trans s4);obtain⟨rp,rus,rfl,hrp,eR⟩:=prw;have hrG:=u9 _ _ hrp;refine⟨⟨[some _],rfl,rfl⟩,_,rfl,op,rfl,⟨_,o7.of (s4 _ _ kO)⟩,w5 (n:=n) (λr zs G2=>j0 H' G2/\j7 (λr u H=>R.is H u (tb c (AO i j q) (AO i j r))) zs r G2) oM ⟨j0.refl _,j7.nil⟩ (λq ys G1 h=>h.2.1) ?_ ?_ ?_⟩
     . rintro r zs G2 hr' ⟨s5,e5⟩;refine⟨za ⟨o7.of (s5 _ _ (s4 _ _ kO)),e2 r hr'⟩,λy' H'' hy'=>?_⟩;obtain⟨rfl,hy'⟩:=hy';have:=hy' _ (o7.of (s5 _ _ (s4 _ _ kO)));rw[e2 r hr']at this;cases this;obtain⟨u,eu,pu⟩:=row (z:=0) eR (u9.trans s5) hr';refine⟨⟨[some _],rfl,rfl⟩,_,rfl,_,rfl,zg ⟨rfl,rfl,o9.of (s5 _ _ (s4 _ _ hyG)),C0 erw,_,rfl,zg ⟨rfl,rfl,o9.of (s5 _ _ hrG),C0 eu,?_⟩⟩⟩;exact⟨s5,e5.snoc pu⟩
     . rintro zs G2 ⟨s5,e5⟩;exact⟨_,o7.of (s5 _ _ (s4 _ _ kO)),by rw[y2];exact ae _⟩
     . rintro zs G2 lz ⟨s5,e5⟩ nlz;have t8:=c7 (o:=.lst zs) nlz;refine⟨lz,zs,rfl,.inl ⟨o7.of c4,λtz ntz=>?_⟩⟩;have t9:=t8.trans (c7 (o:=.tup zs) ntz);exact⟨s4.trans (s5.trans t9),(e4.mono λ_ _ _ x=>j9.same (s5.trans t9).t x).snoc ⟨tz,zs,rfl,c4,e5.mono λ_ _ _ x=>R.same t9.t x⟩⟩
   . rintro ys G1 ⟨s4,e4⟩;exact⟨_,o7.of (s4 _ _ kO),by rw[y2];exact ae _⟩
   . rintro ys G1 lz ⟨s4,e4⟩ nlz;have t8:=c7 (o:=.lst ys) nlz;refine⟨lz,ys,rfl,.inl ⟨o7.of c4,λtz ntz=>?_⟩⟩;have t9:=t8.trans (c7 (o:=.tup ys) ntz);have hT9:D1 R n n (λq r=>tb c (AO i j q) (AO i j r)) (.ref tz) (upd (upd G1 lz (.lst ys)) tz (.tup ys)):=⟨tz,ys,rfl,c4,e4.mono λ_ _ _ x=>j9.same t9.t x⟩;have t10:=s4.trans t9;revert hT9 t10;generalize upd (upd G1 lz (.lst ys)) tz (.tup ys)=G8;intro hT9 t10;have kma8:=t10 _ _ kM;have eu:=eM.1;have et:=eT.1;refine⟨ma,us,V.ref tz,rfl,rfl,kma8,oM,?_⟩;have nx:=B7 (o:=.lst (us++[V.ref tz])) kma8;exact⟨_,us++[V.ref tz],rfl,X5 (sG.trans t10) nma,c4,(eM.mono λ_ _ _ x=>D1.same nx (D1.same t10.t x)).snoc (D1.same nx hT9)⟩
 . rintro σ G ⟨v9,us,rfl,sG,kM,eM⟩;rw[eT.1]at eM;have kO:=sG _ _ k2;refine⟨_,rfl,_,rfl,op,rfl,⟨_,o7.of kO⟩,w5 (n:=n) (λq zs G2=>j0 G G2/\j7 (λq u H=>R.is H u (st (AO i j q))) zs q G2) oM ⟨j0.refl _,j7.nil⟩ (λq ys G1 h=>h.2.1) ?_ ?_ ?_⟩
   . rintro q zs G2 hq ⟨s5,e5⟩;refine⟨za ⟨o7.of (s5 _ _ kO),e2 q hq⟩,λy' H'' hy'=>?_⟩;obtain⟨rfl,hy'⟩:=hy';have:=hy' _ (o7.of (s5 _ _ kO));rw[e2 q hq]at this;cases this;have u9:=s2.trans (sG.trans s5);obtain⟨u,eu,pu⟩:=row (z:=0) eS u9 hq;exact⟨⟨[some _],rfl,rfl⟩,_,rfl,_,rfl,zg ⟨rfl,rfl,o9.of (u9 _ _ hsp),C0 eu,s5,e5.snoc pu⟩⟩
   . rintro ys G1 ⟨s4,e4⟩;exact⟨_,o7.of (s4 _ _ kO),by rw[y2];exact ae _⟩
   . rintro ys G1 lz ⟨s4,e4⟩ nlz;have t8:=c7 (o:=.lst ys) nlz;refine⟨lz,ys,rfl,.inl ⟨o7.of c4,λq1 nq1=>?_⟩⟩;have t9:=t8.trans (c7 (o:=.tup ys) nq1);have hR1:j9 R n (λq=>st (AO i j q)) (.ref q1) (upd (upd G1 lz (.lst ys)) q1 (.tup ys)):=⟨q1,ys,rfl,c4,e4.mono λ_ _ _ x=>R.same t9.t x⟩;have t10:=s4.trans t9;clear t8 t9 s4 e4 nlz nq1;revert hR1 t10;generalize upd (upd G1 lz (.lst ys)) q1 (.tup ys)=G3;intro hR1 t10;refine⟨_,rfl,ma,us,rfl,.inl ⟨o7.of (t10 _ _ kM),λq2 nq2=>?_⟩⟩;refine E8 (o:=.tup us) nq2 λG4 t2 k4=>?_;have u4:=t10.trans t2;have kO4:=u4 _ _ kO;refine⟨_,rfl,op,rfl,⟨_,o7.of kO4⟩,w5 (n:=n) (λq zs G2=>j0 G4 G2/\j7 (λq u H=>R.is H u (en (AO i j q))) zs q G2) oM ⟨j0.refl _,j7.nil⟩ (λq ys G1 h=>h.2.1) ?_ ?_ ?_⟩
     . rintro q zs G2 hq ⟨s5,e5⟩;refine⟨za ⟨o7.of (s5 _ _ kO4),e2 q hq⟩,λy' H'' hy'=>?_⟩;obtain⟨rfl,hy'⟩:=hy';have:=hy' _ (o7.of (s5 _ _ kO4));rw[e2 q hq]at this;cases this;have u9:=s2.trans (sG.trans (u4.trans s5));obtain⟨u,eu,pu⟩:=row (z:=0) eE u9 hq;exact⟨⟨[some _],rfl,rfl⟩,_,rfl,_,rfl,zg ⟨rfl,rfl,o9.of (u9 _ _ hep),C0 eu,s5,e5.snoc pu⟩⟩
     . rintro ys G1 ⟨s4,e4⟩;exact⟨_,o7.of (s4 _ _ kO4),by rw[y2];exact ae _⟩
     . rintro zs G5 lz ⟨s5,e5⟩ nlz;have t8:=c7 (o:=.lst zs) nlz;refine⟨lz,zs,rfl,.inl ⟨o7.of c4,λq3 nq3=>?_⟩⟩;have t9:=t8.trans (c7 (o:=.tup zs) nq3);have hR3:j9 R n (λq=>en (AO i j q)) (.ref q3) (upd (upd G5 lz (.lst zs)) q3 (.tup zs)):=⟨q3,zs,rfl,c4,e5.mono λ_ _ _ x=>R.same t9.t x⟩;have t11:=s5.trans t9;clear t8 t9 s5 e5 nlz nq3;revert hR3 t11;generalize upd (upd G5 lz (.lst zs)) q3 (.tup zs)=G6;intro hR3 t11;refine⟨(by show 4<=sizeLine;decide),λq4 nq4=>?_⟩;have t12:=c7 (o:=.tup [vT l,V.ref q1,V.ref q2,V.ref q3]) nq4;have tA:=t11.trans t12;exact k _ _ (s2.trans (sG.trans (u4.trans tA))) ⟨q4,_,_,_,rfl,c4,j9.same (t2.trans tA).t hR1,⟨q2,us,rfl,tA _ _ k4,eM.mono λ_ _ _ x=>D1.same (u4.trans tA).t x⟩,j9.same t12.t hR3⟩
def mix{S:SR}(F:Ab S){n i j:Nat}{b:S.W}(hi:i < n)(hj:j < n)(ne:i≠j)(x f:Nat->S.W):sm S (λr=>S.mul (T3 i j b x r) (if r=i then S.add (f i) (S.mul (F.neg b) (f j))else f r)) n=sm S (λr=>S.mul (x r) (f r)) n:=by
 have e:∀r,r < n->S.mul (T3 i j b x r) (if r=i then S.add (f i) (S.mul (F.neg b) (f j))else f r)=S.add (S.add (S.mul (x r) (f r)) (if r=i then S.mul (x i) (S.mul (F.neg b) (f j))else S.zero)) (if r=j then S.mul (S.mul b (x i)) (f j)else S.zero):=λr _=>by
  unfold T3;by_cases h1:r=i
  . subst h1;rw[if_neg ne,if_pos rfl,if_pos rfl,if_neg ne,S.add_zero,S.distrib]
  . by_cases h2:r=j
    . subst h2;rw[if_pos rfl,if_neg h1,if_neg h1,if_pos rfl,S.add_zero,Tf]
    . rw[if_neg h2,if_neg h1,if_neg h1,if_neg h2,S.add_zero,S.add_zero]
 rw[u7 e,Y9,Y9,Ar hi λk _ hk=>if_neg hk,Ar hj λk _ hk=>if_neg hk,if_pos rfl,if_pos rfl,S.add_assoc];have z:S.add (S.mul (x i) (S.mul (F.neg b) (f j))) (S.mul (S.mul b (x i)) (f j))=S.zero:=by
  rw[MG,Te,S.mul_comm b (x i),S.mul_assoc,S.add_comm,F.add_neg]
 rw[z,S.add_zero]
def SF{S:SR}(F:Ab S){n i j:Nat}{b:S.W}(hi:i < n)(hj:j < n)(ne:i≠j)(A:Nat->Nat->S.W)(x:Nat->S.W):JS S n (Li i j b (F.neg b) A) (T3 i j b x)=T3 i j b (JS S n A x):=by
 funext k;have e:∀r,Li i j b (F.neg b) A r k=if r=i then S.add (T3 i j b (A i) k) (S.mul (F.neg b) (T3 i j b (A j) k))else T3 i j b (A r) k:=λr=>by
  unfold Li;split <;>rfl
 show sm S (λr=>S.mul _ (Li i j b (F.neg b) A r k)) n=_;rw[u7 (g:=λr=>S.mul (T3 i j b x r) (if r=i then S.add (T3 i j b (A i) k) (S.mul (F.neg b) (T3 i j b (A j) k))else T3 i j b (A r) k)) λr _=>by rw[e],mix F hi hj ne x λr=>T3 i j b (A r) k];unfold T3;by_cases h:k=j
 . subst h;rw[if_pos rfl];show _=S.add (sm S (λr=>S.mul (x r) (A r k)) n) (S.mul b (sm S (λr=>S.mul (x r) (A r i)) n));rw[Fn,<- Y9];exact u7 λr _=>by rw[if_pos rfl,S.distrib,<- S.mul_assoc,S.mul_comm (x r) b,S.mul_assoc]
 . rw[if_neg h];exact u7 λr _=>by rw[if_neg h]
section
variable{S:SR}{F:Ab S}{l:List Nat}{n i j:Nat}{b:S.W}{st:Nat->S.W}{tb:Nat->Nat->Nat->S.W}{en:Nat->S.W}
def Qu(hi:i < n)(hj:j < n)(ne:i≠j)(u:List Nat)(hu:AL l u):Q2 S l n (T3 i j b st) (λa=>Li i j b (F.neg b) (tb a)) (T3 j i (F.neg b) en) u=Q2 S l n st tb en u:=by
 have key:∀u,AL l u->y6 S n (T3 i j b st) (E7 l λa=>Li i j b (F.neg b) (tb a)) u=T3 i j b (y6 S n st (E7 l tb) u):=by
  refine(NU (l:=l)).ind _ rfl λc u hc hu ih=>?_;rw[E1,E1,ih];exact SF F hi hj ne _ _
 unfold Q2;rw[key u hu];exact mix F hi hj ne _ en
def Pt(hi:i < n)(hj:j < n)(ne:i≠j)(f:Nat->S.W):sm S (λr=>f (AO i j r)) n=sm S f n:=by
 have z0:∀x:S.W,S.add S.zero x=x:=λx=>by rw[S.add_comm,S.add_zero]
 have e1:∀r,r < n->f r=S.add (S.add (if r=i\/r=j then S.zero else f r) (if r=i then f i else S.zero)) (if r=j then f j else S.zero):=λr _=>by
  by_cases h1:r=i
  . subst h1;rw[if_pos (.inl rfl),if_pos rfl,if_neg ne,S.add_zero,z0]
  . by_cases h2:r=j
    . subst h2;rw[if_pos (.inr rfl),if_neg h1,if_pos rfl,S.add_zero,z0]
    . rw[if_neg oM,if_neg h1,if_neg h2,S.add_zero,S.add_zero]
 have e2:∀r,r < n->f (AO i j r)=S.add (S.add (if r=i\/r=j then S.zero else f r) (if r=i then f j else S.zero)) (if r=j then f i else S.zero):=λr _=>by
  unfold AO;by_cases h1:r=i
  . subst h1;rw[if_neg ne,if_pos rfl,if_pos (.inl rfl),if_pos rfl,if_neg ne,S.add_zero,z0]
  . by_cases h2:r=j
    . subst h2;rw[if_pos rfl,if_pos (.inr rfl),if_neg h1,if_pos rfl,S.add_zero,z0]
    . rw[if_neg h2,if_neg h1,if_neg oM,if_neg h1,if_neg h2,S.add_zero,S.add_zero]
 rw[u7 e1,u7 e2,Y9,Y9,Y9,Y9,Ar hi λk _ hk=>if_neg hk,Ar hj λk _ hk=>if_neg hk,Ar hi λk _ hk=>if_neg hk,Ar hj λk _ hk=>if_neg hk,if_pos rfl,if_pos rfl,if_pos rfl,if_pos rfl,S.add_assoc,S.add_comm (f j),<- S.add_assoc]
def Ly(hi:i < n)(hj:j < n)(ne:i≠j)(u:List Nat)(hu:AL l u):Q2 S l n (λq=>st (AO i j q)) (λa q r=>tb a (AO i j q) (AO i j r)) (λq=>en (AO i j q)) u=Q2 S l n st tb en u:=by
 have key:∀u,AL l u->y6 S n (λq=>st (AO i j q)) (E7 l λa q r=>tb a (AO i j q) (AO i j r)) u=λq=>y6 S n st (E7 l tb) u (AO i j q):=by
  refine(NU (l:=l)).ind _ rfl λc u hc hu ih=>?_;rw[E1,E1,ih];funext k;exact Pt hi hj ne λr=>S.mul (y6 S n st (E7 l tb) u r) (E7 l tb c r (AO i j k))
 unfold Q2;rw[key u hu];exact Pt hi hj ne λr=>S.mul (y6 S n st (E7 l tb) u r) (en r)
end
section
variable{R:c9 Pr w K mg base}{M n k i j:Nat}{b:R.S.W}{st:Nat->R.S.W}{tb:Nat->Nat->Nat->R.S.W}{en:Nat->R.S.W}
def Kj{x:Nat->R.S.W}(hi:i < n)(hj:j < n)(hb:R.B.cb 1 2 b)(h:∀k,k < n->R.B.cb 12 M (x k)):∀k,k < n->R.B.cb 12 (3 * M) (T3 i j b x k):=λk hk=>by
 unfold T3;have e:3 * M=M+2 * M:=by omega
 rw[e];split
 . exact R.B.add _ _ _ _ _ (h j hj) (R.B.mul _ _ _ _ _ _ hb (h i hi))
 . exact R.B.mono _ _ _ _ oM (h k hk)
def MC.moved(hi:i < n)(hj:j < n)(hb:R.B.cb 1 2 b)(h:MC R 12 M n k st tb en):MC R 12 (9 * M) n k (T3 i j b st) (λa=>Li i j b (R.F.neg b) (tb a)) (T3 j i (R.F.neg b) en):=by
 have hc:R.B.cb 1 2 (R.F.neg b):=R.B.neg _ _ _ _ (R.F.add_neg _) hb;refine⟨λq hq=>R.B.mono _ _ _ _ oM (Kj hi hj hb h.st q hq),λa ha r hr q hq=>?_,λq hq=>R.B.mono _ _ _ _ oM (Kj hj hi hc h.en q hq)⟩;have e:9 * M=3 * M+2 * (3 * M):=by omega
 show R.B.cb 12 (9 * M) (Li i j b (R.F.neg b) (tb a) r q);unfold Li;rw[e];split
 . exact R.B.add _ _ _ _ _ (Kj hi hj hb (h.tb a ha i hi) q hq) (R.B.mul _ _ _ _ _ _ hc (Kj hi hj hb (h.tb a ha j hj) q hq))
 . exact R.B.mono _ _ _ _ oM (Kj hi hj hb (h.tb a ha r hr) q hq)
def MC.swapped(hi:i < n)(hj:j < n)(h:MC R 12 M n k st tb en):MC R 12 M n k (λq=>st (AO i j q)) (λa q r=>tb a (AO i j q) (AO i j r)) (λq=>en (AO i j q)):=
 ⟨λq hq=>h.st _ (DK hi hj hq),λa ha r hr q hq=>h.tb a ha _ (DK hi hj hr) _ (DK hi hj hq),λq hq=>h.en _ (DK hi hj hq)⟩
def MC.more{st':Nat->R.S.W}{tb':Nat->Nat->Nat->R.S.W}{en':Nat->R.S.W}(h:MC R 12 48 n k st tb en)(e:(∀i,i < n->st' i=st i)/\(∀c,c < k->∀i,i < n->∀j,j < n->tb' c i j=tb c i j)/\∀i,i < n->en' i=en i)
    (g:R.B.cb 12 48 (st' n)/\(∀c,c < k->∀i,i<=n->R.B.cb 12 48 (tb' c n i)/\R.B.cb 12 48 (tb' c i n))/\R.B.cb 12 48 (en' n)):MC R 12 48 (n+1) k st' tb' en':=by
 refine⟨λq hq=>?_,λa ha r hr q hq=>?_,λq hq=>?_⟩
 . by_cases z:q < n
   . rw[e.1 q z];exact h.st q z
   . rw[show q=n by omega];exact g.1
 . by_cases z:r < n
   . by_cases y:q < n
     . rw[e.2.1 a ha r z q y];exact h.tb a ha r z q y
     . rw[show q=n by omega];exact(g.2.1 a ha r oM).2
   . rw[show r=n by omega];exact(g.2.1 a ha q oM).1
 . by_cases z:q < n
   . rw[e.2.2 q z];exact h.en q z
   . rw[show q=n by omega];exact g.2.2
def MC.szm(h:MC R 12 M n k st tb en)(hM:M<=2 ^ 20):SzM R n k 20 st tb en:=
 have z:∀{x:R.S.W},R.B.cb 12 M x->R.S.sz 20 x:=λ{x} g=>R.B.sz _ _ _ _ (by decide) hM g
 ⟨λi hi=>z (h.st i hi),λa ha i hi j hj=>z (h.tb a ha i hi j hj),λi hi=>z (h.en i hi)⟩
end
structure Rh(R:c9 Pr w K mg base)(l:List Nat)(n n' M:Nat)(st:Nat->R.S.W)(tb:Nat->Nat->Nat->R.S.W)(en:Nat->R.S.W)(st':Nat->R.S.W)(tb':Nat->Nat->Nat->R.S.W)(en':Nat->R.S.W):Prop where
 mc:MC R 12 M n' l.length st' tb' en'
 wt:∀u,AL l u->Q2 R.S l n' st' tb' en' u=Q2 R.S l n st tb en u
def Jz(T:Txt K mg t):Sp:=λvs H Q _=>∃(R:c9 Pr w K mg base),∃nm p,∃(a:Addr),∃so mv l,∃(n z:Nat),∃st tb en,So T R nm p/\vs=[.ref a,so,mv,.int (z:Nat)]/\(Dr H a/\M3 H so nm p/\Aa l/\n+z<=40/\x6 R l n st tb en mv H/\MC R 12 48 n l.length st tb en)/\
 ∀v H' n' st' tb' en',l9 a H H'->Dr H' a->n<=n'->n'<=n+z->x6 R l n' st' tb' en' v H'->Rh R l n n' 400000 st tb en st' tb' en'->Q v H'
def Bu(T:Txt K mg t):x8 Pr w K mg base F9 44 t.i0v t.h0d VC (Jz (w:=w) (base:=base) T):=by
 refine T.h0h.F.ok C8 (by rintro _ _ _ _ ⟨_,_,_,_,_,_,_,_,_,_,_,_,_,rfl,_⟩;rfl) λcdv A outer s H vs Q E hr h=>?_;obtain⟨R,nm,p,a,so,mv,l,n,z,st,tb,en,hS,rfl,⟨hD,hso,L,hn,hM,hC⟩,k⟩:=h;refine⟨_,(a8 (D7 aB rfl (C6 rfl T.z_range (B4 (E6 (y7 T) hr.m T.k0b (F6 (pv 0) (o6 L5 (pv 3) c5))))) (gN 4 C8.nd) (c6 (sT 2 C8.nd (E6 (Kc T) hr.m T.k0f (Ew (pv 0) (pv 1) (pv 2) (Dj M5 (E6 (y7 T) hr.m T.k0b (F6 (pv 0) c5)) c5 (w6 _))))))) (a8 (sT 5 C8.nd (l5 w8 (by rfl) T.z_len PySem.boot_len (B4 (j5 i0 (pv 2) c5 (λ_ _=>rfl))))) (a8 (D7 aB rfl (C6 rfl T.z_range (B4 (E6 (y7 T) hr.m T.k0b (F6 (pv 0) c5)))) (gN 4 C8.nd) (c6 (B0 (o8 Cg (pv 5) c5 (w6 _)) (a8 (sT 6 C8.nd (E6 (y7 T) hr.m T.k0b (F6 (pv 0) (pv 5)))) (a8 (sT 7 C8.nd (o6 F2 (o6 L5 (o6 L5 (pv 6) c5) (E6 (y7 T) hr.m T.k0b (F6 (pv 0) (o6 Ec (pv 5) c5)))) (pv 5))) (c6 (B0 (o8 M5 (E6 (y7 T) hr.m T.k0b (F6 (pv 0) c5)) c5 (w6 _)) (c6 (sT 2 C8.nd (E6 (FC T) hr.m T.h0i (X1 (pv 2) (pv 6) (pv 7))))) (c6 (sT 2 C8.nd (E6 (Iu T) hr.m T.i0d (D8 (pv 1) (Ew (pv 2) (pv 6) (pv 7) (E6 (Am T) hr.m T.m0l (F6 (pv 1) (o6 Ec (E6 (y7 T) hr.m T.k0b (F6 (pv 0) c5)) c5)))))))))))) o5))) (c6 (c8 (pv 2)))))),?_⟩;refine⟨_,rfl,_,rfl,za ⟨rfl,rfl,a,_,rfl,⟨hD,oM,oM⟩,λr1 H1 s1 d1 a1 b1=>?_⟩⟩;have hM1:=x6.same (s1.tt hD) hM;refine⟨_,rfl,oM,oM,An (lo:=0) (n:=r1.toNat) (λc σ G=>∃v4 mv' n' st' tb' en',σ=[some (.ref a),some so,some mv',some (.int (z:Nat)),v4,none,none,none]/\l9 a H G/\Dr G a/\n'=n+c/\x6 R l n' st' tb' en' mv' G/\Rh R l n n' 48 st tb en st' tb' en') ⟨_,mv,n,st,tb,en,rfl,s1,d1,rfl,hM1,hC,λ_ _=>rfl⟩ ?_ ?_⟩
 . rintro c σ G hc ⟨v4,mv',n',st',tb',en',rfl,sG,dG,rfl,hM',hO⟩;refine⟨_,rfl,_,rfl,_,rfl,_,rfl,a,2,rfl,⟨dG,by decide,by decide⟩,λr2 G2 s2 d2 a2 b2=>?_⟩;refine⟨rfl,R,zG nm p a so mv' l (n+c) _ st' tb' en' ⟨hS,rfl,⟨d2,hso.same ((sG.trans s2).tt hD),L,oM,x6.same (s2.tt dG) hM'⟩,λv G3 st3 tb3 en3 s3 d3 hM3 e1 e2 e3=>?_⟩⟩;exact⟨_,v,n+c+1,st3,tb3,en3,rfl,(sG.trans s2).trans s3,d3,rfl,hM3,hO.mc.more e1 e2,λu hu=>(Rq e1 e3 u hu).trans (hO.wt u hu)⟩
 . rintro σ G ⟨v4,mv',n',st',tb',en',rfl,sG,dG,rfl,hM',hO⟩;obtain⟨m,em⟩:∃m,n+r1.toNat=m:=⟨_,rfl⟩;rw[em]at hM' hO;obtain⟨mp,sv,tv,ev,rfl,hm,h1,h2,h3⟩:=id hM';refine⟨_,rfl,zg ⟨rfl,rfl,o9.of hm,rfl,za ⟨rfl,h1.len,?_⟩⟩⟩;refine⟨_,rfl,a,5,rfl,⟨dG,by decide,by decide⟩,λr2 G2 s2 d2 a2 b2=>?_⟩;refine⟨_,rfl,oM,oM,An (lo:=0) (n:=r2.toNat) (λc σ G=>∃v4 mv' v6 v7 st' tb' en',σ=[some (.ref a),some so,some mv',some (.int (z:Nat)),v4,some (.int (m:Nat)),v6,v7]/\l9 a H G/\Dr G a/\x6 R l m st' tb' en' mv' G/\Rh R l n m (48 * 9 ^ c) st tb en st' tb' en') ⟨_,.ref mp,_,_,st',tb',en',rfl,sG.trans s2,d2,x6.same (s2.tt dG) hM',hO⟩ ?_ ?_⟩
   . clear sG dG hM' hO hm h1 h2 h3 s2 d2 hM1 s1 d1;rintro c σ G hc ⟨v4,mv',v6,v7,st',tb',en',rfl,sG,dG,hM',hO⟩;have hp:(9:Nat) ^ c<=9 ^ 3:=dc (by decide) oM;have e9:(9:Nat) ^ 3=729:=by decide
     have e2:(2:Nat) ^ 20=1048576:=by decide
     have es:(9:Nat) ^ (c+1)=9 * 9 ^ c:=by rw[cK,bT]
     refine⟨_,rfl,za ⟨rfl,rfl,_,rfl,?_⟩⟩;refine Cd (λgt=>?_) (λgt=>?_)
     . refine⟨_,rfl,_,rfl,a,_,rfl,⟨dG,oM,oM⟩,λri G1 s1 d1 ai bi=>?_⟩;obtain⟨i,rfl⟩:∃i:Nat,ri=(i:Int):=⟨ri.toNat,oM⟩;have hi:i < m:=by omega
       refine⟨_,rfl,za ⟨rfl,rfl,_,rfl,_,rfl,za ⟨rfl,rfl,a,_,rfl,⟨d1,oM,oM⟩,λrj G2 s2 d2 aj bj=>?_⟩⟩⟩;refine za ⟨rfl,rfl,_,rfl,za ⟨rfl,rfl,oM,?_⟩⟩;obtain⟨j,ej,hj,hij⟩:∃j:Nat,((i:Int)+1+rj).fmod (m:Int)=(j:Int)/\j < m/\i≠j:=by
        have m0:=bH ((i:Int)+1+rj) (show(0:Int) < m by omega);have m1:=bI ((i:Int)+1+rj) (show(0:Int) < m by omega);refine⟨(((i:Int)+1+rj).fmod (m:Int)).toNat,oM,oM,λe=>?_⟩;have e':((i:Int)+1+rj).fmod (m:Int)=(i:Int):=by omega
        rw[dF _ oM]at e';by_cases z:(i:Int)+1+rj < m
        . rw[cZ oM z]at e';omega
        . have:((i:Int)+1+rj) % (m:Int)=((i:Int)+1+rj - m) % (m:Int):=by rw[Int.sub_emod_right]
          rw[this,cZ oM oM]at e';omega
       show E9 7 (.int (((i:Int)+1+rj).fmod (m:Int))) [some (.ref a),some so,some mv',some (.int (z:Nat)),some (.int _),some (.int (m:Nat)),some (.int (i:Nat)),v7] G2 _;rw[ej];have DW:=s1.trans s2;refine⟨_,rfl,a,3,rfl,⟨d2,by decide,by decide⟩,λr3 G3 s3 d3 a3 b3=>⟨rfl,_,rfl,?_⟩⟩;have EI:=DW.trans s3;have hM3:=x6.same (EI.tt dG) hM';refine Dx (λ_=>?_) (λ_=>?_)
       . refine⟨_,rfl,_,rfl,_,rfl,R,zB mv' l m i j st' tb' en' ⟨rfl,⟨hM3,L,hi,hj,hij,oM⟩,λv G4 s4 hM4=>?_⟩⟩;exact⟨_,v,zh ⟨rfl,(sG.trans EI).trans (.of s4),d3.same s4,hM4,(hO.mc.swapped hi hj).mono oM,λu hu=>(Ly hi hj hij u hu).trans (hO.wt u hu)⟩⟩
       . refine⟨_,rfl,_,rfl,_,rfl,_,rfl,_,rfl,_,rfl,a,5,rfl,⟨d3,by decide,by decide⟩,λr4 G4 s4 d4 a4 b4=>?_⟩;have RR:=EI.trans s4;have u4:=(sG.trans RR).tt hD;refine za ⟨rfl,rfl,R,zt nm p so (r4 - 2) ⟨hS,rfl,⟨hso.same u4,oM,oM⟩,λbv G5 b s5 fb _ _ zb cb=>?_⟩⟩;have hM5:=x6.same ((s4.tt d3).trans s5.t) hM3;refine⟨R,nm,p,so,mv',bv,l,m,i,j,20,st',tb',en',b,hS,rfl,⟨hso.same (u4.trans s5.t),hM5,L,fb,R.S.sz_mono _ _ _ (by decide) zb,hi,hj,oM,hO.mc.szm oM,.inl (by decide)⟩,λv G6 s6 hM6=>?_⟩;exact⟨_,v,zh ⟨rfl,(sG.trans RR).trans (.of (s5.trans s6)),d4.same (s5.trans s6),hM6,(hO.mc.moved hi hj cb).mono oM,λu hu=>(Qu hi hj hij u hu).trans (hO.wt u hu)⟩⟩
     . exact zi ⟨rfl,sG,dG,hM',hO.mc.mono oM,hO.wt⟩
   . clear sG dG hM' hO hm h1 h2 h3;rintro σ G ⟨v4,mv',v6,v7,st',tb',en',rfl,sG,dG,hM',hO⟩;have hp:(9:Nat) ^ r2.toNat<=9 ^ 4:=dc (by decide) oM;have e9:(9:Nat) ^ 4=6561:=by decide
     exact⟨_,rfl,k _ _ m st' tb' en' sG dG oM oM hM' ⟨hO.mc.mono oM,hO.wt⟩⟩
def d0s{l:List Nat}{H:Hp}(h:l.length<=10000):X2 K (vT l) H l.length:=by
 have z:10000 < sizeLine:=by decide
 exact⟨by rw[Y8];omega,(Y8 l).symm⟩
abbrev e0n(R:c9 Pr w K mg base)(n:Nat)(x:Nat->R.S.W):V->Hp->Prop:=EE K (λj u H=>R.is H u (x j)) n
def RE(T:Txt K mg t):Sp:=λvs H Q _=>∃(R:c9 Pr w K mg base),∃nm p so rv cv n x y r,So T R nm p/\vs=[so,rv,cv]/\(M3 H so nm p/\e0n R n x rv H/\e0n R n y cv H/\Lg R.S r n x y/\AM R.S (3 * r))/\
 ∀v H',j0 H H'->R.is H' v (J7 R.S x y n)->Q v H'
def CA(T:Txt K mg t):x8 Pr w K mg base F9 40 t.m0u t.l0h Vv (RE (w:=w) (base:=base) T):=by
 refine T.l0p.F.ok V3 (by rintro _ _ _ _ ⟨_,_,_,_,_,_,_,_,_,_,_,rfl,_⟩;rfl) λcdv A outer s H vs Q E hr h=>?_;obtain⟨R,nm,p,so,rv,cv,n,x,y,r,hS,rfl,⟨hso,⟨S1,xs,o1,v1,w1,e1⟩,⟨S2,ys,o2,v2,w2,e2⟩,⟨z1,z2⟩,hz⟩,k⟩:=h;refine⟨_,(a8 (sT 3 V3.nd (E6 (Am T) hr.m T.m0l (F6 (pv 0) c5))) (a8 (D7 aB rfl (Z9 rfl T.z_zip (F6 (pv 1) (pv 2))) (F1 rfl (j6 (gN 4 V3.nd) (j6 (gN 5 V3.nd) C7))) (c6 (sT 3 V3.nd (E6 (O6 T) hr.m T.k0d (X1 (pv 0) (pv 3) (E6 (M4 T) hr.m T.i0s (X1 (pv 0) (pv 4) (pv 5)))))))) (c6 (c8 (pv 3))))),?_⟩;refine⟨_,rfl,R,zt nm p so 0 ⟨hS,rfl,⟨hso,by decide,by decide⟩,λz H1 x0 s1 f1 ez _ _ _=>?_⟩⟩;cases ez rfl;refine⟨_,rfl,_,rfl,S1,S2,za ⟨xs,ys,rfl,o1,o2,(w1 _ s1).1,(w2 _ s1).1,Fc (K:=K) (xs:=xs) (ys:=ys) (λi σ H2=>∃tot v4 v5,σ=[some so,some rv,some cv,some tot,v4,v5]/\j0 H H2/\R.is H2 tot (J7 R.S x y i)) (by rw[e1.1,e2.1]) ⟨_,_,_,rfl,s1,f1⟩ (λi σ H2 _ ⟨_,_,_,_,q,_⟩=>⟨(w1 _ q).1,(w2 _ q).1⟩) ?_ ?_⟩⟩
 . rintro i u v pp σ H2 hu hv np ⟨tot,v4,v5,rfl,q,f⟩;obtain⟨hi,pu⟩:=e1.at hu;obtain⟨_,pv⟩:=e2.at hv;have sp:=c7 (o:=.tup [u,v]) np;have q2:=q.trans sp;refine⟨pp,_,rfl,o9.of c4,rfl,za ⟨rfl,za ⟨rfl,rfl,?_⟩⟩⟩;refine⟨_,rfl,_,rfl,_,rfl,_,rfl,_,rfl,R,zD nm p so _ _ _ _ r r ⟨hS,rfl,⟨hso.same q2.t,R.same q2.t pu,R.same q2.t pv,(z1 i hi).1,(z1 i hi).2,hz.le oM⟩,λpr H3 s3 f3=>?_⟩⟩;have q3:=q2.trans s3;refine⟨R,zD nm p so _ _ _ _ r (r+r) ⟨hS,rfl,⟨hso.same q3.t,R.same (sp.trans s3).t f,f3,z2 i oM,R.S.sz_mul _ _ _ _ (z1 i hi).1 (z1 i hi).2,hz.le oM⟩,λtt H4 s4 f4=>?_⟩⟩;exact zf ⟨rfl,q3.trans s4,f4⟩
 . rintro σ H2 ⟨tot,v4,v5,rfl,q,f⟩;rw[e1.1]at f;exact⟨_,rfl,k _ _ q f⟩
def Ph(T:Txt K mg t):Sp:=λvs H Q _=>∃(R:c9 Pr w K mg base),∃nm p so rv tv n x A r,So T R nm p/\vs=[so,rv,tv]/\(M3 H so nm p/\j9 R n x rv H/\D1 R n n A tv H/\n<=60/\(∀j,j < n->Lg R.S r n x (λi=>A i j))/\AM R.S (3 * r))/\
 ∀v H',j0 H H'->j9 R n (JS R.S n A x) v H'->Q v H'
def Ex(T:Txt K mg t):x8 Pr w K mg base F9 42 t.l0v t.j0y Qr (Ph (w:=w) (base:=base) T):=by
 refine T.k0k.F.ok JD (by rintro _ _ _ _ ⟨_,_,_,_,_,_,_,_,_,_,_,rfl,_⟩;rfl) λcdv A outer s H vs Q E hr h=>?_;obtain⟨R,nm,p,so,rv,tv,n,x,X,r,hS,rfl,⟨hso,hR,⟨ap,lines,rfl,hap,eA⟩,hn,hd,hz⟩,k⟩:=h;refine⟨_,(c6 (c8 (j8 g9 (by rfl) T.z_tuple boot_tuple (B4 (z5 (xs:=["_law_k"]) rfl (show w9 Qr (b9 V5) _ from⟨rfl,dK,dK,dK,dK,dK⟩) (C6 rfl T.z_range (B4 (l5 w8 (by rfl) T.z_len PySem.boot_len (B4 (pv 1))))) (λ_ _ _ _ _=>(l4 (i:=3) (by show List.Nodup (["_law_sort_here","_law_row","_law_table","_law_k"]:List Str);decide +kernel) rfl (Or.inr rfl))) (λ_ _ _ _ _=>(C3 (CA (w:=w) (base:=base) T) hr.m rfl T.l0p.m T.l0p.F.kp T.l0p.b .nil C4 (X1 (pv 0) (pv 1) (z5 (xs:=["_law_line_here"]) rfl (show w9 ["_law_sort_here","_law_row","_law_table","_law_k"] (rlS (b9 V5) _) _ from⟨rfl,dK,dK,dK,dK,dK⟩) (show PI _ _ _ (VV K _)from L9 (pv 2)) (λ_ _ _ _ _=>(l4 (i:=4) (by show List.Nodup (["_law_sort_here","_law_row","_law_table","_law_k","_law_line_here"]:List Str);decide +kernel) rfl (Or.inl rfl))) (λ_ _ _ _ _=>(j5 (show Le _ (GL K)from i0) (pv 4) (pv 3) (λ_ _=>rfl)))))))))))),?_⟩;refine⟨_,rfl,za ⟨rfl,hR.len,_,rfl,oM,oM,w5 (n:=n) (λj ys G2=>j0 H G2/\j7 (λj u' H=>R.is H u' (JS R.S n X x j)) ys j G2) oM ⟨j0.refl _,j7.nil⟩ (λj ys H2 q=>q.2.1) ?_ ?_ ?_⟩⟩
 . rintro j ys G2 hj ⟨q2,e⟩;refine He (by omega) ?_;refine⟨⟨[some _],rfl,rfl⟩,_,rfl,_,rfl,_,rfl,ap,rfl,⟨_,o9.of (q2 _ _ hap)⟩,w5 (n:=n) (λi' ys' G3=>j7 (λi' u' H=>R.is H u' (X i' j)) ys' i' G2/\G3=G2) oM ⟨j7.nil,rfl⟩ (λj ys H2 q=>q.1.1) ?_ ?_ ?_⟩
   . rintro i' ys' G3 hi' ⟨e',rfl⟩;obtain⟨lu,elu,plu⟩:=eA.2 i' hi';refine FT (o9.of (q2 _ _ hap)) elu ?_;obtain⟨lp,lvs,lx,rfl,h4,h5,h6⟩:=j9.at (j9.same q2.t plu) hj;rw[show(j:Int)=0+(j:Int) by omega]at h5;exact⟨⟨[some _],rfl,rfl⟩,_,rfl,_,rfl,zg ⟨rfl,rfl,h4,h5,e'.snoc h6,rfl⟩⟩
   . rintro ys' G3 ⟨e',rfl⟩;exact⟨_,o9.of (q2 _ _ hap),by rw[eA.1];exact ae _⟩
   . rintro ys' G3 z ⟨e',rfl⟩ nz;refine E8 (o:=.lst ys') nz λG4 t1 k1=>?_;have q4:=q2.trans t1;refine⟨R,zD nm p so rv (.ref z) n x (λi'=>X i' j) r ⟨hS,rfl,⟨hso.same q4.t,(j9.same q4.t hR).seq,EE.list k1 (e'.mono λ_ _ _ x=>R.same t1.t x),hd j hj,hz⟩,λv H3 s3 f3=>?_⟩⟩;exact⟨q4.trans s3,(e.mono λ_ _ _ x=>R.same (t1.trans s3).t x).snoc f3⟩
 . rintro ys G2 ⟨q2,e⟩;show(n:Int).toNat<=n;omega
 . rintro ys G2 z ⟨q2,e⟩ nz;have t1:=c7 (o:=.lst ys) nz;refine⟨z,ys,rfl,.inl ⟨o7.of c4,λz2 n2=>?_⟩⟩;have t2:=t1.trans (c7 (o:=.tup ys) n2);exact k _ _ (q2.trans t2) ⟨z2,ys,rfl,c4,e.mono λ_ _ _ x=>R.same t2.t x⟩
theorem Bc{S:SR}(f:Nat->S.W)(n:Nat):∀m,sm S f (n+m)=S.add (sm S f n) (sm S (λi=>f (n+i)) m)
 | 0=>(S.add_zero _).symm
 | m+1=>by
  show S.add (sm S f (n+m)) (f (n+m))=_;rw[Bc f n m,S.add_assoc];rfl
theorem LK{S:SR}{F:Ab S}(f:Nat->S.W):∀m,sm S (λi=>F.neg (f i)) m=F.neg (sm S f m)
 | 0=>(Wb (F:=F)).symm
 | m+1=>by
  show S.add (sm S (λi=>F.neg (f i)) m) (F.neg (f m))=F.neg (S.add (sm S f m) (f m));rw[LK f m,Td]
section
variable{S:SR}{F:Ab S}{l:List Nat}{n n':Nat}{st st':Nat->S.W}{tb tb':Nat->Nat->Nat->S.W}{en en':Nat->S.W}
def NN:∀u,AL l u->∀j,j < n+n'->y6 S (n+n') (CT n st st') (E7 l (CS n tb tb')) u j=T7 S n (y6 S n st (E7 l tb) u) (y6 S n' st' (E7 l tb') u) j:=by
 refine(NU (l:=l)).ind _ (λj _=>rfl) λc u hc hu ih j hj=>?_;rw[E1,E1,E1];show sm S (λi=>S.mul (y6 S (n+n') (CT n st st') (E7 l (CS n tb tb')) u i) (Fg S n (tb (l.idxOf c)) (tb' (l.idxOf c)) i j)) (n+n')=_;rw[Bc];have b1:∀i,i < n->Fg S n (tb (l.idxOf c)) (tb' (l.idxOf c)) i=T7 S n (tb (l.idxOf c) i) λ_=>S.zero:=λi hi=>if_pos hi;have b2:∀i,Fg S n (tb (l.idxOf c)) (tb' (l.idxOf c)) (n+i)=T7 S n (λ_=>S.zero) (tb' (l.idxOf c) i):=λi=>by
  unfold Fg;rw[if_neg oM,dy]
 by_cases z:j < n
 . rw[Q0 z,u7 (f:=λi=>S.mul (y6 S (n+n') (CT n st st') (E7 l (CS n tb tb')) u (n+i)) (Fg S n (tb (l.idxOf c)) (tb' (l.idxOf c)) (n+i) j)) (g:=λ_=>S.zero) λi hi=>by rw[b2,Q0 z,S.mul_zero],O0,S.add_zero];exact u7 λi hi=>by rw[ih i oM,Q0 hi,b1 i hi,Q0 z];rfl
 . obtain⟨q,rfl⟩:∃q,j=n+q:=⟨j - n,oM⟩;rw[Q1,u7 (f:=λi=>S.mul (y6 S (n+n') (CT n st st') (E7 l (CS n tb tb')) u i) (Fg S n (tb (l.idxOf c)) (tb' (l.idxOf c)) i (n+q))) (g:=λ_=>S.zero) λi hi=>by rw[b1 i hi,Q1,S.mul_zero],O0,MF];exact u7 λi hi=>by rw[ih (n+i) oM,Q1,b2,Q1];rfl
def Tj(u:List Nat)(hu:AL l u):Q2 S l (n+n') (CT n st st') (CS n tb tb') (ED F n en en') u=S.add (Q2 S l n st tb en u) (F.neg (Q2 S l n' st' tb' en' u)):=by
 show sm S _ (n+n')=_;rw[Bc];congr 1
 . exact u7 λi hi=>by rw[NN u hu i oM,Q0 hi,show ED F n en en' i=en i from Q0 hi]
 . rw[u7 (g:=λi=>F.neg (S.mul (y6 S n' st' (E7 l tb') u i) (en' i))) λi hi=>by rw[NN u hu (n+i) oM,Q1,show ED F n en en' (n+i)=F.neg (en' i)from Q1,Te],LK];rfl
def QZ(u:List Nat)(hu:AL l u):Q2 S l (n+n') (CT n st st') (CS n tb tb') (ED F n en en') u=S.zero↔Q2 S l n st tb en u=Q2 S l n' st' tb' en' u:=by
 rw[Tj u hu];exact⟨λh=>e0c (F:=F) h,λh=>by rw[h,F.add_neg]⟩
end
def MC.both{R:c9 Pr w K mg base}{b m n n' k:Nat}{st:Nat->R.S.W}{tb:Nat->Nat->Nat->R.S.W}{en:Nat->R.S.W}{st':Nat->R.S.W}{tb':Nat->Nat->Nat->R.S.W}{en':Nat->R.S.W}(b0:0 < b)(h:MC R b m n k st tb en)(h':MC R b m n' k st' tb' en'):MC R b m (n+n') k (CT n st st') (CS n tb tb') (ED R.F n en en'):=by
 have z0:R.B.cb b m R.S.zero:=R.B.mono _ _ _ _ (aR _) (R.B.zero b b0);refine⟨λi hi=>?_,λa ha i hi j hj=>?_,λi hi=>?_⟩
 . show R.B.cb b m (T7 R.S n st st' i);unfold T7;split
   . exact h.st i (by assumption)
   . exact h'.st _ oM
 . show R.B.cb b m (Fg R.S n (tb a) (tb' a) i j);unfold Fg T7;split
   . (try dsimp only)
     split
     . exact h.tb a ha i (by assumption) j (by assumption)
     . exact z0
   . (try dsimp only)
     split
     . exact z0
     . exact h'.tb a ha _ oM _ oM
 . show R.B.cb b m (T7 R.S n en (λi=>R.F.neg (en' i)) i);unfold T7;split
   . exact h.en i (by assumption)
   . exact R.B.neg _ _ _ _ (R.F.add_neg _) (h'.en _ oM)
section
variable{S:SR}{F:Ab S}{l:List Nat}{n:Nat}{st:Nat->S.W}{tb:Nat->Nat->Nat->S.W}{en:Nat->S.W}{es:List (Nat × (Nat->S.W))}
structure PpW(S:SR)(k n:Nat)(st:Nat->S.W)(tb:Nat->Nat->Nat->S.W)(en:Nat->S.W)(es:List (Nat × (Nat->S.W)))(c:Nat->S.W)(D:Nat->Nat->Nat->S.W):Prop where
 fst:∀j,j < n->st j=J7 S c (λi=>kv es i j) es.length
 stp:∀a,a < k->∀i,i < es.length->∀j,j < n->JS S n (tb a) (kv es i) j=J7 S (D a i) (λq=>kv es q j) es.length
 nul:∀i,i < es.length->J7 S (kv es i) en n=S.zero
def Vc(nd:l.Nodup)(E:T2 F n ((Fb F n (y6 S n st (E7 l tb)) (gP l (Q2 S l n st tb en))).map (y6 S n st (E7 l tb))) es)(h:GM (Q2 S l n st tb en) (Fb F n (y6 S n st (E7 l tb)) (gP l (Q2 S l n st tb en)))=[]):PpW S l.length n st tb en es (Vm es st) (Ol n es tb):=by
 have h:=EX.mp h;have e:=IY (F:=F) (l:=l) (n:=n) (ρ:=y6 S n st (E7 l tb)) (D:=Q2 S l n st tb en) (n+1) h;have e2:Fb F n (y6 S n st (E7 l tb)) (gP l (Q2 S l n st tb en))=Fb F n (y6 S n st (E7 l tb)) (gB l):=congrArg Wr.told e;rw[e2]at h E;have N:=Vp E;refine⟨λj hj=>N.ech.parts (N.all [] λd hd=>nomatch hd) j hj,λa ha i hi j hj=>?_,λi hi=>?_⟩
 . obtain⟨c,hc,hcl⟩:∃c,l.idxOf c=a/\c∈l:=⟨l[a],nd.idxOf_getElem a ha,aM ha⟩;have:=N.ech.parts (N.stp i hi c hcl) j hj;unfold E7 at this;rw[hc]at this;exact this
 . refine QY ((E.span).2 i hi) λk hk=>?_;rw[af]at hk;rw[Ta [] hk];exact h _ (Mine.Nu hk)
end
def d0u{a b:Str}{A B:Prop}(h:a=b)(k:B):if(!decide (V.str a=V.str b))=true then A else B:=by
 rw[decide_eq_true (by rw[h])];exact k
def Pj(w:World)(K:aa)(mg:Str->Option Value)(base:Heap):Sp:=λvs H Q _=>∃(R:c9 Pr w K mg base),∃kv a us,∃(n:Nat),∃(x:Nat->R.S.W),∃(b:Bool),vs=[kv,.ref a,.int (n:Nat),.bl b]/\(U1 R.C R.fs H kv/\H a=some (if b=true then .tup us else .lst us)/\j7 (λi u H=>R.is H u (x i)) us n H/\n<=1000)/\∀H',j0 H H'->Q (.bl true) H'
def Bt(T:Txt K mg t):x8 Pr w K mg base F9 42 t.l0x t.j0e Qs (Pj w K mg base):=by
 refine T.k0p.F.ok JF (by rintro _ _ _ _ ⟨_,_,_,_,_,_,_,rfl,_⟩;rfl) λcdv A outer s H vs Q E hr h=>?_;obtain⟨R,kv,a,us,n,x,b,rfl,⟨hk,ha,e,hn⟩,k⟩:=h;have zl:10000 < sizeLine:=by decide
 have el:=e.1;refine⟨_,(a8 (B0 (PW.pt (Ag (PW.pt (Ij (D2 (pv 3)) (Ii (E4 (D2 (l5 N7 (by rfl) T.z_isinstance boot_isinstance (F6 (pv 1) (R9 (v:=.ty "tuple") rfl T.z_tuple boot_tuple rfl)))))))) (V9 (PW.pt (Ij (E4 (D2 (pv 3))) (Ii (E4 (D2 (l5 N7 (by rfl) T.z_isinstance boot_isinstance (F6 (pv 1) (R9 (v:=.ty "list") rfl T.z_list boot_list rfl))))))))))) (c6 (c8 F4)) o5) (c6 (c8 (Io (Dj M5 (l5 w8 (by rfl) T.z_len PySem.boot_len (B4 (pv 1))) (pv 2) (w6 _)) (Il (l5 (Gm rfl) (by rfl) T.z_all boot_all (B4 (z5 (xs:=["_law_x"]) rfl (show w9 Qs (b9 AA) _ from⟨rfl,dK,dK,dK,dK,dK⟩) (Ve (pv 1)) (λ_ _ _ _ _=>(l4 (i:=4) (by show List.Nodup (["_law_kind_here","_law_line_here","_law_many","_law_is_tuple","_law_x"]:List Str);decide +kernel) rfl (Or.inl rfl))) (λ_ _ _ _ _=>(R8 (pv 0) R.cl R.t_is_weight R.G_is_weight hr.m R.b_is_weight .nil C4 (B4 (pv 4)))))))))))),?_⟩;cases b with
 | true=>
  have ha:H a=some (.tup us):=ha;refine⟨_,rfl,_,rfl,?_⟩;refine Hd ?_;refine⟨_,rfl,zg ⟨rfl,X0.tup ha,T.k_tt,_,rfl,?_⟩⟩;refine L7 ?_;refine⟨_,rfl,_,rfl,?_⟩;refine L7 ?_;refine L7 ?_;refine⟨_,rfl,za ⟨rfl,(.inr ⟨_,o9.of ha,el.symm⟩),_,rfl,rfl,_,rfl,?_⟩⟩;refine BH (decide_eq_true rfl) ?_;refine⟨_,rfl,a,rfl,.inr ⟨⟨_,o9.of ha⟩,w5 (n:=n) (λj ys G=>G=H/\ys=(List.replicate j true).map V.bl) oM ⟨rfl,rfl⟩ (λj ys G q=>by rw[q.2,af,bL]) ?_ ?_ ?_⟩⟩
  . rintro j ys G hj ⟨rfl,rfl⟩;obtain⟨u,eu,pu⟩:=e.2 j hj;refine FT (o9.of ha) eu ?_;obtain⟨kp,dx,rfl,hkp⟩:=id hk;refine⟨⟨[some _],rfl,rfl⟩,_,rfl,kp,dx,_,rfl,hkp,R.l_is_weight,_,rfl,zf ⟨rfl,⟨⟨kp,dx,rfl,hkp⟩,pu⟩,?_⟩⟩;exact⟨rfl,by rw[dz,aU];rfl⟩
  . rintro ys G ⟨rfl,_⟩;exact⟨_,o9.of ha,by rw[el];exact ae _⟩
  . rintro ys G z ⟨rfl,rfl⟩ nz;refine⟨z,List.replicate n true,rfl,o7.of c4,?_⟩;show Q (V.bl ((List.replicate n true).all id)) _;rw[show(List.replicate n true).all id=true from bO.mpr λx hx=>(dA.mp hx).2];exact k _ (c7 nz)
 | false=>
  have ha:H a=some (.lst us):=ha;refine⟨_,rfl,_,rfl,?_⟩;refine L7 ?_;refine L7 ?_;refine⟨_,rfl,_,rfl,?_⟩;refine Hd ?_;refine⟨_,rfl,zg ⟨rfl,X0.lst ha,T.k_ll,_,rfl,?_⟩⟩;refine L7 ?_;refine⟨_,rfl,za ⟨rfl,(.inl ⟨_,o7.of ha,el.symm⟩),_,rfl,rfl,_,rfl,?_⟩⟩;refine BH (decide_eq_true rfl) ?_;refine⟨_,rfl,a,rfl,.inl ⟨⟨_,o7.of ha⟩,w5 (n:=n) (λj ys G=>G=H/\ys=(List.replicate j true).map V.bl) oM ⟨rfl,rfl⟩ (λj ys G q=>by rw[q.2,af,bL]) ?_ ?_ ?_⟩⟩
  . rintro j ys G hj ⟨rfl,rfl⟩;obtain⟨u,eu,pu⟩:=e.2 j hj;refine Dy (o7.of ha) eu ?_;obtain⟨kp,dx,rfl,hkp⟩:=id hk;refine⟨⟨[some _],rfl,rfl⟩,_,rfl,kp,dx,_,rfl,hkp,R.l_is_weight,_,rfl,zf ⟨rfl,⟨⟨kp,dx,rfl,hkp⟩,pu⟩,?_⟩⟩;exact⟨rfl,by rw[dz,aU];rfl⟩
  . rintro ys G ⟨rfl,_⟩;exact⟨_,o7.of ha,by rw[el];exact ae _⟩
  . rintro ys G z ⟨rfl,rfl⟩ nz;refine⟨z,List.replicate n true,rfl,o7.of c4,?_⟩;show Q (V.bl ((List.replicate n true).all id)) _;rw[show(List.replicate n true).all id=true from bO.mpr λx hx=>(dA.mp hx).2];exact k _ (c7 nz)
structure e0r(S:SR)(r m n:Nat)(c:Nat->S.W)(x:Nat->Nat->S.W):Prop where
 zc:∀i,i < m->S.sz r (c i)
 zx:∀i,i < m->∀j,j < n->S.sz r (x i j)
 zs:∀k,k<=m->∀j,j < n->S.sz r (J7 S c (λi=>x i j) k)
def RB(T:Txt K mg t):Sp:=λvs H Q _=>∃(R:c9 Pr w K mg base),∃nm p so a b fs us,∃(m n r:Nat),∃c,∃(x:Nat->Nat->R.S.W),So T R nm p/\vs=[so,.ref a,.ref b,.int (n:Nat)]/\(M3 H so nm p/\H a=some (.lst fs)/\j7 (λi u H=>R.is H u (c i)) fs m H/\H b=some (.lst us)/\j7 (λi u H=>j9 R n (x i) u H) us m H/\n<=1000/\e0r R.S r m n c x/\AM R.S (3 * r+2))/\
 ∀v H',j0 H H'->j9 R n (λj=>J7 R.S c (λi=>x i j) m) v H'->Q v H'
def FD(T:Txt K mg t):x8 Pr w K mg base F9 40 t.m0z t.l0b Vz (RB (w:=w) (base:=base) T):=by
 refine T.k0s.F.ok V2 (by rintro _ _ _ _ ⟨_,_,_,_,_,_,_,_,_,_,_,_,_,_,rfl,_⟩;rfl) λcdv A outer s H vs Q E hr h=>?_;obtain⟨R,nm,p,so,a,b,fs,us,m,n,r,c,x,hS,rfl,⟨hso,ha,eF,hb,eU,hn,Z,hz⟩,k⟩:=h;have zl:10000 < sizeLine:=by decide
 refine⟨_,(a8 (R7 (i₀:=4) (xs:=["_law_k"]) V2.nd rfl (Or.inl rfl) rfl (show w9 VG (b9 Ae) _ from⟨rfl,dK,dK,dK,dK,dK⟩) (C6 rfl T.z_range (B4 (pv 3))) (λ_ _ _ _ _=>(l4 (i:=7) (by show List.Nodup (["_law_sort_here","_law_by","_law_rows","_law_wide","_law_total","_law_x","_law_row","_law_k"]:List Str);decide +kernel) rfl (Or.inl rfl))) (λ_ _ _ _ _=>(C3 (Am (w:=w) (base:=base) T) hr.m rfl T.m0l.m T.m0l.F.kp T.m0l.b .nil C4 (F6 (pv 0) c5)))) (a8 (D7 aB rfl (Z9 rfl T.z_zip (F6 (pv 1) (pv 2))) (F1 rfl (j6 (l4 (i:=5) V2.nd rfl (Or.inr rfl)) (j6 (gN 6 V2.nd) C7))) (c6 (R7 (i₀:=4) (xs:=["_law_y","_law_z"]) V2.nd rfl (Or.inl rfl) rfl (show w9 VG (b9 Ae) _ from⟨rfl,dK,dK,dK,dK,dK⟩) (Z9 rfl T.z_zip (F6 (pv 4) (pv 6))) (λ_ _ _ _ _=>(show PG _ _ (ET K 2 _)from(F1 rfl (j6 (l4 (i:=7) (by show List.Nodup (d0i);decide +kernel) rfl (Or.inl rfl)) (j6 (l4 (i:=8) (by show List.Nodup (d0i);decide +kernel) rfl (Or.inl rfl)) C7))))) (λ_ _ _ _ _=>(C3 (O6 (w:=w) (base:=base) T) hr.m rfl T.k0d.m T.k0d.F.kp T.k0d.b .nil C4 (X1 (pv 0) (pv 7) (C3 (M4 (w:=w) (base:=base) T) hr.m rfl T.i0s.m T.i0s.F.kp T.i0s.b .nil C4 (X1 (pv 0) (pv 5) (pv 8))))))))) (c6 (c8 (j8 g9 (by rfl) T.z_tuple boot_tuple (B4 (pv 4))))))),?_⟩;refine⟨_,rfl,_,rfl,oM,oM,w5 (n:=n) (λj ys G=>j0 H G/\j7 (λj u H=>R.is H u (J7 R.S c (λi=>x i j) 0)) ys j G) oM ⟨j0.refl _,j7.nil⟩ (λj ys G q=>q.2.1) ?_ ?_ ?_⟩
 . rintro j ys G hj ⟨q,e⟩;refine He (by omega) ?_;refine⟨⟨[some _],rfl,rfl⟩,_,rfl,R,zt nm p so 0 ⟨hS,rfl,⟨hso,by decide,by decide⟩,λzv H1 x0 s1 f1 ez _ _ _=>?_⟩⟩;cases ez rfl;exact⟨q.trans s1,(e.mono λ_ _ _ z=>R.same s1.t z).snoc f1⟩
 . rintro ys G _;show(n:Int).toNat<=n;omega
 . rintro ys G lt ⟨q,e⟩ nlt;have s1:=q.trans (c7 (o:=.lst ys) nlt);have k1:=c4 (H:=G) (a:=lt) (o:=.lst ys);have e1:j7 (λj u H=>R.is H u (J7 R.S c (λi=>x i j) 0)) ys n (upd G lt (.lst ys)):=e.mono λ_ _ _ z=>R.same (c7 nlt).t z;clear q e nlt;revert s1 k1 e1;generalize upd G lt (.lst ys)=H1;intro s1 k1 e1;refine⟨_,rfl,_,rfl,.lst a,.lst b,za ⟨fs,us,rfl,rfl,rfl,o7.of (s1 _ _ ha),o7.of (s1 _ _ hb),Fc (K:=K) (xs:=fs) (ys:=us) (λi σ G=>∃lt ts v5 v6,σ=[some so,some (.ref a),some (.ref b),some (.int (n:Nat)),some (.ref lt),v5,v6]/\j0 H G/\G lt=some (.lst ts)/\j7 (λj u H=>R.is H u (J7 R.S c (λq=>x q j) i)) ts n G) (by rw[eF.1,eU.1]) ⟨lt,ys,_,_,rfl,s1,k1,e1⟩ (λi σ G _ ⟨_,_,_,_,_,q,_⟩=>⟨o7.of (q _ _ ha),o7.of (q _ _ hb)⟩) ?_ ?_⟩⟩
   . rintro i u v pp σ G hu hv np ⟨lt,ts,v5,v6,rfl,q,kL,eL⟩;obtain⟨hi,pu⟩:=eF.at hu;obtain⟨_,pv⟩:=eU.at hv;refine E8 (o:=.tup [u,v]) np λG1 sp kp=>?_;have q2:=q.trans sp;obtain⟨rp,rus,rfl,hrp,eR⟩:=j9.same q2.t pv;refine⟨pp,_,rfl,o9.of kp,rfl,za ⟨rfl,za ⟨rfl,rfl,?_⟩⟩⟩;refine⟨_,rfl,_,rfl,.lst lt,.tup rp,za ⟨ts,rus,rfl,rfl,rfl,o7.of (sp _ _ kL),o9.of hrp,w5 (n:=n) (λj ys G2=>j0 G1 G2/\j7 (λj u H=>R.is H u (J7 R.S c (λq=>x q j) (i+1))) ys j G2) oM ⟨j0.refl _,j7.nil⟩ (λj ys G q=>q.2.1) ?_ ?_ ?_⟩⟩
     . rintro j ys G2 hj ⟨q3,e3⟩;obtain⟨tu,etu,ptu⟩:=eL.2 j hj;obtain⟨ru,eru,pru⟩:=eR.2 j hj;refine⟨⟨ts,rus,tu,ru,o7.of (q3 _ _ (sp _ _ kL)),o9.of (q3 _ _ hrp),etu,eru⟩,λy' H' hy=>?_⟩;obtain⟨p2,x',y',rfl,np2,rfl,f1,f2⟩:=hy;have g1:=f1 _ (o7.of (q3 _ _ (sp _ _ kL)));rw[etu]at g1;cases g1;have g2:=f2 _ (o9.of (q3 _ _ hrp));rw[eru]at g2;cases g2;have t3:=c7 (o:=.tup [tu,ru]) np2;have q4:=q3.trans t3;have q04:=q2.trans q4;have zj:=Z.zs;refine⟨p2,_,rfl,o9.of c4,rfl,za ⟨rfl,za ⟨rfl,rfl,⟨[some _,some _],rfl,rfl⟩,_,rfl,_,rfl,_,rfl,_,rfl,_,rfl,R,zD nm p so u ru (c i) _ r r ⟨hS,rfl,⟨hso,R.same q04.t pu,R.same q4.t pru,Z.zc i hi,Z.zx i hi j hj,hz.le oM⟩,λtv G3 s3 f3=>?_⟩⟩⟩⟩;refine⟨R,zD nm p so tu tv _ _ r (r+r) ⟨hS,rfl,⟨hso,R.same (sp.trans (q4.trans s3)).t ptu,f3,Z.zs i oM j hj,R.S.sz_mul _ _ _ _ (Z.zc i hi) (Z.zx i hi j hj),hz.le oM⟩,λav G4 s4 f4=>?_⟩⟩;exact⟨q4.trans (s3.trans s4),(e3.mono λ_ _ _ z=>R.same (t3.trans (s3.trans s4)).t z).snoc f4⟩
     . rintro ys G2 ⟨q3,e3⟩;exact⟨ts,rus,o7.of (q3 _ _ (sp _ _ kL)),o9.of (q3 _ _ hrp),.inl eL.1.symm⟩
     . rintro ys G2 z ⟨q3,e3⟩ nz;have t3:=c7 (o:=.lst ys) nz;exact⟨z,ys,za ⟨rfl,q2.trans (q3.trans t3),c4,e3.mono λ_ _ _ z=>R.same t3.t z⟩⟩
   . rintro σ G ⟨lt,ts,v5,v6,rfl,q,kL,eL⟩;rw[eF.1]at eL;refine⟨_,rfl,lt,ts,rfl,.inl ⟨o7.of kL,λz nz=>?_⟩⟩;have t3:=c7 (o:=.tup ts) nz;exact k _ _ (q.trans t3) ⟨z,ts,rfl,c4,eL.mono λ_ _ _ z=>R.same t3.t z⟩
def LD(w:World)(K:aa)(mg:Str->Option Value)(base:Heap):Sp:=λvs H Q _=>∃(R:c9 Pr w K mg base),∃kv pf l,∃(n:Nat),∃es c D q z x y us fs ps,vs=[kv,.ref pf,vT l,.int (n:Nat)]/\(U1 R.C R.fs H kv/\H pf=some (.tup [.str (Str.ofString "yes"),.ref q])/\Aq R l.length n es c D q z x y us fs ps H/\l.length<=3/\es.length<=60/\n<=60)/\∀H',j0 H H'->Q (.bl true) H'
def GP(T:Txt K mg t):x8 Pr w K mg base F9 44 t.k0j t.h0q VA (LD w K mg base):=by
 refine T.h0s.F.ok N5 (by rintro _ _ _ _ ⟨_,_,_,_,_,_,_,_,_,_,_,_,_,_,_,rfl,_⟩;rfl) λcdv A outer s H vs Q E hr h=>?_;obtain⟨R,kv,pf,l,n,es,c,D,q,z,x,y,us,fs,ps,rfl,⟨hk,hp,W,l3,hm,hn⟩,k⟩:=h;have zl:10000 < sizeLine:=by decide
 have hq:=W.hq;refine⟨_,(a8 (B0 (PW.pt (Ag (E4 (D2 (l5 N7 (by rfl) T.z_isinstance boot_isinstance (F6 (pv 1) (R9 (v:=.ty "tuple") rfl T.z_tuple boot_tuple rfl))))) (Ag (o8 Dk (l5 w8 (by rfl) T.z_len PySem.boot_len (B4 (pv 1))) c5 (w6 _)) (V9 (o8 Dk (j5 i0 (pv 1) c5 (λ_ _=>rfl)) Eb (w6 _)))))) (c6 (c8 F4)) o5) (a8 (B0 (PW.pt (Ag (E4 (D2 (l5 N7 (by rfl) T.z_isinstance boot_isinstance (F6 (j5 i0 (pv 1) c5 (λ_ _=>rfl)) (R9 (v:=.ty "tuple") rfl T.z_tuple boot_tuple rfl))))) (V9 (o8 Dk (l5 w8 (by rfl) T.z_len PySem.boot_len (B4 (j5 i0 (pv 1) c5 (λ_ _=>rfl)))) c5 (w6 _))))) (c6 (c8 F4)) o5) (a8 (P7 (j5 i0 (pv 1) c5 (λ_ _=>rfl)) (F1 rfl (j6 (l4 (i:=4) N5.nd rfl (Or.inr rfl)) (j6 (gN 5 N5.nd) (j6 (gN 6 N5.nd) C7))))) (a8 (B0 (PW.pt (Ag (E4 (D2 (l5 N7 (by rfl) T.z_isinstance boot_isinstance (F6 (pv 4) (R9 (v:=.ty "list") rfl T.z_list boot_list rfl))))) (V9 (E4 (D2 (E6 (Bt T) hr.m T.k0p (Ew (pv 0) (pv 5) (l5 w8 (by rfl) T.z_len PySem.boot_len (B4 (pv 4))) F4))))))) (c6 (c8 F4)) o5) (a8 (B0 (E4 (D2 (l5 (Gm rfl) (by rfl) T.z_all boot_all (B4 (z5 (xs:=["_law_row"]) rfl (show w9 n9N (b9 P2) _ from⟨rfl,dK,dK,dK,dK,dK⟩) (C9 (pv 4)) (λ_ _ _ _ _=>(l4 (i:=8) (by show List.Nodup (["_law_kind_here","_law_found","_law_letters_here","_law_wide","_law_rows","_law_first","_law_steps","_law_step_here","_law_row"]:List Str);decide +kernel) rfl (Or.inl rfl))) (λ_ _ _ _ _=>(C3 (Bt (w:=w) (base:=base) T) hr.m rfl T.k0p.m T.k0p.F.kp T.k0p.b .nil C4 (Ew (pv 0) (pv 8) (pv 3) F4)))))))) (c6 (c8 F4)) o5) (a8 (B0 (PW.pt (Ag (E4 (D2 (l5 N7 (by rfl) T.z_isinstance boot_isinstance (F6 (pv 6) (R9 (v:=.ty "list") rfl T.z_list boot_list rfl))))) (V9 (o8 Dk (l5 w8 (by rfl) T.z_len PySem.boot_len (B4 (pv 6))) (l5 w8 (by rfl) T.z_len PySem.boot_len (B4 (pv 2))) (w6 _))))) (c6 (c8 F4)) o5) (a8 (D7 aB rfl (C9 (pv 6)) (gN 7 N5.nd) (a8 (B0 (PW.pt (Ag (E4 (D2 (l5 N7 (by rfl) T.z_isinstance boot_isinstance (F6 (pv 7) (R9 (v:=.ty "list") rfl T.z_list boot_list rfl))))) (V9 (o8 Dk (l5 w8 (by rfl) T.z_len PySem.boot_len (B4 (pv 7))) (l5 w8 (by rfl) T.z_len PySem.boot_len (B4 (pv 4))) (w6 _))))) (c6 (c8 F4)) o5) (c6 (B0 (E4 (D2 (l5 (Gm rfl) (by rfl) T.z_all boot_all (B4 (z5 (xs:=["_law_by"]) rfl (show w9 n9N (b9 P2) _ from⟨rfl,dK,dK,dK,dK,dK⟩) (C9 (pv 7)) (λ_ _ _ _ _=>(l4 (i:=8) (by show List.Nodup (["_law_kind_here","_law_found","_law_letters_here","_law_wide","_law_rows","_law_first","_law_steps","_law_step_here","_law_by"]:List Str);decide +kernel) rfl (Or.inl rfl))) (λ_ _ _ _ _=>(C3 (Bt (w:=w) (base:=base) T) hr.m rfl T.k0p.m T.k0p.F.kp T.k0p.b .nil C4 (Ew (pv 0) (pv 8) (l5 (show U2 _ (.builtin "len") (λxs H Q=>∃x n,xs=[x]/\X2 K x H n/\Q (V.int (n:Nat)) H)from w8) (by rfl) T.z_len PySem.boot_len (B4 (pv 4))) F4)))))))) (c6 (c8 F4)) o5)))) (c6 (c8 F4))))))))),?_⟩;refine⟨_,rfl,zg ⟨rfl,X0.tup hp,T.k_tt,_,rfl,?_⟩⟩;refine L7 ?_;refine⟨_,rfl,za ⟨rfl,.inr ⟨_,o9.of hp,rfl⟩,rfl,_,rfl,?_⟩⟩;refine FS (λne=>absurd rfl ne) (λ_=>?_);refine⟨_,rfl,zg ⟨rfl,rfl,o9.of hp,rfl,rfl,_,rfl,?_⟩⟩;refine d0u rfl ?_;refine⟨_,rfl,zg ⟨rfl,rfl,o9.of hp,rfl,zg ⟨rfl,X0.tup hq,T.k_tt,_,rfl,?_⟩⟩⟩;refine L7 ?_;refine⟨_,rfl,zg ⟨rfl,rfl,o9.of hp,rfl,za ⟨rfl,.inr ⟨_,o9.of hq,rfl⟩,rfl,_,rfl,?_⟩⟩⟩;refine FS (λne=>absurd rfl ne) (λ_=>?_);refine⟨_,rfl,zg ⟨rfl,rfl,o9.of hp,rfl,q,_,rfl,o9.of hq,rfl,za ⟨rfl,za ⟨rfl,za ⟨rfl,rfl,?_⟩⟩⟩⟩⟩;have lz:X2 K (.ref z) H es.length:=.inl ⟨_,o7.of W.hz,W.hu.1.symm⟩;refine⟨_,rfl,zg ⟨rfl,X0.lst W.hz,T.k_ll,_,rfl,?_⟩⟩;refine L7 ?_;refine⟨_,rfl,_,rfl,_,rfl,za ⟨rfl,lz,R,zw kv x fs es.length c false ⟨rfl,⟨hk,W.hx,W.hf,oM⟩,λH1 s1=>⟨_,rfl,?_⟩⟩⟩⟩;refine L7 ?_;have W1:=W.same s1;refine⟨_,rfl,z,rfl,⟨_,o7.of W1.hz⟩,w5 (n:=es.length) (λj ys G=>j0 H1 G/\ys=(List.replicate j true).map V.bl) oM ⟨j0.refl _,rfl⟩ (λj ys G q=>by rw[q.2,af,bL]) ?_ ?_ ?_⟩
 . rintro j ys G hj ⟨q1,rfl⟩;obtain⟨u,eu,pu⟩:=W1.hu.2 j hj;refine Dy (o7.of (q1 _ _ W1.hz)) eu ?_;obtain⟨rp,rus,rfl,hrp,eR⟩:=j9.same q1.t pu;refine⟨⟨[some _],rfl,rfl⟩,_,rfl,_,rfl,_,rfl,R,zw kv rp rus n (Mine.kv es j) true ⟨rfl,⟨(hk.same s1).same q1,hrp,eR,oM⟩,λH2 s2=>?_⟩⟩;exact⟨q1.trans s2,by rw[dz,aU];rfl⟩
 . rintro ys G ⟨q1,_⟩;exact⟨_,o7.of (q1 _ _ W1.hz),by rw[W1.hu.1];exact ae _⟩
 . rintro ys G lp ⟨q1,rfl⟩ nl;have s2:=s1.trans (q1.trans (c7 (o:=.lst ((List.replicate es.length true).map V.bl)) nl));refine⟨lp,List.replicate es.length true,rfl,o7.of c4,?_⟩;refine⟨_,rfl,?_⟩;refine VS (show(!((List.replicate es.length true).all id))=false by rw[show(List.replicate es.length true).all id=true from bO.mpr λx hx=>(dA.mp hx).2];rfl) ?_;revert s2;generalize upd G lp (.lst ((List.replicate es.length true).map V.bl))=H2;intro s2;have W2:=W.same s2;have ly:X2 K (.ref y) H2 l.length:=.inl ⟨_,o7.of W2.hy,by rw[af,W.pl]⟩;refine⟨_,rfl,zg ⟨rfl,X0.lst W2.hy,T.k_ll,_,rfl,?_⟩⟩;refine L7 ?_;refine⟨_,rfl,za ⟨rfl,ly,_,rfl,za ⟨rfl,d0s oM,rfl,_,rfl,?_⟩⟩⟩;refine FS (λne=>absurd rfl ne) (λ_=>?_);refine⟨_,rfl,y,rfl,⟨_,o7.of W2.hy⟩,En (n:=l.length) (λa σ G=>∃v7,σ=[some kv,some (.ref pf),some (vT l),some (.int (n:Nat)),some (.ref z),some (.ref x),some (.ref y),v7]/\j0 H G) ⟨_,rfl,s2⟩ ?_ ?_⟩
   . rintro a σ G ha ⟨v7,rfl,sG⟩;have WG:=W.same sG;have la:a < ps.length:=by rw[W.pl];exact ha
     obtain⟨sa,ep⟩:∃sa,ps[a]? = some sa:=⟨_,ag la⟩;have em:(ps.map λs=>V.ref s.1)[a]? = some (V.ref sa.1):=by rw[ay,ep];rfl
     refine⟨za ⟨o7.of WG.hy,em⟩,λy' H' hy=>?_⟩;obtain⟨rfl,hy⟩:=hy;have:=hy _ (o7.of WG.hy);rw[em]at this;cases this;obtain⟨h1,h2,h3⟩:=WG.hp a _ ep;have lz:X2 K (.ref z) H' es.length:=.inl ⟨_,o7.of WG.hz,W.hu.1.symm⟩;refine⟨_,rfl,zg ⟨rfl,X0.lst h1,T.k_ll,_,rfl,?_⟩⟩;refine L7 ?_;refine⟨_,rfl,za ⟨rfl,.inl ⟨_,o7.of h1,by rw[af,h2]⟩,_,rfl,za ⟨rfl,lz,rfl,_,rfl,?_⟩⟩⟩;refine FS (λne=>absurd rfl ne) (λ_=>?_);refine⟨_,rfl,_,rfl,⟨_,o7.of h1⟩,w5 (n:=es.length) (λj ys G=>j0 H' G/\ys=(List.replicate j true).map V.bl) oM ⟨j0.refl _,rfl⟩ (λj ys G q=>by rw[q.2,af,bL]) ?_ ?_ ?_⟩
     . rintro j ys G hj ⟨q1,rfl⟩;obtain⟨sj,er⟩:∃sj,sa.2[j]? = some sj:=⟨_,ag (show j < sa.2.length by omega)⟩;have eu:(sa.2.map V.ref)[j]? = some (V.ref sj):=by rw[ay,er];rfl
       refine Dy (o7.of (q1 _ _ h1)) eu ?_;obtain⟨ws,hws,eW⟩:=h3 j _ er;refine⟨⟨[some _],rfl,rfl⟩,_,rfl,_,rfl,_,rfl,za ⟨rfl,.inl ⟨_,o7.of (q1 _ _ WG.hz),W.hu.1.symm⟩,R,zw kv _ ws es.length (D a j) false ⟨rfl,⟨(hk.same sG).same q1,q1 _ _ hws,eW.mono λ_ _ _ z=>R.same q1.t z,oM⟩,λH3 s3=>?_⟩⟩⟩;exact⟨q1.trans s3,by rw[dz,aU];rfl⟩
     . rintro ys G ⟨q1,_⟩;exact⟨_,o7.of (q1 _ _ h1),by rw[af,h2];exact ae _⟩
     . rintro ys G lp ⟨q1,rfl⟩ nl;have s3:=sG.trans (q1.trans (c7 (o:=.lst ((List.replicate es.length true).map V.bl)) nl));refine⟨lp,List.replicate es.length true,rfl,o7.of c4,?_⟩;refine⟨_,rfl,?_⟩;refine VS (show(!((List.replicate es.length true).all id))=false by rw[show(List.replicate es.length true).all id=true from bO.mpr λx hx=>(dA.mp hx).2];rfl) ?_;exact⟨_,rfl,s3⟩
   . rintro σ G ⟨v7,rfl,sG⟩;have WG:=W.same sG;exact⟨⟨_,o7.of WG.hy,by rw[af,W.pl];exact ae _⟩,k _ sG⟩
structure Gd(k:Nat)(d:PyData):Prop where
 lay:d.canLay0=true
 dep:d.depth<=k
 mix:noMix d d=true
theorem IT{k:Nat}:∀{ds:List PyData},(∀d∈ds,Gd k d)->PyData.canLayAll0 ds=true/\PyData.depthAll ds<=k/\noMixAll ds ds=true
 | [],_=>⟨by simp[PyData.canLayAll0],by simp[PyData.depthAll],by simp[noMixAll]⟩
 | d::ds,h=>by
  obtain⟨a,b,c⟩:=IT (ds:=ds) λx hx=>h x (aD _ hx);have g:=h d (aw ..);have gd:=g.dep;exact⟨by simp[PyData.canLayAll0,g.lay,a],by simp only[PyData.depthAll];omega,by simp[noMixAll,g.mix,c]⟩
def Gd.tup{k:Nat}{ds:List PyData}(h:∀d∈ds,Gd k d):Gd (k+1) (.tuple ds):=by
 obtain⟨a,b,c⟩:=IT h;exact⟨by simp[PyData.canLay0,a],by simp only[PyData.depth];omega,by simp[noMix,c]⟩
def Gd.up{j k:Nat}{d:PyData}(h:Gd j d)(e:j<=k):Gd k d:=⟨h.lay,ah h.dep e,h.mix⟩
def Gd.sh{k:Nat}{d:PyData}(h:Gd k d)(e:k<=64):shaped d=true:=by
 have hd:=h.dep;unfold shaped;rw[h.lay,decide_eq_true oM];rfl
def So.gd{T:Txt K mg t}{R:c9 Pr w K mg base}{nm:Str}{p:Int}(h:So T R nm p)(x:R.S.W):Gd 2 (R.S.data x):=by
 refine⟨canLay_of_shaped (R.S.sh x),?_,R.S.nm x x⟩;cases h with
 | fr=>show PyData.depth (.tuple [.int _,.int _])<=2;simp[PyData.depth,PyData.depthAll]
 | re=>show PyData.depth (.int _)<=2;simp[PyData.depth]
theorem Dz{H:Hp}:∀(d:Nat->PyData) (vs:List V),(∀j u,vs[j]? = some u->Is K H u (d j))->T1 K H vs ((List.range vs.length).map d)
 | _,[],_=>.nil
 | d,v::vs,h=>by
  rw[bq,List.range_succ_eq_map,aP,cg];exact .cons (h 0 v rfl) (Dz (λj=>d (j+1)) vs λj u e=>h (j+1) u (by simpa using e))
def Fl(n:Nat)(d:Nat->PyData):PyData:=.tuple ((List.range n).map d)
def Lq{Pd:Nat->V->Hp->Prop}{n:Nat}{v:V}{H:Hp}{d:Nat->PyData}(h:N8 Pd n v H)(k:∀j u,j < n->Pd j u H->Is K H u (d j)):Is K H v (Fl n d):=by
 obtain⟨p,vs,rfl,hp,e⟩:=h;have a:=Dz (K:=K) (H:=H) d vs λj u ej=>by
  obtain⟨hj,q⟩:=e.at ej;exact k j u hj q
 rw[e.1]at a;exact .tup (o9.of hp) a
def Lr{k n:Nat}{d:Nat->PyData}(h:∀j,Gd k (d j)):Gd (k+1) (Fl n d):=Gd.tup λx hx=>by
 obtain⟨j,_,rfl⟩:=aE.mp hx;exact h j
theorem Nk:∀{xs ys:List PyData},(∀x∈xs,∀y∈ys,noMix x y=true)->noMixAll xs ys=true
 | [],ys,_=>by cases ys <;>simp[noMixAll]
 | x::xs,[],_=>by simp[noMixAll]
 | x::xs,y::ys,h=>by
  simp[noMixAll,h x (aw ..) y (aw ..),Nk (xs:=xs) (ys:=ys) λa ha b hb=>h a (aD _ ha) b (aD _ hb)]
def SE{k k':Nat}{d d':Nat->PyData}(h:∀i j,noMix (d i) (d' j)=true):noMix (Fl k d) (Fl k' d')=true:=by
 unfold Fl;rw[noMix];refine Nk λx hx y hy=>?_;obtain⟨i,_,rfl⟩:=aE.mp hx;obtain⟨j,_,rfl⟩:=aE.mp hy;exact h i j
def Nf{T:Txt K mg t}{R:c9 Pr w K mg base}{nm:Str}{p:Int}(hS:So T R nm p){n:Nat}{x y:Nat->R.S.W}{v u:V}{H:Hp}{Q:VK}(a:j9 R n x v H)(b:j9 R n y u H)(e:∀i,i < n->x i=y i)(k:Q (.bl false) H):Oe K v u H Q:=by
 have ed:(Fl n λi=>R.S.data (x i))=Fl n λi=>R.S.data (y i):=by
  unfold Fl;rw[List.map_congr_left λi hi=>by rw[e i (aV.mp hi)]]
 refine za ⟨Lq a λi u' _ q'=>R.isd q',Lq b λi u' _ q'=>R.isd q',(Lr λi=>hS.gd _).sh (by decide),(Lr λi=>hS.gd _).sh (by decide),SE λi j=>R.S.nm _ _,?_⟩;rw[ed,PySem.Spec.same_self];exact k
theorem HI{S:SR}{r n:Nat}{x y:Nat->S.W}(hx:∀i,i < n->S.sz r (x i))(hy:∀i,i < n->S.sz r (y i)):∀k,k<=n->S.sz (k * (2 * r+1)) (J7 S x y k)
 | 0,_=>S.sz_mono _ _ _ (aR _) S.sz_zero
 | k+1,h=>by
  have:=S.sz_add _ _ _ _ (HI hx hy k oM) (S.sz_mul _ _ _ _ (hx k oM) (hy k oM));exact S.sz_mono _ _ _ (Nat.le_of_eq (by rw[Nat.add_mul,Nat.one_mul];omega)) this
def W8{S:SR}{r n N:Nat}{x y:Nat->S.W}(hn:n<=N)(hx:∀i,i < n->S.sz r (x i))(hy:∀i,i < n->S.sz r (y i)):Lg S (N * (2 * r+1)+r) n x y:=
 ⟨λi hi=>⟨S.sz_mono _ _ _ oM (hx i hi),S.sz_mono _ _ _ oM (hy i hi)⟩,λi hi=>S.sz_mono _ _ _ (ah (bh _ (show i<=N by omega)) oM) (HI hx hy i hi)⟩
def Su{S:SR}{F:Ab S}{n n':Nat}{x en en':Nat->S.W}(h:J7 S x (ED F n en en') (n+n')=S.zero):J7 S x en n=J7 S (λj=>x (n+j)) en' n':=by
 have e:J7 S x (ED F n en en') (n+n')=S.add (J7 S x en n) (F.neg (J7 S (λj=>x (n+j)) en' n')):=by
  show sm S _ (n+n')=_;rw[Bc];congr 1
  . exact u7 λi hi=>by rw[show ED F n en en' i=en i from Q0 hi]
  . rw[u7 (g:=λi=>F.neg (S.mul (x (n+i)) (en' i))) λi hi=>by rw[show ED F n en en' (n+i)=F.neg (en' i)from Q1,Te],LK];rfl
 rw[e]at h;exact e0c (F:=F) h
def Wm{S:SR}{n n':Nat}{A B:Nat->Nat->S.W}{x:Nat->S.W}:∀j,j < n+n'->JS S (n+n') (Fg S n A B) x j=T7 S n (JS S n A x) (JS S n' B λj=>x (n+j)) j:=λj hj=>by
 show sm S (λi=>S.mul (x i) (Fg S n A B i j)) (n+n')=_;rw[Bc];have b1:∀i,i < n->Fg S n A B i=T7 S n (A i) λ_=>S.zero:=λi hi=>if_pos hi;have b2:∀i,Fg S n A B (n+i)=T7 S n (λ_=>S.zero) (B i):=λi=>by
  unfold Fg;rw[if_neg oM,dy]
 by_cases z:j < n
 . rw[Q0 z,u7 (f:=λi=>S.mul (x (n+i)) (Fg S n A B (n+i) j)) (g:=λ_=>S.zero) λi hi=>by rw[b2,Q0 z,S.mul_zero],O0,S.add_zero];exact u7 λi hi=>by rw[b1 i hi,Q0 z]
 . obtain⟨q,rfl⟩:∃q,j=n+q:=⟨j - n,oM⟩;rw[Q1,u7 (f:=λi=>S.mul (x i) (Fg S n A B i (n+q))) (g:=λ_=>S.zero) λi hi=>by rw[b1 i hi,Q1,S.mul_zero],O0,MF];exact u7 λi hi=>by rw[b2,Q1]
def HF{P:Nat->V->Hp->Prop}{us:List V}{n m:Nat}{H:Hp}(h:j7 P us (n+m) H):j7 P (us.take n) n H:=⟨by rw[bK,h.1];omega,λj hj=>by
 obtain⟨u,e,q⟩:=h.2 j oM;exact⟨u,by rw[List.getElem?_take_of_lt hj];exact e,q⟩⟩
def HG{P:Nat->V->Hp->Prop}{us:List V}{n m:Nat}{H:Hp}(h:j7 P us (n+m) H):j7 (λj=>P (n+j)) (us.drop n) m H:=⟨by rw[cW,h.1];omega,λj hj=>by
 obtain⟨u,e,q⟩:=h.2 (n+j) oM;exact⟨u,by rw[List.getElem?_drop];exact e,q⟩⟩
structure TY(R:c9 Pr w K mg base)(l:List Nat)(n n' r:Nat)(st:Nat->R.S.W)(tb:Nat->Nat->Nat->R.S.W)(en:Nat->R.S.W)(st':Nat->R.S.W)(tb':Nat->Nat->Nat->R.S.W)(en':Nat->R.S.W)(es:List (Nat × (Nat->R.S.W)))(c:Nat->R.S.W)(D:Nat->Nat->Nat->R.S.W):Prop where
 L:Aa l
 hn:n+n'<=60
 hm:es.length<=n+n'
 pw:PpW R.S l.length (n+n') (CT n st st') (CS n tb tb') (ED R.F n en en') es c D
 zk:∀i,i < es.length->∀j,j < n+n'->R.S.sz r (Mine.kv es i j)
 zc:∀i,i < es.length->R.S.sz r (c i)
 zd:∀a,a < l.length->∀i,i < es.length->∀j,j < es.length->R.S.sz r (D a i j)
 z1:SzM R n l.length r st tb en
 z2:SzM R n' l.length r st' tb' en'
 sm:AM R.S (3 * (60 * (2 * r+1)+r)+2)
def LC(T:Txt K mg t):Sp:=λvs H Q _=>∃(R:c9 Pr w K mg base),∃nm p kv so mv ov pf l,∃(n n' r:Nat),∃st tb en st' tb' en' es c D q z x y us fs ps,So T R nm p/\vs=[kv,so,mv,ov,.ref pf]/\(M3 H so nm p/\U1 R.C R.fs H kv/\x6 R l n st tb en mv H/\x6 R l n' st' tb' en' ov H/\H pf=some (.tup [.str (Str.ofString "yes"),.ref q])/\Aq R l.length (n+n') es c D q z x y us fs ps H/\TY R l n n' r st tb en st' tb' en' es c D)/\∀H',j0 H H'->Q (.bl true) H'
def S4(T:Txt K mg t):x8 Pr w K mg base F9 46 t.j0m t.i0a VF (LC (w:=w) (base:=base) T):=by
 refine T.h0y.F.ok C1 (by rintro _ _ _ _ ⟨_,_,_,_,_,_,_,_,_,_,_,_,_,_,_,_,_,_,_,_,_,_,_,_,_,_,_,_,_,rfl,_⟩;rfl) λcdv A outer s H vs Q E hr h=>?_;obtain⟨R,nm,p,kv,so,mv,ov,pf,l,n,n',r,st,tb,en,st',tb',en',es,c,D,q,z,x,y,us,fs,ps,hS,rfl,⟨hso,hk,hM,hM',hp,W,O⟩,k⟩:=h;have zl:10000 < sizeLine:=by decide
 have l3:=O.L.h3;have hn:=O.hn;have hm:=O.hm;obtain⟨mp,sv,tv,ev,rfl,hm1,⟨sp,ss,rfl,hsp,eS⟩,⟨tp,tabs,rfl,htp,eT⟩,⟨ep,ens,rfl,hep,eE⟩⟩:=id hM;obtain⟨mp',sv',tv',ev',rfl,hm2,⟨sp',ss',rfl,hsp',eS'⟩,⟨tp',tabs',rfl,htp',eT'⟩,⟨ep',ens',rfl,hep',eE'⟩⟩:=id hM';have lS:=eS.1;have lS':=eS'.1;refine⟨_,(a8 (sT 5 C1.nd (o6 L5 (l5 w8 (by rfl) T.z_len PySem.boot_len (B4 (j5 i0 (pv 2) c5 (λ_ _=>rfl)))) (l5 w8 (by rfl) T.z_len PySem.boot_len (B4 (j5 i0 (pv 3) c5 (λ_ _=>rfl)))))) (a8 (sT 6 C1.nd (l5 w8 (by rfl) T.z_len PySem.boot_len (B4 (j5 i0 (pv 2) c5 (λ_ _=>rfl))))) (a8 (B0 (E4 (D2 (E6 (GP T) hr.m T.h0s (Ew (pv 0) (pv 4) (j5 i0 (pv 2) c5 (λ_ _=>rfl)) (pv 5))))) (c6 (c8 F4)) o5) (a8 (P7 (j5 i0 (pv 4) c5 (λ_ _=>rfl)) (F1 rfl (j6 (gN 7 C1.nd) (j6 (gN 8 C1.nd) (j6 (gN 9 C1.nd) C7))))) (a8 (B0 (o8 (Cy hr.units) (E6 (FD T) hr.m T.k0s (Ew (pv 1) (pv 8) (pv 7) (pv 5))) (o6 U7 (j5 i0 (pv 2) c5 (λ_ _=>rfl)) (j5 i0 (pv 3) c5 (λ_ _=>rfl))) (w6 _)) (c6 (c8 F4)) o5) (a8 (D7 aB rfl (C9 (pv 7)) (gN 10 C1.nd) (c6 (B0 (o8 (Cy hr.units) (E6 (CA T) hr.m T.l0p (X1 (pv 1) (Aj EW (pv 10) BQ (BP (pv 6))) (j5 i0 (pv 2) c5 (λ_ _=>rfl)))) (E6 (CA T) hr.m T.l0p (X1 (pv 1) (Aj EW (pv 10) (BP (pv 6)) BQ) (j5 i0 (pv 3) c5 (λ_ _=>rfl)))) (w6 _)) (c6 (c8 F4)) o5))) (a8 (D7 aB rfl (C6 rfl T.z_range (B4 (l5 w8 (by rfl) T.z_len PySem.boot_len (B4 (j5 i0 (pv 2) c5 (λ_ _=>rfl)))))) (gN 11 C1.nd) (c6 (D7 aB rfl (Z9 rfl T.z_zip (F6 (pv 7) (j5 B8 (pv 9) (pv 11) (λ_ _=>rfl)))) (F1 rfl (j6 (gN 10 C1.nd) (j6 (gN 12 C1.nd) C7))) (a8 (sT 13 C1.nd (o6 U7 (E6 (Ex T) hr.m T.k0k (X1 (pv 1) (Aj EW (pv 10) BQ (BP (pv 6))) (j5 i0 (j5 i0 (pv 2) c5 (λ_ _=>rfl)) (pv 11) (λ_ _=>rfl)))) (E6 (Ex T) hr.m T.k0k (X1 (pv 1) (Aj EW (pv 10) (BP (pv 6)) BQ) (j5 i0 (j5 i0 (pv 3) c5 (λ_ _=>rfl)) (pv 11) (λ_ _=>rfl)))))) (c6 (B0 (o8 (Cy hr.units) (E6 (FD T) hr.m T.k0s (Ew (pv 1) (pv 12) (pv 7) (pv 5))) (pv 13) (w6 _)) (c6 (c8 F4)) o5)))))) (c6 (c8 F4))))))))),?_⟩;refine⟨_,rfl,zg ⟨rfl,rfl,o9.of hm1,rfl,za ⟨rfl,.inr ⟨_,o9.of hsp,lS.symm⟩,_,rfl,zg ⟨rfl,rfl,o9.of hm2,rfl,za ⟨rfl,.inr ⟨_,o9.of hsp',lS'.symm⟩,za ⟨rfl,rfl,?_⟩⟩⟩⟩⟩⟩;show E9 5 (.int ((n:Nat)+(n':Nat):Int)) [some kv,some so,some (.ref mp),some (.ref mp'),some (.ref pf),none,none,none,none,none,none,none,none,none] H _;rw[<- Int.natCast_add];refine⟨_,rfl,zg ⟨rfl,rfl,o9.of hm1,rfl,za ⟨rfl,.inr ⟨_,o9.of hsp,lS.symm⟩,?_⟩⟩⟩;refine⟨_,rfl,_,rfl,_,rfl,zg ⟨rfl,rfl,o9.of hm1,rfl,_,rfl,R,kv,pf,l,n+n',es,c,D,q,z,x,y,us,fs,ps,rfl,⟨hk,hp,W,l3,oM,oM⟩,λH1 s1=>⟨_,rfl,?_⟩⟩⟩;refine L7 ?_;have W1:=W.same s1;refine⟨_,rfl,zg ⟨rfl,rfl,o9.of (s1 _ _ hp),rfl,q,_,rfl,o9.of W1.hq,rfl,za ⟨rfl,za ⟨rfl,za ⟨rfl,rfl,?_⟩⟩⟩⟩⟩;have zlin:∀{c:Nat->R.S.W},(∀i,i < es.length->R.S.sz r (c i))->e0r R.S (60 * (2 * r+1)+r) es.length (n+n') c (Mine.kv es):=λ{c} hc=>
  ⟨λi hi=>R.S.sz_mono _ _ _ oM (hc i hi),λi hi j hj=>R.S.sz_mono _ _ _ oM (O.zk i hi j hj),λk hk j hj=>(W8 (N:=60) oM hc λi hi=>O.zk i hi j hj).2 k hk⟩
 have sm1:=O.sm;refine⟨_,rfl,_,rfl,_,rfl,_,rfl,R,zH nm p so x z fs us es.length (n+n') _ c (Mine.kv es) ⟨hS,rfl,⟨hso,W1.hx,W1.hf,W1.hz,W1.hu,oM,zlin O.zc,sm1⟩,λv2 H2 s2 r2=>?_⟩⟩;have DW:=s1.trans s2;refine⟨_,rfl,zg ⟨rfl,rfl,o9.of (DW _ _ hm1),rfl,_,rfl,zg ⟨rfl,rfl,o9.of (DW _ _ hm2),rfl,zg ⟨rfl,rfl,DW _ _ hsp,DW _ _ hsp',oM,λp3 H3 s3 h3=>?_⟩⟩⟩⟩;have EI:=DW.trans s3;refine Nf hS (j9.same s3.t r2) ⟨p3,_,rfl,h3,(V1 eS eS').mono λ_ _ _ z=>R.same EI.t z⟩ (λj hj=>(O.pw.fst j hj).symm) ⟨_,rfl,?_⟩
 (try refine L7 ?_)
 have W3:=W.same EI;refine⟨_,rfl,z,rfl,⟨_,o7.of W3.hz⟩,En (n:=es.length) (λi σ G=>∃v10,σ=[some kv,some so,some (.ref mp),some (.ref mp'),some (.ref pf),some (.int (n+n':Nat)),some (.int (n:Nat)),some (.ref z),some (.ref x),some (.ref y),v10,none,none,none]/\j0 H G) ⟨_,rfl,EI⟩ ?_ ?_⟩
 . rintro i σ G hi ⟨v10,rfl,sG⟩;have WG:=W.same sG;obtain⟨u,eu,pu⟩:=WG.hu.2 i hi;refine Dy (o7.of WG.hz) eu ?_;obtain⟨rp,rus,rfl,hrp,eR⟩:=pu;have rl:=eR.1;have hm1G:=sG _ _ hm1;have hm2G:=sG _ _ hm2;refine⟨_,rfl,_,rfl,_,rfl,_,rfl,rp,rus,rfl,o9.of hrp,hrp,λp5 G5 s5 h5=>?_⟩;rw[Gg]at h5;have hR5:j9 R n (Mine.kv es i) (.ref p5) G5:=⟨p5,_,rfl,h5,(HF eR).mono λ_ _ _ z=>R.same s5.t z⟩;refine⟨_,rfl,zg ⟨rfl,rfl,o9.of (s5 _ _ hm1G),rfl,R,zD nm p so (.ref p5) (.ref ep) n (Mine.kv es i) en _ ⟨hS,rfl,⟨hso,hR5.seq,(show j9 R n en (.ref ep) G5 from⟨ep,_,rfl,(sG.trans s5) _ _ hep,eE.mono λ_ _ _ z=>R.same (sG.trans s5).t z⟩).seq,W8 (r:=r) (N:=60) oM (λj hj=>O.zk i hi j oM) O.z1.en,sm1.le oM⟩,λv6 G6 s6 f6=>?_⟩⟩⟩;have WW:=s5.trans s6;refine⟨_,rfl,_,rfl,_,rfl,_,rfl,rp,rus,rfl,o9.of (WW _ _ hrp),WW _ _ hrp,λp7 G7 s7 h7=>?_⟩;rw[KR oM]at h7;have OQ:=WW.trans s7;have hR7:j9 R n' (λj=>Mine.kv es i (n+j)) (.ref p7) G7:=⟨p7,_,rfl,h7,(HG eR).mono λ_ _ _ z=>R.same OQ.t z⟩;refine⟨_,rfl,zg ⟨rfl,rfl,o9.of (OQ _ _ hm2G),rfl,R,zD nm p so (.ref p7) (.ref ep') n' (λj=>Mine.kv es i (n+j)) en' _ ⟨hS,rfl,⟨hso,hR7.seq,(show j9 R n' en' (.ref ep') G7 from⟨ep',_,rfl,(sG.trans OQ) _ _ hep',eE'.mono λ_ _ _ z=>R.same (sG.trans OQ).t z⟩).seq,W8 (r:=r) (N:=60) oM (λj hj=>O.zk i hi _ oM) O.z2.en,sm1.le oM⟩,λv8 G8 s8 f8=>?_⟩⟩⟩;refine R.neD (R.same (s7.trans s8).t f6) f8 (Su (O.pw.nul i hi)) ⟨_,rfl,?_⟩
   (try refine L7 ?_)
   exact⟨_,rfl,sG.trans (OQ.trans s8)⟩
 . rintro σ G ⟨v10,rfl,sG⟩;have WG:=W.same sG;refine⟨⟨_,o7.of WG.hz,by rw[WG.hu.1];exact ae _⟩,?_⟩;refine⟨_,rfl,zg ⟨rfl,rfl,o9.of (sG _ _ hm1),rfl,za ⟨rfl,d0s oM,_,rfl,oM,oM,An (lo:=0) (n:=l.length) (λa σ G=>∃v10 v11 v12 v13,σ=[some kv,some so,some (.ref mp),some (.ref mp'),some (.ref pf),some (.int (n+n':Nat)),some (.int (n:Nat)),some (.ref z),some (.ref x),some (.ref y),v10,v11,v12,v13]/\j0 H G) ⟨_,_,_,_,rfl,sG⟩ ?_ ?_⟩⟩⟩
   . clear v10 sG WG;rintro a σ G ha ⟨v10,v11,v12,v13,rfl,sG⟩;have WG:=W.same sG;have la:a < ps.length:=by rw[W.pl];exact ha
     obtain⟨sa,ep'⟩:∃sa,ps[a]? = some sa:=⟨_,ag la⟩;have em:(ps.map λs=>V.ref s.1)[a]? = some (V.ref sa.1):=by rw[ay,ep'];rfl
     obtain⟨h1,h2,h3⟩:=WG.hp a _ ep';rw[show(0:Int)+(a:Int)=((a:Nat):Int) by omega];obtain⟨tu,etu,ptu⟩:=eT.2 a ha;obtain⟨tw,etw,ptw⟩:=eT'.2 a ha;refine⟨_,rfl,_,rfl,_,rfl,zg ⟨rfl,rfl,o7.of WG.hy,C0 em,.lst z,.lst sa.1,za ⟨us,sa.2.map V.ref,rfl,rfl,rfl,o7.of WG.hz,o7.of h1,Fc (K:=K) (xs:=us) (ys:=sa.2.map V.ref) (λi σ G2=>∃v10 v12 v13,σ=[some kv,some so,some (.ref mp),some (.ref mp'),some (.ref pf),some (.int (n+n':Nat)),some (.int (n:Nat)),some (.ref z),some (.ref x),some (.ref y),v10,some (.int (a:Nat)),v12,v13]/\j0 G G2) (by rw[W.hu.1,af,h2]) ⟨_,_,_,rfl,j0.refl _⟩ (λi σ G2 _ ⟨_,_,_,_,q⟩=>⟨o7.of (q _ _ WG.hz),o7.of (q _ _ h1)⟩) ?_ ?_⟩⟩⟩
     . rintro i u v pp σ G2 hu hv np ⟨v10,v12,v13,rfl,s2⟩;have hi:i < es.length:=by
        have:=(aQ.mp hu).1;rw[W.hu.1]at this;exact this
       obtain⟨u',eu,pu⟩:=WG.hu.2 i hi;rw[hu]at eu;cases eu;obtain⟨sj,er⟩:∃sj,sa.2[i]? = some sj:=⟨_,ag (show i < sa.2.length by omega)⟩;rw[ay,er]at hv;cases hv;obtain⟨ws,hws,eW⟩:=h3 i _ er;obtain⟨rp,rus,rfl,hrp,eR⟩:=pu;have rl:=eR.1;refine E8 (o:=.tup [V.ref rp,V.ref sj]) np λG3 sp kp=>?_;have s3:=s2.trans sp;have g3:=sG.trans s3;refine⟨pp,_,rfl,o9.of kp,rfl,za ⟨rfl,za ⟨rfl,rfl,?_⟩⟩⟩;refine⟨_,rfl,_,rfl,_,rfl,_,rfl,rp,rus,rfl,o9.of (s3 _ _ hrp),s3 _ _ hrp,λp5 G5 s5 h5=>?_⟩;rw[Gg]at h5;have hR5:j9 R n (Mine.kv es i) (.ref p5) G5:=⟨p5,_,rfl,h5,(HF eR).mono λ_ _ _ z=>R.same (s3.trans s5).t z⟩;have g5:=g3.trans s5;refine⟨_,rfl,zg ⟨rfl,rfl,o9.of (g5 _ _ hm1),rfl,_,rfl,zg ⟨rfl,rfl,o9.of (g5 _ _ htp),C0 etu,R,zD nm p so (.ref p5) tu n (Mine.kv es i) (tb a) _ ⟨hS,rfl,⟨hso,hR5,D1.same g5.t ptu,oM,λj hj=>W8 (r:=r) (N:=60) oM (λq hq=>O.zk i hi q oM) (λq hq=>O.z1.tb a ha q hq j hj),sm1.le oM⟩,λv6 G6 s6 r6=>?_⟩⟩⟩⟩;have UF:=s3.trans (s5.trans s6);refine⟨_,rfl,_,rfl,_,rfl,_,rfl,rp,rus,rfl,o9.of (UF _ _ hrp),UF _ _ hrp,λp7 G7 s7 h7=>?_⟩;rw[KR oM]at h7;have UE:=UF.trans s7;have hR7:j9 R n' (λj=>Mine.kv es i (n+j)) (.ref p7) G7:=⟨p7,_,rfl,h7,(HG eR).mono λ_ _ _ z=>R.same UE.t z⟩;have g7:=sG.trans UE;refine⟨_,rfl,zg ⟨rfl,rfl,o9.of (g7 _ _ hm2),rfl,_,rfl,zg ⟨rfl,rfl,o9.of (g7 _ _ htp'),C0 etw,R,zD nm p so (.ref p7) tw n' (λj=>Mine.kv es i (n+j)) (tb' a) _ ⟨hS,rfl,⟨hso,hR7,D1.same g7.t ptw,oM,λj hj=>W8 (r:=r) (N:=60) oM (λq hq=>O.zk i hi _ oM) (λq hq=>O.z2.tb a ha q hq j hj),sm1.le oM⟩,λv8 G8 s8 r8=>?_⟩⟩⟩⟩;obtain⟨q6,ws6,rfl,hq6,e6⟩:=j9.same (s7.trans s8).t r6;obtain⟨q8,ws8,rfl,hq8,e8⟩:=r8;have l6:=e6.1;have l8:=e8.1;refine zg ⟨rfl,rfl,hq6,hq8,oM,λp9 G9 s9 h9=>?_⟩;have Tx:=UE.trans (s8.trans s9);have W9:=WG.same Tx;refine⟨_,rfl,_,rfl,_,rfl,_,rfl,R,zH nm p so sj z ws us es.length (n+n') _ (D a i) (Mine.kv es) ⟨hS,rfl,⟨hso,Tx _ _ hws,eW.mono λ_ _ _ z=>R.same Tx.t z,W9.hz,W9.hu,oM,zlin (O.zd a ha i hi),sm1⟩,λv10 G10 Gv r10=>?_⟩⟩;refine⟨_,rfl,?_⟩;refine Nf hS r10 ⟨p9,_,rfl,Gv _ _ h9,(V1 e6 e8).mono λ_ _ _ z=>R.same (s9.trans Gv).t z⟩ (λj hj=>?_) ⟨_,rfl,?_⟩
       . rw[<- O.pw.stp a ha i hi j hj];exact Wm j hj
       . (try refine L7 ?_)
         exact zf ⟨rfl,Tx.trans Gv⟩
     . rintro σ G2 ⟨v10,v12,v13,rfl,s2⟩;exact zg ⟨rfl,sG.trans s2⟩
   . rintro σ G ⟨v10,v11,v12,v13,rfl,sG⟩;exact k _ sG
def Gs(z x y:Addr)(ps:List (Addr × List Addr)):List Addr:=z::x::y::W4 ps
def Aq.lists{R:c9 Pr w K mg base}{k n:Nat}{es:List (Nat × (Nat->R.S.W))}{c:Nat->R.S.W}{D:Nat->Nat->Nat->R.S.W}{q z x y:Addr}{us fs:List V}{ps:List (Addr × List Addr)}{H:Hp}(W:Aq R k n es c D q z x y us fs ps H)(hk:k<=60)(hm:es.length<=60):∀a∈Gs z x y ps,∃vs,H a=some (.lst vs)/\vs.length<=60:=λa ha=>by
 rcases ar.mp ha with rfl | ha
 . exact⟨us,W.hz,by rw[W.hu.1];exact hm⟩
 rcases ar.mp ha with rfl | ha
 . exact⟨fs,W.hx,by rw[W.hf.1];exact hm⟩
 rcases ar.mp ha with rfl | ha
 . exact⟨_,W.hy,by rw[af,W.pl];exact hk⟩
 obtain⟨s,hs,hm'⟩:=dq.mp ha;obtain⟨i,hi,rfl⟩:=bV hs;obtain⟨h1,h2,h3⟩:=W.hp i _ (ag hi);rcases ar.mp hm' with rfl | hm'
 . exact⟨_,h1,by rw[af,h2];exact hm⟩
 . obtain⟨j,hj,rfl⟩:=bV hm';obtain⟨ws,h4,e⟩:=h3 j _ (ag hj);exact⟨ws,h4,by rw[e.1];exact hm⟩
theorem FZ{m:Nat}:∀{ps:List (Addr × List Addr)},(∀s∈ps,s.2.length<=m)->(W4 ps).length<=ps.length * (m+1)
 | [],_=>aR _
 | s::ps,h=>by
  have h1:=h s (aw ..);have h2:=FZ λs hs=>h s (aD _ hs);show(s.1::s.2++W4 ps).length<=_;rw[aq,bq,bq,bQ];omega
def Pk(w:World)(K:aa)(mg:Str->Option Value)(base:Heap):Sp:=λvs H Q _=>∃(R:c9 Pr w K mg base),∃(k n:Nat),∃es c D q z x y us fs ps,vs=[.ref q]/\(Aq R k n es c D q z x y us fs ps H/\k<=3/\es.length<=60)/\∀H',(∀b o,b ∉ Gs z x y ps->H b=some o->H' b=some o)->Q (.bl true) H'
def BW(T:Txt K mg t):x8 Pr w K mg base F9 44 t.g0f t.f0s ["_law_told"] (Pk w K mg base):=by
 refine T.f0r.F.ok y8 (by rintro _ _ _ _ ⟨_,_,_,_,_,_,_,_,_,_,_,_,_,rfl,_⟩;rfl) λcdv A outer s H vs Q E hr h=>?_;obtain⟨R,k,n,es,c,D,q,z,x,y,us,fs,ps,rfl,⟨W,hk,hm⟩,kQ⟩:=h;have zl:10000 < sizeLine:=by decide
 have WL:=W.lists oM hm;have pl:=W.pl;have fl:(W4 ps).length<=183:=by
  have:=FZ (m:=60) (ps:=ps) λs hs=>by
   obtain⟨i,hi,rfl⟩:=bV hs;obtain⟨h1,h2,h3⟩:=W.hp i _ (ag hi);omega
  have:=bh 61 (show ps.length<=3 by omega);omega
 refine⟨_,(a8 (P7 (pv 0) (F1 rfl (j6 (gN 1 y8.nd) (j6 (gN 2 y8.nd) (j6 (gN 3 y8.nd) C7))))) (a8 (sT 4 y8.nd (D3 (X1 (pv 1) (pv 2) (pv 3)))) (a8 (D7 aB rfl (C9 (pv 3)) (gN 5 y8.nd) (c6 (sT 4 y8.nd (o6 Iq (o6 Iq (pv 4) (D3 (B4 (pv 5)))) (pv 5))))) (a8 (R7 (i₀:=6) (xs:=["_law_one"]) y8.nd rfl (Or.inl rfl) rfl (show w9 d0h (b9 K4) _ from⟨rfl,dK,dK,dK,dK,dK⟩) (C9 (pv 4)) (λ_ _ _ _ _=>(l4 (i:=8) (by show List.Nodup (["_law_told","_law_rows","_law_first","_law_steps","_law_some","_law_step_here","_law_sizes","_law_k","_law_one"]:List Str);decide +kernel) rfl (Or.inl rfl))) (λ_ _ _ _ _=>(l5 (show U2 _ (.builtin "len") (λxs H Q=>∃x n,xs=[x]/\X2 K x H n/\Q (V.int (n:Nat)) H)from w8) (by rfl) T.z_len PySem.boot_len (B4 (pv 8))))) (a8 (D7 aB rfl (C6 rfl T.z_range (B4 (l5 w8 (by rfl) T.z_len PySem.boot_len (B4 (pv 4))))) (gN 7 y8.nd) (a8 (B0 (o8 Dk (l5 w8 (by rfl) T.z_len PySem.boot_len (B4 (j5 B8 (pv 4) (pv 7) (λ_ _=>rfl)))) (j5 B8 (pv 6) (pv 7) (λ_ _=>rfl)) (w6 _)) (c6 (c8 F4)) o5) (c6 (F8 (U0 ba bz bA G0 (j5 B8 (pv 4) (pv 7) (λ_ _=>rfl)) (B4 LY)))))) (c6 (c8 F4))))))),?_⟩;refine⟨_,rfl,q,_,rfl,o9.of W.hq,rfl,za ⟨rfl,za ⟨rfl,za ⟨rfl,rfl,?_⟩⟩⟩⟩;refine⟨_,rfl,_,rfl,_,rfl,(by show 3<=sizeLine;decide),λsp nsp=>?_⟩;refine E8 (o:=.lst [V.ref z,V.ref x,V.ref y]) nsp λH1 s1 k1=>?_;refine⟨_,rfl,y,rfl,⟨_,o7.of (s1 _ _ W.hy)⟩,En (n:=k) (λa σ G=>∃sp v5 v6 v7,σ=[some (.ref q),some (.ref z),some (.ref x),some (.ref y),some (.ref sp),v5,v6,v7]/\j0 H G/\H sp=none/\G sp=some (.lst ((Gs z x y (ps.take a)).map V.ref))) ⟨sp,_,_,_,rfl,s1,nsp,k1⟩ ?_ ?_⟩
 . rintro a σ G ha ⟨sp,v5,v6,v7,rfl,sG,nsp,kS⟩;have WG:=W.same sG;obtain⟨sa,ep⟩:∃sa,ps[a]? = some sa:=⟨_,ag (by rw[W.pl];exact ha)⟩;have em:(ps.map λs=>V.ref s.1)[a]? = some (V.ref sa.1):=by rw[ay,ep];rfl
   refine Dy (o7.of WG.hy) em ?_;obtain⟨h1,h2,h3⟩:=WG.hp a _ ep;have tl:(Gs z x y (ps.take a)).length<=200:=by
    have:=FZ (m:=60) (ps:=ps.take a) λs hs=>by
     obtain⟨i,hi,rfl⟩:=bV (cU hs);obtain⟨h1,h2,h3⟩:=W.hp i _ (ag hi);omega
    have:=bh 61 (show(ps.take a).length<=3 by rw[bK];omega);show(W4 (ps.take a)).length+1+1+1<=_;omega
   refine⟨_,rfl,_,rfl,(by show 1<=sizeLine;decide),λp1 n1=>?_⟩;refine E8 (o:=.lst [V.ref sa.1]) n1 λG1 t1 c1=>?_;refine⟨sp,p1,za ⟨rfl,rfl,t1 _ _ kS,c1,(by rw[af];show _+1<=_;omega),λp2 n2=>?_⟩⟩;refine E8 (o:=.lst ((Gs z x y (ps.take a)).map V.ref++[V.ref sa.1])) n2 λG2 t2 c2=>?_;have t12:=t1.trans t2;refine⟨_,rfl,p2,sa.1,za ⟨rfl,rfl,c2,t12 _ _ h1,(by rw[aq,af,af];show _+1+_<=_;omega),λp3 n3=>?_⟩⟩;have t3:=c7 (o:=.lst ((Gs z x y (ps.take a)).map V.ref++[V.ref sa.1]++sa.2.map V.ref)) n3;have e3:(Gs z x y (ps.take a)).map V.ref++[V.ref sa.1]++sa.2.map V.ref=(Gs z x y (ps.take (a+1))).map V.ref:=by
    have:W4 (ps.take (a+1))=W4 (ps.take a)++sa.1::sa.2:=by
     unfold W4;rw[J8 ep,List.flatMap_append];simp
    unfold Gs;rw[this];simp
   have c3:=c4 (H:=G2) (a:=p3) (o:=.lst ((Gs z x y (ps.take a)).map V.ref++[V.ref sa.1]++sa.2.map V.ref));refine⟨p3,zf ⟨rfl,sG.trans (t12.trans t3),?_,by rw[c3,e3]⟩⟩;cases e0:H p3 with
   | none=>rfl
   | some o=>rw[(sG.trans t12) _ _ e0]at n3;cases n3
 . rintro σ G ⟨sp,v5,v6,v7,rfl,sG,nsp,kS⟩;have WG:=W.same sG;refine⟨⟨_,o7.of WG.hy,by rw[af,W.pl];exact ae _⟩,?_⟩;rw[show ps.take k=ps by rw[cS oM]]at kS;obtain⟨A,hA⟩:∃A,Gs z x y ps=A:=⟨_,rfl⟩;have nd:A.Nodup:=hA▸W.nd;rw[hA]at WL kS kQ;have al:A.length<=200:=by rw[<- hA];show(W4 ps).length+1+1+1<=_;omega
   have spA:sp ∉ A:=λm=>by
    obtain⟨vs,e,_⟩:=WL _ m;rw[nsp]at e;cases e
   obtain⟨ln,hln⟩:∃ln:Addr->Nat,∀a∈A,∃vs,H a=some (.lst vs)/\vs.length=ln a/\vs.length<=60:=by
    refine⟨λa=>match H a with | some (.lst vs)=>vs.length | _=>0,λa ha=>?_⟩;obtain⟨vs,e,l⟩:=WL a ha;exact⟨vs,e,by simp[e],l⟩
   clear W WG WL hA fl pl;refine⟨_,rfl,sp,rfl,⟨_,o7.of kS⟩,w5 (n:=A.length) (λi ys G1=>ys.length=i/\G1=G/\ys=(A.take i).map λa=>V.int (ln a:Nat)) oM ⟨rfl,rfl,rfl⟩ (λi ys G1 q=>q.1) ?_ ?_ ?_⟩
   . rintro i ys G1 hi ⟨yl,rfl,rfl⟩;obtain⟨r,er⟩:∃r,A[i]? = some r:=⟨_,ag hi⟩;have em:(A.map V.ref)[i]? = some (V.ref r):=by rw[ay,er];rfl
     refine Dy (o7.of kS) em ?_;obtain⟨vs,e,l1,l2⟩:=hln r (aZ er);exact⟨⟨[some _],rfl,rfl⟩,_,rfl,za ⟨rfl,.inl ⟨vs,o7.of (sG _ _ e),l1.symm⟩,by rw[aq,yl];rfl,rfl,by rw[J8 er,aU];rfl⟩⟩
   . rintro ys G1 ⟨_,rfl,_⟩;exact⟨_,o7.of kS,by rw[af];exact ae _⟩
   . rintro ys G1 zp ⟨_,rfl,rfl⟩ nz;rw[bo];have t1:=c7 (o:=.lst (A.map λa=>V.int (ln a:Nat))) nz;have c1:=c4 (H:=G1) (a:=zp) (o:=.lst (A.map λa=>V.int (ln a:Nat)));have zA:zp ∉ A:=λm=>by
      obtain⟨vs,e,_⟩:=hln _ m;rw[sG _ _ e]at nz;cases nz
     have s2:=sG.trans t1;have kS2:=t1 _ _ kS;revert s2 kS2 c1;generalize upd G1 zp (.lst (A.map λa=>V.int (ln a:Nat)))=G2;intro c1 s2 kS2;have kSl:X2 K (.ref sp) G2 A.length:=.inl ⟨_,o7.of kS2,by rw[af]⟩;refine⟨_,rfl,za ⟨rfl,kSl,_,rfl,oM,oM,An (lo:=0) (n:=A.length) (λi σ G3=>∃v5 v7,σ=[some (.ref q),some (.ref z),some (.ref x),some (.ref y),some (.ref sp),v5,some (.ref zp),v7]/\∀b o,b ∉ A.take i->G2 b=some o->G3 b=some o) ⟨_,_,rfl,λb o _ e=>e⟩ ?_ ?_⟩⟩
     . rintro i σ G3 hi ⟨v5,v7,rfl,hG⟩;have hi:i < A.length:=by omega
       obtain⟨r,er⟩:∃r,A[i]? = some r:=⟨_,ag hi⟩;have em:(A.map V.ref)[i]? = some (V.ref r):=by rw[ay,er];rfl
       have en:(A.map λa=>V.int (ln a:Nat))[i]? = some (V.int (ln r:Nat)):=by rw[ay,er];rfl
       have rA:=aZ er;have rt:r ∉ A.take i:=λm=>by
        obtain⟨j,hj,e⟩:=bV m;rw[List.getElem_take]at e;rw[bK]at hj;have:=(List.getElem?_inj (show j < A.length by omega) nd).mp (show A[j]? = A[i]? by rw[er,ag oM,e]);omega
       obtain⟨vs,e,l1,l2⟩:=hln r rA;have e3:=hG r _ rt (s2 _ _ e);have kS3:=hG sp _ (λm=>spA (cU m)) kS2;have c3:=hG zp _ (λm=>zA (cU m)) c1;rw[show(0:Int)+(i:Int)=((i:Nat):Int) by omega];refine⟨_,rfl,_,rfl,zg ⟨rfl,rfl,o7.of kS3,C0 em,za ⟨rfl,.inl ⟨vs,o7.of e3,l1.symm⟩,_,rfl,_,rfl,zg ⟨rfl,rfl,o7.of c3,C0 en,rfl,_,rfl,?_⟩⟩⟩⟩;refine FS (λne=>absurd rfl ne) (λ_=>?_);refine⟨_,rfl,_,rfl,zg ⟨rfl,rfl,o7.of kS3,C0 em,.inl ⟨rfl,_,o7.of e3⟩,?_⟩⟩;refine⟨r,vs,.non,rfl,rfl,e3,oM,?_⟩;refine za ⟨rfl,λb o hb eb=>?_⟩;rw[J8 er]at hb;rw[o4 λw=>hb (by rw[w];simp)];exact hG b o (λm=>hb (aW _ m)) eb
     . rintro σ G3 ⟨v5,v7,rfl,hG⟩;rw[bo]at hG;exact kQ _ λb o hb e=>hG b o hb (s2 _ _ e)
def NO{S:SR}{F:Ab S}{l:List Nat}{n n':Nat}{st st':Nat->S.W}{tb tb':Nat->Nat->Nat->S.W}{en en':Nat->S.W}(h:∀u,AL l u->Q2 S l n st tb en u=Q2 S l n' st' tb' en' u) :
    GM (Q2 S l (n+n') (CT n st st') (CS n tb tb') (ED F n en en')) (Rl F l (n+n') (CT n st st') (CS n tb tb') (ED F n en en'))=[]:=by
 refine EX.mpr λu hu=>?_;have al:AL l u:=(FW KD _ u hu).2;exact(QZ u al).mpr (h u al)
def zN_U{n μ:Nat}:zU n μ<=zN n μ:=by
 show _<=(n+1) * (zU n μ+μ+n);have:=bh (zU n μ+μ+n) (show 1<=n+1 by omega);omega
def Ej{S:SR}{es:List (Nat × (Nat->S.W))}{i:Nat}(hi:i < es.length):Ox es i=(es[i]).1:=by
 unfold Ox;rw[bD,ay,ag hi];rfl
def Lm{R:c9 Pr w K mg base}{l:List Nat}{n n':Nat}{st:Nat->R.S.W}{tb:Nat->Nat->Nat->R.S.W}{en:Nat->R.S.W}{st':Nat->R.S.W}{tb':Nat->Nat->Nat->R.S.W}{en':Nat->R.S.W}{es:List (Nat × (Nat->R.S.W))}(L:Aa l)(hn:n+n'<=60)(hC:MC R 12 400000 n l.length st tb en)(hC':MC R 12 400000 n' l.length st' tb' en')(sm:AM R.S (3 * (60 * (2 * (zN (n+n') 19+20)+1)+(zN (n+n') 19+20))+2))
    (h:∀u,AL l u->Q2 R.S l n st tb en u=Q2 R.S l n' st' tb' en' u) (E:T2 R.F (n+n') ((Rl R.F l (n+n') (CT n st st') (CS n tb tb') (ED R.F n en en')).map (y6 R.S (n+n') (CT n st st') (E7 l (CS n tb tb')))) es) :
    TY R l n n' (zN (n+n') 19+20) st tb en st' tb' en' es (Vm es (CT n st st')) (Ol (n+n') es (CS n tb tb')):=by
 have hB:MB R.B (n+n') l.length 19 (CT n st st') (CS n tb tb') (ED R.F n en en'):=(MC.both (by decide) hC hC').mb (by decide) (by decide) (by decide);have nil:=NO (F:=R.F) h;have hz:=EX.mp nil;have e:=IY (F:=R.F) (l:=l) (n:=n+n') (ρ:=y6 R.S (n+n') (CT n st st') (E7 l (CS n tb tb'))) (D:=Q2 R.S l (n+n') (CT n st st') (CS n tb tb') (ED R.F n en en')) (n+n'+1) hz;have e2:Rl R.F l (n+n') (CT n st st') (CS n tb tb') (ED R.F n en en')=Fb R.F (n+n') (y6 R.S (n+n') (CT n st st') (E7 l (CS n tb tb'))) (gB l):=congrArg Wr.told e;have E2:=E;rw[e2]at E2;have N:=Vo hB E2;have zU1:=zN_U (n:=n+n') (μ:=19);have zk:∀i,i < es.length->Ox es i < n+n'/\XB R.B (n+n') (zU (n+n') 19) (zU (n+n') 19) (Mine.kv es i):=λi hi=>by
  have:=E.xb (λx hx=>by
   obtain⟨u,hu,rfl⟩:=aE.mp hx;obtain⟨a,b⟩:=FW KD _ u hu;exact(hB.row u b).mono (N9 a) (N9 a)) es[i] (aM hi)
  rw[Ej hi,show Mine.kv es i=es[i].2 from EA (ag hi)];exact this
 refine⟨L,hn,E.le,Vc L.nd E nil,λi hi j hj=>?_,λi hi=>?_,λa ha i hi j hj=>?_,?_,?_,sm⟩
 . exact(zk i hi).2.sz oM oM hj
 . exact XB.sz N.1 oM oM hi
 . obtain⟨b,b0,b1,hb⟩:=N.tb a ha;exact R.B.sz _ _ _ _ (ah b1 (AQ oM)) (AQ oM) (hb i hi j hj)
 . have:=hC.szm (by decide);exact⟨λi hi=>R.S.sz_mono _ _ _ oM (this.st i hi),λa ha i hi j hj=>R.S.sz_mono _ _ _ oM (this.tb a ha i hi j hj),λi hi=>R.S.sz_mono _ _ _ oM (this.en i hi)⟩
 . have:=hC'.szm (by decide);exact⟨λi hi=>R.S.sz_mono _ _ _ oM (this.st i hi),λa ha i hi j hj=>R.S.sz_mono _ _ _ oM (this.tb a ha i hi j hj),λi hi=>R.S.sz_mono _ _ _ oM (this.en i hi)⟩
def Rw:List Str:=["echelon","alike"]
def Pl(K:aa):Sp:=λvs H Q _=>∃(a:Addr) (ns:List Int),vs=[.ref a]/\o7 K H a (ns.map V.int)/\ns.length<=63/\(∀y∈Rw,∀c P,PySem.W.tabIn K y=some (c,P)->H P=some (.tbl #[]))/\∀H',Q (.bl true) H'
def MX{H:Hp}{P:Addr}{q:Str}(h:H P=some (.tbl #[])):O9 H P q:=⟨#[],h,trivial,λlp v e=>by simp[codeAmong]at e⟩
def Ru(T:Txt K mg t){H:Hp}(h:∀y∈Rw,∀c P,PySem.W.tabIn K y=some (c,P)->H P=some (.tbl #[])):M1 t H:=λp hp=>by
 rcases ar.mp hp with rfl | hp
 . exact MX (h "echelon" (by simp[Rw]) _ _ T.tb_echelon)
 rcases ar.mp hp with rfl | hp
 . exact MX (h "alike" (by simp[Rw]) _ _ T.tb_alike)
 . cases hp
def Mv{n:Nat}{i:Int}(h:(n:Int)<=i):Builtin.Str.strSliceIndices none (some i) 1 n=Builtin.Str.strSliceIndices none (some (n:Int)) 1 n:=by
 have h0:¬i < 0:=by omega
 have h1:¬((n:Int) < 0):=by omega
 have h2:(1:Int) > 0:=by decide
 simp only[Builtin.Str.strSliceIndices,h0,h1,h2,if_false,if_true,Int.min_eq_right h,Int.min_self]
def UA{p:List Nat}{q:Int}(h0:0<=q):Txt.slice (tx p) none (some q)=tx (p.take q.toNat):=by
 by_cases h1:q<=p.length
 . exact Tw h0 h1
 . have e2:Txt.slice (tx p) none (some q)=Txt.slice (tx p) none (some ((p.length:Nat):Int)):=by
    unfold Txt.slice;rw[Y8,Mv oM]
   rw[e2,Tw oM (Int.le_refl _),cS oM,cS oM]
theorem Aa.take{l:List Nat}(L:Aa l)(k:Nat):Aa (l.take k):=⟨L.nd.sublist (List.take_sublist _ _),λc hc=>L.as c (cU hc),by have:=L.h3;rw[bK];omega⟩
def LJ{S:SR}{m:Nat}(h:m<=4\/∀k,AM S k):AM S (3 * zC m 19):=by
 rcases h with h | h
 . have h1:zC m 19<=20000000:=by
    rcases(by omega:m=0\/m=1\/m=2\/m=3\/m=4)with e | e | e | e | e <;>rw[e] <;>decide +kernel
   exact .inl oM
 . exact h _
def LI{S:SR}{m:Nat}(h:m<=4\/∀k,AM S k):AM S (3 * (60 * (2 * (zN m 19+20)+1)+(zN m 19+20))+2):=by
 rcases h with h | h
 . have h1:zN m 19<=148595:=by
    rcases(by omega:m=0\/m=1\/m=2\/m=3\/m=4)with e | e | e | e | e <;>rw[e] <;>decide +kernel
   exact .inl oM
 . exact h _
def Qx{k n:Nat}{d:Nat->PyData}(h:∀j,Gd k (d j)):Gd (k+1) (.list ((List.range n).map d)):=by
 obtain⟨a,b,c⟩:=IT (k:=k) (ds:=(List.range n).map d) λx hx=>by
  obtain⟨j,_,rfl⟩:=aE.mp hx;exact h j
 exact⟨by simp[PyData.canLay0,a],by simp only[PyData.depth];omega,by simp[noMix,c]⟩
def Gd.lst{k:Nat}{ds:List PyData}(h:∀d∈ds,Gd k d):Gd (k+1) (.list ds):=by
 obtain⟨a,b,c⟩:=IT h;exact⟨by simp[PyData.canLay0,a],by simp only[PyData.depth];omega,by simp[noMix,c]⟩
def Ng{R:c9 Pr w K mg base}{m N:Nat}{x:Nat->Nat->R.S.W}{us:List V}{p:Addr}{H:Hp}(hp:H p=some (.lst us))(e:j7 (λi u H=>j9 R N (x i) u H) us m H):Is K H (.ref p) (.list ((List.range m).map λi=>Fl N λj=>R.S.data (x i j))):=by
 have a:=Dz (K:=K) (H:=H) (λi=>Fl N λj=>R.S.data (x i j)) us λj u ej=>by
  obtain⟨hj,q⟩:=e.at ej;exact Lq q λi u' _ q'=>R.isd q'
 rw[e.1]at a;exact .lst (o7.of hp) a
def OV{R:c9 Pr w K mg base}{m:Nat}{c:Nat->R.S.W}{us:List V}{p:Addr}{H:Hp}(hp:H p=some (.lst us))(e:j7 (λi u H=>R.is H u (c i)) us m H):Is K H (.ref p) (.list ((List.range m).map λi=>R.S.data (c i))):=by
 have a:=Dz (K:=K) (H:=H) (λi=>R.S.data (c i)) us λj u ej=>by
  obtain⟨hj,q⟩:=e.at ej;exact R.isd q
 rw[e.1]at a;exact .lst (o7.of hp) a
section
variable{R:c9 Pr w K mg base}{k n:Nat}{es:List (Nat × (Nat->R.S.W))}{c:Nat->R.S.W}{D:Nat->Nat->Nat->R.S.W}{q z x y:Addr}{us fs:List V}{ps:List (Addr × List Addr)}{H H':Hp}
def Aq.sameD(hT:M1 t H)(g:J6 (DT t) H H')(h:Aq R k n es c D q z x y us fs ps H):Aq R k n es c D q z x y us fs ps H':=by
 have u:=g.tup hT.not;have l:∀{a:Addr} {vs:List V},H a=some (.lst vs)->H' a=some (.lst vs):=λ{a vs} e=>g _ _ (hT.lst e) e;exact⟨u _ _ h.hq,l h.hz,h.hu.mono λ_ _ _ z=>j9.same u z,l h.hx,h.hf.mono λ_ _ _ z=>R.same u z,l h.hy,h.pl,λa s e=>by
  obtain⟨h1,h2,h3⟩:=h.hp a s e;exact⟨l h1,h2,λi r e=>let⟨ws,a,b⟩:=h3 i r e;⟨ws,l a,b.mono λ_ _ _ z=>R.same u z⟩⟩,h.nd⟩
def Tg{T:Txt K mg t}{nm:Str}{p:Int}(hS:So T R nm p)(h:Aq R k n es c D q z x y us fs ps H){a b p1 p2:Addr}{Q:VK}(ha:H a=some (.lst [.ref z,.ref x]))(hb:H b=some (.lst [.ref p1,.ref p2]))(h1:H p1=some (.lst us))(h2:H p2=some (.lst fs))(kk:Q (.bl false) H):Oe K (.ref a) (.ref b) H Q:=by
 have g:Gd 5 (.list [.list ((List.range es.length).map λi=>Fl n λj=>R.S.data (Mine.kv es i j)),.list ((List.range es.length).map λi=>R.S.data (c i))]):=Gd.lst λd hd=>by
  rcases ar.mp hd with rfl | hd
  . exact Qx λi=>Lr λj=>hS.gd _
  . rw[av.mp hd];exact(Qx λi=>hS.gd _).up (by decide)
 exact za ⟨.lst (o7.of ha) (.cons (Ng h.hz h.hu) (.cons (OV h.hx h.hf) .nil)),.lst (o7.of hb) (.cons (Ng h1 h.hu) (.cons (OV h2 h.hf) .nil)),g.sh (by decide),g.sh (by decide),g.mix,by rw[PySem.Spec.same_self];exact kk⟩
end
def Jj{S:SR}{F:Ab S}{l:List Nat}{n n':Nat}{st st':Nat->S.W}{tb tb':Nat->Nat->Nat->S.W}{en en':Nat->S.W}{A:Prop}{B:List Nat->Prop}(h:∀u,AL l u->Q2 S l n st tb en u=Q2 S l n' st' tb' en' u)
    (a:∀ws,GM (Q2 S l (n+n') (CT n st st') (CS n tb tb') (ED F n en en')) (Rl F l (n+n') (CT n st st') (CS n tb tb') (ED F n en en'))=ws->(ws=[]/\A)\/∃u T,ws=u::T/\B u):A:=by
 rcases a _ rfl with ⟨_,a⟩ | ⟨u,T,e,_⟩
 . exact a
 . rw[NO h]at e;cases e
def Vi(T:Txt K mg t)(hTb:TbA mg base t):x8 Pr w K mg base F9 62 t.law t.n0m ["_law_script"] (Pl K):=by
 refine T.n0l.F.ok M7 (by rintro _ _ _ _ ⟨_,_,rfl,_⟩;rfl) λcdv A outer s H vs Q E hr h=>?_;obtain⟨a0,ns,rfl,hS0,hlen,hP,kQ⟩:=h;have zl:10000 < sizeLine:=by decide
 have hT0:=Ru T hP;refine⟨_,(a8 (sT 1 M7.nd (E6 (Ir T) hr.m T.i0u (B4 (pv 0)))) (a8 (sT 2 M7.nd (E6 (Ka T) hr.m T.k0n (B4 (pv 1)))) (a8 (sT 3 M7.nd (E6 (Kd T) hr.m T.j0p (B4 (pv 2)))) (a8 (sT 4 M7.nd (E6 (FF T) hr.m T.h0g (B4 (pv 1)))) (a8 (sT 5 M7.nd (E6 (y7 T) hr.m T.k0b (F6 (pv 1) c5))) (a8 (sT 6 M7.nd c5) (a8 (B0 (o8 M5 (pv 2) c5 (w6 _)) (a8 (sT 4 M7.nd (Aj UB (pv 4) BQ (BP c5))) (a8 (sT 5 M7.nd (o6 L5 (o6 Al (pv 5) c5) (o6 Al (pv 5) c5))) (c6 (sT 6 M7.nd (j8 BS (by rfl) T.z_int boot_int (B4 (Dj Ni (pv 5) c5 (w6 _)))))))) (c6 (B0 (o8 M5 (E6 (y7 T) hr.m T.k0b (F6 (pv 1) c5)) c5 (w6 _)) (c6 (sT 5 M7.nd (o6 L5 c5 (E6 (y7 T) hr.m T.k0b (F6 (pv 1) c5))))) o5))) (a8 (sT 7 M7.nd (E6 (FE T) hr.m T.h0k (Ew (pv 1) (pv 2) (pv 4) (pv 5)))) (a8 (sT 8 M7.nd (E6 (Bu T) hr.m T.h0h (Ew (pv 1) (pv 2) (pv 7) (pv 6)))) (a8 (sT 9 M7.nd (E6 (Bu T) hr.m T.h0h (Ew (pv 1) (pv 2) (pv 7) (pv 6)))) (a8 (sT 10 M7.nd (E6 (FJ T hTb) hr.m T.m0x (X1 (pv 3) (pv 8) (pv 9)))) (a8 (B0 (E4 (D2 (E6 (S4 T) hr.m T.h0y (D8 (pv 3) (Ew (pv 2) (pv 8) (pv 9) (pv 10)))))) (c6 (c8 F4)) o5) (a8 (sT 11 M7.nd (D3 (F6 (j8 K7 (by rfl) T.z_list boot_list (B4 (j5 i0 (j5 i0 (pv 10) c5 (λ_ _=>rfl)) c5 (λ_ _=>rfl)))) (j8 K7 (by rfl) T.z_list boot_list (B4 (j5 i0 (j5 i0 (pv 10) c5 (λ_ _=>rfl)) c5 (λ_ _=>rfl))))))) (a8 (B0 (E4 (D2 (E6 (S4 T) hr.m T.h0y (D8 (pv 3) (Ew (pv 2) (pv 9) (pv 8) (E6 (FJ T hTb) hr.m T.m0x (X1 (pv 3) (pv 9) (pv 8)))))))) (c6 (c8 F4)) o5) (a8 (B0 (o8 (Cy hr.units) (D3 (F6 (j5 i0 (j5 i0 (pv 10) c5 (λ_ _=>rfl)) c5 (λ_ _=>rfl)) (j5 i0 (j5 i0 (pv 10) c5 (λ_ _=>rfl)) c5 (λ_ _=>rfl)))) (pv 11) (w6 _)) (c6 (c8 F4)) o5) (a8 (B0 (PW.pt (Ag (E4 (D2 (E6 (S4 T) hr.m T.h0y (D8 (pv 3) (Ew (pv 2) (pv 8) (pv 9) (pv 10)))))) (V9 (E4 (D2 (E6 (BW T) hr.m T.f0r (B4 (j5 i0 (pv 10) c5 (λ_ _=>rfl))))))))) (c6 (c8 F4)) o5) (c6 (c8 (E6 (S4 T) hr.m T.h0y (D8 (pv 3) (Ew (pv 2) (pv 8) (pv 9) (E6 (FJ T hTb) hr.m T.m0x (X1 (pv 3) (pv 8) (pv 9)))))))))))))))))))))))),?_⟩;refine⟨_,rfl,a0,ns,rfl,hS0,hlen,λa H1 na s1 d1=>?_⟩;have hT1:=hT0.same s1;refine⟨_,rfl,a,rfl,d1,λR nm p so H2 hS hso s2 d2=>?_⟩;obtain rfl:so=.int p:=hso;obtain⟨xs1,hx1⟩:=d1.lst;have hT2:=hT1.sameX s2 hx1;refine⟨_,rfl,R,zm nm p (.int p) ⟨hS,rfl,rfl,λkv H3 s3 hk=>?_⟩⟩;have d3:=d2.same s3;have hT3:=hT2.same s3;refine⟨_,rfl,a,rfl,d3,λl H4 s4 d4 L l1=>?_⟩;refine⟨_,rfl,a,4,rfl,⟨d4,by decide,by decide⟩,λm H5 s5 d5 a5 b5=>?_⟩;show E9 5 (.int m) [some (.ref a0),some (.ref a),some (.int p),some kv,some (vT l),none,none,none,none,none,none,none] H5 _;have RM:=s4.trans s5;have hfr:p=0\/(0 < p/\∀k,AM R.S k):=by
  cases hS with
  | fr=>exact .inl rfl
  | re p hp hq hi=>exact .inr ⟨oM,λk=>.inr λ_ _=>trivial⟩
 refine(λ(key:∀(l:List Nat) (n z:Nat) (G:Hp),l9 a H3 G->Dr G a->Aa l->n+z<=8->(n+z<=2\/∀k,AM R.S k)->(?F:L2.St->Hp->Prop) [some (.ref a0),some (.ref a),some (.int p),some kv,some (vT l),some (.int (n:Nat)),some (.int (z:Nat)),none,none,none,none,none] G)=>?main) ?Af
 case main=>
  refine⟨_,rfl,rfl,_,rfl,?_⟩;refine Dx (λe=>?_) (λne=>?_)
  . have l3:=L.h3;refine⟨_,rfl,_,rfl,_,rfl,(by rw[Y8];omega),?_⟩;rw[UA (by decide)];refine⟨_,rfl,za ⟨rfl,rfl,DL (by decide) (by decide) _,_,rfl,za ⟨rfl,rfl,DL (by decide) (by decide) _,za ⟨rfl,rfl,?_⟩⟩⟩⟩;obtain⟨n,en,hn⟩:∃n:Nat,m.fdiv 2+m.fdiv 3=(n:Int)/\n<=2:=by
     rcases(by omega:m=0\/m=1\/m=2\/m=3)with rfl | rfl | rfl | rfl
     . exact⟨0,rfl,by decide⟩
     . exact⟨0,rfl,by decide⟩
     . exact⟨1,rfl,by decide⟩
     . exact⟨2,rfl,by decide⟩
    show E9 5 (.int (m.fdiv 2+m.fdiv 3)) [some (.ref a0),some (.ref a),some (.int p),some kv,some (vT (l.take 2)),some (.int m),some (.int 1),none,none,none,none,none] H5 _;rw[en];refine⟨_,rfl,za ⟨rfl,rfl,.inr ⟨_,rfl,?_⟩⟩⟩;show E9 6 (.int (if decide ((n:Int) < 2)=true then 1 else 0)) [some (.ref a0),some (.ref a),some (.int p),some kv,some (vT (l.take 2)),some (.int (n:Nat)),some (.int 1),none,none,none,none,none] H5 _;by_cases h2:(n:Int) < 2
    . rw[if_pos (decide_eq_true h2)];exact key _ n 1 H5 RM d5 (L.take 2) oM (.inl oM)
    . rw[if_neg (by rw[decide_eq_false h2];exact aJ)];exact key _ n 0 H5 RM d5 (L.take 2) oM (.inl oM)
  . have hs:∀k,AM R.S k:=hfr.elim (λe=>absurd e ne) And.right;refine⟨_,rfl,a,8,rfl,⟨d5,by decide,by decide⟩,λr H6 s6 d6 a6 b6=>⟨rfl,_,rfl,?_⟩⟩;refine Dx (λ_=>?_) (λ_=>?_)
    . refine⟨_,rfl,a,4,rfl,⟨d6,by decide,by decide⟩,λr7 H7 s7 d7 a7 b7=>za ⟨rfl,rfl,?_⟩⟩;obtain⟨n,en⟩:∃n:Nat,4+r7=(n:Int):=⟨(4+r7).toNat,oM⟩;show E9 5 (.int (4+r7)) [some (.ref a0),some (.ref a),some (.int p),some kv,some (vT l),some (.int m),some (.int 1),none,none,none,none,none] H7 _;rw[en];exact key l n 1 H7 (RM.trans (s6.trans s7)) d7 L oM (.inr hs)
    . obtain⟨n,rfl⟩:∃n:Nat,m=(n:Int):=⟨m.toNat,oM⟩;exact key l n 1 H6 (RM.trans s6) d6 L oM (.inr hs)
 case Af=>
  clear L l1 s4 s5 d4 d5 RM H4 H5;intro l n z G sG dG L hnz hz;have hSm:n+z<=2\/∀k,AM R.S k:=hz;refine⟨_,rfl,_,rfl,_,rfl,_,rfl,R,zy nm p a (.int p) l n _ ⟨hS,rfl,⟨dG,rfl,L,oM,rfl⟩,λbv G1 st tb en t1 e1 hN hC=>?_⟩⟩;refine⟨_,rfl,_,rfl,_,rfl,_,rfl,R,zG nm p a (.int p) bv l n z st tb en ⟨hS,rfl,⟨e1,rfl,L,oM,hN,hC⟩,λmv G2 n1 st1 tb1 Rm t2 e2 g1 g1' hM O1=>?_⟩⟩;refine⟨_,rfl,_,rfl,_,rfl,_,rfl,R,zG nm p a (.int p) bv l n z st tb en ⟨hS,rfl,⟨e2,rfl,L,oM,x6.same (t2.tt e1) hN,hC⟩,λov G3 n2 st2 tb2 en2 t3 e3 g2 g2' hM' O2=>?_⟩⟩;have hM3:=x6.same (t3.tt e2) hM;have qX:l9 a H3 G3:=sG.trans (t1.trans (t2.trans t3));obtain⟨xs3,hx3⟩:=d3.lst;have hT3':=hT3.sameX qX hx3;have hk3:U1 R.C R.fs G3 kv:=by
   obtain⟨kp,dx,rfl,hkp⟩:=hk;exact⟨kp,dx,rfl,qX _ _ (λz=>by rw[z,hx3]at hkp;cases hkp) hkp⟩
  have bd:∀{a b:Nat},a<=n+z->b<=n+z->a+b<=4\/∀k,AM R.S k:=λ{a b} ha hb=>hSm.imp_left λh=>by omega
  have w12:∀u,AL l u->Q2 R.S l n1 st1 tb1 Rm u=Q2 R.S l n2 st2 tb2 en2 u:=λu hu=>(O1.wt u hu).trans (O2.wt u hu).symm;have B12:=(MC.both (R:=R) (by decide) O1.mc O2.mc).mb (μ:=19) (by decide) (by decide) (by decide);have B21:=(MC.both (R:=R) (by decide) O2.mc O1.mc).mb (μ:=19) (by decide) (by decide) (by decide);refine⟨_,rfl,_,rfl,_,rfl,R,kv,mv,ov,l,n1,n2,19,st1,tb1,Rm,st2,tb2,en2,rfl,⟨hk3,hM3,hM',B12,L,oM,LJ (bd g1' g2'),hT3'⟩,λpf x4 G4 sD4 hT4 a4=>?_⟩;obtain⟨hp,es,hE,q,zz,xx,yy,us,fs,ps,rfl,W⟩:=Jj w12 a4;have u4:B5 G3 G4:=sD4.tup hT3'.not;have hk4:=U1.sameD sD4 hT3'.not hk3;have hM4:=x6.same u4 hM3;have hN4:=x6.same u4 hM';have W12:=Lm L oM O1.mc O2.mc (LI (bd g1' g2')) w12 hE;refine⟨_,rfl,_,rfl,_,rfl,_,rfl,_,rfl,R,nm,p,kv,.int p,mv,ov,pf,l,n1,n2,_,st1,tb1,Rm,st2,tb2,en2,es,za ⟨q,zz,xx,yy,us,fs,ps,hS,rfl,⟨rfl,hk4,hM4,hN4,hp,W,W12⟩,λG5 s5=>⟨_,rfl,?_⟩⟩⟩
  (try refine L7 ?_)
  have W5:=W.same s5;have hp5:=s5 _ _ hp;refine⟨_,rfl,zg ⟨rfl,rfl,o9.of hp5,rfl,zg ⟨rfl,rfl,o9.of W5.hq,rfl,zz,us,rfl,.inl (o7.of W5.hz),λp6 n6=>?_⟩⟩⟩;refine E8 (o:=.lst us) n6 λG6 s6 k6=>?_;have W6:=W5.same s6;refine⟨_,rfl,zg ⟨rfl,rfl,o9.of (s6 _ _ hp5),rfl,zg ⟨rfl,rfl,o9.of W6.hq,rfl,xx,fs,rfl,.inl (o7.of W6.hx),λp7 n7=>?_⟩⟩⟩;refine E8 (o:=.lst fs) n7 λG7 s7 k7=>?_;refine⟨(by show 2<=sizeLine;decide),λp8 n8=>?_⟩;refine E8 (o:=.lst [V.ref p6,V.ref p7]) n8 λG8 s8 k8=>?_;have LR:=s5.trans (s6.trans (s7.trans s8));have hT8:=hT4.same LR;have hk8:=hk4.same LR;have hM8:=x6.same LR.t hM4;have hN8:=x6.same LR.t hN4;refine⟨_,rfl,_,rfl,_,rfl,_,rfl,_,rfl,_,rfl,_,rfl,R,kv,ov,mv,l,n2,n1,19,st2,tb2,en2,st1,tb1,Rm,rfl,⟨hk8,hN8,hM8,B21,L,oM,LJ (bd g2' g1'),hT8⟩,λpf9 x9 G9 sD9 hT9 a9=>?_⟩;have w21:∀u,AL l u->Q2 R.S l n2 st2 tb2 en2 u=Q2 R.S l n1 st1 tb1 Rm u:=λu hu=>(w12 u hu).symm;obtain⟨hp9,es9,hE9,q9,z9,x9',y9,us9,fs9,ps9,rfl,W9⟩:=Jj w21 a9;have u9:B5 G8 G9:=sD9.tup hT8.not;have hk9:=U1.sameD sD9 hT8.not hk8;have hM9:=x6.same u9 hM8;have hN9:=x6.same u9 hN8;refine⟨R,nm,p,kv,.int p,ov,mv,pf9,l,n2,n1,_,st2,tb2,en2,st1,tb1,Rm,es9,za ⟨q9,z9,x9',y9,us9,fs9,ps9,hS,rfl,⟨rfl,hk9,hN9,hM9,hp9,W9,Lm L oM O2.mc O1.mc (LI (bd g2' g1')) w21 hE9⟩,λG10 Gv=>⟨_,rfl,?_⟩⟩⟩
  (try refine L7 ?_)
  clear W9 hp9 hE9 a9;have W10:=((W5.same (s6.trans (s7.trans s8))).sameD hT8 sD9).same Gv;have hp10:=Gv _ _ (u9 _ _ ((s6.trans (s7.trans s8)) _ _ hp5));have lk:∀{a:Addr} {vs:List V},G8 a=some (.lst vs)->G10 a=some (.lst vs):=λ{a vs} e=>Gv _ _ (sD9 _ _ (hT8.lst e) e);have h8:=lk k8;have h6:=lk ((s7.trans s8) _ _ k6);have h7:=lk (s8 _ _ k7);refine⟨_,rfl,zg ⟨rfl,rfl,o9.of hp10,rfl,zg ⟨rfl,rfl,o9.of W10.hq,rfl,_,rfl,zg ⟨rfl,rfl,o9.of hp10,rfl,zg ⟨rfl,rfl,o9.of W10.hq,rfl,(by show 2<=sizeLine;decide),λp11 n11=>?_⟩⟩⟩⟩⟩;refine E8 (o:=.lst [V.ref zz,V.ref xx]) n11 λG11 Gu k11=>?_;have W11:=W10.same Gu;refine⟨_,rfl,Tg hS W11 k11 (Gu _ _ h8) (Gu _ _ h6) (Gu _ _ h7) ⟨_,rfl,?_⟩⟩
  (try refine L7 ?_)
  have hT11:=(hT9.same Gv).same Gu;have hk11:=(hk9.same Gv).same Gu;have hM11:=x6.same (Gv.trans Gu).t hM9;have hN11:=x6.same (Gv.trans Gu).t hN9;have hp11:=Gu _ _ hp10;refine⟨_,rfl,_,rfl,_,rfl,_,rfl,_,rfl,R,nm,p,kv,.int p,mv,ov,pf,l,n1,n2,_,st1,tb1,Rm,st2,tb2,en2,es,za ⟨q,zz,xx,yy,us,fs,ps,hS,rfl,⟨rfl,hk11,hM11,hN11,hp11,W11,W12⟩,λG12 DW=>⟨_,rfl,?_⟩⟩⟩
  (try refine L7 ?_)
  have W13:=W11.same DW;refine⟨_,rfl,zg ⟨rfl,rfl,o9.of (DW _ _ hp11),rfl,R,zH _ _ es _ _ q zz xx yy us fs ps ⟨rfl,⟨W13,L.h3,?_⟩,λG13 EI=>⟨_,rfl,?_⟩⟩⟩⟩
  . have:=W12.hm;omega
  (try refine L7 ?_)
  have WL:=W13.lists (by have:=L.h3;omega) (by have:=W12.hm;omega);have nT:∀{a:Addr} {o:HO},G12 a=some o->(∀vs,o≠.lst vs)->G13 a=some o:=λ{a o} e n=>EI a o (λm=>by
   obtain⟨vs,e',_⟩:=WL a m;rw[e]at e';exact n vs (Option.some.inj e')) e
  have u13:B5 G12 G13:=λa vs e=>nT e λ_=>by simp
  have hT13:M1 t G13:=λpp hpp=>by
   obtain⟨ts,h1,h2,h3⟩:=(hT11.same DW) pp hpp;refine⟨ts,nT h1 λ_=>by simp,h2,λlp v e=>?_⟩;obtain⟨c,e1,oc,vs,tk,y1,y2⟩:=h3 lp v e;exact⟨c,e1,oc,vs,tk,nT y1 λ_=>by simp,y2⟩
  have hk13:U1 R.C R.fs G13 kv:=by
   obtain⟨kp,dx,rfl,hkp⟩:=hk11.same DW;exact⟨kp,dx,rfl,nT hkp λ_=>by simp⟩
  have hM13:=x6.same u13 (x6.same DW.t hM11);have hN13:=x6.same u13 (x6.same DW.t hN11);refine⟨_,rfl,_,rfl,_,rfl,_,rfl,_,rfl,_,rfl,_,rfl,R,kv,mv,ov,l,n1,n2,19,st1,tb1,Rm,st2,tb2,en2,rfl,⟨hk13,hM13,hN13,B12,L,oM,LJ (bd g1' g2'),hT13⟩,λpf9 x9 G14 sD14 hT14 a14=>?_⟩;obtain⟨hp14,es14,hE14,q14,z14,x14',y14,us14,fs14,ps14,rfl,W14⟩:=Jj w12 a14;have u14:B5 G13 G14:=sD14.tup hT13.not;refine⟨R,nm,p,kv,.int p,mv,ov,pf9,l,n1,n2,_,st1,tb1,Rm,st2,tb2,en2,es14,za ⟨q14,z14,x14',y14,us14,fs14,ps14,hS,rfl,⟨rfl,U1.sameD sD14 hT13.not hk13,x6.same u14 hM13,x6.same u14 hN13,hp14,W14,Lm L oM O1.mc O2.mc (LI (bd g1' g2')) w12 hE14⟩,λG15 RQ=>kQ _⟩⟩
def Ow(T:Txt K mg t):∀(s:Shared) (u:Value),BindsTo s t.n0m ⟨[u],[]⟩ [("_law_script",u)]:=by
 obtain⟨oc,od,kV,doc,pm,an,cdv,ct,osl,e,_,_⟩:=T.n0l.F.ex;rw[e];exact λs u=>.of_eq rfl
end
abbrev NS(K:aa)(x:Str)(a:Addr):Prop:=PySem.W.nsIn K mainGlobals x=some (some (.ref a))
abbrev KI(K:aa)(a:Addr):Prop:=PySem.W.keepIn K (.ref a)=true
abbrev FX(K:aa)(n q:Str)(s:Stmt)(a:Addr):Prop:=∃d,Ll K n q s a d
def fx{K:aa}{x q:Str}{s:Stmt}{f:Addr}{b:Value}{u v:Option Addr}{w:Array (Option Value)}{c d e g j:Value}(l:K.lookup f=some ⟨b,u,.func (PySem.W.fnOf x q (D9 s) (D0 s) (b9 s) .none c d e v g j),w⟩)(h:PySem.W.codeIn K g q=true)(k:KI K f):FX K x q s f:=⟨_,QS l h k⟩
def OR{us:List Value}{n:Nat}(h:us.length=n+1):∃a l,us=a::l/\l.length=n:=by cases us with | nil=>cases h | cons a l=>exact⟨a,l,rfl,Nat.succ.inj h⟩
def Wv{K:aa}{x q:Str}{s:Stmt}{f:Addr}{fd:FuncData}{p0:Str}(F:Ll K x q s f fd)(h:∀(c d e:Value) (v:Option Addr) (g j:Value) (u0:Value),bindArgs (PySem.W.fnOf x q (D9 s) (D0 s) (b9 s) .none c d e v g j) ⟨[u0],[]⟩=pure (([p0]:List Str).zip [u0]):=by intros;rfl):K9 K fd [p0] []:=F.binds λc d e v g j us hl=>match us,hl with | [u0],_=>h c d e v g j u0
def TV{K:aa}{x q:Str}{s:Stmt}{f:Addr}{fd:FuncData}{p0 p1:Str}(F:Ll K x q s f fd)(h:∀(c d e:Value) (v:Option Addr) (g j:Value) (u0 u1:Value),bindArgs (PySem.W.fnOf x q (D9 s) (D0 s) (b9 s) .none c d e v g j) ⟨[u0,u1],[]⟩=pure (([p0,p1]:List Str).zip [u0,u1]):=by intros;rfl):K9 K fd [p0,p1] []:=F.binds λc d e v g j us hl=>match us,hl with | [u0,u1],_=>h c d e v g j u0 u1
def e0i{K:aa}{x q:Str}{s:Stmt}{f:Addr}{fd:FuncData}{p0 p1 p2:Str}(F:Ll K x q s f fd)(h:∀(c d e:Value) (v:Option Addr) (g j:Value) (u0 u1 u2:Value),bindArgs (PySem.W.fnOf x q (D9 s) (D0 s) (b9 s) .none c d e v g j) ⟨[u0,u1,u2],[]⟩=pure (([p0,p1,p2]:List Str).zip [u0,u1,u2]):=by intros;rfl):K9 K fd [p0,p1,p2] []:=F.binds λc d e v g j us hl=>by obtain⟨u0,_,rfl,k0⟩:=OR hl;obtain⟨u1,_,rfl,k1⟩:=OR k0;obtain⟨u2,_,rfl,k2⟩:=OR k1;cases bw.mp k2;exact h c d e v g j u0 u1 u2
def bn4{K:aa}{x q:Str}{s:Stmt}{f:Addr}{fd:FuncData}{p0 p1 p2 p3:Str}(F:Ll K x q s f fd)(h:∀(c d e:Value) (v:Option Addr) (g j:Value) (u0 u1 u2 u3:Value),bindArgs (PySem.W.fnOf x q (D9 s) (D0 s) (b9 s) .none c d e v g j) ⟨[u0,u1,u2,u3],[]⟩=pure (([p0,p1,p2,p3]:List Str).zip [u0,u1,u2,u3]):=by intros;rfl):K9 K fd [p0,p1,p2,p3] []:=F.binds λc d e v g j us hl=>by obtain⟨u0,_,rfl,k0⟩:=OR hl;obtain⟨u1,_,rfl,k1⟩:=OR k0;obtain⟨u2,_,rfl,k2⟩:=OR k1;obtain⟨u3,_,rfl,k3⟩:=OR k2;cases bw.mp k3;exact h c d e v g j u0 u1 u2 u3
def bn5{K:aa}{x q:Str}{s:Stmt}{f:Addr}{fd:FuncData}{p0 p1 p2 p3 p4:Str}(F:Ll K x q s f fd)(h:∀(c d e:Value) (v:Option Addr) (g j:Value) (u0 u1 u2 u3 u4:Value),bindArgs (PySem.W.fnOf x q (D9 s) (D0 s) (b9 s) .none c d e v g j) ⟨[u0,u1,u2,u3,u4],[]⟩=pure (([p0,p1,p2,p3,p4]:List Str).zip [u0,u1,u2,u3,u4]):=by intros;rfl):K9 K fd [p0,p1,p2,p3,p4] []:=F.binds λc d e v g j us hl=>by obtain⟨u0,_,rfl,k0⟩:=OR hl;obtain⟨u1,_,rfl,k1⟩:=OR k0;obtain⟨u2,_,rfl,k2⟩:=OR k1;obtain⟨u3,_,rfl,k3⟩:=OR k2;obtain⟨u4,_,rfl,k4⟩:=OR k3;cases bw.mp k4;exact h c d e v g j u0 u1 u2 u3 u4
abbrev DX(K:aa)(n:Str)(s:Stmt)(a:Addr):Prop:=NS K n a/\FX K n n s a
def dx{K:aa}{x:Str}{s:Stmt}{f:Addr}{b:Value}{u v:Option Addr}{w:Array (Option Value)}{c d e g j:Value}(m:NS K x f)(l:K.lookup f=some ⟨b,u,.func (PySem.W.fnOf x x (D9 s) (D0 s) (b9 s) .none c d e v g j),w⟩)(h:PySem.W.codeIn K g x=true)(k:KI K f):DX K x s f:=⟨m,_,QS l h k⟩
def OS{K:aa}{x:Str}{s:Stmt}{f:Addr}{H:Heap}{mg:Str->Option Value}(X:K.In H)(G:H.Ns mainGlobals mg){p0:Str}(m:DX K x s f)(h:∀(c d e:Value) (v:Option Addr) (g j:Value) (u0:Value),bindArgs (PySem.W.fnOf x x (D9 s) (D0 s) (b9 s) .none c d e v g j) ⟨[u0],[]⟩=pure (([p0]:List Str).zip [u0]):=by intros;rfl):Df K mg x s [p0] f m.2.choose:=⟨m.2.choose_spec,Wv m.2.choose_spec h,cD X G m.1⟩
def OF{K:aa}{x:Str}{s:Stmt}{f:Addr}{H:Heap}{mg:Str->Option Value}(X:K.In H)(G:H.Ns mainGlobals mg){p0 p1:Str}(m:DX K x s f)(h:∀(c d e:Value) (v:Option Addr) (g j:Value) (u0 u1:Value),bindArgs (PySem.W.fnOf x x (D9 s) (D0 s) (b9 s) .none c d e v g j) ⟨[u0,u1],[]⟩=pure (([p0,p1]:List Str).zip [u0,u1]):=by intros;rfl):Df K mg x s [p0,p1] f m.2.choose:=⟨m.2.choose_spec,TV m.2.choose_spec h,cD X G m.1⟩
def Ge{K:aa}{x:Str}{s:Stmt}{f:Addr}{H:Heap}{mg:Str->Option Value}(X:K.In H)(G:H.Ns mainGlobals mg){p0 p1 p2:Str}(m:DX K x s f)(h:∀(c d e:Value) (v:Option Addr) (g j:Value) (u0 u1 u2:Value),bindArgs (PySem.W.fnOf x x (D9 s) (D0 s) (b9 s) .none c d e v g j) ⟨[u0,u1,u2],[]⟩=pure (([p0,p1,p2]:List Str).zip [u0,u1,u2]):=by intros;rfl):Df K mg x s [p0,p1,p2] f m.2.choose:=⟨m.2.choose_spec,e0i m.2.choose_spec h,cD X G m.1⟩
def TU{K:aa}{x:Str}{s:Stmt}{f:Addr}{H:Heap}{mg:Str->Option Value}(X:K.In H)(G:H.Ns mainGlobals mg){p0 p1 p2 p3:Str}(m:DX K x s f)(h:∀(c d e:Value) (v:Option Addr) (g j:Value) (u0 u1 u2 u3:Value),bindArgs (PySem.W.fnOf x x (D9 s) (D0 s) (b9 s) .none c d e v g j) ⟨[u0,u1,u2,u3],[]⟩=pure (([p0,p1,p2,p3]:List Str).zip [u0,u1,u2,u3]):=by intros;rfl):Df K mg x s [p0,p1,p2,p3] f m.2.choose:=⟨m.2.choose_spec,bn4 m.2.choose_spec h,cD X G m.1⟩
def dx5{K:aa}{x:Str}{s:Stmt}{f:Addr}{H:Heap}{mg:Str->Option Value}(X:K.In H)(G:H.Ns mainGlobals mg){p0 p1 p2 p3 p4:Str}(m:DX K x s f)(h:∀(c d e:Value) (v:Option Addr) (g j:Value) (u0 u1 u2 u3 u4:Value),bindArgs (PySem.W.fnOf x x (D9 s) (D0 s) (b9 s) .none c d e v g j) ⟨[u0,u1,u2,u3,u4],[]⟩=pure (([p0,p1,p2,p3,p4]:List Str).zip [u0,u1,u2,u3,u4]):=by intros;rfl):Df K mg x s [p0,p1,p2,p3,p4] f m.2.choose:=⟨m.2.choose_spec,bn5 m.2.choose_spec h,cD X G m.1⟩
def Ul{K:aa}{h:Heap}{mg:Str->Option Value}(X:K.In h)(G:h.Ns mainGlobals mg){A0 A1 A2 A3 A4 A5 A6 A7 A8 A9 A10 A11 A12 A13 A14 A15 A16 A17 A18 A19 A20 A21 A22 A23 A24 A25 A26 A27 A28 A29 A30 A31 A32 A33 A34 A35 A36 A37 A38 A39 A40 A41 A42 A43 A44 A45 A46 A47 A48 A49 A50 A51 A52 A53 A54 A55 A56 A57 A58 A59 A60 A61 A62 A63 A64 A65 A66 A67 A68 A69 A70 A71 A72 A73 A74 A75 A76 c_echelon P_echelon c_alike P_alike:Addr}
 (N0:NS K "Fractions" A0)
 (pg0:PySem.W.plainGet K A0 Str.empty=true)
 (hd0:PySem.W.hasDictIn K A0=true)
 (po0:PySem.W.plainOver K A0=true)
 (sa0:PySem.W.findIn K (.ref A0) "__setattr__"=some (some (.builtin "object.__setattr__")))
 (mk0:PySem.W.makesIn K A0=true)
 (kp0:KI K A0)
 (in0:PySem.W.findIn K (.ref A0) "__init__"=some (some (.builtin "object.__init__")))
 (N1:NS K "Residues" A1)
 (pg1:PySem.W.plainGet K A1 Str.empty=true)
 (hd1:PySem.W.hasDictIn K A1=true)
 (po1:PySem.W.plainOver K A1=true)
 (sa1:PySem.W.findIn K (.ref A1) "__setattr__"=some (some (.builtin "object.__setattr__")))
 (mk1:PySem.W.makesIn K A1=true)
 (kp1:KI K A1)
 (N2:NS K "Field" A2)
 (pg2:PySem.W.plainGet K A2 Str.empty=true)
 (hd2:PySem.W.hasDictIn K A2=true)
 (po2:PySem.W.plainOver K A2=true)
 (sa2:PySem.W.findIn K (.ref A2) "__setattr__"=some (some (.builtin "object.__setattr__")))
 (mk2:PySem.W.makesIn K A2=true)
 (kp2:KI K A2)
 (in2:PySem.W.findIn K (.ref A2) "__init__"=some (some (.builtin "object.__init__")))
 (f0:DX K "is_whole" Cu A3)
 (f1:DX K "divisor" DU A4)
 (f2:DX K "fraction" Cw A5)
 (f3:DX K "is_prime" Cv A6)
 (n4:PySem.W.findIn K (.ref A0) "nought"=some (some (.ref A7)))
 (i4:PySem.W.isFn K (.ref A7)=true)
 (f4:FX K "nought" "Fractions.nought" O4 A7)
 (n5:PySem.W.findIn K (.ref A0) "one"=some (some (.ref A8)))
 (i5:PySem.W.isFn K (.ref A8)=true)
 (f5:FX K "one" "Fractions.one" T5 A8)
 (n6:PySem.W.findIn K (.ref A0) "plus"=some (some (.ref A9)))
 (i6:PySem.W.isFn K (.ref A9)=true)
 (f6:FX K "plus" "Fractions.plus" R1 A9)
 (n7:PySem.W.findIn K (.ref A0) "times"=some (some (.ref A10)))
 (i7:PySem.W.isFn K (.ref A10)=true)
 (f7:FX K "times" "Fractions.times" P5 A10)
 (n8:PySem.W.findIn K (.ref A0) "is_weight"=some (some (.ref A11)))
 (i8:PySem.W.isFn K (.ref A11)=true)
 (f8:FX K "is_weight" "Fractions.is_weight" L4 A11)
 (n9:PySem.W.findIn K (.ref A1) "__init__"=some (some (.ref A12)))
 (i9:PySem.W.isFn K (.ref A12)=true)
 (f9:FX K "__init__" "Residues.__init__" N3 A12)
 (n10:PySem.W.findIn K (.ref A1) "nought"=some (some (.ref A13)))
 (i10:PySem.W.isFn K (.ref A13)=true)
 (f10:FX K "nought" "Residues.nought" P3 A13)
 (n11:PySem.W.findIn K (.ref A1) "one"=some (some (.ref A14)))
 (i11:PySem.W.isFn K (.ref A14)=true)
 (f11:FX K "one" "Residues.one" V7 A14)
 (d0m:PySem.W.findIn K (.ref A1) "plus"=some (some (.ref A15)))
 (i12:PySem.W.isFn K (.ref A15)=true)
 (f12:FX K "plus" "Residues.plus" T4 A15)
 (n13:PySem.W.findIn K (.ref A1) "times"=some (some (.ref A16)))
 (i13:PySem.W.isFn K (.ref A16)=true)
 (f13:FX K "times" "Residues.times" Q9 A16)
 (n14:PySem.W.findIn K (.ref A1) "is_weight"=some (some (.ref A17)))
 (i14:PySem.W.isFn K (.ref A17)=true)
 (f14:FX K "is_weight" "Residues.is_weight" L8 A17)
 (n15:PySem.W.findIn K (.ref A2) "is_field"=some (some (.ref A18)))
 (i15:PySem.W.isFn K (.ref A18)=true)
 (f15:FX K "is_field" "Field.is_field" R3 A18)
 (n16:PySem.W.findIn K (.ref A0) "minus"=some (some (.ref A19)))
 (i16:PySem.W.isFn K (.ref A19)=true)
 (f16:FX K "minus" "Fractions.minus" P6 A19)
 (n17:PySem.W.findIn K (.ref A0) "inverse"=some (some (.ref A20)))
 (i17:PySem.W.isFn K (.ref A20)=true)
 (f17:FX K "inverse" "Fractions.inverse" N4 A20)
 (n18:PySem.W.findIn K (.ref A1) "minus"=some (some (.ref A21)))
 (i18:PySem.W.isFn K (.ref A21)=true)
 (f18:FX K "minus" "Residues.minus" R0 A21)
 (n19:PySem.W.findIn K (.ref A1) "inverse"=some (some (.ref A22)))
 (i19:PySem.W.isFn K (.ref A22)=true)
 (f19:FX K "inverse" "Residues.inverse" O3 A22)
 (f20:DX K "times_row" X6 A23)
 (f21:DX K "noughts" BN A24)
 (f22:DX K "column_at" X7 A25)
 (f23:DX K "columns_of" U5 A26)
 (f24:DX K "dot" Pz A27)
 (f25:DX K "row_by" Dh A28)
 (f26:DX K "by_column" X8 A29)
 (f27:DX K "by_table" AC A30)
 (f28:DX K "rooms" Ig A31)
 (f29:DX K "need_same_letters" M8 A32)
 (f30:DX K "beside" Bo A33)
 (f31:DX K "put_beside" P1 A34)
 (f32:DX K "need_field" Ax A35)
 (f33:DX K "leading" DP A36)
 (f34:DX K "plus_row" Aw A37)
 (f35:DX K "cleared" DV A38)
 (f36:DX K "keep" LQ A39)
 (f37:DX K "kept_rows" Bn A40)
 (f38:DX K "width_of" Cp A41)
 (f39:DX K "echelon" DS A42)
 (f40:DX K "free_words" AB A43)
 (f41:DX K "with_letter_behind" J0 A44)
 (f42:DX K "at_places" X9 A45)
 (f43:DX K "narrowed" Q8 A46)
 (f44:DX K "less" Ih A47)
 (f45:DX K "parting" BM A48)
 (f46:DX K "grown_while_alike" M9 A49)
 (f47:DX K "walkable" Q7 A50)
 (f48:DX K "alike" Y0 A51)
 (f49:DX K "_law_next" Cs A52)
 (f50:DX K "_law_state" Bl A53)
 (f51:DX K "_law_divisor" Z4 A54)
 (f52:DX K "_law_low" DQ A55)
 (f53:DX K "_law_plus" Cr A56)
 (f54:DX K "_law_times" Bk A57)
 (f55:DX K "_law_minus" Bm A58)
 (f56:DX K "_law_of" Fu A59)
 (f57:DX K "_law_sort" Cq A60)
 (f58:DX K "_law_kind" Ct A61)
 (f59:DX K "_law_weight" Ay A62)
 (f60:DX K "_law_machine" L3 A63)
 (f61:DX K "_law_moved" O5 A64)
 (f62:DX K "_law_swapped" J5 A65)
 (f63:DX K "_law_more" V6 A66)
 (f64:DX K "_law_dressed" Z3 A67)
 (f65:DX K "_law_dot" DR A68)
 (f66:DX K "_law_step" V5 A69)
 (f67:DX K "_law_letters" R6 A70)
 (f68:DX K "_law_line" AA A71)
 (f69:DX K "_law_sum" Ae A72)
 (f70:DX K "_law_formed" P2 A73)
 (f71:DX K "_law_walked" Az A74)
 (f72:DX K "_law_each_its_own" K4 A75)
 (f73:DX K "law" Py A76)
 (z_isinstance:PySem.W.nsIn K mainGlobals "isinstance"=some none)
 (z_int:PySem.W.nsIn K mainGlobals "int"=some none)
 (z_bool:PySem.W.nsIn K mainGlobals "bool"=some none)
 (z_abs:PySem.W.nsIn K mainGlobals "abs"=some none)
 (z_tuple:PySem.W.nsIn K mainGlobals "tuple"=some none)
 (z_len:PySem.W.nsIn K mainGlobals "len"=some none)
 {tk_c_GREATEST_PRIME:Tok}
 (c_GREATEST_PRIME:PySem.W.nsIn K mainGlobals "GREATEST_PRIME"=some (some (.int 1000000 tk_c_GREATEST_PRIME)))
 (z_range:PySem.W.nsIn K mainGlobals "range"=some none)
 (z_zip:PySem.W.nsIn K mainGlobals "zip"=some none)
 (z_reversed:PySem.W.nsIn K mainGlobals "reversed"=some none)
 (z_sorted:PySem.W.nsIn K mainGlobals "sorted"=some none)
 (z_list:PySem.W.nsIn K mainGlobals "list"=some none)
 (z_all:PySem.W.nsIn K mainGlobals "all"=some none)
 (k_ii:PySem.W.kitOne K (.type "int") (.type "int")=some true)
 (k_ib:PySem.W.kitOne K (.type "int") (.type "bool")=some false)
 (k_tt:PySem.W.kitOne K (.type "tuple") (.type "tuple")=some true)
 (k_bb:PySem.W.kitOne K (.type "bool") (.type "bool")=some true)
 (nP:PySem.W.findIn K (.ref A1) "prime"=some none)
 (iF_is_field:PySem.W.findIn K (.ref A0) "is_field"=some (some (.ref A18)))
 (iR_is_field:PySem.W.findIn K (.ref A1) "is_field"=some (some (.ref A18)))
 (k_ll:PySem.W.kitOne K (.type "list") (.type "list")=some true)
 (d_tabs:([P_echelon,P_alike]:List Addr).Nodup)
 (k_ss:PySem.W.kitOne K (.type "str") (.type "str")=some true)
 (tb_echelon:PySem.W.tabIn K "echelon"=some (c_echelon,P_echelon))
 (tb_alike:PySem.W.tabIn K "alike"=some (c_alike,P_alike))
 : ∃t:Rn,Txt K mg t:=
 have M:∀{x:Str} {v:Value},PySem.W.nsIn K mainGlobals x=some (some v)->mg x=some v:=λn=>cD X G n;have Z:∀{x:Str},PySem.W.nsIn K mainGlobals x=some none->mg x=none:=λn=>PySem.W.mg_none_of X G n;have S:∀{n q:Str} {s:Stmt} {a:Addr} (f:FX K n q s a),Ll K n q s a f.choose:=λf=>f.choose_spec
 ⟨{ l0y:=A3,k0e:=f0.2.choose,m0v:=A4,k0u:=f1.2.choose,m0e:=A5,j0x:=f2.2.choose,m0p:=A6,k0h:=f3.2.choose,g0m:=A7,f0l:=f4.choose,h0b:=A8,g0r:=f5.choose,g0y:=A9,g0n:=f6.choose,g0s:=A10,g0c:=f7.choose,f0d:=A11,e0w:=f8.choose,f0w:=A12,f0c:=f9.choose,g0u:=A13,f0y:=f10.choose,h0v:=A14,g0v:=f11.choose,h0l:=A15,g0o:=f12.choose,g0z:=A16,g0j:=f13.choose,f0o:=A17,f0a:=f14.choose,h0a:=A18,g0k:=f15.choose,g0q:=A19,g0a:=f16.choose,f0x:=A20,f0g:=f17.choose,g0x:=A21,g0h:=f18.choose,g0i:=A22,f0n:=f19.choose,k0r:=A23,j0b:=f20.2.choose,m0t:=A24,l0k:=f21.2.choose,l0n:=A25,i0h:=f22.2.choose,k0q:=A26,h0x:=f23.2.choose,dot:=A27,n0n:=f24.2.choose,n0i:=A28,l0w:=f25.2.choose,k0z:=A29,i0r:=f26.2.choose,m0h:=A30,j0l:=f27.2.choose,n0o:=A31,m0r:=f28.2.choose,g0b:=A32,f0h:=f29.2.choose,n0h:=A33,m0f:=f30.2.choose,k0a:=A34,h0r:=f31.2.choose,j0c:=A35,h0u:=f32.2.choose,n0e:=A36,k0t:=f33.2.choose,m0n:=A37,j0q:=f34.2.choose,m0y:=A38,l0j:=f35.2.choose,keep:=A39,n0k:=f36.2.choose,k0y:=A40,i0o:=f37.2.choose,m0a:=A41,k0l:=f38.2.choose,echelon:=A42,l0d:=f39.2.choose,k0i:=A43,h0z:=f40.2.choose,f0m:=A44,e0y:=f41.2.choose,l0f:=A45,i0j:=f42.2.choose,m0k:=A46,j0u:=f43.2.choose,n0r:=A47,d_less:=f44.2.choose,m0w:=A48,l0a:=f45.2.choose,f0v:=A49,f0i:=f46.2.choose,m0d:=A50,j0h:=f47.2.choose,alike:=A51,n0d:=f48.2.choose,l0u:=A52,j0s:=f49.2.choose,l0c:=A53,i0g:=f50.2.choose,i0e:=A54,h0m:=f51.2.choose,n0c:=A55,l0r:=f52.2.choose,m0m:=A56,j0g:=f53.2.choose,l0l:=A57,i0p:=f54.2.choose,l0e:=A58,i0c:=f55.2.choose,n0f:=A59,m0o:=f56.2.choose,l0z:=A60,j0n:=f57.2.choose,m0c:=A61,j0z:=f58.2.choose,j0f:=A62,h0w:=f59.2.choose,i0x:=A63,h0f:=f60.2.choose,l0i:=A64,i0k:=f61.2.choose,i0i:=A65,h0e:=f62.2.choose,m0j:=A66,j0v:=f63.2.choose,i0v:=A67,h0d:=f64.2.choose,m0u:=A68,l0h:=f65.2.choose,l0v:=A69,j0y:=f66.2.choose,i0q:=A70,h0j:=f67.2.choose,l0x:=A71,j0e:=f68.2.choose,m0z:=A72,l0b:=f69.2.choose,k0j:=A73,h0q:=f70.2.choose,j0m:=A74,i0a:=f71.2.choose,g0f:=A75,f0s:=f72.2.choose,law:=A76,n0m:=f73.2.choose,k0x:=A0,l0t:=A1,n0q:=A2,c_echelon:=c_echelon,P_echelon:=P_echelon,c_alike:=c_alike,P_alike:=P_alike },
  { k0m:=OS X G f0,l0g:=OF X G f1,j0i:=OF X G f2,j0j:=OS X G f3,f0q:=⟨S f4,Wv (S f4),⟨n4,i4,(S f4).kp⟩⟩,g0t:=⟨S f5,Wv (S f5),⟨n5,i5,(S f5).kp⟩⟩,g0g:=⟨S f6,e0i (S f6),⟨n6,i6,(S f6).kp⟩⟩,f0t:=⟨S f7,e0i (S f7),⟨n7,i7,(S f7).kp⟩⟩,e0x:=⟨S f8,TV (S f8),⟨n8,i8,(S f8).kp⟩⟩,f0e:=⟨S f9,TV (S f9),⟨n9,i9,(S f9).kp⟩⟩,f0u:=⟨S f10,Wv (S f10),⟨n10,i10,(S f10).kp⟩⟩,g0w:=⟨S f11,Wv (S f11),⟨n11,i11,(S f11).kp⟩⟩,g0p:=⟨S f12,e0i (S f12),⟨d0m,i12,(S f12).kp⟩⟩,g0l:=⟨S f13,e0i (S f13),⟨n13,i13,(S f13).kp⟩⟩,f0b:=⟨S f14,TV (S f14),⟨n14,i14,(S f14).kp⟩⟩,g0d:=⟨S f15,Wv (S f15),⟨n15,i15,(S f15).kp⟩⟩,f0z:=⟨S f16,TV (S f16),⟨n16,i16,(S f16).kp⟩⟩,f0j:=⟨S f17,TV (S f17),⟨n17,i17,(S f17).kp⟩⟩,g0e:=⟨S f18,TV (S f18),⟨n18,i18,(S f18).kp⟩⟩,f0p:=⟨S f19,TV (S f19),⟨n19,i19,(S f19).kp⟩⟩,i0l:=Ge X G f20,k0v:=OF X G f21,i0f:=OF X G f22,h0n:=OS X G f23,n0p:=Ge X G f24,m0i:=Ge X G f25,i0t:=Ge X G f26,j0w:=Ge X G f27,n0a:=OS X G f28,f0f:=OF X G f29,m0b:=TU X G f30,h0o:=Ge X G f31,h0p:=OS X G f32,l0s:=Ge X G f33,k0c:=Ge X G f34,l0o:=Ge X G f35,n0g:=TU X G f36,i0n:=Ge X G f37,j0r:=OS X G f38,k0w:=OF X G f39,h0t:=Ge X G f40,e0z:=Ge X G f41,i0z:=OF X G f42,j0o:=Ge X G f43,n0j:=Ge X G f44,l0m:=Ge X G f45,f0k:=Ge X G f46,j0k:=Ge X G f47,m0x:=Ge X G f48,k0b:=OF X G f49,i0u:=OS X G f50,h0c:=OF X G f51,l0q:=OF X G f52,k0d:=Ge X G f53,i0s:=Ge X G f54,i0y:=OF X G f55,m0l:=OF X G f56,k0n:=OS X G f57,j0p:=OS X G f58,i0b:=OF X G f59,h0k:=TU X G f60,i0d:=dx5 X G f61,h0i:=Ge X G f62,k0f:=TU X G f63,h0h:=TU X G f64,l0p:=Ge X G f65,k0k:=Ge X G f66,h0g:=OS X G f67,k0p:=TU X G f68,k0s:=TU X G f69,h0s:=TU X G f70,h0y:=dx5 X G f71,f0r:=OS X G f72,n0l:=OS X G f73,j0a:=⟨pg0,hd0,po0,sa0⟩,i0m:=M N0,i0w:=⟨mk0,in0,kp0⟩,k0g:=⟨pg1,hd1,po1,sa1⟩,j0t:=M N1,k0o:=⟨mk1,n9,i9,kp1⟩,m0s:=⟨pg2,hd2,po2,sa2⟩,n0b:=M N2,m0q:=⟨mk2,in2,kp2⟩,z_isinstance:=Z z_isinstance,z_int:=Z z_int,z_bool:=Z z_bool,z_abs:=Z z_abs,z_tuple:=Z z_tuple,z_len:=Z z_len,c_GREATEST_PRIME:=⟨_,M c_GREATEST_PRIME⟩,z_range:=Z z_range,z_zip:=Z z_zip,z_reversed:=Z z_reversed,z_sorted:=Z z_sorted,z_list:=Z z_list,z_all:=Z z_all,k_ii:=k_ii,k_ib:=k_ib,k_tt:=k_tt,k_bb:=k_bb,nP:=nP,iF_is_field:=iF_is_field,iR_is_field:=iR_is_field,k_ll:=k_ll,d_tabs:=d_tabs,k_ss:=k_ss,tb_echelon:=tb_echelon,j0d:=f39.1,tb_alike:=tb_alike,m0g:=f48.1 }⟩
end K51
open PySem PySem.W PyProof.Rows
set_option maxRecDepth 100000 in
set_option maxHeartbeats 0 in
theorem PySem.Challenge.cw_weighwalk_k51_alike_with_a_paper_holds : PySem.Challenge.rw_weighwalk_k51_alike_with_a_paper.Holds := by
 w_on;o_law
 refine H51.VX (by assumption) ?hw ?hc
 (case hw=>w_witness2)
 unfold H51.FV
 k_fill
 refine L2.OW (l:=PySem.Challenge.rw_weighwalk_k51_alike_with_a_paper) (n:=63) (k:=62) (x:="_law_script") (CX:=L2.F9) (sp:=K51.Pl) ["echelon","alike"] rfl (by decide) rfl ⟨rfl,by decide,by decide⟩ dK (λw h Y=>PySem.W.kIn_of Y) ?NT ?RC ?F ?S ?C
 case NT=>exact λw=>by kernel_rfl
 case RC=>
  intro y hy;rcases ar.mp hy with rfl | hy
  . kernel_rfl
  cases av.mp hy;kernel_rfl
 case F=>
  intro w mg fa h KX G hmg;have T:∃t,K51.Txt (L2.KOf KX) mg t:=by
   dsimp only[L2.KOf];refine' K51.Ul KX G (c_echelon:=213) (P_echelon:=209) (c_alike:=262) (P_alike:=260) ?_ ?_ ?_ ?_ ?_ ?_ ?_ ?_ ?_ ?_ ?_ ?_ ?_ ?_ ?_ ?_ ?_ ?_ ?_ ?_ ?_ ?_ ?_ (K51.dx ?_ (H51.Ko _) ?_ ?_) (K51.dx ?_ (H51.Mp _) ?_ ?_) (K51.dx ?_ (H51.Kr _) ?_ ?_) (K51.dx ?_ (H51.Kq _) ?_ ?_) ?_ ?_ (K51.fx (H51.Cc _) ?_ ?_) ?_ ?_ (K51.fx (H51.Eh _) ?_ ?_) ?_ ?_ (K51.fx (H51.Du _) ?_ ?_) ?_ ?_ (K51.fx (H51.CI _) ?_ ?_) ?_ ?_ (K51.fx (H51.AG _) ?_ ?_) ?_ ?_ (K51.fx (H51.BE _) ?_ ?_) ?_ ?_ (K51.fx (H51.CH _) ?_ ?_) ?_ ?_ (K51.fx (H51.ER _) ?_ ?_) ?_ ?_ (K51.fx (H51.Eg _) ?_ ?_) ?_ ?_ (K51.fx (H51.Ds _) ?_ ?_) ?_ ?_ (K51.fx (H51.AY _) ?_ ?_) ?_ ?_ (K51.fx (H51.Dv _) ?_ ?_) ?_ ?_ (K51.fx (H51.CJ _) ?_ ?_) ?_ ?_ (K51.fx (H51.BF _) ?_ ?_) ?_ ?_ (K51.fx (H51.Dt _) ?_ ?_) ?_ ?_ (K51.fx (H51.Ca _) ?_ ?_) (K51.dx ?_ (H51.IE _) ?_ ?_) (K51.dx ?_ (H51.Mm _) ?_ ?_) (K51.dx ?_ (H51.IG _) ?_ ?_) (K51.dx ?_ (H51.GX _) ?_ ?_) (K51.dx ?_ (H51.VJ _) ?_ ?_) (K51.dx ?_ (H51.Ot _) ?_ ?_) (K51.dx ?_ (H51.IH _) ?_ ?_) (K51.dx ?_ (H51.Ks _) ?_ ?_) (K51.dx ?_ (H51.Qy _) ?_ ?_) (K51.dx ?_ (H51.BB _) ?_ ?_) (K51.dx ?_ (H51.Ou _) ?_ ?_) (K51.dx ?_ (H51.GU _) ?_ ?_) (K51.dx ?_ (H51.GV _) ?_ ?_) (K51.dx ?_ (H51.Mn _) ?_ ?_) (K51.dx ?_ (H51.Km _) ?_ ?_) (K51.dx ?_ (H51.Mq _) ?_ ?_) (K51.dx ?_ (H51.SH _) ?_ ?_) (K51.dx ?_ (H51.IF _) ?_ ?_) (K51.dx ?_ (H51.Kk _) ?_ ?_) (K51.dx ?_ (H51.Mo _) ?_ ?_) (K51.dx ?_ (H51.GW _) ?_ ?_) (K51.dx ?_ (H51.AX _) ?_ ?_) (K51.dx ?_ (H51.II _) ?_ ?_) (K51.dx ?_ (H51.Kn _) ?_ ?_) (K51.dx ?_ (H51.SG _) ?_ ?_) (K51.dx ?_ (H51.Ml _) ?_ ?_) (K51.dx ?_ (H51.BC _) ?_ ?_) (K51.dx ?_ (H51.Kl _) ?_ ?_) (K51.dx ?_ (H51.Qz _) ?_ ?_) (K51.dx ?_ (H51.IM _) ?_ ?_) (K51.dx ?_ (H51.GZ _) ?_ ?_) (K51.dx ?_ (H51.EO _) ?_ ?_) (K51.dx ?_ (H51.Ku _) ?_ ?_) (K51.dx ?_ (H51.IL _) ?_ ?_) (K51.dx ?_ (H51.GY _) ?_ ?_) (K51.dx ?_ (H51.Hc _) ?_ ?_) (K51.dx ?_ (H51.Mr _) ?_ ?_) (K51.dx ?_ (H51.IK _) ?_ ?_) (K51.dx ?_ (H51.IR _) ?_ ?_) (K51.dx ?_ (H51.FN _) ?_ ?_) (K51.dx ?_ (H51.EL _) ?_ ?_) (K51.dx ?_ (H51.Hb _) ?_ ?_) (K51.dx ?_ (H51.EK _) ?_ ?_) (K51.dx ?_ (H51.IP _) ?_ ?_) (K51.dx ?_ (H51.EN _) ?_ ?_) (K51.dx ?_ (H51.Kv _) ?_ ?_) (K51.dx ?_ (H51.IJ _) ?_ ?_) (K51.dx ?_ (H51.EM _) ?_ ?_) (K51.dx ?_ (H51.IQ _) ?_ ?_) (K51.dx ?_ (H51.Kt _) ?_ ?_) (K51.dx ?_ (H51.FP _) ?_ ?_) (K51.dx ?_ (H51.FO _) ?_ ?_) (K51.dx ?_ (H51.BD _) ?_ ?_) (K51.dx ?_ (H51.VI _) ?_ ?_) ?_ ?_ ?_ ?_ ?_ ?_ ?_ ?_ ?_ ?_ ?_ ?_ ?_ ?k_ii ?k_ib ?k_tt ?k_bb ?_ ?_ ?_ ?k_ll ?d_tabs ?k_ss ?tb_echelon ?tb_alike
   any_goals (show _=_;k_is)
   (case k_ii | k_ib | k_tt | k_bb | k_ll | k_ss=>kit_is)
   (case d_tabs=>decide)
   (case tb_echelon | tb_alike=>kernel_rfl)
  obtain⟨t,T⟩:=T;have e0:=hmg.symm.trans T.n0l.m;cases e0;exact⟨_,K51.Ow T,λbase kb nb hT=>K51.Vi T ⟨hT "echelon" (by simp) _ _ T.tb_echelon,hT "alike" (by simp) _ _ T.tb_alike⟩⟩
 case S=>exact λK H a ns hl hT hS=>⟨a,ns,rfl,hS,hl,hT,λ_=>rfl⟩
 case C=>exact λ_ _ _ _ z=>z
