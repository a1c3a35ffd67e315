import PyProof.Rows.All
import Wide.All
import OpenK.AllK
import Wide.FinOn
import Lean
import PyProof.EqAt
import PyProof.EqKinds
import PyProof.TupleCall
import KE.KRevIter
import PyProof.ListRange
import PyProof.AutoSeq1
import PySem.Challenge.RW_weighwalk_k52_the_first_word_that_parts
set_option Elab.async false
set_option linter.all false
set_option maxRecDepth 100000
set_option compiler.extract_closed false
set_option bootstrap.genMatcherCode false
local macro_rules | `(tactic| omega)=>`(tactic| lia)
def dK{p:Prop}(h:p:=by decide +kernel):p:=h
def oM{p:Prop}(h:p:=by omega):p:=h
theorem za{A0 A1}{p:A0->A1->Prop}{a0 a1}(h:p a0 a1):∃a0 a1,p a0 a1:=⟨a0,a1,h⟩
theorem zd{A0 A1 A2}{p:A0->A1->A2->Prop}{a0 a1 a2}(h:p a0 a1 a2):∃a0 a1 a2,p a0 a1 a2:=⟨a0,a1,a2,h⟩
theorem ze{A0 A1 A2 A3}{p:A0->A1->A2->A3->Prop}{a0 a1 a2 a3}(h:p a0 a1 a2 a3):∃a0 a1 a2 a3,p a0 a1 a2 a3:=⟨a0,a1,a2,a3,h⟩
theorem zf{A0 A1 A2 A3 A4}{p:A0->A1->A2->A3->A4->Prop}{a0 a1 a2 a3 a4}(h:p a0 a1 a2 a3 a4):∃a0 a1 a2 a3 a4,p a0 a1 a2 a3 a4:=⟨a0,a1,a2,a3,a4,h⟩
theorem zg{A0 A1 A2 A3 A4 A5 A6}{p:A0->A1->A2->A3->A4->A5->A6->Prop}{a0 a1 a2 a3 a4 a5 a6}(h:p a0 a1 a2 a3 a4 a5 a6):∃a0 a1 a2 a3 a4 a5 a6,p a0 a1 a2 a3 a4 a5 a6:=⟨a0,a1,a2,a3,a4,a5,a6,h⟩
theorem zh{A0 A1 A2}{p:A0->A1->A2->Prop}(a0 a1 a2)(h:p a0 a1 a2):∃a0 a1 a2,p a0 a1 a2:=⟨a0,a1,a2,h⟩
theorem zi{A0 A1 A2 A3}{p:A0->A1->A2->A3->Prop}(a0 a1 a2 a3)(h:p a0 a1 a2 a3):∃a0 a1 a2 a3,p a0 a1 a2 a3:=⟨a0,a1,a2,a3,h⟩
theorem zj{A0 A1 A2 A3 A4}{p:A0->A1->A2->A3->A4->Prop}(a0 a1 a2 a3 a4)(h:p a0 a1 a2 a3 a4):∃a0 a1 a2 a3 a4,p a0 a1 a2 a3 a4:=⟨a0,a1,a2,a3,a4,h⟩
theorem zk{A0 A1 A2 A3 A4 A5}{p:A0->A1->A2->A3->A4->A5->Prop}(a0 a1 a2 a3 a4 a5)(h:p a0 a1 a2 a3 a4 a5):∃a0 a1 a2 a3 a4 a5,p a0 a1 a2 a3 a4 a5:=⟨a0,a1,a2,a3,a4,a5,h⟩
theorem zm{A0 A1 A2 A3 A4 A5 A6}{p:A0->A1->A2->A3->A4->A5->A6->Prop}(a0 a1 a2 a3 a4 a5 a6)(h:p a0 a1 a2 a3 a4 a5 a6):∃a0 a1 a2 a3 a4 a5 a6,p a0 a1 a2 a3 a4 a5 a6:=⟨a0,a1,a2,a3,a4,a5,a6,h⟩
theorem zp{A0 A1 A2 A3 A4 A5 A6 A7}{p:A0->A1->A2->A3->A4->A5->A6->A7->Prop}(a0 a1 a2 a3 a4 a5 a6 a7)(h:p a0 a1 a2 a3 a4 a5 a6 a7):∃a0 a1 a2 a3 a4 a5 a6 a7,p a0 a1 a2 a3 a4 a5 a6 a7:=⟨a0,a1,a2,a3,a4,a5,a6,a7,h⟩
theorem zq{A0 A1 A2 A3 A4 A5 A6 A7 A8}{p:A0->A1->A2->A3->A4->A5->A6->A7->A8->Prop}(a0 a1 a2 a3 a4 a5 a6 a7 a8)(h:p a0 a1 a2 a3 a4 a5 a6 a7 a8):∃a0 a1 a2 a3 a4 a5 a6 a7 a8,p a0 a1 a2 a3 a4 a5 a6 a7 a8:=⟨a0,a1,a2,a3,a4,a5,a6,a7,a8,h⟩
theorem zt{A0 A1 A2 A3 A4 A5 A6 A7 A8 A9}{p:A0->A1->A2->A3->A4->A5->A6->A7->A8->A9->Prop}(a0 a1 a2 a3 a4 a5 a6 a7 a8 a9)(h:p a0 a1 a2 a3 a4 a5 a6 a7 a8 a9):∃a0 a1 a2 a3 a4 a5 a6 a7 a8 a9,p a0 a1 a2 a3 a4 a5 a6 a7 a8 a9:=⟨a0,a1,a2,a3,a4,a5,a6,a7,a8,a9,h⟩
theorem zu{A0 A1 A2 A3 A4 A5 A6 A7 A8 A9 A10}{p:A0->A1->A2->A3->A4->A5->A6->A7->A8->A9->A10->Prop}(a0 a1 a2 a3 a4 a5 a6 a7 a8 a9 a10)(h:p a0 a1 a2 a3 a4 a5 a6 a7 a8 a9 a10):∃a0 a1 a2 a3 a4 a5 a6 a7 a8 a9 a10,p a0 a1 a2 a3 a4 a5 a6 a7 a8 a9 a10:=⟨a0,a1,a2,a3,a4,a5,a6,a7,a8,a9,a10,h⟩
theorem zw{A0 A1 A2 A3 A4 A5 A6 A7 A8 A9 A10 A11}{p:A0->A1->A2->A3->A4->A5->A6->A7->A8->A9->A10->A11->Prop}(a0 a1 a2 a3 a4 a5 a6 a7 a8 a9 a10 a11)(h:p a0 a1 a2 a3 a4 a5 a6 a7 a8 a9 a10 a11):∃a0 a1 a2 a3 a4 a5 a6 a7 a8 a9 a10 a11,p a0 a1 a2 a3 a4 a5 a6 a7 a8 a9 a10 a11:=⟨a0,a1,a2,a3,a4,a5,a6,a7,a8,a9,a10,a11,h⟩
section
open PySem PySem.Spec PyProof.Rows
abbrev aa:=@PySem.W.Frag
abbrev ae:=@Nat.le_refl
abbrev af:=@Nat.le_trans
abbrev ag:=@Heap.lt_size
abbrev ah:=@Heap.get?_push_of_some
abbrev ai:=@List.length_append
abbrev aj:=@List.length_map
abbrev ak:=@List.mem_cons
abbrev ao:=@Nat.ne_of_lt
abbrev aq:=@List.mem_cons_self
abbrev ar:=@Nat.lt_of_lt_of_le
abbrev au:=@List.size_toArray
abbrev av:=@List.mem_append_right
abbrev aw:=@Heap.get?_push_size
abbrev ax:=@List.getElem?_eq_getElem
abbrev ay:=@List.mem_cons_of_mem
abbrev az:=@List.mem_singleton
abbrev aA:=@List.mem_append
abbrev aB:=@Int.mul_assoc
abbrev aC:=@PassesOwn.never
abbrev aD:=@List.getElem?_map
abbrev aE:=@List.mem_map
abbrev aF:=@Int.mul_pos
abbrev aG:=@Bool.false_ne_true
abbrev aH:=@Int.mul_comm
abbrev aI:=@Int.mul_right_comm
abbrev aJ:=@List.getElem?_append_left
abbrev aK:=@Nat.zero_le
abbrev aL:=@List.map_cons
abbrev aM:=@Heap.size_push
abbrev aN:=@List.append_nil
abbrev aO:=@PySem.mem_of_lookup
abbrev aP:=@List.mem_append_left
abbrev aQ:=@List.getElem?_append_right
abbrev aR:=@List.mem_of_getElem?
abbrev aU:=@Int.eq_of_mul_eq_mul_right
abbrev aV:=@Nat.mul_le_mul_left
abbrev aW:=@Nat.pow_add
abbrev aX:=@List.mem_range
abbrev aY:=@List.getElem?_eq_some_iff
abbrev aZ:=@Int.natAbs_mul
abbrev ba:=@Nat.mul_le_mul_right
abbrev bb:=@List.take_length
abbrev bc:=@List.getElem_mem
abbrev bg:=@PySem.F.plainAttrs_list
abbrev bh:=@PySem.W.kia_one
abbrev bj:=@Nat.mul_le_mul
abbrev bo:=@Nat.lt_irrefl
abbrev bq:=@Nat.ne_of_gt
abbrev br:=@Int.fmod_nonneg_of_pos
abbrev bu:=@Int.fmod_lt_of_pos
abbrev bw:=@Nat.le_of_lt
abbrev bx:=@List.length_cons
abbrev bz:=@List.length_take
abbrev bA:=@List.length_eq_zero_iff
abbrev bB:=@Nat.mul_assoc
abbrev bC:=@Int.pow_succ
abbrev bD:=@List.append_assoc
abbrev bE:=@List.not_mem_nil
abbrev bF:=@Nat.succ_mul
abbrev bH:=@List.map_append
abbrev bI:=@PySem.F.slot_list_append
abbrev bJ:=@PySem.F.type_list_append
abbrev bK:=@Nat.lt_succ_self
abbrev bL:=@List.lookup_cons
abbrev bM:=@List.mem_filterMap
abbrev bN:=@Int.mul_one
abbrev bO:=@Nat.mul_comm
abbrev bQ:=@List.pairwise_map
abbrev bR:=@Nat.not_lt_zero
abbrev bS:=@Nat.mul_pos
abbrev bT:=@List.getD_eq_getElem?_getD
abbrev bU:=@List.getElem?_set_ne
abbrev bV:=@List.nodup_cons
abbrev bW:=@List.length_set
abbrev bX:=@Int.neg_mul
abbrev bZ:=@Int.mul_ne_zero
abbrev cf:=@Nat.le_of_dvd
abbrev cg:=@Nat.pow_succ
abbrev cj:=@List.map_map
abbrev ck:=@Int.toNat_of_nonneg
abbrev cn:=@Bool.false_eq_true
abbrev cq:=@Nat.sub_self
abbrev cu:=@List.mem_filter
abbrev cw:=@PyProof.Rows.callWith_type1
abbrev cy:=@List.getElem?_replicate
abbrev cz:=@List.length_replicate
abbrev cA:=@Heap.get?_update_other
abbrev cB:=@Int.ne_of_gt
abbrev cD:=@List.length_range
abbrev cE:=@Int.pow_zero
abbrev cG:=@Nat.pow_le_pow_right
abbrev cH:=@List.forIn_cons
abbrev cI:=@List.cons_append
abbrev cJ:=@List.foldl_append
abbrev cK:=@List.mem_iff_getElem
abbrev cM:=@List.nil_append
abbrev cP:=@List.pairwise_iff_getElem
abbrev cQ:=@PySem.W.mg_of
abbrev cR:=@List.getElem?_set_self
abbrev cS:=@PySem.W.callWith_K
abbrev cU:=@PySem.list_append
abbrev cV:=@Nat.lt_succ_of_lt
abbrev cW:=@Nat.le_add_right
abbrev cX:=@List.dropLast_concat_getLast
abbrev cY:=@List.length_dropLast
abbrev cZ:=@List.mem_singleton_self
abbrev dc:=@Nat.one_le_two_pow
abbrev de:=@Nat.le_mul_of_pos_right
abbrev df:=@List.mem_flatMap
abbrev dg:=@Option.map_eq_some_iff
abbrev dh:=@PySem.F.slot_tuple_add
abbrev di:=@PySem.F.entry_tuple_add
abbrev dj:=@PySem.F.args_tuple_add_2
abbrev dm:=@Nat.dvd_of_mod_eq_zero
abbrev dq:=@Int.fmod_eq_emod_of_nonneg
abbrev du:=@Int.fdiv_eq_ediv_of_nonneg
abbrev dw:=@List.pairwise_singleton
abbrev dy:=@List.take_of_length_le
abbrev dz:=@Nat.add_sub_cancel_left
end
namespace L2
open PySem PySem.Spec PyProof.Rows
abbrev Ht:=Sum Int Str
def Rn:Ht->Value->Bool
 | .inl k,v=>Value.isInt k v
 | .inr x,v=>Value.isStrOf x v
def keyH(w:World):Ht->Int
 | .inl k=>hashInt k
 | .inr x=>hashStr w x
def C5:∀{k:Ht} {v:Value},Rn k v=true->(∃i t,k=Sum.inl i/\v=Value.int i t)\/(∃x t,k=Sum.inr x/\v=Value.str x t)
 | .inl i,v,h=>by
  obtain⟨t,e⟩:=Value.isInt_shape (k:=i) (v:=v) h;exact .inl ⟨i,t,rfl,e⟩
 | .inr x,v,h=>by
  obtain⟨t,e⟩:=Value.isStrOf_shape (x:=x) (v:=v) h;exact .inr ⟨x,t,rfl,e⟩
def Tj(a b:Int):decide ((Sum.inl a:Ht)=Sum.inl b)=(a == b):=by
 by_cases e:a=b
 . subst e;simp
 . have h:¬(Sum.inl a:Ht)=Sum.inl b:=λq=>e (Sum.inl.inj q);rw[decide_eq_false h];exact(beq_eq_false_iff_ne.mpr e).symm
def Tg(a b:Str):decide ((Sum.inr a:Ht)=Sum.inr b)=decide (a=b):=by
 by_cases e:a=b
 . subst e;simp
 . have h:¬(Sum.inr a:Ht)=Sum.inr b:=λq=>e (Sum.inr.inj q);rw[decide_eq_false h,decide_eq_false e]
def Ti(a:Int)(b:Str):decide ((Sum.inl a:Ht)=Sum.inr b)=false:=decide_eq_false (λq=>nomatch q)
def Th(a:Str)(b:Int):decide ((Sum.inr a:Ht)=Sum.inl b)=false:=decide_eq_false (λq=>nomatch q)
def GF(prog:Program)(w:World):PySem.KeyKind prog w Ht where
 is:=Rn
 hash:=keyH w
 inj:=λv a b ha hb=>by
  rcases C5 ha with ⟨i,t,rfl,rfl⟩ | ⟨x,t,rfl,rfl⟩
  . rcases C5 hb with ⟨j,u,rfl,e⟩ | ⟨y,u,rfl,e⟩
    . injection e with e1 _;rw[e1]
    . exact nomatch e
  . rcases C5 hb with ⟨j,u,rfl,e⟩ | ⟨y,u,rfl,e⟩
    . exact nomatch e
    . injection e with e1 _;rw[e1]
 byValue:=λk v h=>by
  rcases C5 h with ⟨i,t,rfl,rfl⟩ | ⟨x,t,rfl,rfl⟩ <;>rfl
 pyHash:=λhv h=>by
  rcases C5 hv with ⟨i,t,rfl,rfl⟩ | ⟨x,t,rfl,rfl⟩
  . exact wpAny_pyHash_int h
  . exact wpAny_pyHash_str h
 eqBool:=λhu hv h=>by
  rcases C5 hu with ⟨i,t,rfl,rfl⟩ | ⟨x,t,rfl,rfl⟩
  . rcases C5 hv with ⟨j,u,rfl,rfl⟩ | ⟨y,u,rfl,rfl⟩
    . rw[Tj]at h;exact wpAny_eqBool_int h
    . rw[Ti]at h;exact SeqAt.EqAt.int_str i t y u _ _ _ _ h
  . rcases C5 hv with ⟨j,u,rfl,rfl⟩ | ⟨y,u,rfl,rfl⟩
    . rw[Th]at h;exact SeqAt.EqAt.str_int x t j u _ _ _ _ h
    . rw[Tg]at h;exact wpAny_eqBool_str h
 «strs»:=λk x t v h=>by
  rcases C5 h with ⟨i,u,rfl,e⟩ | ⟨y,u,rfl,e⟩
  . exact nomatch e
  . injection e with e1 _;subst e1;cases v <;>rfl
inductive V where
 | non | bl (b:Bool) | int (i:Int) | str (x:Str) | byt (b:Array UInt8) | flt (b:UInt64) | ref (a:Addr) | ty (n:String)
 deriving DecidableEq
def y6:V->Value->Prop
 | .non,u=>u=Value.none
 | .bl b,u=>u=Value.bool b
 | .int i,u=>∃t,u=Value.int i t
 | .str x,u=>∃t,u=Value.str x t
 | .byt b,u=>∃t,u=Value.bytes b t
 | .flt b,u=>∃t,u=Value.float b t
 | .ref a,u=>u=Value.ref a
 | .ty n,u=>u=Value.type n
abbrev r8:List V->List Value->Prop:=Paired y6
theorem r8.length{xs:List V}{us:List Value}(r:r8 xs us):xs.length=us.length:=Paired.length r
theorem r8.get:∀{xs:List V} {us:List Value} {i:Nat} {x:V},r8 xs us->xs[i]? = some x->∃u,us[i]? = some u/\y6 x u
 | _,_,_,_,.nil,e=>by simp at e
 | _,_,0,_,.cons r _,e=>by simp at e;subst e;exact⟨_,rfl,r⟩
 | _,_,i+1,x,.cons _ t,e=>by
  obtain⟨u,h1,h2⟩:=r8.get (i:=i) (x:=x) t (by simpa using e);exact⟨u,by simpa using h1,h2⟩
theorem r8.set{x:V}{u:Value}(r:y6 x u):∀{xs:List V} {us:List Value} (i:Nat),r8 xs us->r8 (xs.set i x) (us.set i u)
 | _,_,_,.nil=>.nil
 | _,_,0,.cons _ t=>.cons r t
 | _,_,i+1,.cons q t=>.cons q (r8.set r i t)
theorem r8.append:∀{xs ys:List V} {us ws:List Value},r8 xs us->r8 ys ws->r8 (xs++ys) (us++ws)
 | _,_,_,_,.nil,s=>s
 | _,_,_,_,.cons r t,s=>.cons r (r8.append t s)
theorem r8.take:∀{xs:List V} {us:List Value} (n:Nat),r8 xs us->r8 (xs.take n) (us.take n)
 | _,_,0,_=>.nil
 | _,_,_+1,.nil=>.nil
 | _,_,n+1,.cons r t=>.cons r (r8.take n t)
theorem r8.drop:∀{xs:List V} {us:List Value} (n:Nat),r8 xs us->r8 (xs.drop n) (us.drop n)
 | _,_,0,r=>r
 | _,_,_+1,.nil=>.nil
 | _,_,n+1,.cons _ t=>r8.drop n t
def Fm:Option V->Option Value->Prop
 | some v,some u=>y6 v u
 | none,none=>True
 | _,_=>False
def KV{κ:Type}:List (κ × V)->List (κ × Value)->Prop:=Paired λ(p:κ × V) (q:κ × Value)=>p.1=q.1/\y6 p.2 q.2
def kV:Ht->V
 | .inl i=>.int i
 | .inr x=>.str x
inductive HO where
 | lst (xs:List V)
 | tup (xs:List V)
 | dK (kvs:List (Ht × V)) | dT (kvs:List (List Ht × V))
 | set (S:Int->Bool) (n:Nat)
 | ins (C dx:Addr) (fs:List (Str × V))
 | own (x:Addr)
 | xd (fs:List (Str × V))
 | met (f x:Addr)
 | rng (lo hi:Int)
 | frz (o:Obj) (u:HO)
 | tbl (ps:Array Value)
 | ext (φ:Heap->Prop)
abbrev Hp:=Addr->Option HO
def upd(H:Hp)(a:Addr)(o:HO):Hp:=λb=>if b=a then some o else H b
def c5{H:Hp}{a:Addr}{o:HO}:upd H a o a=some o:=by unfold upd;rw[if_pos rfl]
def j6{H:Hp}{a b:Addr}{o:HO}(h:b≠a):upd H a o b=H b:=by unfold upd;rw[if_neg h]
def S7{H:Hp}{a b:Addr}{o u:HO}(h:H a=some o)(h':H b=some u)(d:o≠u):a≠b:=by
 intro e;subst e;rw[h]at h';exact d (Option.some.inj h')
def j0{H:Hp}{a b:Addr}{o:HO}(h:H a=some o)(h':H b=none):a≠b:=by
 intro e;subst e;rw[h]at h';cases h'
section
variable(P:Program)(w:World)
def I0(H:Hp)(h:Heap)(a:Addr):HO->Prop
 | .lst xs=>xs.length<=sizeLine/\∃(its:List Value) (n:Nat),r8 xs its/\h.get? a=some { cls:=.type "list",data:=.seq its.toArray n }
 | .tup xs=>xs.length<=sizeLine/\∃its:List Value,r8 xs its/\IsTup h a its.toArray/\((∀i y,xs≠[.int i,y])->∃o,h.get? a=some o/\o.dict=none)
 | .dK kvs=>kvs.length<=sizeLine/\(a == sysModules)=false/\∃vs,KV kvs vs/\h.DictOf (GF P w) a vs
 | .dT kvs=>kvs.length<=sizeLine/\(a == sysModules)=false/\∃xs:List (List Ht × Addr × Value),
     Paired (λ(p:List Ht × V) (q:List Ht × Addr × Value)=>p.1=q.1/\H q.2.1=some (.tup (p.1.map kV))/\y6 p.2 q.2.2) kvs xs/\
     ∃o es ep,h.get? a=some o/\o.ExactDict/\o.data=.dict es ep/\es.toList=xs.map (entryOfKey (tupleKind (GF P w)))/\(xs.map (·.1)).Nodup
 | .set S n=>h.SetOf (intKind P w) a S n
 | .ins C dx fs=>H dx=some (.own a)/\fs.length<=1000/\dx≠a/\h.get? a=some (PySem.W.instObj C dx)/\
     ∃mA,h.Ns1 dx mA/\(∀f,Fm (fs.lookup f) (mA f))/\PySem.Within mA (fs.map (·.1))
 | .own _=>∃o,h.get? a=some o
 | .xd fs=>∃mA,h.Ns1 a mA/\∀f,Fm (fs.lookup f) (mA f)
 | .rng lo hi=>∃t u v,h.get? a=some { cls:=.type "range",data:=.fields #[.int lo t,.int hi u,.int 1 v] }
 | .frz o u=>h.get? a=some o/\I0 H h a u
 | .tbl ps=>h.get? a=some { cls:=.none,data:=.fields ps }
 | .met f x=>h.get? a=some (PySem.W.methodObj (.ref f) (.ref x))
 | .ext φ=>φ h/\(∃o,h.get? a=some o)/\∀h1 h2:Heap,φ h1->(∀o,h1.get? a=some o->h2.get? a=some o)->φ h2
def U2(H:Hp)(h:Heap):Prop:=∀a o,H a=some o->I0 P w H h a o
end
section
variable{P:Program}{w:World}{H H':Hp}{h h':Heap}{a:Addr}{o:HO}
theorem I0.lt(x:I0 P w H h a o):a < h.objs.size:=by
 cases o with
 | lst xs=>obtain⟨_,_,_,_,e⟩:=x;exact ag e
 | tup xs=>obtain⟨_,_,_,p,_⟩:=x;exact p.lt
 | dK kvs=>obtain⟨_,_,_,_,o,_,_,e,_⟩:=x;exact ag e
 | dT kvs=>obtain⟨_,_,_,_,o,_,_,e,_⟩:=x;exact ag e
 | set S n=>obtain⟨o,_,_,_,e,_⟩:=x;exact ag e
 | ins C dx fs=>obtain⟨_,_,_,e,_⟩:=x;exact ag e
 | own y=>obtain⟨_,e⟩:=x;exact ag e
 | xd fs=>obtain⟨_,⟨_,_,_,e,_⟩,_⟩:=x;exact ag e
 | rng lo hi=>obtain⟨_,_,_,e⟩:=x;exact ag e
 | frz ob u=>obtain⟨e,_⟩:=x;exact ag e
 | tbl ps=>exact ag (show h.get? a=some _ from x)
 | met f y=>exact ag (show h.get? a=some _ from x)
 | ext φ=>obtain⟨_,⟨_,e⟩,_⟩:=x;exact ag e
theorem Paired.mapP{α β:Type}{F G:α->β->Prop}:∀{l₁:List α} {l₂:List β},Paired F l₁ l₂->(∀a b,F a b->G a b)->Paired G l₁ l₂
 | _,_,.nil,_=>.nil
 | _,_,.cons r t,f=>.cons (f _ _ r) (Paired.mapP t f)
def I0.stay(x:I0 P w H h a o)(k:∀b u,(b=a\/H b=some (.own a))->h.get? b=some u->h'.get? b=some u)
    (ho:∀b,H b=some (.own a)->H' b=some (.own a)) (ht:∀b xs,H b=some (.tup xs)->H' b=some (.tup xs)):I0 P w H' h' a o:=by
 induction o with
 | lst xs=>obtain⟨z,its,n,r,e⟩:=x;exact⟨z,its,n,r,k _ _ (.inl rfl) e⟩
 | tup xs=>obtain⟨z,its,r,⟨ob,e,c⟩,d⟩:=x;exact⟨z,its,r,⟨ob,k _ _ (.inl rfl) e,c⟩,λnx=>let⟨o,e2,d2⟩:=d nx;⟨o,k _ _ (.inl rfl) e2,d2⟩⟩
 | dK kvs=>obtain⟨z,y,vs,r,ob,es,ep,e,c⟩:=x;exact⟨z,y,vs,r,ob,es,ep,k _ _ (.inl rfl) e,c⟩
 | dT kvs=>
  obtain⟨z,y,xs,r,ob,es,ep,e,c⟩:=x;exact⟨z,y,xs,Paired.mapP r λp q z=>⟨z.1,ht _ _ z.2.1,z.2.2⟩,ob,es,ep,k _ _ (.inl rfl) e,c⟩
 | set S n=>obtain⟨ob,es,ep,t,e,c⟩:=x;exact⟨ob,es,ep,t,k _ _ (.inl rfl) e,c⟩
 | ins C dx fs=>
  obtain⟨d,z,ne,e,mA,⟨od,es,ep,e2,c⟩,r⟩:=x;exact⟨ho _ d,z,ne,k _ _ (.inl rfl) e,mA,⟨od,es,ep,k _ _ (.inr d) e2,c⟩,r⟩
 | own y=>obtain⟨ob,e⟩:=x;exact⟨ob,k _ _ (.inl rfl) e⟩
 | xd fs=>obtain⟨mA,⟨od,es,ep,e,c⟩,r⟩:=x;exact⟨mA,⟨od,es,ep,k _ _ (.inl rfl) e,c⟩,r⟩
 | rng lo hi=>obtain⟨t,u,v,e⟩:=x;exact⟨t,u,v,k _ _ (.inl rfl) e⟩
 | frz ob u ih=>obtain⟨e,q⟩:=x;exact⟨k _ _ (.inl rfl) e,ih q⟩
 | tbl ps=>
  have e:h.get? a=some { cls:=.none,data:=.fields ps }:=x;show h'.get? a=some { cls:=.none,data:=.fields ps };exact k a _ (.inl rfl) e
 | met f y=>
  have e:h.get? a=some (PySem.W.methodObj (.ref f) (.ref y)):=x;show h'.get? a=some (PySem.W.methodObj (.ref f) (.ref y));exact k a _ (.inl rfl) e
 | ext φ=>obtain⟨p,⟨o,e⟩,st⟩:=x;exact⟨st _ _ p λo q=>k _ _ (.inl rfl) q,⟨o,k _ _ (.inl rfl) e⟩,st⟩
theorem U2.lt(x:U2 P w H h)(e:H a=some o):a < h.objs.size:=(x a o e).lt
def U2.fresh(x:U2 P w H h)(e:h.objs.size<=a):H a=none:=by
 cases q:H a with
 | none=>rfl
 | some u=>exact absurd (ar (x.lt q) e) (bo _)
def U2.kept(x:U2 P w H h)(k:∀b u,h.get? b=some u->h'.get? b=some u):U2 P w H h':=λa o e=>
 (x a o e).stay (λb u _ q=>k b u q) (λ_ q=>q) λ_ _ q=>q
def U2.laid(x:U2 P w H h)(k:∀b u,h.get? b=some u->h'.get? b=some u)(hp:h.objs.size<=a)(new:I0 P w (upd H a o) h' a o):U2 P w (upd H a o) h':=λb u e=>by
 have hn:=x.fresh hp;by_cases hb:b=a
 . subst hb;rw[c5]at e;cases e;exact new
 . rw[j6 hb]at e;exact(x b u e).stay (λc v _ q=>k c v q) (λc q=>by rw[j6 (j0 q hn)];exact q) λc xs q=>by rw[j6 (j0 q hn)];exact q
end
def Rd(H:Hp)(a:Addr)(u:HO):Prop:=H a=some u\/∃o,H a=some (.frz o u)
def Rd.of{H:Hp}{a:Addr}{u:HO}(h:H a=some u):Rd H a u:=.inl h
def Rd.ok{P:Program}{w:World}{H:Hp}{h:Heap}{a:Addr}{u:HO}(r:Rd H a u)(x:U2 P w H h):I0 P w H h a u:=by
 rcases r with r | ⟨o,r⟩
 . exact x a u r
 . obtain⟨_,q⟩:=x a _ r;exact q
def Mut:Option HO->Prop
 | some (.lst _)=>True
 | some (.dK _)=>True
 | some (.dT _)=>True
 | some (.set _ _)=>True
 | some (.ins _ _ _)=>True
 | some (.ext _)=>True
 | _=>False
section
variable{P:Program}{w:World}{H:Hp}{h h':Heap}{x e:Addr}{o':HO}
def U2.write(ok:U2 P w H h)(mu:Mut (H x))(he:e=x\/H e=some (.own x))(k:∀b u,b≠e->h.get? b=some u->h'.get? b=some u)(heo:∃u,h'.get? e=some u)
    (new:I0 P w (upd H x o') h' x o'):U2 P w (upd H x o') h':=λb u q=>by
 have nown:∀c y,H c=some (.own y)->c≠x:=λc y r z=>by subst z;rw[r]at mu;exact mu
 have ntup:∀c xs,H c=some (.tup xs)->c≠x:=λc xs r z=>by subst z;rw[r]at mu;exact mu
 by_cases hb:b=x
 . subst hb;rw[c5]at q;cases q;exact new
 . rw[j6 hb]at q;by_cases hbe:b=e
   . have q':H b=some (.own x):=by
      rcases he with z | z
      . exact absurd (hbe.trans z) hb
      . rw[hbe];exact z
     rw[q]at q';cases q';obtain⟨v,hv⟩:=heo;exact⟨v,by rw[hbe];exact hv⟩
   . refine(ok b u q).stay (λc v hc r=>k c v ?_ r) (λc r=>by rw[j6 (nown c b r)];exact r) λc xs r=>by rw[j6 (ntup c xs r)];exact r
     rcases hc with rfl | hc
     . exact hbe
     . rintro rfl;rcases he with z | z
       . exact nown c b hc z
       . rw[hc]at z;cases z;exact hb rfl
end
structure Un(fs ex:List Addr)(H H':Hp)(h h':Heap):Prop where
 keep:∀b o,h.get? b=some o->H b=none->b ∉ fs->b ∉ ex->h'.get? b=some o
 slot:∀b o,h.get? b=some o->H b=none->b∈fs->b ∉ ex->∃sl,h'.get? b=some { o with slots:=sl }
 free:∀b o,h.get? b=some o->H b=none->b ∉ ex->H' b=none
 there:∀b o,h.get? b=some o->b ∉ ex->∃o',h'.get? b=some o'
 tups:∀b xs,H b=some (.tup xs)->H' b=some (.tup xs)
 frzs:∀b o u,H b=some (.frz o u)->H' b=some (.frz o u)
 tbls:∀b ps,H b=some (.tbl ps)->∃more,H' b=some (.tbl (ps++more))
section
variable{fs fs' ex ex':List Addr}{H H1 H2:Hp}{h h1 h2 h':Heap}{a x e:Addr}{o:HO}
def Un.any(u:Un fs ex H H1 h h1){b:Addr}{ob:Obj}(q:h.get? b=some ob)(n:H b=none)(hx:b ∉ ex):∃sl,h1.get? b=some { ob with slots:=sl }:=by
 by_cases hb:b∈fs
 . exact u.slot b ob q n hb hx
 . exact⟨ob.slots,u.keep b ob q n hb hx⟩
def Un.trans(a:Un fs ex H H1 h h1)(b:Un fs ex H1 H2 h1 h2):Un fs ex H H2 h h2 where
 keep:=λc ob q n hc hx=>b.keep c ob (a.keep c ob q n hc hx) (a.free c ob q n hx) hc hx
 slot:=λc ob q n hc hx=>by
  obtain⟨sl,e1⟩:=a.slot c ob q n hc hx;obtain⟨sl',e2⟩:=b.slot c _ e1 (a.free c ob q n hx) hc hx;exact⟨sl',e2⟩
 free:=λc ob q n hx=>by
  obtain⟨o',e1⟩:=a.there c ob q hx;exact b.free c o' e1 (a.free c ob q n hx) hx
 there:=λc ob q hx=>by
  obtain⟨o',e1⟩:=a.there c ob q hx;exact b.there c o' e1 hx
 tups:=λc xs q=>b.tups c xs (a.tups c xs q)
 frzs:=λc ob xs q=>b.frzs c ob xs (a.frzs c ob xs q)
 tbls:=λc ps q=>by
  obtain⟨m1,e1⟩:=a.tbls c ps q;obtain⟨m2,e2⟩:=b.tbls c _ e1;exact⟨m1++m2,by rw[e2,Array.append_assoc]⟩
def Un.kept(k:∀b u,h.get? b=some u->h'.get? b=some u):Un fs ex H H h h':=
 ⟨λb ob q _ _ _=>k b ob q,λb ob q _ _ _=>⟨ob.slots,k b ob q⟩,λ_ _ _ n _=>n,λb ob q _=>⟨ob,k b ob q⟩,λ_ _ q=>q,λ_ _ _ q=>q,λ_ ps q=>⟨#[],by rw[q];simp⟩⟩
def Un.refl:Un fs ex H H h h:=Un.kept λ_ _ q=>q
def Un.laid(k:∀b u,h.get? b=some u->h'.get? b=some u)(hp:h.objs.size<=a)(hn:H a=none):Un fs ex H (upd H a o) h h' where
 keep:=λb u q _ _ _=>k b u q
 slot:=λb u q _ _ _=>⟨u.slots,k b u q⟩
 free:=λb u q n _=>by rw[j6 (ao (ar (ag q) hp))];exact n
 there:=λb u q _=>⟨u,k b u q⟩
 tups:=λb xs q=>by rw[j6 (j0 q hn)];exact q
 frzs:=λb u xs q=>by rw[j6 (j0 q hn)];exact q
 tbls:=λb ps q=>⟨#[],by rw[j6 (j0 q hn),q];simp⟩
def Un.write(mu:Mut (H x))(he:e=x\/H e=some (.own x))(k:∀b u,b≠e->h.get? b=some u->h'.get? b=some u)(heo:∃u,h'.get? e=some u):Un fs ex H (upd H x o) h h':=by
 have hx:∀b,H b=none->b≠x:=λb n z=>by subst z;rw[n]at mu;exact mu
 have hb:∀b,H b=none->b≠e:=λb n z=>by
  subst z;rcases he with r | r
  . exact hx b n r
  . rw[n]at r;cases r
 have hm:∀b u,H b=some u->¬Mut (some u)->b≠x:=λb u q nm z=>by subst z;rw[q]at mu;exact nm mu
 refine⟨λb u q n _ _=>k b u (hb b n) q,λb u q n _ _=>⟨u.slots,k b u (hb b n) q⟩,λb u q n _=>by rw[j6 (hx b n)];exact n,λb u q _=>?_,
  λb xs q=>by rw[j6 (hm b _ q λz=>z)];exact q,λb u xs q=>by rw[j6 (hm b _ q λz=>z)];exact q,λb ps q=>⟨#[],by rw[j6 (hm b _ q λz=>z),q];simp⟩⟩
 by_cases hbe:b=e
 . subst hbe;exact heo
 . exact⟨u,k b u hbe q⟩
def Un.mono(u:Un fs ex H H1 h h1)(hs:∀b∈fs,b∈fs')(hx:∀b∈ex,b∈ex'):Un fs' ex' H H1 h h1:=
 ⟨λb ob q n hb he=>u.keep b ob q n (λz=>hb (hs b z)) λz=>he (hx b z),λ_ _ q n _ he=>u.any q n λz=>he (hx _ z),λb ob q n he=>u.free b ob q n λz=>he (hx b z),λb ob q he=>u.there b ob q λz=>he (hx b z),u.tups,u.frzs,u.tbls⟩
end
def RI(h:Heap)(H:Hp):List Addr:=(List.range h.objs.size).filter λa=>(H a).isSome
def Fj(h:Heap)(H:Hp):Heap:=PySem.W.hideAll h (RI h H)
def Mx(h:Heap)(H:Hp):(Fj h H).objs.size=h.objs.size:=PySem.W.hideAll_size _ _
def Oq{h:Heap}{H:Hp}{b:Addr}{o:Obj}(e:h.get? b=some o)(n:H b=none):(Fj h H).get? b=some o:=
 PySem.W.hideAll_get _ e λhm=>by
  have q:(H b).isSome=true:=(cu.mp hm).2;rw[n]at q;simp at q
def Qh{h:Heap}{H:Hp}{b:Addr}{o:Obj}(e:(Fj h H).get? b=some o):h.get? b=some o/\H b=none:=by
 have e':h.get? b=some o:=PySem.W.of_hideAll (RI h H) e;refine⟨e',?_⟩;cases q:H b with
 | none=>rfl
 | some x=>
  have hm:b∈RI h H:=cu.mpr ⟨aX.mpr (ag e'),by simp[q]⟩;have z:(Fj h H).get? b=none:=PySem.W.hideAll_none (RI h H) hm;rw[z]at e;cases e
def AJ(g h:Heap)(L:Addr):List (Addr × Obj):=(List.range h.objs.size).filterMap λa=>if a=L\/(g.get? a).isSome=true then none else(h.get? a).map λo=>(a,o)
def De{g h:Heap}{L a:Addr}{o:Obj}(h1:a≠L)(h2:g.get? a=none)(h3:h.get? a=some o):(a,o)∈AJ g h L:=
 bM.mpr ⟨a,aX.mpr (ag h3),by simp[h1,h2,h3]⟩
def Ed{g h:Heap}{L:Addr}{p:Addr × Obj}(hp:p∈AJ g h L):p.1≠L/\g.get? p.1=none/\h.get? p.1=some p.2:=by
 obtain⟨b,_,e⟩:=bM.mp hp;split at e
 . cases e
 . rename_i hn;cases q:h.get? b with
   | none=>rw[q]at e;simp at e
   | some u=>
    rw[q]at e;simp only[Option.map_some,Option.some.injEq]at e;subst e;refine⟨λz=>hn (.inl z),?_,q⟩;show g.get? b=none;cases r:g.get? b with
    | none=>rfl
    | some v=>exact(hn (.inr (by simp[r]))).elim
def O6(g h:Heap)(L d:Addr):List (Addr × Obj):=(AJ g h L).filter λp=>decide (p.1≠d)
def NR{g h:Heap}{L:Addr}:News g L h (AJ g h L):=λp hp=>let⟨a,b,c⟩:=Ed hp;⟨c,a,b⟩
structure Mod(K:aa)(mg:Str->Option Value)(base:Heap):Prop where
 kin:K.In base
 glob:base.Ns mainGlobals mg
 blt:∃mb,base.Ns builtinsNs mb/\∀x:Str,x≠"__name__"->mb x=bootBuiltins x
 nolimit:base.NoLimit
 seer:base.NoSeer
set_option genInjectivity false in
set_option genSizeOfSpec false in
structure Cx where
 prog:Program
 w:World
 K:aa
 mg:Str->Option Value
 base:Heap
 A:Around
 N:List Str
 s₀:Shared
 H₀:Hp
 env:Env
 outer:List Env
 stack:List Env
 ex:List Addr
 fn:Str->Bool
 calm:Bool
 pn:List (Addr × Obj)
 xe:Value->Shared->Prop
def En(l:List Env):List Addr:=l.filterMap (·.frame)
abbrev Cx.fs(X:Cx):List Addr:=En X.outer
def Vis(sc:Scope)(x:Str):Prop:=sc.names.lookup x=some .local\/sc.names.lookup x=some .cell\/sc.names.lookup x=some .free
def ZW(sc:Scope)(x:Str):Prop:=sc.names.lookup x=some .local\/sc.names.lookup x=some .cell
def Look(env:Env)(h:Heap)(m:Str->Option Value)(x:Str)(u:Value):Prop:=
 (env.kindOf x=some .local/\m x=some u)\/((env.kindOf x=some .cell\/env.kindOf x=some .free)/\∃c,env.cells.lookup x=some c/\h.IsCell c (some u))
structure Cx.Ok(X:Cx):Prop where
 mod:Mod X.K X.mg X.base
 kind:X.env.scope.kind=.function
 glob:X.env.globals=mainGlobals
 blt:X.env.builtins=builtinsNs
 above:X.s₀.heap.objs.size<=X.env.locals
 inj:∀x y c,X.env.cells.lookup x=some c->X.env.cells.lookup y=some c->x=y
 has:∀x,(X.env.kindOf x=some .cell\/X.env.kindOf x=some .free)->∃c,X.env.cells.lookup x=some c
 cab:∀x c,X.fn x=true->X.env.cells.lookup x=some c->X.s₀.heap.objs.size<=c
 hd:X.calm=true->X.A.handled=none
 frames:X.A.frames=some X.stack
 stk:X.stack=X.outer\/(X.stack=X.env::X.outer/\X.env.frame=some X.env.locals)
 exf:∀b∈X.ex,b≠X.env.locals/\∀x c,X.env.cells.lookup x=some c->c≠b
 bs:∀b o,X.base.get? b=some o->X.s₀.heap.get? b=some o/\X.H₀ b=none
 bsz:X.base.objs.size<=X.s₀.heap.objs.size
 noex:∀b o,X.base.get? b=some o->b ∉ X.ex
 exfs:∀b∈X.ex,b ∉ X.fs
 funs:X.s₀.heap.FunFrames X.base X.outer
 frf:∀b∈X.fs,X.H₀ b=none
structure k8(X:Cx)(pins:List (Addr × Obj))(σ:List (Option V))(H:Hp)(s:Shared):Prop where
 ok:X.Ok
 os:s.os=X.s₀.os
 bare:AllBare s.gens
 base:Un X.fs X.ex X.H₀ H X.s₀.heap s.heap
 loc:∃m,s.heap.Ns X.env.locals m/\∀(i:Nat) (x:Str) (v:V),X.N[i]? = some x->σ[i]? = some (some v)->Vis X.env.scope x->∃u,y6 v u/\Look X.env s.heap m x u
 cell:∀x c,X.env.cells.lookup x=some c->∃v,s.heap.IsCell c v
 free:H X.env.locals=none
 freeC:∀x c,X.env.cells.lookup x=some c->H c=none
 pin:∀p∈X.pn++pins,s.heap.get? p.1=some p.2/\H p.1=none/\p.1≠X.env.locals/\p.1 ∉ X.fs/\∀v,p.2.data≠.cell v
 hok:U2 X.prog X.w H s.heap
 len:σ.length=X.N.length
section
variable{X:Cx}{pins:List (Addr × Obj)}{σ:List (Option V)}{H H':Hp}{s:Shared}{h':Heap}
def Cx.Ok.nofr(ok:X.Ok){b:Addr}{o:Obj}(e:X.base.get? b=some o):b ∉ X.fs:=λhb=>by
 have:=(ok.funs.mem hb).1;rw[e]at this;cases this
theorem k8.bs(I:k8 X pins σ H s):∀b o,X.base.get? b=some o->s.heap.get? b=some o/\H b=none:=λb o e=>
 ⟨I.base.keep b o (I.ok.bs b o e).1 (I.ok.bs b o e).2 (I.ok.nofr e) (I.ok.noex b o e),I.base.free b o (I.ok.bs b o e).1 (I.ok.bs b o e).2 (I.ok.noex b o e)⟩
def k8.bk(I:k8 X pins σ H s):∀b o,X.base.get? b=some o->s.heap.get? b=some o:=λb o e=>(I.bs b o e).1
theorem k8.mod(I:k8 X pins σ H s):Mod X.K X.mg X.base:=I.ok.mod
def k8.kIn(I:k8 X pins σ H s):X.K.In s.heap:=I.ok.mod.kin.keeps I.bk
theorem k8.nolimit(I:k8 X pins σ H s):s.heap.NoLimit:=I.ok.mod.nolimit.keeps I.bk
def k8.fr(I:k8 X pins σ H s):∃m,Fr X.base X.env.locals s.heap m:=
 let⟨m,hn,_⟩:=I.loc
 ⟨m,hn,I.bk,af I.ok.bsz I.ok.above⟩
theorem k8.lt(I:k8 X pins σ H s):X.env.locals < s.heap.objs.size:=let⟨_,hn,_⟩:=I.loc;hn.lt
def k8.sz(I:k8 X pins σ H s):X.s₀.heap.objs.size<=s.heap.objs.size:=af I.ok.above (bw I.lt)
def k8.nofs(I:k8 X pins σ H s){a:Addr}(h:s.heap.objs.size<=a):a ∉ X.fs:=λhb=>by
 obtain⟨_,o,ho,_⟩:=I.ok.funs.mem hb;exact absurd (ar (ag ho) (af I.sz h)) (bo _)
def k8.cne(I:k8 X pins σ H s):∀x c,X.env.cells.lookup x=some c->c≠X.env.locals:=λx c e z=>by
 obtain⟨v,o,ho,hd⟩:=I.cell x c e;obtain⟨m,⟨o',es,ep,ho',hd',_⟩,_⟩:=I.loc;rw[z,ho']at ho;cases ho;rw[hd']at hd;cases hd
theorem k8.funs(I:k8 X pins σ H s):s.heap.FunFrames X.base X.outer:=by
 have all:∀(l:List Env),(∀b∈En l,b∈X.fs)->X.s₀.heap.FunFrames X.base l->s.heap.FunFrames X.base l:=by
  intro l
  induction l with
  | nil=>intro _ _;trivial
  | cons env r ih=>
   intro hs hl;obtain⟨hk,⟨L,o,hf,hn,ho,hd⟩,hr⟩:=hl;have hL:L∈X.fs:=hs L (by unfold En;rw[List.filterMap_cons,hf];exact aq);obtain⟨sl,e⟩:=I.base.slot L o ho (I.ok.frf L hL) hL λz=>I.ok.exfs L z hL;exact⟨hk,⟨L,_,hf,hn,e,hd⟩,ih (λb hb=>hs b (by unfold En;rw[List.filterMap_cons,hf];exact ay _ hb)) hr⟩
 exact all X.outer (λ_ hb=>hb) I.ok.funs
theorem k8.stack(I:k8 X pins σ H s):s.heap.FunFrames X.base X.stack:=by
 rcases I.ok.stk with e | ⟨e,hf⟩
 . rw[e];exact I.funs
 . rw[e];obtain⟨m,hn,_⟩:=I.loc;refine .cons (by rw[I.ok.kind];decide) hf hn ?_ I.funs;exact Heap.get?_none_of_le (af I.ok.bsz I.ok.above)
def k8.stkSub(I:k8 X pins σ H s):∀b∈En X.stack,b∈X.env.locals::X.fs:=λb hb=>by
 rcases I.ok.stk with e | ⟨e,hf⟩
 . rw[e]at hb;exact ay _ hb
 . rw[e]at hb;unfold En at hb;rw[List.filterMap_cons,hf]at hb;exact hb
def k8.stkFree(I:k8 X pins σ H s):∀b∈En X.stack,H b=none:=λb hb=>by
 rcases ak.mp (I.stkSub b hb)with e | hb
 . rw[e];exact I.free
 . obtain⟨_,o,ho,_⟩:=I.ok.funs.mem hb;exact I.base.free b o ho (I.ok.frf b hb) λz=>I.ok.exfs b z hb
def k8.step{g':Array GenState}{t':Nat}{d':Drawn}{ch:List Addr}(I:k8 X pins σ H s)
    (hch:∀b∈ch,(b∈X.ex\/X.s₀.heap.objs.size<=b)/\b≠X.env.locals/\(∀x c,X.env.cells.lookup x=some c->c≠b)/\∀p∈X.pn++pins,p.1≠b)
    (keep:∀b o,b≠X.env.locals->b ∉ X.fs->b ∉ ch->s.heap.get? b=some o->H b=none->h'.get? b=some o)
    (slot:∀b o,b≠X.env.locals->b∈X.fs->b ∉ ch->s.heap.get? b=some o->H b=none->∃sl,h'.get? b=some { o with slots:=sl }) (free:∀b o,b ∉ ch->s.heap.get? b=some o->H b=none->H' b=none)
    (there:∀b o,b ∉ ch->s.heap.get? b=some o->∃o',h'.get? b=some o')
    (tups:∀b xs,H b=some (.tup xs)->H' b=some (.tup xs)) (frzs:∀b o u,H b=some (.frz o u)->H' b=some (.frz o u)) (tbls:∀b ps,H b=some (.tbl ps)->∃more,H' b=some (.tbl (ps++more)))
    (ns:∀m,s.heap.Ns X.env.locals m->h'.Ns X.env.locals m) (hok:U2 X.prog X.w H' h') (hg:AllBare g') :
    k8 X pins σ H' { s with heap:=h',gens:=g',drawn:=d',toks:=t' }:=by
 have neL:∀b o,X.s₀.heap.get? b=some o->b≠X.env.locals:=λb o e=>ao (ar (ag e) I.ok.above);have neC:∀b o,X.s₀.heap.get? b=some o->b ∉ X.ex->b ∉ ch:=λb o e hx hb=>by
  rcases(hch b hb).1 with z | z
  . exact hx z
  . exact absurd (ar (ag e) z) (bo _)
 have cellK:∀x c,X.env.cells.lookup x=some c->∀v,s.heap.IsCell c v->h'.IsCell c v:=λx c e v ⟨o,ho,hd⟩=>by
  have nch:c ∉ ch:=λz=>(hch c z).2.2.1 x c e rfl;by_cases hc:c∈X.fs
  . obtain⟨sl,q⟩:=slot c o (I.cne x c e) hc nch ho (I.freeC x c e);exact⟨_,q,hd⟩
  . exact⟨o,keep c o (I.cne x c e) hc nch ho (I.freeC x c e),hd⟩
 refine⟨I.ok,I.os,hg,⟨λb o e n hb hx=>?_,λb o e n hb hx=>?_,λb o e n hx=>?_,λb o e hx=>?_,λb xs e=>tups b xs (I.base.tups b xs e),λb o xs e=>frzs b o xs (I.base.frzs b o xs e),λb ps e=>?_⟩,?_,λx c e=>?_,?_,λx c e=>?_,λp hp=>?_,hok,I.len⟩
 . exact keep b o (neL b o e) hb (neC b o e hx) (I.base.keep b o e n hb hx) (I.base.free b o e n hx)
 . obtain⟨sl,e1⟩:=I.base.slot b o e n hb hx;obtain⟨sl',e2⟩:=slot b _ (neL b o e) hb (neC b o e hx) e1 (I.base.free b o e n hx);exact⟨sl',e2⟩
 . obtain⟨o',e1⟩:=I.base.there b o e hx;exact free b o' (neC b o e hx) e1 (I.base.free b o e n hx)
 . obtain⟨o',e1⟩:=I.base.there b o e hx;exact there b o' (neC b o e hx) e1
 . obtain⟨m1,e1⟩:=I.base.tbls b ps e;obtain⟨m2,e2⟩:=tbls b _ e1;exact⟨m1++m2,by rw[e2,Array.append_assoc]⟩
 . obtain⟨m,hn,hl⟩:=I.loc;refine⟨m,ns m hn,λi x v e1 e2 e3=>?_⟩;obtain⟨u,r,l⟩:=hl i x v e1 e2 e3;refine⟨u,r,?_⟩;rcases l with l | ⟨k,c,e,z⟩
   . exact .inl l
   . exact .inr ⟨k,c,e,cellK x c e _ z⟩
 . obtain⟨v,z⟩:=I.cell x c e;exact⟨v,cellK x c e v z⟩
 . obtain⟨m,⟨o,_,_,ho,_⟩,_⟩:=I.loc;exact free _ o (λz=>(hch _ z).2.1 rfl) ho I.free
 . obtain⟨v,o,ho,hd⟩:=I.cell x c e;exact free c o (λz=>(hch c z).2.2.1 x c e rfl) ho (I.freeC x c e)
 . obtain⟨e,n,ne,nf,d⟩:=I.pin p hp;have nch:p.1 ∉ ch:=λz=>(hch p.1 z).2.2.2 p hp rfl;exact⟨keep p.1 p.2 ne nf nch e n,free p.1 p.2 nch e n,ne,nf,d⟩
def k8.un{t':Nat}(I:k8 X pins σ H s)(u:Un X.fs [] H H' s.heap h')(hok:U2 X.prog X.w H' h'):k8 X pins σ H' { s with heap:=h',toks:=t' }:=by
 obtain⟨m,⟨o,es,ep,ho,r⟩,_⟩:=id I.loc;obtain⟨sl,hL⟩:=u.any ho I.free (by simp);exact I.step (g':=s.gens) (d':=s.drawn) (ch:=[]) (λ_ z=>nomatch z) (λb o _ hb _ e n=>u.keep b o e n hb (by simp)) (λb o _ hb _ e n=>u.slot b o e n hb (by simp)) (λb o _ e n=>u.free b o e n (by simp)) (λb o _ e=>u.there b o e (by simp)) u.tups u.frzs u.tbls (λm' hm=>by
  obtain⟨o',es',ep',ho',r'⟩:=hm;rw[ho]at ho';cases ho';exact⟨_,es',ep',hL,r'⟩) hok I.bare
def k8.call{g':Array GenState}{t':Nat}{d':Drawn}{ch:List Addr}(I:k8 X pins σ H s)(u:Un (En X.stack) ch H H' s.heap h')(hok:U2 X.prog X.w H' h')(hg:AllBare g')
    (hch:∀b∈ch,(b∈X.ex\/X.s₀.heap.objs.size<=b)/\b≠X.env.locals/\(∀x c,X.env.cells.lookup x=some c->c≠b)/\∀p∈X.pn++pins,p.1≠b) :
    k8 X pins σ H' { s with heap:=h',gens:=g',drawn:=d',toks:=t' }:=by
 obtain⟨m,⟨o,es,ep,ho,r⟩,_⟩:=id I.loc;obtain⟨sl,hL⟩:=u.any ho I.free λz=>(hch _ z).2.1 rfl;exact I.step (ch:=ch) hch (λb o hL hb hc e n=>u.keep b o e n (λz=>(ak.mp (I.stkSub b z)).elim hL hb) hc) (λb o _ _ hc e n=>u.any e n hc) (λb o hc e n=>u.free b o e n hc) (λb o hc e=>u.there b o e hc) u.tups u.frzs u.tbls (λm' hm=>by
  obtain⟨o',es',ep',ho',r'⟩:=hm;rw[ho]at ho';cases ho';exact⟨_,es',ep',hL,r'⟩) hok hg
def k8.turned{t':Nat}{it:Addr}(I:k8 X pins σ H s)(k:∀b o,b≠it->s.heap.get? b=some o->h'.get? b=some o)(hn:H it=none)(hL:it≠X.env.locals)
    (h1:it∈X.ex\/X.s₀.heap.objs.size<=it) (h2:∀x c,X.env.cells.lookup x=some c->c≠it) (h3:∀p∈X.pn++pins,p.1≠it):k8 X pins σ H { s with heap:=h',toks:=t' }:=by
 have nit:∀b u,H b=some u->b≠it:=λb u e z=>by rw[z,hn]at e;cases e
 refine I.step (g':=s.gens) (d':=s.drawn) (ch:=[it]) (λb hb=>?_) (λb o _ _ hc e _=>k b o (λz=>hc (by simp[z])) e) (λb o _ _ hc e _=>⟨o.slots,k b o (λz=>hc (by simp[z])) e⟩) (λ_ _ _ _ n=>n)
  (λb o hc e=>⟨o,k b o (λz=>hc (by simp[z])) e⟩) (λ_ _ e=>e) (λ_ _ _ e=>e) (λb ps e=>⟨#[],by rw[e];simp⟩) (λm hm=>?_) (λb u e=>?_) I.bare
 . have e:b=it:=by simpa using hb
   subst e;exact⟨h1,hL,h2,h3⟩
 . obtain⟨o,es,ep,ho,r⟩:=hm;exact⟨o,es,ep,k _ o (Ne.symm hL) ho,r⟩
 . refine(I.hok b u e).stay (λc v hc q=>k c v ?_ q) (λ_ q=>q) λ_ _ q=>q;rcases hc with z | z
   . rw[z];exact nit b u e
   . exact nit c _ z
def k8.tok(I:k8 X pins σ H s)(t:Nat):k8 X pins σ H { s with toks:=t }:=I.un (h':=s.heap) (t':=t) Un.refl I.hok
theorem k8.kept{t':Nat}(I:k8 X pins σ H s)(k:∀b u,s.heap.get? b=some u->h'.get? b=some u):k8 X pins σ H { s with heap:=h',toks:=t' }:=I.un (Un.kept k) (I.hok.kept k)
theorem k8.laid{a:Addr}{o:HO}{t':Nat}(I:k8 X pins σ H s)(k:∀b u,s.heap.get? b=some u->h'.get? b=some u)(hp:s.heap.objs.size<=a)(new:I0 X.prog X.w (upd H a o) h' a o) :
    k8 X pins σ (upd H a o) { s with heap:=h',toks:=t' }:=I.un (Un.laid k hp (I.hok.fresh hp)) (I.hok.laid k hp new)
theorem k8.write{x e:Addr}{o:HO}{t':Nat}(I:k8 X pins σ H s)(mu:Mut (H x))(he:e=x\/H e=some (.own x))(k:∀b u,b≠e->s.heap.get? b=some u->h'.get? b=some u)(heo:∃u,h'.get? e=some u)
    (new:I0 X.prog X.w (upd H x o) h' x o):k8 X pins σ (upd H x o) { s with heap:=h',toks:=t' }:=I.un (Un.write mu he k heo) (I.hok.write mu he k heo new)
def k8.weak{σ':List (Option V)}(I:k8 X pins σ H s)(hl:σ'.length=σ.length)(w:∀(i:Nat) v,σ'[i]? = some (some v)->σ[i]? = some (some v)):k8 X pins σ' H s:=
 ⟨I.ok,I.os,I.bare,I.base,let⟨m,hn,hl'⟩:=I.loc;⟨m,hn,λi x v e1 e2 e3=>hl' i x v e1 (w i v e2) e3⟩,I.cell,I.free,I.freeC,I.pin,I.hok,hl.trans I.len⟩
def k8.pins_of{pins':List (Addr × Obj)}(I:k8 X pins σ H s)(h:∀p∈pins',s.heap.get? p.1=some p.2/\H p.1=none/\p.1≠X.env.locals/\p.1 ∉ X.fs/\∀v,p.2.data≠.cell v):k8 X pins' σ H s:=
 ⟨I.ok,I.os,I.bare,I.base,I.loc,I.cell,I.free,I.freeC,λp hp=>(aA.mp hp).elim (λz=>I.pin p (aP _ z)) (h p),I.hok,I.len⟩
def Iq{N:List Str}(hN:N.Nodup){i j:Nat}{x:Str}(a:N[i]? = some x)(b:N[j]? = some x):i=j:=by
 obtain⟨h1,e1⟩:=aY.mp a;obtain⟨h2,e2⟩:=aY.mp b;exact(List.getElem_inj hN).mp (e1.trans e2.symm)
def Fv{M:Model}{A:Around}{E:Value->Shared->Prop}{i:Nat}{x:Str}{v:V}{u:Value}{Q:Unit->Shared->Prop}(I:k8 X pins σ H s)(hN:X.N.Nodup)(hi:X.N[i]? = some x)(hx:ZW X.env.scope x)(r:y6 v u)
    (h:∀s',k8 X pins (σ.set i (some v)) H s'->(∃a,Heap.SameBut a s.heap s'.heap/\(a=X.env.locals\/X.env.cells.lookup x=some a))->Q () s') (hf:X.fn x=true\/X.env.scope.names.lookup x=some .local:=by first | exact .inl rfl | exact .inr rfl | assumption):wpAny M A (storeName X.env x u) Q E s:=by
 obtain⟨m,hn,hl⟩:=id I.loc;have hcls:(X.env.scope.kind == .class || (X.env.scope.kind == .module && X.env.locals != X.env.globals))=false:=by rw[I.ok.kind];rfl
 have hiσ:i < σ.length:=by rw[I.len];exact(aY.mp hi).1
 have cne:=I.cne;have tracked:∀{a:Addr} {h':Heap},(∃o,s.heap.get? a=some o/\H a=none)->Heap.SameBut a s.heap h'->U2 X.prog X.w H h':=λ{a h'} ha hs b ob e=>by
  obtain⟨_,_,hfree⟩:=ha;refine(I.hok b ob e).stay (λc w' hc q=>(hs.2 c ?_).trans q) (λ_ q=>q) λ_ _ q=>q;rintro rfl;rcases hc with rfl | hc
  . rw[hfree]at e;cases e
  . rw[hfree]at hc;cases hc
 rcases hx with hk | hk
 . refine wpAny_storeName_local hk hn (λh' hn' hs=>?_) hcls;obtain⟨oL,_,_,hoL,_⟩:=id hn;refine h _ ⟨I.ok,I.os,I.bare,⟨λb o e n hb hx=>?_,λb o e n hb hx=>?_,I.base.free,λb o e hx=>?_,I.base.tups,I.base.frzs,I.base.tbls⟩,⟨_,hn',λj y v' e1 e2 e3=>?_⟩,λy c e=>?_,I.free,I.freeC,λp hp=>?_,tracked ⟨oL,hoL,I.free⟩ hs,by simpa using I.len⟩ ⟨_,hs,.inl rfl⟩
   . exact(hs.2 b (ao (ar (ag e) I.ok.above))).trans (I.base.keep b o e n hb hx)
   . obtain⟨sl,e1⟩:=I.base.slot b o e n hb hx;exact⟨sl,(hs.2 b (ao (ar (ag e) I.ok.above))).trans e1⟩
   . obtain⟨o',e1⟩:=I.base.there b o e hx;exact⟨o',(hs.2 b (ao (ar (ag e) I.ok.above))).trans e1⟩
   . by_cases hj:j=i
     . subst hj;rw[hi]at e1;cases e1;rw[cR hiσ]at e2;cases e2;exact⟨u,r,.inl ⟨hk,by simp⟩⟩
     . rw[bU (Ne.symm hj)]at e2;obtain⟨u',r',q⟩:=hl j y v' e1 e2 e3;refine⟨u',r',?_⟩;rcases q with ⟨k,e⟩ | ⟨k,c,e,z⟩
       . refine .inl ⟨k,?_⟩;have:y≠x:=λe=>hj (Iq hN e1 (e▸hi));simp[this,e]
       . exact .inr ⟨k,c,e,z.sameBut hs (cne y c e)⟩
   . obtain⟨w',z⟩:=I.cell y c e;exact⟨w',z.sameBut hs (cne y c e)⟩
   . obtain⟨e,n,ne,nf,d⟩:=I.pin p hp;exact⟨(hs.2 p.1 ne).trans e,n,ne,nf,d⟩
 . have hfn:X.fn x=true:=by
    rcases hf with z | z
    . exact z
    . rw[z]at hk;cases hk
   obtain⟨c,hc⟩:=I.ok.has x (.inl hk);obtain⟨w',z⟩:=I.cell x c hc;refine wpAny_storeName_cell I.ok.kind hk hc z (λh' hc' hs=>?_);obtain⟨oc,hoc,hocd⟩:=id z;refine h { s with heap:=h' } ⟨I.ok,I.os,I.bare,⟨λb o e n hb hx=>?_,λb o e n hb hx=>?_,I.base.free,λb o e hx=>?_,I.base.tups,I.base.frzs,I.base.tbls⟩,⟨m,hn.sameBut hs (Ne.symm (cne x c hc)),λj y v' e1 e2 e3=>?_⟩,λy c' e=>?_,I.free,I.freeC,λp hp=>?_,tracked ⟨oc,hoc,I.freeC x c hc⟩ hs,by simpa using I.len⟩ ⟨c,hs,.inr hc⟩
   . exact(hs.2 b (ao (ar (ag e) (I.ok.cab x c hfn hc)))).trans (I.base.keep b o e n hb hx)
   . obtain⟨sl,e1⟩:=I.base.slot b o e n hb hx;exact⟨sl,(hs.2 b (ao (ar (ag e) (I.ok.cab x c hfn hc)))).trans e1⟩
   . obtain⟨o',e1⟩:=I.base.there b o e hx;exact⟨o',(hs.2 b (ao (ar (ag e) (I.ok.cab x c hfn hc)))).trans e1⟩
   . by_cases hj:j=i
     . subst hj;rw[hi]at e1;cases e1;rw[cR hiσ]at e2;cases e2;exact⟨u,r,.inr ⟨.inl hk,c,hc,hc'⟩⟩
     . rw[bU (Ne.symm hj)]at e2;obtain⟨u',r',q⟩:=hl j y v' e1 e2 e3;refine⟨u',r',?_⟩;rcases q with q | ⟨k,c',e,z'⟩
       . exact .inl q
       . refine .inr ⟨k,c',e,z'.sameBut hs ?_⟩;rintro rfl;exact hj (Iq hN e1 (I.ok.inj _ _ _ e hc▸hi))
   . by_cases hcc:c'=c
     . subst hcc;exact⟨_,hc'⟩
     . obtain⟨w2,z2⟩:=I.cell y c' e;exact⟨w2,z2.sameBut hs hcc⟩
   . obtain⟨e,n,ne,nf,d⟩:=I.pin p hp;refine⟨(hs.2 p.1 ?_).trans e,n,ne,nf,d⟩;intro q;rw[q,hoc]at e;have q':oc=p.2:=Option.some.inj e;exact d w' (by rw[<- q'];exact hocd)
def BE{M:Model}{A:Around}{E:Value->Shared->Prop}{i:Nat}{x:Str}{v:V}{u:Value}{Q:Unit->Shared->Prop}(I:k8 X pins σ H s)(hN:X.N.Nodup)(hi:X.N[i]? = some x)(hx:ZW X.env.scope x)(r:y6 v u)
    (h:∀s',k8 X pins (σ.set i (some v)) H s'->Q () s') (hf:X.fn x=true\/X.env.scope.names.lookup x=some .local:=by first | exact .inl rfl | exact .inr rfl | assumption):wpAny M A (storeName X.env x u) Q E s:=
 Fv I hN hi hx r (λs' I' _=>h s' I') hf
def k8.call'{s':Shared}{ch:List Addr}(I:k8 X pins σ H s)(ho:s'.os=s.os)(u:Un (En X.stack) ch H H' s.heap s'.heap)(hok:U2 X.prog X.w H' s'.heap)(hg:AllBare s'.gens)
    (hch:∀b∈ch,(b∈X.ex\/X.s₀.heap.objs.size<=b)/\b≠X.env.locals/\(∀x c,X.env.cells.lookup x=some c->c≠b)/\∀p∈X.pn++pins,p.1≠b):k8 X pins σ H' s':=by
 obtain⟨h',g',d',t',o'⟩:=s';have e:o'=s.os:=ho;subst e;exact I.call (g':=g') (t':=t') (d':=d') u hok hg hch
end
abbrev XK:=Value->Option Addr->Hp->Prop
abbrev St:=List (Option V)
abbrev VK:=V->Hp->Prop
abbrev TE:=St->Hp->VK->Prop
abbrev TT:=St->Hp->(Bool->Hp->Prop)->Prop
abbrev TA:=St->Hp->(List V->Hp->Prop)->Prop
structure EB where
 nx:St->Hp->Prop
 rt:VK
 bk:St->Hp->Prop:=λ_ _=>False
 ct:St->Hp->Prop:=λ_ _=>False
abbrev TS:=EB->St->Hp->Prop
def EP(X:Cx)(pins:List (Addr × Obj))(σ:St)(Q:VK)(u:Value)(s':Shared):Prop:=∃v H',k8 X pins σ H' s'/\y6 v u/\Q v H'
def TP(X:Cx)(pins:List (Addr × Obj))(σ:St)(Q:Bool->Hp->Prop)(b:Bool)(s':Shared):Prop:=∃H',k8 X pins σ H' s'/\Q b H'
def AP(X:Cx)(pins:List (Addr × Obj))(σ:St)(Q:List V->Hp->Prop)(us:List Value)(s':Shared):Prop:=∃vs H',k8 X pins σ H' s'/\r8 vs us/\Q vs H'
def SP(X:Cx)(pins:List (Addr × Obj))(D:EB)(f:Flow)(s':Shared):Prop:=
 match f with
 | .next=>∃σ' H',k8 X pins σ' H' s'/\D.nx σ' H'
 | .brk=>∃σ' H',k8 X pins σ' H' s'/\D.bk σ' H'
 | .cont=>∃σ' H',k8 X pins σ' H' s'/\D.ct σ' H'
 | .ret u=>∃v σ' H',k8 X pins σ' H' s'/\y6 v u/\D.rt v H'
def PE(X:Cx)(e:Expr)(t:TE):Prop:=
 ∀(pins:List (Addr × Obj)) (s:Shared) (σ:St) (H:Hp) (Q:VK),k8 X pins σ H s->t σ H Q->wpAny (model X.prog X.w) X.A (eval e X.env) (EP X pins σ Q) X.xe s
def PT(X:Cx)(e:Expr)(t:TT):Prop:=
 ∀(pins:List (Addr × Obj)) (s:Shared) (σ:St) (H:Hp) (Q:Bool->Hp->Prop),k8 X pins σ H s->t σ H Q->wpAny (model X.prog X.w) X.A (isTrue e X.env (eval e X.env)) (TP X pins σ Q) X.xe s
def PW(X:Cx)(e:Expr)(t:TT):Prop:=
 ∀(whole:Sem Value) (pins:List (Addr × Obj)) (s:Shared) (σ:St) (H:Hp) (Q:Bool->Hp->Prop),k8 X pins σ H s->t σ H Q->wpAny (model X.prog X.w) X.A (isTrue e X.env whole) (TP X pins σ Q) X.xe s
def PW.pt{X:Cx}{e:Expr}{t:TT}(h:PW X e t):PT X e t:=h _
def PA(X:Cx)(es:List Expr)(t:TA):Prop:=
 ∀(pos:Pos) (pins:List (Addr × Obj)) (s:Shared) (σ:St) (H:Hp) (Q:List V->Hp->Prop),k8 X pins σ H s->t σ H Q->wpAny (model X.prog X.w) X.A (spliced (backTo pos (starEach es X.env))) (AP X pins σ Q) X.xe s
def PS(X:Cx)(st:Stmt)(t:TS):Prop:=
 ∀(pins:List (Addr × Obj)) (s:Shared) (σ:St) (H:Hp) (D:EB),k8 X pins σ H s->t D σ H->wpAny (model X.prog X.w) X.A (exec st X.env) (SP X pins D) X.xe s
def KF(X:Cx)(st:List Stmt)(t:TS):Prop:=
 ∀(pins:List (Addr × Obj)) (s:Shared) (σ:St) (H:Hp) (D:EB),k8 X pins σ H s->t D σ H->wpAny (model X.prog X.w) X.A (execs st X.env) (SP X pins D) X.xe s
def B6{α:Type}{t:Sem α}{Q Q':α->Shared->Prop}{M:Model}{A:Around}{E:Value->Shared->Prop}{s:Shared}(h:wpAny M A t Q E s)(hQ:∀a s,Q a s->Q' a s):wpAny M A t Q' E s:=wpAny_mono h hQ λ_ _ x=>x
section
variable{X:Cx}
def bin{a b:Expr}{ta tb:TE}(ha:PE X a ta)(hb:PE X b tb){pins:List (Addr × Obj)}{s:Shared}{σ:St}{H:Hp}{R:V->V->Hp->Prop}(I:k8 X pins σ H s)(h:ta σ H λx H1=>tb σ H1 λy H2=>R x y H2)
    {α:Type} {Q:α->Shared->Prop} {f:Value->Value->Sem α}
    (hf:∀v u s2 x y H2,k8 X pins σ H2 s2->y6 x v->y6 y u->R x y H2->wpAny (model X.prog X.w) X.A (f v u) Q X.xe s2) :
    wpAny (model X.prog X.w) X.A (eval a X.env) (λv s₁=>wpAny (model X.prog X.w) X.A (eval b X.env) (λu s₂=>wpAny (model X.prog X.w) X.A (f v u) Q X.xe s₂) X.xe s₁) X.xe s:=by
 refine B6 (ha pins s σ H _ I h) λv s1 ⟨x,H1,I1,r1,q1⟩=>?_;refine B6 (hb pins s1 σ H1 _ I1 q1) λu s2 ⟨y,H2,I2,r2,q2⟩=>?_;exact hf v u s2 x y H2 I2 r1 r2 q2
def RK(i:Nat):TE:=λσ H Q=>∃v,σ[i]? = some (some v)/\Q v H
def tC(v:V):TE:=λ_ H Q=>Q v H
def NB{i:Nat}{x:Str}{pos:Pos}(hN:X.N[i]? = some x)(hv:Vis X.env.scope x)(hd:(x == ("__debug__":Str))=false:=by decide)(hcd:(x == ("__classdict__":Str))=false:=by decide):PE X (.Name x pos) (RK i):=by
 intro pins s σ H Q I h;obtain⟨v,e,h⟩:=h;obtain⟨m,hn,hl⟩:=I.loc;obtain⟨u,r,l⟩:=hl i x v hN e hv;have fin:EP X pins σ Q u s:=⟨v,H,I,r,h⟩;rcases l with ⟨hk,hm⟩ | ⟨hk,c,hc,hcell⟩
 . exact wpAny_Name (wpAny_loadName_local I.ok.kind hk hn hm fin) hd
 . rcases hk with hk | hk
   . exact wpAny_Name (wpAny_loadName_cell I.ok.kind hk hc hcell fin) hd
   . exact wpAny_Name (wpAny_loadName_free I.ok.kind hk hc hcell fin hcd) hd
def c4{i j pos}:PE X (.Constant (.int i) j pos) (tC (.int i)):=λ_ _ _ H _ I h=>wpAny_Constant_int ⟨.int i,H,I.tok _,⟨_,rfl⟩,h⟩
def BP{b j pos}:PE X (.Constant (.bool b) j pos) (tC (.bl b)):=λ_ _ _ H _ I h=>Constant_bool ⟨.bl b,H,I,rfl,h⟩
def DS{j pos}:PE X (.Constant .none j pos) (tC .non):=λ_ _ _ H _ I h=>Constant_none ⟨.non,H,I,rfl,h⟩
def Ae{x j pos}:PE X (.Constant (.str x) j pos) (tC (.str x)):=λ_ _ _ H _ I h=>Calls.Constant_str ⟨.str x,H,I.tok _,⟨_,rfl⟩,h⟩
def Gl(X:Cx)(x:Str):Prop:=X.env.kindOf x=some .globalImplicit
def Ce{E:Value->Shared->Prop}{pins:List (Addr × Obj)}{s:Shared}{σ:St}{H:Hp}{x:Str}{u:Value}{pos:Pos}{Q:Value->Shared->Prop}(I:k8 X pins σ H s)(hg:Gl X x)(hm:X.mg x=some u)(h:Q u s)
    (hd:(x == ("__debug__":Str))=false:=by decide):wpAny (model X.prog X.w) X.A (eval (.Name x pos) X.env) Q E s:=
 Calls.Name_function_global I.ok.kind hg (Calls.loadGlobal_global (by rw[I.ok.glob];exact I.mod.glob.keeps I.bk) hm h) hd
def As{E:Value->Shared->Prop}{pins:List (Addr × Obj)}{s:Shared}{σ:St}{H:Hp}{x:Str}{u:Value}{pos:Pos}{Q:Value->Shared->Prop}(I:k8 X pins σ H s)(hg:Gl X x)(hm:X.mg x=none)(hv:bootBuiltins x=some u)(h:Q u s)
    (hn:x≠"__name__":=by decide) (hd:(x == ("__debug__":Str))=false:=by decide):wpAny (model X.prog X.w) X.A (eval (.Name x pos) X.env) Q E s:=by
 obtain⟨mb,h1,h2⟩:=I.mod.blt;exact Calls.Name_function_global I.ok.kind hg (Calls.loadGlobal_builtin (by rw[I.ok.glob];exact I.mod.glob.keeps I.bk) hm (by rw[I.ok.blt];exact h1.keeps I.bk) ((h2 x hn).trans hv) h) hd
def Qa{x:Str}{v:V}{u:Value}{pos:Pos}(hg:Gl X x)(hm:X.mg x=some u)(r:y6 v u)(hd:(x == ("__debug__":Str))=false:=by decide):PE X (.Name x pos) (tC v):=
 λ_ _ _ H _ I h=>Ce I hg hm ⟨v,H,I,r,h⟩ hd
def Dy{x:Str}{v:V}{u:Value}{pos:Pos}(hg:Gl X x)(hm:X.mg x=none)(hv:bootBuiltins x=some u)(r:y6 v u)(hn:x≠"__name__":=by decide)(hd:(x == ("__debug__":Str))=false:=by decide):PE X (.Name x pos) (tC v):=
 λ_ _ _ H _ I h=>As I hg hm hv ⟨v,H,I,r,h⟩ hn hd
variable{a b:Expr}{ta tb:TE}{pos:Pos}
def PC(X:Cx)(op:CmpOp)(a b:Expr)(t:TE):Prop:=
 ∀(pins:List (Addr × Obj)) (s:Shared) (σ:St) (H:Hp) (Q:VK),k8 X pins σ H s->t σ H Q->
  wpAny (model X.prog X.w) X.A (eval a X.env) (λv s₁=>wpAny (model X.prog X.w) X.A (eval b X.env) (λu s₂=>wpAny (model X.prog X.w) X.A (compareOp op v u) (EP X pins σ Q) X.xe s₂) X.xe s₁) X.xe s
def NQ(b:Expr){op:CmpOp}(h:op≠.In)(h2:op≠.NotIn):behindInMarks op b=false:=by
 have e1:(op == CmpOp.In)=false:=by cases op <;>first | rfl | exact absurd rfl h
 have e2:(op == CmpOp.NotIn)=false:=by cases op <;>first | rfl | exact absurd rfl h2
 cases b <;>simp[behindInMarks,e1,e2]
def tB(t:TE):TT:=λσ H Q=>t σ H λx H1=>∃c,x=.bl c/\Q c H1
def pt_cmp{op:CmpOp}{t:TE}(h:PC X op a b t)(h1:behindInMarks op b=false:=by first | exact NQ _ (by decide) (by decide) | rfl):PT X (.Compare a [op] [b] pos) (tB t):=by
 intro pins s σ H Q I hw;refine wpAny_isTrue_Compare1 (B6 (h pins s σ H _ I hw) λv s1 h1=>B6 h1 λu s2 h2=>B6 h2 λc s3 ⟨x,H1,I1,r1,q1⟩=>?_) h1;obtain⟨d,rfl,q⟩:=q1;cases r1;exact wpAny_truthy_bool ⟨H1,I1,q⟩
def Q9{e:Expr}{t:TE}(h:PE X e t)(he:∀whole,isTrue e X.env whole=(do let v <- whole;standAt e.pos;holding [v] (truthy v)):=by intro _;rfl):PT X e (tB t):=by
 intro pins s σ H Q I hw;refine isTrue_plain (B6 (h pins s σ H _ I hw) λv s1 ⟨x,H1,I1,r1,q1⟩=>?_) (he _);obtain⟨d,rfl,q⟩:=q1;cases r1;exact wpAny_truthy_bool ⟨H1,I1,q⟩
variable{tA tB':TT}{O6:List Expr}
def tAnd(t u:TT):TT:=λσ H Q=>t σ H λc H1=>if c=true then u σ H1 Q else Q false H1
def tOr(t u:TT):TT:=λσ H Q=>t σ H λc H1=>if c=true then Q true H1 else u σ H1 Q
def tNot(t:TT):TT:=λσ H Q=>t σ H λc H1=>Q (!c) H1
def Lb(ha:PT X a tA):PW X (.BoolOp .And [a] pos) tA:=by
 intro wh pins s σ H Q I h;refine isTrue_and (B6 (ha pins s σ H Q I h) λc s1 e=>?_);cases c with
 | true=>exact isTrue_and_nil e
 | false=>exact e
def Gp(ha:PT X a tA):PW X (.BoolOp .Or [a] pos) tA:=by
 intro wh pins s σ H Q I h;refine isTrue_or (B6 (ha pins s σ H Q I h) λc s1 e=>?_);cases c with
 | false=>exact isTrue_or_nil e
 | true=>exact e
def JH(ha:PT X a tA)(hb:PW X (.BoolOp .And (b::O6) pos) tB'):PW X (.BoolOp .And (a::b::O6) pos) (tAnd tA tB'):=by
 intro wh pins s σ H Q I h;refine isTrue_and (B6 (ha pins s σ H _ I h) λc s1 ⟨H1,I1,q1⟩=>?_);cases c with
 | true=>exact hb wh pins s1 σ H1 Q I1 q1
 | false=>exact⟨H1,I1,q1⟩
def HY(ha:PT X a tA)(hb:PW X (.BoolOp .Or (b::O6) pos) tB'):PW X (.BoolOp .Or (a::b::O6) pos) (tOr tA tB'):=by
 intro wh pins s σ H Q I h;refine isTrue_or (B6 (ha pins s σ H _ I h) λc s1 ⟨H1,I1,q1⟩=>?_);cases c with
 | true=>exact⟨H1,I1,q1⟩
 | false=>exact hb wh pins s1 σ H1 Q I1 q1
def Aa(ha:PT X a tA):PT X (.UnaryOp .Not a pos) (tNot tA):=by
 intro pins s σ H Q I h;exact isTrue_not (ha pins s σ H (λc H1=>Q (!c) H1) I h)
def UE(ta tb:TE):TE:=λσ H Q=>ta σ H λx H1=>∃c,x=.bl c/\if c=true then tb σ H1 Q else Q (.bl false) H1
def Uz(ta:TE):TE:=λσ H Q=>ta σ H λx H1=>∃c,x=.bl c/\Q (.bl (!c)) H1
def JJ{op}{t:TE}(h:PE X a t):PE X (.BoolOp op [a] pos) t:=λpins s σ H Q I hw=>BoolOp_one (h pins s σ H Q I hw)
def Gs(ha:PE X a ta)(hb:PE X (.BoolOp .And (b::O6) pos) tb):PE X (.BoolOp .And (a::b::O6) pos) (UE ta tb):=by
 intro pins s σ H Q I h;refine BoolOp_and (B6 (ha pins s σ H _ I h) λv s1 ⟨x,H1,I1,r1,q1⟩=>?_);obtain⟨c,rfl,q1⟩:=q1;cases r1;refine wpAny_truthy_bool ?_;cases c with
 | true=>exact hb pins s1 σ H1 Q I1 q1
 | false=>exact⟨.bl false,H1,I1,rfl,q1⟩
def SA(ha:PE X a ta):PE X (.UnaryOp .Not a pos) (Uz ta):=by
 intro pins s σ H Q I h;refine UnaryOp_ (B6 (ha pins s σ H _ I h) λv s1 ⟨x,H1,I1,r1,q1⟩=>?_);obtain⟨c,rfl,q1⟩:=q1;cases r1;exact not_of (wpAny_truthy_bool ⟨.bl (!c),H1,I1,rfl,q1⟩)
def tIf(t:TT)(ta tb:TE):TE:=λσ H Q=>t σ H λc H1=>if c=true then ta σ H1 Q else tb σ H1 Q
def NG{c:Expr}(hc:PT X c tA)(ha:PE X a ta)(hb:PE X b tb):PE X (.IfExp c a b pos) (tIf tA ta tb):=by
 intro pins s σ H Q I h;refine wpAny_IfExp (B6 (hc pins s σ H _ I h) λd s1 ⟨H1,I1,q1⟩=>?_);cases d with
 | true=>exact ha pins s1 σ H1 Q I1 q1
 | false=>exact hb pins s1 σ H1 Q I1 q1
end
def t8(K:aa)(H:Hp)(a:Addr)(xs:List V):Prop:=
 Rd H a (.lst xs)\/
  ∃(o:Obj) (its:Array Value) (n:Nat),K.lookup a=some o/\o.cls=.type "list"/\o.dict=none/\o.data=.seq its n/\its.size<=sizeLine/\r8 xs its.toList
def o7(K:aa)(H:Hp)(a:Addr)(xs:List V):Prop:=
 Rd H a (.tup xs)\/
  ∃(o:Obj) (its:Array Value) (n:Nat),K.lookup a=some o/\o.cls=.type "tuple"/\o.data=.seq its n/\its.size<=sizeLine/\r8 xs its.toList
def absV:Value->Option V
 | .none=>some .non
 | .bool b=>some (.bl b)
 | .int i _=>some (.int i)
 | .str x _=>some (.str x)
 | .bytes b _=>some (.byt b)
 | .float b _=>some (.flt b)
 | .ref a=>some (.ref a)
 | .type n=>some (.ty n)
 | _=>none
def y6.abs{x:V}{u:Value}(r:y6 x u):absV u=some x:=by
 cases x with
 | non=>cases r;rfl
 | bl _=>cases r;rfl
 | int _=>obtain⟨t,rfl⟩:=r;rfl
 | str _=>obtain⟨t,rfl⟩:=r;rfl
 | byt _=>obtain⟨t,rfl⟩:=r;rfl
 | flt _=>obtain⟨t,rfl⟩:=r;rfl
 | ref _=>cases r;rfl
 | ty _=>cases r;rfl
theorem y6.inj{x y:V}{u:Value}(r:y6 x u)(q:y6 y u):x=y:=Option.some.inj (r.abs.symm.trans q.abs)
theorem r8.inj:∀{xs ys:List V} {us:List Value},r8 xs us->r8 ys us->xs=ys
 | _,_,_,.nil,.nil=>rfl
 | _,_,_,.cons r t,.cons r' t'=>by rw[r.inj r',r8.inj t t']
section
variable{X:Cx}{pins:List (Addr × Obj)}{σ:St}{H:Hp}{s:Shared}{a:Addr}{xs ys:List V}
def t8.of{K:aa}(h:H a=some (.lst xs)):t8 K H a xs:=.inl (.inl h)
def o7.of{K:aa}(h:H a=some (.tup xs)):o7 K H a xs:=.inl (.inl h)
def k8.list(I:k8 X pins σ H s)(h:t8 X.K H a xs):∃its:List Value,r8 xs its/\PlainL s.heap a its.toArray/\xs.length<=sizeLine:=by
 rcases h with h | ⟨o,its,n,hk,hc,hd,hs,hz,r⟩
 . obtain⟨z,its,n,r,e⟩:=h.ok I.hok;exact⟨its,r,⟨_,n,e,rfl,rfl,rfl⟩,z⟩
 . refine⟨its.toList,r,⟨o,n,I.kIn a o hk,hc,hd,by simpa using hs⟩,?_⟩;have e:=r.length;simp only[Array.length_toList]at e;omega
def k8.tuple(I:k8 X pins σ H s)(h:o7 X.K H a xs):∃its:List Value,r8 xs its/\IsTup s.heap a its.toArray/\xs.length<=sizeLine:=by
 rcases h with h | ⟨o,its,n,hk,hc,hs,hz,r⟩
 . obtain⟨z,its,r,p,_⟩:=h.ok I.hok;exact⟨its,r,p,z⟩
 . refine⟨its.toList,r,⟨o,I.kIn a o hk,hc,n,by simpa using hs⟩,?_⟩;have e:=r.length;simp only[Array.length_toList]at e;omega
def k8.list_inj(I:k8 X pins σ H s)(h:t8 X.K H a xs)(h':t8 X.K H a ys):xs=ys:=by
 obtain⟨its,r,⟨o,n,e,_,_,d⟩,_⟩:=I.list h;obtain⟨its',r',⟨o',n',e',_,_,d'⟩,_⟩:=I.list h';rw[e]at e';cases e';rw[d]at d';injection d' with d1 _;have:its=its':=by simpa using congrArg Array.toList d1
 subst this;exact r.inj r'
def k8.tuple_inj(I:k8 X pins σ H s)(h:o7 X.K H a xs)(h':o7 X.K H a ys):xs=ys:=by
 obtain⟨its,r,⟨o,e,_,n,d⟩,_⟩:=I.tuple h;obtain⟨its',r',⟨o',e',_,n',d'⟩,_⟩:=I.tuple h';rw[e]at e';cases e';rw[d]at d';injection d' with d1 _;have:its=its':=by simpa using congrArg Array.toList d1
 subst this;exact r.inj r'
end
abbrev Cx.wish(X:Cx)(E:Value->Shared->Prop):Cx:={ X with xe:=E }
abbrev Cx.nox(X:Cx):Cx:=X.wish λ_ _=>False
theorem Cx.Ok.wish{X:Cx}(ok:X.Ok)(E:Value->Shared->Prop):(X.wish E).Ok:=
 ⟨ok.mod,ok.kind,ok.glob,ok.blt,ok.above,ok.inj,ok.has,ok.cab,ok.hd,ok.frames,ok.stk,ok.exf,ok.bs,ok.bsz,ok.noex,ok.exfs,ok.funs,ok.frf⟩
def Cx.Ok.unwish{X:Cx}{E:Value->Shared->Prop}(ok:(X.wish E).Ok):X.Ok:=
 ⟨ok.mod,ok.kind,ok.glob,ok.blt,ok.above,ok.inj,ok.has,ok.cab,ok.hd,ok.frames,ok.stk,ok.exf,ok.bs,ok.bsz,ok.noex,ok.exfs,ok.funs,ok.frf⟩
section
variable{X:Cx}{pins:List (Addr × Obj)}{σ:St}{H:Hp}{s:Shared}{E:Value->Shared->Prop}
theorem k8.wish(I:k8 X pins σ H s)(E:Value->Shared->Prop):k8 (X.wish E) pins σ H s:=⟨I.ok.wish E,I.os,I.bare,I.base,I.loc,I.cell,I.free,I.freeC,I.pin,I.hok,I.len⟩
theorem k8.unwish(I:k8 (X.wish E) pins σ H s):k8 X pins σ H s:=⟨I.ok.unwish,I.os,I.bare,I.base,I.loc,I.cell,I.free,I.freeC,I.pin,I.hok,I.len⟩
theorem SP.unwish{D:EB}{f:Flow}{s':Shared}(h:SP (X.wish E) pins D f s'):SP X pins D f s':=by
 cases f with
 | next=>obtain⟨σ',H',I,q⟩:=h;exact⟨σ',H',I.unwish,q⟩
 | brk=>obtain⟨σ',H',I,q⟩:=h;exact⟨σ',H',I.unwish,q⟩
 | cont=>obtain⟨σ',H',I,q⟩:=h;exact⟨σ',H',I.unwish,q⟩
 | ret u=>obtain⟨v,σ',H',I,r,q⟩:=h;exact⟨v,σ',H',I.unwish,r,q⟩
theorem KF.nox{st:List Stmt}{t:TS}(h:KF X.nox st t):KF X st t:=λpins s σ H D I hw=>
 wpAny_mono (h pins s σ H D (I.wish _) hw) (λ_ _ q=>q.unwish) λ_ _ z=>False.elim z
end
section
variable{X:Cx}{st:Stmt}{O6:List Stmt}{t u:TS}{e:Expr}{te:TE}{pos:Pos}
def tNext:TS:=λD σ H=>D.nx σ H
def Uw(t u:TS):TS:=λD σ H=>t { D with nx:=u D } σ H
def l9:KF X [] tNext:=λ_ _ σ H _ I h=>wpAny_execs_nil ⟨σ,H,I,h⟩
def a9(h1:PS X st t)(h2:KF X O6 u):KF X (st::O6) (Uw t u):=by
 intro pins s σ H D I h;refine wpAny_execs_cons (B6 (h1 pins s σ H { D with nx:=u D } I h) λf s1 q=>?_);cases f with
 | next=>
  obtain⟨σ',H',I',q⟩:=q;exact h2 pins s1 σ' H' D I' q
 | ret v=>exact q
 | brk=>exact q
 | cont=>exact q
def c6(h1:PS X st t):KF X [st] t:=by
 intro pins s σ H D I h;refine wpAny_execs_cons (B6 (h1 pins s σ H D I h) λf s1 q=>?_);cases f with
 | next=>exact wpAny_execs_nil q
 | ret v=>exact q
 | brk=>exact q
 | cont=>exact q
def k8.quiet{pins:List (Addr × Obj)}{σ:St}{H:Hp}{s:Shared}(I:k8 X pins σ H s):interactive X.env=false:=by simp[interactive,I.ok.kind]
def UD(te:TE):TS:=λD σ H=>te σ H λ_ H1=>D.nx σ H1
def E1(he:PE X e te)(hs:swapsWith e none pos.line X.env=pure false:=by rfl):PS X (.Expr e pos) (UD te):=by
 intro pins s σ H D I h;exact wpAny_Expr_any (B6 (he pins s σ H _ I h) λv s1 ⟨x,H1,I1,r1,q1⟩=>⟨σ,H1,I1,q1⟩) I.quiet hs
def Ux(te:TE):TS:=λD σ H=>te σ H D.rt
def d9(he:PE X e te):PS X (.Return (some e) pos) (Ux te):=by
 intro pins s σ H D I h;exact wpAny_Return_some (B6 (he pins s σ H _ I h) λv s1 ⟨x,H1,I1,r1,q1⟩=>⟨x,σ,H1,I1,r1,q1⟩)
def tIfS(c:TT)(t u:TS):TS:=λD σ H=>c σ H λb H1=>if b=true then t D σ H1 else u D σ H1
def w8{c:Expr}{a b:List Stmt}{tc:TT}(hc:PT X c tc)(ha:KF X a t)(hb:KF X b u):PS X (.If c a b pos) (tIfS tc t u):=by
 intro pins s σ H D I h;refine wpAny_If (B6 (hc pins s σ H _ I h) λd s1 ⟨H1,I1,q1⟩=>?_);cases d with
 | true=>exact ha pins s1 σ H1 D I1 q1
 | false=>exact hb pins s1 σ H1 D I1 q1
def tNever:TS:=λ_ _ _=>False
def U4:PS X st tNever:=λ_ _ _ _ _ _ h=>h.elim
end
abbrev TG:=V->St->Hp->(St->Hp->Prop)->Prop
abbrev TY:=List V->St->Hp->(St->Hp->Prop)->Prop
def PG(X:Cx)(target:Expr)(t:TG):Prop:=
 ∀(pins:List (Addr × Obj)) (s:Shared) (σ:St) (H:Hp) (v:V) (u:Value) (Q:St->Hp->Prop),k8 X pins σ H s->y6 v u->t v σ H Q->
  wpAny (model X.prog X.w) X.A (assign target X.env u) (λ_ s'=>∃σ' H',k8 X pins σ' H' s'/\Q σ' H') X.xe s
def ZV(X:Cx)(ts:List Expr)(t:TY):Prop:=
 ∀(pins:List (Addr × Obj)) (s:Shared) (σ:St) (H:Hp) (vs:List V) (us:List Value) (Q:St->Hp->Prop),k8 X pins σ H s->r8 vs us->t vs σ H Q->
  wpAny (model X.prog X.w) X.A (assignInOrder ((assignEach ts X.env).map (·.2)) us) (λ_ s'=>∃σ' H',k8 X pins σ' H' s'/\Q σ' H') X.xe s
abbrev TV:=V->V->V->Hp->(Hp->Prop)->Prop
def ZU(X:Cx)(t:TV):Prop:=
 ∀(pins:List (Addr × Obj)) (s:Shared) (σ:St) (H:Hp) (o i v:V) (ov iv u:Value) (Q:Hp->Prop),k8 X pins σ H s->y6 o ov->y6 i iv->y6 v u->t o i v H Q->
  wpAny (model X.prog X.w) X.A (setItem ov iv u) (λ_ s'=>∃H',k8 X pins σ H' s'/\Q H') X.xe s
section
variable{X:Cx}{pos:Pos}
def y7(i:Nat):TG:=λv σ H Q=>Q (σ.set i (some v)) H
def j9{i:Nat}{x:Str}(hN:X.N.Nodup)(hi:X.N[i]? = some x)(hx:ZW X.env.scope x)(hf:X.fn x=true\/X.env.scope.names.lookup x=some .local:=by first | exact .inl rfl | exact .inr rfl | assumption):PG X (.Name x pos) (y7 i):=by
 intro pins s σ H v u Q I r h;exact wpAny_assign_Name (BE I hN hi hx r (λs' I'=>⟨_,H,I',h⟩) hf)
def gNil:TY:=λvs σ H Q=>vs=[]/\Q σ H
def ZC(t:TG)(u:TY):TY:=λvs σ H Q=>∃v r,vs=v::r/\t v σ H λσ' H'=>u r σ' H' Q
def B8:ZV X [] gNil:=by
 intro pins s σ H vs us Q I r h;obtain⟨e,h⟩:=h;subst e;cases r;exact assignInOrder_nil ⟨σ,H,I,h⟩
def k9{e:Expr}{es:List Expr}{t:TG}{u:TY}(h1:PG X e t)(h2:ZV X es u)
    (hs:(assignEach (e::es) X.env).map (·.2)=assign e X.env::(assignEach es X.env).map (·.2):=by rfl):ZV X (e::es) (ZC t u):=by
 intro pins s σ H vs us Q I r h;obtain⟨v,vr,e1,h⟩:=h;subst e1;cases r with
 | cons r rr=>
  rw[hs];refine assignInOrder_cons (B6 (h1 pins s σ H _ _ _ I r h) λ_ s1 ⟨σ1,H1,I1,q1⟩=>?_);exact h2 pins s1 σ1 H1 _ _ Q I1 rr q1
def Fk(K:aa)(n:Nat)(t:TY):TG:=λv σ H Q=>∃a xs,v=.ref a/\o7 K H a xs/\xs.length=n/\t xs σ H Q
def E9{es:List Expr}{k:Nat}{t:TY}{n:Nat}(hc:X.calm=true)(h:ZV X es t)
    (hn:(assignEach es X.env).length=n:=by rfl) (hst:(assignEach es X.env).findIdx? (·.1)=none:=by rfl):PG X (.Tuple es k pos) (Fk X.K n t):=by
 intro pins s σ H v u Q I r hw;obtain⟨a,xs,e1,hq,hl,hw⟩:=hw;subst e1;cases r;obtain⟨its,rv,ht,hz⟩:=I.tuple hq;refine assign_Tuple_tuple (I.ok.hd hc) ht (by simp[hn,<- hl,rv.length]) hst λh' hx=>?_;have I1:k8 X pins σ H { s with heap:=h' }:=I.kept (t':=s.toks) λb o e=>hx b o (ao (ag e)) e;exact h pins _ σ H xs _ Q I1 (by simpa using rv) hw
def gSub(to ti:TE)(t:TV):TG:=λv σ H Q=>to σ H λo H1=>ti σ H1 λi H2=>t o i v H2 λH3=>Q σ H3
def Ac{o i:Expr}{to ti:TE}{t:TV}(ho:PE X o to)(hi:PE X i ti)(hs:ZU X t)
    (ha:∀v,assign (.Subscript o i pos) X.env v=(do
     let ov <- holding [v] (eval o X.env)
     let iv <- holding [v,ov] (eval i X.env)
     standAt pos
     holding [v,ov,iv] (setItem ov iv v)
     release [v,ov,iv] []):=by intro _;rfl):PG X (.Subscript o i pos) (gSub to ti t):=by
 intro pins s σ H v u Q I r h;rw[ha];refine wpAny_bind (wpAny_holding (B6 (ho pins s σ H _ I h) λov s1 ⟨x,H1,I1,r1,q1⟩=>?_));refine wpAny_bind (wpAny_holding (B6 (hi pins s1 σ H1 _ I1 q1) λiv s2 ⟨y,H2,I2,r2,q2⟩=>?_));refine wpAny_bind (wpAny_standAt (wpAny_bind (wpAny_holding (B6 (hs pins s2 σ H2 x y v ov iv u _ I2 r1 r2 r q2) λ_ s3 ⟨H3,I3,q3⟩=>?_))));exact wpAny_release ⟨σ,H3,I3,q3⟩
def Pg(te:TE)(g:TG):TS:=λD σ H=>te σ H λx H1=>g x σ H1 D.nx
def U1{tg e:Expr}{te:TE}{g:TG}(he:PE X e te)(hg:PG X tg g)(hs:swapsWithSole [tg] e pos.line X.env=pure false:=by rfl)(hw:swappedStores [tg] e X.env=pure none:=by rfl)
    (h1:(assignEach [tg] X.env).map (·.2)=[assign tg X.env]:=by rfl):PS X (.Assign [tg] e pos) (Pg te g):=by
 intro pins s σ H D I h;refine wpAny_Assign_stores (B6 (he pins s σ H _ I h) λv s1 ⟨x,H1,I1,r1,q1⟩=>?_) hs hw;rw[h1];exact B6 (hg pins s1 σ H1 x v _ I1 r1 q1) λ_ s2 q=>q
def Bn{i:Nat}{x:Str}{e:Expr}{te:TE}{pos':Pos}(hN:X.N.Nodup)(hi:X.N[i]? = some x)(hx:ZW X.env.scope x)(he:PE X e te)(hs:swapsWith e (some (.Name x pos')) pos.line X.env=pure false:=by rfl)(hf:X.fn x=true\/X.env.scope.names.lookup x=some .local:=by first | exact .inl rfl | exact .inr rfl | assumption) :
    PS X (.Assign [.Name x pos'] e pos) (Pg te (y7 i)):=by
 intro pins s σ H D I h;refine wpAny_Assign_Name (B6 (he pins s σ H _ I h) λv s1 ⟨y,H1,I1,r1,q1⟩=>?_) hs;exact BE I1 hN hi hx r1 (λs2 I2=>⟨_,H1,I2,q1⟩) hf
def tPar(i j:Nat)(ta:TA):TS:=λD σ H=>ta σ H λvs H1=>∃v w,vs=[v,w]/\D.nx ((σ.set i (some v)).set j (some w)) H1
def Sw{i j:Nat}{x y:Str}{a b:Expr}{ta:TA}{px py pt:Pos}{kt k2 pt2}(hc:X.calm=true)(hN:X.N.Nodup)(hi:X.N[i]? = some x)(hj:X.N[j]? = some y)(hij:i≠j)
    (hx:X.env.scope.names.lookup x=some .local) (hy:X.env.scope.names.lookup y=some .local) (ha:PA X [a,b] ta)
    (hw:swappedStores [.Tuple [.Name x px,.Name y py] kt pt] (.Tuple [a,b] k2 pt2) X.env=pure (some [x,y]))
    (hs:swapsWithSole [.Tuple [.Name x px,.Name y py] kt pt] (.Tuple [a,b] k2 pt2) pos.line X.env=pure false:=by rfl) :
    PS X (.Assign [.Tuple [.Name x px,.Name y py] kt pt] (.Tuple [a,b] k2 pt2) pos) (tPar i j ta):=by
 intro pins s σ H D I h;rw[exec_Assign_arm];refine wpAny_bind (wpAny_standAt ?_);rw[hs];refine wpAny_bind (wpAny_pure ?_);rw[if_neg (by decide)];refine wpAny_bind (Tuple_ (B6 (ha _ pins s σ H _ I h) λus s1 ⟨vs,H1,I1,r1,q1⟩=>?_));obtain⟨v,w,e1,q1⟩:=q1;subst e1;obtain⟨u1,u2,rfl,rv,rw'⟩:∃u1 u2,us=[u1,u2]/\y6 v u1/\y6 w u2:=by
  cases r1 with
  | cons p q=>
   cases q with
   | cons p' q'=>
    cases q';exact za ⟨rfl,p,p'⟩
 refine wpAny_newObj_type ?_ (by show 2<=sizeLine;decide);have I2:k8 X pins σ H1 { s1 with heap:=s1.heap.push { cls:=.type "tuple",data:=.seq [u1,u2].toArray } }:=I1.kept (t':=s1.toks) λb o e=>ah _ e;rw[hw];refine wpAny_bind (wpAny_pure ?_);show wpAny (model X.prog X.w) X.A (do rule "assign.swapped-stores";let items <- unpackItems (.ref s1.heap.objs.size) 2 none;assignInOrder [λv=>bindName X.env y v,λv=>bindName X.env x v] items.reverse;pure Flow.next) _ _ _;refine wpAny_bind (wpAny_rule (wpAny_bind (unpackItems_tuple (items:=#[u1,u2]) (I.ok.hd hc) (IsTup.new s1.heap _) λh' hx'=>?_)));have I3:=I2.kept (h':=h') (t':=s1.toks) λb o e=>hx' b o (ao (ag e)) e;show wpAny _ _ (assignInOrder [λv=>bindName X.env y v,λv=>bindName X.env x v] [u2,u1] >>= λ_=>pure Flow.next) _ _ _;refine wpAny_bind (assignInOrder_cons (wpAny_bindName (BE I3 hN hj (.inl hy) rw' (λs2 I4=>?_) (.inr hy))));refine assignInOrder_cons (wpAny_bindName (BE I4 hN hi (.inl hx) rv (λs3 I5=>assignInOrder_nil (wpAny_pure ?_)) (.inr hx)));rw[List.set_comm _ _ (Ne.symm hij)]at I5;exact⟨_,H1,I5,q1⟩
end
section
variable{X:Cx}{pos:Pos}
def RJ(c:TT)(tb:TS):TS:=λD σ H=>∃W:Nat->St->Hp->Prop,(∃m,W m σ H)/\∀m σ H,W m σ H->
 c σ H λb H1=>if b=true then ∃N:St->Hp->Prop,(∀σ' H',N σ' H'->∃m',m' < m/\W m' σ' H')/\tb { D with nx:=N,ct:=N,bk:=D.nx } σ H1 else D.nx σ H1
def Ab{c:Expr}{body:List Stmt}{tc:TT}{tb:TS}(hp:PassesOwn (model X.prog X.w) X.A X.env X.xe)(hc:PT X c tc)(hb:KF X body tb):PS X (.While c body [] pos) (RJ tc tb):=by
 intro pins s σ H D I h;obtain⟨W,⟨m0,w0⟩,turn⟩:=h;refine wpAny_While (codeAny_whileLoop (λn s'=>∃σ' H',k8 X pins σ' H' s'/\W n σ' H') ?_ m0 ⟨σ,H,I,w0⟩);rintro n s1 ⟨σ1,H1,I1,w1⟩;refine wpAny_passesOwn hp (B6 (hc pins s1 σ1 H1 _ I1 (turn n σ1 H1 w1)) λb s2 ⟨H2,I2,q2⟩=>?_);cases b with
 | true=>
  obtain⟨N,hN,q2⟩:=q2;rw[if_pos rfl];refine wpAny_passesOwn hp (B6 (hb pins s2 σ1 H2 _ I2 q2) λf s3 q3=>?_);cases f with
  | next=>
   obtain⟨σ3,H3,I3,n3⟩:=q3;obtain⟨m',hm,w3⟩:=hN σ3 H3 n3;exact⟨m',hm,σ3,H3,I3,w3⟩
  | cont=>
   obtain⟨σ3,H3,I3,n3⟩:=q3;obtain⟨m',hm,w3⟩:=hN σ3 H3 n3;exact⟨m',hm,σ3,H3,I3,w3⟩
  | brk=>exact q3
  | ret v=>exact q3
 | false=>
  rw[if_neg aG];exact wpAny_execs_nil ⟨σ1,H2,I2,q2⟩
end
structure It where
 go:Nat->Hp->Prop
 yld:Nat->Hp->V->Hp->Prop
 stop:Nat->Hp->Prop
def P2(X:Cx)(pins:List (Addr × Obj))(H:Hp)(b:Addr):Prop:=
 H b=none/\b≠X.env.locals/\b ∉ X.fs/\(b∈X.ex\/X.s₀.heap.objs.size<=b)/\(∀x c,X.env.cells.lookup x=some c->c≠b)/\∀p∈X.pn++pins,p.1≠b
def k8.fpOk{X:Cx}{pins:List (Addr × Obj)}{σ:St}{H H':Hp}{s:Shared}{b:Addr}(I:k8 X pins σ H s)(hb:s.heap.objs.size<=b)(hn:H' b=none):P2 X pins H' b:=by
 refine⟨hn,bq (ar I.lt hb),I.nofs hb,.inr (af I.sz hb),λx c e z=>?_,λp hp z=>?_⟩
 . obtain⟨v,q⟩:=I.cell x c e;exact absurd (ar q.lt (by rw[z];exact hb)) (bo _)
 . exact absurd (ar (ag (I.pin p hp).1) (by rw[z];exact hb)) (bo _)
structure Jd(P:Program)(w:World)(K:aa)(tg:Expr)(J:It)(fp:List Addr)(it:Addr)(tn:Nat->Heap->Prop):Prop where
 mem:it∈fp
 obj:∀i h,tn i h->∀b∈fp,∃o,h.get? b=some o/\∀v,o.data≠.cell v
 keep:∀i h h',tn i h->(∀b∈fp,∀o,h.get? b=some o->h'.get? b=some o)->tn i h'
 item:∀(X:Cx),X.prog=P->X.w=w->X.K=K->X.calm=true->∀(i:Nat) (pins:List (Addr × Obj)) (s:Shared) (σ:St) (H:Hp) (E:Value->Shared->Prop),k8 X pins σ H s->(∀b∈fp,P2 X pins H b)->tn i s.heap->J.go i H->
  wpAny (model P w) X.A (pyNext (.ref it)) (λr s1=>∃u,r=some u/\
   wpAny (model P w) X.A (letOwnedTupleGo tg (.ref it) u) (λ_ s2=>∃x H',k8 X pins σ H' s2/\y6 x u/\J.yld i H x H'/\tn (i+1) s2.heap/\∀b∈fp,H' b=none) E s1) E s
 done:∀(X:Cx),X.prog=P->X.w=w->X.K=K->X.calm=true->∀(i:Nat) (pins:List (Addr × Obj)) (s:Shared) (σ:St) (H:Hp) (E:Value->Shared->Prop),k8 X pins σ H s->(∀b∈fp,P2 X pins H b)->tn i s.heap->J.stop i H->
  wpAny (model P w) X.A (pyNext (.ref it)) (λr s1=>r=none/\k8 X pins σ H s1) E s
 self:∀(A:Around) (i:Nat) (s:Shared) (Q:Value->Shared->Prop) (E:Value->Shared->Prop),tn i s.heap->Q (.ref it) s->wpAny (model P w) A (pyIter (.ref it)) Q E s
abbrev TI:=St->Hp->(It->Hp->Prop)->Prop
def PIE(X:Cx)(pins:List (Addr × Obj))(σ:St)(tg:Expr)(R:It->Hp->Prop)(itv:Value)(s2:Shared):Prop:=
 ∃(it:Addr) (fp:List Addr) (tn:Nat->Heap->Prop) (J:It) (H':Hp),itv=.ref it/\k8 X pins σ H' s2/\Jd X.prog X.w X.K tg J fp it tn/\tn 0 s2.heap/\(∀b∈fp,P2 X pins H' b)/\R J H'
def PI(X:Cx)(tg iter:Expr)(wi:TI):Prop:=
 ∀(pins:List (Addr × Obj)) (s:Shared) (σ:St) (H:Hp) (R:It->Hp->Prop),k8 X pins σ H s->wi σ H R->
  wpAny (model X.prog X.w) X.A (eval iter X.env) (λv s1=>wpAny (model X.prog X.w) X.A (pyIter v) (PIE X pins σ tg R) X.xe s1) X.xe s
def IK{M:Model}{A:Around}{E:Value->Shared->Prop}{s:Shared}{tg:Expr}{it:Addr}{u:Value}{o:Obj}{n:String}{vs:Array Value}{Q:Unit->Shared->Prop}(ho:s.heap.get? it=some o)(hc:o.cls=.type n)(hd:o.data=.fields vs)
    (hn:["enumerate","zip","dict_itemiterator","dict_reverseitemiterator","odict_iterator","itertools.zip_longest","itertools.pairwise"].contains n=false) (hQ:Q () s):wpAny M A (letOwnedTupleGo tg (.ref it) u) Q E s:=by
 unfold letOwnedTupleGo;cases tg <;>first
  | exact wpAny_pure hQ
  | (cases u <;>first
      | exact wpAny_pure hQ
      | (refine wpAny_bind (wpAny_load ho ?_)
         rw[hc,hd];show wpAny M A (if(["enumerate","zip","dict_itemiterator","dict_reverseitemiterator","odict_iterator","itertools.zip_longest","itertools.pairwise"].contains n && vs[0]? == some (rawInt _))=true then _ else _) Q E s;rw[if_neg (by intro h;rw[hn,Bool.false_and]at h;cases h)];exact wpAny_pure hQ))
def Ub(K:aa)(a:Addr):It:=
 ⟨λi H=>∃xs x,t8 K H a xs/\xs[i]? = some x,λi H x H'=>H'=H/\∀xs,t8 K H a xs->xs[i]? = some x,λi H=>∃xs,t8 K H a xs/\xs.length<=i⟩
def Ua(K:aa)(a:Addr):It:=
 ⟨λi H=>∃xs x,o7 K H a xs/\xs[i]? = some x,λi H x H'=>H'=H/\∀xs,o7 K H a xs->xs[i]? = some x,λi H=>∃xs,o7 K H a xs/\xs.length<=i⟩
def Ry(lo:Int)(n:Nat):It:=⟨λi _=>i < n,λi H x H'=>H'=H/\x=.int (lo+i),λi _=>n<=i⟩
def LQ{P:Program}{w:World}{K:aa}{tg:Expr}(a it:Addr):Jd P w K tg (Ub K a) [it] it (λi h=>h.IsListIter it a i)where
 mem:=by simp
 obj:=λi h st b hb=>by
  have e:b=it:=by simpa using hb
  subst e;obtain⟨o,e,c,d⟩:=st;exact⟨o,e,λv z=>by rw[d]at z;cases z⟩
 keep:=λi h h' st k=>st.at λo e=>k it (by simp) o e
 item:=by
  intro X hP hw hK hc i pins s σ H E I hf st hg;subst hP hw hK;obtain⟨xs,x,hq,hx⟩:=hg;obtain⟨its,rv,p,hz⟩:=I.list hq;obtain⟨u,hu,ru⟩:=rv.get hx;obtain⟨f0,f1,f2,f3,f4,f5⟩:=hf it (by simp);refine wpAny_pyNext_list_item st p.isList (x:=u) (by simpa using hu) λh' st' sb=>?_;have I1:k8 X pins σ H { s with heap:=h' }:=I.turned (t':=s.toks) (λb o hb e=>(sb.2 b hb).trans e) f0 f1 f3 f4 f5;obtain⟨o,e,c,d⟩:=id st';exact⟨u,rfl,IK (s:={ s with heap:=h' }) e c d (by decide) ⟨x,H,I1,ru,⟨rfl,λys hy=>by rw[I.list_inj hy hq];exact hx⟩,st',λb hb=>(hf b hb).1⟩⟩
 done:=by
  intro X hP hw hK hc i pins s σ H E I hf st hg;subst hP hw hK;obtain⟨xs,hq,hx⟩:=hg;obtain⟨its,rv,p,hz⟩:=I.list hq;obtain⟨f0,f1,f2,f3,f4,f5⟩:=hf it (by simp);have hl:=rv.length;exact wpAny_pyNext_list_end (I.ok.hd hc) st p.isList (by simp;omega) λh' eb=>⟨rfl,I.turned (t':=s.toks) (λb o hb e=>eb b o hb e) f0 f1 f3 f4 f5⟩
 self:=λ_ _ _ _ _ st h=>wpAny_pyIter_listiter st h
def Jp{P:Program}{w:World}{K:aa}{tg:Expr}(a it:Addr):Jd P w K tg (Ua K a) [it] it (λi h=>h.IsTupleIter it a i)where
 mem:=by simp
 obj:=λi h st b hb=>by
  have e:b=it:=by simpa using hb
  subst e;obtain⟨o,e,c,d⟩:=st;exact⟨o,e,λv z=>by rw[d]at z;cases z⟩
 keep:=λi h h' st k=>st.at λo e=>k it (by simp) o e
 item:=by
  intro X hP hw hK hc i pins s σ H E I hf st hg;subst hP hw hK;obtain⟨xs,x,hq,hx⟩:=hg;obtain⟨its,rv,p,hz⟩:=I.tuple hq;obtain⟨u,hu,ru⟩:=rv.get hx;obtain⟨f0,f1,f2,f3,f4,f5⟩:=hf it (by simp);refine wpAny_pyNext_tuple_item st (show s.heap.IsTuple a its.toArray from p) (x:=u) (by simpa using hu) λh' st' sb=>?_;have I1:k8 X pins σ H { s with heap:=h' }:=I.turned (t':=s.toks) (λb o hb e=>(sb.2 b hb).trans e) f0 f1 f3 f4 f5;obtain⟨o,e,c,d⟩:=id st';exact⟨u,rfl,IK (s:={ s with heap:=h' }) e c d (by decide) ⟨x,H,I1,ru,⟨rfl,λys hy=>by rw[I.tuple_inj hy hq];exact hx⟩,st',λb hb=>(hf b hb).1⟩⟩
 done:=by
  intro X hP hw hK hc i pins s σ H E I hf st hg;subst hP hw hK;obtain⟨xs,hq,hx⟩:=hg;obtain⟨its,rv,p,hz⟩:=I.tuple hq;obtain⟨f0,f1,f2,f3,f4,f5⟩:=hf it (by simp);have hl:=rv.length;exact wpAny_pyNext_tuple_end (I.ok.hd hc) st (show s.heap.IsTuple a its.toArray from p) (by simp;omega) λh' eb=>⟨rfl,I.turned (t':=s.toks) (λb o hb e=>eb b o hb e) f0 f1 f3 f4 f5⟩
 self:=λ_ _ _ _ _ st h=>wpAny_pyIter_tupleiter st h
def Jq{P:Program}{w:World}{K:aa}{tg:Expr}(it:Addr)(lo:Int)(n:Nat):Jd P w K tg (Ry lo n) [it] it (λi h=>IsRangeIter h it (lo+(i:Nat) * 1) ((n:Int) - (i:Nat)) 1)where
 mem:=by simp
 obj:=λi h st b hb=>by
  have e:b=it:=by simpa using hb
  subst e;exact⟨_,st,λv z=>by
   have z':Data.fields _=Data.cell v:=z;cases z'⟩
 keep:=λi h h' st k=>k it (by simp) _ st
 item:=by
  intro X hP hw hK hc i pins s σ H E I hf st hg;subst hP hw hK;obtain⟨f0,f1,f2,f3,f4,f5⟩:=hf it (by simp);have W:=Walks.range (prog:=X.prog) (w:=X.w) (I.ok.hd hc) it lo 1 n;refine W.item i s _ _ hg st λv h' tk hv st' kk=>?_;obtain⟨t,rfl⟩:=hv;have I1:k8 X pins σ H { s with heap:=h',toks:=tk }:=I.turned (λb o hb e=>kk b o (by simpa using hb) e) f0 f1 f3 f4 f5;refine⟨_,rfl,IK (s:={ s with heap:=h',toks:=tk }) (n:="range_iterator") st' rfl rfl (by decide) ⟨.int (lo+i),H,I1,⟨t,?_⟩,⟨rfl,rfl⟩,st',λb hb=>(hf b hb).1⟩⟩;rw[bN]
 done:=by
  intro X hP hw hK hc i pins s σ H E I hf st hg;subst hP hw hK;obtain⟨f0,f1,f2,f3,f4,f5⟩:=hf it (by simp);exact wpAny_pyNext_range_end (I.ok.hd hc) st (by have:n<=i:=hg;omega) λh' eb=>⟨rfl,I.turned (t':=s.toks) (λb o hb e=>eb b o hb e) f0 f1 f3 f4 f5⟩
 self:=λ_ _ _ _ _ st h=>wpAny_pyIter_rangeiter st h
section
variable{X:Cx}{tg:Expr}
def Rp(K:aa)(tl:TE):TI:=λσ H R=>tl σ H λx H1=>∃a,x=.ref a/\(∃xs,t8 K H1 a xs)/\R (Ub K a) H1
def QD(K:aa)(tl:TE):TI:=λσ H R=>tl σ H λx H1=>∃a,x=.ref a/\(∃xs,o7 K H1 a xs)/\R (Ua K a) H1
def F8{l:Expr}{tl:TE}(hl:PE X l tl):PI X tg l (Rp X.K tl):=by
 intro pins s σ H R I h;refine B6 (hl pins s σ H _ I h) λv s1 ⟨x,H1,I1,r1,q1⟩=>?_;obtain⟨a,e,⟨xs,hq⟩,q⟩:=q1;subst e;cases r1;obtain⟨its,rv,p,hz⟩:=I1.list hq;refine wpAny_pyIter_list p.isList ?_;refine⟨s1.heap.objs.size,[s1.heap.objs.size],za ⟨H1,rfl,I1.kept (t':=s1.toks) λb o e=>ah _ e,LQ a _,⟨_,aw _ rfl,rfl,rfl⟩,λb hb=>?_,q⟩⟩;have e:b=s1.heap.objs.size:=by simpa using hb
 subst e;exact I1.fpOk (ae _) (I1.hok.fresh (ae _))
def L9{l:Expr}{tl:TE}(hl:PE X l tl):PI X tg l (QD X.K tl):=by
 intro pins s σ H R I h;refine B6 (hl pins s σ H _ I h) λv s1 ⟨x,H1,I1,r1,q1⟩=>?_;obtain⟨a,e,⟨xs,hq⟩,q⟩:=q1;subst e;cases r1;obtain⟨its,rv,p,hz⟩:=I1.tuple hq;refine wpAny_pyIter_tuple (show s1.heap.IsTuple a its.toArray from p) ?_;refine⟨s1.heap.objs.size,[s1.heap.objs.size],za ⟨H1,rfl,I1.kept (t':=s1.toks) λb o e=>ah _ e,Jp a _,⟨_,aw _ rfl,rfl,rfl⟩,λb hb=>?_,q⟩⟩;have e:b=s1.heap.objs.size:=by simpa using hb
 subst e;exact I1.fpOk (ae _) (I1.hok.fresh (ae _))
def Nx{pins:List (Addr × Obj)}{σ:St}{H:Hp}{s:Shared}{R:It->Hp->Prop}{E:Value->Shared->Prop}{lo hi:Int}{t u v:Tok}{tk:Nat}(I:k8 X pins σ H s)(h1:-(2 ^ 62)<=lo)(h2:lo < 2 ^ 62)(h3:-(2 ^ 62)<=hi)(h4:hi < 2 ^ 62)
    (q:R (Ry lo (hi - lo).toNat) H):wpAny (model X.prog X.w) X.A (pyIter (.ref s.heap.objs.size)) (PIE X pins σ tg R) E { s with heap:=s.heap.push { cls:=.type "range",data:=.fields #[.int lo t,.int hi u,.int 1 v] },toks:=tk }:=by
 refine wpAny_pyIter_range (IsRange.new ..) (small_one h1 h2 h3 h4) ?_;have I1:k8 X pins σ H { s with heap:=s.heap.push { cls:=.type "range",data:=.fields #[.int lo t,.int hi u,.int 1 v] },toks:=tk }:=I.kept λb o e=>ah _ e;refine⟨(s.heap.push { cls:=.type "range",data:=.fields #[.int lo t,.int hi u,.int 1 v] }).objs.size,[(s.heap.push { cls:=.type "range",data:=.fields #[.int lo t,.int hi u,.int 1 v] }).objs.size],za ⟨H,rfl,
  I1.kept (t':=tk) λb o e=>ah _ e,Jq _ lo (hi - lo).toNat,?_,λb hb=>?_,q⟩⟩
 . have e1:lo+((0:Nat):Int) * 1=lo:=by simp
   have e2:(((hi - lo).toNat:Nat):Int) - ((0:Nat):Int)=Builtin.Range.rangeSize lo hi 1:=by rw[rangeSize_one];split <;>omega
   show IsRangeIter _ _ (lo+((0:Nat):Int) * 1) ((((hi - lo).toNat:Nat):Int) - ((0:Nat):Int)) 1;rw[e1,e2];exact aw _ rfl
 . have e:b=(s.heap.push { cls:=.type "range",data:=.fields #[.int lo t,.int hi u,.int 1 v] }).objs.size:=by simpa using hb
   subst e;exact I1.fpOk (ae _) (I1.hok.fresh (ae _))
def Zw(ta:TA):TI:=λσ H R=>ta σ H λvs H1=>∃j:Int,vs=[.int j]/\-(2 ^ 62)<=j/\j < 2 ^ 62/\R (Ry 0 j.toNat) H1
def x5{a:Expr}{ta:TA}{p pos:Pos}(hg:Gl X "range")(hm:X.mg "range"=none)(ha:PA X [a] ta)(hs:starEach [a] X.env=[(false,eval a X.env)]:=by rfl):PI X tg (.Call (.Name "range" p) [a] [] pos) (Zw ta):=by
 intro pins s σ H R I h;refine Call_ (As I hg hm boot_range (cw (B6 (ha pos pins s σ H _ I h) λus s1 ⟨vs,H1,I1,r1,q1⟩=>?_) hs rfl));obtain⟨j,e,q1,q2,q⟩:=q1;subst e;cases r1 with
 | cons r rr=>
  cases rr;obtain⟨t,rfl⟩:=r;exact call_range_1 (Nx I1 oM oM q1 q2 (by simpa using q))
def tFor(wi:TI)(g:TG)(tb:TS):TS:=λD σ H=>wi σ H λJ H1=>∃W:Nat->Nat->St->Hp->Prop,(∃m,W 0 m σ H1)/\∀i m σ H,W i m σ H->
 (J.stop i H/\D.nx σ H)\/(J.go i H/\∃N:St->Hp->Prop,(∀σ' H',N σ' H'->∃m',m' < m/\W (i+1) m' σ' H')/\∀x H',J.yld i H x H'->g x σ H' λσ2 H2=>tb { D with nx:=N,ct:=N,bk:=D.nx } σ2 H2)
def DR(fp:List Addr)(h:Heap):List (Addr × Obj):=fp.filterMap λb=>(h.get? b).map λo=>(b,o)
def G9{fp:List Addr}{h:Heap}{b:Addr}{o:Obj}(hb:b∈fp)(e:h.get? b=some o):(b,o)∈DR fp h:=bM.mpr ⟨b,hb,by rw[e];rfl⟩
def Mi{fp:List Addr}{h:Heap}{p:Addr × Obj}(hp:p∈DR fp h):p.1∈fp/\h.get? p.1=some p.2:=by
 obtain⟨b,hb,e⟩:=bM.mp hp;cases q:h.get? b with
 | none=>rw[q]at e;cases e
 | some o=>
  rw[q]at e;have e':(b,o)=p:=Option.some.inj e;subst e';exact⟨hb,q⟩
def k8.pinned{pins:List (Addr × Obj)}{σ:St}{H:Hp}{s:Shared}{fp:List Addr}(I:k8 X pins σ H s)(hf:∀b∈fp,P2 X pins H b)(ho:∀b∈fp,∃o,s.heap.get? b=some o/\∀v,o.data≠.cell v):k8 X (pins++DR fp s.heap) σ H s:=
 I.pins_of λp hp=>(aA.mp hp).elim (λz=>I.pin p (av _ z)) λz=>by
  obtain⟨hb,e⟩:=Mi z;obtain⟨f0,f1,f2,_⟩:=hf p.1 hb;obtain⟨o,e',d⟩:=ho p.1 hb;rw[e]at e';cases e';exact⟨e,f0,f1,f2,d⟩
def k8.unpinned{pins pl:List (Addr × Obj)}{σ:St}{H:Hp}{s:Shared}(I:k8 X (pins++pl) σ H s):k8 X pins σ H s:=I.pins_of λp hp=>I.pin p (av _ (aP _ hp))
def G0{iter:Expr}{body:List Stmt}{wi:TI}{g:TG}{tb:TS}{pos:Pos}(hp:PassesOwn (model X.prog X.w) X.A X.env X.xe)(hc:X.calm=true)(hi:PI X tg iter wi)(hg:PG X tg g)(hb:KF X body tb)
    (hs:∀x,foldedSetIterable iter X.env x=pure x:=by intro _;rfl):PS X (.For tg iter body [] pos) (tFor wi g tb):=by
 intro pins s σ H D I h;refine wpAny_For (B6 (hi pins s σ H _ I h) λv s1 h1=>B6 h1 λitv s2 h2=>?_) hs;obtain⟨it,fp,tn,J,H2,e,I2,T,st2,f2,W,⟨m0,w0⟩,turn⟩:=h2;subst e;have stat:∀{H':Hp},(∀b∈fp,H' b=none)->∀b∈fp,P2 X pins H' b:=λhn b hb=>⟨hn b hb,(f2 b hb).2⟩;refine codeAny_forLoop_any (λn s'=>∃i σ' H',k8 X pins σ' H' s'/\tn i s'.heap/\(∀b∈fp,H' b=none)/\W i n σ' H') ?_ m0 ⟨0,σ,H2,I2,st2,λb hb=>(f2 b hb).1,w0⟩;rintro n s3 ⟨i,σ3,H3,I3,st3,fr3,w3⟩;rcases turn i n σ3 H3 w3 with ⟨stop,qn⟩ | ⟨go,N,hN,step⟩
 . refine wpAny_passesOwn hp (B6 (T.done X rfl rfl rfl hc i pins s3 σ3 H3 X.xe I3 (stat fr3) st3 stop) λr s4 ⟨hr,I4⟩=>?_);subst hr;exact wpAny_execs_nil ⟨σ3,H3,I4,qn⟩
 . refine wpAny_passesOwn hp (B6 (T.item X rfl rfl rfl hc i pins s3 σ3 H3 X.xe I3 (stat fr3) st3 go) λr s4 ⟨u,hr,h4⟩=>?_);subst hr;refine wpAny_passesOwn hp (B6 h4 λ_ s5 ⟨x,H5,I5,r5,y5,st5,fr5⟩=>?_);have I5':=I5.pinned (stat fr5) (T.obj _ _ st5);refine wpAny_passesOwn hp (B6 (hg _ s5 σ3 H5 x u _ I5' r5 (step x H5 y5)) λ_ s6 ⟨σ6,H6,I6,q6⟩=>?_);refine wpAny_passesOwn hp (B6 (hb _ s6 σ6 H6 _ I6 q6) λf s7 q7=>?_);have again:∀{σ7:St} {H7:Hp},k8 X (pins++DR fp s5.heap) σ7 H7 s7->N σ7 H7->∃m,m < n/\∃i σ' H',k8 X pins σ' H' s7/\tn i s7.heap/\(∀b∈fp,H' b=none)/\W i m σ' H':=λ{σ7 H7} I7 n7=>by
    obtain⟨m',hm,w7⟩:=hN σ7 H7 n7;refine⟨m',hm,i+1,σ7,H7,I7.unpinned,T.keep _ _ _ st5 λb hb o e=>(I7.pin (b,o) (av _ (av _ (G9 hb e)))).1,λb hb=>?_,w7⟩;obtain⟨o,e,d⟩:=T.obj _ _ st5 b hb;exact(I7.pin (b,o) (av _ (av _ (G9 hb e)))).2.1
   cases f with
   | next=>obtain⟨σ7,H7,I7,n7⟩:=q7;exact again I7 n7
   | cont=>obtain⟨σ7,H7,I7,n7⟩:=q7;exact again I7 n7
   | brk=>obtain⟨σ7,H7,I7,q7⟩:=q7;exact⟨σ7,H7,I7.unpinned,q7⟩
   | ret v=>obtain⟨x7,σ7,H7,I7,r7,q7⟩:=q7;exact⟨x7,σ7,H7,I7.unpinned,r7,q7⟩
end
def U8{K:aa}{a:Addr}{xs:List V}{g:TG}{tb:TS}{D:EB}{σ:St}{H:Hp}(Pv:Nat->St->Hp->Prop)(h0:Pv 0 σ H)(hl:∀i σ H,i<=xs.length->Pv i σ H->t8 K H a xs)
    (hs:∀i x σ H,xs[i]? = some x->Pv i σ H->g x σ H λσ2 H2=>tb { D with nx:=Pv (i+1),ct:=Pv (i+1),bk:=D.nx } σ2 H2) (hd:∀σ H,Pv xs.length σ H->D.nx σ H) :
    ∃W:Nat->Nat->St->Hp->Prop,(∃m,W 0 m σ H)/\∀i m σ H,W i m σ H->
     ((Ub K a).stop i H/\D.nx σ H)\/((Ub K a).go i H/\∃N:St->Hp->Prop,(∀σ' H',N σ' H'->∃m',m' < m/\W (i+1) m' σ' H')/\∀x H',(Ub K a).yld i H x H'->g x σ H' λσ2 H2=>tb { D with nx:=N,ct:=N,bk:=D.nx } σ2 H2):=by
 refine⟨λi m σ H=>m=xs.length - i/\i<=xs.length/\Pv i σ H,⟨xs.length,by simp,aK _,h0⟩,?_⟩;rintro i m σ H ⟨rfl,hi,p⟩;have q:=hl i σ H hi p;by_cases hlt:i < xs.length
 . refine .inr ⟨⟨xs,xs[i],q,by simp[hlt]⟩,Pv (i+1),λσ' H' p'=>⟨xs.length - (i+1),oM,rfl,hlt,p'⟩,λx H' y=>?_⟩;obtain⟨e,y⟩:=y;subst e;exact hs i x σ _ (y xs q) p
 . have e:i=xs.length:=by omega
   subst e;exact .inl ⟨⟨xs,q,ae _⟩,hd σ H p⟩
def QH{K:aa}{a:Addr}{xs:List V}{g:TG}{tb:TS}{D:EB}{σ:St}{H:Hp}(Pv:Nat->St->Hp->Prop)(h0:Pv 0 σ H)(hl:∀i σ H,i<=xs.length->Pv i σ H->o7 K H a xs)
    (hs:∀i x σ H,xs[i]? = some x->Pv i σ H->g x σ H λσ2 H2=>tb { D with nx:=Pv (i+1),ct:=Pv (i+1),bk:=D.nx } σ2 H2) (hd:∀σ H,Pv xs.length σ H->D.nx σ H) :
    ∃W:Nat->Nat->St->Hp->Prop,(∃m,W 0 m σ H)/\∀i m σ H,W i m σ H->
     ((Ua K a).stop i H/\D.nx σ H)\/((Ua K a).go i H/\∃N:St->Hp->Prop,(∀σ' H',N σ' H'->∃m',m' < m/\W (i+1) m' σ' H')/\∀x H',(Ua K a).yld i H x H'->g x σ H' λσ2 H2=>tb { D with nx:=N,ct:=N,bk:=D.nx } σ2 H2):=by
 refine⟨λi m σ H=>m=xs.length - i/\i<=xs.length/\Pv i σ H,⟨xs.length,by simp,aK _,h0⟩,?_⟩;rintro i m σ H ⟨rfl,hi,p⟩;have q:=hl i σ H hi p;by_cases hlt:i < xs.length
 . refine .inr ⟨⟨xs,xs[i],q,by simp[hlt]⟩,Pv (i+1),λσ' H' p'=>⟨xs.length - (i+1),oM,rfl,hlt,p'⟩,λx H' y=>?_⟩;obtain⟨e,y⟩:=y;subst e;exact hs i x σ _ (y xs q) p
 . have e:i=xs.length:=by omega
   subst e;exact .inl ⟨⟨xs,q,ae _⟩,hd σ H p⟩
def AF{lo:Int}{n:Nat}{g:TG}{tb:TS}{D:EB}{σ:St}{H:Hp}(Pv:Nat->St->Hp->Prop)(h0:Pv 0 σ H)
    (hs:∀i σ H,i < n->Pv i σ H->g (.int (lo+i)) σ H λσ2 H2=>tb { D with nx:=Pv (i+1),ct:=Pv (i+1),bk:=D.nx } σ2 H2) (hd:∀σ H,Pv n σ H->D.nx σ H) :
    ∃W:Nat->Nat->St->Hp->Prop,(∃m,W 0 m σ H)/\∀i m σ H,W i m σ H->
     ((Ry lo n).stop i H/\D.nx σ H)\/((Ry lo n).go i H/\∃N:St->Hp->Prop,(∀σ' H',N σ' H'->∃m',m' < m/\W (i+1) m' σ' H')/\∀x H',(Ry lo n).yld i H x H'->g x σ H' λσ2 H2=>tb { D with nx:=N,ct:=N,bk:=D.nx } σ2 H2):=by
 refine⟨λi m σ H=>m=n - i/\i<=n/\Pv i σ H,⟨n,by simp,aK _,h0⟩,?_⟩;rintro i m σ H ⟨rfl,hi,p⟩;by_cases hlt:i < n
 . refine .inr ⟨hlt,Pv (i+1),λσ' H' p'=>⟨n - (i+1),oM,rfl,hlt,p'⟩,λx H' y=>?_⟩;obtain⟨e,y⟩:=y;subst e y;exact hs i σ _ hlt p
 . have e:i=n:=by omega
   subst e;exact .inl ⟨ae _,hd σ H p⟩
abbrev R2:=V->V->Hp->VK->Prop
def CY(X:Cx)(f:Value->Value->Sem Value)(r:R2):Prop:=
 ∀(pins:List (Addr × Obj)) (s:Shared) (σ:St) (H:Hp) (x y:V) (v u:Value) (Q:VK),k8 X pins σ H s->y6 x v->y6 y u->r x y H Q->
  wpAny (model X.prog X.w) X.A (f v u) (EP X pins σ Q) X.xe s
def UnR(X:Cx)(f:Value->Sem Value)(r:V->Hp->VK->Prop):Prop:=
 ∀(pins:List (Addr × Obj)) (s:Shared) (σ:St) (H:Hp) (x:V) (v:Value) (Q:VK),k8 X pins σ H s->y6 x v->r x H Q->
  wpAny (model X.prog X.w) X.A (f v) (EP X pins σ Q) X.xe s
def R3(X:Cx)(f:Value)(r:List V->Hp->VK->Prop):Prop:=
 ∀(pins:List (Addr × Obj)) (s:Shared) (σ:St) (H:Hp) (xs:List V) (us:List Value) (Q:VK),k8 X pins σ H s->r8 xs us->r xs H Q->
  wpAny (model X.prog X.w) X.A (call f us) (EP X pins σ Q) X.xe s
def TruR(X:Cx)(r:V->Hp->(Bool->Hp->Prop)->Prop):Prop:=
 ∀(pins:List (Addr × Obj)) (s:Shared) (σ:St) (H:Hp) (x:V) (v:Value) (Q:Bool->Hp->Prop),k8 X pins σ H s->y6 x v->r x H Q->
  wpAny (model X.prog X.w) X.A (truthy v) (TP X pins σ Q) X.xe s
def tOp(r:R2)(ta tb:TE):TE:=λσ H Q=>ta σ H λx H1=>tb σ H1 λy H2=>r x y H2 Q
def tUn(r:V->Hp->VK->Prop)(ta:TE):TE:=λσ H Q=>ta σ H λx H1=>r x H1 Q
def rI(C:Int->Int->Prop)(g:Int->Int->V):R2:=λx y H Q=>∃i j,x=.int i/\y=.int j/\C i j/\Q (g i j) H
def Ss(g:Int->Int->V):R2:=λx y H Q=>∃i j,x=.int i/\y=.int j/\Q (g i j) H
def rU(g:Int->V):V->Hp->VK->Prop:=λx H Q=>∃i,x=.int i/\Q (g i) H
section
variable{X:Cx}{a b c:Expr}{ta tb tc:TE}{pos:Pos}
def TU(ha:PE X a ta)(hb:PE X b tb){pins:List (Addr × Obj)}{s:Shared}{σ:St}{H:Hp}{R:V->V->Hp->Prop}(I:k8 X pins σ H s)
    (h:ta σ H λx H1=>tb σ H1 λy H2=>R x y H2) {Q:Value->Shared->Prop} {f:Value->Value->Sem Value}
    (hf:∀v u s2 x y H2,k8 X pins σ H2 s2->y6 x v->y6 y u->R x y H2->wpAny (model X.prog X.w) X.A (f v u) Q X.xe s2) :
    wpAny (model X.prog X.w) X.A (eval a X.env) (λv s₁=>wpAny (model X.prog X.w) X.A (eval b X.env) (λu s₂=>wpAny (model X.prog X.w) X.A (f v u) Q X.xe s₂) X.xe s₁) X.xe s:=by
 refine B6 (ha pins s σ H _ I h) λv s1 ⟨x,H1,I1,r1,q1⟩=>?_;refine B6 (hb pins s1 σ H1 _ I1 q1) λu s2 ⟨y,H2,I2,r2,q2⟩=>?_;exact hf v u s2 x y H2 I2 r1 r2 q2
def l5{op:Operator}{r:R2}(ho:CY X (binaryOp op) r)(ha:PE X a ta)(hb:PE X b tb):PE X (.BinOp a op b pos) (tOp r ta tb):=by
 intro pins s σ H Q I h;exact wpAny_BinOp (TU ha hb I h λv u s2 x y H2 I2 rx ry q=>ho pins s2 σ H2 x y v u Q I2 rx ry q)
def NC{op:UnaryOp}{r:V->Hp->VK->Prop}(ho:UnR X (unaryOp op) r)(ha:PE X a ta):PE X (.UnaryOp op a pos) (tUn r ta):=by
 intro pins s σ H Q I h;exact UnaryOp_ (B6 (ha pins s σ H _ I h) λv s1 ⟨x,H1,I1,r1,q1⟩=>ho pins s1 σ H1 x v Q I1 r1 q1)
def Ui{f:Value->Value->Sem Value}{C:Int->Int->Prop}{g:Int->Int->Int}
    (rule:∀(i j:Int) (t u:Tok) (s:Shared) (Q:Value->Shared->Prop) (E:Value->Shared->Prop),C i j->Q (.int (g i j) s.toks) { s with toks:=s.toks+1 }->wpAny (model X.prog X.w) X.A (f (.int i t) (.int j u)) Q E s) :
    CY X f (rI C λi j=>.int (g i j)):=by
 intro pins s σ H x y v u Q I rx ry h;obtain⟨i,j,rfl,rfl,hc,q⟩:=h;obtain⟨t,rfl⟩:=rx;obtain⟨t',rfl⟩:=ry;exact rule i j t t' s _ _ hc ⟨.int (g i j),H,I.tok _,⟨_,rfl⟩,q⟩
def VC{f:Value->Value->Sem Value}{g:Int->Int->Int}
    (rule:∀(i j:Int) (t u:Tok) (s:Shared) (Q:Value->Shared->Prop) (E:Value->Shared->Prop),Q (.int (g i j) s.toks) { s with toks:=s.toks+1 }->wpAny (model X.prog X.w) X.A (f (.int i t) (.int j u)) Q E s) :
    CY X f (Ss λi j=>.int (g i j)):=by
 intro pins s σ H x y v u Q I rx ry h;obtain⟨i,j,rfl,rfl,q⟩:=h;obtain⟨t,rfl⟩:=rx;obtain⟨t',rfl⟩:=ry;exact rule i j t t' s _ _ ⟨.int (g i j),H,I.tok _,⟨_,rfl⟩,q⟩
def SF{f:Value->Value->Sem Value}{g:Int->Int->Bool}
    (rule:∀(i j:Int) (t u:Tok) (s:Shared) (Q:Value->Shared->Prop) (E:Value->Shared->Prop),Q (.bool (g i j)) s->wpAny (model X.prog X.w) X.A (f (.int i t) (.int j u)) Q E s) :
    CY X f (Ss λi j=>.bl (g i j)):=by
 intro pins s σ H x y v u Q I rx ry h;obtain⟨i,j,rfl,rfl,q⟩:=h;obtain⟨t,rfl⟩:=rx;obtain⟨t',rfl⟩:=ry;exact rule i j t t' s _ _ ⟨.bl (g i j),H,I,rfl,q⟩
def CPow(i j:Int):Prop:=0<=j/\j<=1000000/\i.natAbs < 2 ^ 64
def MQ(i j:Int):Prop:=(-(2 ^ 64) < i/\i < 2 ^ 64)\/(-(2 ^ 64) < j/\j < 2 ^ 64)
def MQ.ok{i j:Int}(h:MQ i j):IntMulOk i j:=by
 rcases h with ⟨h1,h2⟩ | ⟨h1,h2⟩
 . exact .of_left (intBits_le_64 h1 h2)
 . exact .of_right (intBits_le_64 h1 h2)
def E3:CY X (binaryOp .Add) (Ss λi j=>.int (i+j)):=VC λ_ _ _ _ _ _ _ q=>add_int q
def CI:CY X (binaryOp .Sub) (Ss λi j=>.int (i - j)):=VC λ_ _ _ _ _ _ _ q=>sub_int q
def CJ:CY X (binaryOp .Mult) (rI MQ λi j=>.int (i * j)):=Ui λ_ _ _ _ _ _ _ hc q=>mul_int q hc.ok
def C4:CY X (binaryOp .Mod) (rI (λ_ j=>j≠0) λi j=>.int (i.fmod j)):=Ui λ_ _ _ _ _ _ _ hc q=>mod_int' hc q
def SD:CY X (binaryOp .Pow) (rI CPow λi j=>.int (i ^ j.toNat)):=Ui λ_ _ _ _ _ _ _ hc q=>pow_int_small hc.1 hc.2.1 hc.2.2 q
def unI{f:Value->Sem Value}{g:Int->Int}
    (rule:∀(i:Int) (t:Tok) (s:Shared) (Q:Value->Shared->Prop) (E:Value->Shared->Prop),Q (.int (g i) s.toks) { s with toks:=s.toks+1 }->wpAny (model X.prog X.w) X.A (f (.int i t)) Q E s) :
    UnR X f (rU λi=>.int (g i)):=by
 intro pins s σ H x v Q I rx h;obtain⟨i,rfl,q⟩:=h;obtain⟨t,rfl⟩:=rx;exact rule i t s _ _ ⟨.int (g i),H,I.tok _,⟨_,rfl⟩,q⟩
def Jn:UnR X (unaryOp .USub) (rU λi=>.int (-i)):=unI λ_ _ _ _ _ q=>neg_int q
end
def UK:V->V->Bool
 | .non,.non=>true | .non,.int _=>true | .int _,.non=>true | .non,.bl _=>true | .bl _,.non=>true | .non,.str _=>true | .str _,.non=>true
 | .int _,.int _=>true | .bl _,.bl _=>true | .str _,.str _=>true | .byt _,.byt _=>true
 | .int _,.str _=>true | .str _,.int _=>true | .bl _,.str _=>true | .str _,.bl _=>true
 | _,_=>false
def rEq:R2:=λx y H Q=>UK x y=true/\Q (.bl (decide (x=y))) H
def rNe:R2:=λx y H Q=>UK x y=true/\Q (.bl (!decide (x=y))) H
def Lz{i j:Int}:decide (V.int i=V.int j)=(i == j):=by
 rw[Bool.eq_iff_iff];simp
def OJ{i j:Bool}:decide (V.bl i=V.bl j)=(i == j):=by
 rw[Bool.eq_iff_iff];simp
def Ly{i j:Str}:decide (V.str i=V.str j)=(i == j):=by
 rw[Bool.eq_iff_iff];simp
def LA{i j:Array UInt8}:decide (V.byt i=V.byt j)=(i.toList == j.toList):=by
 rw[Bool.eq_iff_iff];cases i;cases j;simp
section
variable{X:Cx}{a b c:Expr}{ta tb tc:TE}{pos:Pos}
def x4{pins:List (Addr × Obj)}{σ:St}{H:Hp}{s:Shared}{Q:VK}{k k':Bool}(I:k8 X pins σ H s)(q:Q (.bl k) H)(e:k=k'):EP X pins σ Q (.bool k') s:=by
 subst e;exact⟨.bl k,H,I,rfl,q⟩
def D5:CY X (compareOp .Eq) rEq:=by
 intro pins s σ H x y v u Q I rx ry h;obtain⟨hs,q⟩:=h;cases x with
 | non=>
  cases rx;cases y with
  | non=>cases ry;exact PySem.EqNone.eq_none_none (x4 I q (by simp))
  | bl j=>cases ry;exact PySem.EqNone.eq_none_bool (x4 I q (by simp))
  | int j=>obtain⟨t',rfl⟩:=ry;exact PySem.EqNone.eq_none_int (x4 I q (by simp))
  | str j=>obtain⟨t',rfl⟩:=ry;exact PySem.EqNone.eq_none_str (x4 I q (by simp))
  | _=>exact absurd (show false=true from hs) aG
 | bl i=>
  cases rx;cases y with
  | non=>cases ry;exact PySem.EqNone.eq_bool_none (x4 I q (by simp))
  | bl j=>cases ry;exact eq_bool (x4 I q OJ)
  | str j=>obtain⟨t',rfl⟩:=ry;exact PySem.EqMixed.eq_bool_str (x4 I q (by simp))
  | _=>exact absurd (show false=true from hs) aG
 | int i=>
  obtain⟨t,rfl⟩:=rx;cases y with
  | non=>cases ry;exact PySem.EqNone.eq_int_none (x4 I q (by simp))
  | int j=>obtain⟨t',rfl⟩:=ry;exact eq_int (x4 I q Lz)
  | str j=>obtain⟨t',rfl⟩:=ry;exact PySem.EqMixed.eq_int_str (x4 I q (by simp))
  | _=>exact absurd (show false=true from hs) aG
 | str i=>
  obtain⟨t,rfl⟩:=rx;cases y with
  | non=>cases ry;exact PySem.EqNone.eq_str_none (x4 I q (by simp))
  | bl j=>cases ry;exact PySem.EqMixed.eq_str_bool (x4 I q (by simp))
  | int j=>obtain⟨t',rfl⟩:=ry;exact PySem.EqMixed.eq_str_int (x4 I q (by simp))
  | str j=>obtain⟨t',rfl⟩:=ry;exact eq_str (x4 I q Ly)
  | _=>exact absurd (show false=true from hs) aG
 | byt i=>
  obtain⟨t,rfl⟩:=rx;cases y with
  | byt j=>obtain⟨t',rfl⟩:=ry;exact PySem.W.eq_bytes (x4 I q LA)
  | _=>exact absurd (show false=true from hs) aG
 | _=>cases y <;>exact absurd (show false=true from hs) aG
def NL:CY X (compareOp .NotEq) rNe:=by
 intro pins s σ H x y v u Q I rx ry h;obtain⟨hs,q⟩:=h;cases x with
 | non=>
  cases rx;cases y with
  | non=>cases ry;exact PySem.EqNone.ne_none_none (x4 I q (by simp))
  | bl j=>cases ry;exact PySem.EqNone.ne_none_bool (x4 I q (by simp))
  | int j=>obtain⟨t',rfl⟩:=ry;exact PySem.EqNone.ne_none_int (x4 I q (by simp))
  | str j=>obtain⟨t',rfl⟩:=ry;exact PySem.EqNone.ne_none_str (x4 I q (by simp))
  | _=>exact absurd (show false=true from hs) aG
 | bl i=>
  cases rx;cases y with
  | non=>cases ry;exact PySem.EqNone.ne_bool_none (x4 I q (by simp))
  | bl j=>cases ry;exact ne_bool (x4 I q (congrArg not OJ))
  | str j=>obtain⟨t',rfl⟩:=ry;exact PySem.EqMixed.ne_bool_str (x4 I q (by simp))
  | _=>exact absurd (show false=true from hs) aG
 | int i=>
  obtain⟨t,rfl⟩:=rx;cases y with
  | non=>cases ry;exact PySem.EqNone.ne_int_none (x4 I q (by simp))
  | int j=>obtain⟨t',rfl⟩:=ry;exact ne_int (x4 I q (congrArg not Lz))
  | str j=>obtain⟨t',rfl⟩:=ry;exact PySem.EqMixed.ne_int_str (x4 I q (by simp))
  | _=>exact absurd (show false=true from hs) aG
 | str i=>
  obtain⟨t,rfl⟩:=rx;cases y with
  | non=>cases ry;exact PySem.EqNone.ne_str_none (x4 I q (by simp))
  | bl j=>cases ry;exact PySem.EqMixed.ne_str_bool (x4 I q (by simp))
  | int j=>obtain⟨t',rfl⟩:=ry;exact PySem.EqMixed.ne_str_int (x4 I q (by simp))
  | str j=>obtain⟨t',rfl⟩:=ry;exact ne_str (x4 I q (congrArg not Ly))
  | _=>exact absurd (show false=true from hs) aG
 | byt i=>
  obtain⟨t,rfl⟩:=rx;cases y with
  | byt j=>obtain⟨t',rfl⟩:=ry;exact PySem.W.ne_bytes (x4 I q (congrArg not LA))
  | _=>exact absurd (show false=true from hs) aG
 | _=>cases y <;>exact absurd (show false=true from hs) aG
def NM:CY X (compareOp .Lt) (Ss λi j=>.bl (decide (i < j))):=SF λ_ _ _ _ _ _ _ q=>lt_int q
def VB:CY X (compareOp .LtE) (Ss λi j=>.bl (decide (i<=j))):=SF λ_ _ _ _ _ _ _ q=>le_int q
def W9:CY X (compareOp .Gt) (Ss λi j=>.bl (decide (j < i))):=SF λ_ _ _ _ _ _ _ q=>gt_int q
def NN:CY X (compareOp .Is) (λx y H Q=>y=.non/\Q (.bl (decide (x=.non))) H):=by
 intro pins s σ H x y v u Q I rx ry h;obtain⟨rfl,q⟩:=h;cases ry;refine is_none_gen (x4 I q ?_);cases x <;>first
  | (cases rx;rfl)
  | (obtain⟨t,rfl⟩:=rx;rfl)
def l6(b:Expr){op:CmpOp}(h:op≠.In:=by decide)(h2:op≠.NotIn:=by decide):behindInMarks op b=false:=by
 have e1:(op == CmpOp.In)=false:=by cases op <;>first | rfl | exact absurd rfl h
 have e2:(op == CmpOp.NotIn)=false:=by cases op <;>first | rfl | exact absurd rfl h2
 cases b <;>simp[behindInMarks,e1,e2]
def AE{op:CmpOp}{r:R2}(ho:CY X (compareOp op) r)(ha:PE X a ta)(hb:PE X b tb)(hm:behindInMarks op b=false):PE X (.Compare a [op] [b] pos) (tOp r ta tb):=by
 intro pins s σ H Q I h;exact wpAny_Compare1 (TU ha hb I h λv u s2 x y H2 I2 rx ry q=>ho pins s2 σ H2 x y v u Q I2 rx ry q) hm
def Uv(t:TE):TT:=λσ H Q=>t σ H λx H'=>∃k,x=.bl k/\Q k H'
def l4{op:CmpOp}{r:R2}(ho:CY X (compareOp op) r)(ha:PE X a ta)(hb:PE X b tb)(hm:behindInMarks op b=false):PT X (.Compare a [op] [b] pos) (Uv (tOp r ta tb)):=by
 intro pins s σ H Q I h;refine wpAny_isTrue_Compare1 (B6 (ha pins s σ H _ I h) λv s1 ⟨x,H1,I1,r1,q1⟩=>B6 (hb pins s1 σ H1 _ I1 q1) λu s2 ⟨y,H2,I2,r2,q2⟩=>
  B6 (ho pins s2 σ H2 x y v u _ I2 r1 r2 q2) λc s3 ⟨z,H3,I3,r3,k,e,q3⟩=>?_) hm
 subst e;cases r3;exact wpAny_truthy_bool ⟨H3,I3,q3⟩
def TruV(K:aa)(x:V)(H:Hp)(k:Bool):Prop:=
 match x with
 | .non=>k=false
 | .bl b=>k=b
 | .int i=>k=(i != 0)
 | .str y=>y.length<=sizeLine/\k=((y.length:Int) != 0)
 | .byt y=>y.size<=sizeLine/\k=((y.size:Int) != 0)
 | .ref p=>(∃xs,t8 K H p xs/\k = !xs.isEmpty)\/(∃xs,o7 K H p xs/\k = !xs.isEmpty)\/∃kvs,H p=some (.dK kvs)/\k = !kvs.isEmpty
 | _=>False
def Kk{κ:Type}{kvs:List (κ × V)}{vs:List (κ × Value)}(r:KV kvs vs):(!vs.isEmpty) = !kvs.isEmpty:=by
 cases r <;>rfl
def Ek{xs:List V}{its:List Value}(r:r8 xs its):(!its.toArray.isEmpty) = !xs.isEmpty:=by
 cases r <;>simp
def CP:(sizeLine:Nat) < 2 ^ 63:=by rw[sizeLine_eq];decide
def tru_ok:TruR X (λx H Q=>∃k,TruV X.K x H k/\Q k H):=by
 intro pins s σ H x v Q I rx h;obtain⟨k,e,q⟩:=h;have hl:=CP;have hs:sizeLine=16777216:=sizeLine_eq;cases x with
 | non=>
  cases rx;have e':k=false:=e;subst e';exact truthy_none ⟨H,I,q⟩
 | bl b=>
  cases rx;have e':k=b:=e;subst e';exact wpAny_truthy_bool ⟨H,I,q⟩
 | int i=>
  obtain⟨t,rfl⟩:=rx;have e':k=(i != 0):=e;subst e';exact PySem.P.truthy_int ⟨H,I,q⟩
 | str y=>
  obtain⟨t,rfl⟩:=rx;obtain⟨hy,e'⟩:y.length<=sizeLine/\k=((y.length:Int) != 0):=e;subst e';exact PySem.P.truthy_str oM ⟨H,I.tok _,q⟩
 | byt y=>
  obtain⟨t,rfl⟩:=rx;obtain⟨hy,e'⟩:y.size<=sizeLine/\k=((y.size:Int) != 0):=e;subst e';exact PySem.W.truthy_bytes oM ⟨H,I.tok _,q⟩
 | ref p=>
  cases rx;have e':(∃xs,t8 X.K H p xs/\k = !xs.isEmpty)\/(∃xs,o7 X.K H p xs/\k = !xs.isEmpty)\/∃kvs,H p=some (.dK kvs)/\k = !kvs.isEmpty:=e;rcases e' with ⟨xs,hx,e'⟩ | ⟨xs,hx,e'⟩ | ⟨kvs,hx,e'⟩
  . subst e';obtain⟨its,r,pl,hz⟩:=I.list hx;have hlen:=r.length;exact wpAny_truthy_list pl.isList (by simp only[au];omega) ⟨H,I.tok _,by rw[Ek r];exact q⟩
  . subst e';obtain⟨its,r,pl,hz⟩:=I.tuple hx;have hlen:=r.length;exact truthy_tuple pl (by simp only[au];omega) ⟨H,I.tok _,by rw[Ek r];exact q⟩
  . subst e';obtain⟨hz,hS,vs,r,m⟩:kvs.length<=sizeLine/\(p == sysModules)=false/\∃vs,KV kvs vs/\s.heap.DictOf (GF X.prog X.w) p vs:=I.hok p _ hx;have hlen:kvs.length=vs.length:=Paired.length r;exact wpAny_truthy_dict hS m oM ⟨H,I.tok _,by rw[Kk r];exact q⟩
 | _=>exact(show False from e).elim
def DU:CY X (binaryOp .Add) (λx y H Q=>∃i j,x=.str i/\y=.str j/\i.length+j.length<=sizeLine/\Q (.str (i++j)) H):=by
 intro pins s σ H x y v u Q I rx ry h;obtain⟨i,j,rfl,rfl,hz,q⟩:=h;obtain⟨t,rfl⟩:=rx;obtain⟨t',rfl⟩:=ry;exact add_str (λt' tk=>⟨.str (i++j),H,I.tok _,⟨_,rfl⟩,q⟩) hz
def Fq{x:V}{us:List Value}(r:r8 [x] us):∃u,us=[u]/\y6 x u:=by
 cases r with
 | cons r1 r2=>cases r2;exact⟨_,rfl,r1⟩
def Uu{x y:V}{us:List Value}(r:r8 [x,y] us):∃u w',us=[u,w']/\y6 x u/\y6 y w':=by
 cases r with
 | cons r1 r2=>
  cases r2 with
  | cons r3 r4=>cases r4;exact za ⟨rfl,r1,r3⟩
def Ey:R3 X (.builtin "abs") (λxs H Q=>∃i,xs=[.int i]/\Q (.int (if i < 0 then -i else i)) H):=by
 intro pins s σ H xs us Q I r h;obtain⟨i,rfl,q⟩:=h;obtain⟨u,rfl,t,rfl⟩:=Fq r;exact call_abs_int λu tk=>⟨.int (if i < 0 then -i else i),H,I.tok _,⟨_,rfl⟩,q⟩
def MI(hc:X.calm=true):R3 X (.builtin "min") (λxs H Q=>∃i j,xs=[.int i,.int j]/\Q (.int (if j < i then j else i)) H):=by
 intro pins s σ H xs us Q I r h;obtain⟨i,j,rfl,q⟩:=h;obtain⟨u,w',rfl,⟨t,rfl⟩,⟨t',rfl⟩⟩:=Uu r;refine min_two_ints (I.ok.hd hc) λh' tk k=>⟨_,H,I.kept k,?_,q⟩;by_cases hj:j < i
 . rw[if_pos hj,if_pos hj];exact⟨_,rfl⟩
 . rw[if_neg hj,if_neg hj];exact⟨_,rfl⟩
def FK:R3 X (.type "int") (λxs H Q=>(∃i,xs=[.int i]/\Q (.int i) H)\/∃k,xs=[.bl k]/\Q (.int (if k then 1 else 0)) H):=by
 intro pins s σ H xs us Q I r h;rcases h with ⟨i,rfl,q⟩ | ⟨k,rfl,q⟩
 . obtain⟨u,rfl,t,rfl⟩:=Fq r;exact call_int_int ⟨.int i,H,I,⟨_,rfl⟩,q⟩
 . obtain⟨u,rfl,r1⟩:=Fq r;cases r1;exact call_int_bool ⟨.int (if k then 1 else 0),H,I.tok _,⟨_,rfl⟩,q⟩
def AX(K:aa)(x:V)(H:Hp)(n:Nat):Prop:=
 match x with
 | .str y=>y.length<=sizeLine/\n=y.length
 | .byt y=>y.size<=sizeLine/\n=y.size
 | .ref p=>(∃xs,t8 K H p xs/\n=xs.length)\/∃xs,o7 K H p xs/\n=xs.length
 | _=>False
def u9:R3 X (.builtin "len") (λxs H Q=>∃x n,xs=[x]/\AX X.K x H n/\Q (.int n) H):=by
 intro pins s σ H xs us Q I r h;obtain⟨x,n,rfl,e,q⟩:=h;obtain⟨u,rfl,rx⟩:=Fq r;have hl:=CP;have hs:sizeLine=16777216:=sizeLine_eq;cases x with
 | str y=>
  obtain⟨t,rfl⟩:=rx;obtain⟨hy,e'⟩:y.length<=sizeLine/\n=y.length:=e;subst e';exact len_str oM ⟨.int _,H,I.tok _,⟨_,rfl⟩,q⟩
 | byt y=>
  obtain⟨t,rfl⟩:=rx;obtain⟨hy,e'⟩:y.size<=sizeLine/\n=y.size:=e;subst e';exact PySem.W.len_bytes oM ⟨.int _,H,I.tok _,⟨_,rfl⟩,q⟩
 | ref p=>
  cases rx;have e':(∃xs,t8 X.K H p xs/\n=xs.length)\/∃xs,o7 X.K H p xs/\n=xs.length:=e;rcases e' with ⟨xs,hx,e'⟩ | ⟨xs,hx,e'⟩
  . subst e';obtain⟨its,r',pl,hz⟩:=I.list hx;have hlen:=r'.length;exact Calls.call_len_list pl.isList (by simp only[au];omega) ⟨.int xs.length,H,I.tok _,⟨_,by simp only[au];rw[hlen]⟩,q⟩
  . subst e';obtain⟨its,r',pl,hz⟩:=I.tuple hx;have hlen:=r'.length;exact len_tuple pl (by simp only[au];omega) ⟨.int xs.length,H,I.tok _,⟨_,by simp only[au];rw[hlen]⟩,q⟩
 | _=>exact(show False from e).elim
end
structure KG(h:Heap)(x dx C:Addr)(mA:Str->Option Value):Prop where
 obj:h.get? x=some (PySem.W.instObj C dx)
 ns:h.Ns1 dx mA
 ne:dx≠x
def Mo{h:Heap}{dx:Addr}{mA:Str->Option Value}(n:h.Ns1 dx mA):∃od,h.get? dx=some od/\∀name,PySem.W.lookIn name od=some (mA name):=by
 obtain⟨o,es,ep,ho,hd,hk,_,hm⟩:=n;refine⟨o,ho,λname=>?_⟩;have e:=hm name;unfold nsFind findBy at e;rw[<- Array.find?_toList]at e;unfold PySem.W.lookIn;rw[hd];dsimp only;split
 . rename_i y q;rw[q]at e;exact congrArg some e
 . rename_i q;rw[q]at e;have a:es.toList.any (·.refKey)=false:=by
    rw[List.any_eq_false];intro y hy;obtain⟨z,t,hkey⟩:=hk y (Array.mem_toList_iff.mp hy);simp[DictEntry.refKey,hkey]
   have a':¬es.toList.any (·.refKey)=true:=by rw[a];exact aG
   rw[if_neg a'];exact congrArg some e
def KG.look{h:Heap}{x dx C:Addr}{mA:Str->Option Value}(I:KG h x dx C mA):∃od,PySem.W.InstAt h x (PySem.W.instObj C dx) C (some od)/\∀name,PySem.W.lookIn name od=some (mA name):=
 let⟨od,ho,hl⟩:=Mo I.ns
 ⟨od,⟨I.obj,rfl,rfl,ho⟩,hl⟩
section
variable{prog:Program}{w:World}{A:Around}{E:Value->Shared->Prop}{s:Shared}{K:aa}{x dx C f:Addr}{mA:Str->Option Value}{name:Str}{v:Value}
def QE{expr:Bool}{Q:Value->Shared->Prop}(X:K.In s.heap)(I:KG s.heap x dx C mA)(hg:PySem.W.plainGet K C name=true)(hh:PySem.W.hasDictIn K C=true)
    (ha:PySem.W.findIn K (.ref C) name=some none) (hv:mA name=some v) (hv':PySem.W.handedIn v=true) (h:Q v { s with toks:=s.toks+1 }) :
    wpAny (model prog w) A (getAttr (.ref x) name expr) Q E s:=by
 obtain⟨od,J,hl⟩:=I.look;exact PySem.W.get_value X J (PySem.W.plainGet_of hg).1 (PySem.W.findObj_own hh ha rfl (by rw[hl,hv])) hv' h
def Os{pl:Sem Bool}{Q:Value × List Value->Shared->Prop}(X:K.In s.heap)(I:KG s.heap x dx C mA)(hg:PySem.W.plainGet K C name=true)
    (hf:PySem.W.findIn K (.ref C) name=some (some (.ref f))) (ht:PySem.W.isFn K (.ref f)=true) (hv:mA name=none) (h:Q (.ref f,[.ref x]) s) :
    wpAny (model prog w) A (getMethod (.ref x) name pl) Q E s:=by
 obtain⟨od,J,hl⟩:=I.look;exact PySem.W.method_fn X J (PySem.W.plainGet_of hg).1 (PySem.W.plainGet_of hg).2 hf (beq_iff_eq.mp ht) (by show(PySem.W.lookIn name od).map (·.isSome)=some false;rw[hl,hv];rfl) h
def Px{ns:List Str}{Q:Unit->Shared->Prop}(X:K.In s.heap)(I:KG s.heap x dx C mA)
    (hs:PySem.W.findIn K (.ref C) "__setattr__"=some (some (.builtin "object.__setattr__"))) (hp:PySem.W.plainOver K C=true) (ht:PySem.W.takerIn K C name=some none) (hh:PySem.W.hasDictIn K C=true)
    (hw:PySem.Within mA ns) (hsz:ns.length<=sizeLine)
    (h:∀h',KG h' x dx C (λy=>if y=name then some v else mA y)->Heap.SameBut dx s.heap h'->Q () { s with heap:=h',toks:=s.toks+2 }) :
    wpAny (model prog w) A (setAttr (.ref x) name v) Q E s:=by
 obtain⟨od,J,hl⟩:=I.look;refine PySem.W.set_plain X J hs (PySem.W.osa_open (s:={ s with toks:=s.toks+1 }) (r:=none) X J hp ht λb=>?_);obtain⟨cd,hc,hd'⟩:=PySem.W.any_some hh;have hx:s.heap.get? x=some ⟨.ref C,some dx,.plain,#[]⟩:=I.obj;refine wpAny_bind (wpAny_pure (wpAny_bind (wpAny_bind (wpAny_loadPart hx (wpAny_bind (PySem.W.Looks.here (s:={ s with toks:=s.toks+1 }) (PySem.W.looks_clsIn X hc) ?_))))));rw[hd'];refine wpAny_pure (a:=some dx) (wpAny_bind (wpAny_pure (wpAny_bind ?_)));refine wpAny_nsSet1 (s:={ s with toks:=s.toks+1 }) I.ns λh' hn2 hs2=>?_;obtain⟨oD,esD,epD,hoD,hdD,hcD⟩:=hn2.count (PySem.Within.cons name v hw);refine wpAny_bind (wpAny_lookBehind hoD (by rw[hdD];exact pastItsLine_dict (af hcD (by rw[bx];omega))) ?_);exact wpAny_pure (h _ ⟨(hs2.2 _ (Ne.symm I.ne)).trans I.obj,hn2,I.ne⟩ hs2)
def Od{R:Result->Shared->Prop}{vs:List Value}{kw:List (Str × Value)}(X:K.In s.heap)(hm:PySem.W.makesIn K C=true)
    (hi:PySem.W.findIn K (.ref C) "__init__"=some (some (.ref f))) (hf:PySem.W.typeIn K (.ref f)=some (.type "function"))
    (h:codeAny (model prog w) (A.under (.builtin "type.__call__" ⟨.ref C::vs,kw⟩)) (.call (.ref f) ⟨.ref (s.heap.objs.size+1)::vs,kw⟩) (PySem.W.InitBack (s.heap.objs.size+1) R)
     { s with heap:=(s.heap.push PySem.W.emptyDict).push (PySem.W.instObj C s.heap.objs.size) }) :
    codeAny (model prog w) A (.call (.ref C) ⟨vs,kw⟩) R s:=by
 obtain⟨hh,g,d,t,os⟩:=s;exact PySem.W.make_core (PySem.W.makes_of X hm) (PySem.W.looks_findIn X hi) (λself=>PySem.W.bind_fn X self hf) (.inl rfl) h
def Mn{R:Result->Shared->Prop}(X:K.In s.heap)(hm:PySem.W.makesIn K C=true)
    (hi:PySem.W.findIn K (.ref C) "__init__"=some (some (.builtin "object.__init__")))
    (hb:∀self,PySem.W.Looks (model prog w) s.heap (bindSpecial (.builtin "object.__init__") self) (.builtin "object.__init__",[self]))
    (h:codeAny (model prog w) (A.under (.builtin "type.__call__" ⟨[.ref C],[]⟩)) (.call (.builtin "object.__init__") ⟨[.ref (s.heap.objs.size+1)],[]⟩) (PySem.W.InitBack (s.heap.objs.size+1) R)
     { s with heap:=(s.heap.push PySem.W.emptyDict).push (PySem.W.instObj C s.heap.objs.size) }) :
    codeAny (model prog w) A (.call (.ref C) ⟨[],[]⟩) R s:=by
 obtain⟨hh,g,d,t,os⟩:=s;exact PySem.W.make_core (PySem.W.makes_of X hm) (PySem.W.looks_findIn X hi) hb (.inr ⟨rfl,rfl⟩) h
end
def Z9(f:Str)(v:V):List (Str × V)->List (Str × V)
 | []=>[(f,v)]
 | (g,x)::r=>if g=f then(g,v)::r else(g,x)::Z9 f v r
theorem S8(f g:Str)(v:V):∀fs:List (Str × V),(Z9 f v fs).lookup g=if g=f then some v else fs.lookup g
 | []=>by
  show List.lookup g [(f,v)]=_;by_cases h:g=f
  . have hb:(g == f)=true:=beq_iff_eq.mpr h;simp only[List.lookup,hb,if_pos h]
  . have hb:(g == f)=false:=beq_eq_false_iff_ne.mpr h;simp only[List.lookup,hb,if_neg h]
 | (k,x)::r=>by
  have ih:=S8 f g v r;rw[show Z9 f v ((k,x)::r)=(if k=f then(k,v)::r else(k,x)::Z9 f v r)from rfl];by_cases hk:k=f
  . rw[if_pos hk];by_cases h:g=k
    . have hb:(g == k)=true:=beq_iff_eq.mpr h;simp only[List.lookup,hb,if_pos (h.trans hk)]
    . have hb:(g == k)=false:=beq_eq_false_iff_ne.mpr h;simp only[List.lookup,hb,if_neg (λe:g=f=>h (e.trans hk.symm))]
  . rw[if_neg hk];by_cases h:g=k
    . have hb:(g == k)=true:=beq_iff_eq.mpr h;simp only[List.lookup,hb,if_neg (λe:g=f=>hk (h.symm.trans e))]
    . have hb:(g == k)=false:=beq_eq_false_iff_ne.mpr h;simp only[List.lookup,hb];exact ih
theorem CS(f:Str)(v:V):∀fs:List (Str × V),f∈(Z9 f v fs).map (·.1)/\∀g,g∈fs.map (·.1)->g∈(Z9 f v fs).map (·.1)
 | []=>⟨by simp[Z9],λg h=>by simp at h⟩
 | (k,x)::r=>by
  obtain⟨i1,i2⟩:=CS f v r;rw[show Z9 f v ((k,x)::r)=(if k=f then(k,v)::r else(k,x)::Z9 f v r)from rfl];by_cases hk:k=f
  . rw[if_pos hk];subst hk;exact⟨by simp,λg h=>by simpa using h⟩
  . rw[if_neg hk];refine⟨?_,λg h=>?_⟩
    . rw[aL];exact ay _ i1
    . rw[aL]at h ⊢;rcases ak.mp h with e | e
      . exact ak.mpr (.inl e)
      . exact ay _ (i2 g e)
theorem Dg(f:Str)(v:V):∀fs:List (Str × V),(Z9 f v fs).length<=fs.length+1
 | []=>by simp[Z9]
 | (k,x)::r=>by
  have ih:=Dg f v r;rw[show Z9 f v ((k,x)::r)=(if k=f then(k,v)::r else(k,x)::Z9 f v r)from rfl];by_cases hk:k=f
  . rw[if_pos hk,bx,bx];omega
  . rw[if_neg hk,bx,bx];omega
def Fm.some_of{v:V}{o:Option Value}(r:Fm (some v) o):∃u,o=some u/\y6 v u:=by
 cases o with
 | none=>exact(show False from r).elim
 | some u=>exact⟨u,rfl,r⟩
def Fm.none_of{o:Option Value}(r:Fm none o):o=none:=by
 cases o with
 | none=>rfl
 | some u=>exact(show False from r).elim
def My{v:V}{u:Value}(r:y6 v u):PySem.W.handedIn u=true:=by
 cases v with
 | non=>cases (show u=Value.none from r);rfl
 | bl b=>cases (show u=Value.bool b from r);rfl
 | int i=>obtain⟨t,e⟩:=(show ∃t,u=Value.int i t from r);cases e;rfl
 | str x=>obtain⟨t,e⟩:=(show ∃t,u=Value.str x t from r);cases e;rfl
 | byt b=>obtain⟨t,e⟩:=(show ∃t,u=Value.bytes b t from r);cases e;rfl
 | flt b=>obtain⟨t,e⟩:=(show ∃t,u=Value.float b t from r);cases e;rfl
 | ref a=>cases (show u=Value.ref a from r);rfl
 | ty n=>cases (show u=Value.type n from r);rfl
section
variable{P:Program}{w:World}{H H':Hp}{h h':Heap}{a C dx:Addr}{fs fs':List (Str × V)}
def DA(hok:U2 P w H h)(e:H a=some (.ins C dx fs)):∃mA,KG h a dx C mA/\(∀f,Fm (fs.lookup f) (mA f))/\PySem.Within mA (fs.map (·.1))/\fs.length<=1000/\H dx=some (.own a):=by
 obtain⟨d,z,ne,ob,mA,n,r,q⟩:=(show I0 P w H h a (.ins C dx fs)from hok a _ e);exact⟨mA,⟨ob,n,ne⟩,r,q,z,d⟩
end
structure KL(K:aa)(C:Addr):Prop where
 pg:PySem.W.plainGet K C Str.empty=true
 hd:PySem.W.hasDictIn K C=true
 po:PySem.W.plainOver K C=true
 sa:PySem.W.findIn K (.ref C) "__setattr__"=some (some (.builtin "object.__setattr__"))
def KL.get{K:aa}{C:Addr}(c:KL K C)(f:Str):PySem.W.plainGet K C f=true:=c.pg
def BC(K:aa)(C:Addr)(f:Str):Prop:=PySem.W.findIn K (.ref C) f=some none
def BC.taker{K:aa}{C:Addr}{f:Str}(n:BC K C f):PySem.W.takerIn K C f=some none:=by
 unfold PySem.W.takerIn;rw[show PySem.W.findIn K (.ref C) f=some none from n];rfl
structure Con(K:aa)(C:Addr)(f:Str)(v:V)(u:Value):Prop where
 at_:PySem.W.findIn K (.ref C) f=some (some u)
 rel:y6 v u
 get:PySem.W.specialIn K u "__get__"=some none
 cp:PySem.W.copiedNames.contains f=false
structure Dw(K:aa)(C:Addr)(m:Str)(f:Addr):Prop where
 at_:PySem.W.findIn K (.ref C) m=some (some (.ref f))
 fn:PySem.W.isFn K (.ref f)=true
 kp:PySem.W.keepIn K (.ref f)=true
section
variable{X:Cx}{pins:List (Addr × Obj)}{σ:St}{H:Hp}{s:Shared}{a C dx:Addr}{fs:List (Str × V)}{f:Str}{v:V}{A:Around}{E:Value->Shared->Prop}
def Km{b:Bool}{Q:Value->Shared->Prop}(I:k8 X pins σ H s)(e:H a=some (.ins C dx fs))(c:KL X.K C)(n:BC X.K C f)(l:fs.lookup f=some v)
    (h:∀u s',k8 X pins σ H s'->y6 v u->Q u s'):wpAny (model X.prog X.w) A (getAttr (.ref a) f b) Q E s:=by
 obtain⟨mA,O,r,_,_,_⟩:=DA I.hok e;obtain⟨u,hu,ru⟩:=Fm.some_of (v:=v) (o:=mA f) (by rw[<- l];exact r f);exact QE I.kIn O (c.get f) c.hd n hu (My ru) (h u _ (I.tok _) ru)
def By{m:Str}{g:Addr}{pl:Sem Bool}{Q:Value × List Value->Shared->Prop}(I:k8 X pins σ H s)(e:H a=some (.ins C dx fs))(c:KL X.K C)(k:Dw X.K C m g)(l:fs.lookup m=none)
    (h:Q (.ref g,[.ref a]) s):wpAny (model X.prog X.w) A (getMethod (.ref a) m pl) Q E s:=by
 obtain⟨mA,O,r,_,_,_⟩:=DA I.hok e;have hn:mA m=none:=Fm.none_of (by rw[<- l];exact r m);exact Os I.kIn O (c.get m) k.at_ k.fn hn h
def JB{y:V}{u:Value}{Q:Unit->Shared->Prop}(I:k8 X pins σ H s)(e:H a=some (.ins C dx fs))(c:KL X.K C)(n:BC X.K C f)(hl:fs.length < 1000)(ry:y6 y u)
    (h:∀s',k8 X pins σ (upd H a (.ins C dx (Z9 f y fs))) s'->Q () s'):wpAny (model X.prog X.w) A (setAttr (.ref a) f u) Q E s:=by
 obtain⟨mA,O,r,wi,_,ho⟩:=DA I.hok e;have hz:(fs.map (·.1)).length<=sizeLine:=by rw[aj,sizeLine_eq];omega
 refine Px I.kIn O c.sa c.po n.taker c.hd wi hz λh' O' sb=>h _ ?_;have hd:∃o,h'.get? dx=some o:=let⟨o,_,_,e',_⟩:=O'.ns;⟨o,e'⟩
 refine I.write (x:=a) (e:=dx) (by rw[e];exact True.intro) (.inr ho) (λb q hb z=>(sb.2 b hb).trans z) hd ?_;refine⟨by rw[j6 O.ne];exact ho,?_,O.ne,O'.obj,_,O'.ns,λg=>?_,λg hg=>?_⟩
 . have:=Dg f y fs;omega
 . show Fm ((Z9 f y fs).lookup g) (if g=f then some u else mA g);rw[S8];by_cases q:g=f
   . rw[if_pos q,if_pos q];exact ry
   . rw[if_neg q,if_neg q];exact r g
 . by_cases q:g=f
   . rw[q];exact(CS f y fs).1
   . refine(CS f y fs).2 g (wi g λz=>hg ?_);show(if g=f then some u else mA g)=none;rw[if_neg q];exact z
def k8.made(I:k8 X pins σ H s):k8 X pins σ (upd (upd H s.heap.objs.size (.own (s.heap.objs.size+1))) (s.heap.objs.size+1) (.ins C s.heap.objs.size []))
    { s with heap:=(s.heap.push PySem.W.emptyDict).push (PySem.W.instObj C s.heap.objs.size) }:=by
 have e1:(s.heap.push PySem.W.emptyDict).get? s.heap.objs.size=some PySem.W.emptyDict:=aw s.heap rfl;have e2:((s.heap.push PySem.W.emptyDict).push (PySem.W.instObj C s.heap.objs.size)).get? (s.heap.objs.size+1)=some (PySem.W.instObj C s.heap.objs.size):=by
  have:=aw (s.heap.push PySem.W.emptyDict) (o:=PySem.W.instObj C s.heap.objs.size) rfl;rwa [aM]at this
 have e3:(s.heap.push PySem.W.emptyDict).Ns s.heap.objs.size (λ_=>none):=⟨PySem.W.emptyDict,#[],_,e1,rfl,(λe he=>absurd he (by simp)),λ_=>rfl⟩;have I1:=I.laid (a:=s.heap.objs.size) (o:=.own (s.heap.objs.size+1)) (h':=s.heap.push PySem.W.emptyDict) (t':=s.toks) (λb u q=>ah _ q) (ae _) ⟨_,e1⟩;refine I1.laid (a:=s.heap.objs.size+1) (o:=.ins C s.heap.objs.size []) (t':=s.toks) (λb u q=>ah _ q) (Nat.le_of_eq (aM _ _)) ?_;have ne:s.heap.objs.size≠s.heap.objs.size+1:=ao (bK _);refine⟨by rw[j6 ne,c5],aK _,ne,e2,λ_=>none,(Heap.Ns1.of_empty e3).at λo q=>ah _ q,λ_=>True.intro,λy hy=>absurd rfl hy⟩
def QS{prog:Program}{w:World}{env:Env}{e:Expr}{f:Str}{pos:Pos}{s:Shared}{Q:Value->Shared->Prop}(hb:attributeBase e f env (eval e env)=eval e env)
    (h:wpAny (model prog w) A (eval e env) (λo s₁=>wpAny (model prog w) A (getAttr o f true) Q E s₁) E s):wpAny (model prog w) A (eval (.Attribute e f pos) env) Q E s:=
 Attribute_any_ h (by rw[arm_eval_Attribute,hb])
end
def tFld(K:aa)(ta:TE)(f:Str):TE:=λσ H Q=>ta σ H λx H1=>∃a C dx fs v,x=.ref a/\H1 a=some (.ins C dx fs)/\KL K C/\BC K C f/\fs.lookup f=some v/\Q v H1
def sFld(K:aa)(ta tv:TE)(f:Str):TS:=λD σ H=>tv σ H λy H1=>ta σ H1 λx H2=>∃a C dx fs,x=.ref a/\H2 a=some (.ins C dx fs)/\KL K C/\BC K C f/\fs.length < 1000/\
 D.nx σ (upd H2 a (.ins C dx (Z9 f y fs)))
section
variable{X:Cx}{o e value:Expr}{f:Str}{pos pos' tpos:Pos}{ta tv:TE}
def Gr(he:PE X e ta)(hb:attributeBase e f X.env (eval e X.env)=eval e X.env):PE X (.Attribute e f pos) (tFld X.K ta f):=by
 intro pins s σ H Q I h;refine QS hb (B6 (he pins s σ H _ I h) λu s1 hζ=>?_);obtain⟨x,H1,I1,rx,a,C,dx,fs,v,ex,ea,c,n,l,q⟩:=hζ;subst ex;obtain rfl:u=Value.ref a:=rx;exact Km I1 ea c n l λu' s2 I2 ru=>⟨v,H1,I2,ru,q⟩
def Sx(ha:PE X o ta)(hv:PE X value tv)(hs:swapsWith value (some (.Attribute o f pos')) pos.line X.env=pure false):PS X (.Assign [.Attribute o f pos'] value pos) (sFld X.K ta tv f):=by
 intro pins s σ H D I h;refine plainObj_wpAny_Assign_Attribute (B6 (hv pins s σ H _ I h) λu s1 ⟨y,H1,I1,ry,q⟩=>B6 (ha pins s1 σ H1 _ I1 q) λov s2 hζ=>?_) hs;obtain⟨x,H2,I2,rx,a,C,dx,fs,ex,ea,c,n,l,q2⟩:=hζ;subst ex;obtain rfl:ov=Value.ref a:=rx;exact JB I2 ea c n l ry λs3 I3=>⟨σ,_,I3,q2⟩
def Rl{pl:Sem Bool}{m:Str}{apos:Pos}{args:List Expr}{pins:List (Addr × Obj)}{s:Shared}{σ:St}{H:Hp}{Q:Value->Shared->Prop}{te:TE}(he:PE X e te)(I:k8 X pins σ H s)
    (h:te σ H λx H1=>∃a C dx fs g,x=.ref a/\H1 a=some (.ins C dx fs)/\KL X.K C/\Dw X.K C m g/\fs.lookup m=none/\
     ∀s1,k8 X pins σ H1 s1->wpAny (model X.prog X.w) X.A (callWith pos (.ref g) [.ref a] (backTo pos (starEach args X.env)) (backToKw pos (keywordEach [] X.env))) Q X.xe s1)
    (ht:eval (.Call (.Attribute e m apos) args [] pos) X.env=(do
     let ov <- eval e X.env
     standAt apos.atName
     let(f,first) <- holding [ov] (getMethod ov m pl)
     callWith pos f first (backTo pos (starEach args X.env)) (backToKw pos (keywordEach [] X.env)))) :
    wpAny (model X.prog X.w) X.A (eval (.Call (.Attribute e m apos) args [] pos) X.env) Q X.xe s:=by
 refine PySem.W.methodCall_KW (pl:=pl) (B6 (he pins s σ H _ I h) λu s1 hζ=>?_) ht;obtain⟨x,H1,I1,rx,a,C,dx,fs,g,ex,ea,c,k,l,q⟩:=hζ;subst ex;obtain rfl:u=Value.ref a:=rx;exact By I1 ea c k l (q s1 I1)
end
section
variable{X:Cx}{pins:List (Addr × Obj)}{σ:St}{H:Hp}{s:Shared}{A:Around}{E:Value->Shared->Prop}{Q:Value->Shared->Prop}{c:Value}{b:Bool}
inductive AV(K:aa)(H:Hp):V->Value->Prop where
 | non:AV K H .non (.type "NoneType")
 | bl (x:Bool):AV K H (.bl x) (.type "bool")
 | int (i:Int):AV K H (.int i) (.type "int")
 | str (x:Str):AV K H (.str x) (.type "str")
 | flt (x:UInt64):AV K H (.flt x) (.type "float")
 | lst {a:Addr} {xs:List V} (e:H a=some (.lst xs)):AV K H (.ref a) (.type "list")
 | frz {a:Addr} {o:Obj} {xs:List V} (e:H a=some (.frz o (.lst xs))):AV K H (.ref a) (.type "list")
 | tup {a:Addr} {xs:List V} (e:H a=some (.tup xs)):AV K H (.ref a) (.type "tuple")
 | dK {a:Addr} {kvs:List (Ht × V)} (e:H a=some (.dK kvs)):AV K H (.ref a) (.type "dict")
 | dT {a:Addr} {kvs:List (List Ht × V)} (e:H a=some (.dT kvs)):AV K H (.ref a) (.type "dict")
 | ins {a C dx:Addr} {fs:List (Str × V)} (e:H a=some (.ins C dx fs)) (cl:KL K C) (ha:PySem.W.findIn K (.ref C) "__class__"=some (some (.builtin "object.__class__")))
     (hn:PySem.W.specialIn K (.builtin "object.__class__") "__get__"=some (some (.builtin "getset_descriptor.__get__"))) (htk:PySem.W.takesIn K (.builtin "object.__class__")=some true)
     (hm:PySem.W.mroIn K C (.type "object")=some true):AV K H (.ref a) (.ref C)
def Mv{x:V}{u t:Value}(I:k8 X pins σ H s)(rx:y6 x u)(ty:AV X.K H x t)(e:PySem.W.kitOne X.K t c=some b)(h:∀tk,Q (.bool b) { s with toks:=tk }) :
    wpAny (model X.prog X.w) A (call (.builtin "isinstance") [u,c]) Q E s:=by
 cases ty with
 | non=>cases (show u=Value.none from rx);exact bh PySem.W.kitx_none I.kIn True.intro e (λz=>nomatch z) h
 | bl y=>cases (show u=Value.bool y from rx);exact bh PySem.W.kitx_bool I.kIn True.intro e (λz=>nomatch z) h
 | int i=>obtain⟨t,q⟩:=(show ∃t,u=Value.int i t from rx);cases q;exact bh PySem.W.kitx_int I.kIn True.intro e (λz=>nomatch z) h
 | str y=>obtain⟨t,q⟩:=(show ∃t,u=Value.str y t from rx);cases q;exact bh PySem.W.kitx_str I.kIn True.intro e (λz=>nomatch z) h
 | flt y=>obtain⟨t,q⟩:=(show ∃t,u=Value.float y t from rx);cases q;exact bh PySem.W.kitx_float I.kIn True.intro e (λz=>nomatch z) h
 | @lst a xs ea=>
  cases (show u=Value.ref a from rx);obtain⟨_,_,n,_,h1⟩:=(show I0 X.prog X.w H s.heap a (.lst xs)from I.hok a _ ea);exact bh PySem.W.kitx_list I.kIn ⟨_,h1,rfl⟩ e (λz=>nomatch z) h
 | @frz a ob xs ea=>
  cases (show u=Value.ref a from rx);obtain⟨_,_,_,n,_,h1⟩:=(show I0 X.prog X.w H s.heap a (.frz ob (.lst xs))from I.hok a _ ea);exact bh PySem.W.kitx_list I.kIn ⟨_,h1,rfl⟩ e (λz=>nomatch z) h
 | @tup a xs ea=>
  cases (show u=Value.ref a from rx);obtain⟨_,_,_,p,_⟩:=(show I0 X.prog X.w H s.heap a (.tup xs)from I.hok a _ ea);obtain⟨o,h1,h2,_⟩:=p;exact bh PySem.W.kitx_tuple I.kIn ⟨o,h1,h2⟩ e (λz=>nomatch z) h
 | @dK a kvs ea=>
  cases (show u=Value.ref a from rx);obtain⟨_,_,vs,_,p⟩:=(show I0 X.prog X.w H s.heap a (.dK kvs)from I.hok a _ ea);obtain⟨o,es,ep,h1,h2,_⟩:=p;exact bh PySem.W.kitx_dict I.kIn ⟨o,h1,h2.1⟩ e (λz=>nomatch z) h
 | @dT a kvs ea=>
  cases (show u=Value.ref a from rx);obtain⟨_,_,xs,_,o,es,ep,h1,h2,_⟩:=(show I0 X.prog X.w H s.heap a (.dT kvs)from I.hok a _ ea);exact bh PySem.W.kitx_dict I.kIn ⟨o,h1,h2.1⟩ e (λz=>nomatch z) h
 | @ins a C dx fs ea cl ha hn htk hm=>
  cases (show u=Value.ref a from rx);obtain⟨mA,O,_⟩:=DA I.hok ea;obtain⟨od,J,_⟩:=O.look;exact bh (PySem.W.kitx_own (cl.get _) cl.hd ha hn htk hm) I.kIn J e (λz=>nomatch z) h
end
structure E6(k:Nat)(A:Around):Prop where
 hd:A.handled=none
 dp:A.depth+3 * k+5 < recursionLimit
 un:A.units+16 * k+200 < cLine
def E6.mono{j k:Nat}{A:Around}(r:E6 k A)(h:j<=k):E6 j A:=⟨r.hd,by have:=r.dp;omega,by have:=r.un;omega⟩
theorem E6.deeper{k:Nat}{A:Around}(r:E6 (k+1) A)(env:Env):E6 k (A.deeper env):=
 ⟨r.hd,by have:=r.dp;show A.depth+1+3 * k+5 < _;omega,by have:=r.un;show A.units+3+16 * k+200 < _;omega⟩
def JU{A:Around}{C:Addr}{us:List Value}{kw:List (Str × Value)}:(A.under (.builtin "type.__call__" ⟨.ref C::us,kw⟩)).depth=A.depth+1:=by
 first | rfl | simp[Around.under,Code.weight,Code.isCreation,Code.isGuard,Code.isCaller,Code.frames,Code.isFrame,guardIds]
def JT{A:Around}{C:Addr}{us:List Value}{kw:List (Str × Value)}:(A.under (.builtin "type.__call__" ⟨.ref C::us,kw⟩)).units=A.units+1:=by
 first | rfl | simp[Around.under,Code.cUnits,Code.frames,Code.isFrame]
def E6.make{k:Nat}{A:Around}(r:E6 (k+1) A)(C:Addr)(us:List Value)(kw:List (Str × Value)):E6 k (A.under (.builtin "type.__call__" ⟨.ref C::us,kw⟩)):=
 ⟨r.hd,by have:=r.dp;rw[JU];omega,by have:=r.un;rw[JT];omega⟩
theorem E6.depth{k:Nat}{A:Around}(r:E6 k A):A.depth < recursionLimit:=by have:=r.dp;omega
theorem E6.units{k:Nat}{A:Around}(r:E6 k A):A.units+64 < cLine:=by have:=r.un;omega
def tNil:TA:=λ_ H Q=>Q [] H
def W6(ta:TE)(tr:TA):TA:=λσ H Q=>ta σ H λx H1=>tr σ H1 λxs H2=>Q (x::xs) H2
section
variable{X:Cx}{e:Expr}{es:List Expr}{te:TE}{t:TA}{pos:Pos}
def F0:PA X [] tNil:=λ_ _ _ _ H Q I h=>Calls.spliced_nil ⟨[],H,I,.nil,h⟩
def E2(ha:PE X e te)(hr:PA X es t)(hs:starEach (e::es) X.env=(false,eval e X.env)::starEach es X.env:=by rfl):PA X (e::es) (W6 te t):=by
 intro pos pins s σ H Q I h;rw[hs];show wpAny _ _ (spliced ((false,eval e X.env)::backTo pos (starEach es X.env))) _ _ s;refine Calls.spliced_cons (B6 (ha pins s σ H _ I h) λu s1 ⟨x,H1,I1,r1,q1⟩=>?_);exact B6 (hr pos pins s1 σ H1 _ I1 q1) λus s2 ⟨xs,H2,I2,r2,q2⟩=>⟨x::xs,H2,I2,.cons r1 r2,q2⟩
def tTup(t:TA):TE:=λσ H Q=>t σ H λxs H1=>xs.length<=sizeLine/\∀p,H1 p=none->Q (.ref p) (upd H1 p (.tup xs))
def UB(t:TA):TE:=λσ H Q=>t σ H λxs H1=>xs.length<=sizeLine/\∀p,H1 p=none->Q (.ref p) (upd H1 p (.lst xs))
def B4{x1}(h:PA X es t):PE X (.Tuple es x1 pos) (tTup t):=by
 intro pins s σ H Q I hq;refine wpAny_Tuple_spliced (B6 (h pos pins s σ H _ I hq) λus s1 ⟨xs,H1,I1,r,z,q⟩=>⟨by rw[<- r.length];exact z,?_⟩);have hf:H1 s1.heap.objs.size=none:=I1.hok.fresh (ae _);refine⟨.ref s1.heap.objs.size,upd H1 s1.heap.objs.size (.tup xs),I1.laid (t':=s1.toks) (λb u e=>ah _ e) (ae _) ?_,rfl,q _ hf⟩;exact⟨z,us,r,⟨_,aw _ rfl,rfl,_,rfl⟩,λ_=>⟨_,aw _ rfl,rfl⟩⟩
def D4(h:PA X es t):PE X (.List es pos) (UB t):=by
 intro pins s σ H Q I hq;refine wpAny_List_spliced (B6 (h pos pins s σ H _ I hq) λus s1 ⟨xs,H1,I1,r,z,q⟩=>⟨by rw[<- r.length];exact z,?_⟩);have hf:H1 s1.heap.objs.size=none:=I1.hok.fresh (ae _);refine⟨.ref s1.heap.objs.size,upd H1 s1.heap.objs.size (.lst xs),I1.laid (t':=s1.toks) (λb u e=>ah _ e) (ae _) ?_,rfl,q _ hf⟩;exact⟨z,us,0,r,aw _ rfl⟩
end
abbrev Sp:=List V->Hp->VK->XK->Prop
abbrev MP:=List Env->Hp->Shared->XK->Value->Shared->Prop
structure Fo(P:Program)(w:World)(K:aa)(mg:Str->Option Value)(base:Heap)(A:Around)(outer:List Env)(s:Shared)(H:Hp):Prop where
 frames:A.frames=some outer
 mod:Mod K mg base
 bs:∀b o,base.get? b=some o->s.heap.get? b=some o/\H b=none
 bsz:base.objs.size<=s.heap.objs.size
 funs:s.heap.FunFrames base outer
 frf:∀b∈En outer,H b=none
 hok:U2 P w H s.heap
 bare:AllBare s.gens
def CE(outer:List Env)(P:Program)(w:World)(H:Hp)(s:Shared)(Q:VK)(u:Value)(s':Shared):Prop:=
 ∃v H',s'.os=s.os/\AllBare s'.gens/\Un (En outer) [] H H' s.heap s'.heap/\U2 P w H' s'.heap/\y6 v u/\Q v H'
def CR(CX:MP)(outer:List Env)(P:Program)(w:World)(H:Hp)(s:Shared)(Q:VK)(E:XK)(r:Result)(s':Shared):Prop:=
 match r with
 | .ok (.ret u)=>CE outer P w H s Q u s'
 | .ok _=>False
 | .error e=>CX outer H s E e s'
structure o9(P:Program)(w:World)(K:aa)(mg:Str->Option Value)(base:Heap)(CX:MP)(k:Nat)(f:Addr)(fd:FuncData)(ps:List Str)(sp:Sp):Prop where
 len:∀vs H Q E,sp vs H Q E->vs.length=ps.length
 run:∀(A:Around) (outer:List Env) (s:Shared) (H:Hp) (args:Args) (us:List Value) (vs:List V) (Q:VK) (E:XK),E6 k A->Fo P w K mg base A outer s H->BindsTo s fd args (ps.zip us)->r8 vs us->sp vs H Q E->
  codeAny (model P w) A (.call (.ref f) args) (CR CX outer P w H s Q E) s
theorem o9.mono{P:Program}{w:World}{K:aa}{mg:Str->Option Value}{base:Heap}{CX:MP}{j k:Nat}{f:Addr}{fd:FuncData}{ps:List Str}{sp:Sp}(F:o9 P w K mg base CX j f fd ps sp)(h:j<=k) :
    o9 P w K mg base CX k f fd ps sp:=⟨F.len,λA outer s H args us vs Q E hr=>F.run A outer s H args us vs Q E (hr.mono h)⟩
def Fo.make{P:Program}{w:World}{K:aa}{mg:Str->Option Value}{base:Heap}{A:Around}{outer:List Env}{s:Shared}{H:Hp}(e:Fo P w K mg base A outer s H)(C:Addr)(us:List Value)(kw:List (Str × Value)) :
    Fo P w K mg base (A.under (.builtin "type.__call__" ⟨.ref C::us,kw⟩)) outer s H:=⟨by first | exact e.frames | (simpa [Around.under,Code.envs,Code.isFrame,pushEnvs] using e.frames),e.mod,e.bs,e.bsz,e.funs,e.frf,e.hok,e.bare⟩
section
variable{X:Cx}{pins:List (Addr × Obj)}{σ:St}{H:Hp}{s s':Shared}
def k8.env0(I:k8 X pins σ H s):Fo X.prog X.w X.K X.mg X.base X.A X.stack s H:=
 ⟨I.ok.frames,I.ok.mod,I.bs,af I.ok.bsz I.sz,I.stack,I.stkFree,I.hok,I.bare⟩
def k8.after{Q:VK}{u:Value}(I:k8 X pins σ H s)(h:CE X.stack X.prog X.w H s Q u s'):EP X pins σ Q u s':=by
 obtain⟨v,H',os,bare,un,hok,r,q⟩:=h;obtain⟨hh,g,d,t,os'⟩:=s';obtain rfl:os'=s.os:=os;exact⟨v,H',I.call (h':=hh) (g':=g) (d':=d) (t':=t) (ch:=[]) un hok bare (λb z=>absurd z (by simp)),r,q⟩
end
def QZ(sp:Sp)(dvs:List V)(E:XK)(t:TA):TE:=λσ H Q=>t σ H λvs H1=>sp (vs++dvs) H1 Q E
def QX(C:Addr)(m:Str)(sp:Sp)(dvs:List V)(E:XK)(ta:TE)(t:TA):TE:=λσ H Q=>ta σ H λx H1=>∃a dx fs,x=.ref a/\H1 a=some (.ins C dx fs)/\fs.lookup m=none/\
 t σ H1 λvs H2=>sp (x::(vs++dvs)) H2 Q E
def UA(C:Addr)(sp:Sp)(dvs:List V)(E:XK)(t:TA):TE:=λσ H Q=>t σ H λvs H1=>∀x dx,H1 x=none->H1 dx=none->dx≠x->
 sp (.ref x::(vs++dvs)) (upd (upd H1 dx (.own x)) x (.ins C dx [])) (λv H2=>v=.non/\Q (.ref x) H2) E
def J0(K:aa)(fd:FuncData)(ps:List Str)(ds:List Value):Prop:=
 ∀(s:Shared) (us:List Value),K.In s.heap->(us++ds).length=ps.length->BindsTo s fd ⟨us,[]⟩ (ps.zip (us++ds))
def J0.all{K:aa}{fd:FuncData}{ps:List Str}(h:∀us:List Value,us.length=ps.length->bindArgs fd ⟨us,[]⟩=pure (ps.zip us)):J0 K fd ps []:=λs us _ hl=>by
 rw[aN]at hl ⊢;exact .of_eq (h us hl)
def BB(CX:MP)(X:Cx)(E:XK):Prop:=∀(pins:List (Addr × Obj)) (σ:St) (H:Hp) (s:Shared) (e:Value) (s':Shared),k8 X pins σ H s->CX X.stack H s E e s'->X.xe e s'
section
variable{X:Cx}{CX:MP}{k:Nat}{f C:Addr}{fd:FuncData}{ps:List Str}{sp:Sp}{dvs:List V}{ds:List Value}{E:XK}{x m:Str}{p pos apos:Pos}{e o:Expr}{es:List Expr}{ta:TE}{t:TA}
def JF{pins:List (Addr × Obj)}{σ:St}{H:Hp}{s:Shared}{Q:VK}{us:List Value}{vs:List V}(F:o9 X.prog X.w X.K X.mg X.base CX k f fd ps sp)(hr:E6 k X.A)(hb:J0 X.K fd ps ds)(hd:r8 dvs ds)(hx:BB CX X E)
    (I:k8 X pins σ H s) (r:r8 vs us) (h:sp (vs++dvs) H Q E):wpAny (model X.prog X.w) X.A (call (.ref f) us) (EP X pins σ Q) X.xe s:=by
 have r2:r8 (vs++dvs) (us++ds):=r.append hd;have hl:(us++ds).length=ps.length:=by rw[<- r2.length];exact F.len _ _ _ _ h
 refine wpAny_call (codeAny_mono (F.run X.A X.stack s H ⟨us,[]⟩ (us++ds) (vs++dvs) Q E hr I.env0 (hb s us I.kIn hl) r2 h) λr s' hq=>?_);cases r with
 | error e=>exact hx pins σ H s e s' I hq
 | ok fl=>
  cases fl with
  | ret u=>exact I.after hq
  | next=>exact False.elim hq
  | brk=>exact False.elim hq
  | cont=>exact False.elim hq
def B9(F:o9 X.prog X.w X.K X.mg X.base CX k f fd ps sp)(hr:E6 k X.A)(hg:Gl X x)(hm:X.mg x=some (.ref f))(hk:PySem.W.keepIn X.K (.ref f)=true)(hb:J0 X.K fd ps ds)(hd:r8 dvs ds)(hx:BB CX X E)
    (ha:PA X (e::es) t) (hdb:(x == ("__debug__":Str))=false:=by decide) (he:starEach (e::es) X.env=(false,eval e X.env)::starEach es X.env:=by rfl) (hpl:(backTo pos (starEach es X.env)).any (·.1)=false:=by rfl) :
    PE X (.Call (.Name x p) (e::es) [] pos) (QZ sp dvs E t):=by
 intro pins s σ H Q I h;refine wpAny_Call_Name_kw (Ce I hg hm ?_ hdb);refine cS (h₀:=X.base) I.ok.mod.kin hk (B6 (ha pos pins s σ H _ I h) λus s1 ⟨vs,H1,I1,r,q⟩=>⟨I1.kIn,?_⟩) he hpl;exact JF F hr hb hd hx I1 r q
def P8{pl:Sem Bool}(he:PE X o ta)(c:KL X.K C)(hm:Dw X.K C m f)(F:o9 X.prog X.w X.K X.mg X.base CX k f fd ps sp)(hr:E6 k X.A)(hb:J0 X.K fd ps ds)(hd:r8 dvs ds)(hx:BB CX X E)(ha:PA X (e::es) t)
    (hst:starEach (e::es) X.env=(false,eval e X.env)::starEach es X.env:=by rfl) (hpl:(backTo pos (starEach es X.env)).any (·.1)=false:=by rfl)
    (ht:eval (.Call (.Attribute o m apos) (e::es) [] pos) X.env=(do
     let ov <- eval o X.env
     standAt apos.atName
     let(f,first) <- holding [ov] (getMethod ov m pl)
     callWith pos f first (backTo pos (starEach (e::es) X.env)) (backToKw pos (keywordEach [] X.env))):=by rfl) :
    PE X (.Call (.Attribute o m apos) (e::es) [] pos) (QX C m sp dvs E ta t):=by
 intro pins s σ H Q I h;refine PySem.W.methodCall_KW (pl:=pl) (B6 (he pins s σ H _ I h) λu s1 hζ=>?_) ht;obtain⟨x,H1,I1,rx,a,dx,fs,ex,ea,l,q⟩:=hζ;subst ex;obtain rfl:u=Value.ref a:=rx;refine By I1 ea c hm l ?_;refine cS (first:=[.ref a]) (h₀:=X.base) I.ok.mod.kin hm.kp (B6 (ha pos pins s1 σ H1 _ I1 q) λus s2 ⟨vs,H2,I2,r,q2⟩=>⟨I2.kIn,?_⟩) hst hpl;exact JF (us:=.ref a::us) (vs:=.ref a::vs) F hr hb hd hx I2 (.cons rfl r) q2
def U5{pl:Sem Bool}(he:PE X o ta)(c:KL X.K C)(hm:Dw X.K C m f)(F:o9 X.prog X.w X.K X.mg X.base CX k f fd ps sp)(hr:E6 k X.A)(hb:J0 X.K fd ps ds)(hd:r8 dvs ds)(hx:BB CX X E)
    (ht:eval (.Call (.Attribute o m apos) [] [] pos) X.env=(do
     let ov <- eval o X.env
     standAt apos.atName
     let(f,first) <- holding [ov] (getMethod ov m pl)
     callWith pos f first (backTo pos (starEach [] X.env)) (backToKw pos (keywordEach [] X.env))):=by rfl) :
    PE X (.Call (.Attribute o m apos) [] [] pos) (QX C m sp dvs E ta tNil):=by
 intro pins s σ H Q I h;refine PySem.W.methodCall_KW (pl:=pl) (B6 (he pins s σ H _ I h) λu s1 hζ=>?_) ht;obtain⟨x,H1,I1,rx,a,dx,fs,ex,ea,l,q⟩:=hζ;subst ex;obtain rfl:u=Value.ref a:=rx;refine By I1 ea c hm l ?_;exact PySem.W.callWith_K0 (first:=[.ref a]) I1.kIn hm.kp (JF (us:=[.ref a]) (vs:=[.ref a]) F hr hb hd hx I1 (.cons rfl .nil) q)
structure Mk(K:aa)(C f:Addr):Prop where
 makes:PySem.W.makesIn K C=true
 init:PySem.W.findIn K (.ref C) "__init__"=some (some (.ref f))
 fn:PySem.W.isFn K (.ref f)=true
 kp:PySem.W.keepIn K (.ref C)=true
def Nv{pins:List (Addr × Obj)}{σ:St}{H:Hp}{s:Shared}{Q:VK}{us:List Value}{vs:List V}(M:Mk X.K C f)(F:o9 X.prog X.w X.K X.mg X.base CX k f fd ps sp)(hr:E6 (k+1) X.A)(hb:J0 X.K fd ps ds)(hd:r8 dvs ds)
    (hx:BB CX X E) (I:k8 X pins σ H s) (r:r8 vs us)
    (h:∀x dx,H x=none->H dx=none->dx≠x->sp (.ref x::(vs++dvs)) (upd (upd H dx (.own x)) x (.ins C dx [])) (λv H2=>v=.non/\Q (.ref x) H2) E) :
    wpAny (model X.prog X.w) X.A (call (.ref C) us) (EP X pins σ Q) X.xe s:=by
 have hq:=h (s.heap.objs.size+1) s.heap.objs.size (I.hok.fresh (Nat.le_succ _)) (I.hok.fresh (ae _)) (ao (bK _));have I2:=k8.made (C:=C) I;have r2:r8 (V.ref (s.heap.objs.size+1)::(vs++dvs)) (Value.ref (s.heap.objs.size+1)::(us++ds)):=.cons rfl (r.append hd);have hl:(Value.ref (s.heap.objs.size+1)::us++ds).length=ps.length:=by
  have e:=r2.length;rw[F.len _ _ _ _ hq]at e;exact e.symm
 refine wpAny_call (Od (f:=f) I.kIn M.makes M.init (beq_iff_eq.mp M.fn) (codeAny_mono (F.run _ X.stack _ _ ⟨Value.ref (s.heap.objs.size+1)::us,[]⟩ (Value.ref (s.heap.objs.size+1)::(us++ds)) _ _ E (hr.make C us [])
  (I2.env0.make C us []) (hb _ (Value.ref (s.heap.objs.size+1)::us) I2.kIn hl) r2 hq) λr s' hq'=>?_))
 cases r with
 | error e=>exact hx pins σ _ _ e s' I2 hq'
 | ok fl=>
  cases fl with
  | ret u=>
   obtain⟨v,H',I3,rv,ev,q3⟩:=I2.after hq';subst ev;exact⟨rv,⟨V.ref (s.heap.objs.size+1),H',I3,rfl,q3⟩⟩
  | next=>exact False.elim hq'
  | brk=>exact False.elim hq'
  | cont=>exact False.elim hq'
def PZ(M:Mk X.K C f)(F:o9 X.prog X.w X.K X.mg X.base CX k f fd ps sp)(hr:E6 (k+1) X.A)(hg:Gl X x)(hm:X.mg x=some (.ref C))(hb:J0 X.K fd ps ds)(hd:r8 dvs ds)(hx:BB CX X E)
    (ha:PA X (e::es) t) (hdb:(x == ("__debug__":Str))=false:=by decide) (he:starEach (e::es) X.env=(false,eval e X.env)::starEach es X.env:=by rfl) (hpl:(backTo pos (starEach es X.env)).any (·.1)=false:=by rfl) :
    PE X (.Call (.Name x p) (e::es) [] pos) (UA C sp dvs E t):=by
 intro pins s σ H Q I h;refine wpAny_Call_Name_kw (Ce I hg hm ?_ hdb);refine cS (h₀:=X.base) I.ok.mod.kin M.kp (B6 (ha pos pins s σ H _ I h) λus s1 ⟨vs,H1,I1,r,q⟩=>⟨I1.kIn,?_⟩) he hpl;exact Nv M F hr hb hd hx I1 r q
end
section
variable{X:Cx}{CX:MP}{k:Nat}{f C:Addr}{fd:FuncData}{ps ks:List Str}{sp:Sp}{E:XK}{x m:Str}{p pos apos kpos:Pos}{e o:Expr}{es:List Expr}{kws:List Keyword}{te ta:TE}{t tk:TA}{nm:Option Str}
structure KBinds(K:aa)(fd:FuncData)(ps ks:List Str)(g:List Value->List Value->List Value)(gV:List V->List V->List V):Prop where
 to:∀(s:Shared) (us ws:List Value),K.In s.heap->(g us ws).length=ps.length->BindsTo s fd ⟨us,ks.zip ws⟩ (ps.zip (g us ws))
 rel:∀{vs:List V} {us:List Value} {zs:List V} {ws:List Value},r8 vs us->r8 zs ws->r8 (gV vs zs) (g us ws)
variable{g:List Value->List Value->List Value}{gV:List V->List V->List V}
end
structure c8(N P:List Str)(sc:Scope):Prop where
 kind:sc.kind=.function
 co:sc.isCoroutine=false
 gen:sc.isGenerator=false
 nd:N.Nodup
 pre:N.take P.length=P
 par:∀x∈P,sc.names.lookup x=some .local\/sc.names.lookup x=some .cell
 nofree:∀y∈sc.names,y.2≠.free
theorem FM{kindOf:Str->Option NameKind}{x:Str}:∀{binds:List (Str × Value)} {m:Str->Option Value},(∀v,(x,v) ∉ binds)->bindL kindOf binds m x=m x
 | [],_,_=>rfl
 | (n,v)::r,m,h=>by
  unfold bindL;rw[FM λw hw=>h w (ay _ hw)];split
  . have:x≠n:=by rintro rfl;exact h v aq
    simp[this]
  . rfl
theorem FO{kindOf:Str->Option NameKind}{x:Str}:∀{binds:List (Str × Value)} {m:Str->Option Value},(∀v,(x,v) ∉ binds)->bindC kindOf binds m x=m x
 | [],_,_=>rfl
 | (n,v)::r,m,h=>by
  unfold bindC;rw[FO λw hw=>h w (ay _ hw)];split
  . rfl
  . have:x≠n:=by rintro rfl;exact h v aq
    simp[this]
theorem FN{kindOf:Str->Option NameKind}{x:Str}{v:Value}:∀{P:List Str} {vs:List Value} {i:Nat} {m:Str->Option Value},P.Nodup->P[i]? = some x->vs[i]? = some v->kindOf x=some .local->
    bindL kindOf (P.zip vs) m x=some v
 | [],_,_,_,_,h,_,_=>by simp at h
 | _::_,[],_,_,_,_,h,_=>by simp at h
 | p::P,w::vs,0,m,nd,h1,h2,hk=>by
  simp at h1 h2;subst h1;subst h2;show bindL kindOf ((p,w)::P.zip vs) m p=_;unfold bindL;rw[FM λv hv=>(bV.mp nd).1 (List.of_mem_zip hv).1,if_pos hk];simp
 | p::P,w::vs,i+1,m,nd,h1,h2,hk=>by
  show bindL kindOf ((p,w)::P.zip vs) m x=_;unfold bindL;exact FN (i:=i) (bV.mp nd).2 (by simpa using h1) (by simpa using h2) hk
theorem FP{kindOf:Str->Option NameKind}{x:Str}{v:Value}:∀{P:List Str} {vs:List Value} {i:Nat} {m:Str->Option Value},P.Nodup->P[i]? = some x->vs[i]? = some v->kindOf x≠some .local->
    bindC kindOf (P.zip vs) m x=some v
 | [],_,_,_,_,h,_,_=>by simp at h
 | _::_,[],_,_,_,_,h,_=>by simp at h
 | p::P,w::vs,0,m,nd,h1,h2,hk=>by
  simp at h1 h2;subst h1;subst h2;show bindC kindOf ((p,w)::P.zip vs) m p=_;unfold bindC;rw[FO λv hv=>(bV.mp nd).1 (List.of_mem_zip hv).1,if_neg hk];simp
 | p::P,w::vs,i+1,m,nd,h1,h2,hk=>by
  show bindC kindOf ((p,w)::P.zip vs) m x=_;unfold bindC;exact FP (i:=i) (bV.mp nd).2 (by simpa using h1) (by simpa using h2) hk
def BF(N:List Str)(vs:List V):St:=vs.map some++List.replicate (N.length - vs.length) none
def Kx(CX:MP)(P:Program)(w:World)(K:aa)(mg:Str->Option Value)(base:Heap)(N:List Str)(qual:Str)(scope:Scope)(f:Addr)(cd:Value)(A:Around)(outer:List Env)(s:Shared)(H:Hp)(E:XK):Cx where
 prog:=P
 w:=w
 K:=K
 mg:=mg
 base:=base
 A:=A.deeper (envOfC qual scope s.heap.objs.size f cd)
 N:=N
 s₀:=s
 H₀:=H
 env:=envOfC qual scope s.heap.objs.size f cd
 outer:=outer
 stack:=envOfC qual scope s.heap.objs.size f cd::outer
 ex:=[]
 calm:=true
 fn:=λ_=>true
 pn:=[]
 xe:=λe s'=>wpAny (model P w) (A.deeper (envOfC qual scope s.heap.objs.size f cd)) (leaving (envOfC qual scope s.heap.objs.size f cd) e) (λ_ s''=>CX outer H s E e s'') (λe' s''=>CX outer H s E e' s'') s'
def Ja{sc:Scope}{n:Nat}{x:Str}(h:sc.names.lookup x=some .cell):∃c,(cellsFrom n sc.names []).lookup x=some c:=by
 have q:=PySem.W.cellsFrom_some sc.names n [] (.inl h);exact Option.isSome_iff_exists.mp q
def Mw{CX:MP}{P:Program}{w:World}{K:aa}{mg:Str->Option Value}{base:Heap}{N ps:List Str}{qual:Str}{scope:Scope}{f:Addr}{cd:Value}{A:Around}{outer:List Env}{s s1:Shared}{H:Hp}{E:XK}{us:List Value}{vs:List V}
    (S:c8 N ps scope) (hd:A.handled=none) (e0:Fo P w K mg base A outer s H) (hl:vs.length=ps.length) (r:r8 vs us)
    (x:InCallC s s.heap.objs.size (bindL (envOfC qual scope s.heap.objs.size f cd).kindOf (ps.zip us) λ_=>none) (cellsFrom (s.heap.objs.size+1) scope.names []) (bindC (envOfC qual scope s.heap.objs.size f cd).kindOf (ps.zip us) λ_=>none) s1) :
    k8 (Kx CX P w K mg base N qual scope f cd A outer s H E) [] (BF N vs) H s1:=by
 have hpl:ps.length<=N.length:=by have:=congrArg List.length S.pre;rw[bz]at this;omega
 obtain⟨h1,tk,rfl,hk⟩:=x.done;have noA:∀b:Addr,b ∉ (Kx CX P w K mg base N qual scope f cd A outer s H E).ex:=λb z=>absurd (show b∈([]:List Addr)from z) (by simp);refine⟨⟨e0.mod,S.kind,rfl,rfl,ae _,λy z c h1 h2=>?_,λy hy=>?_,λy c _ h=>?_,λ_=>hd,Around.frames_deeper e0.frames,.inr ⟨rfl,rfl⟩,λb z=>absurd z (noA b),e0.bs,e0.bsz,λb _ _=>noA b,λb z=>absurd z (noA b),e0.funs,e0.frf⟩,
  rfl,e0.bare,Un.kept hk,⟨_,x.toInCall.ns,λi y v h1 h2 h3=>?_⟩,λy c h=>⟨_,x.cell y c h⟩,e0.hok.fresh (ae _),λy c h=>?_,λp hp=>absurd (show p∈([]:List (Addr × Obj))from hp) (by simp),e0.hok.kept hk,?_⟩
 . exact name_of_addr x.apart (aO h1) (aO h2)
 . have hy:scope.names.lookup y=some .cell\/scope.names.lookup y=some .free:=hy;rcases hy with hy | hy
   . exact Ja hy
   . exact absurd rfl (S.nofree _ (aO hy))
 . exact bw (x.above y c (aO h))
 . have hi:i < vs.length:=by
    unfold BF at h2;by_cases hi:i < vs.length
    . exact hi
    . rw[aQ (by simpa using hi)]at h2;rw[cy]at h2;split at h2 <;>cases h2
   have ha:vs[i]? = some v:=by
    unfold BF at h2;rw[aJ (by simpa using hi),aD]at h2;cases e:vs[i]? with
    | none=>rw[e]at h2;cases h2
    | some a=>rw[e]at h2;cases h2;rfl
   obtain⟨u,hu,rv⟩:=r.get ha;have hp:ps[i]? = some y:=by
    rw[<- S.pre,List.getElem?_take_of_lt oM];exact h1
   have ndP:ps.Nodup:=by rw[<- S.pre];exact S.nd.sublist (List.take_sublist _ _)
   refine⟨u,rv,?_⟩;rcases S.par y (aR hp)with k | k
   . exact .inl ⟨k,FN ndP hp hu k⟩
   . obtain⟨c,e⟩:=Ja (n:=s.heap.objs.size+1) k;refine .inr ⟨.inl k,c,e,?_⟩;have q:=x.cell y c e;rw[FP ndP hp hu (by show scope.names.lookup y≠_;rw[k];decide)]at q;exact q
 . exact e0.hok.fresh (bw (x.above y c (aO h)))
 . unfold BF;show _=N.length;rw[ai,aj,cz];omega
def Rr{CX:MP}{P:Program}{w:World}{K:aa}{mg:Str->Option Value}{base:Heap}{k:Nat}{f:Addr}{name qual:Str}{params:Arguments}{body:List Stmt}{scope:Scope}{dV kV doc pm cdv ct oc:Value}{an od:Option Addr}
    {osl:Array (Option Value)} {N ps:List Str} {sp:Sp} (lk:K.lookup f=some ⟨oc,od,.func (PySem.W.fnOf name qual params body scope dV kV doc pm an cdv ct),osl⟩) (hcd:PySem.W.codeIn K cdv qual=true) (S:c8 N ps scope)
    (len:∀vs H Q E,sp vs H Q E->vs.length=ps.length)
    (hbody:∀(A:Around) (outer:List Env) (s:Shared) (H:Hp) (vs:List V) (Q:VK) (E:XK),E6 k (A.deeper (envOfC qual scope s.heap.objs.size f cdv))->sp vs H Q E->
     ∃t,KF (Kx CX P w K mg base N qual scope f cdv A outer s H E) body t/\t { nx:=λ_ H'=>Q .non H',rt:=Q } (BF N vs) H) :
    o9 P w K mg base CX (k+1) f (PySem.W.fnOf name qual params body scope dV kV doc pm an cdv ct) ps sp:=by
 refine⟨len,λA outer s H args us vs Q E hr e0 hb r hsp=>?_⟩;have hl:=len _ _ _ _ hsp;have KX:K.In s.heap:=e0.mod.kin.keeps λb o e=>(e0.bs b o e).1;have lim:s.heap.NoLimit:=e0.mod.nolimit.keeps λb o e=>(e0.bs b o e).1;have hkind:∀y∈ps.zip us,scope.names.lookup y.1=some .local\/(scope.names.lookup y.1=some .cell/\((cellsFrom (s.heap.objs.size+1) scope.names []).lookup y.1).isSome=true):=λ⟨n,v⟩ hy=>by
  rcases S.par n (List.of_mem_zip hy).1 with q | q
  . exact .inl q
  . exact .inr ⟨q,PySem.W.cellsFrom_some _ _ _ (.inl q)⟩
 refine codeAny_call_function hr.depth (KX _ _ lk) rfl S.co S.gen rfl (PySem.W.codeRec_of KX hcd) (hb _ _ _ _ ?_);refine wpAny_newFunctionEnv_cells S.kind hkind λenv he s1 x=>?_;subst he;refine⟨lim.keeps x.toInCall.keep,codeAny_func ?_⟩;obtain⟨t,ht,hq⟩:=hbody A outer s H vs Q E (hr.deeper _) hsp;have I:k8 (Kx CX P w K mg base N qual scope f cdv A outer s H E) [] (BF N vs) H s1:=Mw S hr.hd e0 hl r x;refine wpAny_mono (ht [] s1 (BF N vs) H _ I hq) (λfl s' hs=>?_) λe s' hs=>hs;have fin:∀{σ':St} {H':Hp} {v:V} {u:Value},k8 (Kx CX P w K mg base N qual scope f cdv A outer s H E) [] σ' H' s'->y6 v u->Q v H'->CE outer P w H s Q u s':=
  λ{σ' H' v u} J rv q=>⟨v,H',J.os,J.bare,J.base,J.hok,rv,q⟩
 cases fl with
 | ret u=>
  obtain⟨v,σ',H',J,rv,q⟩:=hs;exact fin J rv q
 | next=>
  obtain⟨σ',H',J,q⟩:=hs;exact fin (v:=V.non) (u:=Value.none) J rfl q
 | brk=>
  obtain⟨_,_,_,q⟩:=hs;exact False.elim q
 | cont=>
  obtain⟨_,_,_,q⟩:=hs;exact False.elim q
section
variable{X:Cx}{x:Str}{p pos:Pos}{e:Expr}{es:List Expr}{t:TA}{id T:String}{r:List V->Hp->VK->Prop}
def tCB(r:List V->Hp->VK->Prop)(t:TA):TE:=λσ H Q=>t σ H λvs H1=>r vs H1 Q
def o5(hc:R3 X (.builtin id) r)(hg:Gl X x)(hm:X.mg x=none)(hv:bootBuiltins x=some (.builtin id))(ha:PA X (e::es) t)(hn:x≠"__name__":=by decide)(hdb:(x == ("__debug__":Str))=false:=by decide)
    (he:starEach (e::es) X.env=(false,eval e X.env)::starEach es X.env:=by rfl) (hpl:(backTo pos (starEach es X.env)).any (·.1)=false:=by rfl):PE X (.Call (.Name x p) (e::es) [] pos) (tCB r t):=by
 intro pins s σ H Q I h;refine wpAny_Call_Name_kw (As I hg hm hv ?_ hn hdb);exact PyProof.Rows.callWith_builtin1 (B6 (ha pos pins s σ H _ I h) λus s1 ⟨vs,H1,I1,r1,q1⟩=>hc pins s1 σ H1 vs us Q I1 r1 q1) he hpl
def j7(hc:R3 X (.type T) r)(hg:Gl X x)(hm:X.mg x=none)(hv:bootBuiltins x=some (.type T))(ha:PA X (e::es) t)(hn:x≠"__name__":=by decide)(hdb:(x == ("__debug__":Str))=false:=by decide)
    (he:starEach (e::es) X.env=(false,eval e X.env)::starEach es X.env:=by rfl) (hpl:(backTo pos (starEach es X.env)).any (·.1)=false:=by rfl):PE X (.Call (.Name x p) (e::es) [] pos) (tCB r t):=by
 intro pins s σ H Q I h;refine wpAny_Call_Name_kw (As I hg hm hv ?_ hn hdb);exact cw (B6 (ha pos pins s σ H _ I h) λus s1 ⟨vs,H1,I1,r1,q1⟩=>hc pins s1 σ H1 vs us Q I1 r1 q1) he hpl
end
end L2
namespace HT
open PySem PyProof.Rows
section
open PySem.SeqAt
open PySem.AutoSeq1 (wpAny_loadPart')
open PySem.MeetsSeq PySem.MeetsSeq2 PySem.MeetsSeq3
end
section
variable{prog:Program}{w:World}{A:Around}{E:Value->Shared->Prop}{s:Shared}
def QP{t b:Addr}{vs ws:List Value}{Q:Value->Shared->Prop}(ht:IsTup s.heap t vs.toArray)(hb:IsTup s.heap b ws.toArray)(hv:vs≠[])
    (h1:ws=[]->Q (.ref t) s) (h2:ws≠[]->Q (.ref s.heap.objs.size) { s with heap:=s.heap.push { cls:=.type "tuple",data:=.seq (vs++ws).toArray } })
    (hsz:vs.length+ws.length<=sizeLine):wpAny (model prog w) A (binaryOp .Add (.ref t) (.ref b)) Q E s:=by
 obtain⟨⟨cls,dd,data,sl⟩,ho,hc,n,hd⟩:=id ht;obtain⟨⟨cls2,dd2,data2,sl2⟩,ho2,hc2,n2,hd2⟩:=id hb;simp only at hc hd hc2 hd2;subst hc hd hc2 hd2;have e:vs.toArray++ws.toArray=(vs++ws).toArray:=by simp
 by_cases hw:ws=[]
 . exact concat_meets ⟨_,ho,rfl⟩ ⟨_,ho2,rfl⟩ noFill_tuple_add seq_tuple_add dh di (dj _ _)
    (tuple_addW1 t b vs.toArray ws.toArray n n2 dd dd2 sl sl2 (by simpa using hv) (by simp[hw])) ⟨ho,ho2,h1 hw⟩
 . refine concat_meets ⟨_,ho,rfl⟩ ⟨_,ho2,rfl⟩ noFill_tuple_add seq_tuple_add dh di (dj _ _)
    (tuple_addW2 t b vs.toArray ws.toArray n n2 dd dd2 sl sl2 (by simpa using hv) (by simpa using hw) (by rw[au,au];exact hsz)) ⟨ho,ho2,?_⟩
   rw[e];exact h2 hw
def HN(n d:Nat):Option Int->Nat
 | none=>d
 | some v=>if v < 0 then(v+(n:Int)).toNat else min v.toNat n
def Nq(n d:Nat):HN n d none=d:=rfl
def Py(n d k:Nat):HN n d (some (k:Int))=min k n:=by
 show(if(k:Int) < 0 then((k:Int)+(n:Int)).toNat else min (k:Int).toNat n)=min k n;rw[if_neg oM,Int.toNat_natCast]
end
end HT
namespace L2
open PySem PySem.Spec PyProof.Rows
abbrev TO:=St->Hp->(Option Int->Hp->Prop)->Prop
def PO(X:Cx)(e:Option Expr)(t:TO):Prop:=
 ∀(pins:List (Addr × Obj)) (s:Shared) (σ:St) (H:Hp) (Q:Option Int->Hp->Prop),k8 X pins σ H s->t σ H Q->
  wpAny (model X.prog X.w) X.A (evalPart e X.env) (λu s'=>∃o H',k8 X pins σ H' s'/\IsPart u o/\Q o H') X.xe s
def tNoPart:TO:=λ_ H Q=>Q none H
def Uy(t:TE):TO:=λσ H Q=>t σ H λx H1=>∃i,x=.int i/\Q (some i) H1
section
variable{X:Cx}{e:Expr}{te:TE}{lo hi:Option Expr}{tl th:TO}{pos p2:Pos}
def Le:PO X none tNoPart:=by
 intro pins s σ H Q I h;rw[evalPart_none];exact wpAny_pure ⟨none,H,I,.none,h⟩
def Ld(h:PE X e te):PO X (some e) (Uy te):=by
 intro pins s σ H Q I hw;rw[evalPart_some];refine B6 (h pins s σ H _ I hw) λu s1 ⟨x,H1,I1,r1,q1⟩=>?_;obtain⟨i,rfl,q⟩:=q1;obtain⟨t,rfl⟩:=r1;exact⟨some i,H1,I1,.int i t,q⟩
def SlR(X:Cx)(r:V->Option Int->Option Int->Hp->VK->Prop):Prop:=
 ∀(pins:List (Addr × Obj)) (s:Shared) (σ:St) (H:Hp) (x:V) (v vl vu:Value) (lo hi:Option Int) (sl:Addr) (Q:VK),k8 X pins σ H s->y6 x v->s.heap.IsSliceOf sl vl vu .none->IsPart vl lo->IsPart vu hi->r x lo hi H Q->
  ∃T id,typeLookup (.type T) "__getitem__"=pure (some (.builtin id))/\s.TypeIs v T/\wpAny (model X.prog X.w) X.A (getItem v (.ref sl)) (EP X pins σ Q) X.xe s
def tSl(r:V->Option Int->Option Int->Hp->VK->Prop)(te:TE)(tl th:TO):TE:=λσ H Q=>te σ H λx H1=>tl σ H1 λl H2=>th σ H2 λu H3=>r x l u H3 Q
def Ia{r:V->Option Int->Option Int->Hp->VK->Prop}(hr:SlR X r)(he:PE X e te)(hl:PO X lo tl)(hu:PO X hi th):PE X (.Subscript e (.Slice lo hi none p2) pos) (tSl r te tl th):=by
 intro pins s σ H Q I h;refine Subscript_ (B6 (he pins s σ H _ I h) λv s1 ⟨x,H1,I1,r1,q1⟩=>?_);refine wpAny_Slice (B6 (hl pins s1 σ H1 _ I1 q1) λvl s2 ⟨l,H2,I2,pl,q2⟩=>B6 (hu pins s2 σ H2 _ I2 q2) λvu s3 ⟨u,H3,I3,pu,q3⟩=>?_);rw[evalPart_none];refine wpAny_pure ?_;have I4:k8 X pins σ H3 { s3 with heap:=s3.heap.push { cls:=.type "slice",data:=.fields #[vl,vu,.none] } }:=I3.kept (t':=s3.toks) λb ob q=>ah _ q;obtain⟨T,id,hT,ht,hg⟩:=hr pins { s3 with heap:=s3.heap.push { cls:=.type "slice",data:=.fields #[vl,vu,.none] } } σ H3 x v vl vu l u s3.heap.objs.size Q I4 r1 (Heap.IsSliceOf.new ..) pl pu q3;show wpAny (model X.prog X.w) X.A (subscriptTail e (.Slice lo hi none p2) v (.ref s3.heap.objs.size)) (EP X pins σ Q) X.xe { s3 with heap:=s3.heap.push { cls:=.type "slice",data:=.fields #[vl,vu,.none] } };exact tail_any (ops:=[.ref s3.heap.objs.size,v]) ht hT hg (by with_unfolding_all rfl)
def Fl(xs:List V)(lo hi:Option Int):List V:=(xs.drop (HT.HN xs.length 0 lo)).take (HT.HN xs.length xs.length hi - HT.HN xs.length 0 lo)
def IT(xs:List V)(lo hi:Option Int):(Fl xs lo hi).length<=xs.length:=by
 unfold Fl;rw[bz,List.length_drop];omega
def Vy(K:aa):R2:=λx y H Q=>∃a b xs ys,x=.ref a/\y=.ref b/\o7 K H a xs/\o7 K H b ys/\xs≠[]/\xs.length+ys.length<=sizeLine/\
 (ys=[]->Q (.ref a) H)/\(ys≠[]->∀p,H p=none->Q (.ref p) (upd H p (.tup (xs++ys))))
def r8.nil_iff{xs:List V}{us:List Value}(r:r8 xs us):us=[]↔xs=[]:=by
 cases r with
 | nil=>simp
 | cons _ _=>simp
def Qf:CY X (binaryOp .Add) (Vy X.K):=by
 intro pins s σ H x y v u Q I rx ry h;obtain⟨a,b,xs,ys,rfl,rfl,ha,hb,hx,hz,q1,q2⟩:=h;cases rx;cases ry;obtain⟨its,r1,p1,_⟩:=I.tuple ha;obtain⟨its2,r2,p2,_⟩:=I.tuple hb;refine HT.QP p1 p2 (λz=>hx (r1.nil_iff.mp z)) (λz=>⟨.ref a,H,I,rfl,q1 (r2.nil_iff.mp z)⟩) (λz=>?_) (by rw[<- r1.length,<- r2.length];exact hz);refine⟨.ref s.heap.objs.size,_,I.laid (t':=s.toks) (o:=.tup (xs++ys)) (λb ob q=>ah _ q) (ae _) ?_,rfl,q2 (λw=>z (r2.nil_iff.mpr w)) _ (I.hok.fresh (ae _))⟩;exact⟨by rw[ai];exact hz,_,r1.append r2,IsTup.new _ _,λ_=>⟨_,aw _ rfl,rfl⟩⟩
end
def OT(n:Nat)(i:Int):Option Nat:=if 0<=i then(if i < n then some i.toNat else none)else if -(n:Int)<=i then some (i+n).toNat else none
def MK{α:Type}(xs:List α)(i:Int):Option α:=(OT xs.length i).bind λj=>xs[j]?
def Ln{n:Nat}{i:Int}{j:Nat}(h:OT n i=some j):seqIndex? i n=some j/\j < n/\-(n:Int)<=i/\i < n:=by
 unfold OT at h;by_cases h0:0<=i
 . rw[if_pos h0]at h;by_cases h1:i < n
   . rw[if_pos h1]at h;have e:i.toNat=j:=Option.some.inj h;exact⟨by rw[seqIndex_of h0 h1,e],oM,oM,h1⟩
   . rw[if_neg h1]at h;cases h
 . rw[if_neg h0]at h;by_cases h1:-(n:Int)<=i
   . rw[if_pos h1]at h;have e:(i+n).toNat=j:=Option.some.inj h;exact⟨by rw[seqIndex_neg oM h1,e],oM,h1,oM⟩
   . rw[if_neg h1]at h;cases h
def Hq{α:Type}{xs:List α}{i:Int}{v:α}(h:MK xs i=some v):∃j,seqIndex? i xs.length=some j/\xs[j]? = some v/\j < xs.length/\-(xs.length:Int)<=i/\i < xs.length:=by
 unfold MK at h;cases e:OT xs.length i with
 | none=>rw[e]at h;cases h
 | some j=>
  rw[e]at h;obtain⟨h1,h2,h3,h4⟩:=Ln e;exact⟨j,h1,h,h2,h3,h4⟩
def J2{α:Type}{xs:List α}{j:Nat}{v:α}(h:xs[j]? = some v):MK xs (j:Int)=some v:=by
 have hj:j < xs.length:=(aY.mp h).1;have e:OT xs.length (j:Int)=some j:=by
  unfold OT;rw[if_pos oM,if_pos oM];simp
 unfold MK;rw[e];exact h
def QT(b:Expr):Prop:=∀o i,subscripted b false o i=operate [o,i] (getItem o i)
def MO(X:Cx)(r:R2):Prop:=
 ∀(value slice:Expr) (pins:List (Addr × Obj)) (s:Shared) (σ:St) (H:Hp) (x y:V) (v u:Value) (Q:VK),k8 X pins σ H s->y6 x v->y6 y u->r x y H Q->
  subscripted slice false v u=operate [v,u] (getItem v u)->wpAny (model X.prog X.w) X.A (subscriptTail value slice v u) (EP X pins σ Q) X.xe s
def MtR(X:Cx)(id:String)(r:V->List V->Hp->VK->Prop):Prop:=
 ∀(pins:List (Addr × Obj)) (s:Shared) (σ:St) (H:Hp) (x:V) (xs:List V) (v:Value) (us:List Value) (Q:VK),k8 X pins σ H s->y6 x v->r8 xs us->r x xs H Q->
  wpAny (model X.prog X.w) X.A (call (.builtin id) (v::us)) (EP X pins σ Q) X.xe s
section
variable{X:Cx}{a b:Expr}{ta tb:TE}{pos:Pos}
def MO.or{r r':R2}(h:MO X r)(h':MO X r'):MO X (λx y H Q=>r x y H Q\/r' x y H Q):=by
 intro value slice pins s σ H x y v u Q I rx ry q hs;rcases q with q | q
 . exact h value slice pins s σ H x y v u Q I rx ry q hs
 . exact h' value slice pins s σ H x y v u Q I rx ry q hs
def j8{r:R2}(hr:MO X r)(ha:PE X a ta)(hb:PE X b tb)(hs:QT b):PE X (.Subscript a b pos) (tOp r ta tb):=by
 intro pins s σ H Q I h;exact Subscript_ (TU ha hb I h λv u s2 x y H2 I2 rx ry q=>hr a b pins s2 σ H2 x y v u Q I2 rx ry q (hs _ _))
def Vx(K:aa):R2:=λx y H Q=>∃p xs i v,x=.ref p/\y=.int i/\t8 K H p xs/\MK xs i=some v/\Q v H
def Md(K:aa):R2:=λx y H Q=>∃p xs i v,x=.ref p/\y=.int i/\o7 K H p xs/\MK xs i=some v/\Q v H
def rIxS:R2:=λx y H Q=>∃z i c,x=.str z/\y=.int i/\z.length<=sizeLine/\MK z.cps.toList i=some c/\Q (.str ⟨#[c]⟩) H
def D1:MO X (Vx X.K):=by
 intro value slice pins s σ H x y v u Q I rx ry h hs;obtain⟨p,xs,i,z,rfl,rfl,hq,he,q⟩:=h;cases rx;obtain⟨t,rfl⟩:=ry;obtain⟨its,r,pl,hz⟩:=I.list hq;obtain⟨j,h1,h2,h3,h4,h5⟩:=Hq he;obtain⟨w,ew,rw'⟩:=r.get h2;have hl:=r.length;have hn:=CP;have fin:EP X pins σ Q w s:=⟨z,H,I,rw',q⟩;by_cases h0:0<=i
 . have hj:i.toNat=j:=by
    rw[seqIndex_of h0 h5]at h1;exact Option.some.inj h1
   exact item_listR pl.isList h0 oM (by rw[hj];simpa using ew) fin hs
 . have hj:(i+(its.toArray.size:Int)).toNat=j:=by
    rw[seqIndex_neg oM h4]at h1;rw[au,<- hl];exact Option.some.inj h1
   exact subscriptTail_builtinR (x:=w) pl.isList.typeIs slot_list_getitem.lookup
    (wpAny_getItem_list_neg (Q:=λr s'=>r=w/\EP X pins σ Q r s') pl.isList oM (by rw[au] <;>omega) oM (by rw[hj];simpa using ew) ⟨rfl,fin⟩) hs
def h9:MO X (Md X.K):=by
 intro value slice pins s σ H x y v u Q I rx ry h hs;obtain⟨p,xs,i,z,rfl,rfl,hq,he,q⟩:=h;cases rx;obtain⟨t,rfl⟩:=ry;obtain⟨its,r,pl,hz⟩:=I.tuple hq;obtain⟨j,h1,h2,h3,h4,h5⟩:=Hq he;obtain⟨w,ew,rw'⟩:=r.get h2;have hl:=r.length;have hn:=CP;have fin:EP X pins σ Q w s:=⟨z,H,I,rw',q⟩;exact subscriptTail_builtinR (x:=w) pl.typeIs slot_tuple_getitem.lookup
  (getItem_tuple (j:=j) (Q:=λr s'=>r=w/\EP X pins σ Q r s') pl oM oM (by rw[au,<- hl];exact h1) (by simpa using ew) ⟨rfl,fin⟩) hs
def Oo:MO X rIxS:=by
 intro value slice pins s σ H x y v u Q I rx ry h hs;obtain⟨z,i,c,rfl,rfl,hz,he,q⟩:=h;obtain⟨t,rfl⟩:=rx;obtain⟨t',rfl⟩:=ry;obtain⟨j,h1,h2,h3,h4,h5⟩:=Hq he;have hl:z.cps.toList.length=z.length:=by simp[Str.length]
 rw[hl]at h1 h4 h5;have hn:=CP;exact tail_any (typeIs_str s z t) slot_str_getitem.lookup (getItem_str (c:=c) (by
  have e1:decide (i < -(2 ^ 63:Int))=false:=decide_eq_false oM;have e2:decide (i ≥ 2 ^ 63)=false:=decide_eq_false oM;rw[e1,e2,Bool.or_false]) (by rw[h1];simpa using h2) ⟨.str ⟨#[c]⟩,H,I.tok _,⟨_,rfl⟩,q⟩) hs
def rIx(K:aa):R2:=λx y H Q=>Vx K x y H Q\/Md K x y H Q\/rIxS x y H Q
def Tn:MO X (rIx X.K):=D1.or (h9.or Oo)
def JS(its:List Value)(n j:Nat)(u:Value):Obj.mapSeq (·.setIfInBounds j u) { cls:=.type "list",data:=.seq its.toArray n }={ cls:=.type "list",data:=.seq (its.set j u).toArray n }:=by
 simp[Obj.mapSeq]
theorem k8.lst{pins:List (Addr × Obj)}{σ:St}{H:Hp}{s:Shared}{p:Addr}{xs:List V}(I:k8 X pins σ H s)(h:H p=some (.lst xs)) :
    ∃(its:List Value) (n:Nat),r8 xs its/\s.heap.get? p=some { cls:=.type "list",data:=.seq its.toArray n }/\xs.length<=sizeLine:=by
 obtain⟨z,its,n,r,e⟩:=I.hok p _ h;exact⟨its,n,r,e,z⟩
def k8.lstUpd{pins:List (Addr × Obj)}{σ:St}{H:Hp}{s:Shared}{p:Addr}{xs ys:List V}{its its':List Value}{n n':Nat}{f:Obj->Obj}(I:k8 X pins σ H s)(h:H p=some (.lst xs))
    (ho:s.heap.get? p=some { cls:=.type "list",data:=.seq its.toArray n }) (hf:f { cls:=.type "list",data:=.seq its.toArray n }={ cls:=.type "list",data:=.seq its'.toArray n' }) (r:r8 ys its') (hz:ys.length<=sizeLine) (t:Nat) :
    k8 X pins σ (upd H p (.lst ys)) { s with heap:=s.heap.update p f,toks:=t }:=by
 have e:(s.heap.update p f).get? p=some { cls:=.type "list",data:=.seq its'.toArray n' }:=by
  rw[Heap.get?_update_self f ho (by rw[hf] <;>rfl),hf]
 refine I.write (x:=p) (e:=p) (by rw[h];trivial) (.inl rfl) (λb u hb q=>(cA _ _ (Ne.symm hb)).trans q) ⟨_,e⟩ ?_;exact⟨hz,its',n',r,e⟩
def rSetL:V->V->V->Hp->(Hp->Prop)->Prop:=λo i v H Q=>∃p xs k j,o=.ref p/\i=.int k/\H p=some (.lst xs)/\OT xs.length k=some j/\Q (upd H p (.lst (xs.set j v)))
def O4:ZU X rSetL:=by
 intro pins s σ H o i v ov iv u Q I ro ri rv h;obtain⟨p,xs,k,j,rfl,rfl,hp,hj,q⟩:=h;cases ro;obtain⟨t,rfl⟩:=ri;obtain⟨its,n,r,ho,hz⟩:=I.lst hp;obtain⟨h1,h2,h3,h4⟩:=Ln hj;have hl:=r.length;have hn:=CP;have I':k8 X pins σ (upd H p (.lst (xs.set j v))) { s with heap:=s.heap.update p (Obj.mapSeq (·.setIfInBounds j u)) }:=
  I.lstUpd hp ho (JS its n j u) (r.set rv j) (by rw[bW];exact hz) s.toks
 by_cases h0:0<=k
 . have hk:k.toNat=j:=by
    rw[seqIndex_of h0 h4]at h1;exact Option.some.inj h1
   exact PySem.W.ki_setAt ho h0 oM (by rw[au,<- hl];exact h4) (by rw[hk];exact⟨_,I',q⟩)
 . have hk:(k+(its.toArray.size:Int)).toNat=j:=by
    rw[seqIndex_neg oM h3]at h1;rw[au,<- hl];exact Option.some.inj h1
   exact PySem.W.ki_setBack ho oM (by rw[au,<- hl];exact h3) oM (by rw[hk];exact⟨_,I',q⟩)
def Gb(lo hi:Option Int)(n:Nat):(sliceBounds lo hi none n).1=((HT.HN n 0 lo:Nat):Int)/\(sliceBounds lo hi none n).2.1=((HT.HN n n hi:Nat):Int)/\(sliceBounds lo hi none n).2.2=1:=by
 refine⟨?_,?_,rfl⟩
 . cases lo with
   | none=>simp[sliceBounds,HT.HN]
   | some i=>
    simp only[sliceBounds,HT.HN,Option.getD_none,show(1:Int) > 0 by decide,if_true];by_cases h:i < 0
    . simp only[h,if_true] <;>omega
    . simp only[h,if_false] <;>omega
 . cases hi with
   | none=>simp[sliceBounds,HT.HN]
   | some i=>
    simp only[sliceBounds,HT.HN,Option.getD_none,show(1:Int) > 0 by decide,if_true];by_cases h:i < 0
    . simp only[h,if_true] <;>omega
    . simp only[h,if_false] <;>omega
def EI(its:List Value)(lo hi:Option Int):slicePick its.toArray lo hi none=((its.drop (HT.HN its.length 0 lo)).take (HT.HN its.length its.length hi - HT.HN its.length 0 lo)).toArray:=by
 obtain⟨h1,h2,h3⟩:=Gb lo hi its.toArray.size;unfold slicePick;rw[h1,h2,h3];simp only[sliceRange_one,pick_run,au] <;>rfl
def rSlL(K:aa):V->Option Int->Option Int->Hp->VK->Prop:=λx lo hi H Q=>∃a xs,x=.ref a/\t8 K H a xs/\∀p,H p=none->Q (.ref p) (upd H p (.lst (Fl xs lo hi)))
def Pw:SlR X (rSlL X.K):=by
 intro pins s σ H x v vl vu lo hi sl Q I rx hs pl pu h;obtain⟨a,xs,rfl,hx,q⟩:=h;cases rx;obtain⟨its,r,ht,hz⟩:=I.list hx;have hlen:=r.length;refine⟨"list",_,slot_list_getitem.lookup,ht.isList.typeIs,?_⟩;refine wpAny_getItem_list_slice ht.isList hs pl pu .none (by simp) ?_ (by rw[au] <;>omega);rw[EI,<- hlen];refine⟨.ref s.heap.objs.size,_,I.laid (t':=s.toks) (o:=.lst (Fl xs lo hi)) (λb ob q=>ah _ q) (ae _) ?_,rfl,q _ (I.hok.fresh (ae _))⟩;exact⟨af (IT xs lo hi) hz,_,0,(r.drop (HT.HN xs.length 0 lo)).take (HT.HN xs.length xs.length hi - HT.HN xs.length 0 lo),aw _ rfl⟩
def M5:R3 X (.type "list") (λxs H Q=>∃p ys,xs=[.ref p]/\(t8 X.K H p ys\/o7 X.K H p ys)/\∀l,H l=none->Q (.ref l) (upd H l (.lst ys))):=by
 intro pins s σ H xs us Q I r h;obtain⟨p,ys,rfl,hq,q⟩:=h;obtain⟨u,rfl,rx⟩:=Fq r;cases rx;have fin:∀(its:List Value),r8 ys its->ys.length<=sizeLine->∀(h':Heap) (c':Nat),(∀b o',s.heap.get? b=some o'->h'.get? b=some o')->
     h'.get? s.heap.objs.size=some { cls:=.type "list",dict:=none,data:=.seq its.toArray c',slots:=#[] }->EP X pins σ Q (.ref s.heap.objs.size) { s with heap:=h' }:=λits r' hz h' c' kp e=>
  ⟨.ref s.heap.objs.size,_,I.laid (t':=s.toks) kp (ae _) (show I0 X.prog X.w _ h' _ (.lst ys)from⟨hz,its,c',r',e⟩),rfl,q _ (I.hok.fresh (ae _))⟩
 rcases hq with hq | hq
 . obtain⟨its,r',pl,hz⟩:=I.list hq;have hlen:=r'.length;obtain⟨o,ho,hc,n,hd⟩:=pl.isList;exact call_list_seq p (.inl rfl) ho hc hd (λh' c' kp e=>fin its r' hz h' c' kp e) (by simp only[au] <;>omega)
 . obtain⟨its,r',pl,hz⟩:=I.tuple hq;have hlen:=r'.length;obtain⟨o,ho,hc,n,hd⟩:=pl;exact call_list_seq p (.inr rfl) ho hc hd (λh' c' kp e=>fin its r' hz h' c' kp e) (by simp only[au] <;>omega)
def g6:R3 X (.type "tuple") (λxs H Q=>∃p ys,xs=[.ref p]/\((t8 X.K H p ys/\∀l,H l=none->Q (.ref l) (upd H l (.tup ys)))\/(o7 X.K H p ys/\Q (.ref p) H))):=by
 intro pins s σ H xs us Q I r h;obtain⟨p,ys,rfl,h⟩:=h;obtain⟨u,rfl,rx⟩:=Fq r;cases rx;rcases h with ⟨hq,q⟩ | ⟨hq,q⟩
 . obtain⟨its,r',pl,hz⟩:=I.list hq;have hlen:=r'.length;refine call_tuple_list pl.isList (λh' kp=>?_) (by simp only[au] <;>omega);have I1:k8 X pins σ H { s with heap:=h' }:=I.kept (t':=s.toks) kp;have I2:k8 X pins σ (upd H h'.objs.size (.tup ys)) { s with heap:=h'.push { cls:=.type "tuple",data:=.seq its.toArray } }:=
    I1.laid (t':=s.toks) (λb o e=>ah _ e) (ae _) (show I0 X.prog X.w _ _ _ (.tup ys)from⟨hz,its,r',IsTup.new _ _,λ_=>⟨_,aw _ rfl,rfl⟩⟩)
   exact⟨.ref h'.objs.size,_,I2,rfl,q _ (I1.hok.fresh (ae _))⟩
 . obtain⟨its,r',pl,hz⟩:=I.tuple hq;exact call_tuple_same pl ⟨.ref p,H,I,rfl,q⟩
def tyV(K:aa)(T:String)(x:V)(H:Hp):Prop:=match x with
 | .str _=>T="str"
 | .int _=>T="int"
 | .ref p=>(T="list"/\∃xs,t8 K H p xs)\/(T="tuple"/\∃o,K.lookup p=some o/\o.cls=.type "tuple"/\o.dict=none)\/
     (T="dict"/\((∃kvs,H p=some (.dK kvs))\/∃kvs,H p=some (.dT kvs)))\/(T="set"/\∃S n,H p=some (.set S n))
 | _=>False
def RF{pins:List (Addr × Obj)}{σ:St}{H:Hp}{s:Shared}{T:String}{x:V}{v:Value}(I:k8 X pins σ H s)(r:y6 x v)(ty:tyV X.K T x H) :
    s.TypeIs v T/\∀a,v=.ref a->∃ob,s.heap.get? a=some ob/\ob.dict=none:=by
 cases x with
 | str z=>
  obtain⟨t,rfl⟩:=r;cases (show T="str" from ty);exact⟨typeIs_str s z t,λ_ e=>nomatch e⟩
 | int i=>
  obtain⟨t,rfl⟩:=r;cases (show T="int" from ty);exact⟨typeIs_int s i t,λ_ e=>nomatch e⟩
 | ref p=>
  cases r;rcases ty with ⟨rfl,xs,hq⟩ | ⟨rfl,o,hk,hc,hd⟩ | ⟨rfl,hk⟩ | ⟨rfl,S,n,hk⟩
  . obtain⟨its,_,pl,_⟩:=I.list hq;refine⟨pl.isList.typeIs,λa e=>?_⟩;cases e;obtain⟨o,n,e,c,hd,_⟩:=pl;exact⟨o,e,hd⟩
  . refine⟨⟨o,I.kIn p o hk,hc⟩,λa e=>?_⟩;cases e;exact⟨o,I.kIn _ o hk,hd⟩
  . have z:∃o,s.heap.get? p=some o/\o.ExactDict:=by
     rcases hk with ⟨kvs,hk⟩ | ⟨kvs,hk⟩
     . obtain⟨_,_,_,_,o,_,_,e,ex,_⟩:=I.hok p _ hk;exact⟨o,e,ex⟩
     . obtain⟨_,_,_,_,o,_,_,e,ex,_⟩:=I.hok p _ hk;exact⟨o,e,ex⟩
    obtain⟨o,e,ex⟩:=z;refine⟨⟨o,e,ex.1⟩,λa e2=>?_⟩;cases e2;exact⟨o,e,ex.2.1⟩
  . obtain⟨o,_,_,_,e,ex,_⟩:=I.hok p _ hk;refine⟨⟨o,e,ex.1⟩,λa e2=>?_⟩;cases e2;exact⟨o,e,ex.2.1⟩
 | _=>exact False.elim ty
def tBM(K:aa)(T:String)(r:V->List V->Hp->VK->Prop)(to:TE)(t:TA):TE:=λσ H Q=>to σ H λx H1=>tyV K T x H1/\t σ H1 λxs H2=>r x xs H2 Q
variable{o e:Expr}{es:List Expr}{to:TE}{t:TA}{name:Str}{apos cpos:Pos}{T id:String}{r:V->List V->Hp->VK->Prop}
def U6(pa:PlainAttrs T)(slot:Slot T name id)(hty:typeOf (.builtin id)=pure (.type "method_descriptor"))(hm:MtR X id r)(ho:PE X o to)(ha:PA X (e::es) t)
    (hbase:attributeBase o name X.env (eval o X.env)=eval o X.env:=by rfl)
    (hfew:((backTo cpos (starEach (e::es) X.env)).all (λx=>!x.1) && (backToKw cpos (keywordEach [] X.env)).all (λx=>x.1.isSome)
     && decide ((e::es).length+([]:List Keyword).length+(if([]:List Keyword).isEmpty then 0 else 1) < 30))=true:=by rfl)
    (hline:(apos.endLine == cpos.line)=true:=by rfl) (hs:starEach (e::es) X.env=(false,eval e X.env)::starEach es X.env:=by rfl) (hplain:(backTo cpos (starEach es X.env)).any (·.1)=false:=by rfl) :
    PE X (.Call (.Attribute o name apos) (e::es) [] cpos) (tBM X.K T r to t):=by
 intro pins s σ H Q I h;refine wpAny_Call_method_late hbase hfew hline rfl (B6 (ho pins s σ H _ I h) λv s1 ⟨x,H1,I1,r1,ty,q1⟩=>?_);obtain⟨h1,h2⟩:=RF I1 r1 ty;refine⟨T,id,pa,slot,hty,h1,h2,?_⟩;have hA:=ha cpos pins s1 σ H1 _ I1 q1;rw[hs]at hA ⊢;refine Calls.callWith_builtin (by show(false || (backTo cpos (starEach es X.env)).any (·.1))=false;rw[hplain] <;>rfl) (Calls.evalArgs_plain ?_);exact B6 hA λus s2 ⟨vs,H2,I2,r2,q2⟩=>hm pins s2 σ H2 x vs v us Q I2 r1 r2 q2
end
def MtM(X:Cx)(id:String)(r:V->List V->Hp->VK->Prop):Prop:=
 ∀(pins:List (Addr × Obj)) (s:Shared) (σ:St) (H:Hp) (x:V) (xs:List V) (v:Value) (us:List Value) (Q:VK),k8 X pins σ H s->y6 x v->r8 xs us->r x xs H Q->
  wpAny (model X.prog X.w) X.A (call (.builtin id) (v::us)) (EP X pins σ Q) X.xe s
def r8.one:∀{x:V} {us:List Value},r8 [x] us->∃u,us=[u]/\y6 x u
 | _,_,.cons r .nil=>⟨_,rfl,r⟩
def r8.zero:∀{us:List Value},r8 [] us->us=[]
 | _,.nil=>rfl
theorem r8.eraseIdx:∀{xs:List V} {us:List Value} (i:Nat),r8 xs us->r8 (xs.eraseIdx i) (us.eraseIdx i)
 | _,_,_,.nil=>.nil
 | _,_,0,.cons _ t=>t
 | _,_,i+1,.cons r t=>.cons r (r8.eraseIdx i t)
theorem FH{α:Type}:∀(l:List α) (i:Nat),(l.eraseIdx i).length<=l.length
 | [],_=>ae _
 | _::_,0=>Nat.le_succ _
 | _::r,i+1=>Nat.succ_le_succ (FH r i)
section
variable{X:Cx}{pins:List (Addr × Obj)}{σ:St}{H:Hp}{s:Shared}{l b:Addr}{xs ys zs:List V}
def k8.lset{its its':List Value}{n:Nat}{f:Array Value->Array Value}{t':Nat}(I:k8 X pins σ H s)(hH:H l=some (.lst xs))
    (e:s.heap.get? l=some { cls:=.type "list",data:=.seq its.toArray n }) (hf:f its.toArray=its'.toArray) (hv:r8 ys its') (hz:ys.length<=sizeLine) :
    k8 X pins σ (upd H l (.lst ys)) { s with heap:=s.heap.update l (Obj.mapSeq f),toks:=t' }:=by
 have q:=PySem.IsL.update e f;rw[hf]at q;refine I.write (x:=l) (e:=l) (by rw[hH];exact trivial) (.inl rfl) (λb' u hb hu=>(cA s.heap (Obj.mapSeq f) (Ne.symm hb)).trans hu) ⟨_,q⟩ ?_;exact⟨hz,its',_,hv,q⟩
def k8.lnew{its:List Value}{t':Nat}(I:k8 X pins σ H s)(hv:r8 ys its)(hz:ys.length<=sizeLine) :
    k8 X pins σ (upd H s.heap.objs.size (.lst ys)) { s with heap:=s.heap.push { cls:=.type "list",data:=.seq its.toArray },toks:=t' }:=
 I.laid (λ_ _ q=>ah _ q) (ae _) ⟨hz,its,0,hv,aw _ rfl⟩
theorem k8.fresh(I:k8 X pins σ H s):H s.heap.objs.size=none:=I.hok.fresh (ae _)
def k8.lstM(I:k8 X pins σ H s)(hH:H l=some (.lst xs)):xs.length<=sizeLine/\∃(its:List Value) (n:Nat),r8 xs its/\xs.length=its.length/\s.heap.get? l=some { cls:=.type "list",data:=.seq its.toArray n }:=by
 obtain⟨z,its,n,r,e⟩:=I.hok l _ hH;exact⟨z,its,n,r,r.length,e⟩
def NP{n:Nat}(h:n<=sizeLine):Builtin.List.listTooLong n=false:=by
 unfold Builtin.List.listTooLong;exact decide_eq_false oM
end
section
variable{X:Cx}
def rAppend:V->List V->Hp->VK->Prop:=λx vs H Q=>∃l xs y,x=.ref l/\vs=[y]/\H l=some (.lst xs)/\xs.length < sizeLine/\Q .non (upd H l (.lst (xs++[y])))
def J1:MtM X "list.append" rAppend:=by
 intro pins s σ H x vs v us Q I rx rv h;obtain⟨l,xs,y,rfl,rfl,hH,hz,q⟩:=h;cases rx;obtain⟨u,rfl,ru⟩:=rv.one;obtain⟨z,its,n,r,hl,e⟩:=I.lstM hH;refine call_meets F.slot_list_append ⟨_,e,rfl⟩ F.entry_list_append (F.args_list_append_2 _ _) (cU l its.toArray n u (by rw[au];omega)) ⟨e,?_⟩;refine⟨.non,_,I.lset (its':=its++[u]) hH e (by simp) (r.append (.cons ru .nil)) ?_,rfl,q⟩;rw[ai,List.length_singleton];omega
def rExtend:V->List V->Hp->VK->Prop:=λx vs H Q=>∃l b xs zs,x=.ref l/\vs=[.ref b]/\H l=some (.lst xs)/\H b=some (.lst zs)/\xs.length+zs.length<=sizeLine/\Q .non (upd H l (.lst (xs++zs)))
def FF:MtM X "list.extend" rExtend:=by
 intro pins s σ H x vs v us Q I rx rv h;obtain⟨l,b,xs,zs,rfl,rfl,hH,hB,hz,q⟩:=h;cases rx;obtain⟨u,rfl,ru⟩:=rv.one;cases ru;obtain⟨z,its,n,r,hl,e⟩:=I.lstM hH;obtain⟨z2,its2,n2,r2,hl2,e2⟩:=I.lstM hB;have hsz:its.toArray.size+its2.toArray.size<=sizeLine:=by rw[au,au];omega
 have hlong:¬(!its.toArray.isEmpty && Builtin.List.listTooLong (its.toArray.size+its2.toArray.size))=true:=by
  rw[NP hsz,Bool.and_false];exact aG
 refine call_meets F.slot_list_extend ⟨_,e,rfl⟩ F.entry_list_extend (F.args_list_extend_2 _ _)
  (AutoSeq1.list_extend_list_list_0 l its.toArray n b its2.toArray n2 hlong (by rw[au];omega) oM) ⟨e,e2,?_⟩
 refine⟨.non,_,I.lset (its':=its++its2) hH e (by simp) (r.append r2) ?_,rfl,q⟩;rw[ai];omega
def rPopAt:V->List V->Hp->VK->Prop:=λx vs H Q=>∃l xs i k y,x=.ref l/\vs=[.int i]/\H l=some (.lst xs)/\-(2 ^ 63)<=i/\i < 2 ^ 63/\seqIndex? i xs.length=some k/\xs[k]? = some y/\Q y (upd H l (.lst (xs.eraseIdx k)))
def Oc:MtM X "list.pop" rPopAt:=by
 intro pins s σ H x vs v us Q I rx rv h;obtain⟨l,xs,i,k,y,rfl,rfl,hH,h1,h2,hk,hy,q⟩:=h;cases rx;obtain⟨u,rfl,ru⟩:=rv.one;obtain⟨t,rfl⟩:=ru;obtain⟨z,its,n,r,hl,e⟩:=I.lstM hH;obtain⟨w,hw,rw'⟩:=r.get hy;refine call_meets F.slot_list_pop ⟨_,e,rfl⟩ F.entry_list_pop (F.args_list_pop_2 _ _)
  (MeetsSeq.list_pop_at l its.toArray n i t k w (fitsIndex_both h1 h2) (by rw[au,<- hl];exact hk) (by rw[<- Array.getElem?_toList];exact hw) (by rw[au];omega)) ⟨e,?_⟩
 refine⟨y,_,I.lset (its':=its.eraseIdx k) hH e ?_ (r.eraseIdx k) ?_,rw',q⟩
 . show its.toArray.eraseIdxIfInBounds k=(its.eraseIdx k).toArray;rw[List.eraseIdxIfInBounds_toArray]
 . have:=FH xs k;omega
def rCat:R2:=λx y H Q=>∃l b xs zs,x=.ref l/\y=.ref b/\H l=some (.lst xs)/\H b=some (.lst zs)/\xs.length+zs.length<=sizeLine/\∀p,H p=none->Q (.ref p) (upd H p (.lst (xs++zs)))
def SE:CY X (binaryOp .Add) rCat:=by
 intro pins s σ H x y v u Q I rx ry h;obtain⟨l,b,xs,zs,rfl,rfl,hH,hB,hz,q⟩:=h;cases rx;cases ry;obtain⟨z,its,n,r,hl,e⟩:=I.lstM hH;obtain⟨z2,its2,n2,r2,hl2,e2⟩:=I.lstM hB;refine PySem.P.add_list e e2 ?_ (by rw[au,au];omega);have ea:its.toArray++its2.toArray=(its++its2).toArray:=by simp
 rw[ea];exact⟨.ref _,_,I.lnew (t':=s.toks) (r.append r2) (by rw[ai];omega),rfl,q _ I.fresh⟩
end
section
variable{prog:Program}{w:World}{A:Around}{E:Value->Shared->Prop}{s:Shared}
set_option maxRecDepth 100000 in
end
section
variable{X:Cx}
end
end L2
namespace Att
open PySem PySem.W PySem.Calls PyProof.Rows
def Du{P:Params}{h:Heap}:∀(ns:List Int) (vs:List Value),WellAll P h vs (ns.map WData.int)->IntsAre vs ns:=by
 intro ns
 induction ns with
 | nil=>
  intro vs w;rw[List.map_nil]at w;cases w;exact .nil
 | cons n ns ih=>
  intro vs w;rw[aL]at w;cases w with
  | cons a b=>
   cases a;exact .cons _ _ (ih _ b)
def Ma{l:OpenLaw}{n:Nat}(hn:l.most=some n){P:Params}{h:Heap}{args:List WData}{vals:List Value}
    (hpre:l.row.toRowW.claim.pre args=true) (hwl:WellAll P h vals args) :
    ∃a vs ns,vals=[Value.ref a]/\args=[WData.list (ns.map WData.int)]/\h.get? a=some { cls:=.type "list",data:=.seq vs.toArray }/\IntsAre vs ns/\ns.length<=n:=by
 have hsh:WShape.hasAll [] args [.list .int]=true:=(pre_splitW hpre).1;have hc:l.pre.holds [] { args:=args }=true:=(pre_splitW hpre).2;obtain⟨d,r,rfl,h1,h2⟩:=hasAllW_cons hsh;obtain rfl:=hasAllW_nil h2;obtain⟨xs,rfl,h3⟩:=hasW_list h1;obtain⟨ns,rfl⟩:=items_int h3;have hlen:ns.length<=n:=by
  unfold OpenLaw.pre at hc;have h4:(WTm.not (.lt (.lit (.int (n:Int))) (.len (.arg 0)))).holds [] { args:=[.list (ns.map .int)] }=true:=by
   have h4:=(holds_andW hc).1;rw[hn]at h4;exact h4
  have h5:=condW_of h4 (w_not (w_lt w_lit (w_len_list (w_arg rfl))));rw[aj]at h5;refine Nat.le_of_not_lt λq=>?_;have q':(n:Int) < ((ns.length:Nat):Int):=by omega
  first
   | (rw[decide_eq_true q']at h5;exact absurd h5 (by decide))
   | (simp at h5;omega)
 cases hwl with
 | cons w1 w2=>
  cases w2;cases w1 with
  | list ho hall=>exact za ⟨ns,rfl,rfl,ho,Du ns _ hall,hlen⟩
def Mf(l:OpenLaw)(args:List WData):l.row.toRowW.claim.post args (.bool true) args=true:=
 postW_of (r:=l.row.toRowW) (X:=(true == true))
  (show WShape.has [] (.bool true) .bool=true by first | rfl | decide | simp[WShape.has,WShape.arms,WShape.armsAll])
  (show(WTm.eq .res (.lit (.bool true))).value [] { args:=args,res:=some (.bool true),after:=args }=some (.bool (true == true))from w_eq_bool (w_res rfl) w_lit) rfl
def Jc{l:OpenLaw}{n:Nat}{q:Program}{loose:List Str}{XP:(Str->Option Value)->Heap->Prop}{YP:World->Heap->Prop}{d:DefRec}
    (hn:l.most=some n) (hdf:d.params.defaults=[])
    (call:∀(w:World) (s₀ s₁:Shared) (mg mb:Str->Option Value) (fa:Addr) (o:Obj) (pm cd doc:Value) (a:Addr) (vs:List Value) (ns:List Int),
     Ground q loose [] XP w s₀ mg mb s₁.heap->YP w s₁.heap->
     s₁.heap.get? fa=some o->o.data=.func (docDef d.name d.params d.body d.scope pm cd doc)->s₁.heap.CodeRec cd d.name->mg d.name=some (.ref fa)->
     s₁.heap.get? a=some { cls:=.type "list",data:=.seq vs.toArray }->IntsAre vs ns->ns.length<=n->s₁.gens=#[]->
     codeAny (model l.prog w) callerA (.call (.ref fa) ⟨[.ref a],[]⟩) (λr s'=>r=.ok (.ret (.bool true))/\OldK s₁.heap s'.heap/\s'.os=s₁.os/\AllBare s'.gens) s₁) :
    WalkO q loose XP YP l.row.toRowW d [] (λf vs=>PySem.call f vs):=by
 intro w s₀ s₁ mg mb G Y fa o pm cd doc dV kV ho hd hcd hD hmg hg args vals as hpre hlay hrd hwl hlo;obtain rfl:dV=.none:=Dflts.none hD hdf;obtain rfl:kV=.none:=Dflts.noKw hD;obtain⟨a,vs,ns,rfl,rfl,hobj,hints,hlen⟩:=Ma hn hpre hwl;refine enter_call (codeAny_mono (call w s₀ s₁ mg mb fa o pm cd doc a vs ns G Y ho (fd_plain hd) hcd hmg hobj hints hlen hg) λr s' hq=>?_);obtain⟨rfl,h2,h3,h4⟩:=hq;exact⟨.inl ⟨.bool true,.bool true,[],rfl,λ_=>rfl,.bool true,Mf l _,λ_=>⟨List.Pairwise.nil,λ_ hm=>(nomatch hm)⟩⟩,h2,h3,h4⟩
section
variable{prog:Program}{w:World}{A:Around}{E:Value->Shared->Prop}{s:Shared}{K:Frag}
end
end Att
namespace L2
open PySem PySem.Spec PyProof.Rows
theorem Fp:∀{vs:List Value} {ns:List Int},IntsAre vs ns->r8 (ns.map V.int) vs
 | _,_,.nil=>.nil
 | _,_,.cons n t h=>.cons ⟨t,rfl⟩ (Fp h)
abbrev KOf{K:aa}{h:Heap}(_:K.In h):aa:=K
def o6(s:Stmt)(j:Nat):Stmt:=match s with
 | .ClassDef _ _ _ body _ _ _ _ _ _ _=>body.getD j (.Pass ⟨0,0,0,0⟩)
 | _=>.Pass ⟨0,0,0,0⟩
def C0(s:Stmt):Arguments:=match s with
 | .FunctionDef _ a _ _ _ _ _ _ _ _=>a
 | _=>{ posonlyargs:=[],args:=[],vararg:=none,kwonlyargs:=[],kw_defaults:=[],kwarg:=none,defaults:=[] }
def B3(s:Stmt):List Stmt:=match s with
 | .FunctionDef _ _ b _ _ _ _ _ _ _=>b
 | _=>[]
def b9(s:Stmt):Scope:=match s with
 | .FunctionDef _ _ _ _ _ _ sc _ _ _=>sc
 | _=>{ kind:=.function,names:=[],isGenerator:=false,isCoroutine:=false }
abbrev D2:MP:=λ_ _ _ _ _ _=>False
abbrev E0:XK:=λ_ _ _=>False
def B0{X:Cx}:BB D2 X E0:=λ_ _ _ _ _ _ _ h=>h.elim
structure KH(K:aa)(x qual:Str)(st:Stmt)(f:Addr)(fd:FuncData):Prop where
 ex:∃(oc:Value) (od:Option Addr) (kV doc pm:Value) (an:Option Addr) (cdv ct:Value) (osl:Array (Option Value)),
  fd=PySem.W.fnOf x qual (C0 st) (B3 st) (b9 st) .none kV doc pm an cdv ct/\K.lookup f=some ⟨oc,od,.func fd,osl⟩/\PySem.W.codeIn K cdv qual=true
 kp:PySem.W.keepIn K (.ref f)=true
section
variable{P:Program}{w:World}{K:aa}{mg:Str->Option Value}{base:Heap}
def KH.ok{x qual:Str}{st:Stmt}{f:Addr}{fd:FuncData}{N ps:List Str}{k:Nat}{sp:Sp}(F:KH K x qual st f fd)(S:c8 N ps (b9 st))(len:∀vs H Q E,sp vs H Q E->vs.length=ps.length)
    (hbody:∀(cdv:Value) (A:Around) (outer:List Env) (s:Shared) (H:Hp) (vs:List V) (Q:VK) (E:XK),E6 k (A.deeper (envOfC qual (b9 st) s.heap.objs.size f cdv))->sp vs H Q E->
     ∃t,KF (Kx D2 P w K mg base N qual (b9 st) f cdv A outer s H E).nox (B3 st) t/\t { nx:=λ_ H'=>Q .non H',rt:=Q } (BF N vs) H):o9 P w K mg base D2 (k+1) f fd ps sp:=by
 obtain⟨oc,od,kV,doc,pm,an,cdv,ct,osl,rfl,lk,hcd⟩:=F.ex;refine Rr lk hcd S len λA outer s H vs Q E hr hsp=>?_;obtain⟨t,h,q⟩:=hbody cdv A outer s H vs Q E hr hsp;exact⟨t,h.nox,q⟩
def KH.binds{x qual:Str}{st:Stmt}{f:Addr}{fd:FuncData}{ps:List Str}(F:KH K x qual st f fd)
    (h:∀(kV doc pm:Value) (an:Option Addr) (cdv ct:Value) (us:List Value),us.length=ps.length->bindArgs (PySem.W.fnOf x qual (C0 st) (B3 st) (b9 st) .none kV doc pm an cdv ct) ⟨us,[]⟩=pure (ps.zip us)):J0 K fd ps []:=by
 obtain⟨oc,od,kV,doc,pm,an,cdv,ct,osl,rfl,lk,hcd⟩:=F.ex;exact .all (h kV doc pm an cdv ct)
def OA{x qual:Str}{st:Stmt}{f:Addr}{oc:Value}{od an:Option Addr}{osl:Array (Option Value)}{kV doc pm cdv ct:Value}(l:K.lookup f=some ⟨oc,od,.func (PySem.W.fnOf x qual (C0 st) (B3 st) (b9 st) .none kV doc pm an cdv ct),osl⟩)
    (c:PySem.W.codeIn K cdv qual=true) (k:PySem.W.keepIn K (.ref f)=true):KH K x qual st f (PySem.W.fnOf x qual (C0 st) (B3 st) (b9 st) .none kV doc pm an cdv ct):=⟨⟨oc,od,kV,doc,pm,an,cdv,ct,osl,rfl,l,c⟩,k⟩
end
section
variable{X:Cx}
def pv(i:Nat){x:Str}{pos:Pos}(hN:X.N[i]? = some x:=by rfl)(hv:Vis X.env.scope x:=by first | exact Or.inl rfl | exact Or.inr (Or.inl rfl) | exact Or.inr (Or.inr rfl))(hd:(x == ("__debug__":Str))=false:=by decide)
    (hcd:(x == ("__classdict__":Str))=false:=by decide):PE X (.Name x pos) (RK i):=NB hN hv hd hcd
end
def AU{A B:Prop}(h:B):if false=true then A else B:=by
 rw[if_neg aG];exact h
def Fi{A B:Prop}(h:A):if true=true then A else B:=by
 rw[if_pos rfl];exact h
def h8(H H':Hp):Prop:=∀b o,H b=some o->H' b=some o
def h8.refl(H:Hp):h8 H H:=λ_ _ h=>h
def h8.trans{H H1 H2:Hp}(a:h8 H H1)(b:h8 H1 H2):h8 H H2:=λc o h=>b c o (a c o h)
def h8.free{H H':Hp}(e:h8 H H'){l:Addr}(h:H' l=Option.none):H l=Option.none:=by
 cases q:H l with
 | none=>rfl
 | some o=>
  rw[e l o q]at h;cases h
def h8.seq{K:aa}{H H':Hp}{a:Addr}{xs:List V}(e:h8 H H')(h:t8 K H a xs):t8 K H' a xs:=by
 rcases h with (h | ⟨o,h⟩) | h
 . exact .inl (.inl (e _ _ h))
 . exact .inl (.inr ⟨o,e _ _ h⟩)
 . exact .inr h
end L2
set_option maxHeartbeats 4000000
namespace L2
open PySem PySem.Spec PyProof.Rows PySem.SeqAt
section
variable{X:Cx}
def RB(i j:Int):Prop:=Builtin.Int.intBits i<=2 ^ 20/\Builtin.Int.intBits j<=2 ^ 20
def Gv:CY X (binaryOp .Mult) (rI RB λi j=>.int (i * j)):=Ui λ_ _ _ _ _ _ _ hc q=>mul_int q (PySem.IntMulOk.of_bits hc.1 hc.2)
def RD(_ j:Int):Prop:=j≠0/\j.natAbs.log2 < 9000
def BR:CY X (binaryOp .FloorDiv) (rI RD λi j=>.int (i.fdiv j)):=Ui λ_ _ _ _ _ _ _ hc q=>floordiv_int hc.1 q (Or.inl (PyProof.noPylong_of_log2 hc.2))
def rIsi(K:aa):List V->Hp->VK->Prop:=λxs H Q=>∃x n t b,xs=[x,.ty n]/\AV K H x t/\PySem.W.kitOne K t (.type n)=some b/\Q (.bl b) H
def Cn:R3 X (.builtin "isinstance") (rIsi X.K):=by
 intro pins s σ H xs us Q I r h;obtain⟨x,n,t,b,rfl,ty,e,q⟩:=h;cases r with
 | cons rx r1=>
  cases r1 with
  | cons ry r2=>
   cases r2;cases ry;exact Mv I rx ty e λtk=>⟨.bl b,H,I.tok _,rfl,q⟩
structure MkO(K:aa)(C:Addr):Prop where
 makes:PySem.W.makesIn K C=true
 init:PySem.W.findIn K (.ref C) "__init__"=some (some (.builtin "object.__init__"))
 kp:PySem.W.keepIn K (.ref C)=true
def RM(C:Addr):TE:=λ_ H Q=>∀x dx,H x=none->H dx=none->dx≠x->Q (.ref x) (upd (upd H dx (.own x)) x (.ins C dx []))
def NF{C:Addr}{x:Str}{p pos:Pos}(M:MkO X.K C)(hg:Gl X x)(hm:X.mg x=some (.ref C))(hdb:(x == ("__debug__":Str))=false:=by decide):PE X (.Call (.Name x p) [] [] pos) (RM C):=by
 intro pins s σ H Q I h;refine wpAny_Call_Name_kw (Ce I hg hm ?_ hdb);refine PySem.W.callWith_K0 I.kIn M.kp ?_;have hq:=h (s.heap.objs.size+1) s.heap.objs.size (I.hok.fresh (Nat.le_succ _)) (I.hok.fresh (ae _)) (ao (bK _));have I2:=k8.made (C:=C) I;have Y:=PySem.W.makes_of (M:=model X.prog X.w) I.kIn M.makes;refine wpAny_call (Mn I.kIn M.makes M.init (λself=>PySem.W.Looks.of_pure (PySem.W.oi_bind self)) ?_);have t1:PySem.W.Looks (model X.prog X.w) ((s.heap.push PySem.W.emptyDict).push (PySem.W.instObj C s.heap.objs.size)) (typeOf (.ref (s.heap.objs.size+1))) (.ref C):=
  (PySem.W.Looks.ld (o:=PySem.W.instObj C s.heap.objs.size) (by have e:((s.heap.push PySem.W.emptyDict).push (PySem.W.instObj C s.heap.objs.size)).get? (s.heap.push PySem.W.emptyDict).objs.size=some (PySem.W.instObj C s.heap.objs.size):=aw _ rfl;rw[aM]at e;exact e)).andThen .now
 have t2:PySem.W.Looks (model X.prog X.w) ((s.heap.push PySem.W.emptyDict).push (PySem.W.instObj C s.heap.objs.size)) (isInstance (.ref (s.heap.objs.size+1)) (.type "object")) true:=
  t1.andThen (Y.top.keeps λb o e=>ah _ (ah _ e))
 refine PySem.codeAny_call_builtin PySem.W.oi_plain PySem.W.entry_oi (@PySem.W.check_slot (model X.prog X.w) _ _ _ "object.__init__" "object" "__init__" (.ref (s.heap.objs.size+1)) [] [] _ PySem.W.oi_kind PySem.W.oi_split t2 (PySem.W.oi_args (.ref (s.heap.objs.size+1))) ?_);rw[PySem.W.oi_run];exact wpAny_pure (And.intro rfl ⟨V.ref (s.heap.objs.size+1),_,I2,rfl,hq⟩)
end
mutual
inductive Is(K:aa)(H:Hp):V->PyData->Prop
 | non:Is K H .non .none
 | bl (b:Bool):Is K H (.bl b) (.bool b)
 | int (i:Int):Is K H (.int i) (.int i)
 | str (x:Str):Is K H (.str x) (.str x)
 | tup {a:Addr} {xs:List V} {ds:List PyData}:o7 K H a xs->P3 K H xs ds->Is K H (.ref a) (.tuple ds)
 | lst {a:Addr} {xs:List V} {ds:List PyData}:t8 K H a xs->P3 K H xs ds->Is K H (.ref a) (.list ds)
inductive P3(K:aa)(H:Hp):List V->List PyData->Prop
 | nil:P3 K H [] []
 | cons {v:V} {vs:List V} {d:PyData} {ds:List PyData}:Is K H v d->P3 K H vs ds->P3 K H (v::vs) (d::ds)
end
def h8.tup{K:aa}{H H':Hp}{a:Addr}{xs:List V}(e:h8 H H')(h:o7 K H a xs):o7 K H' a xs:=by
 rcases h with (h | ⟨o,h⟩) | h
 . exact .inl (.inl (e _ _ h))
 . exact .inl (.inr ⟨o,e _ _ h⟩)
 . exact .inr h
mutual
theorem Is.same{K:aa}{H H':Hp}(e:h8 H H'):∀{v:V} {d:PyData},Is K H v d->Is K H' v d
 | _,_,.non=>.non
 | _,_,.bl b=>.bl b
 | _,_,.int i=>.int i
 | _,_,.str x=>.str x
 | _,_,.tup h r=>.tup (e.tup h) (P3.same e r)
 | _,_,.lst h r=>.lst (e.seq h) (P3.same e r)
theorem P3.same{K:aa}{H H':Hp}(e:h8 H H'):∀{v:List V} {d:List PyData},P3 K H v d->P3 K H' v d
 | _,_,.nil=>.nil
 | _,_,.cons a r=>.cons (Is.same e a) (P3.same e r)
end
section
variable{X:Cx}{pins:List (Addr × Obj)}{σ:St}{H:Hp}{s:Shared}
mutual
theorem Is.reads(I:k8 X pins σ H s):∀{v:V} {d:PyData} {u:Value},Is X.K H v d->y6 v u->∃as,Reads s.heap u d as
 | _,_,_,.non,r=>by cases r;exact⟨_,.none⟩
 | _,_,_,.bl b,r=>by cases r;exact⟨_,.bool b⟩
 | _,_,_,.int i,r=>by obtain⟨t,rfl⟩:=r;exact⟨_,.int i t⟩
 | _,_,_,.str x,r=>by obtain⟨t,rfl⟩:=r;exact⟨_,.str x t⟩
 | _,_,_,.tup h a,r=>by
  cases r;obtain⟨its,rv,⟨o,ho,hc,n,hd⟩,_⟩:=I.tuple h;obtain⟨as,hr⟩:=P3.reads I a rv;exact⟨as,.tuple ho hc hd (by simpa using hr)⟩
 | _,_,_,.lst h a,r=>by
  cases r;obtain⟨its,rv,⟨o,n,ho,hc,_,hd⟩,_⟩:=I.list h;obtain⟨as,hr⟩:=P3.reads I a rv;exact⟨_,.list ho hc hd (by simpa using hr)⟩
theorem P3.reads(I:k8 X pins σ H s):∀{vs:List V} {ds:List PyData} {us:List Value},P3 X.K H vs ds->r8 vs us->∃as,ReadsAll s.heap us ds as
 | _,_,_,.nil,.nil=>⟨_,.nil⟩
 | _,_,_,.cons a r,.cons q t=>by
  obtain⟨as,h1⟩:=Is.reads I a q;obtain⟨bs,h2⟩:=P3.reads I r t;exact⟨_,.cons h1 h2⟩
end
def PU(K:aa):R2:=λx y H Q=>∃d d',Is K H x d/\Is K H y d'/\shaped d=true/\shaped d'=true/\noMix d d'=true/\Q (.bl (!PySem.Spec.same d d')) H
def Gu(hu:X.A.units+64 < cLine):CY X (compareOp .NotEq) (PU X.K):=by
 intro pins s σ H x y v u Q I rx ry h;obtain⟨d,d',hx,hy,sx,sy,nm,q⟩:=h;obtain⟨as,ra⟩:=hx.reads I rx;obtain⟨bs,rb⟩:=hy.reads I ry;exact ne_dataH_same ra rb sx sy hu nm ⟨.bl _,H,I,rfl,q⟩
end
def X4{i j:Int}{A B:Prop}(h1:i=j->A)(h2:¬i=j->B):if decide (V.int i=V.int j)=true then A else B:=by
 by_cases h:i=j
 . rw[if_pos (decide_eq_true (congrArg V.int h))];exact h1 h
 . rw[if_neg (by simpa using h)];exact h2 h
def Ro{i j:Int}{A B:Prop}(h1:¬i=j->A)(h2:i=j->B):if(!decide (V.int i=V.int j))=true then A else B:=by
 by_cases h:i=j
 . rw[if_neg (by simpa using h)];exact h2 h
 . rw[if_pos (by simpa using h)];exact h1 h
def Av{p A B:Prop} [Decidable p](h1:p->A)(h2:¬p->B):if decide p=true then A else B:=by
 by_cases h:p
 . rw[if_pos (decide_eq_true h)];exact h1 h
 . rw[if_neg (by simpa using h)];exact h2 h
def Au{c:Bool}{A B:Prop}(e:c=true)(h:A):if c=true then A else B:=by rw[if_pos e];exact h
def Ei{c:Bool}{A B:Prop}(e:c=false)(h:B):if c=true then A else B:=by rw[if_neg (by rw[e];decide)];exact h
def c7{H:Hp}{p:Addr}{o:HO}(h:H p=none):h8 H (upd H p o):=λb u e=>by
 rw[j6 (j0 e h)];exact e
end L2
namespace Mine
@[irreducible] def dv(a b:Int):Int:=(Int.gcd a b:Int)
def FJ(a b:Int):0<=dv a b:=by unfold dv;exact Int.natCast_nonneg _
def Lx(a b:Int):dv b (a.fmod b)=dv a b:=by
 unfold dv;have e:a.fmod b=a - a.fdiv b * b:=by rw[Int.fmod_def,aH]
 rw[e,Int.gcd_sub_mul_right_right,Int.gcd_comm]
def Hi(a:Int):dv a 0=(a.natAbs:Int):=by
 unfold dv;rw[Int.gcd_zero_right]
def TL(a b:Int):dv (a.natAbs:Int) (b.natAbs:Int)=dv a b:=by
 unfold dv Int.gcd;simp
def IP(a b:Int)(h:b≠0):(a.fmod b).natAbs < b.natAbs:=by
 rcases Int.lt_trichotomy b 0 with hb | hb | hb
 . have e:a.fmod b = -((-a).fmod (-b)):=by
    simp[Int.neg_fmod_neg]
   have h1:=br (-a) (show 0 < -b by omega);have h2:=bu (-a) (show 0 < -b by omega);omega
 . exact absurd hb h
 . have h1:=br a hb;have h2:=bu a hb;omega
def TN(h:dv g r=dv a b)(hr:0 < r):0<=r/\0<=g.fmod r/\dv r (g.fmod r)=dv a b:=
 ⟨oM,br g hr,by rw[Lx,h]⟩
def d_less{g r:Int}(hr:0 < r):(g.fmod r).toNat < r.toNat:=by
 have h1:=br g hr;have h2:=bu g hr;omega
def ZK(h:dv g r=dv a b)(g0:0<=g)(r0:0<=r)(hr:¬0 < r):g=dv a b:=by
 have e:r=0:=by omega
 rw[<- h,e,Hi];omega
def Td(h:dv x y=dv a b):dv y (x.fmod y)=dv a b:=by rw[Lx,h]
def Zu(h:dv x y=dv a b)(hy:y=0):(x.natAbs:Int)=dv a b:=by
 rw[<- h,hy,Hi]
def Lw(a b:Int):∃q,a=dv a b * q:=by
 obtain⟨q,hq⟩:=Int.gcd_dvd_left a b;exact⟨q,by unfold dv;exact hq⟩
def IS(a b:Int):∃q,b=dv a b * q:=by
 obtain⟨q,hq⟩:=Int.gcd_dvd_right a b;exact⟨q,by unfold dv;exact hq⟩
def Kv(h:dv a b=0):a=0/\b=0:=by
 obtain⟨q,hq⟩:=Lw a b;obtain⟨r,hr⟩:=IS a b;rw[h]at hq hr;exact⟨oM,oM⟩
def Es(h:b≠0):0 < dv a b:=by
 have:=FJ a b;rcases(by omega:dv a b=0\/0 < dv a b)with e | e
 . exact absurd (Kv e).2 h
 . exact e
def ZJ(a b:Int)(h:b≠0):dv a b<=(b.natAbs:Int):=by
 have:Int.gcd a b<=b.natAbs:=by
  unfold Int.gcd;exact Nat.gcd_le_right _ oM
 unfold dv;omega
def IQ{g q:Int}(hg:g≠0):(g * q).fdiv g=q:=Int.mul_fdiv_cancel_left q hg
@[irreducible] def sg(a b:Int):Int:=if b < 0 then -(dv a b)else dv a b
@[irreducible] def tp(a b:Int):Int:=a.fdiv (sg a b)
@[irreducible] def bt(a b:Int):Int:=b.fdiv (sg a b)
def Nk(h:¬b < 0):sg a b=dv a b:=by unfold sg;rw[if_neg h]
def Nl(h:b < 0):sg a b = -(dv a b):=by unfold sg;rw[if_pos h]
def KZ(h:b≠0):sg a b≠0:=by
 have:=Es (a:=a) h;unfold sg;split <;>omega
def Js{a b:Int}(h:b≠0):sg a b * tp a b=a:=by
 obtain⟨q,hq⟩:=Lw a b;have hs:=KZ (a:=a) h;have:∃k,a=sg a b * k:=by
  unfold sg;split
  . exact⟨-q,by rw[Int.neg_mul_neg];exact hq⟩
  . exact⟨q,hq⟩
 obtain⟨k,hk⟩:=this;have e:tp a b=k:=by
  unfold tp
  conv=>lhs;lhs;rw[hk]
  exact IQ hs
 rw[e];exact hk.symm
def Hn{a b:Int}(h:b≠0):sg a b * bt a b=b:=by
 obtain⟨q,hq⟩:=IS a b;have hs:=KZ (a:=a) h;have:∃k,b=sg a b * k:=by
  unfold sg;split
  . exact⟨-q,by rw[Int.neg_mul_neg];exact hq⟩
  . exact⟨q,hq⟩
 obtain⟨k,hk⟩:=this;have e:bt a b=k:=by
  unfold bt
  conv=>lhs;lhs;rw[hk]
  exact IQ hs
 rw[e];exact hk.symm
def BA(h:b≠0):0 < bt a b:=by
 have e:=Hn (a:=a) h;have g:=Es (a:=a) h;rcases(by omega:0 < bt a b\/bt a b<=0)with p | p
 . exact p
 . exfalso;by_cases hb:b < 0
   . rw[Nl hb,bX]at e;have:=Int.mul_nonpos_of_nonneg_of_nonpos (Int.le_of_lt g) p;omega
   . rw[Nk hb]at e;have:=Int.mul_nonpos_of_nonneg_of_nonpos (Int.le_of_lt g) p;omega
def LB(h:b≠0):tp a b * b=a * bt a b:=by
 have e1:=Js (a:=a) h;have e2:=Hn (a:=a) h
 calc tp a b * b=tp a b * (sg a b * bt a b):=by rw[e2]
  _=(sg a b * tp a b) * bt a b:=by rw[aH (sg a b) (tp a b),aB]
  _=a * bt a b:=by rw[e1]
def Ml(a b:Int):(sg a b).natAbs=Int.gcd a b:=by
 unfold sg dv;split <;>omega
def Mz(e1:s * t=a)(e2:s * u=b):Int.gcd a b=s.natAbs * Int.gcd t u:=by
 rw[<- e1,<- e2,Int.gcd_mul_left]
def Zq(h:b≠0):dv (tp a b) (bt a b)=1:=by
 have e:=Mz (Js (a:=a) h) (Hn (a:=a) h);rw[Ml]at e;have p:=Es (a:=a) h;have q:0 < Int.gcd a b:=by unfold dv at p;omega
 have:Int.gcd a b * Int.gcd (tp a b) (bt a b)=Int.gcd a b * 1:=by rw[<- e,Nat.mul_one]
 have:=Nat.eq_of_mul_eq_mul_left q this;unfold dv;rw[this];rfl
def Ky(hb:0 < b)(hd:0 < d)(h1:dv a b=1)(h2:dv c d=1)(e:a * d=c * b):a=c/\b=d:=by
 have g1:Nat.Coprime b.natAbs a.natAbs:=by
  have:Int.gcd a b=1:=by unfold dv at h1;omega
  unfold Int.gcd at this;exact Nat.Coprime.symm this
 have g2:Nat.Coprime d.natAbs c.natAbs:=by
  have:Int.gcd c d=1:=by unfold dv at h2;omega
  unfold Int.gcd at this;exact Nat.Coprime.symm this
 have en:a.natAbs * d.natAbs=c.natAbs * b.natAbs:=by rw[<- aZ,<- aZ,e]
 have d1:b.natAbs ∣ d.natAbs:=g1.dvd_of_dvd_mul_left ⟨c.natAbs,by rw[en,bO]⟩;have d2:d.natAbs ∣ b.natAbs:=g2.dvd_of_dvd_mul_left ⟨a.natAbs,by rw[<- en,bO]⟩;have eb:b.natAbs=d.natAbs:=Nat.dvd_antisymm d1 d2;have ebd:b=d:=by omega
 refine⟨?_,ebd⟩;rw[ebd]at e;exact aU oM e
def BD(h:b≠0)(hy:0 < y)(hl:dv x y=1)(e:a * y=x * b):tp a b=x/\bt a b=y:=by
 refine Ky (BA h) hy (Zq h) hl ?_;have c:=LB (a:=a) h;have:(tp a b * y) * b=(x * bt a b) * b:=by
  calc (tp a b * y) * b=(tp a b * b) * y:=by rw[aB,aH y b,<- aB]
   _=(a * bt a b) * y:=by rw[c]
   _=(a * y) * bt a b:=by rw[aB,aH (bt a b) y,<- aB]
   _=(x * b) * bt a b:=by rw[e]
   _=(x * bt a b) * b:=by rw[aB,aH b,<- aB]
 exact aU h this
def Am(a s:Int)(k:Int)(e:s * k=a)(hs:s≠0):k.natAbs<=a.natAbs:=by
 have:a.natAbs=s.natAbs * k.natAbs:=by rw[<- e,aZ]
 rw[this];exact Nat.le_mul_of_pos_left _ oM
def KQ(h:b≠0):(tp a b).natAbs<=a.natAbs:=Am a _ _ (Js h) (KZ h)
def LH(h:b≠0):(bt a b).natAbs<=b.natAbs:=Am b _ _ (Hn h) (KZ h)
def Be(hb:b≠0)(hd:d≠0)(e:a * d=c * b):tp a b=tp c d/\bt a b=bt c d:=by
 refine BD hb (BA hd) (Zq hd) ?_;have h:=LB (a:=c) hd;have:(a * bt c d) * d=(tp c d * b) * d:=by
  calc (a * bt c d) * d=(a * d) * bt c d:=by rw[aB,aH (bt c d) d,<- aB]
   _=(c * b) * bt c d:=by rw[e]
   _=(c * bt c d) * b:=by rw[aB,aH b,<- aB]
   _=(tp c d * d) * b:=by rw[h]
   _=(tp c d * b) * d:=by rw[aB,aH d b,<- aB]
 exact aU hd this
def GH(hy:0 < y)(hl:dv x y=1):tp x y=x/\bt x y=y:=BD oM hy hl rfl
def E4{a b:Int}(ha:a≠0)(hb:b≠0):a * b≠0:=bZ ha hb
def JI{a b c d e f T B T' B':Int}(hb:b≠0)(hd:d≠0)(hf:f≠0)(hB:B≠0)(hB':B'≠0)
    (h1:T * (b * d)=(a * d+c * b) * B) (h2:T' * (d * f)=(c * f+e * d) * B') :
    tp (T * f+e * B) (B * f)=tp (a * B'+T' * b) (b * B')/\bt (T * f+e * B) (B * f)=bt (a * B'+T' * b) (b * B'):=by
 refine Be (E4 hB hf) (E4 hb hB') ?_;have k:((T * f+e * B) * (b * B')) * ((b * d) * (d * f))=((a * B'+T' * b) * (B * f)) * ((b * d) * (d * f)):=by
  grind
 exact aU (E4 (E4 hb hd) (E4 hd hf)) k
def Hw{a b c d e f T B T' B':Int}(hb:b≠0)(hd:d≠0)(hf:f≠0)(hB:B≠0)(hB':B'≠0)
    (h1:T * (b * d)=(a * c) * B) (h2:T' * (d * f)=(c * e) * B') :
    tp (T * e) (B * f)=tp (a * T') (b * B')/\bt (T * e) (B * f)=bt (a * T') (b * B'):=by
 refine Be (E4 hB hf) (E4 hb hB') ?_;have k:((T * e) * (b * B')) * ((b * d) * (d * f))=((a * T') * (B * f)) * ((b * d) * (d * f)):=by
  grind
 exact aU (E4 (E4 hb hd) (E4 hd hf)) k
def distrib{a b c d e f T B P U R V:Int}(hb:b≠0)(hd:d≠0)(hf:f≠0)(hB:B≠0)(hU:U≠0)(hV:V≠0)
    (h1:T * (d * f)=(c * f+e * d) * B) (h2:P * (b * d)=(a * c) * U) (h3:R * (b * f)=(a * e) * V) :
    tp (a * T) (b * B)=tp (P * V+R * U) (U * V)/\bt (a * T) (b * B)=bt (P * V+R * U) (U * V):=by
 refine Be (E4 hb hB) (E4 hU hV) ?_;have k:((a * T) * (U * V)) * ((d * f) * ((b * d) * (b * f)))=((P * V+R * U) * (b * B)) * ((d * f) * ((b * d) * (b * f))):=by
  grind
 exact aU (E4 (E4 hd hf) (E4 (E4 hb hd) (E4 hb hf))) k
def CG:tp (a * d+c * b) (b * d)=tp (c * b+a * d) (d * b)/\bt (a * d+c * b) (b * d)=bt (c * b+a * d) (d * b):=by
 rw[Int.add_comm,aH b d];exact⟨rfl,rfl⟩
def Ba:tp (a * c) (b * d)=tp (c * a) (d * b)/\bt (a * c) (b * d)=bt (c * a) (d * b):=by
 rw[aH a c,aH b d];exact⟨rfl,rfl⟩
def FC(hb:0 < b)(hl:dv a b=1):tp (a * 1+0 * b) (b * 1)=a/\bt (a * 1+0 * b) (b * 1)=b:=by
 have e1:a * 1+0 * b=a:=by omega
 have e2:b * 1=b:=by omega
 rw[e1,e2];exact GH hb hl
def LO(hb:0 < b)(hl:dv a b=1):tp (0 * b+a * 1) (1 * b)=a/\bt (0 * b+a * 1) (1 * b)=b:=by
 have e1:0 * b+a * 1=a:=by omega
 have e2:1 * b=b:=by omega
 rw[e1,e2];exact GH hb hl
def Ft(hb:0 < b)(hl:dv a b=1):tp (a * 1) (b * 1)=a/\bt (a * 1) (b * 1)=b:=by
 rw[bN,bN];exact GH hb hl
def TM:dv 0 1=1:=by unfold dv;decide
def dv11:dv 1 1=1:=by unfold dv;decide
def DI(hb:0 < b):tp (a * 0) (b * 1)=0/\bt (a * 0) (b * 1)=1:=
 BD oM oM TM oM
def DQ{a b:Int}(hb:0 < b):tp (a * b+-a * b) (b * b)=0/\bt (a * b+-a * b) (b * b)=1:=by
 refine BD (E4 oM oM) oM TM ?_;rw[bX];omega
def TK(a b:Int):dv (-a) b=dv a b:=by unfold dv;rw[Int.neg_gcd]
def QM(a b:Int):dv a b=dv b a:=by unfold dv;rw[Int.gcd_comm]
def Fu{a b:Int}(ha:a≠0)(hb:b≠0):tp (a * tp b a) (b * bt b a)=1/\bt (a * tp b a) (b * bt b a)=1:=by
 refine BD (E4 hb (cB (BA ha))) oM (by unfold dv;decide) ?_;have:=LB (a:=b) ha
 grind
open PySem
@[irreducible] def num(c:Int):Int:=if c.fmod 3=0 then(c.fdiv 3).fmod 19 - 9 else if c.fmod 3=1 then(c.fdiv 3).fmod 2000003 - 1000001 else(c.fdiv 3).fmod 1999999999999999999999999999999 - 999999999999999999999999999999
def MM(a b:Int):dv (if a < 0 then -a else a) (if b < 0 then -b else b)=dv a b:=by
 have e:∀x:Int,(if x < 0 then -x else x)=(x.natAbs:Int):=λx=>by split <;>omega
 rw[e,e,TL]
def RP(a b:Int):0<=(if a < 0 then -a else a)/\0<=(if b < 0 then -b else b)/\dv (if a < 0 then -a else a) (if b < 0 then -b else b)=dv a b:=
 ⟨by split <;>omega,by split <;>omega,MM a b⟩
def out2(h:dv x y=dv a b)(hy:y=0):(if x < 0 then -x else x)=dv a b:=by
 rw[<- Zu h hy];split <;>omega
structure S1(x:Int):Prop where
 lo:-10000000000000000000000000000000<=x
 hi:x<=10000000000000000000000000000000
structure S2(x:Int):Prop where
 lo:-1000000000000000000000000000000000000000000000000000000000000000<=x
 hi:x<=1000000000000000000000000000000000000000000000000000000000000000
structure Po(x:Int):Prop where
 lo:0 < x
def S1.zero:S1 0:=⟨by decide,by decide⟩
def S1.one:S1 1:=⟨by decide,by decide⟩
def Po.one:Po 1:=⟨by decide⟩
def S2.lt(h:S2 y):y.natAbs < 2 ^ 210:=by
 have:(2:Nat) ^ 210 > 1000000000000000000000000000000000000000000000000000000000000000:=by decide
 have:=h.lo;have:=h.hi;omega
def Po.ne(h:Po x):x≠0:=by have:=h.lo;omega
theorem S1.tp(h:S1 a)(p:Po b):S1 (tp a b):=by
 have l:=KQ (a:=a) p.ne;have:=h.lo;have:=h.hi;exact⟨oM,oM⟩
theorem S2.tp(h:S2 a)(p:Po b):S2 (tp a b):=by
 have l:=KQ (a:=a) p.ne;have:=h.lo;have:=h.hi;exact⟨oM,oM⟩
theorem S1.bt(h:S1 b)(p:Po b):S1 (bt a b):=by
 have l:=LH (a:=a) p.ne;have:=h.lo;have:=h.hi;exact⟨oM,oM⟩
theorem S2.bt(h:S2 b)(p:Po b):S2 (bt a b):=by
 have l:=LH (a:=a) p.ne;have:=h.lo;have:=h.hi;exact⟨oM,oM⟩
theorem Po.bt(p:Po b):Po (bt a b):=⟨BA p.ne⟩
theorem S2.dv(h:S2 b)(p:Po b):S2 (dv a b):=by
 have:=ZJ a b p.ne;have:=FJ a b;have:=h.lo;have:=h.hi;exact⟨oM,oM⟩
structure Low(a b:Int):Prop where
 one:dv a b=1
def zl(p:Po b)(l:Low a b):tp (0 * b+a * 1) (1 * b)=a/\bt (0 * b+a * 1) (1 * b)=b:=LO p.lo l.one
def cp(_:Low (tp (c * b+a * d) (d * b)) (bt (c * b+a * d) (d * b))):tp (a * d+c * b) (b * d)=tp (c * b+a * d) (d * b)/\bt (a * d+c * b) (b * d)=bt (c * b+a * d) (d * b):=CG
def ct(_:Low (tp (c * a) (d * b)) (bt (c * a) (d * b))):tp (a * c) (b * d)=tp (c * a) (d * b)/\bt (a * c) (b * d)=bt (c * a) (d * b):=Ba
def Pr(p:Nat):Prop:=2<=p/\∀d,2<=d->d * d<=p->¬p % d=0
def Pr.div(h:Pr p)(hd:d ∣ p):d=1\/d=p:=by
 obtain⟨k,hk⟩:=hd;have p2:=h.1;rcases(by omega:d=0\/d=1\/2<=d)with e | e | e
 . rw[e,Nat.zero_mul]at hk;omega
 . exact .inl e
 . rcases(by omega:k=0\/k=1\/2<=k)with f | f | f
   . rw[f,Nat.mul_zero]at hk;omega
   . rw[f,Nat.mul_one]at hk;exact .inr hk.symm
   . exfalso;rcases Nat.le_total d k with g | g
     . have:d * d<=p:=by rw[hk];exact aV d g
       exact h.2 d e this (by rw[hk];exact Nat.mul_mod_right d k)
     . have:k * k<=p:=by rw[hk];exact ba k g
       exact h.2 k f this (by rw[hk];exact Nat.mul_mod_left d k)
def Pr.cop(h:Pr p)(ha:¬p ∣ a):Nat.Coprime p a:=by
 have d1:=Nat.gcd_dvd_left p a;have d2:=Nat.gcd_dvd_right p a;rcases h.div d1 with e | e
 . exact e
 . rw[e]at d2;exact absurd d2 ha
def Pr.mul(h:Pr p)(hd:p ∣ a * b):p ∣ a\/p ∣ b:=by
 by_cases c:p ∣ a
 . exact .inl c
 . exact .inr ((h.cop c).dvd_of_dvd_mul_left hd)
def KW(h0:0 < a)(h1:a < p):¬p ∣ a:=λh=>by
 have:=cf h0 h;omega
theorem Tr:∀(n:Nat) (l:List Nat),l.Nodup->(∀a∈l,a < n)->l.length<=n
 | 0,l,_,h=>by
  cases l with
  | nil=>exact ae 0
  | cons a r=>exact absurd (h a (aq ..)) oM
 | n+1,l,nd,h=>by
  by_cases c:n∈l
  . have e:=List.length_erase_of_mem c;have:=Tr n (l.erase n) (nd.erase n) (λa ha=>by
     have m:=(List.Nodup.mem_erase_iff nd).mp ha;have:=h a m.2;have:=m.1;omega)
    omega
  . have:=Tr n l nd (λa ha=>by
     have:=h a ha;have:a≠n:=λe=>c (e▸ha);omega)
    omega
theorem Vz:∀(n:Nat) (l:List Nat),l.Nodup->(∀a∈l,a < n)->l.length=n->l.Perm (List.range n)
 | 0,l,_,_,e=>by
  have:l=[]:=bA.mp e;rw[this];exact List.Perm.refl _
 | n+1,l,nd,h,e=>by
  by_cases c:n∈l
  . have e':=List.length_erase_of_mem c;have i:=Vz n (l.erase n) (nd.erase n) (λa ha=>by
     have m:=(List.Nodup.mem_erase_iff nd).mp ha;have:=h a m.2;have:=m.1;omega) oM
    have q:=List.perm_cons_erase c;refine q.trans ?_;rw[List.range_succ];exact(i.cons n).trans (List.perm_append_singleton n (List.range n)).symm
  . have:=Tr n l nd (λa ha=>by
     have:=h a ha;have:a≠n:=λe=>c (e▸ha);omega)
    omega
def pd:List Nat->Nat
 | []=>1
 | a::r=>a * pd r
def Qb(h:l.Perm m):pd l=pd m:=by
 induction h with
 | nil=>rfl
 | cons a _ ih=>show a * _=a * _;rw[ih]
 | swap a b l=>show b * (a * _)=a * (b * _);rw[<- bB,<- bB,bO b a]
 | trans _ _ i j=>exact i.trans j
theorem NJ(h:Pr p):∀(l:List Nat),(∀a∈l,¬p ∣ a)->¬p ∣ pd l
 | [],_=>λd=>by
  have:=cf (by decide) d;have:=h.1;have e:pd []=1:=rfl;omega
 | a::r,g=>λd=>by
  rcases h.mul d with e | e
  . exact g a (aq ..) e
  . exact NJ h r (λb hb=>g b (ay _ hb)) e
theorem NI(p x:Nat):∀(l:List Nat),pd (l.map λi=>x * i % p) % p=x ^ l.length * pd l % p
 | []=>by simp[pd]
 | a::r=>by
  have ih:=NI p x r;show(x * a % p) * pd (r.map λi=>x * i % p) % p=x ^ (r.length+1) * (a * pd r) % p;rw[Nat.mul_mod,Nat.mod_mod,ih,<- Nat.mul_mod,cg];congr 1
  grind
def Tu(h:Pr p)(hx:¬p ∣ x):x ^ (p - 1) % p=1:=by
 have p2:=h.1
 let f:Nat->Nat:=λi=>x * (i+1) % p - 1
 have pos:∀i,i < p - 1->0 < x * (i+1) % p:=λi hi=>by
  rcases Nat.eq_zero_or_pos (x * (i+1) % p)with e | e
  . rcases h.mul (dm e)with d | d
    . exact absurd d hx
    . exact absurd d (KW oM oM)
  . exact e
 have lt:∀i,x * (i+1) % p < p:=λi=>Nat.mod_lt _ oM;have inj:∀i j,i < p - 1->j < p - 1->i < j->x * (i+1) % p≠x * (j+1) % p:=λi j hi hj ij e=>by
  have d:p ∣ x * (j+1) - x * (i+1):=by
   apply dm;exact Nat.sub_mod_eq_zero_of_mod_eq e.symm
  rw[<- Nat.mul_sub]at d;rcases h.mul d with d | d
  . exact hx d
  . exact KW oM oM d
 have nd:((List.range (p - 1)).map f).Nodup:=by
  rw[List.nodup_iff_pairwise_ne,bQ];refine List.Pairwise.imp_of_mem ?_ (List.pairwise_lt_range (n:=p - 1));intro a b ha hb ab e;have ha:=aX.mp ha;have hb:=aX.mp hb;have e:x * (a+1) % p - 1=x * (b+1) % p - 1:=e;have:=pos a ha;have:=pos b hb;exact inj a b ha hb ab oM
 have pm:=Vz (p - 1) ((List.range (p - 1)).map f) nd (λa ha=>by
  obtain⟨i,hi,e⟩:=aE.mp ha;have:=pos i (aX.mp hi);have:=lt i;have e:x * (i+1) % p - 1=a:=e;omega) (by simp)
 have pm2:=Qb (pm.map (·+1));have same:((List.range (p - 1)).map f).map (·+1)=((List.range (p - 1)).map (·+1)).map (λi=>x * i % p):=by
  rw[cj,cj];refine List.map_congr_left λi hi=>?_;have:=pos i (aX.mp hi);show x * (i+1) % p - 1+1=x * (i+1) % p;omega
 rw[same]at pm2;have q:=NI p x ((List.range (p - 1)).map (·+1));rw[pm2,aj,cD]at q;generalize hF:pd ((List.range (p - 1)).map (·+1))=F at q;have cF:¬p ∣ F:=by
  rw[<- hF];refine NJ h _ λa ha=>?_;obtain⟨i,hi,e⟩:=aE.mp ha;have:=aX.mp hi;exact KW oM oM
 have d:p ∣ (x ^ (p - 1) - 1) * F:=by
  apply dm;rw[Nat.sub_mul,Nat.one_mul];exact Nat.sub_mod_eq_zero_of_mod_eq q.symm
 have xp:0 < x ^ (p - 1):=Nat.pow_pos (by
  rcases Nat.eq_zero_or_pos x with e | e
  . exact absurd (e▸Nat.dvd_zero p) hx
  . exact e)
 rcases h.mul d with d | d
 . obtain⟨k,hk⟩:=d;have e:x ^ (p - 1)=1+p * k:=by omega
   rw[e,Nat.add_mul_mod_self_left];exact Nat.mod_eq_of_lt oM
 . exact absurd d cF
def fe{a p:Int}(hp:0 < p):a.fmod p=a % p:=dq a (Int.le_of_lt hp)
def em1(a b p:Int):(a % p * b) % p=(a * b) % p:=by rw[Int.mul_emod,Int.emod_emod_of_dvd a (Int.dvd_refl p),<- Int.mul_emod]
def OU(a b p:Int):(a * (b % p)) % p=(a * b) % p:=by rw[aH,em1,aH]
def JG{a p:Int}(hp:0 < p):0<=a.fmod p/\a.fmod p < p:=⟨br a hp,bu a hp⟩
def r_pa{x y z p:Int}(hp:0 < p):((x+y).fmod p+z).fmod p=(x+(y+z).fmod p).fmod p:=by
 simp only[fe hp,Int.emod_add_emod,Int.add_emod_emod,Int.add_assoc]
def r_ta{x y z p:Int}(hp:0 < p):((x * y).fmod p * z).fmod p=(x * (y * z).fmod p).fmod p:=by
 simp only[fe hp,em1,OU,aB]
def r_d{x y z p:Int}(hp:0 < p):(x * (y+z).fmod p).fmod p=((x * y).fmod p+(x * z).fmod p).fmod p:=by
 simp only[fe hp,OU,Int.emod_add_emod,Int.add_emod_emod,Int.mul_add]
def CF{x p:Int}(h0:0<=x)(h1:x < p):x.fmod p=x:=by
 rw[fe oM];exact Int.emod_eq_of_lt h0 h1
def r_pm{x p:Int}(hp:0 < p):(x+(-x).fmod p).fmod p=0:=by
 simp only[fe hp,Int.add_emod_emod];rw[Int.add_right_neg];exact Int.zero_emod p
def ri(p x:Int):Int:=(x ^ (p.toNat - 2)) % p
def Su(x:Int)(h:0<=x)(k:Nat):x ^ k=((x.toNat ^ k:Nat):Int):=by
 have:(x.toNat:Int)=x:=ck h;rw[Int.natCast_pow,this]
def Rh(hp:0 < p):0<=ri p x/\ri p x < p:=⟨Int.emod_nonneg _ oM,Int.emod_lt_of_pos _ hp⟩
def Sm(h:Pr p.toNat)(h0:0 < x)(h1:x < p):(x * ri p x).fmod p=1:=by
 have p2:=h.1;have hp:0 < p:=by omega
 rw[fe hp];unfold ri;rw[OU];have e:x * x ^ (p.toNat - 2)=x ^ (p.toNat - 1):=by
  have:p.toNat - 1=(p.toNat - 2)+1:=by omega
  rw[this,bC,aH]
 rw[e,Su x oM];have f:=Tu h (KW (p:=p.toNat) (a:=x.toNat) oM oM);have:((x.toNat ^ (p.toNat - 1) % p.toNat:Nat):Int)=((1:Nat):Int):=by rw[f]
 rw[Int.natCast_emod,ck oM]at this;exact this
def Jf(p x:Int)(left product square:Int):Prop:=(product * square ^ left.toNat) % p=(x ^ (p.toNat - 2)) % p/\(0<=product/\product < p)
def Nw(h:2<=p):Jf p x (p - 2) 1 x:=by
 refine⟨?_,oM,oM⟩;have:(p - 2).toNat=p.toNat - 2:=by omega
 rw[this,Int.one_mul]
def Rj(a p:Int)(k:Nat):((a % p) ^ k) % p=(a ^ k) % p:=by
 induction k with
 | zero=>rw[cE,cE]
 | succ k ih=>rw[bC,bC,OU,aH,<- OU,ih,OU,aH]
def Sn{p x l a s:Int}(hp:0 < p)(h:Jf p x l a s)(h0:0 < l)(o:l % 2=1):Jf p x (l.fdiv 2) ((a * s).fmod p) ((s * s).fmod p):=by
 have hl:l.toNat=2 * (l.fdiv 2).toNat+1:=by
  rw[du l (by decide)];omega
 refine⟨?_,JG hp⟩;rw[<- h.1,hl,fe hp,fe hp,em1];generalize (l.fdiv 2).toNat=k;have e:(a * s) * ((s * s) % p) ^ k % p=(a * s) * (s * s) ^ k % p:=by
  rw[<- OU,Rj,OU]
 rw[e,bC,Int.pow_mul];have:s ^ 2=s * s:=by rw[bC,bC,cE,Int.one_mul]
 rw[this];congr 1
 grind
def PR(hp:0 < p)(h:Jf p x l a s)(h0:0 < l)(o:l % 2≠1):Jf p x (l.fdiv 2) a ((s * s).fmod p):=by
 have hl:l.toNat=2 * (l.fdiv 2).toNat:=by
  rw[du l (by decide)];omega
 refine⟨?_,h.2⟩;rw[<- h.1,hl,fe hp];generalize (l.fdiv 2).toNat=k;rw[<- OU,Rj,OU,Int.pow_mul];have:s ^ 2=s * s:=by rw[bC,bC,cE,Int.one_mul]
 rw[this]
def Sl(h:Jf p x l a s)(h0:¬0 < l):a=ri p x:=by
 have:l.toNat=0:=by omega
 have e:=h.1;rw[this,cE,bN,Int.emod_eq_of_lt h.2.1 h.2.2]at e;exact e
def PI(n:Int):Prop:=2<=n/\∀d:Int,2<=d->d * d<=n->¬n.fmod d=0
def PI.nat{n:Int}(h:PI n):Pr n.toNat:=by
 refine⟨by have:=h.1;omega,λd hd hdd e=>?_⟩;have n2:=h.1;have hn:(n.toNat:Int)=n:=ck oM;refine h.2 (d:Int) oM ?_ ?_
 . have:((d * d:Nat):Int)<=(n.toNat:Int):=by omega
   rw[hn]at this;rw[<- Int.natCast_mul];exact this
 . rw[fe oM,<- hn,<- Int.natCast_emod,e];rfl
noncomputable def Hs(n:Int):Bool:=@decide (PI n) (Classical.propDecidable _)
def IJ(h:Hs n=true):PI n:=@of_decide_eq_true _ (Classical.propDecidable _) h
def To(h:PI n):Hs n=true:=@decide_eq_true _ (Classical.propDecidable _) h
def UG{d f n:Int}(hd:2<=d)(hf:2<=f)(h:d * d<=n)(g:¬f * f<=n):d < f:=by
 rcases Int.lt_or_le d f with e | e
 . exact e
 . have:f * f<=d * d:=Int.mul_le_mul e e oM oM;omega
def UH{f n:Int}(hf:2<=f)(h:f * f<=n):f+1<=n:=by
 have:2 * f<=f * f:=Int.mul_le_mul_of_nonneg_right hf oM;omega
def P9(n k:Nat)(h2:2<=n)(hk:n < k * k)(h:(List.range k).all (λd=>d < 2 || n % d != 0)=true):Hs (n:Int)=true:=by
 refine To ⟨oM,λd hd hdd e=>?_⟩;have hk2:¬(k:Int) * (k:Int)<=(n:Int):=by
  have:((n:Nat):Int) < ((k * k:Nat):Int):=by omega
  rw[Int.natCast_mul]at this;omega
 have kk:2<=(k:Int):=by
  rcases(by omega:k=0\/k=1\/2<=k)with c | c | c
  . subst c;omega
  . subst c;omega
  . omega
 have lt:=UG hd kk hdd hk2;have dn:(d.toNat:Int)=d:=ck oM;have:=List.all_eq_true.mp h d.toNat (aX.mpr oM);rw[<- dn,fe oM,<- Int.natCast_emod]at e;have e':n % d.toNat=0:=by omega
 simp[e']at this;omega
def Qe:Hs 999983=true:=P9 999983 1000 (by decide) (by decide) dK
def SB:Hs 65537=true:=P9 65537 257 (by decide) (by decide) dK
def p2:Hs 2=true:=P9 2 2 (by decide) (by decide) dK
def p3:Hs 3=true:=P9 3 2 (by decide) (by decide) dK
def p5:Hs 5=true:=P9 5 3 (by decide) (by decide) dK
def p7:Hs 7=true:=P9 7 3 (by decide) (by decide) dK
def p11:Hs 11=true:=P9 11 4 (by decide) (by decide) dK
def p13:Hs 13=true:=P9 13 4 (by decide) (by decide) dK
def p101:Hs 101=true:=P9 101 11 (by decide) (by decide) dK
end Mine
namespace Mine
open PySem PySem.SeqAt
set_option genInjectivity false in
set_option genSizeOfSpec false in
structure SR where
 W:Type
 add:W->W->W
 mul:W->W->W
 zero:W
 one:W
 add_comm:∀x y,add x y=add y x
 add_assoc:∀x y z,add (add x y) z=add x (add y z)
 mul_comm:∀x y,mul x y=mul y x
 mul_assoc:∀x y z,mul (mul x y) z=mul x (mul y z)
 distrib:∀x y z,mul x (add y z)=add (mul x y) (mul x z)
 add_zero:∀x,add x zero=x
 mul_one:∀x,mul x one=x
 mul_zero:∀x,mul x zero=zero
 zo:zero≠one
 sz:Nat->W->Prop
 sz_mono:∀m n x,m<=n->sz m x->sz n x
 sz_add:∀m n x y,sz m x->sz n y->sz (m+n+1) (add x y)
 sz_mul:∀m n x y,sz m x->sz n y->sz (m+n) (mul x y)
 sz_zero:sz 0 zero
 sz_one:sz 0 one
 lv:Nat->Nat->W->Prop
 lv_mono:∀k c c' x,c<=c'->lv k c x->lv k c' x
 lv_add:∀k c c' x y,lv k c x->lv k c' y->lv k (c+c') (add x y)
 lv_mul:∀j k x y,lv j 32 x->lv k 32 y->lv (j+k) 1 (mul x y)
 lv_zero:∀k,lv k 0 zero
 lv_one:lv 1 1 one
 lv_up:∀k c x,lv k c x->lv (k+1) c x
 lv_sz:∀k c x,c<=1024->lv k c x->sz (100 * k) x
 data:W->PyData
 sh:∀x,shaped (data x)=true
 nm:∀x y,noMix (data x) (data y)=true
 eq:∀x,PySem.Spec.same (data x) (data x)=true
 ne:∀x y,x≠y->PySem.Spec.same (data x) (data y)=false
structure Fr where
 t:Int
 b:Int
 p:0 < b
 l:dv t b=1
def Fr.eq_of{x y:Fr}(h1:x.t=y.t)(h2:x.b=y.b):x=y:=by
 cases x;cases y;cases h1;cases h2;rfl
def Fr.nb(x:Fr):x.b≠0:=by have:=x.p;omega
def Fr.of(a b:Int)(h:0 < b):Fr:=⟨tp a b,bt a b,BA oM,Zq oM⟩
def Fr.of_cross(a b:Int)(h:0 < b):(Fr.of a b h).t * b=a * (Fr.of a b h).b:=LB oM
def Fr.add(x y:Fr):Fr:=Fr.of (x.t * y.b+y.t * x.b) (x.b * y.b) (aF x.p y.p)
def Fr.mul(x y:Fr):Fr:=Fr.of (x.t * y.t) (x.b * y.b) (aF x.p y.p)
def Fr.zero:Fr:=⟨0,1,by decide,TM⟩
def Fr.one:Fr:=⟨1,1,by decide,dv11⟩
def Fr.sz(n:Nat)(x:Fr):Prop:=x.t.natAbs<=2 ^ n/\x.b.natAbs<=2 ^ n
def Sv(m n:Nat):(2:Nat) ^ (m+n)=2 ^ m * 2 ^ n:=aW 2 m n
def Ee{a b:Int}{m n:Nat}(h1:a.natAbs<=2 ^ m)(h2:b.natAbs<=2 ^ n):(a * b).natAbs<=2 ^ (m+n):=by
 rw[aZ,Sv];exact bj h1 h2
def RO{a b c d:Int}{m n:Nat}(h1:a.natAbs<=2 ^ m)(h2:b.natAbs<=2 ^ n)(h3:c.natAbs<=2 ^ n)(h4:d.natAbs<=2 ^ m):(a * b+c * d).natAbs<=2 ^ (m+n+1):=by
 have k1:=Ee h1 h2;have k2:=Ee h3 h4;rw[Nat.add_comm n m]at k2;have k3:(a * b+c * d).natAbs<=(a * b).natAbs+(c * d).natAbs:=Int.natAbs_add_le _ _;have k4:(2:Nat) ^ (m+n+1)=2 ^ (m+n) * 2:=cg ..;omega
def NO(h1:a.natAbs<=2 ^ m)(h2:b.natAbs<=2 ^ m):(Fr.of a b h).sz m:=
 ⟨af (KQ oM) h1,af (LH oM) h2⟩
def Ny(h:m<=n):(2:Nat) ^ m<=2 ^ n:=cG (by decide) h
def Fr.lv(k c:Nat)(x:Fr):Prop:=∃a:Int,x.t * 12 ^ k=a * x.b/\1024 * a.natAbs<=c * 2 ^ (100 * k)
def Fr.lv_add(h:x.lv k c)(h':y.lv k c'):(Fr.add x y).lv k (c+c'):=by
 obtain⟨a,e,b⟩:=h;obtain⟨a',e',b'⟩:=h';refine⟨a+a',?_,?_⟩
 . have hc:=Fr.of_cross (x.t * y.b+y.t * x.b) (x.b * y.b) (aF x.p y.p);have hn:x.b * y.b≠0:=bZ x.nb y.nb;refine aU hn ?_;show(Fr.add x y).t * 12 ^ k * (x.b * y.b)=(a+a') * (Fr.add x y).b * (x.b * y.b);have hc:(Fr.add x y).t * (x.b * y.b)=(x.t * y.b+y.t * x.b) * (Fr.add x y).b:=hc;have e1:(Fr.add x y).t * 12 ^ k * (x.b * y.b)=((Fr.add x y).t * (x.b * y.b)) * 12 ^ k:=by rw[aI]
   rw[e1,hc];have e2:(x.t * y.b+y.t * x.b) * (Fr.add x y).b * 12 ^ k=((x.t * 12 ^ k) * y.b+(y.t * 12 ^ k) * x.b) * (Fr.add x y).b:=by
    rw[aI,Int.add_mul,aI x.t,aI y.t]
   rw[e2,e,e'];have e3:a * x.b * y.b+a' * y.b * x.b=(a+a') * (x.b * y.b):=by
    rw[Int.add_mul,aB,aB a',aH y.b x.b]
   rw[e3,aI]
 . have:=Int.natAbs_add_le a a';rw[Nat.add_mul];omega
def Fr.lv_mul(h:x.lv j 32)(h':y.lv k 32):(Fr.mul x y).lv (j+k) 1:=by
 obtain⟨a,e,b⟩:=h;obtain⟨a',e',b'⟩:=h';refine⟨a * a',?_,?_⟩
 . have hc:(Fr.mul x y).t * (x.b * y.b)=(x.t * y.t) * (Fr.mul x y).b:=Fr.of_cross (x.t * y.t) (x.b * y.b) (aF x.p y.p);have hn:x.b * y.b≠0:=bZ x.nb y.nb;refine aU hn ?_;rw[aI,hc,Int.pow_add];have e2:x.t * y.t * (Fr.mul x y).b * (12 ^ j * 12 ^ k)=(x.t * 12 ^ j) * (y.t * 12 ^ k) * (Fr.mul x y).b:=by
    rw[aI];congr 1;rw[aB,aB,Int.mul_left_comm y.t]
   rw[e2,e,e'];have e3:a * x.b * (a' * y.b)=a * a' * (x.b * y.b):=by
    rw[aB,aB,Int.mul_left_comm x.b]
   rw[e3,aI]
 . rw[aZ,Nat.mul_add,aW];have h1:=bj b b';have e1:1024 * a.natAbs * (1024 * a'.natAbs)=1024 * (1024 * (a.natAbs * a'.natAbs)):=by
    rw[bB,Nat.mul_left_comm a.natAbs]
   have e2:32 * 2 ^ (100 * j) * (32 * 2 ^ (100 * k))=1024 * (2 ^ (100 * j) * 2 ^ (100 * k)):=by
    rw[bB,Nat.mul_left_comm (2 ^ (100 * j)),<- bB]
   rw[e1,e2]at h1;have:=Nat.le_of_mul_le_mul_left h1 (by decide);omega
def Fr.lv_up{k c:Nat}{x:Fr}(h:x.lv k c):x.lv (k+1) c:=by
 obtain⟨a,e,b⟩:=h;refine⟨a * 12,?_,?_⟩
 . rw[bC,<- aB,e,aI]
 . rw[aZ,show 100 * (k+1)=100 * k+100 from by omega,aW];have h1:(1024 * a.natAbs) * 12<=(c * 2 ^ (100 * k)) * 2 ^ 100:=bj b (by decide);have e1:1024 * (a.natAbs * (12:Int).natAbs)=(1024 * a.natAbs) * 12:=by rw[bB];rfl
   rw[e1,<- bB];exact h1
def Fr.lv_sz{k c:Nat}{x:Fr}(hc:c<=1024)(h:x.lv k c):x.sz (100 * k):=by
 obtain⟨a,e,b⟩:=h;have cop:Nat.Coprime x.t.natAbs x.b.natAbs:=by
  have l:=x.l;unfold dv at l;have:Int.gcd x.t x.b=1:=by omega
  exact this
 have e':x.t.natAbs * 12 ^ k=a.natAbs * x.b.natAbs:=by
  have:=congrArg Int.natAbs e;rw[aZ,aZ,Int.natAbs_pow]at this;exact this
 have hb:a.natAbs<=2 ^ (100 * k):=by
  have h1:1024 * a.natAbs<=1024 * 2 ^ (100 * k):=af b (ba _ hc);exact Nat.le_of_mul_le_mul_left h1 (by decide)
 have p12:(12:Nat) ^ k<=2 ^ (100 * k):=by
  rw[Nat.pow_mul];exact Nat.pow_le_pow_left (by decide) k
 constructor
 . have d:x.t.natAbs ∣ a.natAbs:=cop.dvd_of_dvd_mul_right ⟨12 ^ k,e'.symm⟩;by_cases z:a.natAbs=0
   . have:x.t.natAbs * 12 ^ k=0:=by rw[e',z,Nat.zero_mul]
     have:x.t.natAbs=0:=by
      rcases Nat.mul_eq_zero.mp this with h | h
      . exact h
      . exact absurd h (bq (Nat.pow_pos (by decide)))
     omega
   . exact af (cf oM d) hb
 . have d:x.b.natAbs ∣ 12 ^ k:=cop.symm.dvd_of_dvd_mul_left ⟨a.natAbs,by rw[e',bO]⟩;exact af (cf (Nat.pow_pos (by decide)) d) p12
def Hg:SR where
 W:=Fr
 add:=Fr.add
 mul:=Fr.mul
 zero:=Fr.zero
 one:=Fr.one
 add_comm x y:=Fr.eq_of CG.1 CG.2
 add_assoc x y z:=
  have h:=JI (f:=z.b) (e:=z.t) x.nb y.nb z.nb (Fr.add x y).nb (Fr.add y z).nb (Fr.of_cross _ _ (aF x.p y.p)) (Fr.of_cross _ _ (aF y.p z.p))
  Fr.eq_of h.1 h.2
 mul_comm x y:=Fr.eq_of Ba.1 Ba.2
 mul_assoc x y z:=
  have h:=Hw (f:=z.b) (e:=z.t) x.nb y.nb z.nb (Fr.mul x y).nb (Fr.mul y z).nb (Fr.of_cross _ _ (aF x.p y.p)) (Fr.of_cross _ _ (aF y.p z.p))
  Fr.eq_of h.1 h.2
 distrib x y z:=
  have h:=distrib (a:=x.t) (f:=z.b) (e:=z.t) x.nb y.nb z.nb (Fr.add y z).nb (Fr.mul x y).nb (Fr.mul x z).nb (Fr.of_cross _ _ (aF y.p z.p)) (Fr.of_cross _ _ (aF x.p y.p)) (Fr.of_cross _ _ (aF x.p z.p))
  Fr.eq_of h.1 h.2
 add_zero x:=Fr.eq_of (FC x.p x.l).1 (FC x.p x.l).2
 mul_one x:=Fr.eq_of (Ft x.p x.l).1 (Ft x.p x.l).2
 mul_zero x:=Fr.eq_of (DI x.p).1 (DI x.p).2
 zo h:=by have:(0:Int)=1:=congrArg Fr.t h;omega
 sz:=Fr.sz
 sz_mono m n x h s:=⟨af s.1 (Ny h),af s.2 (Ny h)⟩
 sz_add m n x y h1 h2:=NO (RO h1.1 h2.2 h2.1 h1.2) (af (Ee h1.2 h2.2) (Ny (Nat.le_succ _)))
 sz_mul m n x y h1 h2:=NO (Ee h1.1 h2.1) (Ee h1.2 h2.2)
 sz_zero:=⟨by decide,by decide⟩
 sz_one:=⟨by decide,by decide⟩
 lv:=Fr.lv
 lv_mono k c c' x h:=λ⟨a,e,b⟩=>⟨a,e,af b (ba _ h)⟩
 lv_add _ _ _ _ _ h h':=Fr.lv_add h h'
 lv_mul _ _ _ _ h h':=Fr.lv_mul h h'
 lv_zero k:=⟨0,by show(0:Int) * 12 ^ k=0 * 1;rw[Int.zero_mul,Int.zero_mul],by show 1024 * 0<=_;omega⟩
 lv_one:=⟨12,by decide,by decide⟩
 lv_up _ _ _ h:=Fr.lv_up h
 lv_sz _ _ _ hc h:=Fr.lv_sz hc h
 data x:=.tuple [.int x.t,.int x.b]
 sh x:=rfl
 nm x y:=by simp[noMix,noMixAll]
 eq x:=by simp[PySem.Spec.same,PySem.Spec.sameAll]
 ne x y h:=by
  simp[PySem.Spec.same,PySem.Spec.sameAll];intro h1 h2;exact h (Fr.eq_of h1 h2)
structure Re(p:Int)where
 x:Int
 h0:0<=x
 h1:x < p
def Re.eq_of{p:Int}{a b:Re p}(h:a.x=b.x):a=b:=by cases a;cases b;cases h;rfl
def Re.of(p:Int)(hp:0 < p)(x:Int):Re p:=⟨x.fmod p,(JG hp).1,(JG hp).2⟩
def U3(p:Int)(hp:2<=p):SR where
 W:=Re p
 add a b:=Re.of p oM (a.x+b.x)
 mul a b:=Re.of p oM (a.x * b.x)
 zero:=⟨0,oM,oM⟩
 one:=⟨1,oM,oM⟩
 add_comm a b:=Re.eq_of (by show(a.x+b.x).fmod p=(b.x+a.x).fmod p;rw[Int.add_comm])
 add_assoc a b c:=Re.eq_of (r_pa oM)
 mul_comm a b:=Re.eq_of (by show(a.x * b.x).fmod p=(b.x * a.x).fmod p;rw[aH])
 mul_assoc a b c:=Re.eq_of (r_ta oM)
 distrib a b c:=Re.eq_of (r_d oM)
 add_zero a:=Re.eq_of (by show(a.x+0).fmod p=a.x;rw[Int.add_zero];exact CF a.h0 a.h1)
 mul_one a:=Re.eq_of (by show(a.x * 1).fmod p=a.x;rw[bN];exact CF a.h0 a.h1)
 mul_zero a:=Re.eq_of (by show(a.x * 0).fmod p=0;rw[Int.mul_zero];exact CF oM oM)
 zo h:=by have:(0:Int)=1:=congrArg Re.x h;omega
 sz _ _:=True
 sz_mono _ _ _ _ _:=trivial
 sz_add _ _ _ _ _ _:=trivial
 sz_mul _ _ _ _ _ _:=trivial
 sz_zero:=trivial
 sz_one:=trivial
 lv _ _ _:=True
 lv_mono _ _ _ _ _ _:=trivial
 lv_add _ _ _ _ _ _ _:=trivial
 lv_mul _ _ _ _ _ _:=trivial
 lv_zero _:=trivial
 lv_one:=trivial
 lv_up _ _ _ _:=trivial
 lv_sz _ _ _ _ _:=trivial
 data a:=.int a.x
 sh _:=rfl
 nm _ _:=by simp[noMix]
 eq _:=by simp[PySem.Spec.same]
 ne a b h:=by
  simp[PySem.Spec.same];intro e;exact h (Re.eq_of e)
end Mine
namespace L2
open PySem PySem.Spec PyProof.Rows
class Plain (P:Program):Prop where
 tree:P.given.tree=none
section
variable{X:Cx}
theorem k8.seer{pins:List (Addr × Obj)}{σ:St}{H:Hp}{s:Shared}(I:k8 X pins σ H s):s.heap.NoSeer:=I.ok.mod.seer.keeps I.bk
def BQ{k:Nat}(hr:E6 k X.A)(hk:34<=k)(hP:X.prog.given.tree=none)(hst:X.stack=X.env::X.outer:=by rfl)(hgen:X.env.scope.isGenerator=false:=by rfl)(hco:X.env.scope.isCoroutine=false:=by rfl) :
    CY X (binaryOp .FloorDiv) (rI (λ_ j=>j≠0) λi j=>.int (i.fdiv j)):=by
 intro pins s σ H x y v u Q I rx ry h;obtain⟨i,j,rfl,rfl,hc,q⟩:=h;obtain⟨t,rfl⟩:=rx;obtain⟨t',rfl⟩:=ry;refine floordiv_int hc ⟨.int _,H,I.tok _,⟨_,rfl⟩,q⟩ (Or.inr (PylongRoom.of I.nolimit ?_ (SeerAt.of I.seer hP (by rw[I.ok.frames,hst]) hgen hco I.ok.blt I.ok.glob)));have:=hr.dp;show X.A.depth+100 < recursionLimit;omega
def Dj(i j:Int):Prop:=Builtin.Int.intBits i+Builtin.Int.intBits j<=2 ^ 27
def SZ{a b:Int}(hc:Dj a b):IntMulOk a b:=by
 have hc:Builtin.Int.intBits a+Builtin.Int.intBits b<=2 ^ 27:=hc;have e:Builtin.Int.intTooBig (Builtin.Int.intBits a+Builtin.Int.intBits b)=false:=by
  unfold Builtin.Int.intTooBig bitsLine;exact decide_eq_false oM
 unfold IntMulOk;rw[e];simp
def O1:CY X (binaryOp .Mult) (rI Dj λi j=>.int (i * j)):=Ui λ_ _ _ _ _ _ _ hc q=>mul_int q (SZ hc)
end
def J9(cells:List (Str × Addr)):List (Str × NameKind)->List (Str × Addr)->List (Str × Addr)
 | [],cs=>cs
 | (n,k)::r,cs=>J9 cells r (if(k == .free)=true then(n,(cells.lookup n).getD 0)::cs else cs)
theorem Hl:∀(names:List (Str × NameKind)) (cs:List (Str × Addr)),(∀n,(n,NameKind.free)∈names->∃c,env.cells.lookup n=some c)->
    (forIn names cs λ(x:Str × NameKind) (r:List (Str × Addr))=>(match x with | (name,kind)=>if(kind == NameKind.free)=true then(do let c <- cellOf env name;pure (ForInStep.yield ((name,c)::r)))else pure (ForInStep.yield r):Sem (ForInStep (List (Str × Addr)))))=pure (J9 env.cells names cs)
 | [],cs,_=>rfl
 | (n,k)::r,cs,h=>by
  rw[cH];by_cases hk:k=.free
  . subst hk;obtain⟨c,hc⟩:=h n aq;have ih:=Hl (env:=env) r ((n,c)::cs) λm hm=>h m (ay _ hm);have e1:cellOf env n=pure c:=by unfold cellOf;rw[hc]
    simp only[beq_self_eq_true,if_true,e1,pure_bind];rw[ih]
    conv=>rhs;unfold J9
    simp only[beq_self_eq_true,if_true,hc,Option.getD_some]
  . have hb:(k == NameKind.free)=false:=by simpa using hk
    have ih:=Hl (env:=env) r cs λm hm=>h m (ay _ hm);simp only[hb,cn,if_false,pure_bind];rw[ih]
    conv=>rhs;unfold J9
    simp only[hb,cn,if_false]
def T5(h:∀n,(n,NameKind.free)∈scope.names->∃c,env.cells.lookup n=some c):closureFor scope env=pure (J9 env.cells scope.names []):=by
 have e:=Hl (env:=env) scope.names [] h;unfold closureFor;simp only[bind_pure];exact e
theorem Hj:∀{names:List (Str × NameKind)} {cs:List (Str × Addr)},(∀n,(n,NameKind.free)∈names->∃c,cells.lookup n=some c)->∀{y c},(J9 cells names cs).lookup y=some c->cs.lookup y=some c\/cells.lookup y=some c
 | [],cs,_,y,c,e=>.inl e
 | (n,k)::r,cs,h,y,c,e=>by
  unfold J9 at e;have h':∀m,(m,NameKind.free)∈r->∃c,cells.lookup m=some c:=λm hm=>h m (ay _ hm);rcases Hj h' e with z | z
  . by_cases hk:k=.free
    . subst hk;obtain⟨d,hd⟩:=h n aq;simp only[beq_self_eq_true,if_true,hd,Option.getD_some]at z;rw[bL]at z;cases hy:(y == n)with
      | true=>
       rw[hy]at z;have:y=n:=beq_iff_eq.mp hy;subst this;exact .inr (hd.trans z)
      | false=>rw[hy]at z;exact .inl z
    . have hb:(k == NameKind.free)=false:=by simpa using hk
      simp only[hb,cn,if_false]at z;exact .inl z
  . exact .inr z
theorem Cm:∀{names:List (Str × NameKind)} {cs:List (Str × Addr)} {y:Str},((∃c,cs.lookup y=some c)\/(y,NameKind.free)∈names)->∃c,(J9 cells names cs).lookup y=some c
 | [],cs,y,h=>by
  rcases h with h | h
  . exact h
  . cases h
 | (n,k)::r,cs,y,h=>by
  unfold J9;refine Cm ?_;rcases h with ⟨c,h⟩ | h
  . left;split
    . rw[bL];cases hy:(y == n)with
      | true=>exact⟨_,rfl⟩
      | false=>exact⟨c,h⟩
    . exact⟨c,h⟩
  . rcases ak.mp h with e | h
    . cases e;left;simp only[beq_self_eq_true,if_true];rw[bL,beq_self_eq_true];exact⟨_,rfl⟩
    . exact .inr h
def Ck{prog:Program}{w:World}{A:Around}{R:Result->Shared->Prop}{s:Shared}{elt target iter:Expr}{scope:Scope}{pos:Pos}{it acc:Value}{env:Env}(I:Nat->Shared->Prop)
    (turn:∀n s,I n s->wpAny (model prog w) A (pyNext it) (λr s₁=>match r with
     | none=>R (.ok .next) s₁
     | some v=>wpAny (model prog w) A (letOwnedTupleGo target it v) (λ_ s₁'=>wpAny (model prog w) A (assign target env v) (λ_ s₂=>wpAny (model prog w) A (eval elt env) (λx s₃=>
         wpAny (model prog w) A (call (.builtin "list.append") [acc,x]) (λ_ s₄=>∃m,m < n/\I m s₄) (λ_ _=>False) s₃) (λ_ _=>False) s₂) (λ_ _=>False) s₁') (λ_ _=>False) s₁) (λ_ _=>False) s)
    (n:Nat) (h:I n s) :
    codeAny (model prog w) A (.compLoop (.ListComp elt [⟨target,iter,[],0⟩] scope pos) 0 it acc env) R s:=by
 refine codeAny_loop rfl I (λn s hI=>?_) n h;show wpAny _ _ ((compTurn (.ListComp elt [⟨target,iter,[],0⟩] scope pos) 0 it acc env).onRaise (λx=>do noteFrame x env;theTreesLotGoes x)) _ _ s;refine wpAny_noted ?_;rw[compTurn_list1];refine wpAny_bind (wpAny_standAt (wpAny_bind (wpAny_mono (turn n s hI) (λr s₁ h₁=>?_) λ_ _ h'=>h'.elim)));cases r with
 | none=>exact wpAny_pure h₁
 | some v=>
  exact wpAny_bind (wpAny_mono h₁ (λ_ s1' h1'=>wpAny_bind (wpAny_mono h1' (λ_ s₂ h₂=>wpAny_bind (wpAny_bind (wpAny_mono h₂ (λx s₃ h₃=>wpAny_bind (wpAny_mono h₃
   (λ_ s₄ h₄=>wpAny_pure (wpAny_pure ⟨rfl,h₄⟩)) λ_ _ h'=>h'.elim)) λ_ _ h'=>h'.elim))) λ_ _ h'=>h'.elim)) λ_ _ h'=>h'.elim)
def U2.track(x:U2 P w H h)(n:H a=none)(new:I0 P w (upd H a o) h a o):U2 P w (upd H a o) h:=λb u e=>by
 by_cases hb:b=a
 . subst hb;rw[c5]at e;cases e;exact new
 . rw[j6 hb]at e;exact(x b u e).stay (λ_ _ _ q=>q) (λc q=>by rw[j6 (j0 q n)];exact q) λc xs q=>by rw[j6 (j0 q n)];exact q
def Un.track(u:Un fs ex H H' h h')(hp:h.objs.size<=a)(n:H' a=none):Un fs ex H (upd H' a o) h h' where
 keep:=u.keep
 slot:=u.slot
 free:=λb ob q m hx=>by rw[j6 (ao (ar (ag q) hp))];exact u.free b ob q m hx
 there:=u.there
 tups:=λb xs q=>by have z:=u.tups b xs q;rw[j6 (j0 z n)];exact z
 frzs:=λb ob xs q=>by have z:=u.frzs b ob xs q;rw[j6 (j0 z n)];exact z
 tbls:=λb ps q=>by obtain⟨m,z⟩:=u.tbls b ps q;exact⟨m,by rw[j6 (j0 z n)];exact z⟩
theorem C1:∀(names:List (Str × NameKind)) (n:Nat) (acc:List (Str × Addr)),cellsFrom n names acc=cellsFrom n names []++acc
 | [],_,_=>rfl
 | (x,k)::r,n,acc=>by
  unfold cellsFrom;split
  . rw[C1 r (n+1) ((x,n)::acc),C1 r (n+1) [(x,n)],bD];rfl
  . exact C1 r n acc
theorem Ew:∀(names:List (Str × NameKind)) (n:Nat) (y:Str) (c:Addr),(y,c)∈cellsFrom n names []->(y,NameKind.cell)∈names
 | [],_,_,_,h=>by cases h
 | (x,k)::r,n,y,c,h=>by
  unfold cellsFrom at h;split at h
  . rename_i hk;rw[C1]at h;rcases aA.mp h with h | h
    . exact ay _ (Ew r (n+1) y c h)
    . have e:=az.mp h;cases e;rw[show k=NameKind.cell by simpa using hk];exact aq
  . exact ay _ (Ew r n y c h)
theorem AI:∀(names:List (Str × NameKind)) (n:Nat) (y:Str),(y,NameKind.cell)∈names->∃c,(y,c)∈cellsFrom n names []
 | [],_,_,h=>by cases h
 | (x,k)::r,n,y,h=>by
  unfold cellsFrom;rcases ak.mp h with e | h
  . cases e;rw[if_pos (show(NameKind.cell == NameKind.cell)=true by decide),C1];exact⟨n,av _ aq⟩
  . split
    . rw[C1];obtain⟨c,hc⟩:=AI r (n+1) y h;exact⟨c,aP _ hc⟩
    . exact AI r n y h
theorem R0:∀(l r:List (Str × α)) (y:Str),(l++r).lookup y=match l.lookup y with | some c=>some c | none=>r.lookup y
 | [],_,_=>rfl
 | (x,c)::l,r,y=>by
  rw[cI,bL,bL];cases (y == x)with
  | true=>rfl
  | false=>exact R0 l r y
theorem Bu:∀{l:List (Str × α)} {y:Str} {c:α},(y,c)∈l->∃c',l.lookup y=some c'
 | (x,d)::l,y,c,h=>by
  rw[bL];cases hb:(y == x)with
  | true=>exact⟨d,rfl⟩
  | false=>
   rcases ak.mp h with e | h
   . cases e;rw[beq_self_eq_true]at hb;cases hb
   . exact Bu h
abbrev CV(env:Env)(scope:Scope)(C:Addr):List (Str × Addr):=cellsFrom (C+1) scope.names (J9 env.cells scope.names [])
def MH(h:(CV env scope C).lookup y=some c):(y,c)∈cellsFrom (C+1) scope.names []\/(J9 env.cells scope.names []).lookup y=some c:=by
 rw[show CV env scope C=_ from C1 _ _ _,R0]at h;split at h
 . rename_i e;cases h;exact .inl (aO e)
 . exact .inr h
def TQ(k:scope.names.lookup y=some .cell)(h:(CV env scope C).lookup y=some c):(y,c)∈cellsFrom (C+1) scope.names []:=by
 rw[show CV env scope C=_ from C1 _ _ _,R0]at h;obtain⟨d,hd⟩:=AI scope.names (C+1) y (aO k);obtain⟨d',hd'⟩:=Bu hd;rw[hd']at h;cases h;exact aO hd'
theorem C6:∀(names:List (Str × NameKind)) (n:Nat) (y:Str) (c:Addr),(y,c)∈cellsFrom n names []->n<=c
 | [],_,_,_,h=>by cases h
 | (x,k)::r,n,y,c,h=>by
  unfold cellsFrom at h;split at h
  . rw[C1]at h;rcases aA.mp h with h | h
    . have:=C6 r (n+1) y c h;omega
    . cases az.mp h;exact ae _
  . exact C6 r n y c h
theorem CU:∀(names:List (Str × NameKind)) (n:Nat) (x y:Str) (c:Addr),(x,c)∈cellsFrom n names []->(y,c)∈cellsFrom n names []->x=y
 | [],_,_,_,_,h,_=>by cases h
 | (z,k)::r,n,x,y,c,h,g=>by
  unfold cellsFrom at h g;split at h
  . rename_i hk;rw[if_pos hk]at g;rw[C1]at h g;rcases aA.mp h with h | h <;>rcases aA.mp g with g | g
    . exact CU r (n+1) x y c h g
    . cases az.mp g;have:=C6 r (n+1) x _ h;omega
    . cases az.mp h;have:=C6 r (n+1) y _ g;omega
    . cases az.mp h;cases az.mp g;rfl
  . rename_i hk;rw[if_neg hk]at g;exact CU r n x y c h g
def Al{M:Model}{A:Around}{E:Value->Shared->Prop}{s:Shared}{scope:Scope}{globals:Addr}{closure:List (Str × Addr)}{qual:Str}{env:Env}{Q:Env->Shared->Prop}
    (hQ:∀h':Heap,h'.Ns s.heap.objs.size (λ_=>none)->(∀b o,s.heap.get? b=some o->h'.get? b=some o)->CellsOk h' (s.heap.objs.size+1) (cellsFrom (s.heap.objs.size+1) scope.names [])->
     Q (newEnv scope s.heap.objs.size globals (cellsFrom (s.heap.objs.size+1) scope.names closure) qual none .none (some env) builtinsNs) { s with heap:=h',toks:=s.toks+([]:List (Str × Value)).length }) :
    wpAny M A (newFunctionEnv scope globals closure [] qual none .none (some env)) Q E s:=by
 simp only[newFunctionEnv,Option.isSome_some,if_true];refine wpAny_bind (wpAny_alloc ?_);refine wpAny_bind (wpAny_layCells _ (λname kind cells=>by cases hkc:kind == NameKind.cell <;>simp[hkc]) _ _ _ _ ?_);have ok:=cellsFrom_ok scope.names (s.heap.push { cls:=.type "dict",data:=.dict #[] }) (s.heap.objs.size+1) [] ⟨λ_ _ hm=>(nomatch hm),List.Pairwise.nil⟩ (by rw[aM];exact ae _);rw[aM]at ok;rw[show({ s with heap:=s.heap.push { cls:=.type "dict",data:=.dict #[] } }:Shared).heap.objs.size=s.heap.objs.size+1 from aM ..];rw[List.forIn_nil];refine wpAny_bind (wpAny_pure (wpAny_pure ?_));exact hQ _ ((Heap.Ns.new s.heap (.type "dict")).keeps (pushCells_keeps _ _)) (λb o e=>pushCells_keeps _ _ b o (ah _ e)) ok
def B5(X:Cx)(scope:Scope)(xs:List Str)(C:Addr)(s:Shared)(H:Hp)(fp:List Addr)(pn:List (Addr × Obj)):Cx:=
 { X with env:=compEnvC scope (CV X.env scope C) C X.env,N:=X.N++xs,s₀:=s,H₀:=H,outer:=X.stack,ex:=fp,fn:=λy=>scope.names.lookup y == some .cell,pn:=pn,xe:=λ_ _=>False }
structure p9(N:List Str)(S T:Scope):Prop where
 kind:T.kind=.function
 cell:∀y∈N,T.names.lookup y≠some .cell
 names:∀y∈T.names,y.2=.local->T.names.lookup y.1=some .local
 uniq:∀y∈T.names,T.names.lookup y.1=some y.2
 free:∀y∈T.names,y.2=.free->S.names.lookup y.1=some .cell\/S.names.lookup y.1=some .free
 vis:∀y∈N,T.names.lookup y≠some .local
def rlS(S T:Scope):Scope:={ T with names:=T.names.map λ(n,k)=>if(k == .free && S.kind == .function && S.names.lookup n == some .cell)then(n,.cell)else(n,k) }
def rl(env:Env)(z:Str × NameKind):Str × NameKind:=match z with | (n,k)=>if(k == NameKind.free && env.scope.kind == .function && env.kindOf n == some .cell)then(n,NameKind.cell)else(n,k)
def Sk(env:Env)(n:Str)(k:NameKind):(rl env (n,k)).1=n:=by unfold rl;dsimp only;split <;>rfl
def Sj(env:Env)(n:Str)(k:NameKind):(rl env (n,k)).2=k\/(k=.free/\(rl env (n,k)).2=.cell):=by
 unfold rl;dsimp only;split
 . rename_i h;simp only[Bool.and_eq_true]at h;exact .inr ⟨by simpa using h.1.1,rfl⟩
 . exact .inl rfl
theorem AC:∀{names:List (Str × NameKind)} {y:Str} {k:NameKind},(names.map (rl env)).lookup y=some k->names.lookup y=some k\/(names.lookup y=some .free/\k=.cell)
 | [],_,_,h=>by cases h
 | (n,j)::r,y,k,h=>by
  have ih:=@AC env r y k;rw[aL,show rl env (n,j)=((rl env (n,j)).1,(rl env (n,j)).2)from rfl,Sk,bL]at h;rw[bL];cases hy:(y == n)with
  | true=>
   rw[hy]at h;have h:(rl env (n,j)).2=k:=Option.some.inj h;rcases Sj env n j with z | ⟨z1,z2⟩
   . exact .inl (by rw[<- h,z])
   . exact .inr ⟨by rw[z1],by rw[<- h,z2]⟩
  | false=>
   rw[hy]at h;exact ih h
def BN(h:(relabel scope env).names.lookup y=some .cell\/(relabel scope env).names.lookup y=some .free):scope.names.lookup y=some .free\/scope.names.lookup y=some .cell:=by
 have e:(relabel scope env).names=scope.names.map (rl env):=rfl;rw[e]at h;rcases h with h | h
 . rcases AC h with z | ⟨z,_⟩
   . exact .inr z
   . exact .inl z
 . rcases AC h with z | ⟨z,_⟩
   . exact .inl z
   . exact .inl z
def ER(h:(relabel scope env).names.lookup y=some .local):scope.names.lookup y=some .local:=by
 have e:(relabel scope env).names=scope.names.map (rl env):=rfl;rw[e]at h;rcases AC h with z | ⟨_,z⟩
 . exact z
 . cases z
def Un.but(u:Un fs ex H H' h h1)(hb:∀b o,b≠C->h1.get? b=some o->h2.get? b=some o)(hC:h.objs.size<=C):Un fs ex H H' h h2:=by
 have ne:∀b o,h.get? b=some o->b≠C:=λb o e=>ao (ar (ag e) hC);refine⟨λb o e n hf hx=>hb b o (ne b o e) (u.keep b o e n hf hx),λb o e n hf hx=>?_,u.free,λb o e hx=>?_,u.tups,u.frzs,u.tbls⟩
 . obtain⟨sl,q⟩:=u.slot b o e n hf hx;exact⟨sl,hb b _ (ne b o e) q⟩
 . obtain⟨o',q⟩:=u.there b o e hx;exact⟨o',hb b _ (ne b o e) q⟩
def U2.but(x:U2 P w H h1)(hb:∀b o,b≠C->h1.get? b=some o->h2.get? b=some o)(n:H C=none):U2 P w H h2:=λb u e=>
 (x b u e).stay (λc v hc q=>hb c v (by
  rcases hc with rfl | hc
  . exact j0 e n
  . exact j0 hc n) q) (λ_ q=>q) λ_ _ q=>q
section
variable{X:Cx}{pins:List (Addr × Obj)}{σ:St}{H:Hp}{s:Shared}{scope:Scope}{xs:List Str}{fp:List Addr}{C:Addr}
def U9(I:k8 X pins σ H s)(ok:p9 X.N X.env.scope scope):∀n,(n,NameKind.free)∈scope.names->∃c,X.env.cells.lookup n=some c:=λn hn=>I.ok.has n (ok.free _ hn rfl)
def V0(I:k8 X pins σ H s)(ok:p9 X.N X.env.scope scope)(e:(CV X.env scope C).lookup y=some c):(y,c)∈cellsFrom (C+1) scope.names []\/X.env.cells.lookup y=some c:=by
 rcases MH e with z | z
 . exact .inl z
 . rcases Hj (U9 I ok) z with z | z
   . cases z
   . exact .inr z
def IU(I:k8 X pins σ H s)(e:X.env.cells.lookup y=some c):c < s.heap.objs.size:=let⟨_,h⟩:=I.cell y c e;h.lt
def DD(I:k8 X pins σ H s)(ok:p9 X.N X.env.scope scope)(hf:∀b∈fp,P2 X pins H b)(hx:∀b∈fp,b < s.heap.objs.size)(hC:s.heap.objs.size<=C) :
    (B5 X scope xs C s H fp (X.pn++pins)).Ok where
 mod:=I.mod
 kind:=ok.kind
 glob:=I.ok.glob
 blt:=I.ok.blt
 above:=hC
 inj:=λx y c h1 h2=>by
  rcases V0 I ok h1 with z1 | z1 <;>rcases V0 I ok h2 with z2 | z2
  . exact CU _ _ x y c z1 z2
  . exact absurd (ar (IU I z2) (af hC (bw (C6 _ _ _ _ z1)))) (bo _)
  . exact absurd (ar (IU I z1) (af hC (bw (C6 _ _ _ _ z2)))) (bo _)
  . exact I.ok.inj x y c z1 z2
 has:=λy hy=>by
  show ∃c,(CV X.env scope C).lookup y=some c;rw[show CV X.env scope C=_ from C1 _ _ _,R0];rcases BN hy with z | z
  . obtain⟨c,hc⟩:=Cm (cells:=X.env.cells) (cs:=[]) (.inr (aO z));split
    . rename_i c' _;exact⟨c',rfl⟩
    . exact⟨c,hc⟩
  . obtain⟨c,hc⟩:=AI scope.names (C+1) y (aO z);obtain⟨c',hc'⟩:=Bu hc;rw[hc'];exact⟨c',rfl⟩
 cab:=λx c h e=>af hC (bw (C6 _ _ _ _ (TQ (by have h:(scope.names.lookup x == some NameKind.cell)=true:=h;simpa using h) e)))
 hd:=I.ok.hd
 frames:=I.ok.frames
 stk:=.inl rfl
 exf:=λb hb=>⟨ao (ar (hx b hb) hC),λx c e=>by
  rcases V0 I ok e with z | z
  . exact bq (ar (hx b hb) (af hC (bw (C6 _ _ _ _ z))))
  . exact(hf b hb).2.2.2.2.1 x c z⟩
 bs:=I.bs
 bsz:=af I.ok.bsz I.sz
 noex:=λb o e hb=>by
  rcases(hf b hb).2.2.2.1 with z | z
  . exact I.ok.noex b o e z
  . exact absurd (ar (ag e) (af I.ok.bsz z)) (bo _)
 exfs:=λb hb z=>by
  rcases ak.mp (I.stkSub b z)with q | q
  . exact(hf b hb).2.1 q
  . exact(hf b hb).2.2.1 q
 funs:=I.stack
 frf:=I.stkFree
def Bz(I:k8 X pins σ H s)(ok:p9 X.N X.env.scope scope)(hf:∀b∈fp,P2 X pins H b)(hx:∀b∈fp,b < s.heap.objs.size)(hC:s.heap.objs.size<=C){h':Heap}{t':Nat}{m:Str->Option Value}
    (hn:h'.Ns C m) (hk:∀b o,s.heap.get? b=some o->h'.get? b=some o) (hcs:CellsOk h' (C+1) (cellsFrom (C+1) scope.names [])) :
    k8 (B5 X scope xs C s H fp (X.pn++pins)) [] (σ++List.replicate xs.length none) H { s with heap:=h',toks:=t' }where
 ok:=DD I ok hf hx hC
 os:=rfl
 bare:=I.bare
 base:=Un.kept hk
 loc:=by
  refine⟨m,hn,λi x v e1 e2 e3=>?_⟩;have e1:(X.N++xs)[i]? = some x:=e1;have hi:i < σ.length:=by
   by_cases hi:i < σ.length
   . exact hi
   . rw[aQ oM,cy]at e2;split at e2 <;>cases e2
  rw[aJ hi]at e2;rw[aJ (by rw[<- I.len];exact hi)]at e1;have hxN:x∈X.N:=aR e1;have e4:(relabel scope X.env).names.lookup x=some .cell\/(relabel scope X.env).names.lookup x=some .free:=by
   rcases e3 with z | z
   . exact absurd (ER z) (ok.vis x hxN)
   . exact z
  have e5:scope.names.lookup x=some .free:=by
   rcases BN e4 with z | z
   . exact z
   . exact absurd z (ok.cell x hxN)
  have e6:=ok.free _ (aO e5) rfl;obtain⟨m0,_,hl⟩:=I.loc;obtain⟨u,ru,lu⟩:=hl i x v e1 e2 (.inr e6);refine⟨u,ru,.inr ⟨e4,?_⟩⟩;rcases lu with ⟨q,_⟩ | ⟨_,c,hc,o,ho,hd⟩
  . have q:X.env.scope.names.lookup x=some .local:=q;rcases e6 with z | z <;>(rw[q]at z;cases z)
  . obtain⟨c',hc'⟩:=Cm (cells:=X.env.cells) (cs:=[]) (.inr (aO e5));have no:(cellsFrom (C+1) scope.names []).lookup x=none:=by
     cases e:(cellsFrom (C+1) scope.names []).lookup x with
     | none=>rfl
     | some d=>
      have:=ok.uniq _ (Ew _ _ _ _ (aO e));rw[e5]at this;cases this
    have hb:(CV X.env scope C).lookup x=some c':=by
     rw[show CV X.env scope C=_ from C1 _ _ _,R0,no];exact hc'
    rcases Hj (U9 I ok) hc' with z | z
    . cases z
    . rw[hc]at z;cases z;exact⟨c,hb,o,hk _ _ ho,hd⟩
 cell:=λx c e=>by
  rcases V0 I ok e with z | z
  . exact⟨none,(hcs.empty x c z).1⟩
  . obtain⟨v,o,ho,hd⟩:=I.cell x c z;exact⟨v,o,hk _ _ ho,hd⟩
 free:=I.hok.fresh hC
 freeC:=λx c e=>by
  rcases V0 I ok e with z | z
  . exact I.hok.fresh (by have:=C6 _ _ _ _ z;omega)
  . exact I.freeC x c z
 pin:=λp hp=>by
  rw[aN]at hp;obtain⟨e,n,ne,nf,d⟩:=I.pin p hp;refine⟨hk _ _ e,n,ao (ar (ag e) hC),λz=>?_,d⟩;rcases ak.mp (I.stkSub p.1 z)with q | q
  . exact ne q
  . exact nf q
 hok:=I.hok.kept hk
 len:=by
  show(σ++List.replicate xs.length none).length=(X.N++xs).length;rw[ai,ai,cz,I.len]
end
abbrev RA(J:It)(k:Nat)(g:TG)(te:TE)(σ:St)(Q:VK)(H1:Hp):Prop:=∃W:Nat->Nat->List V->Hp->Prop,(∃m,W 0 m [] H1)/\∀i m ys H,W i m ys H->
 (J.stop i H/\ys.length<=sizeLine/\∀p,H p=none->Q (.ref p) (upd H p (.lst ys)))\/
 (J.go i H/\ys.length < sizeLine/\∀x H',J.yld i H x H'->g x (σ++List.replicate k none) H' λσ2 H2=>(∃zs,σ2=σ++zs/\zs.length=k)/\te σ2 H2 λv H3=>∃m',m' < m/\W (i+1) m' (ys++[v]) H3)
def QY(k:Nat)(wi:TI)(g:TG)(te:TE):TE:=λσ H Q=>wi σ H λJ H1=>RA J k g te σ Q H1
def w5{X:Cx}{elt target iter:Expr}{scope:Scope}{pos:Pos}{wi:TI}{g:TG}{te:TE}{xs:List Str}(hc:X.calm=true)(ok:p9 X.N X.env.scope scope)(hi:PI X target iter wi)
    (hg:∀C s H fp pn,PG (B5 X scope xs C s H fp pn) target g) (he:∀C s H fp pn,PE (B5 X scope xs C s H fp pn) elt te)
    (hs:∀x,foldedSetIterable iter X.env x=pure x:=by intro _;rfl):PE X (.ListComp elt [⟨target,iter,[],0⟩] scope pos) (QY xs.length wi g te):=by
 intro pins s σ H Q I h;rw[eval_ListComp];refine wpAny_comprehension_free (use:=none) rfl hs (T5 (U9 I ok)) ok.kind ok.names (B6 (hi pins s σ H _ I h) λv s1 h1=>B6 h1 λitv s2 h2=>?_);obtain⟨it,fp,tn,J,H2,rfl,I2,T,st2,f2,W,⟨m0,w0⟩,turn⟩:=h2;refine wpAny_newObj_type (Al λh₁ hns₁ hsb₁ hcl₁=>?_);dsimp only at hns₁ hsb₁ hcl₁ ⊢;generalize hD:s2.heap.objs.size=D;generalize hH3:s2.heap.push { cls:=.type "list",dict:=none,data:=.seq ([]:List Value).toArray }=h3 at hns₁ hsb₁ hcl₁ ⊢;have k23:∀b o,s2.heap.get? b=some o->h3.get? b=some o:=λb o e=>hH3▸ah _ e;have hC:h3.objs.size=D+1:=by rw[<- hH3,aM,hD]
 have eD3:h3.get? D=some { cls:=.type "list",dict:=none,data:=.seq ([]:List Value).toArray }:=by
  rw[<- hH3,<- hD];exact aw _ rfl
 have I3:k8 X pins σ H2 { s2 with heap:=h3 }:=I2.kept (t':=s2.toks) k23;have fD:P2 X pins H2 D:=I2.fpOk oM (I2.hok.fresh oM);have lt2:∀b∈fp,b < D:=λb hb=>by
  obtain⟨o,e,_⟩:=T.obj 0 _ st2 b hb;rw[<- hD];exact ag e
 have f3:∀b∈D::fp,P2 X pins H2 b:=λb hb=>by
  rcases ak.mp hb with rfl | hb
  . exact fD
  . exact f2 b hb
 have hx3:∀b∈D::fp,b < ({ s2 with heap:=h3 }:Shared).heap.objs.size:=λb hb=>by
  show b < h3.objs.size;rcases ak.mp hb with rfl | hb
  . rw[hC];exact bK _
  . rw[hC];exact cV (lt2 b hb)
 have k31:∀b o,h3.get? b=some o->h₁.get? b=some o:=hsb₁;have okX:=DD (C:=h3.objs.size) (xs:=xs) I3 ok f3 hx3 (ae _);have I4:=Bz (C:=h3.objs.size) (xs:=xs) (t':=s2.toks+([]:List (Str × Value)).length) I3 ok f3 hx3 (ae _) hns₁ k31 hcl₁;have mD:D∈D::fp:=aq;have neC:∀b∈D::fp,b≠h3.objs.size:=λb hb=>(okX.exf b hb).1;have stat:∀{H':Hp} {pl:List (Addr × Obj)},(∀b∈fp,H' b=none)->(∀p∈pl,p.1=D)->∀b∈fp,P2 (B5 X scope xs h3.objs.size { s2 with heap:=h3 } H2 (D::fp) (X.pn++pins)) pl H' b:=λhn hpl b hb=>by
  have hb':b∈D::fp:=ay _ hb;refine⟨hn b hb,neC b hb',okX.exfs b hb',.inl hb',(okX.exf b hb').2,λp hp=>?_⟩;rcases aA.mp hp with hp | hp
  . exact(f2 b hb).2.2.2.2.2 p hp
  . rw[hpl p hp];exact bq (lt2 b hb)
 have loop:codeAny (model X.prog X.w) X.A (.compLoop (.ListComp elt [⟨target,iter,[],0⟩] scope pos) 0 (.ref it) (.ref D) (compEnvC scope (CV X.env scope h3.objs.size) h3.objs.size X.env))
     (compPost (model X.prog X.w) X.A X.xe none (EP X pins σ Q) (.ref D) h3.objs.size) { s2 with heap:=h₁,toks:=s2.toks+([]:List (Str × Value)).length }:=by
  refine Ck (λn s'=>∃i ys its k H',k8 (B5 X scope xs h3.objs.size { s2 with heap:=h3 } H2 (D::fp) (X.pn++pins)) [] (σ++List.replicate xs.length none) H' s'/\
   s'.heap.get? D=some { cls:=.type "list",data:=.seq (its:List Value).toArray k }/\r8 ys its/\H' D=none/\tn i s'.heap/\(∀b∈fp,H' b=none)/\W i n ys H') ?_ m0
   ⟨0,[],[],_,H2,I4,k31 _ _ eD3,.nil,fD.1,T.keep _ _ _ st2 (λb _ o e=>k31 b o (k23 b o e)),λb hb=>(f2 b hb).1,w0⟩
  rintro n s' ⟨i,ys,its,k,H',I',eD,rv,nD,st,fr,w⟩;have Ip:=I'.pins_of (pins':=[(D,{ cls:=.type "list",data:=.seq its.toArray k })]) λp hp=>by
   rw[az]at hp;subst hp;exact⟨eD,nD,neC D mD,okX.exfs D mD,λv z=>by cases z⟩
  have one:∀p∈[(D,({ cls:=.type "list",data:=.seq its.toArray k }:Obj))],p.1=D:=λp hp=>by rw[az]at hp;rw[hp]
  rcases turn i n ys H' w with ⟨stop,hz,q⟩ | ⟨go,hz,step⟩
  . refine B6 (T.done (B5 X scope xs h3.objs.size { s2 with heap:=h3 } H2 (D::fp) (X.pn++pins)) rfl rfl rfl hc i _ s' _ H' (λ_ _=>False) Ip (stat fr one) st stop) λr s4 ⟨hr,J4⟩=>?_;subst hr;obtain⟨mm,hnm,_⟩:=J4.loc;refine⟨mm,hnm,λh' sb=>?_⟩;obtain⟨eD4,nD4,_⟩:=J4.pin (D,{ cls:=.type "list",data:=.seq its.toArray k }) (av _ aq);have hb:∀b o,b≠h3.objs.size->s4.heap.get? b=some o->h'.get? b=some o:=λb o hn e=>sb.extBut b o hn e;have u0:Un (En X.stack) (D::fp) H2 H' h3 s4.heap:=J4.base;have u:Un (En X.stack) (D::fp) H2 H' s2.heap h':=((Un.kept k23).trans u0).but hb oM;have os4:s4.os=s2.os:=J4.os;refine⟨.ref D,upd H' D (.lst ys),I2.call' (s':={ s4 with heap:=h' }) (ch:=D::fp) os4 (u.track oM nD4) ((J4.hok.but hb J4.free).track nD4 ⟨hz,its,k,rv,hb D _ (neC D mD) eD4⟩) J4.bare (λb hb=>?_),rfl,q D nD4⟩;have z:=f3 b hb;exact⟨z.2.2.2.1,z.2.1,z.2.2.2.2.1,z.2.2.2.2.2⟩
  . refine B6 (T.item (B5 X scope xs h3.objs.size { s2 with heap:=h3 } H2 (D::fp) (X.pn++pins)) rfl rfl rfl hc i _ s' _ H' (λ_ _=>False) Ip (stat fr one) st go) λr s4 ⟨u,hr,h4⟩=>?_;subst hr;refine B6 h4 λ_ s5 ⟨x,H5,I5,r5,y5,st5,fr5⟩=>?_;have I5':=I5.pinned (stat fr5 one) (T.obj _ _ st5);refine B6 (hg _ _ _ _ _ _ s5 _ H5 x u _ I5' r5 (step x H5 y5)) λ_ s6 ⟨σ6,H6,I6,⟨zs,hz6,hl6⟩,q6⟩=>?_;refine B6 (he _ _ _ _ _ _ s6 σ6 H6 _ I6 q6) λxv s7 ⟨v,H7,I7,r7,m',hm',w7⟩=>?_;obtain⟨eD7,nD7,_⟩:=I7.pin (D,{ cls:=.type "list",data:=.seq its.toArray k }) (av _ (aP _ aq));have len:=rv.length;refine call_meets F.slot_list_append ⟨_,eD7,rfl⟩ F.entry_list_append (F.args_list_append_2 _ _) (cU D its.toArray k xv (by rw[au];omega)) ⟨eD7,?_⟩;have q:=PySem.IsL.update eD7 (λa=>a.push xv);have other:∀b o,b≠D->s7.heap.get? b=some o->(s7.heap.update D (Obj.mapSeq λa=>a.push xv)).get? b=some o:=λb o hb e=>(cA s7.heap _ (Ne.symm hb)).trans e;have pinF:∀b∈fp,∀o,s5.heap.get? b=some o->s7.heap.get? b=some o/\H7 b=none:=λb hb o e=>
     ⟨(I7.pin (b,o) (av _ (av _ (G9 hb e)))).1,(I7.pin (b,o) (av _ (av _ (G9 hb e)))).2.1⟩
    have I7':=I7.pins_of (pins':=[]) λp hp=>by cases hp
    have I8:=I7'.turned (t':=s7.toks) (it:=D) other nD7 (neC D mD) (.inl mD) (okX.exf D mD).2 (λp hp=>by
     rw[aN]at hp;exact fD.2.2.2.2.2 p hp)
    have I9:=I8.weak (σ':=σ++List.replicate xs.length none) (by rw[hz6,ai,ai,cz,hl6]) (λj v' e=>by
     have hj:j < σ.length:=by
      by_cases hj:j < σ.length
      . exact hj
      . rw[aQ oM,cy]at e;split at e <;>cases e
     rw[aJ hj]at e;rw[hz6,aJ hj];exact e)
    have e9:its.toArray.push xv=(its++[xv]).toArray:=by simp
    rw[e9]at q;refine⟨m',hm',i+1,ys++[v],its++[xv],_,H7,I9,q,rv.append (.cons r7 .nil),nD7,T.keep _ _ _ st5 (λb hb o e=>other b o (ao (lt2 b hb)) (pinF b hb o e).1),λb hb=>?_,w7⟩;obtain⟨o,e,_⟩:=T.obj _ _ st5 b hb;exact(pinF b hb o e).2
 exact codeAny_compStart_list loop (T.self _ 0 _ _ _ (T.keep _ _ _ st2 λb _ o e=>k31 b o (k23 b o e)) loop)
abbrev Cx.rn(X:Cx)(i:Nat)(y:Str):Cx:={ X with N:=X.N.set i y }
section
variable{X:Cx}{pins:List (Addr × Obj)}{σ:St}{H:Hp}{s:Shared}{i:Nat}{y:Str}
theorem k8.rn(I:k8 X pins σ H s)(h:σ[i]? = some none):k8 (X.rn i y) pins σ H s:=
 ⟨⟨I.ok.mod,I.ok.kind,I.ok.glob,I.ok.blt,I.ok.above,I.ok.inj,I.ok.has,I.ok.cab,I.ok.hd,I.ok.frames,I.ok.stk,I.ok.exf,I.ok.bs,I.ok.bsz,I.ok.noex,I.ok.exfs,I.ok.funs,I.ok.frf⟩,I.os,I.bare,I.base,
  let⟨m,hn,hl⟩:=I.loc;⟨m,hn,λj x v e1 e2 e3=>by
   by_cases z:i=j
   . subst z;rw[h]at e2;cases e2
   . exact hl j x v (by rw[<- e1];exact(bU z).symm) e2 e3⟩,I.cell,I.free,I.freeC,I.pin,I.hok,by rw[I.len];exact bW.symm⟩
def k8.unrn(ok:X.Ok)(I:k8 (X.rn i y) pins σ H s)(h:σ[i]? = some none):k8 X pins σ H s:=
 ⟨ok,I.os,I.bare,I.base,let⟨m,hn,hl⟩:=I.loc;⟨m,hn,λj x v e1 e2 e3=>by
     by_cases z:i=j
     . subst z;rw[h]at e2;cases e2
     . exact hl j x v (by rw[<- e1];exact bU z) e2 e3⟩,I.cell,I.free,I.freeC,I.pin,I.hok,by rw[I.len];exact bW⟩
def Lg(i:Nat)(y:Str)(h:PE (X.rn i y) e t):PE X e (λσ H Q=>σ[i]? = some none/\t σ H Q):=by
 intro pins s σ H Q I ⟨hi,q⟩;exact B6 (h pins s σ H Q (I.rn hi) q) λv s1 ⟨x,H1,I1,r,q1⟩=>⟨x,H1,I1.unrn I.ok hi,r,q1⟩
end
def IV{prog:Program}{w:World}{A:Around}{R:Result->Shared->Prop}{s:Shared}{elt target iter c:Expr}{scope:Scope}{pos:Pos}{it acc:Value}{env:Env}(I:Nat->Shared->Prop)
    (turn:∀n s,I n s->wpAny (model prog w) A (pyNext it) (λr s₁=>match r with
     | none=>R (.ok .next) s₁
     | some v=>wpAny (model prog w) A (letOwnedTupleGo target it v) (λ_ s₁'=>wpAny (model prog w) A (assign target env v) (λ_ s₂=>wpAny (model prog w) A (isTrue c env (eval c env)) (λok s₂'=>
         if ok=true then wpAny (model prog w) A (eval elt env) (λx s₃=>wpAny (model prog w) A (call (.builtin "list.append") [acc,x]) (λ_ s₄=>∃m,m < n/\I m s₄) (λ_ _=>False) s₃) (λ_ _=>False) s₂'
         else ∃m,m < n/\I m s₂') (λ_ _=>False) s₂) (λ_ _=>False) s₁') (λ_ _=>False) s₁) (λ_ _=>False) s)
    (n:Nat) (h:I n s) :
    codeAny (model prog w) A (.compLoop (.ListComp elt [⟨target,iter,[c],0⟩] scope pos) 0 it acc env) R s:=by
 refine codeAny_loop rfl I (λn s hI=>?_) n h;show wpAny _ _ ((compTurn (.ListComp elt [⟨target,iter,[c],0⟩] scope pos) 0 it acc env).onRaise (λx=>do noteFrame x env;theTreesLotGoes x)) _ _ s;refine wpAny_noted ?_;rw[compTurn_list];refine wpAny_bind (wpAny_standAt (wpAny_bind (wpAny_mono (turn n s hI) (λr s₁ h₁=>?_) λ_ _ h'=>h'.elim)));cases r with
 | none=>exact wpAny_pure h₁
 | some v=>
  refine wpAny_bind (wpAny_mono h₁ (λ_ s1' h1'=>wpAny_bind (wpAny_mono h1' (λ_ s₂ h₂=>wpAny_bind (wpAny_tests_one (wpAny_mono h₂ (λok s₃ h₃=>?_) λ_ _ h'=>h'.elim))) λ_ _ h'=>h'.elim)) λ_ _ h'=>h'.elim);cases ok with
  | false=>exact wpAny_pure ⟨rfl,h₃⟩
  | true=>
   exact wpAny_bind (wpAny_bind (wpAny_mono h₃ (λx s₄ h₄=>wpAny_bind (wpAny_mono h₄ (λ_ s₅ h₅=>wpAny_pure (wpAny_pure ⟨rfl,h₅⟩)) λ_ _ h'=>h'.elim)) λ_ _ h'=>h'.elim))
abbrev OQ(J:It)(k:Nat)(g:TG)(tc:TT)(te:TE)(σ:St)(Q:VK)(H1:Hp):Prop:=∃W:Nat->Nat->List V->Hp->Prop,(∃m,W 0 m [] H1)/\∀i m ys H,W i m ys H->
 (J.stop i H/\ys.length<=sizeLine/\∀p,H p=none->Q (.ref p) (upd H p (.lst ys)))\/
 (J.go i H/\ys.length < sizeLine/\∀x H',J.yld i H x H'->g x (σ++List.replicate k none) H' λσ2 H2=>(∃zs,σ2=σ++zs/\zs.length=k)/\tc σ2 H2 λb H3=>if b=true then te σ2 H3 λv H4=>∃m',m' < m/\W (i+1) m' (ys++[v]) H4 else ∃m',m' < m/\W (i+1) m' ys H3)
def Pf(k:Nat)(wi:TI)(g:TG)(tc:TT)(te:TE):TE:=λσ H Q=>wi σ H λJ H1=>OQ J k g tc te σ Q H1
def Mg{X:Cx}{elt target iter c:Expr}{scope:Scope}{pos:Pos}{wi:TI}{g:TG}{tc:TT}{te:TE}{xs:List Str}(hc:X.calm=true)(ok:p9 X.N X.env.scope scope)(hi:PI X target iter wi)
    (hg:∀C s H fp pn,PG (B5 X scope xs C s H fp pn) target g) (ht:∀C s H fp pn,PT (B5 X scope xs C s H fp pn) c tc) (he:∀C s H fp pn,PE (B5 X scope xs C s H fp pn) elt te)
    (hs:∀x,foldedSetIterable iter X.env x=pure x:=by intro _;rfl):PE X (.ListComp elt [⟨target,iter,[c],0⟩] scope pos) (Pf xs.length wi g tc te):=by
 intro pins s σ H Q I h;rw[eval_ListComp];refine wpAny_comprehension_free (use:=none) rfl hs (T5 (U9 I ok)) ok.kind ok.names (B6 (hi pins s σ H _ I h) λv s1 h1=>B6 h1 λitv s2 h2=>?_);obtain⟨it,fp,tn,J,H2,rfl,I2,T,st2,f2,W,⟨m0,w0⟩,turn⟩:=h2;refine wpAny_newObj_type (Al λh₁ hns₁ hsb₁ hcl₁=>?_);dsimp only at hns₁ hsb₁ hcl₁ ⊢;generalize hD:s2.heap.objs.size=D;generalize hH3:s2.heap.push { cls:=.type "list",dict:=none,data:=.seq ([]:List Value).toArray }=h3 at hns₁ hsb₁ hcl₁ ⊢;have k23:∀b o,s2.heap.get? b=some o->h3.get? b=some o:=λb o e=>hH3▸ah _ e;have hC:h3.objs.size=D+1:=by rw[<- hH3,aM,hD]
 have eD3:h3.get? D=some { cls:=.type "list",dict:=none,data:=.seq ([]:List Value).toArray }:=by
  rw[<- hH3,<- hD];exact aw _ rfl
 have I3:k8 X pins σ H2 { s2 with heap:=h3 }:=I2.kept (t':=s2.toks) k23;have fD:P2 X pins H2 D:=I2.fpOk oM (I2.hok.fresh oM);have lt2:∀b∈fp,b < D:=λb hb=>by
  obtain⟨o,e,_⟩:=T.obj 0 _ st2 b hb;rw[<- hD];exact ag e
 have f3:∀b∈D::fp,P2 X pins H2 b:=λb hb=>by
  rcases ak.mp hb with rfl | hb
  . exact fD
  . exact f2 b hb
 have hx3:∀b∈D::fp,b < ({ s2 with heap:=h3 }:Shared).heap.objs.size:=λb hb=>by
  show b < h3.objs.size;rcases ak.mp hb with rfl | hb
  . rw[hC];exact bK _
  . rw[hC];exact cV (lt2 b hb)
 have k31:∀b o,h3.get? b=some o->h₁.get? b=some o:=hsb₁;have okX:=DD (C:=h3.objs.size) (xs:=xs) I3 ok f3 hx3 (ae _);have I4:=Bz (C:=h3.objs.size) (xs:=xs) (t':=s2.toks+([]:List (Str × Value)).length) I3 ok f3 hx3 (ae _) hns₁ k31 hcl₁;have mD:D∈D::fp:=aq;have neC:∀b∈D::fp,b≠h3.objs.size:=λb hb=>(okX.exf b hb).1;have stat:∀{H':Hp} {pl:List (Addr × Obj)},(∀b∈fp,H' b=none)->(∀p∈pl,p.1=D)->∀b∈fp,P2 (B5 X scope xs h3.objs.size { s2 with heap:=h3 } H2 (D::fp) (X.pn++pins)) pl H' b:=λhn hpl b hb=>by
  have hb':b∈D::fp:=ay _ hb;refine⟨hn b hb,neC b hb',okX.exfs b hb',.inl hb',(okX.exf b hb').2,λp hp=>?_⟩;rcases aA.mp hp with hp | hp
  . exact(f2 b hb).2.2.2.2.2 p hp
  . rw[hpl p hp];exact bq (lt2 b hb)
 have loop:codeAny (model X.prog X.w) X.A (.compLoop (.ListComp elt [⟨target,iter,[c],0⟩] scope pos) 0 (.ref it) (.ref D) (compEnvC scope (CV X.env scope h3.objs.size) h3.objs.size X.env))
     (compPost (model X.prog X.w) X.A X.xe none (EP X pins σ Q) (.ref D) h3.objs.size) { s2 with heap:=h₁,toks:=s2.toks+([]:List (Str × Value)).length }:=by
  refine IV (λn s'=>∃i ys its k H',k8 (B5 X scope xs h3.objs.size { s2 with heap:=h3 } H2 (D::fp) (X.pn++pins)) [] (σ++List.replicate xs.length none) H' s'/\
   s'.heap.get? D=some { cls:=.type "list",data:=.seq (its:List Value).toArray k }/\r8 ys its/\H' D=none/\tn i s'.heap/\(∀b∈fp,H' b=none)/\W i n ys H') ?_ m0
   ⟨0,[],[],_,H2,I4,k31 _ _ eD3,.nil,fD.1,T.keep _ _ _ st2 (λb _ o e=>k31 b o (k23 b o e)),λb hb=>(f2 b hb).1,w0⟩
  rintro n s' ⟨i,ys,its,k,H',I',eD,rv,nD,st,fr,w⟩;have Ip:=I'.pins_of (pins':=[(D,{ cls:=.type "list",data:=.seq its.toArray k })]) λp hp=>by
   rw[az]at hp;subst hp;exact⟨eD,nD,neC D mD,okX.exfs D mD,λv z=>by cases z⟩
  have one:∀p∈[(D,({ cls:=.type "list",data:=.seq its.toArray k }:Obj))],p.1=D:=λp hp=>by rw[az]at hp;rw[hp]
  rcases turn i n ys H' w with ⟨stop,hz,q⟩ | ⟨go,hz,step⟩
  . refine B6 (T.done (B5 X scope xs h3.objs.size { s2 with heap:=h3 } H2 (D::fp) (X.pn++pins)) rfl rfl rfl hc i _ s' _ H' (λ_ _=>False) Ip (stat fr one) st stop) λr s4 ⟨hr,J4⟩=>?_;subst hr;obtain⟨mm,hnm,_⟩:=J4.loc;refine⟨mm,hnm,λh' sb=>?_⟩;obtain⟨eD4,nD4,_⟩:=J4.pin (D,{ cls:=.type "list",data:=.seq its.toArray k }) (av _ aq);have hb:∀b o,b≠h3.objs.size->s4.heap.get? b=some o->h'.get? b=some o:=λb o hn e=>sb.extBut b o hn e;have u0:Un (En X.stack) (D::fp) H2 H' h3 s4.heap:=J4.base;have u:Un (En X.stack) (D::fp) H2 H' s2.heap h':=((Un.kept k23).trans u0).but hb oM;have os4:s4.os=s2.os:=J4.os;refine⟨.ref D,upd H' D (.lst ys),I2.call' (s':={ s4 with heap:=h' }) (ch:=D::fp) os4 (u.track oM nD4) ((J4.hok.but hb J4.free).track nD4 ⟨hz,its,k,rv,hb D _ (neC D mD) eD4⟩) J4.bare (λb hb=>?_),rfl,q D nD4⟩;have z:=f3 b hb;exact⟨z.2.2.2.1,z.2.1,z.2.2.2.2.1,z.2.2.2.2.2⟩
  . refine B6 (T.item (B5 X scope xs h3.objs.size { s2 with heap:=h3 } H2 (D::fp) (X.pn++pins)) rfl rfl rfl hc i _ s' _ H' (λ_ _=>False) Ip (stat fr one) st go) λr s4 ⟨u,hr,h4⟩=>?_;subst hr;refine B6 h4 λ_ s5 ⟨x,H5,I5,r5,y5,st5,fr5⟩=>?_;have I5':=I5.pinned (stat fr5 one) (T.obj _ _ st5);refine B6 (hg _ _ _ _ _ _ s5 _ H5 x u _ I5' r5 (step x H5 y5)) λ_ s6 ⟨σ6,H6,I6,⟨zs,hz6,hl6⟩,q6⟩=>?_;have pinF:∀{s7:Shared} {σ7:St} {H7:Hp},k8 (B5 X scope xs h3.objs.size { s2 with heap:=h3 } H2 (D::fp) (X.pn++pins)) ([(D,{ cls:=.type "list",data:=.seq its.toArray k })]++DR fp s5.heap) σ7 H7 s7->∀b∈fp,∀o,s5.heap.get? b=some o->s7.heap.get? b=some o/\H7 b=none:=λI7 b hb o e=>
     ⟨(I7.pin (b,o) (av _ (av _ (G9 hb e)))).1,(I7.pin (b,o) (av _ (av _ (G9 hb e)))).2.1⟩
    have back:∀{H7:Hp} {s7:Shared},k8 (B5 X scope xs h3.objs.size { s2 with heap:=h3 } H2 (D::fp) (X.pn++pins)) [] σ6 H7 s7->k8 (B5 X scope xs h3.objs.size { s2 with heap:=h3 } H2 (D::fp) (X.pn++pins)) [] (σ++List.replicate xs.length none) H7 s7:=λI8=>
     I8.weak (by rw[hz6,ai,ai,cz,hl6]) (λj v' e=>by
      have hj:j < σ.length:=by
       by_cases hj:j < σ.length
       . exact hj
       . rw[aQ oM,cy]at e;split at e <;>cases e
      rw[aJ hj]at e;rw[hz6,aJ hj];exact e)
    refine B6 (ht _ _ _ _ _ _ s6 σ6 H6 _ I6 q6) λok s6' ⟨H6',I6',q6'⟩=>?_;cases ok with
    | false=>
     obtain⟨m',hm',w7⟩:=(show ∃m',m' < n/\W (i+1) m' ys H6' from q6');obtain⟨eD7,nD7,_⟩:=I6'.pin (D,{ cls:=.type "list",data:=.seq its.toArray k }) (av _ (aP _ aq));refine⟨m',hm',i+1,ys,its,_,H6',back (I6'.pins_of (pins':=[]) λp hp=>by cases hp),eD7,rv,nD7,T.keep _ _ _ st5 (λb hb o e=>(pinF I6' b hb o e).1),λb hb=>?_,w7⟩;obtain⟨o,e,_⟩:=T.obj _ _ st5 b hb;exact(pinF I6' b hb o e).2
    | true=>
     refine B6 (he _ _ _ _ _ _ s6' σ6 H6' _ I6' q6') λxv s7 ⟨v,H7,I7,r7,m',hm',w7⟩=>?_;obtain⟨eD7,nD7,_⟩:=I7.pin (D,{ cls:=.type "list",data:=.seq its.toArray k }) (av _ (aP _ aq));have len:=rv.length;refine call_meets F.slot_list_append ⟨_,eD7,rfl⟩ F.entry_list_append (F.args_list_append_2 _ _) (cU D its.toArray k xv (by rw[au];omega)) ⟨eD7,?_⟩;have q:=PySem.IsL.update eD7 (λa=>a.push xv);have other:∀b o,b≠D->s7.heap.get? b=some o->(s7.heap.update D (Obj.mapSeq λa=>a.push xv)).get? b=some o:=λb o hb e=>(cA s7.heap _ (Ne.symm hb)).trans e;have I7':=I7.pins_of (pins':=[]) λp hp=>by cases hp
     have I8:=I7'.turned (t':=s7.toks) (it:=D) other nD7 (neC D mD) (.inl mD) (okX.exf D mD).2 (λp hp=>by
      rw[aN]at hp;exact fD.2.2.2.2.2 p hp)
     have e9:its.toArray.push xv=(its++[xv]).toArray:=by simp
     rw[e9]at q;refine⟨m',hm',i+1,ys++[v],its++[xv],_,H7,back I8,q,rv.append (.cons r7 .nil),nD7,T.keep _ _ _ st5 (λb hb o e=>other b o (ao (lt2 b hb)) (pinF I7 b hb o e).1),λb hb=>?_,w7⟩;obtain⟨o,e,_⟩:=T.obj _ _ st5 b hb;exact(pinF I7 b hb o e).2
 exact codeAny_compStart_list loop (T.self _ 0 _ _ _ (T.keep _ _ _ st2 λb _ o e=>k31 b o (k23 b o e)) loop)
def P7{X:Cx}{i₀:Nat}{x₀:Str}{pos₀ pos₁:Pos}{elt target iter:Expr}{scope:Scope}{pos:Pos}{wi:TI}{g:TG}{te:TE}{xs:List Str}(hN:X.N.Nodup)(hi₀:X.N[i₀]? = some x₀)(hx₀:ZW X.env.scope x₀)(hc:X.calm=true)(ok:p9 X.N X.env.scope scope)(hi:PI X target iter wi)
    (hg:∀C s H fp pn,PG (B5 X scope xs C s H fp pn) target g) (he:∀C s H fp pn,PE (B5 X scope xs C s H fp pn) elt te)
    (hs:∀x,foldedSetIterable iter X.env x=pure x:=by intro _;rfl) (hw:swapsWith (.ListComp elt [⟨target,iter,[],0⟩] scope pos) (some (.Name x₀ pos₀)) pos₁.line X.env=pure true:=by rfl)
    (hf₀:X.fn x₀=true\/X.env.scope.names.lookup x₀=some .local:=by first | exact .inl rfl | exact .inr rfl | assumption) :
    PS X (.Assign [.Name x₀ pos₀] (.ListComp elt [⟨target,iter,[],0⟩] scope pos) pos₁) (Pg (QY xs.length wi g te) (y7 i₀)):=by
 intro pins s σ H D₀ I h;rw[exec_Assign_Name_used _ _ _ _ hw];refine wpAny_bind (wpAny_standAt (wpAny_bind ?_));show wpAny _ _ (comprehension _ _ _ _ _ _ _ _ >>= _) _ _ _;refine wpAny_bind (wpAny_comprehension_free (Q:=λ_ s'=>wpAny (model X.prog X.w) X.A (pure ()) (λ_ s''=>wpAny (model X.prog X.w) X.A (pure Flow.next) (SP X pins D₀) X.xe s'') X.xe s') (use:=some (assign (.Name x₀ pos₀) X.env)) rfl hs (T5 (U9 I ok)) ok.kind ok.names (B6 (hi pins s σ H _ I h) λv s1 h1=>B6 h1 λitv s2 h2=>?_));obtain⟨it,fp,tn,J,H2,rfl,I2,T,st2,f2,W,⟨m0,w0⟩,turn⟩:=h2;refine wpAny_newObj_type (Al λh₁ hns₁ hsb₁ hcl₁=>?_);dsimp only at hns₁ hsb₁ hcl₁ ⊢;generalize hD:s2.heap.objs.size=D;generalize hH3:s2.heap.push { cls:=.type "list",dict:=none,data:=.seq ([]:List Value).toArray }=h3 at hns₁ hsb₁ hcl₁ ⊢;have k23:∀b o,s2.heap.get? b=some o->h3.get? b=some o:=λb o e=>hH3▸ah _ e;have hC:h3.objs.size=D+1:=by rw[<- hH3,aM,hD]
 have eD3:h3.get? D=some { cls:=.type "list",dict:=none,data:=.seq ([]:List Value).toArray }:=by
  rw[<- hH3,<- hD];exact aw _ rfl
 have I3:k8 X pins σ H2 { s2 with heap:=h3 }:=I2.kept (t':=s2.toks) k23;have fD:P2 X pins H2 D:=I2.fpOk oM (I2.hok.fresh oM);have lt2:∀b∈fp,b < D:=λb hb=>by
  obtain⟨o,e,_⟩:=T.obj 0 _ st2 b hb;rw[<- hD];exact ag e
 have f3:∀b∈D::fp,P2 X pins H2 b:=λb hb=>by
  rcases ak.mp hb with rfl | hb
  . exact fD
  . exact f2 b hb
 have hx3:∀b∈D::fp,b < ({ s2 with heap:=h3 }:Shared).heap.objs.size:=λb hb=>by
  show b < h3.objs.size;rcases ak.mp hb with rfl | hb
  . rw[hC];exact bK _
  . rw[hC];exact cV (lt2 b hb)
 have k31:∀b o,h3.get? b=some o->h₁.get? b=some o:=hsb₁;have okX:=DD (C:=h3.objs.size) (xs:=xs) I3 ok f3 hx3 (ae _);have I4:=Bz (C:=h3.objs.size) (xs:=xs) (t':=s2.toks+([]:List (Str × Value)).length) I3 ok f3 hx3 (ae _) hns₁ k31 hcl₁;have mD:D∈D::fp:=aq;have neC:∀b∈D::fp,b≠h3.objs.size:=λb hb=>(okX.exf b hb).1;have stat:∀{H':Hp} {pl:List (Addr × Obj)},(∀b∈fp,H' b=none)->(∀p∈pl,p.1=D)->∀b∈fp,P2 (B5 X scope xs h3.objs.size { s2 with heap:=h3 } H2 (D::fp) (X.pn++pins)) pl H' b:=λhn hpl b hb=>by
  have hb':b∈D::fp:=ay _ hb;refine⟨hn b hb,neC b hb',okX.exfs b hb',.inl hb',(okX.exf b hb').2,λp hp=>?_⟩;rcases aA.mp hp with hp | hp
  . exact(f2 b hb).2.2.2.2.2 p hp
  . rw[hpl p hp];exact bq (lt2 b hb)
 have loop:codeAny (model X.prog X.w) X.A (.compLoop (.ListComp elt [⟨target,iter,[],0⟩] scope pos) 0 (.ref it) (.ref D) (compEnvC scope (CV X.env scope h3.objs.size) h3.objs.size X.env))
     (compPost (model X.prog X.w) X.A X.xe (some (assign (.Name x₀ pos₀) X.env)) (λ_ s'=>wpAny (model X.prog X.w) X.A (pure ()) (λ_ s''=>wpAny (model X.prog X.w) X.A (pure Flow.next) (SP X pins D₀) X.xe s'') X.xe s') (.ref D) h3.objs.size) { s2 with heap:=h₁,toks:=s2.toks+([]:List (Str × Value)).length }:=by
  refine Ck (λn s'=>∃i ys its k H',k8 (B5 X scope xs h3.objs.size { s2 with heap:=h3 } H2 (D::fp) (X.pn++pins)) [] (σ++List.replicate xs.length none) H' s'/\
   s'.heap.get? D=some { cls:=.type "list",data:=.seq (its:List Value).toArray k }/\r8 ys its/\H' D=none/\tn i s'.heap/\(∀b∈fp,H' b=none)/\W i n ys H') ?_ m0
   ⟨0,[],[],_,H2,I4,k31 _ _ eD3,.nil,fD.1,T.keep _ _ _ st2 (λb _ o e=>k31 b o (k23 b o e)),λb hb=>(f2 b hb).1,w0⟩
  rintro n s' ⟨i,ys,its,k,H',I',eD,rv,nD,st,fr,w⟩;have Ip:=I'.pins_of (pins':=[(D,{ cls:=.type "list",data:=.seq its.toArray k })]) λp hp=>by
   rw[az]at hp;subst hp;exact⟨eD,nD,neC D mD,okX.exfs D mD,λv z=>by cases z⟩
  have one:∀p∈[(D,({ cls:=.type "list",data:=.seq its.toArray k }:Obj))],p.1=D:=λp hp=>by rw[az]at hp;rw[hp]
  rcases turn i n ys H' w with ⟨stop,hz,q⟩ | ⟨go,hz,step⟩
  . refine B6 (T.done (B5 X scope xs h3.objs.size { s2 with heap:=h3 } H2 (D::fp) (X.pn++pins)) rfl rfl rfl hc i _ s' _ H' (λ_ _=>False) Ip (stat fr one) st stop) λr s4 ⟨hr,J4⟩=>?_;subst hr;obtain⟨mm,hnm,_⟩:=J4.loc;obtain⟨eD4,nD4,_⟩:=J4.pin (D,{ cls:=.type "list",data:=.seq its.toArray k }) (av _ aq);have u0:Un (En X.stack) (D::fp) H2 H' h3 s4.heap:=J4.base;have u:Un (En X.stack) (D::fp) H2 H' s2.heap s4.heap:=(Un.kept k23).trans u0;have os4:s4.os=s2.os:=J4.os;have nC4:H' h3.objs.size=none:=J4.free;have IX:k8 X pins σ (upd H' D (.lst ys)) s4:=I2.call' (s':=s4) (ch:=D::fp) os4 (u.track oM nD4) (J4.hok.track nD4 ⟨hz,its,k,rv,eD4⟩) J4.bare (λb hb=>by
     have z:=f3 b hb;exact⟨z.2.2.2.1,z.2.1,z.2.2.2.2.1,z.2.2.2.2.2⟩)
    have fC:P2 X pins H2 h3.objs.size:=I2.fpOk oM (I2.hok.fresh oM);have nCX:upd H' D (.lst ys) h3.objs.size=none:=by rw[j6 (Ne.symm (neC D mD))];exact nC4
    refine wpAny_assign_Name (Fv IX hN hi₀ hx₀ (v:=.ref D) rfl (λs5 I5 ⟨a5,sb5,ha5⟩=>⟨mm,?_,λh' sb=>?_⟩) hf₀)
    . have:h3.objs.size≠a5:=by
       rcases ha5 with e | e
       . rw[e];exact fC.2.1
       . exact Ne.symm (fC.2.2.2.2.1 x₀ a5 e)
      obtain⟨o,es,ep,e,r⟩:=hnm;exact⟨o,es,ep,sb5.extBut _ _ this e,r⟩
    . have I6:k8 X pins (σ.set i₀ (some (.ref D))) (upd H' D (.lst ys)) { s5 with heap:=h' }:=I5.turned (t':=s5.toks) (it:=h3.objs.size) (λb o hb e=>sb.extBut b o hb e) nCX fC.2.1 fC.2.2.2.1 fC.2.2.2.2.1 fC.2.2.2.2.2;exact wpAny_pure (wpAny_pure ⟨_,_,I6,q D nD4⟩)
  . refine B6 (T.item (B5 X scope xs h3.objs.size { s2 with heap:=h3 } H2 (D::fp) (X.pn++pins)) rfl rfl rfl hc i _ s' _ H' (λ_ _=>False) Ip (stat fr one) st go) λr s4 ⟨u,hr,h4⟩=>?_;subst hr;refine B6 h4 λ_ s5 ⟨x,H5,I5,r5,y5,st5,fr5⟩=>?_;have I5':=I5.pinned (stat fr5 one) (T.obj _ _ st5);refine B6 (hg _ _ _ _ _ _ s5 _ H5 x u _ I5' r5 (step x H5 y5)) λ_ s6 ⟨σ6,H6,I6,⟨zs,hz6,hl6⟩,q6⟩=>?_;refine B6 (he _ _ _ _ _ _ s6 σ6 H6 _ I6 q6) λxv s7 ⟨v,H7,I7,r7,m',hm',w7⟩=>?_;obtain⟨eD7,nD7,_⟩:=I7.pin (D,{ cls:=.type "list",data:=.seq its.toArray k }) (av _ (aP _ aq));have len:=rv.length;refine call_meets F.slot_list_append ⟨_,eD7,rfl⟩ F.entry_list_append (F.args_list_append_2 _ _) (cU D its.toArray k xv (by rw[au];omega)) ⟨eD7,?_⟩;have q:=PySem.IsL.update eD7 (λa=>a.push xv);have other:∀b o,b≠D->s7.heap.get? b=some o->(s7.heap.update D (Obj.mapSeq λa=>a.push xv)).get? b=some o:=λb o hb e=>(cA s7.heap _ (Ne.symm hb)).trans e;have pinF:∀b∈fp,∀o,s5.heap.get? b=some o->s7.heap.get? b=some o/\H7 b=none:=λb hb o e=>
     ⟨(I7.pin (b,o) (av _ (av _ (G9 hb e)))).1,(I7.pin (b,o) (av _ (av _ (G9 hb e)))).2.1⟩
    have I7':=I7.pins_of (pins':=[]) λp hp=>by cases hp
    have I8:=I7'.turned (t':=s7.toks) (it:=D) other nD7 (neC D mD) (.inl mD) (okX.exf D mD).2 (λp hp=>by
     rw[aN]at hp;exact fD.2.2.2.2.2 p hp)
    have I9:=I8.weak (σ':=σ++List.replicate xs.length none) (by rw[hz6,ai,ai,cz,hl6]) (λj v' e=>by
     have hj:j < σ.length:=by
      by_cases hj:j < σ.length
      . exact hj
      . rw[aQ oM,cy]at e;split at e <;>cases e
     rw[aJ hj]at e;rw[hz6,aJ hj];exact e)
    have e9:its.toArray.push xv=(its++[xv]).toArray:=by simp
    rw[e9]at q;refine⟨m',hm',i+1,ys++[v],its++[xv],_,H7,I9,q,rv.append (.cons r7 .nil),nD7,T.keep _ _ _ st5 (λb hb o e=>other b o (ao (lt2 b hb)) (pinF b hb o e).1),λb hb=>?_,w7⟩;obtain⟨o,e,_⟩:=T.obj _ _ st5 b hb;exact(pinF b hb o e).2
 exact codeAny_compStart_list loop (T.self _ 0 _ _ _ (T.keep _ _ _ st2 λb _ o e=>k31 b o (k23 b o e)) loop)
section
variable{prog:Program}{w:World}{A:Around}{E:Value->Shared->Prop}{s:Shared}
def JQ{I t:Addr}{i:Nat}{vs:Array Value}{x:Value}{Q:Value->Shared->Prop}(hI:s.heap.IsTupleIter I t i)(ht:s.heap.IsTuple t vs)(e:vs[i]? = some x)
    (q:∀h',h'.IsTupleIter I t (i+1)->Heap.SameBut I s.heap h'->Q x { s with heap:=h' }):wpAny (model prog w) A (Builtin.SmallTypes.nextOf (.ref I)) Q E s:=by
 obtain⟨o,eo,co,fo⟩:=id hI;obtain⟨u,eu,_,n,fu⟩:=ht;unfold Builtin.SmallTypes.nextOf;refine wpAny_bind (wpAny_callSpecial?_slot (name:=Str.ofString "__next__") hI.typeIs F.slot_tuple_iterator_next (wpAny_call_entry F.slot_tuple_iterator_next hI.typeIs F.entry_tuple_iterator_next ?_ (F.args_tuple_iterator_next_1 _)));show wpAny _ _ (field (.ref I) 0 >>= _) _ _ s;refine wpAny_bind (wpAny_field eo fo (x:=.ref t) rfl ?_);show wpAny _ _ (if(Value.ref t == Value.none)=true then _ else _) _ _ s;rw[if_neg (show ¬((Value.ref t == Value.none)=true)from aG)];show wpAny _ _ (field (.ref I) 1 >>= _) _ _ s;refine wpAny_bind (wpAny_field eo fo (x:=.int i 0) rfl ?_);show wpAny _ _ (seqItems? (.ref t) >>= _) _ _ s;refine wpAny_bind (wpAny_seqItems eu fu ?_);simp only[Int.toNat_natCast,e];refine wpAny_bind (wpAny_setField eo fo (by simp) (wpAny_pure ⟨x,rfl,wpAny_pure (q _ ?_ (Heap.SameBut.update ..))⟩));exact⟨_,Heap.get?_update_self _ eo (Obj.isFreed_of_fields (Obj.data_mapFields fo _)),(Obj.cls_mapFields ..).trans co,by rw[Obj.data_mapFields fo];simp[rawInt]⟩
def Mj{I t:Addr}{i:Nat}{vs:Array Value}{Q:Value->Shared->Prop}(hh:A.handled=none)(hI:s.heap.IsTupleIter I t i)(ht:s.heap.IsTuple t vs)(e:vs[i]? = none)
    (q:∀h' x,Heap.ExtBut I s.heap h'->(∃o,h'.get? x=some o/\o.cls=.type "StopIteration")->E (.ref x) { s with heap:=h' }):wpAny (model prog w) A (Builtin.SmallTypes.nextOf (.ref I)) Q E s:=by
 obtain⟨o,eo,co,fo⟩:=id hI;obtain⟨u,eu,_,n,fu⟩:=ht;unfold Builtin.SmallTypes.nextOf;refine wpAny_bind (wpAny_callSpecial?_slot (name:=Str.ofString "__next__") hI.typeIs F.slot_tuple_iterator_next (wpAny_call_entry F.slot_tuple_iterator_next hI.typeIs F.entry_tuple_iterator_next ?_ (F.args_tuple_iterator_next_1 _)));show wpAny _ _ (field (.ref I) 0 >>= _) _ _ s;refine wpAny_bind (wpAny_field eo fo (x:=.ref t) rfl ?_);show wpAny _ _ (if(Value.ref t == Value.none)=true then _ else _) _ _ s;rw[if_neg (show ¬((Value.ref t == Value.none)=true)from aG)];show wpAny _ _ (field (.ref I) 1 >>= _) _ _ s;refine wpAny_bind (wpAny_field eo fo (x:=.int i 0) rfl ?_);show wpAny _ _ (seqItems? (.ref t) >>= _) _ _ s;refine wpAny_bind (wpAny_seqItems eu fu ?_);simp only[Int.toNat_natCast,e];refine wpAny_bind (wpAny_rule (wpAny_bind (wpAny_setField eo fo (by simp) ?_)));show wpAny _ _ (newExc (.type "StopIteration") [] >>= _) _ _ _;refine wpAny_bind ?_;simp only[newExc,newTuple];refine wpAny_bind (wpAny_newObj_type ?_ (by size_fits));refine wpAny_bind (m:=firstArgMember _ _) (wpAny_of_eq (a:=Value.none) (by first | rfl | (simp only[firstArgMember];rfl)) ?_);refine wpAny_newObj_type ?_ (by size_fits);simp only[raiseNew];refine wpAny_bind (wpAny_handled ?_)
 first | rw[show A.in1.handled=none from hh] | rw[hh]
 refine wpAny_bind (wpAny_pure (wpAny_throw ?_));exact q _ _ (((Heap.SameBut.update ..).extBut.push _).push _) ⟨_,aw _ rfl,rfl⟩
end
inductive Sr
 | lst (a:Addr)
 | tup (a:Addr)
 | str (x:Str)
def Sr.it:Sr->Heap->Addr->Nat->Prop
 | .lst a,h,I,i=>h.IsListIter I a i
 | .tup a,h,I,i=>h.IsTupleIter I a i
 | .str x,h,I,i=>∃t,h.IsStrIter I (strIterType x) x t i
def Sr.has:Sr->Heap->Array Value->Prop
 | .lst a,h,vs=>h.IsList a vs
 | .tup a,h,vs=>h.IsTuple a vs
 | .str x,_,vs=>vs.size=x.cps.size
def Sr.is:Sr->Array Value->Nat->Value->Prop
 | .lst _,vs,i,v=>vs[i]? = some v
 | .tup _,vs,i,v=>vs[i]? = some v
 | .str x,_,i,v=>∃c u,x.cps[i]? = some c/\v=.str ⟨#[c]⟩ u
def Sr.fp:Sr->Addr->List Addr
 | .lst a,I=>[I,a]
 | .tup a,I=>[I,a]
 | .str _,I=>[I]
def Sr.off:Sr->Addr->Prop
 | .lst a,I=>a≠I
 | .tup a,I=>a≠I
 | .str _,_=>True
def Sr.fp_off{S:Sr}{I b:Addr}(h:S.off b)(hb:b≠I):b ∉ S.fp I:=by
 cases S <;>simp[Sr.fp,Sr.off]at h ⊢ <;>first | exact⟨hb,Ne.symm h⟩ | exact hb
def Sr.it.mv{S:Sr}{h h':Heap}{I:Addr}{i:Nat}(x:S.it h I i)(k:∀o,h.get? I=some o->h'.get? I=some o):S.it h' I i:=by
 cases S with
 | lst a=>obtain⟨o,e,r⟩:=x;exact⟨o,k o e,r⟩
 | tup a=>obtain⟨o,e,r⟩:=x;exact⟨o,k o e,r⟩
 | str z=>obtain⟨t,o,e,r⟩:=x;exact⟨t,o,k o e,r⟩
def Sr.it.obj{S:Sr}{h:Heap}{I:Addr}{i:Nat}(x:S.it h I i):∃o,h.get? I=some o/\∀v,o.data≠.cell v:=by
 cases S with
 | lst a=>obtain⟨o,e,_,d⟩:=x;exact⟨o,e,λv z=>by rw[d]at z;cases z⟩
 | tup a=>obtain⟨o,e,_,d⟩:=x;exact⟨o,e,λv z=>by rw[d]at z;cases z⟩
 | str z=>obtain⟨t,o,e,_,d⟩:=x;exact⟨o,e,λv z=>by rw[d]at z;cases z⟩
def Sr.has.mv{S:Sr}{h h':Heap}{vs:Array Value}{I:Addr}(x:S.has h vs)(k:∀b o,b≠I->h.get? b=some o->h'.get? b=some o)(off:S.off I):S.has h' vs:=by
 cases S with
 | lst a=>obtain⟨o,e,r⟩:=x;exact⟨o,k a o off e,r⟩
 | tup a=>obtain⟨o,e,r⟩:=x;exact⟨o,k a o off e,r⟩
 | str z=>exact x
def Sr.draws(S:Sr)(hh:A.handled=none)(I:Addr)(off:S.off I)(vs:Array Value) :
    Draws prog w A I (S.fp I) vs.size (S.is vs) (λi h=>S.it h I i/\S.has h vs):=by
 cases S with
 | lst a=>exact Draws.list hh I a off vs
 | tup a=>exact{
     live:=λ_ _ st=>let⟨o,e,_⟩:=st.1;⟨o,e⟩
     frame:=λ_ _ _ st k=>⟨let⟨o,e,r⟩:=st.1;⟨o,k I (by simp[Sr.fp]) o e,r⟩,let⟨o,e,r⟩:=st.2;⟨o,k a (by simp[Sr.fp]) o e,r⟩⟩
     item:=λi s Q E hi st q=>JQ st.1 st.2 (x:=vs[i]) (by simp[hi]) λh' a' b'=>q _ h' s.toks (show vs[i]? = some vs[i] by simp[hi]) ⟨a',Heap.IsTuple.extBut st.2 b'.extBut off⟩ b'
     done:=λs Q E st q=>Mj hh st.1 st.2 (by simp) q }
 | str x=>
  cases ha:x.cps.all (· < 128)with
  | true=>
   have e:strIterType x="str_ascii_iterator":=by simp[strIterType,ha]
   exact{
    live:=λ_ _ st=>let⟨_,o,e,_⟩:=st.1;⟨o,e⟩
    frame:=λ_ _ _ st k=>⟨let⟨t,o,e,r⟩:=st.1;⟨t,o,k I (by simp[Sr.fp]) o e,r⟩,st.2⟩
    item:=λi s Q E hi st q=>by
     obtain⟨⟨t,g⟩,z⟩:=st;have hz:vs.size=x.cps.size:=z;rw[e]at g;exact(Draws.strAscii (prog:=prog) (w:=w) hh I x t).item i s Q E oM g λv h' tk p st' sb=>q v h' tk p ⟨⟨t,by rw[e];exact st'⟩,z⟩ sb
    done:=λs Q E st q=>by
     obtain⟨⟨t,g⟩,z⟩:=st;have hz:vs.size=x.cps.size:=z;rw[e,hz]at g;exact(Draws.strAscii (prog:=prog) (w:=w) hh I x t).done s Q E g q }
  | false=>
   have e:strIterType x="str_iterator":=by simp[strIterType,ha]
   exact{
    live:=λ_ _ st=>let⟨_,o,e,_⟩:=st.1;⟨o,e⟩
    frame:=λ_ _ _ st k=>⟨let⟨t,o,e,r⟩:=st.1;⟨t,o,k I (by simp[Sr.fp]) o e,r⟩,st.2⟩
    item:=λi s Q E hi st q=>by
     obtain⟨⟨t,g⟩,z⟩:=st;have hz:vs.size=x.cps.size:=z;rw[e]at g;exact(Draws.strWide (prog:=prog) (w:=w) hh I x t).item i s Q E oM g λv h' tk p st' sb=>q v h' tk p ⟨⟨t,by rw[e];exact st'⟩,z⟩ sb
    done:=λs Q E st q=>by
     obtain⟨⟨t,g⟩,z⟩:=st;have hz:vs.size=x.cps.size:=z;rw[e,hz]at g;exact(Draws.strWide (prog:=prog) (w:=w) hh I x t).done s Q E g q }
structure ZA(S1 S2:Sr)(z TI TO i1 i2:Addr):Prop where
 a:TI≠z
 b:TO≠z
 c:i1≠z
 d:i2≠z
 e:TI≠TO
 f:TI≠i1
 g:TI≠i2
 h:TO≠i1
 i:TO≠i2
 j:i1≠i2
 k:∀x∈[z,TO,i1,i2],S1.off x/\S2.off x
structure ZS(S1 S2:Sr)(v1 v2:Array Value)(z TI TO i1 i2:Addr)(n:Nat)(u:Value)(h:Heap):Prop where
 z:IsZip h z TI TO u
 ti:IsPair h TI (.ref i1) (.ref i2)
 to:∃x y,IsPair h TO x y
 s1:S1.it h i1 n
 s2:S2.it h i2 n
 h1:S1.has h v1
 h2:S2.has h v2
section
variable{prog:Program}{w:World}{A:Around}{E:Value->Shared->Prop}{s:Shared}{S1 S2:Sr}{v1 v2:Array Value}{z TI TO i1 i2:Addr}{n:Nat}
def MR(D:ZA S1 S2 z TI TO i1 i2)(hh:A.handled=none)(Z:ZS S1 S2 v1 v2 z TI TO i1 i2 n .none s.heap)(l1:n < v1.size)(l2:n < v2.size){Q:Value->Shared->Prop}
    (q:∀x y h' tk,S1.is v1 n x->S2.is v2 n y->ZS S1 S2 v1 v2 z TI TO i1 i2 (n+1) (rawInt s.heap.objs.size) h'->IsPair h' s.heap.objs.size x y->h'.objs.size=s.heap.objs.size+1->
     (∀c o,c≠z->c≠TO->c≠i1->c≠i2->s.heap.get? c=some o->h'.get? c=some o)->Q (.ref s.heap.objs.size) { s with heap:=h',toks:=tk }) :
    wpAny (model prog w) A (Builtin.«zip.__next__» ⟨[.ref z],[]⟩) (λfin s'=>∃v,fin=.done (.ret v)/\Q v s') E s:=by
 obtain⟨hp,g0,d0,tk0,os0⟩:=s;obtain⟨Zz,Zi,⟨x0,y0,Zo⟩,Z1,Z2,Y1,Y2⟩:=Z;have oz:=D.k z (by simp);have oT:=D.k TO (by simp);have o1:=D.k i1 (by simp);have o2:=D.k i2 (by simp);show wpAny _ _ (field (.ref z) 2 >>= _) _ _ _;refine wpAny_bind (wpAny_field Zz rfl (x:=.bool false) rfl ?_);show wpAny _ _ (field (.ref z) 3 >>= _) _ _ _;refine wpAny_bind (wpAny_field Zz rfl (x:=.ref TI) rfl ?_);refine wpAny_bind (wpAny_seqItems Zi rfl ?_);show wpAny _ _ (Builtin.SmallTypes.ownedTupleIsFree (.ref z) >>= _) _ _ _;refine wpAny_bind ?_;unfold Builtin.SmallTypes.ownedTupleIsFree;refine wpAny_bind (wpAny_field Zz rfl (x:=.none) rfl (wpAny_pure ?_));simp only[if_true];refine wpAny_bind (wpAny_rule ?_);refine wpAny_bind (wpAny_field Zz rfl (x:=.ref TO) rfl ?_);refine wpAny_bind (wpAny_setField_rec Zz (by simp) λg1 Za b1=>?_)
 replace Za:IsZip g1 z TI TO .ellipsis:=Za
 replace b1:Heap.SameBut z hp g1:=b1
 refine wpAny_bind ?_;simp only[List.zipIdx_cons,List.zipIdx_nil,cH,List.forIn_nil];refine wpAny_bind (wpAny_bind (wpAny_onRaise ?_));show wpAny _ _ (Builtin.SmallTypes.nextOf (.ref i1) >>= _) _ _ _;refine wpAny_bind ((S1.draws hh i1 o1.1 v1).item n _ _ _ l1 ⟨Z1.mv λo e=>b1.extBut _ _ D.c e,Y1.mv (λb o hb e=>b1.extBut _ _ hb e) oz.1⟩ λx g2 k2 px st2 b2=>wpAny_pure ?_)
 replace b2:Heap.SameBut i1 g1 g2:=b2
 have To2:IsPair g2 TO x0 y0:=b2.extBut _ _ D.h (b1.extBut _ _ D.b Zo);refine wpAny_bind (wpAny_seqItems To2 rfl ?_);refine wpAny_bind (wpAny_updateSeq_pair To2 λg3 To3 b3=>?_)
 replace To3:IsPair g3 TO x y0:=To3
 replace b3:Heap.SameBut TO g2 g3:=b3
 refine wpAny_bind (wpAny_letGo (wpAny_pure ?_));refine wpAny_bind (wpAny_bind (wpAny_onRaise ?_));show wpAny _ _ (Builtin.SmallTypes.nextOf (.ref i2) >>= _) _ _ _;refine wpAny_bind ((S2.draws hh i2 o2.2 v2).item n _ _ _ l2 ⟨Z2.mv λo e=>b3.extBut _ _ D.i.symm (b2.extBut _ _ D.j.symm (b1.extBut _ _ D.d e)),
  ((Y2.mv (λb o hb e=>b1.extBut _ _ hb e) oz.2).mv (λb o hb e=>b2.extBut _ _ hb e) o1.2).mv (λb o hb e=>b3.extBut _ _ hb e) oT.2⟩ λy g4 k4 py st4 b4=>wpAny_pure ?_)
 replace b4:Heap.SameBut i2 g3 g4:=b4
 have To4:IsPair g4 TO x y0:=b4.extBut _ _ D.i To3;refine wpAny_bind (wpAny_seqItems To4 rfl ?_);refine wpAny_bind (wpAny_updateSeq_pair To4 λg5 To5 b5=>?_)
 replace To5:IsPair g5 TO x y:=To5
 replace b5:Heap.SameBut TO g4 g5:=b5
 refine wpAny_bind (wpAny_letGo (wpAny_pure (wpAny_pure ?_)));refine wpAny_bind (wpAny_seqItems To5 rfl ?_);refine wpAny_bind (wpAny_newTuple ?_);have sz:g5.objs.size=hp.objs.size:=by rw[b5.1,b4.1,b3.1,b2.1,b1.1]
 have Z5:IsZip g5 z TI TO .ellipsis:=b5.extBut _ _ D.b.symm (b4.extBut _ _ D.d.symm (b3.extBut _ _ D.b.symm (b2.extBut _ _ D.c.symm Za)));have up5:∀c o,c≠z->c≠TO->c≠i1->c≠i2->hp.get? c=some o->g5.get? c=some o:=λc o n1 n2 n3 n4 e=>b5.extBut _ _ n2 (b4.extBut _ _ n4 (b3.extBut _ _ n2 (b2.extBut _ _ n3 (b1.extBut _ _ n1 e))));have I1:S1.it g5 i1 (n+1):=st2.1.mv λo e=>b5.extBut _ _ D.h.symm (b4.extBut _ _ D.j (b3.extBut _ _ D.h.symm e));have I2:S2.it g5 i2 (n+1):=st4.1.mv λo e=>b5.extBut _ _ D.i.symm e;have H1:S1.has g5 v1:=((st2.2.mv (λb o hb e=>b3.extBut _ _ hb e) oT.1).mv (λb o hb e=>b4.extBut _ _ hb e) o2.1).mv (λb o hb e=>b5.extBut _ _ hb e) oT.1;have H2:S2.has g5 v2:=st4.2.mv (λb o hb e=>b5.extBut _ _ hb e) oT.2;have zlt:z < g5.objs.size:=ag Z5;show wpAny _ _ (Builtin.SmallTypes.ownedTupleHandOut (.ref z) (.ref g5.objs.size) >>= _) _ _ _;refine wpAny_bind ?_;unfold Builtin.SmallTypes.ownedTupleHandOut;have Z6:IsZip (g5.push { cls:=.type "tuple",data:=.seq #[x,y] }) z TI TO .ellipsis:=ah _ Z5;refine wpAny_bind (wpAny_setField_rec Z6 (by simp) λg7 Z7 b7=>?_)
 replace Z7:IsZip g7 z TI TO (rawInt g5.objs.size):=Z7
 refine wpAny_setField_rec Z7 (by simp) λg8 Z8 b8=>?_
 replace Z8:IsZip g8 z TI TO (rawInt g5.objs.size):=Z8
 have up:∀c o,c≠z->g5.get? c=some o->g8.get? c=some o:=λc o n1 e=>b8.extBut _ _ n1 (b7.extBut _ _ n1 (ah _ e));have T8:IsPair g8 g5.objs.size x y:=b8.extBut _ _ (bq zlt) (b7.extBut _ _ (bq zlt) (aw _ rfl));have sz8:g8.objs.size=g5.objs.size+1:=by rw[b8.1,b7.1,aM]
 rw[sz]at Z8 T8 sz8;refine wpAny_pure ⟨_,rfl,?_⟩;show Q (.ref g5.objs.size) _;rw[sz];exact q x y g8 k4 px py ⟨Z8,up _ _ D.a (up5 _ _ D.a D.e D.f D.g Zi),⟨_,_,up _ _ D.b To5⟩,I1.mv λo e=>up _ o D.c e,I2.mv λo e=>up _ o D.d e,
  H1.mv (λb o hb e=>up b o hb e) oz.1,H2.mv (λb o hb e=>up b o hb e) oz.2⟩ T8 sz8 λc o n1 n2 n3 n4 e=>up c o n1 (up5 c o n1 n2 n3 n4 e)
def OX(D:ZA S1 S2 z TI TO i1 i2)(hh:A.handled=none)(Z:ZS S1 S2 v1 v2 z TI TO i1 i2 n .none s.heap)(l:n=v1.size\/(n < v1.size/\n=v2.size)){Q:Fin->Shared->Prop}
    (q:∀h' x tk,(∀c o,c≠z->c≠TO->c≠i1->c≠i2->s.heap.get? c=some o->h'.get? c=some o)->(∃o,h'.get? x=some o/\o.cls=.type "StopIteration")->E (.ref x) { s with heap:=h',toks:=tk }) :
    wpAny (model prog w) A (Builtin.«zip.__next__» ⟨[.ref z],[]⟩) Q E s:=by
 obtain⟨hp,g0,d0,tk0,os0⟩:=s;obtain⟨Zz,Zi,⟨x0,y0,Zo⟩,Z1,Z2,Y1,Y2⟩:=Z;have oz:=D.k z (by simp);have oT:=D.k TO (by simp);have o1:=D.k i1 (by simp);have o2:=D.k i2 (by simp);show wpAny _ _ (field (.ref z) 2 >>= _) _ _ _;refine wpAny_bind (wpAny_field Zz rfl (x:=.bool false) rfl ?_);show wpAny _ _ (field (.ref z) 3 >>= _) _ _ _;refine wpAny_bind (wpAny_field Zz rfl (x:=.ref TI) rfl ?_);refine wpAny_bind (wpAny_seqItems Zi rfl ?_);show wpAny _ _ (Builtin.SmallTypes.ownedTupleIsFree (.ref z) >>= _) _ _ _;refine wpAny_bind ?_;unfold Builtin.SmallTypes.ownedTupleIsFree;refine wpAny_bind (wpAny_field Zz rfl (x:=.none) rfl (wpAny_pure ?_));simp only[if_true];refine wpAny_bind (wpAny_rule ?_);refine wpAny_bind (wpAny_field Zz rfl (x:=.ref TO) rfl ?_);refine wpAny_bind (wpAny_setField_rec Zz (by simp) λg1 Za b1=>?_)
 replace Za:IsZip g1 z TI TO .ellipsis:=Za
 replace b1:Heap.SameBut z hp g1:=b1
 refine wpAny_bind ?_;simp only[List.zipIdx_cons,List.zipIdx_nil,cH,List.forIn_nil];have W1:S1.it g1 i1 n/\S1.has g1 v1:=⟨Z1.mv λo e=>b1.extBut _ _ D.c e,Y1.mv (λb o hb e=>b1.extBut _ _ hb e) oz.1⟩;refine wpAny_bind (wpAny_bind (wpAny_onRaise ?_));show wpAny _ _ (Builtin.SmallTypes.nextOf (.ref i1) >>= _) _ _ _;rcases l with l | ⟨l1,l2⟩
 . refine wpAny_bind ((S1.draws hh i1 o1.1 v1).done _ _ _ (l▸W1) λg2 x b2 ⟨ox,ex,cx⟩=>?_);have Zb:IsZip g2 z TI TO .ellipsis:=b2 _ _ D.c.symm Za;have xz:x≠z:=λe=>by subst e;rw[Zb]at ex;cases ex;simp at cx
   refine wpAny_setField_rec Zb (by simp) λg3 _ b3=>q g3 x tk0 (λc o n1 _ n3 _ e=>b3.extBut _ _ n1 (b2 _ _ n3 (b1.extBut _ _ n1 e))) ⟨ox,b3.extBut _ _ xz ex,cx⟩
 . refine wpAny_bind ((S1.draws hh i1 o1.1 v1).item n _ _ _ l1 W1 λx g2 k2 px st2 b2=>wpAny_pure ?_)
   replace b2:Heap.SameBut i1 g1 g2:=b2
   have To2:IsPair g2 TO x0 y0:=b2.extBut _ _ D.h (b1.extBut _ _ D.b Zo);refine wpAny_bind (wpAny_seqItems To2 rfl ?_);refine wpAny_bind (wpAny_updateSeq_pair To2 λg3 To3 b3=>?_)
   replace b3:Heap.SameBut TO g2 g3:=b3
   refine wpAny_bind (wpAny_letGo (wpAny_pure ?_));refine wpAny_bind (wpAny_bind (wpAny_onRaise ?_));show wpAny _ _ (Builtin.SmallTypes.nextOf (.ref i2) >>= _) _ _ _;refine wpAny_bind ((S2.draws hh i2 o2.2 v2).done _ _ _ (l2▸⟨Z2.mv λo e=>b3.extBut _ _ D.i.symm (b2.extBut _ _ D.j.symm (b1.extBut _ _ D.d e)),
    ((Y2.mv (λb o hb e=>b1.extBut _ _ hb e) oz.2).mv (λb o hb e=>b2.extBut _ _ hb e) o1.2).mv (λb o hb e=>b3.extBut _ _ hb e) oT.2⟩) λg4 x' b4 ⟨ox,ex,cx⟩=>?_)
   have Zb:IsZip g4 z TI TO .ellipsis:=b4 _ _ D.d.symm (b3.extBut _ _ D.b.symm (b2.extBut _ _ D.c.symm Za));have xz:x'≠z:=λe=>by subst e;rw[Zb]at ex;cases ex;simp at cx
   refine wpAny_setField_rec Zb (by simp) λg5 _ b5=>q g5 x' k2 (λc o n1 n2 n3 n4 e=>b5.extBut _ _ n1 (b4 _ _ n4 (b3.extBut _ _ n2 (b2.extBut _ _ n3 (b1.extBut _ _ n1 e))))) ⟨ox,b5.extBut _ _ xz ex,cx⟩
end
def KM(h:Heap)(v:Value)(o:Obj):Prop:=∀(prog:Program) (w:World) (A:Around) (E:Value->Shared->Prop) (s:Shared) (Q:Value->Shared->Prop),(∀b u,h.get? b=some u->s.heap.get? b=some u)->
 Q (.ref s.heap.objs.size) { s with heap:=s.heap.push o }->wpAny (model prog w) A (pyIter v) Q E s
def Sr.val:Sr->Value->Prop
 | .lst a,v=>v=.ref a
 | .tup a,v=>v=.ref a
 | .str x,v=>∃t,v=.str x t
def Sr.begins{S:Sr}{h:Heap}{v:Value}{vs:Array Value}(e:S.val v)(x:S.has h vs):∃o:Obj,KM h v o/\o.isFreed=false/\∀(h':Heap) (I:Addr),h'.get? I=some o->S.it h' I 0:=by
 cases S with
 | lst a=>
  cases (show v=.ref a from e);exact⟨_,λ_ _ _ _ s Q k q=>wpAny_pyIter_list (let⟨o,e,r⟩:=x;⟨o,k a o e,r⟩) q,rfl,λh' I e=>⟨_,e,rfl,rfl⟩⟩
 | tup a=>
  cases (show v=.ref a from e);exact⟨_,λ_ _ _ _ s Q k q=>wpAny_pyIter_tuple (let⟨o,e,r⟩:=x;⟨o,k a o e,r⟩) q,rfl,λh' I e=>⟨_,e,rfl,rfl⟩⟩
 | str z=>
  obtain⟨t,rfl⟩:=(show ∃t,v=.str z t from e);exact⟨_,λ_ _ _ _ s Q k q=>wpAny_pyIter_strU q,rfl,λh' I e=>⟨t,_,e,rfl,rfl⟩⟩
abbrev zh2(h:Heap)(o1 o2:Obj):Heap:=(h.push o1).push o2
abbrev zh3(h:Heap)(o1 o2:Obj):Heap:=(zh2 h o1 o2).push { cls:=.type "tuple",data:=.seq #[.ref h.objs.size,.ref (h.push o1).objs.size] }
abbrev zh4(h:Heap)(o1 o2:Obj):Heap:=(zh3 h o1 o2).push { cls:=.type "tuple",data:=.seq #[.none,.none] }
abbrev QU(h:Heap)(o1 o2:Obj):Heap:=(zh4 h o1 o2).push { cls:=.type "zip",data:=.fields #[.none,.bool false,.bool false,.ref (zh2 h o1 o2).objs.size,.ref (zh3 h o1 o2).objs.size] }
def OW(a b:Value)(o1 o2:Obj):Meets (Builtin.«zip.__new__» ⟨[.type "zip",a,b],[]⟩) (λ_ R s=>KM s.heap a o1/\KM s.heap b o2/\
      R (.ok (.ret (.ref (zh4 s.heap o1 o2).objs.size))) { s with heap:=QU s.heap o1 o2 }):=
 .of_wp λprog w A R s h=>by
  obtain⟨hp,g,d,tk,os⟩:=s;obtain⟨h1,h2,h⟩:=h;have hsub:=sub_zip;have k1:∀{A':Around} {E':Value->Shared->Prop} {Q:Value->Shared->Prop},Q (.ref (Shared.heap ⟨hp,g,d,tk,os⟩).objs.size) ⟨hp.push o1,g,d,tk,os⟩->wpAny (model prog w) A' (pyIter a) Q E' ⟨hp,g,d,tk,os⟩:=λq=>h1 _ _ _ _ _ _ (λ_ _ e=>e) q;have k2:∀{A':Around} {E':Value->Shared->Prop} {Q:Value->Shared->Prop},Q (.ref (Shared.heap ⟨hp.push o1,g,d,tk,os⟩).objs.size) ⟨(hp.push o1).push o2,g,d,tk,os⟩->wpAny (model prog w) A' (pyIter b) Q E' ⟨hp.push o1,g,d,tk,os⟩:=λq=>h2 _ _ _ _ _ _ (λ_ _ e=>ah _ e) q
  wp_walk using k1,k2
  exact⟨_,rfl,h⟩
def OM{prog:Program}{w:World}{A:Around}{E:Value->Shared->Prop}{s:Shared}{S1 S2:Sr}{v1 v2:Array Value}{a b:Value}{Q:Value->Shared->Prop}(e1:S1.val a)(e2:S2.val b)(x1:S1.has s.heap v1)(x2:S2.has s.heap v2)
    (q:∀h',ZS S1 S2 v1 v2 (s.heap.objs.size+4) (s.heap.objs.size+2) (s.heap.objs.size+3) s.heap.objs.size (s.heap.objs.size+1) 0 .none h'->ZA S1 S2 (s.heap.objs.size+4) (s.heap.objs.size+2) (s.heap.objs.size+3) s.heap.objs.size (s.heap.objs.size+1)->
     (∀c o,s.heap.get? c=some o->h'.get? c=some o)->Q (.ref (s.heap.objs.size+4)) { s with heap:=h' }):wpAny (model prog w) A (call (.type "zip") [a,b]) Q E s:=by
 obtain⟨o1,B1,f1,I1⟩:=Sr.begins e1 x1;obtain⟨o2,B2,f2,I2⟩:=Sr.begins e2 x2;refine callType_new F.called_zip (by decide) (F.typeCall_zip_2 _ _) (F.newCall_zip_2 _ _) (λobj=>F.args_object_init_3 obj _ _) F.entry_zip_new (OW a b o1 o2) ⟨B1,B2,?_⟩;have y1:(s.heap.push o1).objs.size=s.heap.objs.size+1:=aM ..;have y2:(zh2 s.heap o1 o2).objs.size=s.heap.objs.size+2:=by rw[aM,y1]
 have y3:(zh3 s.heap o1 o2).objs.size=s.heap.objs.size+3:=by rw[aM,y2]
 have y4:(zh4 s.heap o1 o2).objs.size=s.heap.objs.size+4:=by rw[aM,y3]
 have g5:(QU s.heap o1 o2).get? (zh4 s.heap o1 o2).objs.size=some _:=aw _ rfl;have g4:(QU s.heap o1 o2).get? (zh3 s.heap o1 o2).objs.size=some _:=ah _ (aw _ rfl);have g3:(QU s.heap o1 o2).get? (zh2 s.heap o1 o2).objs.size=some _:=ah _ (ah _ (aw _ rfl));have g2:(QU s.heap o1 o2).get? (s.heap.push o1).objs.size=some o2:=ah _ (ah _ (ah _ (aw _ f2)));have g1:(QU s.heap o1 o2).get? s.heap.objs.size=some o1:=ah _ (ah _ (ah _ (ah _ (aw _ f1))));have up:∀c o,s.heap.get? c=some o->(QU s.heap o1 o2).get? c=some o:=λc o x=>ah _ (ah _ (ah _ (ah _ (ah _ x))));have off:∀{S:Sr} {vs:Array Value} (k:Nat),S.has s.heap vs->S.off (s.heap.objs.size+k):=λ{S vs} k x=>by
  cases S with
  | lst a=>obtain⟨o,e,_⟩:=x;exact ao (ar (ag e) (cW _ k))
  | tup a=>obtain⟨o,e,_⟩:=x;exact ao (ar (ag e) (cW _ k))
  | str z=>exact trivial
 have keep:∀{S:Sr} {vs:Array Value},S.has s.heap vs->S.has (QU s.heap o1 o2) vs:=λ{S vs} x=>by
  cases S with
  | lst a=>obtain⟨o,e,r⟩:=x;exact⟨o,up _ _ e,r⟩
  | tup a=>obtain⟨o,e,r⟩:=x;exact⟨o,up _ _ e,r⟩
  | str z=>exact x
 show _/\_;rw[y2,y3,y4]at g5;rw[y1,y2]at g3;rw[y3]at g4;rw[y1]at g2;rw[y4];refine⟨⟨_,g5,rfl⟩,q _ ⟨g5,g3,⟨_,_,g4⟩,I1 _ _ g1,I2 _ _ g2,keep x1,keep x2⟩ ?_ up⟩;have ne:∀i j:Nat,i≠j->s.heap.objs.size+i≠s.heap.objs.size+j:=λi j hn h=>hn (Nat.add_left_cancel h);refine⟨ne 2 4 (by decide),ne 3 4 (by decide),ne 0 4 (by decide),ne 1 4 (by decide),ne 2 3 (by decide),ne 2 0 (by decide),ne 2 1 (by decide),ne 3 0 (by decide),ne 3 1 (by decide),ne 0 1 (by decide),λx hx=>?_⟩;simp only[ak,bE,or_false]at hx;rcases hx with rfl | rfl | rfl | rfl
 . exact⟨off 4 x1,off 4 x2⟩
 . exact⟨off 3 x1,off 3 x2⟩
 . exact⟨off 0 x1,off 0 x2⟩
 . exact⟨off 1 x1,off 1 x2⟩
abbrev UC(l:Addr):Obj:={ cls:=.type "tuple_iterator",data:=.fields #[.ref l,.int 0 0] }
abbrev enO(i:Addr):Obj:={ cls:=.type "enumerate",data:=.fields #[.none,.bool false,.ref i,rawInt 0,.none,.none] }
def ME(l:Addr)(vs:Array Value)(n:Nat)(dct:Option Addr)(sl:Array (Option Value)) :
    Meets (Builtin.«enumerate.__new__» ⟨[.type "enumerate",.ref l],[]⟩) (λ_ R s=>s.heap.get? l=some { cls:=.type "tuple",dict:=dct,data:=.seq vs n,slots:=sl }/\
     R (.ok (.ret (.ref (s.heap.push (UC l)).objs.size))) { s with heap:=(s.heap.push (UC l)).push (enO s.heap.objs.size) }):=
 .of_wp λprog w A R s h=>by
  obtain⟨hp,g,d,tk,os⟩:=s;obtain⟨hl,h⟩:=h;have hsub:=sub_enumerate;have hL:Heap.IsTuple (Shared.heap ⟨hp,g,d,tk,os⟩) l vs:=⟨_,hl,rfl,n,rfl⟩
  wp_walk using AutoSeq1.wpAny_loadPart' hl
  refine wpAny_stack_any λst=>wpAny_pure ?_;split
  . rename_i c _ _ _ _ _;cases (c == Value.type "enumerate")
    . wp_walk using AutoSeq1.wpAny_loadPart' hl,wpAny_pyIter_tuple hL;exact⟨_,rfl,h⟩
    . wp_walk using AutoSeq1.wpAny_loadPart' hl,wpAny_pyIter_tuple hL;exact⟨_,rfl,h⟩
  . wp_walk using AutoSeq1.wpAny_loadPart' hl,wpAny_pyIter_tuple hL;exact⟨_,rfl,h⟩
def Kz{prog:Program}{w:World}{A:Around}{E:Value->Shared->Prop}{s:Shared}{l:Addr}{vs:Array Value}{Q:Value->Shared->Prop}(hL:s.heap.IsTuple l vs)
    (h:∀h',IsEnum h' (s.heap.objs.size+1) s.heap.objs.size 0 .none->h'.IsTupleIter s.heap.objs.size l 0->(∀b o,s.heap.get? b=some o->h'.get? b=some o)->Q (.ref (s.heap.objs.size+1)) { s with heap:=h' }) :
    wpAny (model prog w) A (call (.type "enumerate") [.ref l]) Q E s:=by
 obtain⟨⟨c,dct,dt,sl⟩,hl,hc,n,hd⟩:=hL
 replace hc:c=.type "tuple":=hc;replace hd:dt=.seq vs n:=hd;subst hc hd
 refine callType_new F.called_enumerate (by decide) (F.typeCall_enumerate_1 _) (F.newCall_enumerate_1 _) (λobj=>F.args_object_init_2 obj _) F.entry_enumerate_new (ME l vs n dct sl) ⟨hl,?_⟩;have hz:(s.heap.push (UC l)).objs.size=s.heap.objs.size+1:=aM ..;show _/\_;rw[hz];have he:IsEnum ((s.heap.push (UC l)).push (enO s.heap.objs.size)) (s.heap.objs.size+1) s.heap.objs.size 0 .none:=by
  have:=aw (s.heap.push (UC l)) (o:=enO s.heap.objs.size) rfl;rw[hz]at this;exact this
 exact⟨⟨_,he,rfl⟩,h _ he ⟨_,ah _ (aw _ rfl),rfl,rfl⟩ λb o x=>ah _ (ah _ x)⟩
def MJ{prog:Program}{w:World}{A:Around}{E:Value->Shared->Prop}{s:Shared}{S:Sr}{vs:Array Value}{v:Value}{Q:Value->Shared->Prop}(e:S.val v)(x:S.has s.heap vs)
    (h:∀h',IsEnum h' (s.heap.objs.size+1) s.heap.objs.size 0 .none->S.it h' s.heap.objs.size 0->(∀b o,s.heap.get? b=some o->h'.get? b=some o)->Q (.ref (s.heap.objs.size+1)) { s with heap:=h' }) :
    wpAny (model prog w) A (call (.type "enumerate") [v]) Q E s:=by
 cases S with
 | lst a=>cases (show v=.ref a from e);exact call_enumerate_list x λh' a b _ c=>h h' a b c
 | tup a=>cases (show v=.ref a from e);exact Kz x h
 | str z=>obtain⟨t,rfl⟩:=(show ∃t,v=.str z t from e);exact call_enumerate_str λh' a b _ c=>h h' a ⟨t,b⟩ c
section
variable{X:Cx}{pins:List (Addr × Obj)}{σ:St}{H:Hp}{s:Shared}{h':Heap}
def k8.turneds{t':Nat}{ch:List Addr}(I:k8 X pins σ H s)(k:∀b o,b ∉ ch->s.heap.get? b=some o->h'.get? b=some o)(hf:∀b∈ch,P2 X pins H b):k8 X pins σ H { s with heap:=h',toks:=t' }:=by
 have nit:∀b u,H b=some u->b ∉ ch:=λb u e z=>by rw[(hf b z).1]at e;cases e
 refine I.step (g':=s.gens) (d':=s.drawn) (ch:=ch) (λb hb=>?_) (λb o _ _ hc e _=>k b o hc e) (λb o _ _ hc e _=>⟨o.slots,k b o hc e⟩) (λ_ _ _ _ n=>n) (λb o hc e=>⟨o,k b o hc e⟩) (λ_ _ e=>e) (λ_ _ _ e=>e)
  (λb ps e=>⟨#[],by rw[e];simp⟩) (λm hm=>?_) (λb u e=>?_) I.bare
 . obtain⟨f0,f1,f2,f3,f4,f5⟩:=hf b hb;exact⟨f3,f1,f4,f5⟩
 . obtain⟨o,es,ep,ho,r⟩:=hm;exact⟨o,es,ep,k _ o (λz=>(hf _ z).2.1 rfl) ho,r⟩
 . refine(I.hok b u e).stay (λc v hc q=>k c v ?_ q) (λ_ q=>q) λ_ _ q=>q;rcases hc with z | z
   . rw[z];exact nit b u e
   . exact nit c _ z
theorem k8.track(I:k8 X pins σ H s)(hs:X.s₀.heap.objs.size<=a)(f:P2 X pins H a)(new:I0 X.prog X.w (upd H a o) s.heap a o):k8 X pins σ (upd H a o) s:=
 ⟨I.ok,I.os,I.bare,I.base.track hs f.1,I.loc,I.cell,by rw[j6 (Ne.symm f.2.1)];exact I.free,λx c e=>by rw[j6 (f.2.2.2.2.1 x c e)];exact I.freeC x c e,λp hp=>by
  obtain⟨e,n,r⟩:=I.pin p hp;exact⟨e,by rw[j6 (f.2.2.2.2.2 p hp)];exact n,r⟩,I.hok.track f.1 new,I.len⟩
end
def W7(x:Str):List V:=x.cps.toList.map λc=>V.str ⟨#[c]⟩
def Sr.vals(K:aa)(H:Hp):Sr->List V->Prop
 | .lst a,xs=>t8 K H a xs
 | .tup a,xs=>o7 K H a xs
 | .str x,xs=>xs=W7 x
def Sr.ofV:Sr->V->Prop
 | .lst a,v=>v=.ref a
 | .tup a,v=>v=.ref a
 | .str x,v=>v=.str x
section
variable{X:Cx}{pins:List (Addr × Obj)}{σ:St}{H:Hp}{s:Shared}{S:Sr}{xs ys:List V}
theorem Sr.vals.get(I:k8 X pins σ H s)(h:S.vals X.K H xs):∃vs,S.has s.heap vs/\vs.size=xs.length/\∀i x v,xs[i]? = some x->S.is vs i v->y6 x v:=by
 cases S with
 | lst a=>
  obtain⟨its,rv,p,hz⟩:=I.list h;refine⟨its.toArray,p.isList,by have:=rv.length;simp;omega,λi x v e1 e2=>?_⟩;obtain⟨u,hu,ru⟩:=rv.get e1;have e2:its.toArray[i]? = some v:=e2;rw[List.getElem?_toArray,hu]at e2;cases e2;exact ru
 | tup a=>
  obtain⟨its,rv,p,hz⟩:=I.tuple h;refine⟨its.toArray,(show s.heap.IsTuple a its.toArray from p),by have:=rv.length;simp;omega,λi x v e1 e2=>?_⟩;obtain⟨u,hu,ru⟩:=rv.get e1;have e2:its.toArray[i]? = some v:=e2;rw[List.getElem?_toArray,hu]at e2;cases e2;exact ru
 | str z=>
  cases (show xs=W7 z from h);refine⟨Array.replicate z.cps.size .none,by show(Array.replicate _ _).size=_;simp,by simp[W7],λi x v e1 e2=>?_⟩;obtain⟨c,u,ec,rfl⟩:=(show ∃c u,z.cps[i]? = some c/\v=.str ⟨#[c]⟩ u from e2);have:(W7 z)[i]? = some (V.str ⟨#[c]⟩):=by simp[W7,ec]
  rw[this]at e1;cases e1;exact⟨u,rfl⟩
def Sr.vals.inj(I:k8 X pins σ H s)(h:S.vals X.K H xs)(h':S.vals X.K H ys):xs=ys:=by
 cases S with
 | lst a=>exact I.list_inj h h'
 | tup a=>exact I.tuple_inj h h'
 | str z=>exact(show xs=W7 z from h).trans (show ys=W7 z from h').symm
theorem Sr.ofV.val(e:S.ofV x)(r:y6 x u):S.val u:=by
 cases S with
 | lst a=>cases (show x=.ref a from e);exact r
 | tup a=>cases (show x=.ref a from e);exact r
 | str z=>cases (show x=.str z from e);exact r
end
def ZY(K:aa)(S1 S2:Sr):It:=
 ⟨λi H=>∃xs ys x y,S1.vals K H xs/\S2.vals K H ys/\xs[i]? = some x/\ys[i]? = some y,
  λi H v H'=>∃p x y,v=.ref p/\H p=none/\H'=upd H p (.tup [x,y])/\(∀xs,S1.vals K H xs->xs[i]? = some x)/\∀ys,S2.vals K H ys->ys[i]? = some y,
  λi H=>∃xs ys,S1.vals K H xs/\S2.vals K H ys/\(i=xs.length\/(i < xs.length/\i=ys.length))⟩
def MV{P:Program}{w:World}{K:aa}{es:List Expr}{kk:Nat}{tp:Pos}{S1 S2:Sr}{z TI TO i1 i2:Addr}(D:ZA S1 S2 z TI TO i1 i2) :
    Jd P w K (.Tuple es kk tp) (ZY K S1 S2) [z,TI,TO,i1,i2] z (λi h=>IsZip h z TI TO .none/\IsPair h TI (.ref i1) (.ref i2)/\(∃a b,IsPair h TO a b)/\S1.it h i1 i/\S2.it h i2 i)where
 mem:=by simp
 obj:=λi h st b hb=>by
  obtain⟨hz,hi,⟨a,a',ho⟩,h1,h2⟩:=st;simp only[ak,bE,or_false]at hb;rcases hb with rfl | rfl | rfl | rfl | rfl
  . exact⟨_,hz,λv z=>by simp at z⟩
  . exact⟨_,hi,λv z=>by simp at z⟩
  . exact⟨_,ho,λv z=>by simp at z⟩
  . exact h1.obj
  . exact h2.obj
 keep:=λi h h' st k=>by
  obtain⟨hz,hi,⟨a,a',ho⟩,h1,h2⟩:=st;exact⟨k z (by simp) _ hz,k TI (by simp) _ hi,⟨a,a',k TO (by simp) _ ho⟩,h1.mv λo e=>k i1 (by simp) o e,h2.mv λo e=>k i2 (by simp) o e⟩
 item:=by
  intro X hP hw hK hc i pins s σ H E I hf st hg;subst hP hw hK;obtain⟨xs,ys,x,y,hx,hy,ex,ey⟩:=hg;obtain⟨v1,a1,z1,r1⟩:=Sr.vals.get I hx;obtain⟨v2,a2,z2,r2⟩:=Sr.vals.get I hy;obtain⟨hz,hi,ho,h1,h2⟩:=st;have l1:=(aY.mp ex).1;have l2:=(aY.mp ey).1;have hT:s.TypeIs (.ref z) "zip":=⟨_,hz,rfl⟩;have lt:∀b∈[z,TI,TO,i1,i2],b≠s.heap.objs.size:=λb hb=>by
   obtain⟨a,a',ho⟩:=ho;simp only[ak,bE,or_false]at hb;rcases hb with rfl | rfl | rfl | rfl | rfl
   . exact ao (ag hz)
   . exact ao (ag hi)
   . exact ao (ag ho)
   . obtain⟨_,e,_⟩:=h1.obj;exact ao (ag e)
   . obtain⟨_,e,_⟩:=h2.obj;exact ao (ag e)
  unfold pyNext;refine wpAny_bind (wpAny_attempt (wpAny_callSpecial?_slot (name:=Str.ofString "__next__") hT F.slot_zip_next (wpAny_call_entry F.slot_zip_next hT F.entry_zip_next
   (MR (A:=X.A.in1) D (show X.A.in1.handled=none from I.ok.hd hc) ⟨hz,hi,ho,h1,h2,a1,a2⟩ oM oM λxv yv h' tk px py Z hp hs up=>wpAny_pure ?_) (F.args_zip_next_1 _))))
  refine⟨_,rfl,wpAny_letOwnedTupleGo_zip Z.z λh'' hz'' sb=>?_⟩;have sb:Heap.SameBut z h' h'':=sb;have kk:∀b o,b ∉ [z,TI,TO,i1,i2]->s.heap.get? b=some o->h''.get? b=some o:=λb o hb e=>by
   simp only[ak,bE,or_false,not_or]at hb;exact sb.extBut _ _ hb.1 (up b o hb.1 hb.2.2.1 hb.2.2.2.1 hb.2.2.2.2 e)
  have I1:k8 X pins σ H { s with heap:=h'',toks:=tk }:=I.turneds (t':=tk) kk hf;have fT:P2 X pins H s.heap.objs.size:=I.fpOk (ae _) (I.hok.fresh (ae _));have zT:s.heap.objs.size≠z:=Ne.symm (lt z (by simp));have oT:IsPair h'' s.heap.objs.size xv yv:=sb.extBut _ _ zT hp;have I2:k8 X pins σ (upd H s.heap.objs.size (.tup [x,y])) { s with heap:=h'',toks:=tk }:=I1.track (af I.sz (ae _)) fT
   ⟨by show 2<=sizeLine;decide,[xv,yv],.cons (r1 i x xv ex px) (.cons (r2 i y yv ey py) .nil),⟨_,oT,rfl,_,rfl⟩,λ_=>⟨_,oT,rfl⟩⟩
  refine⟨.ref s.heap.objs.size,_,I2,rfl,⟨_,x,y,rfl,fT.1,rfl,λxs' h=>by rw[Sr.vals.inj I h hx];exact ex,λys' h=>by rw[Sr.vals.inj I h hy];exact ey⟩,⟨hz'',sb.extBut _ _ D.a Z.ti,?_,Z.s1.mv λo e=>sb.extBut _ _ D.c e,Z.s2.mv λo e=>sb.extBut _ _ D.d e⟩,λb hb=>?_⟩
  . obtain⟨a,a',ho⟩:=Z.to;exact⟨a,a',sb.extBut _ _ D.b ho⟩
  . rw[j6 (lt b hb)];exact(hf b hb).1
 done:=by
  intro X hP hw hK hc i pins s σ H E I hf st hg;subst hP hw hK;obtain⟨xs,ys,hx,hy,l⟩:=hg;obtain⟨v1,a1,z1,r1⟩:=Sr.vals.get I hx;obtain⟨v2,a2,z2,r2⟩:=Sr.vals.get I hy;obtain⟨hz,hi,ho,h1,h2⟩:=st;have hT:s.TypeIs (.ref z) "zip":=⟨_,hz,rfl⟩;unfold pyNext;refine wpAny_bind (wpAny_attempt (wpAny_callSpecial?_slot (name:=Str.ofString "__next__") hT F.slot_zip_next (wpAny_call_entry F.slot_zip_next hT F.entry_zip_next
   (OX (A:=X.A.in1) D (show X.A.in1.handled=none from I.ok.hd hc) ⟨hz,hi,ho,h1,h2,a1,a2⟩ oM λh' e tk up ⟨o,eo,co⟩=>?_) (F.args_zip_next_1 _))))
  refine wpAny_bind (wpAny_isInstance (T:="StopIteration") (b:=true) ⟨o,eo,co⟩ isSubtype_stop ?_);refine wpAny_pure ⟨rfl,I.turneds (ch:=[z,TI,TO,i1,i2]) (t':=tk) (λb o hb e=>?_) hf⟩;simp only[ak,bE,or_false,not_or]at hb;exact up b o hb.1 hb.2.2.1 hb.2.2.2.1 hb.2.2.2.2 e
 self:=λ_ _ _ _ _ st h=>wpAny_pyIter_zip st.1 h
def iZip(K:aa)(ta:TA):TI:=λσ H R=>ta σ H λvs H1=>∃S1 S2 x y xs ys,vs=[x,y]/\Sr.ofV S1 x/\Sr.ofV S2 y/\S1.vals K H1 xs/\S2.vals K H1 ys/\R (ZY K S1 S2) H1
def CH{X:Cx}{a b:Expr}{ta:TA}{p pos tp:Pos}{es:List Expr}{kk:Nat}(hg:Gl X "zip")(hm:X.mg "zip"=none)(ha:PA X [a,b] ta)(hs:starEach [a,b] X.env=[(false,eval a X.env),(false,eval b X.env)]:=by rfl)
    (hs2:starEach [b] X.env=[(false,eval b X.env)]:=by rfl):PI X (.Tuple es kk tp) (.Call (.Name "zip" p) [a,b] [] pos) (iZip X.K ta):=by
 intro pins s σ H R I h;refine Call_ (As I hg hm boot_zip (cw (B6 (ha pos pins s σ H _ I h) λus s1 ⟨vs,H1,I1,r1,q1⟩=>?_) (by rw[hs,hs2]) (by rw[hs2];rfl)));obtain⟨S1,S2,x,y,xs,ys,e,e1,e2,hx,hy,q⟩:=q1;subst e;cases r1 with
 | cons r rr=>
  cases rr with
  | cons r' rr=>
   cases rr;obtain⟨v1,a1,z1,_⟩:=Sr.vals.get I1 hx;obtain⟨v2,a2,z2,_⟩:=Sr.vals.get I1 hy;refine OM (e1.val r) (e2.val r') a1 a2 λh' Z D up=>wpAny_pyIter_zip Z.z ⟨_,_,_,_,H1,rfl,I1.kept (t':=s1.toks) up,MV D,⟨Z.z,Z.ti,Z.to,Z.s1,Z.s2⟩,λb hb=>?_,q⟩;simp only[ak,bE,or_false]at hb;have le:s1.heap.objs.size<=b:=by rcases hb with rfl | rfl | rfl | rfl | rfl <;>omega
   exact I1.fpOk le (I1.hok.fresh le)
def Ite(K:aa)(S:Sr):It:=
 ⟨λi H=>∃xs x,S.vals K H xs/\xs[i]? = some x,λi H v H'=>∃p x,v=.ref p/\H p=none/\H'=upd H p (.tup [.int i,x])/\∀xs,S.vals K H xs->xs[i]? = some x,λi H=>∃xs,S.vals K H xs/\i=xs.length⟩
def Sr.fp_it(S:Sr)(I:Addr):I∈S.fp I:=by cases S <;>simp[Sr.fp]
def LR{P:Program}{w:World}{K:aa}{es:List Expr}{kk:Nat}{tp:Pos}{S:Sr}{e it:Addr}(D:e≠it)(o1:S.off e)(o2:S.off it) :
    Jd P w K (.Tuple es kk tp) (Ite K S) [e,it] e (λi h=>(∃old,IsEnum h e it i old)/\S.it h it i)where
 mem:=by simp
 obj:=λi h st b hb=>by
  obtain⟨⟨old,he⟩,h1⟩:=st;simp only[ak,bE,or_false]at hb;rcases hb with rfl | rfl
  . exact⟨_,he,λv z=>by simp at z⟩
  . exact h1.obj
 keep:=λi h h' st k=>by
  obtain⟨⟨old,he⟩,h1⟩:=st;exact⟨⟨old,k e (by simp) _ he⟩,h1.mv λo q=>k it (by simp) o q⟩
 item:=by
  intro X hP hw hK hc i pins s σ H E I hf st hg;subst hP hw hK;obtain⟨xs,x,hx,ex⟩:=hg;obtain⟨vs,a1,z1,r1⟩:=Sr.vals.get I hx;obtain⟨⟨old,he⟩,h1⟩:=st;have l1:=(aY.mp ex).1;have lt:∀b∈[e,it],b < s.heap.objs.size:=λb hb=>by
   simp only[ak,bE,or_false]at hb;rcases hb with rfl | rfl
   . exact ag he
   . obtain⟨_,q,_⟩:=h1.obj;exact ag q
  have hh:X.A.in1.handled=none:=I.ok.hd hc;have W:=WalksT.enumerateD (prog:=X.prog) (w:=X.w) (A:=X.A) (S.draws hh it o2 vs) e D (Sr.fp_off o1 D) (S.fp_it it);refine W.item i s _ E oM ⟨⟨old,he⟩,h1,a1⟩ λT vals h' tk hP hT ht hM hk=>⟨_,rfl,W.go es kk tp i T _ _ E hM λh'' st'' hk''=>?_⟩;obtain⟨t,xv,px,rfl⟩:=hP;have kk:∀b o,b ∉ [e,it]->s.heap.get? b=some o->h''.get? b=some o:=λb o hb q=>hk'' b o hb (hk b o hb q);have I1:k8 X pins σ H { s with heap:=h'',toks:=tk }:=I.turneds (t':=tk) kk hf;have fT:P2 X pins H T:=I.fpOk hT (I.hok.fresh hT);have nT:T ∉ [e,it]:=W.apart i T _ hM;have oT:h''.IsTuple T #[.int i t,xv]:=let⟨o,q,r⟩:=ht;⟨o,hk'' T o nT q,r⟩
  have I2:k8 X pins σ (upd H T (.tup [.int i,x])) { s with heap:=h'',toks:=tk }:=I1.track (af I.sz hT) fT
   ⟨by show 2<=sizeLine;decide,[.int i t,xv],.cons ⟨t,rfl⟩ (.cons (r1 i x xv ex px) .nil),oT,λz=>absurd rfl (z i x)⟩
  refine⟨.ref T,_,I2,rfl,⟨_,x,rfl,fT.1,rfl,λxs' h=>by rw[Sr.vals.inj I h hx];exact ex⟩,⟨st''.1,st''.2.1⟩,λb hb=>?_⟩;rw[j6 (ao (ar (lt b hb) hT))];exact(hf b hb).1
 done:=by
  intro X hP hw hK hc i pins s σ H E I hf st hg;subst hP hw hK;obtain⟨xs,hx,l⟩:=hg;obtain⟨vs,a1,z1,r1⟩:=Sr.vals.get I hx;obtain⟨⟨old,he⟩,h1⟩:=st;have hh:X.A.in1.handled=none:=I.ok.hd hc;have W:=WalksT.enumerateD (prog:=X.prog) (w:=X.w) (A:=X.A) (S.draws hh it o2 vs) e D (Sr.fp_off o1 D) (S.fp_it it);have ei:i=vs.size:=by omega
  subst ei;exact W.done s _ E ⟨⟨old,he⟩,h1,a1⟩ λh' tk hk=>⟨rfl,I.turneds (t':=tk) hk hf⟩
 self:=λ_ _ _ _ _ st h=>by
  obtain⟨⟨old,he⟩,_⟩:=st;exact wpAny_pyIter_enum he h
def Zy(K:aa)(ta:TA):TI:=λσ H R=>ta σ H λvs H1=>∃S x xs,vs=[x]/\Sr.ofV S x/\S.vals K H1 xs/\R (Ite K S) H1
def PY{X:Cx}{a:Expr}{ta:TA}{p pos tp:Pos}{es:List Expr}{kk:Nat}(hg:Gl X "enumerate")(hm:X.mg "enumerate"=none)(ha:PA X [a] ta)(hs:starEach [a] X.env=[(false,eval a X.env)]:=by rfl) :
    PI X (.Tuple es kk tp) (.Call (.Name "enumerate" p) [a] [] pos) (Zy X.K ta):=by
 intro pins s σ H R I h;refine Call_ (As I hg hm boot_enumerate (cw (B6 (ha pos pins s σ H _ I h) λus s1 ⟨vs,H1,I1,r1,q1⟩=>?_) hs rfl));obtain⟨S,x,xs,e,e1,hx,q⟩:=q1;subst e;cases r1 with
 | cons r rr=>
  cases rr;obtain⟨v1,a1,z1,_⟩:=Sr.vals.get I1 hx;have off:∀k:Nat,S.off (s1.heap.objs.size+k):=λk=>by
   cases S with
   | lst a=>obtain⟨o,q,_⟩:=a1;exact ao (ar (ag q) (cW _ k))
   | tup a=>obtain⟨o,q,_⟩:=a1;exact ao (ar (ag q) (cW _ k))
   | str z=>exact trivial
  refine MJ (e1.val r) a1 λh' he hi up=>wpAny_pyIter_enum he ⟨_,_,_,_,H1,rfl,I1.kept (t':=s1.toks) up,LR (Nat.succ_ne_self _) (off 1) (off 0),⟨⟨_,he⟩,hi⟩,λb hb=>?_,q⟩;simp only[ak,bE,or_false]at hb;have le:s1.heap.objs.size<=b:=by rcases hb with rfl | rfl <;>omega
  exact I1.fpOk le (I1.hok.fresh le)
def Ls{K:aa}{S1 S2:Sr}{xs ys:List V}{g:TG}{tb:TS}{D:EB}{σ:St}{H:Hp}(Pv:Nat->St->Hp->Prop)(hll:xs.length=ys.length)(h0:Pv 0 σ H)(hl:∀i σ H,i<=xs.length->Pv i σ H->S1.vals K H xs/\S2.vals K H ys)
    (hs:∀i x y p σ H,xs[i]? = some x->ys[i]? = some y->H p=none->Pv i σ H->g (.ref p) σ (upd H p (.tup [x,y])) λσ2 H2=>tb { D with nx:=Pv (i+1),ct:=Pv (i+1),bk:=D.nx } σ2 H2) (hd:∀σ H,Pv xs.length σ H->D.nx σ H) :
    ∃W:Nat->Nat->St->Hp->Prop,(∃m,W 0 m σ H)/\∀i m σ H,W i m σ H->
     ((ZY K S1 S2).stop i H/\D.nx σ H)\/((ZY K S1 S2).go i H/\∃N:St->Hp->Prop,(∀σ' H',N σ' H'->∃m',m' < m/\W (i+1) m' σ' H')/\∀x H',(ZY K S1 S2).yld i H x H'->g x σ H' λσ2 H2=>tb { D with nx:=N,ct:=N,bk:=D.nx } σ2 H2):=by
 refine⟨λi m σ H=>m=xs.length - i/\i<=xs.length/\Pv i σ H,⟨xs.length,by simp,aK _,h0⟩,?_⟩;rintro i m σ H ⟨rfl,hi,p⟩;obtain⟨q1,q2⟩:=hl i σ H hi p;by_cases hlt:i < xs.length
 . have hly:i < ys.length:=by omega
   refine .inr ⟨⟨xs,ys,xs[i],ys[i],q1,q2,by simp[hlt],by simp[hly]⟩,Pv (i+1),λσ' H' p'=>⟨xs.length - (i+1),oM,rfl,hlt,p'⟩,λx H' y=>?_⟩;obtain⟨pp,x',y',rfl,hn,rfl,y1,y2⟩:=y;exact hs i x' y' pp σ H (y1 xs q1) (y2 ys q2) hn p
 . have e:i=xs.length:=by omega
   subst e;exact .inl ⟨⟨xs,ys,q1,q2,.inl rfl⟩,hd σ H p⟩
section
variable{X:Cx}
def rSlS:V->Option Int->Option Int->Hp->VK->Prop:=λx lo hi H Q=>∃z,x=.str z/\z.length<=sizeLine/\Q (.str (Txt.slice z lo hi)) H
def RS:SlR X rSlS:=by
 intro pins s σ H x v vl vu lo hi sl Q I rx hs pl pu h;obtain⟨z,rfl,hz,q⟩:=h;obtain⟨t,rfl⟩:=rx;have fin:∀t' k,EP X pins σ Q (.str (Txt.slice z lo hi) t') { s with toks:=k }:=λt' k=>⟨.str _,H,I.tok _,⟨_,rfl⟩,q⟩;refine⟨"str",_,F.slot_str_getitem.lookup,typeIs_str _ _ _,?_⟩;cases pl with
 | none=>
  cases pu with
  | none=>exact wpAny_getItem_str_slice (l:=none) (u:=none) (st:=none) hs rfl (post_val_or_str ⟨af (Txt.slice_le z _ _) hz,fin⟩)
  | int j uj=>exact wpAny_getItem_str_slice (l:=none) (u:=some (j,uj)) (st:=none) hs rfl (post_val_or_str ⟨af (Txt.slice_le z _ _) hz,fin⟩)
 | int i ui=>
  cases pu with
  | none=>exact wpAny_getItem_str_slice (l:=some (i,ui)) (u:=none) (st:=none) hs rfl (post_val_or_str ⟨af (Txt.slice_le z _ _) hz,fin⟩)
  | int j uj=>exact wpAny_getItem_str_slice (l:=some (i,ui)) (u:=some (j,uj)) (st:=none) hs rfl (post_val_or_str ⟨af (Txt.slice_le z _ _) hz,fin⟩)
def Its(z:Str):It:=⟨λi _=>i < z.cps.size,λi H x H'=>H'=H/\∃c,z.cps[i]? = some c/\x=.str ⟨#[c]⟩,λi _=>z.cps.size<=i⟩
def MW{P:Program}{w:World}{K:aa}{tg:Expr}(z:Str)(t:Tok)(it:Addr):Jd P w K tg (Its z) [it] it (λi h=>h.IsStrIter it "str_ascii_iterator" z t i)where
 mem:=by simp
 obj:=λi h st b hb=>by
  have e:b=it:=by simpa using hb
  subst e;obtain⟨o,e,c,d⟩:=st;exact⟨o,e,λv q=>by rw[d]at q;cases q⟩
 keep:=λi h h' st k=>by
  obtain⟨o,e,r⟩:=st;exact⟨o,k it (by simp) o e,r⟩
 item:=by
  intro X hP hw hK hc i pins s σ H E I hf st hg;subst hP hw hK;have hg:i < z.cps.size:=hg;obtain⟨f0,f1,f2,f3,f4,f5⟩:=hf it (by simp);refine wpAny_pyNext_ascii_item st (c:=z.cps[i]) (by simp[hg]) λh' st' sb=>?_;have I1:k8 X pins σ H { s with heap:=h',toks:=s.toks+1 }:=I.turned (t':=s.toks+1) (λb o hb e=>(sb.2 b hb).trans e) f0 f1 f3 f4 f5;obtain⟨o,e,c,d⟩:=id st';exact⟨_,rfl,IK (s:={ s with heap:=h',toks:=s.toks+1 }) e c d (by decide) ⟨.str ⟨#[z.cps[i]]⟩,H,I1,⟨_,rfl⟩,⟨rfl,_,by simp[hg],rfl⟩,st',λb hb=>(hf b hb).1⟩⟩
 done:=by
  intro X hP hw hK hc i pins s σ H E I hf st hg;subst hP hw hK;have hg:z.cps.size<=i:=hg;obtain⟨f0,f1,f2,f3,f4,f5⟩:=hf it (by simp);exact wpAny_pyNext_ascii_end (I.ok.hd hc) st (by simp;omega) λh' eb=>⟨rfl,I.turned (t':=s.toks) (λb o hb e=>eb b o hb e) f0 f1 f3 f4 f5⟩
 self:=λ_ _ _ _ _ st h=>wpAny_pyIter_striter_ascii st h
def iStr(tl:TE):TI:=λσ H R=>tl σ H λx H1=>∃z,x=.str z/\z.cps.all (· < 128)=true/\R (Its z) H1
def Sz{tg l:Expr}{tl:TE}(hl:PE X l tl):PI X tg l (iStr tl):=by
 intro pins s σ H R I h;refine B6 (hl pins s σ H _ I h) λv s1 ⟨x,H1,I1,r1,z,e,ha,q⟩=>?_;subst e;obtain⟨t,rfl⟩:=r1;refine wpAny_pyIter_ascii ha ?_;have hf:H1 s1.heap.objs.size=none:=I1.hok.fresh (ae _);refine⟨s1.heap.objs.size,[s1.heap.objs.size],_,Its z,H1,rfl,I1.kept (t':=s1.toks) (λb ob q=>ah _ q),MW z t _,⟨_,aw _ rfl,rfl,rfl⟩,λb hb=>?_,q⟩;have e:b=s1.heap.objs.size:=by simpa using hb
 subst e;exact I1.fpOk (ae _) hf
end
section
variable{X:Cx}
end
section
variable{prog:Program}{w:World}{A:Around}{E:Value->Shared->Prop}{s:Shared}
end
def Ks{J:It}{n:Nat}{g:TG}{tb:TS}{D:EB}{σ:St}{H:Hp}(Pv:Nat->St->Hp->Prop)(h0:Pv 0 σ H)
    (hs:∀i σ H,i < n->Pv i σ H->J.go i H/\∀x H',J.yld i H x H'->g x σ H' λσ2 H2=>tb { D with nx:=Pv (i+1),ct:=Pv (i+1),bk:=D.nx } σ2 H2) (hd:∀σ H,Pv n σ H->J.stop n H/\D.nx σ H) :
    ∃W:Nat->Nat->St->Hp->Prop,(∃m,W 0 m σ H)/\∀i m σ H,W i m σ H->
     (J.stop i H/\D.nx σ H)\/(J.go i H/\∃N:St->Hp->Prop,(∀σ' H',N σ' H'->∃m',m' < m/\W (i+1) m' σ' H')/\∀x H',J.yld i H x H'->g x σ H' λσ2 H2=>tb { D with nx:=N,ct:=N,bk:=D.nx } σ2 H2):=by
 refine⟨λi m σ H=>m=n - i/\i<=n/\Pv i σ H,⟨n,by simp,aK _,h0⟩,?_⟩;rintro i m σ H ⟨rfl,hi,p⟩;by_cases hlt:i < n
 . obtain⟨a,b⟩:=hs i σ H hlt p;exact .inr ⟨a,Pv (i+1),λσ' H' p'=>⟨n - (i+1),oM,rfl,hlt,p'⟩,b⟩
 . have e:i=n:=by omega
   subst e;exact .inl (hd σ H p)
def Hv(l b:Addr)(items items2:Array Value)(n n2:Nat)(dd dd2:Option Addr)(sl sl2:Array (Option Value))(hc0:items.isEmpty=true) :
    Meets (Builtin.«tuple.__add__» ⟨[.ref l,.ref b],[]⟩) (λ_ R s=>s.heap.get? l=some { cls:=.type "tuple",dict:=dd,data:=.seq items n,slots:=sl }/\s.heap.get? b=some { cls:=.type "tuple",dict:=dd2,data:=.seq items2 n2,slots:=sl2 }/\R (.ok (.ret (Value.ref b))) { s with heap:=s.heap,toks:=s.toks }):=
 .of_wp λprog w A R s h=>by obtain⟨hp,g,d,tk,os⟩:=s;obtain⟨hl,hb,h⟩:=h;have f1:=AutoSeq1.idx_int;have f2:=AutoSeq1.sub_tuple_tuple;wp_walk using AutoSeq1.wpAny_loadPart' hl,AutoSeq1.wpAny_loadPart' hb;exact⟨_,rfl,h⟩
def rCatA:R2:=λx y H Q=>∃a b xs ys,x=.ref a/\y=.ref b/\H a=some (.tup xs)/\H b=some (.tup ys)/\xs.length+ys.length<=sizeLine/\
 ∀p H',h8 H H'->H' p=some (.tup (xs++ys))->Q (.ref p) H'
def Dz:CY X (binaryOp .Add) rCatA:=by
 intro pins s σ H x y v u Q I rx ry h;obtain⟨a,b,xs,ys,rfl,rfl,ha,hb,hz,q⟩:=h;cases rx;cases ry;by_cases hx:xs=[]
 . obtain⟨its,r1,p1,_⟩:=I.tuple (o7.of ha);obtain⟨its2,r2,p2,_⟩:=I.tuple (o7.of hb);have e0:its=[]:=r1.nil_iff.mpr hx;obtain⟨⟨cls,dd,data,sl⟩,ho,hc,n,hd⟩:=id p1;obtain⟨⟨cls2,dd2,data2,sl2⟩,ho2,hc2,n2,hd2⟩:=id p2;simp only at hc hd hc2 hd2;subst hc hd hc2 hd2;exact concat_meets ⟨_,ho,rfl⟩ ⟨_,ho2,rfl⟩ noFill_tuple_add seq_tuple_add dh di (dj _ _)
    (Hv a b its.toArray its2.toArray n n2 dd dd2 sl sl2 (by rw[e0];rfl)) ⟨ho,ho2,⟨.ref b,H,I,rfl,q b H (h8.refl _) (by rw[hx];exact hb)⟩⟩
 . exact Qf pins s σ H (.ref a) (.ref b) (.ref a) (.ref b) Q I rfl rfl ⟨a,b,xs,ys,rfl,rfl,o7.of ha,o7.of hb,hx,hz,λz=>q a H (h8.refl _) (by rw[z,aN];exact ha),λ_ p np=>q p _ (c7 np) c5⟩
def w9(H H':Hp):Prop:=∀p vs,H p=some (.tup vs)->H' p=some (.tup vs)
def w9.refl(H:Hp):w9 H H:=λ_ _ h=>h
def w9.trans(x:w9 H H1)(y:w9 H1 H2):w9 H H2:=λp vs h=>y p vs (x p vs h)
def h8.t(x:h8 H H'):w9 H H':=λp vs h=>x p _ h
def i0(Pd:Nat->V->Hp->Prop)(ys:List V)(n:Nat)(H:Hp):Prop:=ys.length=n/\∀j,j < n->∃u,ys[j]? = some u/\Pd j u H
section
variable{Pd Pe:Nat->V->Hp->Prop}{ys:List V}{n:Nat}{H H':Hp}{v:V}
def i0.nil:i0 Pd [] 0 H:=⟨rfl,λj h=>absurd h (bR j)⟩
def i0.mono(h:i0 Pd ys n H)(s:∀j u,j < n->Pd j u H->Pe j u H'):i0 Pe ys n H':=⟨h.1,λj hj=>by
 obtain⟨u,e,p⟩:=h.2 j hj;exact⟨u,e,s j u hj p⟩⟩
def i0.snoc(h:i0 Pd ys n H)(p:Pd n v H):i0 Pd (ys++[v]) (n+1) H:=⟨by rw[ai,h.1];rfl,λj hj=>by
 by_cases hn:j < n
 . obtain⟨u,e,q⟩:=h.2 j hn;exact⟨u,by rw[aJ (by rw[h.1];exact hn)];exact e,q⟩
 . have e:j=n:=by omega
   subst e;exact⟨v,by rw[aQ (by rw[h.1];exact ae _),h.1,cq];rfl,p⟩⟩
theorem i0.at(h:i0 Pd ys n H)(e:ys[j]? = some u):j < n/\Pd j u H:=by
 have hj:j < n:=by rw[<- h.1];exact(aY.mp e).1
 obtain⟨u',e',p⟩:=h.2 j hj;rw[e]at e';cases e';exact⟨hj,p⟩
end
def K0(Pd:Nat->V->Hp->Prop)(n:Nat)(v:V)(H:Hp):Prop:=∃p vs,v=.ref p/\H p=some (.tup vs)/\i0 Pd vs n H
def Dh(K:aa)(Pd:Nat->V->Hp->Prop)(n:Nat)(v:V)(H:Hp):Prop:=∃S vs,Sr.ofV S v/\S.vals K H vs/\(∀H',h8 H H'->S.vals K H' vs/\AX K v H' vs.length)/\i0 Pd vs n H
def K0.seq{K:aa}{Pd:Nat->V->Hp->Prop}{n:Nat}{v:V}{H:Hp}(h:K0 Pd n v H):Dh K Pd n v H:=by
 obtain⟨p,vs,rfl,hp,e⟩:=h;exact⟨.tup p,vs,rfl,o7.of hp,λH' q=>⟨o7.of (q _ _ hp),.inr ⟨_,o7.of (q _ _ hp),rfl⟩⟩,e⟩
theorem K0.mono(h:K0 Pd n v H)(s:w9 H H')(m:∀j u,j < n->Pd j u H->Pe j u H'):K0 Pe n v H':=by
 obtain⟨p,vs,rfl,hp,e⟩:=h;exact⟨p,vs,rfl,s _ _ hp,e.mono m⟩
theorem Dh.mono{K:aa}{Pd Pe:Nat->V->Hp->Prop}{n:Nat}{v:V}{H H':Hp}(h:Dh K Pd n v H)(s:h8 H H')(m:∀j u,j < n->Pd j u H->Pe j u H'):Dh K Pe n v H':=by
 obtain⟨S,vs,e,hv,hs,he⟩:=h;exact⟨S,vs,e,(hs _ s).1,λH2 q=>hs _ (s.trans q),he.mono m⟩
def Dh.list{K:aa}{Pd:Nat->V->Hp->Prop}{n:Nat}{p:Addr}{vs:List V}{H:Hp}(hp:H p=some (.lst vs))(e:i0 Pd vs n H):Dh K Pd n (.ref p) H:=
 ⟨.lst p,vs,rfl,t8.of hp,λH' q=>⟨t8.of (q _ _ hp),.inl ⟨_,t8.of (q _ _ hp),rfl⟩⟩,e⟩
def K0.len{K:aa}{Pd:Nat->V->Hp->Prop}{n:Nat}{v:V}{H:Hp}(h:K0 Pd n v H):AX K v H n:=by
 obtain⟨p,vs,rfl,hp,e⟩:=h;have e1:=e.1;subst e1;exact .inr ⟨_,o7.of hp,rfl⟩
def o8{J:It}{n k:Nat}{g:TG}{te:TE}{σ:St}{Q:VK}{H1:Hp}(Pv:Nat->List V->Hp->Prop)(hn:n<=1000)(h0:Pv 0 [] H1)(hl:∀i ys H,Pv i ys H->ys.length=i)
    (hgo:∀i ys H,i < n->Pv i ys H->J.go i H/\∀x H',J.yld i H x H'->g x (σ++List.replicate k none) H' λσ2 H2=>(∃zs,σ2=σ++zs/\zs.length=k)/\te σ2 H2 λv H3=>Pv (i+1) (ys++[v]) H3)
    (hstop:∀ys H,Pv n ys H->J.stop n H) (hend:∀ys H p,Pv n ys H->H p=none->Q (.ref p) (upd H p (.lst ys))) :
    RA J k g te σ Q H1:=by
 have z:1000 < sizeLine:=by decide
 refine⟨λi m ys H=>m=n - i/\i<=n/\Pv i ys H,⟨n,rfl,aK _,h0⟩,?_⟩;rintro i m ys H ⟨rfl,hi,p⟩;have yl:=hl i ys H p;by_cases hlt:i < n
 . obtain⟨a,b⟩:=hgo i ys H hlt p;refine .inr ⟨a,oM,λx H' y=>?_⟩;have c:=b x H' y;have e:(λσ2 H2=>(∃zs,σ2=σ++zs/\zs.length=k)/\te σ2 H2 λv H3=>∃m',m' < n - i/\m'=n - (i+1)/\i+1<=n/\Pv (i+1) (ys++[v]) H3)=λσ2 H2=>(∃zs,σ2=σ++zs/\zs.length=k)/\te σ2 H2 λv H3=>Pv (i+1) (ys++[v]) H3:=by
    funext σ2 H2;congr 2;funext v H3;exact propext ⟨λ⟨_,_,_,_,q⟩=>q,λq=>⟨_,oM,rfl,hlt,q⟩⟩
   rw[e];exact c
 . have e:i=n:=by omega
   subst e;exact .inl ⟨hstop ys H p,oM,λq nq=>hend ys H q p nq⟩
end L2
namespace Mine
def sm(S:SR)(f:Nat->S.W):Nat->S.W
 | 0=>S.zero
 | n+1=>S.add (sm S f n) (f n)
section
variable{S:SR}
theorem x6:∀{n:Nat},(∀i,i < n->f i=g i)->sm S f n=sm S g n
 | 0,_=>rfl
 | n+1,h=>by
  show S.add _ _=S.add _ _;rw[x6 λi hi=>h i (cV hi),h n (bK n)]
theorem R6:∀n:Nat,sm S (λ_=>S.zero) n=S.zero
 | 0=>rfl
 | n+1=>by show S.add _ _=_;rw[R6 n,S.add_zero]
theorem JA(f g:Nat->S.W):∀n:Nat,sm S (λi=>S.add (f i) (g i)) n=S.add (sm S f n) (sm S g n)
 | 0=>(S.add_zero S.zero).symm
 | n+1=>by
  show S.add _ _=S.add (S.add _ _) (S.add _ _);rw[JA f g n,S.add_assoc,S.add_assoc];congr 1;rw[<- S.add_assoc,S.add_comm (sm S g n) (f n),S.add_assoc]
theorem Ga(c:S.W)(f:Nat->S.W):∀n:Nat,S.mul c (sm S f n)=sm S (λi=>S.mul c (f i)) n
 | 0=>S.mul_zero c
 | n+1=>by
  show S.mul c (S.add _ _)=S.add _ _;rw[S.distrib,Ga c f n]
def Pu(c:S.W)(f:Nat->S.W)(n:Nat):S.mul (sm S f n) c=sm S (λi=>S.mul (f i) c) n:=by
 rw[S.mul_comm,Ga];exact x6 λi _=>S.mul_comm _ _
theorem KY(f:Nat->Nat->S.W)(k:Nat):∀n:Nat,sm S (λi=>sm S (λj=>f i j) k) n=sm S (λj=>sm S (λi=>f i j) n) k
 | 0=>(R6 k).symm
 | n+1=>by
  show S.add _ _=_;rw[KY f k n,<- JA];rfl
def DK(r:Nat->S.W)(A:Nat->Nat->S.W)(b:Nat->S.W)(h w:Nat) :
    sm S (λj=>S.mul (sm S (λi=>S.mul (r i) (A i j)) h) (b j)) w=sm S (λi=>S.mul (r i) (sm S (λj=>S.mul (A i j) (b j)) w)) h:=by
 have e1:∀j,j < w->S.mul (sm S (λi=>S.mul (r i) (A i j)) h) (b j)=sm S (λi=>S.mul (r i) (S.mul (A i j) (b j))) h:=λj _=>by
  rw[Pu];exact x6 λi _=>S.mul_assoc _ _ _
 have e2:∀i,i < h->S.mul (r i) (sm S (λj=>S.mul (A i j) (b j)) w)=sm S (λj=>S.mul (r i) (S.mul (A i j) (b j))) w:=λi _=>Ga _ _ _;rw[x6 e1,x6 e2,KY]
end
structure X6(S:SR)where
 neg:S.W->S.W
 inv:S.W->S.W
 add_neg:∀x,S.add x (neg x)=S.zero
 mul_inv:∀x,x≠S.zero->S.mul x (inv x)=S.one
 sz_neg:∀m x,S.sz m x->S.sz m (neg x)
 sz_inv:∀m x,x≠S.zero->S.sz m x->S.sz m (inv x)
section
variable{S:SR}{F:X6 S}
def QJ(x:S.W):S.add S.zero x=x:=by rw[S.add_comm,S.add_zero]
def OE(x:S.W):S.mul S.zero x=S.zero:=by rw[S.mul_comm,S.mul_zero]
def Tv(x:S.W):S.mul S.one x=x:=by rw[S.mul_comm,S.mul_one]
def Tz(x y z:S.W):S.mul (S.add x y) z=S.add (S.mul x z) (S.mul y z):=by rw[S.mul_comm,S.distrib,S.mul_comm z x,S.mul_comm z y]
def Eo(h:S.add x y=S.zero):y=F.neg x:=by
 have e:S.add (F.neg x) (S.add x y)=y:=by rw[<- S.add_assoc,S.add_comm (F.neg x) x,F.add_neg,QJ]
 rw[h,S.add_zero]at e;exact e.symm
def Tw:F.neg S.zero=S.zero:=(Eo (F:=F) (S.add_zero S.zero)).symm
def ZG(x:S.W):F.neg (F.neg x)=x:=(Eo (F:=F) (by rw[S.add_comm,F.add_neg])).symm
def QK(x y:S.W):S.mul (F.neg x) y=F.neg (S.mul x y):=Eo (by rw[<- Tz,F.add_neg,OE])
def ZH(x y:S.W):S.mul x (F.neg y)=F.neg (S.mul x y):=by rw[S.mul_comm,QK,S.mul_comm]
def Tx(x y:S.W):F.neg (S.add x y)=S.add (F.neg x) (F.neg y):=(Eo (F:=F) (by
 rw[S.add_assoc,<- S.add_assoc y,S.add_comm y,S.add_assoc,F.add_neg,S.add_zero,F.add_neg])).symm
def f_eq(h:S.add x (F.neg y)=S.zero):x=y:=by
 have e:=Eo (F:=F) (show S.add (F.neg y) x=S.zero by rw[S.add_comm];exact h);rw[e,ZG]
def TC(a b c d:S.W):S.add (S.add a b) (S.add c d)=S.add (S.add a c) (S.add b d):=by
 rw[S.add_assoc,S.add_assoc];congr 1;rw[<- S.add_assoc,S.add_comm b c,S.add_assoc]
theorem Ni:∀{n:Nat},i < n->(∀k,k < n->k≠i->f k=S.zero)->sm S f n=f i
 | 0,h,_=>absurd h (bR _)
 | n+1,h,z=>by
  show S.add _ _=_;by_cases e:i=n
  . subst e;rw[x6 (g:=λ_=>S.zero) (λk hk=>z k oM oM),R6,QJ]
  . rw[Ni (i:=i) oM (λk hk hn=>z k oM hn),z n oM oM,S.add_zero]
def FG(S:SR)(c:Nat->S.W)(vs:Nat->Nat->S.W)(n:Nat):Nat->S.W:=λj=>sm S (λk=>S.mul (c k) (vs k j)) n
def Qv(c d:Nat->S.W)(vs:Nat->Nat->S.W)(n j:Nat):FG S (λk=>S.add (c k) (d k)) vs n j=S.add (FG S c vs n j) (FG S d vs n j):=by
 unfold FG;rw[<- JA];exact x6 λk _=>Tz _ _ _
def Qu(a:S.W)(c:Nat->S.W)(vs:Nat->Nat->S.W)(n j:Nat):FG S (λk=>S.mul a (c k)) vs n j=S.mul a (FG S c vs n j):=by
 unfold FG;rw[Ga];exact x6 λk _=>S.mul_assoc _ _ _
def Oh(vs:Nat->Nat->S.W)(n j:Nat):FG S (λ_=>S.zero) vs n j=S.zero:=by
 unfold FG;rw[x6 (g:=λ_=>S.zero) λk _=>OE _,R6]
def Qt(h:i < n):FG S (λk=>if k=i then S.one else S.zero) vs n j=vs i j:=by
 unfold FG;rw[Ni (i:=i) h λk _ hk=>by dsimp only;rw[if_neg hk,OE]];dsimp only;rw[if_pos rfl,Tv]
def AK(S:SR)(w n:Nat)(vs:Nat->Nat->S.W)(u:Nat->S.W):Prop:=∃c,∀j,j < w->u j=FG S c vs n j
theorem AK.add(h:AK S w n vs u)(g:AK S w n vs v):AK S w n vs λj=>S.add (u j) (v j):=by
 obtain⟨c,hc⟩:=h;obtain⟨d,hd⟩:=g;exact⟨λk=>S.add (c k) (d k),λj hj=>by dsimp only;rw[Qv,hc j hj,hd j hj]⟩
theorem AK.mul(a:S.W)(h:AK S w n vs u):AK S w n vs λj=>S.mul a (u j):=by
 obtain⟨c,hc⟩:=h;exact⟨λk=>S.mul a (c k),λj hj=>by dsimp only;rw[Qu,hc j hj]⟩
def AK.gen(h:i < n):AK S w n vs (vs i):=⟨_,λj _=>(Qt h).symm⟩
def AK.congr(h:AK S w n vs u)(e:∀j,j < w->v j=u j):AK S w n vs v:=by
 obtain⟨c,hc⟩:=h;exact⟨c,λj hj=>by rw[e j hj,hc j hj]⟩
def stp(F:X6 S)(k:Nat × (Nat->S.W))(r:Nat->S.W):Nat->S.W:=λj=>S.add (r j) (S.mul (F.neg (r k.1)) (k.2 j))
def clr(F:X6 S)(ks:List (Nat × (Nat->S.W)))(r:Nat->S.W):Nat->S.W:=ks.foldl (λr k=>stp F k r) r
def M4(k:Nat × (Nat->S.W))(ks:List (Nat × (Nat->S.W)))(r:Nat->S.W):clr F (k::ks) r=clr F ks (stp F k r):=rfl
def Ax(k:Nat × (Nat->S.W))(ks:List (Nat × (Nat->S.W)))(r:Nat->S.W):clr F (ks++[k]) r=stp F k (clr F ks r):=by
 unfold clr;rw[cJ];rfl
def Hy(h:r k.1=S.zero):stp F k r=r:=by
 funext j;unfold stp;rw[h,Tw,OE,S.add_zero]
def Pi(k:Nat × (Nat->S.W))(u v:Nat->S.W):stp F k (λj=>S.add (u j) (v j))=λj=>S.add (stp F k u j) (stp F k v j):=by
 funext j;unfold stp;rw[Tx,Tz,TC]
def Ph(k:Nat × (Nat->S.W))(a:S.W)(u:Nat->S.W):stp F k (λj=>S.mul a (u j))=λj=>S.mul a (stp F k u j):=by
 funext j;unfold stp;rw[S.distrib,<- S.mul_assoc,ZH]
theorem LG:∀(ks:List (Nat × (Nat->S.W))) (u v:Nat->S.W),clr F ks (λj=>S.add (u j) (v j))=λj=>S.add (clr F ks u j) (clr F ks v j)
 | [],_,_=>rfl
 | k::ks,u,v=>by rw[M4,Pi,LG ks];rfl
theorem LD:∀(ks:List (Nat × (Nat->S.W))) (a:S.W) (u:Nat->S.W),clr F ks (λj=>S.mul a (u j))=λj=>S.mul a (clr F ks u j)
 | [],_,_=>rfl
 | k::ks,a,u=>by rw[M4,Ph,LD ks];rfl
theorem IW:∀(ks:List (Nat × (Nat->S.W))),clr F ks (λ_=>S.zero)=λ_=>S.zero
 | []=>rfl
 | k::ks=>by rw[M4,Hy rfl,IW ks]
theorem LF(ks:List (Nat × (Nat->S.W)))(c:Nat->S.W)(vs:Nat->Nat->S.W):∀n,clr F ks (FG S c vs n)=FG S c (λk=>clr F ks (vs k)) n
 | 0=>IW ks
 | n+1=>by
  have e:FG S c vs (n+1)=λj=>S.add (FG S c vs n j) (S.mul (c n) (vs n j)):=rfl;rw[e,LG,LF ks c vs n,LD];rfl
theorem Eu:∀{ks:List (Nat × (Nat->S.W))} {u v:Nat->S.W},(∀k∈ks,k.1 < w)->(∀j,j < w->u j=v j)->∀j,j < w->clr F ks u j=clr F ks v j
 | [],_,_,_,e=>e
 | k::ks,u,v,h,e=>by
  rw[M4,M4];refine Eu (λq hq=>h q (ay _ hq)) λj hj=>?_;unfold stp;rw[e j hj,e k.1 (h k (aq ..))]
structure Kp(S:SR)(w:Nat)(ks:List (Nat × (Nat->S.W))):Prop where
 lt:∀k∈ks,k.1 < w
 one:∀k∈ks,k.2 k.1=S.one
 tri:ks.Pairwise λa b=>b.2 a.1=S.zero
theorem Kp.nil:Kp S w []:=⟨by simp,by simp,.nil⟩
theorem IY:∀{ks:List (Nat × (Nat->S.W))} {u:Nat->S.W},(∀k∈ks,k.2 p=S.zero)->clr F ks u p=u p
 | [],_,_=>rfl
 | k::ks,u,h=>by
  rw[M4,IY λq hq=>h q (ay _ hq)];unfold stp;rw[h k (aq ..),S.mul_zero,S.add_zero]
def Kp.tail(h:Kp S w (k::ks)):Kp S w ks:=⟨λq hq=>h.lt q (ay _ hq),λq hq=>h.one q (ay _ hq),(List.pairwise_cons.mp h.tri).2⟩
theorem Kp.clr:∀{ks:List (Nat × (Nat->S.W))} {u:Nat->S.W},Kp S w ks->∀k∈ks,clr F ks u k.1=S.zero
 | [],_,_,k,hk=>by cases hk
 | q::ks,u,h,k,hk=>by
  rw[M4];rcases ak.mp hk with rfl | hk
  . rw[IY λb hb=>(List.pairwise_cons.mp h.tri).1 b hb];unfold stp;rw[h.one k (aq ..),S.mul_one,F.add_neg]
  . exact Kp.clr h.tail k hk
theorem Kf:∀(w:Nat) (l:List Nat),l.Nodup->(∀x∈l,x < w)->l.length<=w
 | 0,l,_,h=>by
  cases l with
  | nil=>exact ae _
  | cons a l=>exact absurd (h a (aq ..)) (bR _)
 | w+1,l,nd,h=>by
  have:=Kf w (l.erase w) (nd.erase w) λx hx=>by
   have h1:=(nd.mem_erase_iff.mp hx);have:=h x h1.2;have:=h1.1;omega
  have e:=List.length_erase (a:=w) (l:=l);split at e <;>omega
def KD{w:Nat}{l:List Nat}(nd:l.Nodup)(h:∀x∈l,x < w)(e:l.length=w){j:Nat}(hj:j < w):j∈l:=by
 refine Classical.byContradiction λn=>?_;have:=Kf w (j::l) (bV.mpr ⟨n,nd⟩) λx hx=>by
  rcases ak.mp hx with rfl | hx
  . exact hj
  . exact h x hx
 rw[bx]at this;omega
def Kp.places(h:Kp S w ks):(ks.map Prod.fst).Nodup:=by
 rw[List.nodup_iff_pairwise_ne,bQ];refine List.Pairwise.imp_of_mem (λ{a b} ha hb e z=>?_) h.tri;have:=h.one b hb;rw[<- z,e]at this;exact S.zo this
def Kp.len(h:Kp S w ks):ks.length<=w:=by
 have:=Kf w _ h.places λx hx=>by
  obtain⟨k,hk,rfl⟩:=aE.mp hx;exact h.lt k hk
 rw[aj]at this;exact this
def Kp.full{w:Nat}{ks:List (Nat × (Nat->S.W))}{u:Nat->S.W}(h:Kp S w ks)(e:ks.length=w):∀j,j < w->Mine.clr F ks u j=S.zero:=λj hj=>by
 have:=KD h.places (λx hx=>by
  obtain⟨k,hk,rfl⟩:=aE.mp hx;exact h.lt k hk) (by rw[aj];exact e) hj
 obtain⟨k,hk,rfl⟩:=aE.mp this;exact h.clr k hk
open Classical in
noncomputable def Ar(v:Nat->S.W):Nat->Option Nat
 | 0=>none
 | w+1=>match Ar v w with
  | some p=>some p
  | none=>if v w=S.zero then none else some w
theorem Q2:∀{w:Nat},Ar v w=none->∀j,j < w->v j=S.zero
 | 0,_,j,hj=>absurd hj (bR j)
 | w+1,h,j,hj=>by
  unfold Ar at h;split at h
  . cases h
  . rename_i e;split at h
    . rename_i z;by_cases e':j=w
      . rw[e'];exact z
      . exact Q2 e j oM
    . cases h
theorem N7:∀{w:Nat},Ar v w=some p->p < w/\v p≠S.zero/\∀j,j < p->v j=S.zero
 | 0,h=>by cases h
 | w+1,h=>by
  unfold Ar at h;split at h
  . rename_i q e;cases h;obtain⟨a,b⟩:=N7 e;exact⟨oM,b⟩
  . rename_i e;split at h
    . cases h
    . rename_i z;cases h;exact⟨oM,z,Q2 e⟩
def GS(h:∀j,j < w->v j=S.zero):Ar v w=none:=by
 cases e:Ar v w with
 | none=>rfl
 | some p=>exact absurd (h p (N7 e).1) (N7 e).2.1
open Classical in
noncomputable def S9(F:X6 S)(w:Nat)(ks:List (Nat × (Nat->S.W)))(r:Nat->S.W):List (Nat × (Nat->S.W)):=
 if ks.length=w then ks else match Ar (clr F ks r) w with
  | none=>ks
  | some p=>ks++[(p,λj=>S.mul (F.inv (clr F ks r p)) (clr F ks r j))]
def N8(M:List (Nat × (Nat->S.W))->Prop)(h1:ks.length=w->M ks)(h2:(∀j,j < w->clr F ks r j=S.zero)->M ks)(h3:∀p,p < w->clr F ks r p≠S.zero->M (ks++[(p,λj=>S.mul (F.inv (clr F ks r p)) (clr F ks r j))])):M (S9 F w ks r):=by
 unfold S9;split
 . rename_i e;exact h1 e
 . split
   . rename_i e;exact h2 (Q2 e)
   . rename_i p e;exact h3 p (N7 e).1 (N7 e).2.1
def Kg(h:Kp S w ks):Kp S w (S9 F w ks r):=by
 refine N8 (λl=>Kp S w l) (λ_=>h) (λ_=>h) λp hp np=>?_;refine⟨λk hk=>?_,λk hk=>?_,List.pairwise_append.mpr ⟨h.tri,dw _ _,λa ha b hb=>?_⟩⟩
 . rcases aA.mp hk with hk | hk
   . exact h.lt k hk
   . rw[az.mp hk];exact hp
 . rcases aA.mp hk with hk | hk
   . exact h.one k hk
   . rw[az.mp hk];show S.mul _ _=_;rw[S.mul_comm,F.mul_inv _ np]
 . rw[az.mp hb];show S.mul _ (clr F ks r a.1)=_;rw[h.clr a ha,S.mul_zero]
def Qz(z:∀j,j < w->clr F ks u j=S.zero):∀j,j < w->clr F (S9 F w ks r) u j=S.zero:=by
 refine N8 (λl=>∀j,j < w->clr F l u j=S.zero) (λ_=>z) (λ_=>z) λp hp np j hj=>?_;rw[Ax];unfold stp;rw[z j hj,z p hp,Tw,OE,S.add_zero]
def Lj(h:Kp S w ks):∀j,j < w->clr F (S9 F w ks r) r j=S.zero:=by
 refine N8 (λl=>∀j,j < w->clr F l r j=S.zero) (λe=>h.full e) (λz=>z) λp hp np j hj=>?_;rw[Ax];show S.add _ (S.mul (F.neg (clr F ks r p)) (S.mul (F.inv _) _))=_;rw[<- S.mul_assoc,QK,F.mul_inv _ np,QK,Tv,F.add_neg]
noncomputable def kpL(F:X6 S)(w:Nat)(rs:List (Nat->S.W)):List (Nat × (Nat->S.W)):=rs.foldl (S9 F w) []
def Eh:kpL F w (rs++[r])=S9 F w (kpL F w rs) r:=by
 unfold kpL;rw[cJ];rfl
def GU(M:List (Nat->S.W)->List (Nat × (Nat->S.W))->Prop)(h0:M [] [])(h1:∀rs ks r,Kp S w ks->M rs ks->M (rs++[r]) (S9 F w ks r))(rs:List (Nat->S.W)):Kp S w (kpL F w rs)/\M rs (kpL F w rs):=by
 have key:∀n rs,rs.length=n->Kp S w (kpL F w rs)/\M rs (kpL F w rs):=by
  intro n
  induction n with
  | zero=>
   intro rs e;cases bA.mp e;exact⟨Kp.nil,h0⟩
  | succ n ih=>
   intro rs e;have ne:rs≠[]:=λz=>by rw[z]at e;cases e
   have sp:=cX ne;obtain⟨a,b⟩:=ih rs.dropLast (by rw[cY,e];rfl);rw[<- sp,Eh];exact⟨Kg a,h1 _ _ _ a b⟩
 exact key _ rs rfl
def CQ(rs:List (Nat->S.W)):Kp S w (kpL F w rs):=(GU (λ_ _=>True) trivial (λ_ _ _ _ _=>trivial) rs).1
def kv(ks:List (Nat × (Nat->S.W))):Nat->Nat->S.W:=λi=>(ks.getD i (0,λ_=>S.zero)).2
def kp(ks:List (Nat × (Nat->S.W))):Nat->Nat:=λi=>(ks.getD i (0,λ_=>S.zero)).1
theorem LC:∀{ks:List (Nat × (Nat->S.W))} {u:Nat->S.W},(∀k∈ks,AK S w n vs k.2)->AK S w n vs u->AK S w n vs (clr F ks u)
 | [],_,_,h=>h
 | k::ks,u,hk,h=>by
  rw[M4];exact LC (λq hq=>hk q (ay _ hq)) (h.add ((hk k (aq ..)).mul _))
def Qy(h:∀k∈ks,AK S w n vs k.2)(g:AK S w n vs r):∀k∈S9 F w ks r,AK S w n vs k.2:=by
 refine N8 (λl=>∀k∈l,AK S w n vs k.2) (λ_=>h) (λ_=>h) λp hp np k hk=>?_;rcases aA.mp hk with hk | hk
 . exact h k hk
 . rw[az.mp hk];exact(LC h g).mul _
def Qx(rs:List (Nat->S.W))(h:∀r∈rs,AK S w n vs r):∀k∈kpL F w rs,AK S w n vs k.2:=by
 refine(GU (F:=F) (w:=w) (λrs ks=>(∀r∈rs,AK S w n vs r)->∀k∈ks,AK S w n vs k.2) (λ_=>by simp) (λrs ks r K M h=>?_) rs).2 h;exact Qy (M λq hq=>h q (aP _ hq)) (h r (av _ (cZ r)))
theorem IZ:∀{ks:List (Nat × (Nat->S.W))} {u:Nat->S.W},(∀k∈ks,AK S w n vs k.2)->AK S w n vs (λj=>S.add (clr F ks u j) (F.neg (u j)))
 | [],u,_=>⟨λ_=>S.zero,λj _=>by rw[Oh];exact F.add_neg _⟩
 | k::ks,u,hk=>by
  rw[M4];have h1:=IZ (u:=stp F k u) λq hq=>hk q (ay _ hq);have h2:=(hk k (aq ..)).mul (F.neg (u k.1));refine(h1.add h2).congr λj _=>?_;show _=S.add (S.add _ (F.neg (S.add (u j) (S.mul (F.neg (u k.1)) (k.2 j))))) _;rw[Tx,S.add_assoc,S.add_assoc,S.add_comm (F.neg (S.mul _ _)),F.add_neg,S.add_zero]
end
structure Cb(S:SR)where
 cb:Nat->Nat->S.W->Prop
 mono:∀b t t' x,t<=t'->cb b t x->cb b t' x
 add:∀b t t' x y,cb b t x->cb b t' y->cb b (t+t') (S.add x y)
 mul:∀b b' t t' x y,cb b t x->cb b' t' y->cb (b * b') (t * t') (S.mul x y)
 up:∀b t k x,0 < k->cb b t x->cb (b * k) (t * k) x
 zero:∀b,0 < b->cb b 0 S.zero
 one:cb 1 1 S.one
 neg:∀b t x y,S.add x y=S.zero->cb b t x->cb b t y
 div:∀b t x z,S.mul x z=S.one->cb b t x->∃c,0 < c/\c<=max 1 t/\∀y t',cb b t' y->cb c t' (S.mul z y)
 sz:∀b t m x,b<=2 ^ m->t<=2 ^ m->cb b t x->S.sz m x
 dr:∀x,S.sz 2 x->cb 12 48 x
def Fr.cb(b t:Nat)(x:Fr):Prop:=0 < b/\∃a:Int,x.t * b=a * x.b/\a.natAbs<=t
def Fr.cb_add{b t t':Nat}{x y:Fr}(h:x.cb b t)(h':y.cb b t'):(Fr.add x y).cb b (t+t'):=by
 obtain⟨hb,a,e,l⟩:=h;obtain⟨_,a',e',l'⟩:=h';refine⟨hb,a+a',?_,by have:=Int.natAbs_add_le a a';omega⟩;have hc:(Fr.add x y).t * (x.b * y.b)=(x.t * y.b+y.t * x.b) * (Fr.add x y).b:=Fr.of_cross _ _ (aF x.p y.p);refine aU (bZ x.nb y.nb) ?_;rw[aI,hc];have e2:(x.t * y.b+y.t * x.b) * (Fr.add x y).b * b=((x.t * b) * y.b+(y.t * b) * x.b) * (Fr.add x y).b:=by
  rw[aI,Int.add_mul,aI x.t,aI y.t]
 rw[e2,e,e'];have e3:a * x.b * y.b+a' * y.b * x.b=(a+a') * (x.b * y.b):=by
  rw[Int.add_mul,aB,aB a',aH y.b x.b]
 rw[e3,aI]
def Fr.cb_mul{b b' t t':Nat}{x y:Fr}(h:x.cb b t)(h':y.cb b' t'):(Fr.mul x y).cb (b * b') (t * t'):=by
 obtain⟨hb,a,e,l⟩:=h;obtain⟨hb',a',e',l'⟩:=h';refine⟨bS hb hb',a * a',?_,by rw[aZ];exact bj l l'⟩;have hc:(Fr.mul x y).t * (x.b * y.b)=(x.t * y.t) * (Fr.mul x y).b:=Fr.of_cross _ _ (aF x.p y.p);refine aU (bZ x.nb y.nb) ?_;rw[aI,hc,Int.natCast_mul];have e2:x.t * y.t * (Fr.mul x y).b * ((b:Int) * b')=(x.t * b) * (y.t * b') * (Fr.mul x y).b:=by ac_rfl
 rw[e2,e,e'];ac_rfl
def Fr.cb_up{b t k:Nat}{x:Fr}(hk:0 < k)(h:x.cb b t):x.cb (b * k) (t * k):=by
 obtain⟨hb,a,e,l⟩:=h;refine⟨bS hb hk,a * k,?_,by rw[aZ,Int.natAbs_natCast];exact ba _ l⟩;rw[Int.natCast_mul,<- aB,e,aI]
def Fr.cb_neg{b t:Nat}{x y:Fr}(hz:Fr.add x y=Fr.zero)(h:x.cb b t):y.cb b t:=by
 obtain⟨hb,a,e,l⟩:=h;have hc:(Fr.add x y).t * (x.b * y.b)=(x.t * y.b+y.t * x.b) * (Fr.add x y).b:=Fr.of_cross _ _ (aF x.p y.p);rw[hz]at hc;have hc:0 * (x.b * y.b)=(x.t * y.b+y.t * x.b) * 1:=hc;rw[Int.zero_mul,bN]at hc;refine⟨hb,-a,?_,by rw[Int.natAbs_neg];exact l⟩;refine aU x.nb ?_;have e1:y.t * x.b = -(x.t * y.b):=by omega
 rw[aI,e1,bX,bX,bX,aI,e];congr 1;ac_rfl
def Fr.cb_div{b t:Nat}{x z:Fr}(ho:Fr.mul x z=Fr.one)(h:x.cb b t):∃c,0 < c/\c<=max 1 t/\∀(y:Fr) t',y.cb b t'->(Fr.mul z y).cb c t':=by
 obtain⟨hb,a,e,l⟩:=h;have hc:(Fr.mul x z).t * (x.b * z.b)=(x.t * z.t) * (Fr.mul x z).b:=Fr.of_cross _ _ (aF x.p z.p);rw[ho]at hc;have hc:1 * (x.b * z.b)=(x.t * z.t) * 1:=hc;rw[Int.one_mul,bN]at hc;have hz:z.t * a=z.b * b:=by
  refine aU x.nb ?_;have:z.t * a * x.b=z.t * (x.t * b):=by rw[e];ac_rfl
  rw[this];have:z.t * (x.t * b)=(x.t * z.t) * b:=by ac_rfl
  rw[this,<- hc];ac_rfl
 have ha:a≠0:=λz0=>by
  rw[z0,Int.mul_zero]at hz;rcases Int.mul_eq_zero.mp hz.symm with q | q
  . exact z.nb q
  . omega
 refine⟨a.natAbs,Int.natAbs_pos.mpr ha,oM,λy t' hy=>?_⟩;obtain⟨_,a',e',l'⟩:=hy;have key:(Fr.mul z y).t * a=a' * (Fr.mul z y).b:=by
  have hc:(Fr.mul z y).t * (z.b * y.b)=(z.t * y.t) * (Fr.mul z y).b:=Fr.of_cross _ _ (aF z.p y.p);refine aU (bZ z.nb y.nb) ?_;rw[aI,hc];have e1:z.t * y.t * (Fr.mul z y).b * a=(z.t * a) * y.t * (Fr.mul z y).b:=by ac_rfl
  have e2:a' * (Fr.mul z y).b * (z.b * y.b)=(a' * y.b) * z.b * (Fr.mul z y).b:=by ac_rfl
  rw[e1,e2,hz,<- e'];ac_rfl
 refine⟨Int.natAbs_pos.mpr ha,?_⟩;rcases Int.natAbs_eq a with q | q
 . exact⟨a',by rw[<- q];exact key,l'⟩
 . refine⟨-a',?_,by rw[Int.natAbs_neg];exact l'⟩;have:((a.natAbs:Nat):Int) = -a:=by omega
   rw[this,Int.mul_neg,bX,key]
def Fr.cb_sz{b t m:Nat}{x:Fr}(hb:b<=2 ^ m)(ht:t<=2 ^ m)(h:x.cb b t):x.sz m:=by
 obtain⟨pb,a,e,l⟩:=h;have cop:Nat.Coprime x.t.natAbs x.b.natAbs:=by
  have l:=x.l;unfold dv at l;have:Int.gcd x.t x.b=1:=by omega
  exact this
 have e':x.t.natAbs * b=a.natAbs * x.b.natAbs:=by
  have:=congrArg Int.natAbs e;rw[aZ,aZ,Int.natAbs_natCast]at this;exact this
 constructor
 . have d:x.t.natAbs ∣ a.natAbs:=cop.dvd_of_dvd_mul_right ⟨b,e'.symm⟩;by_cases z:a.natAbs=0
   . rw[z,Nat.zero_mul]at e';rcases Nat.mul_eq_zero.mp e' with h | h <;>omega
   . exact af (cf oM d) (af l ht)
 . have d:x.b.natAbs ∣ b:=cop.symm.dvd_of_dvd_mul_left ⟨a.natAbs,by rw[e',bO]⟩;exact af (cf pb d) hb
def Fr.cb_dr{x:Fr}(h:x.sz 2):x.cb 12 48:=by
 obtain⟨h1,h2⟩:=h;have p:=x.p;have e:(2:Nat) ^ 2=4:=rfl;rw[e]at h1 h2;have:x.b=1\/x.b=2\/x.b=3\/x.b=4:=by omega
 rcases this with b | b | b | b
 . exact⟨by decide,x.t * 12,by rw[b];omega,oM⟩
 . exact⟨by decide,x.t * 6,by rw[b];omega,oM⟩
 . exact⟨by decide,x.t * 4,by rw[b];omega,oM⟩
 . exact⟨by decide,x.t * 3,by rw[b];omega,oM⟩
def ZE:Cb Hg where
 cb:=Fr.cb
 mono _ _ _ _ h:=λ⟨p,a,e,l⟩=>⟨p,a,e,af l h⟩
 add _ _ _ _ _ h h':=Fr.cb_add h h'
 mul _ _ _ _ _ _ h h':=Fr.cb_mul h h'
 up _ _ _ _ hk h:=Fr.cb_up hk h
 zero b hb:=⟨hb,0,by show(0:Int) * b=0 * 1;simp,ae _⟩
 one:=⟨by decide,1,by decide,by decide⟩
 neg _ _ _ _ hz h:=Fr.cb_neg hz h
 div _ _ _ _ ho h:=Fr.cb_div ho h
 sz _ _ _ _ hb ht h:=Fr.cb_sz hb ht h
 dr _ h:=Fr.cb_dr h
def Vw(p:Int)(hp:2<=p):Cb (U3 p hp)where
 cb _ _ _:=True
 mono _ _ _ _ _ _:=trivial
 add _ _ _ _ _ _ _:=trivial
 mul _ _ _ _ _ _ _ _:=trivial
 up _ _ _ _ _ _:=trivial
 zero _ _:=trivial
 one:=trivial
 neg _ _ _ _ _ _:=trivial
 div _ t _ _ _ _:=⟨1,by decide,oM,λ_ _ _=>trivial⟩
 sz _ _ _ _ _ _ _:=trivial
 dr _ _:=trivial
section
variable{S:SR}{F:X6 S}{C:Cb S}
def M3(S:SR)(x y:Nat->S.W)(n:Nat):S.W:=sm S (λi=>S.mul (x i) (y i)) n
def KJ(S:SR)(r n:Nat)(x y:Nat->S.W):Prop:=(∀i,i < n->S.sz r (x i)/\S.sz r (y i))/\∀i,i<=n->S.sz r (M3 S x y i)
def Ji(F:X6 S)(W r:Nat)(ks:List (Nat × (Nat->S.W)))(x:Nat->S.W):Prop:=(∀i,i<=ks.length->∀j,j < W->S.sz r (clr F (ks.take i) x j))/\∀k∈ks,∀j,j < W->S.sz r (k.2 j)
def E7{α:Type}{l:List α}{i:Nat}{x:α}(h:l[i]? = some x):l.take (i+1)=l.take i++[x]:=by
 rw[List.take_add_one,h];rfl
def XB(C:Cb S)(W β t:Nat)(x:Nat->S.W):Prop:=∃b,0 < b/\b<=2 ^ β/\∀j,j < W->C.cb b (2 ^ t) (x j)
def AY(h:a<=b):2 ^ a<=2 ^ b:=cG (by decide) h
theorem XB.mono(h:XB C W β t x)(hb:β<=β')(ht:t<=t'):XB C W β' t' x:=by
 obtain⟨b,b0,b1,e⟩:=h;exact⟨b,b0,af b1 (AY hb),λj hj=>C.mono _ _ _ _ (AY ht) (e j hj)⟩
theorem XB.sz(h:XB C W β t x)(hb:β<=m)(ht:t<=m)(hj:j < W):S.sz m (x j):=by
 obtain⟨b,b0,b1,e⟩:=h;exact C.sz b (2 ^ t) m _ (af b1 (AY hb)) (AY ht) (e j hj)
theorem XB.stp(h:XB C W β t x)(g:XB C W s s k.2)(hk:k.1 < W):XB C W (β+s) (t+s+1) (stp F k x):=by
 obtain⟨b,b0,b1,e⟩:=h;obtain⟨c,c0,c1,f⟩:=g;refine⟨b * c,bS b0 c0,by rw[aW];exact bj b1 c1,λj hj=>?_⟩;have h1:=C.mono _ _ (2 ^ t * 2 ^ s) _ (aV _ c1) (C.up _ _ c _ c0 (e j hj));have h2:=C.mul _ _ _ _ _ _ (C.neg _ _ _ _ (F.add_neg _) (e k.1 hk)) (f j hj);have:=C.add _ _ _ _ _ h1 h2;have e2:2 ^ (t+s+1)=2 ^ t * 2 ^ s+2 ^ t * 2 ^ s:=by rw[cg,aW];omega
 rw[e2];exact this
def XB.norm(h:XB C W β t x)(hp:p < W)(np:x p≠S.zero):XB C W t t λj=>S.mul (F.inv (x p)) (x j):=by
 obtain⟨b,b0,b1,e⟩:=h;obtain⟨c,c0,c1,f⟩:=C.div b _ (x p) _ (F.mul_inv _ np) (e p hp);have:1<=2 ^ t:=dc;exact⟨c,c0,oM,λj hj=>f _ _ (e j hj)⟩
def Kb(C:Cb S)(W r:Nat)(ks:List (Nat × (Nat->S.W))):Prop:=∀i k,ks[i]? = some k->k.1 < W/\XB C W ((r+1) * 2 ^ i - 1) ((r+1) * 2 ^ i - 1) k.2
def Kb.nil:Kb C W r []:=λi k h=>by simp at h
def MU(r i:Nat):(r+1) * 2 ^ (i+1)=(r+1) * 2 ^ i+(r+1) * 2 ^ i:=by rw[cg,<- bB];omega
def Dx(r i:Nat):r+1<=(r+1) * 2 ^ i:=de _ dc
def Jo(h:i<=l):(r+1) * 2 ^ i<=(r+1) * 2 ^ l:=aV _ (AY h)
theorem Kb.clr{W β r:Nat}{ks:List (Nat × (Nat->S.W))}{x:Nat->S.W}(K:Kb C W r ks)(h:XB C W β r x):∀i,i<=ks.length->XB C W (β+((r+1) * 2 ^ i - (r+1))) ((r+1) * 2 ^ i - 1) (Mine.clr F (ks.take i) x)
 | 0,_=>h.mono oM (by simp)
 | i+1,hi=>by
  have e:ks[i]? = some (ks[i]'oM):=ax _;obtain⟨k1,k2⟩:=K i _ e;rw[E7 e,Ax];have:=MU r i;have:=Dx r i;exact((Kb.clr K h i oM).stp k2 k1).mono oM oM
def Kb.all(K:Kb C W r ks)(h:XB C W β r x):XB C W (β+((r+1) * 2 ^ ks.length - (r+1))) ((r+1) * 2 ^ ks.length - 1) (Mine.clr F ks x):=by
 have:=K.clr (F:=F) h ks.length (ae _);rwa [bb]at this
def Kb.clrZ(K:Kb C W r ks)(h:XB C W β r x)(hl:ks.length<=l)(hm:β+(r+1) * 2 ^ l<=m):Ji F W m ks x:=by
 refine⟨λi hi j hj=>?_,λk hk j hj=>?_⟩
 . have:=Jo (r:=r) (show i<=l by omega);exact(K.clr (F:=F) h i hi).sz oM oM hj
 . obtain⟨i,hi,e⟩:=cK.mp hk;obtain⟨_,q⟩:=K i k (by rw[ax hi,e]);have:=Jo (r:=r) (show i<=l by omega);exact q.sz oM oM hj
def Kb.keep(K:Kb C W r ks)(h:XB C W β r x)(hl:l<=W):Kb C W r (S9 F l ks x):=by
 refine N8 (λL=>Kb C W r L) (λ_=>K) (λ_=>K) λp hp np i k e=>?_;by_cases hi:i < ks.length
 . rw[aJ hi]at e;exact K i k e
 . rw[aQ oM]at e;have:i=ks.length:=by
    have:=(aY.mp e).1;simp at this;omega
   subst this;rw[cq]at e;cases Option.some.inj e;exact⟨by show p < W;omega,(K.all h).norm oM np⟩
theorem Kb.kpL(hl:l<=W)(rs:List (Nat->S.W))(h:∀x∈rs,XB C W β r x):Kb C W r (Mine.kpL F l rs):=by
 refine(GU (F:=F) (w:=l) (λms ks=>(∀x∈ms,XB C W β r x)->Kb C W r ks) (λ_=>Kb.nil) (λms ks x _ M h=>?_) rs).2 h;exact(M λq hq=>h q (aP _ hq)).keep (h x (av _ (cZ x))) hl
def Kb.mem(K:Kb C W r ks)(hl:ks.length<=l):∀k∈ks,k.1 < W/\XB C W ((r+1) * 2 ^ l - 1) ((r+1) * 2 ^ l - 1) k.2:=λk hk=>by
 obtain⟨i,hi,e⟩:=cK.mp hk;obtain⟨a,q⟩:=K i k (by rw[ax hi,e]);have:=Jo (r:=r) (show i<=l by omega);exact⟨a,q.mono oM oM⟩
theorem Hm(b0:0 < b)(c0:0 < c)(h:∀i,i < n->C.cb b t (x i))(g:∀i,i < n->C.cb c t' (y i)):∀i,i<=n->C.cb (b * c) (i * (t * t')) (M3 S x y i)
 | 0,_=>by rw[Nat.zero_mul];exact C.zero _ (bS b0 c0)
 | i+1,hi=>by
  rw[bF];exact C.add _ _ _ _ _ (Hm b0 c0 h g i oM) (C.mul _ _ _ _ _ _ (h i oM) (g i oM))
def n_lt(n:Nat):n<=2 ^ n:=bw Nat.lt_two_pow_self
def Kw(h:i<=n):i * (2 ^ t * 2 ^ t')<=2 ^ (t+t'+n):=by
 rw[aW,aW,bO];exact aV _ (af h (n_lt n))
def T4(h:XB C n β t x)(g:XB C n β' t' y)(hb:β+β'<=m)(ht:t+t'+n<=m):KJ S m n x y:=by
 refine⟨λi hi=>⟨h.sz oM oM hi,g.sz oM oM hi⟩,λi hi=>?_⟩;obtain⟨b,b0,b1,e⟩:=h;obtain⟨c,c0,c1,f⟩:=g;have:=Hm b0 c0 e f i hi;exact C.sz _ _ m _ (af (bj b1 c1) (by rw[<- aW];exact AY hb)) (af (Kw hi) (AY ht)) this
def TB(C:Cb S)(h n β t:Nat)(A:Nat->Nat->S.W):Prop:=∃b,0 < b/\b<=2 ^ β/\∀i,i < h->∀j,j < n->C.cb b (2 ^ t) (A i j)
theorem TB.mono(q:TB C h n β t A)(hb:β<=β')(ht:t<=t'):TB C h n β' t' A:=by
 obtain⟨b,b0,b1,e⟩:=q;exact⟨b,b0,af b1 (AY hb),λi hi j hj=>C.mono _ _ _ _ (AY ht) (e i hi j hj)⟩
def TB.col(q:TB C h n β t A)(hj:j < n):XB C h β t λi=>A i j:=by
 obtain⟨b,b0,b1,e⟩:=q;exact⟨b,b0,b1,λi hi=>e i hi j hj⟩
theorem XB.by(q:XB C h β t x)(g:TB C h n β' t' A):XB C n (β+β') (t+t'+h) λj=>M3 S x (λi=>A i j) h:=by
 obtain⟨b,b0,b1,e⟩:=q;obtain⟨c,c0,c1,f⟩:=g;refine⟨b * c,bS b0 c0,by rw[aW];exact bj b1 c1,λj hj=>?_⟩;exact C.mono _ _ _ _ (Kw (ae _)) (Hm (y:=λi=>A i j) b0 c0 e (λi hi=>f i hi j hj) h (ae _))
theorem TB.by(g:TB C h n β' t' A)(q:XB C n β t x):XB C h (β'+β) (t'+t+n) λi=>M3 S (A i) x n:=by
 obtain⟨b,b0,b1,e⟩:=q;obtain⟨c,c0,c1,f⟩:=g;refine⟨c * b,bS c0 b0,by rw[aW];exact bj c1 b1,λi hi=>?_⟩;exact C.mono _ _ _ _ (Kw (ae _)) (Hm (x:=A i) c0 b0 (λj hj=>f i hi j hj) e n (ae _))
theorem TB.of:∀{h:Nat},(∀i,i < h->XB C n β t (A i))->TB C h n (h * β) (t+h * β) A
 | 0,_=>⟨1,by decide,by simp,λi hi=>absurd hi (bR i)⟩
 | h+1,q=>by
  obtain⟨b,b0,b1,e⟩:=TB.of (h:=h) λi hi=>q i oM;obtain⟨c,c0,c1,f⟩:=q h oM;have e1:(h+1) * β=h * β+β:=bF ..;refine⟨b * c,bS b0 c0,by rw[e1,aW];exact bj b1 c1,λi hi j hj=>?_⟩;by_cases z:i=h
  . subst z;have:=C.up _ _ b _ b0 (f j hj);rw[bO c b]at this;refine C.mono _ _ _ _ ?_ this;rw[aW];exact aV _ (af b1 (AY oM))
  . have:=C.up _ _ c _ c0 (e i oM j hj);refine C.mono _ _ _ _ ?_ this;rw[e1,show t+(h * β+β)=(t+h * β)+β by omega,aW _ (t+h * β)];exact aV _ c1
def Ku(F:X6 S):List (Nat × (Nat->S.W))->List (Nat × (Nat->S.W)):=λks=>ks.reverse.foldl (λtold k=>told++[(k.1,clr F told k.2)]) []
def echI(F:X6 S)(ks:List (Nat × (Nat->S.W)))(i:Nat):List (Nat × (Nat->S.W)):=(ks.reverse.take i).foldl (λtold k=>told++[(k.1,clr F told k.2)]) []
def AH{S:SR}{F:X6 S}{ks:List (Nat × (Nat->S.W))}{i:Nat}{k:Nat × (Nat->S.W)}(hi:i < ks.length)(h:ks[ks.length - 1 - i]? = some k):echI F ks (i+1)=echI F ks i++[(k.1,clr F (echI F ks i) k.2)]:=by
 unfold echI;rw[E7 (x:=k) (by rw[List.getElem?_reverse hi];exact h),cJ];rfl
def Aw:echI F ks ks.length=Ku F ks:=by
 unfold echI Ku;rw[<- List.length_reverse,bb]
theorem R1:∀{i:Nat},i<=ks.length->(echI F ks i).length=i
 | 0,_=>rfl
 | i+1,h=>by
  rw[AH (k:=ks[ks.length - 1 - i]'oM) oM (ax _),ai,R1 oM];rfl
theorem IR:∀{i:Nat},i<=ks.length->∀e∈echI F ks i,∃k∈ks,e.1=k.1
 | 0,_,e,h=>nomatch h
 | i+1,h,e,he=>by
  rw[AH (k:=ks[ks.length - 1 - i]'oM) oM (ax _)]at he;rcases aA.mp he with he | he
  . exact IR oM e he
  . rw[az.mp he];exact⟨_,bc (show ks.length - 1 - i < ks.length by omega),rfl⟩
theorem Kb.echI(h:∀k∈ks,k.1 < W/\XB C W s s k.2):∀{i:Nat},i<=ks.length->Kb C W s (Mine.echI F ks i)
 | 0,_=>Kb.nil
 | i+1,hi=>by
  have ih:=Kb.echI h (i:=i) oM;have il:=R1 (F:=F) (ks:=ks) (i:=i) oM;rw[AH (k:=ks[ks.length - 1 - i]'oM) oM (ax _)];intro q k e;by_cases hq:q < i
  . rw[aJ oM]at e;exact ih q k e
  . rw[aQ oM,il]at e;have:q=i:=by
     have:=(aY.mp e).1;simp at this;omega
    subst this;rw[cq]at e;cases Option.some.inj e;obtain⟨a,b⟩:=h _ (bc (show ks.length - 1 - q < ks.length by omega));have:=ih.all (F:=F) b;rw[il]at this;have:=Dx s q;exact⟨a,XB.mono (by assumption) oM oM⟩
end
section
variable{S:SR}{F:X6 S}{C:Cb S}
noncomputable def U7(F:X6 S)(l:Nat)(ρ:List Nat->Nat->S.W)(ks:List (Nat × (Nat->S.W)))(ws:List (List Nat)):List (Nat × (Nat->S.W)):=ws.foldl (λks w=>S9 F l ks (ρ w)) ks
def Oz:U7 F l ρ ks (ws++[u])=S9 F l (U7 F l ρ ks ws) (ρ u):=by
 unfold U7;rw[cJ];rfl
noncomputable def O7(F:X6 S)(l:Nat)(ρ:List Nat->Nat->S.W):List (Nat × (Nat->S.W))->List (List Nat)->List (List Nat)
 | _,[]=>[]
 | ks,u::ws=>(if(S9 F l ks (ρ u)).length≠ks.length then [u]else [])++O7 F l ρ (S9 F l ks (ρ u)) ws
theorem Cg:∀{ks:List (Nat × (Nat->S.W))} {ws:List (List Nat)} {u:List Nat},O7 F l ρ ks (ws++[u])=O7 F l ρ ks ws++(if(S9 F l (U7 F l ρ ks ws) (ρ u)).length≠(U7 F l ρ ks ws).length then [u]else [])
 | ks,[],u=>by
  show(if _ then _ else _)++O7 F l ρ _ []=[]++_;show(if _ then _ else _)++[]=[]++_;rw[aN,cM];rfl
 | ks,w::ws,u=>by
  rw[cI];show(if _ then _ else _)++O7 F l ρ (S9 F l ks (ρ w)) (ws++[u])=((if _ then _ else _)++O7 F l ρ (S9 F l ks (ρ w)) ws)++_;rw[Cg,bD];rfl
def Lk:(S9 F w ks r).length=ks.length\/(S9 F w ks r).length=ks.length+1:=
 N8 (λl=>l.length=ks.length\/l.length=ks.length+1) (λ_=>.inl rfl) (λ_=>.inl rfl) λ_ _ _=>.inr (by rw[ai];rfl)
theorem W0:∀{ws:List (List Nat)} {ks:List (Nat × (Nat->S.W))},(O7 F l ρ ks ws).length+ks.length=(U7 F l ρ ks ws).length
 | [],ks=>by show 0+_=_;rw[Nat.zero_add];rfl
 | u::ws,ks=>by
  show((if _ then _ else _)++O7 F l ρ (S9 F l ks (ρ u)) ws).length+_=(U7 F l ρ (S9 F l ks (ρ u)) ws).length;rw[<- W0 (ws:=ws),ai];rcases Lk (F:=F) (w:=l) (ks:=ks) (r:=ρ u)with e | e
  . rw[if_neg oM,e];simp
  . rw[if_pos oM,e];simp;omega
theorem Hd:∀{ws:List (List Nat)} {ks:List (Nat × (Nat->S.W))},Kp S l ks->Kp S l (U7 F l ρ ks ws)
 | [],_,h=>h
 | u::ws,ks,h=>Hd (ws:=ws) (Kg (F:=F) h)
theorem Kr(hl:l<=W):∀{ws:List (List Nat)} {ks:List (Nat × (Nat->S.W))},Kb C W r ks->(∀u∈ws,XB C W β r (ρ u))->Kb C W r (U7 F l ρ ks ws)
 | [],_,h,_=>h
 | u::ws,ks,h,g=>Kr hl (ws:=ws) (h.keep (g u (aq ..)) hl) λv hv=>g v (ay _ hv)
theorem O3:∀{ws:List (List Nat)} {ks:List (Nat × (Nat->S.W))} {u:List Nat},u∈O7 F l ρ ks ws->u∈ws
 | [],_,_,h=>nomatch h
 | v::ws,ks,u,h=>by
  rcases aA.mp h with h | h
  . split at h
    . rw[az.mp h];exact aq ..
    . cases h
  . exact ay _ (O3 h)
structure Uq(S:SR)where
 ks:List (Nat × (Nat->S.W))
 told:List (List Nat)
 last:List (List Nat)
noncomputable def l7(F:X6 S)(l:Nat)(ρ:List Nat->Nat->S.W)(g:List (List Nat)->List (List Nat)):Nat->Uq S
 | 0=>⟨[],[],[[]]⟩
 | i+1=>⟨U7 F l ρ (l7 F l ρ g i).ks (l7 F l ρ g i).last,(l7 F l ρ g i).told++O7 F l ρ (l7 F l ρ g i).ks (l7 F l ρ g i).last,g (O7 F l ρ (l7 F l ρ g i).ks (l7 F l ρ g i).last)⟩
theorem N9:∀i,Kp S l (l7 F l ρ g i).ks
 | 0=>Kp.nil
 | i+1=>Hd (N9 i)
theorem GX:∀i,(l7 F l ρ g i).told.length=(l7 F l ρ g i).ks.length
 | 0=>rfl
 | i+1=>by
  show((l7 F l ρ g i).told++O7 F l ρ (l7 F l ρ g i).ks (l7 F l ρ g i).last).length=(U7 F l ρ (l7 F l ρ g i).ks (l7 F l ρ g i).last).length;rw[ai,GX i,<- W0];omega
theorem Ox(hl:l<=W)(h:∀i,∀u∈(l7 F l ρ g i).last,XB C W β r (ρ u)):∀i,Kb C W r (l7 F l ρ g i).ks
 | 0=>Kb.nil
 | i+1=>Kr hl (Ox hl h i) (h i)
def Uk(l:Nat)(s:Uq S):Nat:=if s.last=[]then 0 else l - s.ks.length+1
def Oy(hg:g []=[])(n:(l7 F l ρ g i).last≠[]):Uk l (l7 F l ρ g (i+1)) < Uk l (l7 F l ρ g i):=by
 unfold Uk;rw[if_neg n];have k:=(N9 (F:=F) (l:=l) (ρ:=ρ) (g:=g) (i+1)).len;have e:=W0 (F:=F) (l:=l) (ρ:=ρ) (ws:=(l7 F l ρ g i).last) (ks:=(l7 F l ρ g i).ks);have k':(U7 F l ρ (l7 F l ρ g i).ks (l7 F l ρ g i).last).length<=l:=k;split
 . omega
 . rename_i z;show l - (U7 F l ρ (l7 F l ρ g i).ks (l7 F l ρ g i).last).length+1 < _;by_cases z2:O7 F l ρ (l7 F l ρ g i).ks (l7 F l ρ g i).last=[]
   . refine absurd ?_ z;show g (O7 F l ρ (l7 F l ρ g i).ks (l7 F l ρ g i).last)=[];rw[z2,hg]
   . have:=List.length_pos_iff.mpr z2;omega
def IM(hg:g []=[])(h:(l7 F l ρ g i).last=[]):l7 F l ρ g (i+1)=l7 F l ρ g i:=by
 show Uq.mk _ _ _=_;rw[h];show Uq.mk (l7 F l ρ g i).ks ((l7 F l ρ g i).told++[]) (g [])=_;rw[aN,hg];cases e:l7 F l ρ g i with
 | mk a b c=>
  rw[e]at h;cases h;rfl
theorem Ko(hg:g []=[])(h:(l7 F l ρ g i).last=[]):∀j,l7 F l ρ g (i+j)=l7 F l ρ g i
 | 0=>rfl
 | j+1=>by
  have:=Ko hg h j;rw[<- Nat.add_assoc,IM hg (by rw[this];exact h),this]
def GY(hg:g []=[]):(l7 F l ρ g (l+1)).last=[]:=by
 have key:∀i,(l7 F l ρ g i).last=[]\/Uk l (l7 F l ρ g i)+i<=l+1:=λi=>by
  induction i with
  | zero=>right;show(if _ then _ else _)+0<=_;split <;>simp <;>omega
  | succ i ih=>
   by_cases z:(l7 F l ρ g i).last=[]
   . left;rw[IM hg z];exact z
   . right;have:=Oy hg z;rcases ih with q | q
     . exact absurd q z
     . omega
 rcases key (l+1)with h | h
 . exact h
 . refine Classical.byContradiction λz=>?_;unfold Uk at h;rw[if_neg z]at h;omega
noncomputable def DB(F:X6 S)(l:Nat)(ρ:List Nat->Nat->S.W)(g:List (List Nat)->List (List Nat)):List (List Nat):=(l7 F l ρ g (l+1)).told
def Em(hg:g []=[])(h:(l7 F l ρ g i).last=[]):(l7 F l ρ g i).told=DB F l ρ g:=by
 unfold DB;rcases Nat.le_total i (l+1)with q | q
 . have:=Ko hg h (l+1 - i);rw[show i+(l+1 - i)=l+1 by omega]at this;rw[this]
 . have:=Ko hg (GY (F:=F) (l:=l) (ρ:=ρ) hg) (i - (l+1));rw[show l+1+(i - (l+1))=i by omega]at this;rw[this]
end
section
variable{S:SR}{F:X6 S}{C:Cb S}
def PQ(S:SR)(n:Nat)(A:Nat->Nat->S.W)(x:Nat->S.W):Nat->S.W:=λj=>M3 S x (λi=>A i j) n
def clB(S:SR)(n:Nat)(A:Nat->Nat->S.W)(y:Nat->S.W):Nat->S.W:=λi=>M3 S (A i) y n
def E5(l:List Nat)(tb:Nat->α)(c:Nat):α:=tb (l.idxOf c)
def w4(S:SR)(n:Nat)(st:Nat->S.W)(tc:Nat->Nat->Nat->S.W)(u:List Nat):Nat->S.W:=u.foldl (λx c=>PQ S n (tc c) x) st
def D6:w4 S n st tc (u++[c])=PQ S n (tc c) (w4 S n st tc u):=by
 unfold w4;rw[cJ];rfl
def gB(l:List Nat)(ws:List (List Nat)):List (List Nat):=ws.flatMap λu=>l.map λc=>u++[c]
def Kn:gB l []=[]:=rfl
structure MB(C:Cb S)(n m μ:Nat)(st:Nat->S.W)(tb:Nat->Nat->Nat->S.W)(en:Nat->S.W):Prop where
 st:XB C n μ μ st
 tb:∀a,a < m->TB C n n μ μ (tb a)
 en:XB C n μ μ en
theorem MB.mono{n m μ μ':Nat}{st:Nat->S.W}{tb:Nat->Nat->Nat->S.W}{en:Nat->S.W}(h:MB C n m μ st tb en)(e:μ<=μ'):MB C n m μ' st tb en:=⟨h.st.mono e e,λa ha=>(h.tb a ha).mono e e,h.en.mono e e⟩
def Lo{l:List Nat}{c:Nat}(h:c∈l):l.idxOf c < l.length:=List.idxOf_lt_length_iff.mpr h
def MB.row{n μ:Nat}{l:List Nat}{st:Nat->S.W}{tb:Nat->Nat->Nat->S.W}{en:Nat->S.W}(h:MB C n l.length μ st tb en)(u:List Nat)(hu:∀c∈u,c∈l):XB C n ((u.length+1) * (μ+n)) ((u.length+1) * (μ+n)) (w4 S n st (E5 l tb) u):=by
 have key:∀k,∀u:List Nat,u.length=k->(∀c∈u,c∈l)->XB C n ((k+1) * (μ+n)) ((k+1) * (μ+n)) (w4 S n st (E5 l tb) u):=by
  intro k
  induction k with
  | zero=>
   intro u e _;rw[bA.mp e];exact h.st.mono oM oM
  | succ k ih=>
   intro u e hu;have ne:u≠[]:=λz=>by rw[z]at e;cases e
   rw[<- cX ne,D6];have h1:=ih u.dropLast (by rw[cY];omega) λc hc=>hu c (List.dropLast_subset u hc);have h2:=h.tb (l.idxOf (u.getLast ne)) (Lo (hu _ (List.getLast_mem ne)));have e1:(k+1+1) * (μ+n)=(k+1) * (μ+n)+(μ+n):=bF ..;exact(h1.by h2).mono oM oM
 exact key u.length u rfl hu
def R5(h:k<=n):(k+1) * x<=(n+1) * x:=ba _ oM
def Gw(l:List Nat)(g:List (List Nat)->List (List Nat)):Prop:=g []=[]/\∀ws i,(∀v∈ws,v.length=i/\∀c∈v,c∈l)->∀u∈g ws,u.length=i+1/\∀c∈u,c∈l
def Cf:Gw l (gB l):=⟨rfl,λws i h u hu=>by
 obtain⟨v,hv,hu⟩:=df.mp hu;obtain⟨c,hc,rfl⟩:=aE.mp hu;obtain⟨h1,h2⟩:=h v hv;refine⟨by rw[ai,h1];rfl,λd hd=>?_⟩;rcases aA.mp hd with hd | hd
 . exact h2 d hd
 . rw[az.mp hd];exact hc⟩
theorem V9(hg:Gw l g):∀i,∀u∈(l7 F W ρ g i).last,u.length=i/\∀c∈u,c∈l
 | 0,u,hu=>by
  rw[az.mp hu];exact⟨rfl,by simp⟩
 | i+1,u,hu=>hg.2 _ i (λv hv=>V9 hg i v (O3 hv)) u hu
theorem Ow(hg:Gw l g):∀i,(l7 F W ρ g i).last≠[]->i<=(l7 F W ρ g i).ks.length
 | 0,_=>aK _
 | i+1,h=>by
  have h1:O7 F W ρ (l7 F W ρ g i).ks (l7 F W ρ g i).last≠[]:=λz=>h (by show g (O7 F W ρ (l7 F W ρ g i).ks (l7 F W ρ g i).last)=[];rw[z,hg.1]);have h2:(l7 F W ρ g i).last≠[]:=λz=>h1 (by rw[z];rfl);have:=Ow hg i h2;have e:=W0 (F:=F) (l:=W) (ρ:=ρ) (ws:=(l7 F W ρ g i).last) (ks:=(l7 F W ρ g i).ks);have:=List.length_pos_iff.mpr h1;show i+1<=(U7 F W ρ (l7 F W ρ g i).ks (l7 F W ρ g i).last).length;omega
def Ov(hg:Gw l g)(hu:u∈(l7 F W ρ g i).last):u.length<=W/\∀c∈u,c∈l:=by
 have h1:=V9 hg i u hu;have h2:=Ow hg i λz=>by rw[z]at hu;cases hu
 have h3:=(N9 (F:=F) (l:=W) (ρ:=ρ) (g:=g) i).len;exact⟨oM,h1.2⟩
theorem Ou(hg:Gw l g):∀i,∀u∈(l7 F W ρ g i).told,u.length<=W/\∀c∈u,c∈l
 | 0,u,hu=>nomatch hu
 | i+1,u,hu=>by
  rcases aA.mp hu with hu | hu
  . exact Ou hg i u hu
  . exact Ov hg (O3 hu)
end
section
variable{S:SR}{F:X6 S}{C:Cb S}
def Zv(es:List (Nat × (Nat->S.W)))(j:Nat):Nat:=(es.map Prod.fst).getD j 0
def nst(es:List (Nat × (Nat->S.W)))(st:Nat->S.W):Nat->S.W:=λj=>st (Zv es j)
def ntb(n:Nat)(es:List (Nat × (Nat->S.W)))(tb:Nat->Nat->Nat->S.W):Nat->Nat->Nat->S.W:=λa i j=>M3 S (kv es i) (λk=>tb a k (Zv es j)) n
def nen(n:Nat)(es:List (Nat × (Nat->S.W)))(en:Nat->S.W):Nat->S.W:=λi=>M3 S (kv es i) en n
def Oj(h:es[i]? = some k):kv es i=k.2:=by
 unfold kv;rw[bT,h];rfl
def Tf(h:es[i]? = some k):Zv es i=k.1:=by
 unfold Zv;rw[bT,aD,h];rfl
def zF(n μ:Nat):Nat:=2 * (((n+2) * (μ+n)+1) * 2 ^ n)
def zC(n μ:Nat):Nat:=2 * (((n+2) * (μ+n)+1) * 4 ^ n)
def p24(n:Nat):2 ^ n<=4 ^ n:=Nat.pow_le_pow_left (by decide) n
def p4_1(n:Nat):1<=4 ^ n:=Nat.pos_of_ne_zero (by simp)
def Ut:zF n μ<=zC n μ:=aV _ (aV _ (p24 n))
def Us:(n+2) * (μ+n)<=zF n μ:=by
 unfold zF;have:=de ((n+2) * (μ+n)+1) (show 0 < 2 ^ n from dc);omega
def Zm:(n+1) * x<=(n+2) * x:=ba _ oM
def Ur:(n+1) * (μ+n)+((n+1) * (μ+n)+1) * 2 ^ n<=zF n μ:=by
 have h1:=Us (n:=n) (μ:=μ);have h2:=Zm (n:=n) (x:=μ+n);have h3:((n+1) * (μ+n)+1) * 2 ^ n<=((n+2) * (μ+n)+1) * 2 ^ n:=ba _ oM;have h4:=de ((n+2) * (μ+n)+1) (show 0 < 2 ^ n from dc);unfold zF;omega
def zU(n μ:Nat):Nat:=((n+1) * (μ+n)+1) * 4 ^ n
def zU_C:zU n μ+μ+n<=zC n μ:=by
 unfold zU zC;have h1:((n+1) * (μ+n)+1) * 4 ^ n<=((n+2) * (μ+n)+1) * 4 ^ n:=ba _ (by have:=Zm (n:=n) (x:=μ+n);omega);have h2:=de ((n+2) * (μ+n)+1) (p4_1 n);have h3:μ+n<=(n+2) * (μ+n):=Nat.le_mul_of_pos_left _ oM;omega
def ZF(r n:Nat):(r+1) * 2 ^ n * 2 ^ n=(r+1) * 4 ^ n:=by
 rw[bB,<- Nat.mul_pow]
def zC_e:((n+1) * (μ+n)+1) * 2 ^ n+((n+1) * (μ+n)+1) * 4 ^ n<=zC n μ:=by
 unfold zC;have h1:((n+1) * (μ+n)+1) * 2 ^ n<=((n+1) * (μ+n)+1) * 4 ^ n:=aV _ (p24 n);have h2:((n+1) * (μ+n)+1) * 4 ^ n<=((n+2) * (μ+n)+1) * 4 ^ n:=ba _ (by have:=Zm (n:=n) (x:=μ+n);omega);omega
structure ED(F:X6 S)(n:Nat)(rs:List (Nat->S.W))(es:List (Nat × (Nat->S.W))):Prop where
 pm:es.Perm (Ku F (kpL F (if rs.length=0 then 0 else n) rs))
 pw:es.Pairwise λp q=>p.1<=q.1
def AZ:(if k=0 then 0 else n)<=n:=by split <;>omega
def ED.len(h:ED F n rs es):es.length=(kpL F (if rs.length=0 then 0 else n) rs).length:=by
 rw[h.pm.length_eq,<- Aw,R1 (ae _)]
def ED.le(h:ED F n rs es):es.length<=n:=by
 rw[h.len];exact af (CQ rs).len AZ
def ED.xb(h:ED F n rs es)(hx:∀x∈rs,XB C n r r x):∀k∈es,k.1 < n/\XB C n ((r+1) * 4 ^ n) ((r+1) * 4 ^ n) k.2:=λk hk=>by
 have hk:=h.pm.mem_iff.mp hk;have K1:=Kb.kpL (F:=F) (l:=if rs.length=0 then 0 else n) AZ rs hx;have l1:=af (CQ (F:=F) (w:=if rs.length=0 then 0 else n) rs).len (AZ (n:=n));have K2:=Kb.echI (F:=F) (K1.mem l1) (ae _);rw[Aw]at K2;have l2:(Ku F (kpL F (if rs.length=0 then 0 else n) rs)).length<=n:=by rw[<- Aw,R1 (ae _)];exact l1
 obtain⟨a,b⟩:=K2.mem l2 k hk;have e:=ZF r n;have p:=Dx r n;rw[show(r+1) * 2 ^ n - 1+1=(r+1) * 2 ^ n by omega,e]at b;exact⟨a,b.mono oM oM⟩
def TJ{n r m i:Nat}{rs:List (Nat->S.W)}{x:Nat->S.W}{ms:List (Nat->S.W)}(hx:∀x∈ms,XB C n r r x)(h:XB C n r r x)(hm:r+(r+1) * 2 ^ n<=m):Ji F n m (kpL F (if i=0 then 0 else n) ms) x:=
 (Kb.kpL (F:=F) (l:=if i=0 then 0 else n) AZ ms hx).clrZ h (af (CQ ms).len AZ) hm
def TH(hx:∀x∈ms,XB C n r r x)(hj:j<=(kpL F (if i=0 then 0 else n) ms).length)(hk:k∈kpL F (if i=0 then 0 else n) ms)(hm:(r+1) * 2 ^ n+(r+1) * 4 ^ n<=m):Ji F n m (echI F (kpL F (if i=0 then 0 else n) ms) j) k.2:=by
 have K1:=Kb.kpL (F:=F) (l:=if i=0 then 0 else n) AZ ms hx;have l1:=af (CQ (F:=F) (w:=if i=0 then 0 else n) ms).len (AZ (n:=n));have K2:=Kb.echI (F:=F) (K1.mem l1) hj;have l2:(echI F (kpL F (if i=0 then 0 else n) ms) j).length<=n:=by rw[R1 hj];omega
 have e:=ZF r n;have p:=Dx r n;refine K2.clrZ (K1.mem l1 k hk).2 l2 ?_;rw[show(r+1) * 2 ^ n - 1+1=(r+1) * 2 ^ n by omega,e];omega
end
section
variable{S:SR}{F:X6 S}{C:Cb S}
def MA(rs:List (Nat->S.W)):Nat->Nat->S.W:=λi=>rs.getD i λ_=>S.zero
def Kt(h:rs[i]? = some r):MA rs i=r:=by
 unfold MA;rw[bT,h];rfl
def QI{rs:List (Nat->S.W)}{r:Nat->S.W}(h:r∈rs):∃i,i < rs.length/\MA rs i=r:=by
 obtain⟨i,hi,e⟩:=cK.mp h;exact⟨i,hi,Kt (by rw[ax hi,e])⟩
def II(h:(S9 F w ks r).length=ks.length):S9 F w ks r=ks:=by
 revert h;refine N8 (λL=>L.length=ks.length->L=ks) (λ_ _=>rfl) (λ_ _=>rfl) λp _ _ e=>?_;rw[ai]at e;simp at e
structure Co(F:X6 S)(w:Nat)(ρ:List Nat->Nat->S.W)(ks:List (Nat × (Nat->S.W)))(ws:List (List Nat)):Prop where
 is:ks=kpL F w (ws.map ρ)
 fu:ks.length=ws.length
def Co.nil:Co F w ρ [] []:=⟨rfl,rfl⟩
def Co.step(h:Co F w ρ ks ws)(u:List Nat):Co F w ρ (S9 F w ks (ρ u)) (ws++if(S9 F w ks (ρ u)).length≠ks.length then [u]else []):=by
 by_cases e:(S9 F w ks (ρ u)).length=ks.length
 . rw[if_neg (λz=>z e),aN,II e];exact h
 . rw[if_pos e];have e2:(S9 F w ks (ρ u)).length=ks.length+1:=(Lk (F:=F)).resolve_left e;refine⟨?_,by rw[e2,ai,h.fu];rfl⟩;rw[bH,h.is];exact Eh.symm
structure DuS(S:SR)where
 ks:List (Nat × (Nat->S.W))
 due:List (List Nat)
open Classical in
end
def Ef(l:List Nat):Nat->List (List Nat)
 | 0=>[[]]
 | i+1=>gB l (Ef l i)
def RE(l:List Nat):Nat->List (List Nat)
 | 0=>[[]]
 | i+1=>RE l i++Ef l (i+1)
theorem GW:∀{ws:List (List Nat)},(gB l ws).length=ws.length * l.length
 | []=>by rw[Kn];simp
 | u::ws=>by
  show((l.map λc=>u++[c])++gB l ws).length=_;rw[ai,aj,GW,bx,bF];omega
def Lp{l:List Nat}{ws:List (List Nat)}{j:Nat}{u:List Nat}(h:ws[j]? = some u):gB l (ws.take (j+1))=gB l (ws.take j)++l.map λc=>u++[c]:=by
 rw[E7 h];unfold gB;rw[List.flatMap_append,List.flatMap_singleton]
theorem Li:∀i,(Ef l i).length=l.length ^ i
 | 0=>rfl
 | i+1=>by
  show(gB l (Ef l i)).length=_;rw[GW,Li i,cg]
theorem JW:∀i,∀u∈Ef l i,u.length=i/\∀c∈u,c∈l
 | 0,u,h=>by rw[az.mp h];exact⟨rfl,by simp⟩
 | i+1,u,h=>Cf.2 _ i (λv hv=>JW i v hv) u h
theorem JV:∀(n:Nat) (u:List Nat),u.length=n->(∀c∈u,c∈l)->u∈Ef l n
 | 0,u,e,_=>by rw[bA.mp e];exact cZ _
 | n+1,u,e,h=>by
  have ne:u≠[]:=λz=>by rw[z]at e;cases e
  rw[<- cX ne];have:=JV n u.dropLast (by rw[cY];omega) λc hc=>h c (List.dropLast_subset u hc);exact df.mpr ⟨_,this,aE.mpr ⟨_,h _ (List.getLast_mem ne),rfl⟩⟩
section
variable{S:SR}{F:X6 S}{C:Cb S}
theorem T3:∀{ws:List (List Nat)} {ks:List (Nat × (Nat->S.W))},(O7 F w ρ ks ws).Sublist ws
 | [],_=>.slnil
 | u::ws,ks=>by
  show((if _ then _ else _)++O7 F w ρ _ ws).Sublist _;split
  . exact(T3 (ws:=ws)).cons_cons u
  . exact(T3 (ws:=ws)).cons u
structure Grw(l:List Nat)(g:List (List Nat)->List (List Nat))(rs:List Nat->List Nat):Prop where
 nil:g []=[]
 lv:∀i,Ef l (i+1)=g (Ef l i)
 fl:∀L X:List (List Nat),((g L).filter λu=>decide (rs u∈X))=g (L.filter λu=>decide (u∈X))
 ln:∀i u,u.length=i+1->(rs u).length=i
end
section
variable{S:SR}{F:X6 S}{C:Cb S}
theorem GZ:∀i,Co F w ρ (l7 F w ρ g i).ks (l7 F w ρ g i).told
 | 0=>Co.nil
 | i+1=>by
  have key:∀(ws:List (List Nat)) (ks:List (Nat × (Nat->S.W))) (td:List (List Nat)),Co F w ρ ks td->Co F w ρ (U7 F w ρ ks ws) (td++O7 F w ρ ks ws):=by
   intro ws
   induction ws with
   | nil=>intro ks td h;show Co F w ρ ks (td++[]);rw[aN];exact h
   | cons u ws ih=>
    intro ks td h;have:=ih _ _ (h.step u);rw[bD]at this;exact this
  exact key _ _ _ (GZ i)
def Cr(F:X6 S)(w:Nat)(ks:List (Nat × (Nat->S.W)))(v:Nat->S.W):Prop:=∀j,j < w->clr F ks v j=S.zero
def Cr.span(k:Co F w ρ ks ws)(h:Cr F w ks v):AK S w ws.length (MA (ws.map ρ)) v:=by
 have h1:∀q∈ks,AK S w ws.length (MA (ws.map ρ)) q.2:=by
  rw[k.is];exact Qx _ λr hr=>by
   obtain⟨i,hi,rfl⟩:=QI hr;rw[aj]at hi;exact AK.gen hi
 have h2:=IZ (F:=F) (u:=v) h1;refine(h2.mul (F.neg S.one)).congr λj hj=>?_;rw[h j hj,QJ,QK,Tv,ZG]
theorem Hb:∀{ws:List (List Nat)} {ks:List (Nat × (Nat->S.W))},Cr F w ks v->Cr F w (U7 F w ρ ks ws) v
 | [],_,h=>h
 | u::ws,ks,h=>Hb (ws:=ws) (Qz (F:=F) h)
theorem Hc:∀{ws:List (List Nat)} {ks:List (Nat × (Nat->S.W))},Kp S w ks->∀u∈ws,Cr F w (U7 F w ρ ks ws) (ρ u)
 | v::ws,ks,h,u,hu=>by
  rcases ak.mp hu with rfl | hu
  . exact Hb (ws:=ws) (Lj h)
  . exact Hc (ws:=ws) (Kg h) u hu
theorem Kq(h:Cr F w (l7 F w ρ g i).ks v):∀k,Cr F w (l7 F w ρ g (i+k)).ks v
 | 0=>h
 | k+1=>Hb (Kq h k)
theorem Q3:∀{i:Nat},u∈(l7 F w ρ g i).told->∃k,k < i/\u∈O7 F w ρ (l7 F w ρ g k).ks (l7 F w ρ g k).last
 | 0,h=>nomatch h
 | i+1,h=>by
  rcases aA.mp h with h | h
  . obtain⟨k,hk,e⟩:=Q3 h;exact⟨k,oM,e⟩
  . exact⟨i,oM,h⟩
def OZ(hg:Gw l g)(h:u∈DB F w ρ g):u.length < w/\∀c∈u,c∈l:=by
 obtain⟨k,_,e⟩:=Q3 h;obtain⟨a,b⟩:=V9 hg k u (O3 e);have h2:=Ow hg k λz=>by rw[z]at e;cases e
 have h3:=W0 (F:=F) (l:=w) (ρ:=ρ) (ws:=(l7 F w ρ g k).last) (ks:=(l7 F w ρ g k).ks);have h4:=List.length_pos_of_mem e;have h5:=(N9 (F:=F) (l:=w) (ρ:=ρ) (g:=g) (k+1)).len;have h5:(U7 F w ρ (l7 F w ρ g k).ks (l7 F w ρ g k).last).length<=w:=h5;exact⟨oM,b⟩
structure Lop(S:SR)(w:Nat)(L:(Nat->S.W)->Nat->S.W):Prop where
 co:∀x y,(∀j,j < w->x j=y j)->∀j,j < w->L x j=L y j
 li:∀c vs n,∀j,j < w->L (FG S c vs n) j=FG S c (λk=>L (vs k)) n j
def Oe:Lop S n (PQ S n A):=⟨λx y h j _=>x6 λi hi=>by rw[h i hi],λc vs m j _=>by
 show sm S (λi=>S.mul (sm S (λk=>S.mul (c k) (vs k i)) m) (A i j)) n=sm S (λk=>S.mul (c k) (sm S (λi=>S.mul (vs k i) (A i j)) n)) m;exact DK c vs (λi=>A i j) m n⟩
structure Wgr(l:List Nat)(g:List (List Nat)->List (List Nat))(ex:Nat->List Nat->List Nat):Prop where
 gw:Gw l g
 me:∀ws,∀u∈ws,∀c∈l,ex c u∈g ws
 ind:∀P:List Nat->Prop,P []->(∀c u,c∈l->(∀d∈u,d∈l)->P u->P (ex c u))->∀u,(∀d∈u,d∈l)->P u
def OY:Wgr l (gB l) λc u=>u++[c]:=⟨Cf,λws u hu c hc=>df.mpr ⟨u,hu,aE.mpr ⟨c,hc,rfl⟩⟩,λP h0 hs=>by
 have key:∀n (u:List Nat),u.length=n->(∀d∈u,d∈l)->P u:=by
  intro n
  induction n with
  | zero=>intro u e _;rw[bA.mp e];exact h0
  | succ n ih=>
   intro u e h;have ne:u≠[]:=λz=>by rw[z]at e;cases e
   rw[<- cX ne];have h':∀d∈u.dropLast,d∈l:=λc hc=>h c (List.dropLast_subset u hc);exact hs _ _ (h _ (List.getLast_mem ne)) h' (ih _ (by rw[cY];omega) h')
 exact λu h=>key _ u rfl h⟩
def Ot{w:Nat}{l:List Nat}{ρ:List Nat->Nat->S.W}{g:List (List Nat)->List (List Nat)}{ex:Nat->List Nat->List Nat}{L:Nat->(Nat->S.W)->Nat->S.W}(G:Wgr l g ex)(hL:∀c∈l,Lop S w (L c))(hρ:∀c u,c∈l->∀j,j < w->ρ (ex c u) j=L c (ρ u) j):∀u,(∀d∈u,d∈l)->AK S w (DB F w ρ g).length (MA ((DB F w ρ g).map ρ)) (ρ u):=by
 have KP:=GZ (F:=F) (w:=w) (ρ:=ρ) (g:=g) (w+1);have fin:=GY (F:=F) (l:=w) (ρ:=ρ) (g:=g) G.gw.1;have c0:Cr F w (l7 F w ρ g (w+1)).ks (ρ []):=by
  have:Cr F w (l7 F w ρ g (0+1)).ks (ρ []):=Hc (F:=F) (ρ:=ρ) (N9 (F:=F) (l:=w) (ρ:=ρ) (g:=g) 0) [] (cZ _);have:=Kq this w;rwa [show 0+1+w=w+1 by omega]at this
 have cs:∀v∈(l7 F w ρ g (w+1)).told,∀c∈l,Cr F w (l7 F w ρ g (w+1)).ks (ρ (ex c v)):=λv hv c hc=>by
  obtain⟨k,hk,e⟩:=Q3 hv;have hm:ex c v∈(l7 F w ρ g (k+1)).last:=G.me _ v e c hc;have k2:k+1≠w+1:=λz=>by rw[z,fin]at hm;cases hm
  have h1:Cr F w (l7 F w ρ g (k+1+1)).ks (ρ (ex c v)):=Hc (N9 (k+1)) _ hm;have:=Kq h1 (w+1 - (k+1+1));rwa [show k+1+1+(w+1 - (k+1+1))=w+1 by omega]at this
 have main:∀u,(∀d∈u,d∈l)->Cr F w (l7 F w ρ g (w+1)).ks (ρ u):=G.ind _ c0 λc u hc hu ih=>by
  obtain⟨d,hd⟩:=ih.span KP;intro j hj;have e1:∀j,j < w->ρ (ex c u) j=FG S d (λk=>L c (MA ((l7 F w ρ g (w+1)).told.map ρ) k)) (l7 F w ρ g (w+1)).told.length j:=λj hj=>by
   rw[hρ c u hc j hj,(hL c hc).co _ _ hd j hj,(hL c hc).li _ _ _ j hj]
  rw[Eu (F:=F) (λk hk=>(N9 (F:=F) (l:=w) (ρ:=ρ) (g:=g) (w+1)).lt k hk) e1 j hj,LF];show sm S _ _=S.zero;rw[x6 (g:=λ_=>S.zero) λk hk=>?_,R6];have hk':k < ((l7 F w ρ g (w+1)).told.map ρ).length:=by rw[aj];exact hk
  have e2:MA ((l7 F w ρ g (w+1)).told.map ρ) k=ρ ((l7 F w ρ g (w+1)).told[k]):=Kt (by rw[aD,ax hk];rfl);have e3:clr F (l7 F w ρ g (w+1)).ks (L c (MA ((l7 F w ρ g (w+1)).told.map ρ) k)) j=S.zero:=by
   have e4:∀j,j < w->L c (MA ((l7 F w ρ g (w+1)).told.map ρ) k) j=ρ (ex c (l7 F w ρ g (w+1)).told[k]) j:=λj hj=>by
    rw[e2,hρ c _ hc j hj]
   rw[Eu (F:=F) (λk hk=>(N9 (F:=F) (l:=w) (ρ:=ρ) (g:=g) (w+1)).lt k hk) e4 j hj];exact cs _ (bc hk) c hc j hj
  dsimp only;rw[e3,S.mul_zero]
 exact λu hu=>(main u hu).span KP
structure Ech(S:SR)(n:Nat)(es:List (Nat × (Nat->S.W))):Prop where
 lt:∀e∈es,e.1 < n
 one:∀e∈es,e.2 e.1=S.one
 mu:es.Pairwise λa b=>a.2 b.1=S.zero/\b.2 a.1=S.zero
def Ech.at(h:Ech S n es)(hi:i < es.length)(hj:j < es.length):kv es i (Zv es j)=if i=j then S.one else S.zero:=by
 rw[Oj (ax hi),Tf (ax hj)];by_cases e:i=j
 . subst e;rw[if_pos rfl];exact h.one _ (bc hi)
 . rw[if_neg e];have P:=cP.mp h.mu;by_cases lt:i < j
   . exact(P i j hi hj lt).1
   . exact(P j i hj hi oM).2
end
section
variable{S:SR}{F:X6 S}{C:Cb S}
def QN:M3 S (FG S c vs m) y n=sm S (λk=>S.mul (c k) (M3 S (vs k) y n)) m:=DK c vs y m n
def MG(h:∀j,j < n->x j=x' j):M3 S x y n=M3 S x' y n:=x6 λi hi=>by rw[h i hi]
def OI:M3 S (PQ S n A x) y n=M3 S x (clB S n A y) n:=DK x A y n n
structure Nar(F:X6 S)(l:List Nat)(n:Nat)(st:Nat->S.W)(tb:Nat->Nat->Nat->S.W)(es:List (Nat × (Nat->S.W))):Prop where
 ech:Ech S n es
 all:∀u,(∀d∈u,d∈l)->AK S n es.length (kv es) (w4 S n st (E5 l tb) u)
 few:∀i,i < es.length->AK S n (RE l (n - 1)).length (MA ((RE l (n - 1)).map (w4 S n st (E5 l tb)))) (kv es i)
 stp:∀i,i < es.length->∀c∈l,AK S n es.length (kv es) (PQ S n (E5 l tb c) (kv es i))
def Lv{α:Type}{f:α->Nat->S.W}{ws:List α}{j:Nat}(d:α)(h:j < ws.length):MA (ws.map f) j=f (ws.getD j d):=by
 rw[Kt (r:=f ws[j]) (by rw[aD,ax h];rfl),bT,ax h];rfl
abbrev AL(l u:List Nat):Prop:=∀d∈u,d∈l
end
section
variable{S:SR}{F:X6 S}{C:Cb S}
def BY(l:List Nat):List Nat->List Nat->Bool
 | x::u,y::v=>if x=y then BY l u v else decide (l.idxOf x < l.idxOf y)
 | _,_=>false
def Cs(l u v:List Nat):Bool:=if u.length=v.length then BY l u v else decide (u.length < v.length)
theorem GG{l:List Nat}(a b:List Nat):∀{u v:List Nat},u.length=v.length->BY l u v=true->BY l (u++a) (v++b)=true
 | [],[],_,h=>by simp[BY]at h
 | x::u,y::v,e,h=>by
  simp only[cI,BY]at h ⊢;split
  . next z=>rw[if_pos z]at h;exact GG a b (by simpa using e) h
  . next z=>rw[if_neg z]at h;exact h
theorem Ir{l:List Nat}{c d:Nat}(h:l.idxOf c < l.idxOf d):∀u:List Nat,BY l (u++[c]) (u++[d])=true
 | []=>by
  simp only[cM,BY];rw[if_neg (λz=>by rw[z]at h;omega)];exact decide_eq_true h
 | x::u=>by
  simp only[cI,BY,if_true];exact Ir h u
theorem BX{l:List Nat}:∀u:List Nat,BY l u u=false
 | []=>rfl
 | x::u=>by unfold BY;rw[if_pos rfl];exact BX u
def Tp{l:List Nat}(nd:l.Nodup):l.Pairwise λc d=>l.idxOf c < l.idxOf d:=by
 refine cP.mpr λi j hi hj hij=>?_;rw[nd.idxOf_getElem,nd.idxOf_getElem];exact hij
def Rq{l:List Nat}(nd:l.Nodup){ws:List (List Nat)}{k:Nat}(hk:∀u∈ws,u.length=k)(h:ws.Pairwise λu v=>BY l u v=true):(gB l ws).Pairwise λu v=>BY l u v=true:=by
 unfold gB;refine List.pairwise_flatMap.mpr ⟨λu _=>bQ.mpr ((Tp nd).imp λz=>Ir z u),?_⟩;refine(cP.mpr λi j hi hj hij=>?_);intro x hx y hy;obtain⟨c,_,rfl⟩:=aE.mp hx;obtain⟨d,_,rfl⟩:=aE.mp hy;exact GG _ _ (by rw[hk _ (bc hi),hk _ (bc hj)]) (cP.mp h i j hi hj hij)
theorem GT{l:List Nat}(nd:l.Nodup){w:Nat}{ρ:List Nat->Nat->S.W}:∀i,(l7 F w ρ (gB l) i).last.Pairwise λu v=>BY l u v=true
 | 0=>dw _ _
 | i+1=>Rq nd (k:=i) (λu hu=>(V9 Cf i u (O3 hu)).1) ((GT nd i).sublist T3)
theorem He{w:Nat}{ρ:List Nat->Nat->S.W}:∀{a b:List (List Nat)} {ks:List (Nat × (Nat->S.W))},O7 F w ρ ks (a++b)=O7 F w ρ ks a++O7 F w ρ (U7 F w ρ ks a) b
 | [],_,_=>rfl
 | u::a,b,ks=>by
  show _++O7 F w ρ (S9 F w ks (ρ u)) (a++b)=_++O7 F w ρ (S9 F w ks (ρ u)) a++_;rw[He,bD];rfl
theorem Lq{w:Nat}{ρ:List Nat->Nat->S.W}:∀(ws:List (List Nat)) {ks:List (Nat × (Nat->S.W))} {td:List (List Nat)},Co F w ρ ks td->Co F w ρ (U7 F w ρ ks ws) (td++O7 F w ρ ks ws)
 | [],ks,td,h=>by show Co F w ρ ks (td++[]);rw[aN];exact h
 | u::ws,ks,td,h=>by
  have:=Lq ws (h.step u);rw[bD]at this;exact this
theorem DH{w:Nat}{ρ:List Nat->Nat->S.W}{g:List (List Nat)->List (List Nat)}(i:Nat):∀k,∃T,(l7 F w ρ g (i+k)).told=(l7 F w ρ g i).told++T
 | 0=>⟨[],by simp⟩
 | k+1=>by
  obtain⟨T,e⟩:=DH i k;refine⟨T++O7 F w ρ (l7 F w ρ g (i+k)).ks (l7 F w ρ g (i+k)).last,?_⟩;show(l7 F w ρ g (i+k)).told++O7 F w ρ (l7 F w ρ g (i+k)).ks (l7 F w ρ g (i+k)).last=_;rw[e,bD]
def QF{l:List Nat}{w:Nat}{ρ:List Nat->Nat->S.W}:DB F w ρ (gB l)=[]\/∃T,DB F w ρ (gB l)=[]::T:=by
 have e1:(l7 F w ρ (gB l) 1).told=O7 F w ρ [] [[]]:=rfl;have e2:O7 F w ρ [] [[]]=[]\/O7 F w ρ [] [[]]=[[]]:=by
  have:O7 F w ρ [] ([]++[[]])=_:=Cg (F:=F) (l:=w) (ρ:=ρ) (ks:=[]) (ws:=[]) (u:=[]);rw[cM]at this;rw[this];split
  . exact .inr rfl
  . exact .inl rfl
 rcases e2 with e2 | e2
 . left;have hl:(l7 F w ρ (gB l) 1).last=[]:=by
    show gB l (O7 F w ρ [] [[]])=[];rw[e2];rfl
   rw[<- Em Kn hl,e1,e2]
 . right;obtain⟨T,e⟩:=DH (F:=F) (w:=w) (ρ:=ρ) (g:=gB l) 1 w;refine⟨T,?_⟩;unfold DB;rw[Nat.add_comm w 1,e,e1,e2];rfl
def Tt{l:List Nat}(nd:l.Nodup){w:Nat}{ρ:List Nat->Nat->S.W}{v:List Nat}{c:Nat}(hv:v∈DB F w ρ (gB l))(hc:c∈l):(v++[c])∈DB F w ρ (gB l)\/∃T T',DB F w ρ (gB l)=T++T'/\(∀x∈T,Cs l x (v++[c])=true)/\AK S w T.length (MA (T.map ρ)) (ρ (v++[c])):=by
 obtain⟨k,hk,e⟩:=Q3 hv;have hu:(v++[c])∈(l7 F w ρ (gB l) (k+1)).last:=df.mpr ⟨v,e,aE.mpr ⟨c,hc,rfl⟩⟩;have hk2:k+1<=w:=by
  by_cases z:k+1<=w
  . exact z
  . have:k+1=w+1:=by omega
    rw[this,GY Kn]at hu;cases hu
 have lu:=(V9 Cf _ _ hu).1;obtain⟨pre,post,ep⟩:=List.append_of_mem hu;obtain⟨T1,et⟩:=DH (F:=F) (w:=w) (ρ:=ρ) (g:=gB l) (k+2) (w+1 - (k+2));rw[show k+2+(w+1 - (k+2))=w+1 by omega]at et;have et2:(l7 F w ρ (gB l) (k+2)).told=(l7 F w ρ (gB l) (k+1)).told++O7 F w ρ (l7 F w ρ (gB l) (k+1)).ks (pre++(v++[c])::post):=by rw[<- ep];rfl
 have KO:=Lq pre (GZ (F:=F) (w:=w) (ρ:=ρ) (g:=gB l) (k+1));have KK:Kp S w (U7 F w ρ (l7 F w ρ (gB l) (k+1)).ks pre):=Hd (N9 _);have pw:=GT (F:=F) (w:=w) (ρ:=ρ) nd (k+1);rw[ep]at pw;rw[He]at et2;have hf:O7 F w ρ (U7 F w ρ (l7 F w ρ (gB l) (k+1)).ks pre) ((v++[c])::post)=(if(S9 F w (U7 F w ρ (l7 F w ρ (gB l) (k+1)).ks pre) (ρ (v++[c]))).length≠(U7 F w ρ (l7 F w ρ (gB l) (k+1)).ks pre).length then [v++[c]]else [])++O7 F w ρ (S9 F w (U7 F w ρ (l7 F w ρ (gB l) (k+1)).ks pre) (ρ (v++[c]))) post:=by
  have h1:=He (F:=F) (w:=w) (ρ:=ρ) (a:=[v++[c]]) (b:=post) (ks:=U7 F w ρ (l7 F w ρ (gB l) (k+1)).ks pre);have h2:=Cg (F:=F) (l:=w) (ρ:=ρ) (ks:=U7 F w ρ (l7 F w ρ (gB l) (k+1)).ks pre) (ws:=[]) (u:=v++[c]);rw[cM]at h2;rw[h2]at h1;exact h1
 by_cases g:(S9 F w (U7 F w ρ (l7 F w ρ (gB l) (k+1)).ks pre) (ρ (v++[c]))).length≠(U7 F w ρ (l7 F w ρ (gB l) (k+1)).ks pre).length
 . left;show _∈(l7 F w ρ (gB l) (w+1)).told;rw[et,et2,hf,if_pos g];simp
 . right;have g:=Classical.not_not.mp g;have cl:Cr F w (U7 F w ρ (l7 F w ρ (gB l) (k+1)).ks pre) (ρ (v++[c])):=by
    have:=Lj (F:=F) (r:=ρ (v++[c])) KK;rw[II g]at this;exact this
   refine⟨(l7 F w ρ (gB l) (k+1)).told++O7 F w ρ (l7 F w ρ (gB l) (k+1)).ks pre,O7 F w ρ (U7 F w ρ (l7 F w ρ (gB l) (k+1)).ks pre) ((v++[c])::post)++T1,?_,λx hx=>?_,Cr.span KO cl⟩
   . show(l7 F w ρ (gB l) (w+1)).told=_;rw[et,et2];simp only[bD]
   . unfold Cs;rcases aA.mp hx with hx | hx
     . obtain⟨q,hq,e'⟩:=Q3 hx;have:=(V9 Cf q x (O3 e')).1;rw[if_neg oM];exact decide_eq_true oM
     . have hp:=O3 hx;have:=(V9 Cf (k+1) x (by rw[ep];exact aP _ hp)).1;rw[if_pos oM];exact(List.pairwise_append.mp pw).2.2 x hp _ (aq ..)
end
section
variable{S:SR}{F:X6 S}{C:Cb S}
def L3(S:SR)(l:List Nat)(n:Nat)(st:Nat->S.W)(tb:Nat->Nat->Nat->S.W)(en:Nat->S.W)(u:List Nat):S.W:=M3 S (w4 S n st (E5 l tb) u) en n
def GV{ws:List (List Nat)}{k:Nat}(h:k < ws.length):ws.getD k []∈ws:=by
 rw[bT,ax h];exact bc h
section
variable{l:List Nat}{n:Nat}{st:Nat->S.W}{tb:Nat->Nat->Nat->S.W}{en:Nat->S.W}{es:List (Nat × (Nat->S.W))}{ws:List (List Nat)}{c:Nat->S.W}
end
section
variable{l:List Nat}{n n':Nat}{st st':Nat->S.W}{tb tb':Nat->Nat->Nat->S.W}{en en':Nat->S.W}{es es':List (Nat × (Nat->S.W))}
def R4(S:SR)(n:Nat)(x y:Nat->S.W):Nat->S.W:=λj=>if j < n then x j else y (j - n)
end
section
variable{l:List Nat}{n:Nat}{st st':Nat->S.W}{tb tb':Nat->Nat->Nat->S.W}{en en':Nat->S.W}
end
end
section
variable{S:SR}{F:X6 S}{C:Cb S}
theorem CM{l:List Nat}:∀{u v x:List Nat},BY l u v=true->BY l v x=true->BY l u x=true
 | [],_,_,h,_=>by simp[BY]at h
 | _::_,[],_,h,_=>by simp[BY]at h
 | _::_,_::_,[],_,h=>by simp[BY]at h
 | a::u,b::v,c::x,h,g=>by
  unfold BY at h g ⊢;by_cases e1:a=b
  . subst e1;rw[if_pos rfl]at h;by_cases e2:a=c
    . rw[if_pos e2]at g ⊢;exact CM h g
    . rw[if_neg e2]at g ⊢;exact g
  . rw[if_neg e1]at h;by_cases e2:b=c
    . subst e2;rw[if_neg e1];exact h
    . rw[if_neg e2]at g;have h1:=of_decide_eq_true h;have h2:=of_decide_eq_true g;rw[if_neg (λz=>by rw[z]at h1;omega)];exact decide_eq_true oM
def CW{l u v x:List Nat}(h:Cs l u v=true)(g:Cs l v x=true):Cs l u x=true:=by
 unfold Cs at h g ⊢;by_cases e1:u.length=v.length
 . rw[if_pos e1]at h;by_cases e2:v.length=x.length
   . rw[if_pos e2]at g;rw[if_pos oM];exact CM h g
   . rw[if_neg e2]at g;have:=of_decide_eq_true g;rw[if_neg oM];exact decide_eq_true oM
 . rw[if_neg e1]at h;have h1:=of_decide_eq_true h;have g1:v.length<=x.length:=by
    by_cases e2:v.length=x.length
    . omega
    . rw[if_neg e2]at g;have:=of_decide_eq_true g;omega
   rw[if_neg oM];exact decide_eq_true oM
def LJ{l u:List Nat}:Cs l u u=false:=by
 unfold Cs;rw[if_pos rfl,BX]
def ON{l u v:List Nat}{c:Nat}(h:Cs l u v=true):Cs l (u++[c]) (v++[c])=true:=by
 unfold Cs at h ⊢;rw[ai,ai];by_cases e:u.length=v.length
 . rw[if_pos e]at h;rw[if_pos oM];exact GG _ _ e h
 . rw[if_neg e]at h;have:=of_decide_eq_true h;rw[if_neg oM];exact decide_eq_true oM
def Et{w m:Nat}{vs:Nat->Nat->S.W}{u y:Nat->S.W}(h:AK S w m vs u)(z:∀k,k < m->M3 S (vs k) y w=S.zero):M3 S u y w=S.zero:=by
 obtain⟨c,hc⟩:=h;rw[MG hc,QN,x6 (g:=λ_=>S.zero) λk hk=>by rw[z k hk,S.mul_zero],R6]
def NK{l:List Nat}(nd:l.Nodup){n:Nat}{st:Nat->S.W}{tb:Nat->Nat->Nat->S.W}:∀u,AL l u->∀y,(∀w∈DB F n (w4 S n st (E5 l tb)) (gB l),(w=u\/Cs l w u=true)->M3 S (w4 S n st (E5 l tb) w) y n=S.zero)->M3 S (w4 S n st (E5 l tb) u) y n=S.zero:=by
 refine(OY (l:=l)).ind _ (λy h=>?_) λc u hc hu ih y h=>?_
 . have sp:=Ot (F:=F) (l:=l) (w:=n) (ρ:=w4 S n st (E5 l tb)) (L:=λc=>PQ S n (E5 l tb c)) OY (λc _=>Oe) (λc u _ j _=>by rw[D6]) [] (λd hd=>nomatch hd);rcases QF (F:=F) (l:=l) (w:=n) (ρ:=w4 S n st (E5 l tb))with e | ⟨T,e⟩
   . rw[e]at sp;exact Et sp λk hk=>absurd hk (bR _)
   . exact h [] (by rw[e];exact aq ..) (.inl rfl)
 . rw[D6,OI];refine ih _ λw hw hb=>?_;rw[<- OI,<- D6];have key:(w++[c]=u++[c])\/Cs l (w++[c]) (u++[c])=true:=by
    rcases hb with rfl | hb
    . exact .inl rfl
    . exact .inr (ON hb)
   rcases Tt nd hw hc with h1 | ⟨T,T',e,hT,sp⟩
   . exact h _ h1 key
   . refine Et sp λk hk=>?_;have hx:=GV hk;rw[Lv [] hk];refine h _ (by rw[e];exact aP _ hx) (.inr ?_);have b:=hT _ hx;rcases key with e' | k'
     . rw[<- e'];exact b
     . exact CW b k'
open Classical in
noncomputable def DP(D:List Nat->S.W)(ws:List (List Nat)):List (List Nat):=ws.filter λu=>decide (D u≠S.zero)
def Lc{D:List Nat->S.W}{ws:List (List Nat)}:(DP D ws).length<=ws.length:=List.length_filter_le _ _
def BO{D:List Nat->S.W}{ws:List (List Nat)}{u:List Nat}:u∈DP D ws↔u∈ws/\D u≠S.zero:=by
 unfold DP;rw[cu];simp
def Gq{D:List Nat->S.W}{ws:List (List Nat)}:DP D ws=[]↔∀u∈ws,D u=S.zero:=by
 rw[List.eq_nil_iff_forall_not_mem];exact⟨λh u hu=>Classical.byContradiction λn=>h u (BO.mpr ⟨hu,n⟩),λh u hu=>(BO.mp hu).2 (h u (BO.mp hu).1)⟩
def Sy{D:List Nat->S.W}{ws:List (List Nat)}{u:List Nat}{j:Nat}(h:ws[j]? = some u)(e:D u=S.zero):DP D (ws.take (j+1))=DP D (ws.take j):=by
 unfold DP;rw[E7 h,List.filter_append];simp[e]
def PV{D:List Nat->S.W}{ws:List (List Nat)}{u:List Nat}{j:Nat}(h:ws[j]? = some u)(e:D u≠S.zero):DP D (ws.take (j+1))=DP D (ws.take j)++[u]:=by
 unfold DP;rw[E7 h,List.filter_append];simp[e]
noncomputable def gP(l:List Nat)(D:List Nat->S.W)(ws:List (List Nat)):List (List Nat):=if(DP D ws).length=0 then gB l ws else []
def IL{l:List Nat}{D:List Nat->S.W}:Gw l (gP l D):=by
 refine⟨?_,λws i h u hu=>?_⟩
 . unfold gP;split <;>rfl
 . unfold gP at hu;split at hu
   . exact Cf.2 ws i h u hu
   . cases hu
section
variable{l:List Nat}{n:Nat}{ρ:List Nat->Nat->S.W}{D:List Nat->S.W}
theorem Hh:∀i,(∀u∈(l7 F n ρ (gP l D) i).told,D u=S.zero)->l7 F n ρ (gP l D) i=l7 F n ρ (gB l) i
 | 0,_=>rfl
 | i+1,h=>by
  have h0:∀u∈(l7 F n ρ (gP l D) i).told,D u=S.zero:=λu hu=>h u (aP _ hu);have e:=Hh i h0;have hf:DP D (O7 F n ρ (l7 F n ρ (gP l D) i).ks (l7 F n ρ (gP l D) i).last)=[]:=Gq.mpr λu hu=>h u (av _ hu);have eg:gP l D (O7 F n ρ (l7 F n ρ (gP l D) i).ks (l7 F n ρ (gP l D) i).last)=gB l (O7 F n ρ (l7 F n ρ (gP l D) i).ks (l7 F n ρ (gP l D) i).last):=if_pos (by rw[hf];rfl);show(⟨_,_,gP l D _⟩:Uq S)=⟨_,_,gB l _⟩;rw[eg,e]
theorem KR(nd:l.Nodup):∀i,(l7 F n ρ (gB l) i).told.Pairwise (λu v=>Cs l u v=true)/\∀u∈(l7 F n ρ (gB l) i).told,u.length < i
 | 0=>⟨.nil,λu hu=>nomatch hu⟩
 | i+1=>by
  obtain⟨h1,h2⟩:=KR nd i;have fl:∀u∈O7 F n ρ (l7 F n ρ (gB l) i).ks (l7 F n ρ (gB l) i).last,u.length=i:=λu hu=>(V9 Cf i u (O3 hu)).1;refine⟨List.pairwise_append.mpr ⟨h1,?_,λu hu v hv=>?_⟩,λu hu=>?_⟩
  . refine((GT nd i).sublist T3).imp_of_mem λ{u v} hu hv z=>?_;unfold Cs;rw[if_pos (by rw[fl u hu,fl v hv])];exact z
  . have a:=h2 u hu;have b:=fl v hv;unfold Cs;rw[if_neg oM];exact decide_eq_true oM
  . rcases aA.mp hu with hu | hu
    . have:=h2 u hu;omega
    . have:=fl u hu;omega
theorem Fs:∀i k,∃T,(l7 F n ρ (gB l) (i+k)).told=(l7 F n ρ (gB l) i).told++T/\∀u∈T,i<=u.length
 | i,0=>⟨[],by simp,λu hu=>nomatch hu⟩
 | i,k+1=>by
  obtain⟨T,e,h⟩:=Fs i k;refine⟨T++O7 F n ρ (l7 F n ρ (gB l) (i+k)).ks (l7 F n ρ (gB l) (i+k)).last,?_,λu hu=>?_⟩
  . show(l7 F n ρ (gB l) (i+k)).told++O7 F n ρ (l7 F n ρ (gB l) (i+k)).ks (l7 F n ρ (gB l) (i+k)).last=_;rw[e,bD]
  . rcases aA.mp hu with hu | hu
    . exact h u hu
    . have:=(V9 Cf (i+k) u (O3 hu)).1;omega
end
section
variable{l:List Nat}{n:Nat}{st:Nat->S.W}{tb:Nat->Nat->Nat->S.W}{en:Nat->S.W}
def QG(h:DP (L3 S l n st tb en) (DB F n (w4 S n st (E5 l tb)) (gP l (L3 S l n st tb en)))=[]):∀u,AL l u->L3 S l n st tb en u=S.zero:=λu hu=>by
 have h:=Gq.mp h;have e:=Hh (F:=F) (l:=l) (n:=n) (ρ:=w4 S n st (E5 l tb)) (D:=L3 S l n st tb en) (n+1) h;have e2:DB F n (w4 S n st (E5 l tb)) (gP l (L3 S l n st tb en))=DB F n (w4 S n st (E5 l tb)) (gB l):=congrArg Uq.told e;rw[e2]at h;have sp:=Ot (F:=F) (l:=l) (w:=n) (ρ:=w4 S n st (E5 l tb)) (L:=λc=>PQ S n (E5 l tb c)) OY (λc _=>Oe) (λc u _ j _=>by rw[D6]) u hu;refine Et sp λk hk=>?_;rw[Lv [] hk];exact h _ (GV hk)
def OC(nd:l.Nodup){u0:List Nat}{T:List (List Nat)}(h:DP (L3 S l n st tb en) (DB F n (w4 S n st (E5 l tb)) (gP l (L3 S l n st tb en)))=u0::T):(u0.length < n/\AL l u0)/\L3 S l n st tb en u0≠S.zero/\∀u,AL l u->Cs l u u0=true->L3 S l n st tb en u=S.zero:=by
 have m0:u0∈DP (L3 S l n st tb en) (DB F n (w4 S n st (E5 l tb)) (gP l (L3 S l n st tb en))):=by rw[h];exact aq ..
 obtain⟨m1,m2⟩:=BO.mp m0;refine⟨OZ IL m1,m2,λu hu hb=>NK (F:=F) nd u hu en λw hw hwu=>?_⟩;have hwb:Cs l w u0=true:=hwu.elim (λe=>by rw[e];exact hb) λz=>CW z hb;obtain⟨i,hi,hn,hs⟩:∃i,i<=n/\(∀u∈(l7 F n (w4 S n st (E5 l tb)) (gP l (L3 S l n st tb en)) i).told,L3 S l n st tb en u=S.zero)/\¬∀u∈(l7 F n (w4 S n st (E5 l tb)) (gP l (L3 S l n st tb en)) (i+1)).told,L3 S l n st tb en u=S.zero:=by
  refine Classical.byContradiction λno=>?_;have all:∀i,i<=n+1->∀u∈(l7 F n (w4 S n st (E5 l tb)) (gP l (L3 S l n st tb en)) i).told,L3 S l n st tb en u=S.zero:=by
   intro i
   induction i with
   | zero=>intro _ u hu;cases hu
   | succ i ih=>intro hi;exact Classical.byContradiction λz=>no ⟨i,oM,ih oM,z⟩
  exact m2 (all (n+1) (ae _) u0 m1)
 have e:=Hh (F:=F) i hn;have tp:=KR (F:=F) (l:=l) (n:=n) (ρ:=w4 S n st (E5 l tb)) nd (i+1);have e1:(l7 F n (w4 S n st (E5 l tb)) (gP l (L3 S l n st tb en)) (i+1)).told=(l7 F n (w4 S n st (E5 l tb)) (gB l) (i+1)).told:=by
  show(l7 F n _ (gP l _) i).told++O7 F n _ (l7 F n _ (gP l _) i).ks (l7 F n _ (gP l _) i).last=_;rw[e];rfl
 have last0:(l7 F n (w4 S n st (E5 l tb)) (gP l (L3 S l n st tb en)) (i+1)).last=[]:=by
  show gP l _ (O7 F n _ (l7 F n _ (gP l _) i).ks (l7 F n _ (gP l _) i).last)=[];unfold gP;rw[if_neg λz=>hs λu hu=>?_];rcases aA.mp hu with hu | hu
  . exact hn u hu
  . exact Gq.mp (bA.mp z) u hu
 have eE:=Em IL.1 last0;rw[e1]at eE;have u0i:u0.length < i+1:=tp.2 u0 (by rw[eE];exact m1);have hwE:w∈(l7 F n (w4 S n st (E5 l tb)) (gB l) (i+1)).told:=by
  obtain⟨T2,e2,hT2⟩:=Fs (F:=F) (l:=l) (n:=n) (ρ:=w4 S n st (E5 l tb)) (i+1) (n - i);rw[show i+1+(n - i)=n+1 by omega]at e2;have hw:w∈(l7 F n (w4 S n st (E5 l tb)) (gB l) (n+1)).told:=hw;rw[e2]at hw;rcases aA.mp hw with hw | hw
  . exact hw
  . have a:=hT2 w hw;unfold Cs at hwb;rw[if_neg oM]at hwb;have:=of_decide_eq_true hwb;omega
 refine Classical.byContradiction λnz=>?_;have mw:w∈DP (L3 S l n st tb en) (DB F n (w4 S n st (E5 l tb)) (gP l (L3 S l n st tb en))):=BO.mpr ⟨by rw[<- eE];exact hwE,nz⟩;rw[h]at mw;rcases ak.mp mw with rfl | mw
 . rw[LJ]at hwb;cases hwb
 . have pw:(u0::T).Pairwise λu v=>Cs l u v=true:=by
    rw[<- h,<- eE];exact tp.1.sublist List.filter_sublist
   have:=CW ((List.pairwise_cons.mp pw).1 w mw) hwb;rw[LJ]at this;cases this
end
end
end Mine
namespace L2
open PySem Mine
def T6(C:Addr)(fs:List (Str × V))(H:Hp)(k:V):Prop:=∃p dx,k=.ref p/\H p=some (.ins C dx fs)
def T6.same{C:Addr}{fs:List (Str × V)}{H H':Hp}{k:V}(e:h8 H H')(h:T6 C fs H k):T6 C fs H' k:=by
 obtain⟨p,dx,rfl,h⟩:=h;exact⟨p,dx,rfl,e _ _ h⟩
def Ay(S:SR)(n:Nat):Prop:=n<=60000000\/∀k y,S.sz k y
def Ay.le{S:SR}{m n:Nat}(h:Ay S n)(e:m<=n):Ay S m:=h.imp (af e) id
def Fx(C:Addr)(fs:List (Str × V))(S:SR)(is:Hp->V->S.W->Prop)(f:S.W->S.W->S.W):Sp:=λvs H Q _=>∃k x y a b m n,vs=[k,x,y]/\
 (T6 C fs H k/\is H x a/\is H y b/\S.sz m a/\S.sz n b/\Ay S (m+n))/\∀v H',h8 H H'->is H' v (f a b)->Q v H'
def Fw(C:Addr)(fs:List (Str × V))(S:SR)(is:Hp->V->S.W->Prop)(z:S.W):Sp:=λvs H Q _=>∃k,vs=[k]/\T6 C fs H k/\∀v H',h8 H H'->is H' v z->Q v H'
def UI(b:Bool):Sp:=λvs H Q _=>∃x,vs=[x]/\Q (.bl b) H
def Ng(C:Addr)(fs:List (Str × V))(S:SR)(is:Hp->V->S.W->Prop)(f:S.W->S.W):Sp:=λvs H Q _=>∃k x a,vs=[k,x]/\(T6 C fs H k/\is H x a)/\∀v H',h8 H H'->is H' v (f a)->Q v H'
def Nh(C:Addr)(fs:List (Str × V))(S:SR)(is:Hp->V->S.W->Prop)(f:S.W->S.W):Sp:=λvs H Q _=>∃k x a,vs=[k,x]/\(T6 C fs H k/\is H x a/\a≠S.zero)/\∀v H',h8 H H'->is H' v (f a)->Q v H'
set_option genInjectivity false in
set_option genSizeOfSpec false in
structure g9(P:Program)(w:World)(K:aa)(mg:Str->Option Value)(base:Heap)where
 S:SR
 C:Addr
 fs:List (Str × V)
 cl:KL K C
 is:Hp->V->S.W->Prop
 same:∀{H H':Hp} {v:V} {x:S.W},w9 H H'->is H v x->is H' v x
 isd:∀{H:Hp} {v:V} {x:S.W},is H v x->Is K H v (S.data x)
 F:X6 S
 B:Cb S
 f_minus:Addr
 d_minus:FuncData
 t_minus:Dw K C "minus" f_minus
 b_minus:J0 K d_minus ["self","x"] []
 l_minus:fs.lookup ("minus":Str)=none
 G_minus:∀{base:Heap},o9 P w K mg base D2 40 f_minus d_minus ["self","x"] (Ng C fs S is F.neg)
 f_inverse:Addr
 d_inverse:FuncData
 t_inverse:Dw K C "inverse" f_inverse
 b_inverse:J0 K d_inverse ["self","x"] []
 l_inverse:fs.lookup ("inverse":Str)=none
 G_inverse:∀{base:Heap},o9 P w K mg base D2 40 f_inverse d_inverse ["self","x"] (Nh C fs S is F.inv)
 f_is_field:Addr
 d_is_field:FuncData
 t_is_field:Dw K C "is_field" f_is_field
 b_is_field:J0 K d_is_field ["self"] []
 l_is_field:fs.lookup ("is_field":Str)=none
 G_is_field:∀{base:Heap},o9 P w K mg base D2 40 f_is_field d_is_field ["self"] (UI true)
 f_plus:Addr
 d_plus:FuncData
 t_plus:Dw K C "plus" f_plus
 b_plus:J0 K d_plus ["self","x","y"] []
 l_plus:fs.lookup ("plus":Str)=none
 G_plus:∀{base:Heap},o9 P w K mg base D2 40 f_plus d_plus ["self","x","y"] (Fx C fs S is S.add)
 f_times:Addr
 d_times:FuncData
 t_times:Dw K C "times" f_times
 b_times:J0 K d_times ["self","x","y"] []
 l_times:fs.lookup ("times":Str)=none
 G_times:∀{base:Heap},o9 P w K mg base D2 40 f_times d_times ["self","x","y"] (Fx C fs S is S.mul)
 f_nought:Addr
 d_nought:FuncData
 t_nought:Dw K C "nought" f_nought
 b_nought:J0 K d_nought ["self"] []
 l_nought:fs.lookup ("nought":Str)=none
 G_nought:∀{base:Heap},o9 P w K mg base D2 40 f_nought d_nought ["self"] (Fw C fs S is S.zero)
 f_one:Addr
 d_one:FuncData
 t_one:Dw K C "one" f_one
 b_one:J0 K d_one ["self"] []
 l_one:fs.lookup ("one":Str)=none
 G_one:∀{base:Heap},o9 P w K mg base D2 40 f_one d_one ["self"] (Fw C fs S is S.one)
def g9.re{P:Program}{w:World}{K:aa}{mg:Str->Option Value}{base:Heap}(R:g9 P w K mg base)(base2:Heap):g9 P w K mg base2:={ R with }
section
variable{P:Program}{w:World}{K:aa}{mg:Str->Option Value}{base:Heap}
def g9.neD(R:g9 P w K mg base){H:Hp}{x y:V}{a b:R.S.W}{Q:VK}(hx:R.is H x a)(hy:R.is H y b)(e:a=b)(q:Q (.bl false) H):PU K x y H Q:=
 ⟨_,_,R.isd hx,R.isd hy,R.S.sh _,R.S.sh _,R.S.nm _ _,by subst e;rw[R.S.eq];exact q⟩
def g9.neT(R:g9 P w K mg base){H:Hp}{x y:V}{a b:R.S.W}{Q:VK}(hx:R.is H x a)(hy:R.is H y b)(e:a≠b)(q:Q (.bl true) H):PU K x y H Q:=
 ⟨_,_,R.isd hx,R.isd hy,R.S.sh _,R.S.sh _,R.S.nm _ _,by rw[R.S.ne _ _ e];exact q⟩
end
def FQ(H:Hp)(v:V)(a b:Int):Prop:=∃p,v=.ref p/\H p=some (.tup [.int a,.int b])
def FQ.same{H H':Hp}{v:V}{a b:Int}(e:w9 H H')(h:FQ H v a b):FQ H' v a b:=by
 obtain⟨p,rfl,h⟩:=h;exact⟨p,rfl,e _ _ h⟩
def FQ.is{K:aa}{H:Hp}{v:V}{a b:Int}(h:FQ H v a b):Is K H v (.tuple [.int a,.int b]):=by
 obtain⟨p,rfl,h⟩:=h;exact .tup (o7.of h) (.cons (.int _) (.cons (.int _) .nil))
def FQ.new{H:Hp}{p:Addr}{a b:Int}:FQ (upd H p (.tup [.int a,.int b])) (.ref p) a b:=⟨p,rfl,c5⟩
def Kj(H:Hp)(v:V)(x:Fr):Prop:=FQ H v x.t x.b
def Ki(p:Int)(_:Hp)(v:V)(x:Re p):Prop:=v=.int x.x
def Lf(p:Int):List (Str × V):=Z9 "prime" (.int p) []
def AD(p:Int):(Lf p).lookup ("prime":Str)=some (.int p):=by
 unfold Lf;rw[S8,if_pos rfl]
def Ad(p:Int){m:Str}(h:¬m="prime"):(Lf p).lookup m=none:=by
 unfold Lf;rw[S8,if_neg h];rfl
def Fy{H:Hp}{C x dx:Addr}{fs:List (Str × V)}(n:H x=none)(m:H dx=none):h8 H (upd (upd H dx (.own x)) x (.ins C dx fs)):=λb o e=>by
 rw[j6 (j0 e n),j6 (j0 e m)];exact e
def OK(xs:List V)(k:Nat):Fl xs none (some (k:Int))=xs.take k:=by
 unfold Fl;rw[HT.Nq,HT.Py,List.drop_zero,Nat.sub_zero];by_cases h:k<=xs.length
 . rw[Nat.min_eq_left h]
 . rw[Nat.min_eq_right oM,bb,dy oM]
def Hx{x:Int}{n:Nat}(h:x.natAbs<=2 ^ n):Builtin.Int.intBits x<=n+1:=intBits_le_iff.mpr (Nat.lt_of_le_of_lt h (Nat.pow_lt_pow_right (by decide) (bK _)))
def EX{x y:Int}{m n:Nat}(h1:x.natAbs<=2 ^ m)(h2:y.natAbs<=2 ^ n)(h:m+n<=60000000):Dj x y:=by
 have a:=Hx h1;have b:=Hx h2;show _<=2 ^ 27;have e:(2:Nat) ^ 27=134217728:=by decide
 omega
section
variable{P:Program}{w:World}{K:aa}{mg:Str->Option Value}{base:Heap}{R:g9 P w K mg base}{h n m:Nat}{x:Nat->R.S.W}{y:Nat->Nat->R.S.W}{v:V}{H H':Hp}
end
end L2
namespace L2
open PySem PySem.Spec PyProof.Rows
end L2
namespace L2
open PySem PySem.Spec PyProof.Rows PySem.Builtin PySem.Builtin.Str
section
variable{X:Cx}
def Me{st:Stmt}{t:TS}(i:Nat)(h:PS X st t):PS X st (λD σ H=>t D (σ.set i none) H):=by
 intro pins s σ H D I q;refine h pins s (σ.set i none) H D (I.weak bW λj v e=>?_) q;by_cases z:i=j
 . subst z;by_cases z2:i < σ.length
   . rw[cR z2]at e;cases e
   . rw[List.getElem?_eq_none (by rw[bW];omega)]at e;cases e
 . rwa [bU z]at e
end
end L2
namespace L2
open PySem PySem.Spec PyProof.Rows
section
variable{P:Program}{w:World}{H H':Hp}{h h':Heap}
def U2.there(x:U2 P w H h)(e:H a=some o):∃ob,h.get? a=some ob:=by
 have y:=x a o e;clear e x
 induction o with
 | lst xs=>obtain⟨_,its,n,r,e⟩:=y;exact⟨_,e⟩
 | tup xs=>obtain⟨_,its,r,⟨ob,e,c⟩,_⟩:=y;exact⟨_,e⟩
 | dK kvs=>obtain⟨_,_,vs,r,ob,es,ep,e,c⟩:=y;exact⟨_,e⟩
 | dT kvs=>obtain⟨_,_,xs,r,ob,es,ep,e,c⟩:=y;exact⟨_,e⟩
 | set S n=>obtain⟨ob,es,ep,t,e,c⟩:=y;exact⟨_,e⟩
 | ins C dx fs=>obtain⟨d,z,ne,e,_⟩:=y;exact⟨_,e⟩
 | own y'=>exact y
 | xd fs=>obtain⟨mA,⟨od,es,ep,e,c⟩,r⟩:=y;exact⟨_,e⟩
 | rng lo hi=>obtain⟨t,u,v,e⟩:=y;exact⟨_,e⟩
 | frz ob u ih=>exact⟨_,y.1⟩
 | tbl ps=>exact⟨_,y⟩
 | met f y'=>exact⟨_,y⟩
 | ext φ=>exact y.2.1
def U2.loose(x:U2 P w H h)(k:∀b u,H b≠none->h.get? b=some u->h'.get? b=some u):U2 P w H h':=λa o e=>
 (x a o e).stay (λb u hb q=>k b u (by
  rcases hb with z | z
  . rw[z,e];exact nofun
  . rw[z];exact nofun) q) (λ_ q=>q) λ_ _ q=>q
def XT(h:Heap)(a T C:Addr):Prop:=∃oe vs a0 oT ts,h.get? a=some oe/\(oe.cls=.ref C/\vs[0]? = some a0)/\oe.data=.fields vs/\vs[1]? = some (.ref T)/\T≠a/\h.get? T=some oT/\oT.data=.fields ts/\ts[3]? = some .none
structure Fly(P:Program)(w:World)(fs:List Addr)(H H':Hp)(s s':Shared)(a T C:Addr):Prop where
 os:s'.os=s.os
 bare:AllBare s'.gens
 un:Un fs [] H H' s.heap s'.heap
 hok:U2 P w H' s'.heap
 xt:XT s'.heap a T C
 na:s.heap.get? a=none
 nT:s.heap.get? T=none
 ha:H' a=none
 hT:H' T=none
def CX1(P:Program)(w:World):MP:=λouter H s E e s'=>∃a T C H',e=.ref a/\Fly P w (En outer) H H' s s' a T C/\E (.ref C) none H'
end
section
variable{P:Program}{w:World}{H H':Hp}{s s':Shared}{a T C:Addr}{l:List Env}{base0:Heap}
end
def XP(X:Cx)(pins:List (Addr × Obj))(σ:St)(E:XK)(e:Value)(s':Shared):Prop:=∃s H,k8 X pins σ H s/\CX1 X.prog X.w X.stack H s E e s'
structure ZR(X:Cx)(E:XK):Prop where
 stk:X.stack=X.env::X.outer
 fr:X.env.frame=some X.env.locals
 ex:X.ex=[]
 xe:X.xe=λe s'=>wpAny (model X.prog X.w) X.A (leaving X.env e) (λ_ s''=>CX1 X.prog X.w X.outer X.H₀ X.s₀ E e s'') (λe' s''=>CX1 X.prog X.w X.outer X.H₀ X.s₀ E e' s'') s'
section
variable{X:Cx}{pins:List (Addr × Obj)}{σ:St}{H:Hp}{s s':Shared}{E:XK}{e:Value}
end
abbrev bmV:List Value:=[.type "ValueError",.type "Exception",.type "BaseException",.type "object"]
section
variable{P:Program}{w:World}{K:aa}{mg:Str->Option Value}{base:Heap}
def ZR.own(R:ZR X E):PassesOwn (model X.prog X.w) X.A X.env X.xe:=by rw[R.xe];exact PassesOwn.leaving
end
section
variable{X:Cx}{k:Nat}{f C:Addr}{fd:FuncData}{ps:List Str}{sp:Sp}{dvs:List V}{ds:List Value}{E:XK}{x m:Str}{p np cpos pos apos:Pos}{e o:Expr}{es:List Expr}{ta:TE}{t:TA}{tx:TX}
end
section
variable{X:Cx}{pins:List (Addr × Obj)}{σ:St}{H:Hp}{s:Shared}{a:Addr}
end
section
variable{X:Cx}{e:Expr}{te:TE}{tx:TX}{pos:Pos}{st:Stmt}{t u:TSX}
end
end L2
namespace Mine
open PySem PySem.W PySem.Spec PySem.Calls PyProof.Rows
section
variable{prog:Program}{w:World}{A:Around}{E:Value->Shared->Prop}{s:Shared}{K:Frag}{x D:Addr}{o:Obj}{c:Value}
open Builtin Builtin.Getset_descriptor in
end
end Mine
namespace L2
open PySem PySem.Spec PyProof.Rows
structure ExcK(K:aa)(C:Addr):Prop where
 ga:PySem.W.findIn K (.ref C) "__getattribute__"=some (some (.builtin "BaseException.__getattribute__"))
 gt:PySem.W.findIn K (.ref C) "__getattr__"=some none
 cl:PySem.W.findIn K (.ref C) "__class__"=some (some (.builtin "object.__class__"))
 ob:PySem.W.mroIn K C (.type "object")=some true
 be:PySem.W.mroIn K C (.type "BaseException")=some true
 ex:PySem.W.excIn K C bmV "ValueError.__new__"=true
section
variable{X:Cx}
end
section
variable{X:Cx}
end
end L2
namespace L2
open PySem PySem.Spec PyProof.Rows PySem.W
structure Tb(mg:Str->Option Value)(h:Heap)(c P:Addr):Prop where
 cd:CodeHd h c P
 bl:h.BuiltinsAt mg P
 gl:mainGlobals≠P
section
variable{P:Program}{w:World}{H:Hp}{h h':Heap}{p:Addr}{ps qs:Array Value}
def U2.tab(x:U2 P w H h)(hp:H p=some (.tbl ps))(hx:Heap.ExtBut p h h')(e:h'.get? p=some (tabObj qs)):U2 P w (upd H p (.tbl qs)) h':=λb u q=>by
 have own:∀c a,H c=some (.own a)->upd H p (.tbl qs) c=some (.own a):=λc a z=>by rw[j6 (S7 z hp (by simp))];exact z
 have tup:∀c xs,H c=some (.tup xs)->upd H p (.tbl qs) c=some (.tup xs):=λc xs z=>by rw[j6 (S7 z hp (by simp))];exact z
 by_cases hb:b=p
 . subst hb;rw[c5]at q;cases q;exact e
 . rw[j6 hb]at q;refine(x b u q).stay (λc o hc z=>hx c o ?_ z) (λc z=>own c b z) tup;rcases hc with rfl | hc
   . exact hb
   . exact S7 hc hp (by simp)
def Un.tab(hp:H p=some (.tbl ps))(hx:Heap.ExtBut p h h')(e:h'.get? p=some (tabObj (ps++qs))):Un fs ex H (upd H p (.tbl (ps++qs))) h h' where
 keep:=λb o q n _ _=>hx b o (λz=>by rw[z,hp]at n;cases n) q
 slot:=λb o q n _ _=>⟨o.slots,hx b o (λz=>by rw[z,hp]at n;cases n) q⟩
 free:=λb o q n _=>by rw[j6 (λz=>by rw[z,hp]at n;cases n)];exact n
 there:=λb o q _=>by
  by_cases hb:b=p
  . exact⟨_,hb▸e⟩
  . exact⟨o,hx b o hb q⟩
 tups:=λb xs z=>by rw[j6 (S7 z hp (by simp))];exact z
 frzs:=λb o u z=>by rw[j6 (S7 z hp (by simp))];exact z
 tbls:=λb qs' z=>by
  by_cases hb:b=p
  . subst hb;rw[hp]at z;cases z;exact⟨qs,c5⟩
  . exact⟨#[],by rw[j6 hb,z];simp⟩
end
section
variable{X:Cx}{pins:List (Addr × Obj)}{σ:St}{H:Hp}{s:Shared}
theorem Tb.keeps(t:Tb mg h c P)(k:∀b o,h.get? b=some o->h'.get? b=some o):Tb mg h' c P:=
 ⟨t.cd.keeps k,let⟨bm,o,a1,a2,a3,a4,a5,r⟩:=t.bl;⟨bm,o,a1,a2,a3,a4,k _ _ a5,r⟩,t.gl⟩
def Ep(hx:Heap.ExtBut P h h'):Heap.ExtBut P h (h'.push o):=λb u hb e=>ah _ (hx b u hb e)
end
def Rw(ts:List Addr)(H:Hp):Prop:=∀p∈ts,H p=some (.tbl #[])
def Jt{K:Frag}{x qual:Str}{st:Stmt}{f c P:Addr}{fd:FuncData}{oc:Value}{od:Option Addr}{osl:Array (Option Value)}(ht:tabIn K x=some (c,P))(hn:nsIn K mainGlobals x=some (some (.ref f)))(lk:K.lookup f=some ⟨oc,od,.func fd,osl⟩):fd.code=.ref c:=by
 unfold tabIn at ht;rw[hn]at ht;simp only[lk]at ht;split at ht
 . rename_i c₂ hc;split at ht
   . split at ht
     . cases ht;exact hc
     . cases ht
   . cases ht
 . cases ht
section
variable{P:Program}{w:World}{K:aa}{mg:Str->Option Value}{base:Heap}
def KH.okC{x qual:Str}{st:Stmt}{f c p:Addr}{fd:FuncData}{N ps:List Str}{k:Nat}{sp:Sp}(F:KH K x qual st f fd)(S:c8 N ps (b9 st))(ht:tabIn K x=some (c,p))(hn:nsIn K mainGlobals x=some (some (.ref f)))(len:∀vs H Q E,sp vs H Q E->vs.length=ps.length)
    (hbody:∀(A:Around) (outer:List Env) (s:Shared) (H:Hp) (vs:List V) (Q:VK) (E:XK),E6 k (A.deeper (envOfC qual (b9 st) s.heap.objs.size f (.ref c)))->sp vs H Q E->
     ∃t,KF (Kx D2 P w K mg base N qual (b9 st) f (.ref c) A outer s H E).nox (B3 st) t/\t { nx:=λ_ H'=>Q .non H',rt:=Q } (BF N vs) H):o9 P w K mg base D2 (k+1) f fd ps sp:=by
 obtain⟨oc,od,kV,doc,pm,an,cdv,ct,osl,rfl,lk,hcd⟩:=F.ex;have hc:cdv=.ref c:=Jt (st:=st) (qual:=qual) ht hn lk;subst hc;refine Rr lk hcd S len λA outer s H vs Q E hr hsp=>?_;obtain⟨t,h,q⟩:=hbody A outer s H vs Q E hr hsp;exact⟨t,h.nox,q⟩
end
def Ms{P:Program}{w:World}{K:aa}{mg mb:Str->Option Value}{CX:MP}{k:Nat}{fa a:Addr}{fd:FuncData}{x:Str}{sp:Sp}{s₁:Shared}{vs:List Value}{ns:List Int}{tabs:List (Addr × Addr)}
    (KX:K.In s₁.heap) (hns:s₁.heap.Ns mainGlobals mg) (hb:s₁.heap.Ns builtinsNs mb) (hbb:∀x:Str,x≠"__name__"->mb x=bootBuiltins x) (hlim:s₁.heap.NoLimit) (hsee:s₁.heap.NoSeer) (hg:s₁.gens=#[])
    (ha:s₁.heap.get? a=some { cls:=.type "list",data:=.seq vs.toArray }) (hi:IntsAre vs ns) (hl:ns.length<=sizeLine) (hr:E6 k callerA)
    (hT:∀q∈tabs,Tb mg s₁.heap q.1 q.2/\s₁.heap.TableAt q.1 q.2 #[]/\K.lookup q.2=none)
    (F:∀base:Heap,K.In base->base.Ns mainGlobals mg->(∀q∈tabs,Tb mg base q.1 q.2)->o9 P w K mg base CX k fa fd [x] sp) (hbind:∀(s:Shared) (u:Value),BindsTo s fd ⟨[u],[]⟩ [(x,u)])
    (hsp:∀H:Hp,Rw (tabs.map (·.2)) H->t8 K H a (ns.map V.int)->sp [.ref a] H (λv _=>v=.bl true) λ_ _ _=>False)
    (hCX:∀H e s',CX [] H s₁ (λ_ _ _=>False) e s'->False) :
    codeAny (model P w) callerA (.call (.ref fa) ⟨[.ref a],[]⟩) (λr s'=>r=.ok (.ret (.bool true))/\OldK s₁.heap s'.heap/\s'.os=s₁.os/\AllBare s'.gens) s₁:=by
 have rv:=Fp hi;have lenV:=hi.length;have hTp:∀p∈tabs.map (·.2),s₁.heap.get? p=some (tabObj #[])/\K.lookup p=none/\∃c,s₁.heap.TableAt c p #[]:=λp hp=>by
  obtain⟨q,hq,rfl⟩:=aE.mp hp;exact⟨(hT q hq).2.1.2,(hT q hq).2.2,_,(hT q hq).2.1⟩
 have core:∀H:Hp,(∀b,H b=none\/(∃o xs,H b=some (.frz o (.lst xs))/\b=a/\K.lookup a=none)\/(H b=some (.tbl #[])/\b∈tabs.map (·.2)))->Rw (tabs.map (·.2)) H->t8 K H a (ns.map V.int)->U2 P w H s₁.heap->
     codeAny (model P w) callerA (.call (.ref fa) ⟨[.ref a],[]⟩) (λr s'=>r=.ok (.ret (.bool true))/\OldK s₁.heap s'.heap/\s'.os=s₁.os/\AllBare s'.gens) s₁:=by
  intro H hO hOT hS hok;have base_of:∀{b:Addr} {o:Obj},s₁.heap.get? b=some o->H b=none->(Fj s₁.heap H).get? b=some o:=λe n=>Oq e n;have isA:∀{b:Addr} {o:Obj},s₁.heap.get? b=some o->o.cls≠.none->o.cls≠.type "list"->H b=none:=λ{b o} e c1 c2=>by
   rcases hO b with z | ⟨_,_,_,rfl,_⟩ | ⟨_,hm⟩
   . exact z
   . rw[ha]at e;cases e;exact absurd rfl c2
   . rw[(hTp _ hm).1]at e;cases e;exact absurd rfl c1
  have noA:∀{b:Addr} {o:Obj} {es:Array DictEntry} {ep:Nat},s₁.heap.get? b=some o->o.data=.dict es ep->H b=none:=λ{b o es ep} e d=>by
   rcases hO b with z | ⟨_,_,_,rfl,_⟩ | ⟨_,hm⟩
   . exact z
   . rw[ha]at e;cases e;cases (show Data.seq vs.toArray _=Data.dict es ep from d)
   . rw[(hTp _ hm).1]at e;cases e;cases (show Data.fields #[]=Data.dict es ep from d)
  have nsK:∀{b:Addr} {m:Str->Option Value},s₁.heap.Ns b m->(Fj s₁.heap H).Ns b m:=λ{b m} ⟨o,es,ep,e,d,r⟩=>⟨o,es,ep,base_of e (noA e d),d,r⟩;have hKb:K.In (Fj s₁.heap H):=λb o e=>base_of (KX b o e) (by
   rcases hO b with z | ⟨_,_,_,rfl,hk⟩ | ⟨_,hm⟩
   . exact z
   . rw[hk]at e;cases e
   . rw[(hTp _ hm).2.1]at e;cases e)
  have ty:∀{x y:String},x≠y->Value.type x≠Value.type y:=λn z=>by injection z with z;exact n z
  have hM:Mod K mg (Fj s₁.heap H):=⟨hKb,nsK hns,⟨mb,nsK hb,hbb⟩,let⟨mc,h1,h2⟩:=hlim;⟨mc,nsK h1,h2⟩,⟨let⟨mc,h1,h2⟩:=hsee.statics;⟨mc,nsK h1,h2⟩,let⟨mc,h1,h2⟩:=hsee.mods;⟨mc,nsK h1,h2⟩,let⟨mc,h1,h2⟩:=hsee.imp;⟨mc,nsK h1,h2⟩,by
    obtain⟨mg',bm,ob,n1,n2,n3,n4,n5⟩:=hsee.main;exact⟨mg',bm,ob,nsK n1,n2,base_of n3 (isA n3 (by rw[n4];nofun) (by rw[n4];exact ty (by decide))),n4,n5⟩⟩⟩
  have e0:Fo P w K mg (Fj s₁.heap H) callerA [] s₁ H:=⟨rfl,hM,λb o e=>Qh e,Nat.le_of_eq (Mx _ _),trivial,λb hb=>absurd (show b∈([]:List Addr)from hb) (by simp),hok,.of_eq hg⟩;have hTb:∀q∈tabs,Tb mg (Fj s₁.heap H) q.1 q.2:=λq hq=>by
   obtain⟨o,ws,file,tf,flags,tg,inF,text,tt,e1,r1,r2⟩:=(hT q hq).1.cd;obtain⟨bm,ob,a1,a2,a3,a4,a5,a6,a7⟩:=(hT q hq).1.bl;exact⟨⟨o,ws,file,tf,flags,tg,inF,text,tt,base_of e1 (isA e1 (by rw[r1];nofun) (by rw[r1];exact ty (by decide))),r1,r2⟩,⟨bm,ob,a1,a2,a3,a4,base_of a5 (isA a5 (by rw[a6];nofun) (by rw[a6];exact ty (by decide))),a6,a7⟩,(hT q hq).1.gl⟩
  refine codeAny_mono ((F _ hKb (nsK hns) hTb).run callerA [] s₁ H ⟨[.ref a],[]⟩ [.ref a] [.ref a] _ _ hr e0 (hbind s₁ (.ref a)) (.cons rfl .nil) (hsp H hOT hS)) λr s' h=>?_;cases r with
  | error e=>exact(hCX H e s' h).elim
  | ok fl=>
   cases fl with
   | next=>exact False.elim h
   | brk=>exact False.elim h
   | cont=>exact False.elim h
   | ret u=>
    obtain⟨v,H',os,bare,un,hok',r',q⟩:=h;have q':v=.bl true:=q;subst q';obtain rfl:u=Value.bool true:=r';refine⟨rfl,⟨λb o e=>?_,λb o e=>un.there b o e (by simp)⟩,os,bare⟩;rcases hO b with z | ⟨ob,xs,z,_,_⟩ | ⟨z,hm⟩
    . exact .inl (un.keep b o e z (by intro z;exact absurd (show b∈([]:List Addr)from z) (by simp)) (by simp))
    . have z2:=un.frzs b ob _ z;obtain⟨e1,_⟩:=hok b _ z;obtain⟨e2,_⟩:=hok' b _ z2;rw[e]at e1;cases e1;exact .inl e2
    . obtain⟨g1,_,c,g3⟩:=hTp b hm;rw[g1]at e;cases e;obtain⟨more,z2⟩:=un.tbls b _ z;exact .inr (.inl ⟨g3.isCodeTable,rfl,#[],more,rfl,hok' b _ z2⟩)
 have aT:a ∉ tabs.map (·.2):=λz=>by have e:=(hTp a z).1;rw[ha]at e;cases e
 cases hk:K.lookup a with
 | some o=>
  have e:=KX a o hk;rw[ha]at e;cases e;refine core (λb=>if b∈tabs.map (·.2)then some (.tbl #[])else none) (λb=>?_) (λp hp=>if_pos hp) (.inr ⟨_,vs.toArray,_,hk,rfl,rfl,rfl,by rw[au,lenV];exact hl,by simpa using rv⟩) λb u z=>?_
  . by_cases hb:b∈tabs.map (·.2)
    . exact .inr (.inr ⟨if_pos hb,hb⟩)
    . exact .inl (if_neg hb)
  . by_cases hb:b∈tabs.map (·.2)
    . have z':=(if_pos hb).symm.trans z;cases z';exact(hTp b hb).1
    . have z':=(if_neg hb).symm.trans z;cases z'
 | none=>
  refine core (λb=>if b=a then some (.frz { cls:=.type "list",data:=.seq vs.toArray } (.lst (ns.map V.int)))else if b∈tabs.map (·.2)then some (.tbl #[])else none) (λb=>?_) (λp hp=>?_) (.inl (.inr ⟨{ cls:=.type "list",data:=.seq vs.toArray },if_pos rfl⟩)) λb u z=>?_
  . by_cases hb:b=a
    . exact .inr (.inl (za ⟨if_pos hb,hb,hk⟩))
    . by_cases hb':b∈tabs.map (·.2)
      . exact .inr (.inr ⟨(if_neg hb).trans (if_pos hb'),hb'⟩)
      . exact .inl ((if_neg hb).trans (if_neg hb'))
  . exact(if_neg (λe:p=a=>aT (by rw[<- e];exact hp))).trans (if_pos hp)
  . by_cases hb:b=a
    . have z':=(if_pos hb).symm.trans z;cases z';subst hb;exact⟨ha,by rw[aj];exact hl,vs,_,rv,ha⟩
    . have z':=(if_neg hb).symm.trans z;by_cases hb':b∈tabs.map (·.2)
      . have z2:=(if_pos hb').symm.trans z';cases z2;exact(hTp b hb').1
      . have z2:=(if_neg hb').symm.trans z';cases z2
def EW{K:Frag}(hK:noTabs K=true){P:Addr}{h:Heap}{ps:Array Value}(X:K.In h)(e:h.get? P=some (tabObj ps)):K.lookup P=none:=by
 cases q:K.lookup P with
 | none=>rfl
 | some o=>
  have e2:=X _ _ q;rw[e]at e2;cases e2;have h2:=List.all_eq_true.mp hK (P,tabObj ps) (mem_of_lookupK q);exact absurd (show false=true from h2) aG
def MS{l:PySem.W.OpenLaw}{n k:Nat}{q:Program}{loose:List Str}{XP:(Str->Option Value)->Heap->Prop}{YP:World->Heap->Prop}{d:DefRec}{K:Params->aa}{CX:MP}{sp:aa->Sp}{x:Str}(nms:List Str)
    (hn:l.most=some n) (hn2:n<=sizeLine) (hdf:d.params.defaults=[]) (hr:E6 k callerA) (hq:importsNone q=true)
    (hY:∀(w:World) (h:Heap),YP w h->(K w.params).In h)
    (hnt:∀w:World,noTabs (K w.params)=true) (hrec:∀y∈nms,((recsOf q).find? (λe=>e.name == y)).isSome=true)
    (F:∀(w:World) (mg:Str->Option Value) (fa:Addr) (h:Heap),(K w.params).In h->h.Ns mainGlobals mg->mg d.name=some (.ref fa)->
     ∃fd:FuncData,(∀(s:Shared) (u:Value),BindsTo s fd ⟨[u],[]⟩ [(x,u)])/\
      ∀base:Heap,(K w.params).In base->base.Ns mainGlobals mg->(∀y∈nms,∀c P,tabIn (K w.params) y=some (c,P)->Tb mg base c P)->o9 l.prog w (K w.params) mg base CX k fa fd [x] (sp (K w.params)))
    (hsp:∀(K:aa) (H:Hp) (a:Addr) (ns:List Int),ns.length<=n->(∀y∈nms,∀c P,tabIn K y=some (c,P)->H P=some (.tbl #[]))->t8 K H a (ns.map V.int)->sp K [.ref a] H (λv _=>v=.bl true) λ_ _ _=>False)
    (hCX:∀(H:Hp) (s:Shared) (e:Value) (s':Shared),CX [] H s (λ_ _ _=>False) e s'->False) :
    PySem.W.WalkO q loose XP YP l.row.toRowW d [] (λf vs=>PySem.call f vs):=by
 refine Att.Jc hn hdf λw s₀ s₁ mg mb fa o pm cd doc a vs ns G Y ho hd hcd hmg hobj hints hlen hg=>?_;have KX:=hY w _ Y;obtain⟨fd,hb,hF⟩:=F w mg fa _ KX G.T.g hmg;have hmem:∀{y c P},y∈nms->tabIn (K w.params) y=some (c,P)->(c,P)∈nms.filterMap (tabIn (K w.params)):=λhy ht=>bM.mpr ⟨_,hy,ht⟩;refine Ms (tabs:=nms.filterMap (tabIn (K w.params))) KX G.T.g G.T.b G.T.builtins G.T.nolimit (G.T.seer hq) hg hobj hints (af hlen hn2) hr (λt ht=>?_) (λbase kb nb hT=>hF base kb nb λy hy c P e=>hT (c,P) (hmem hy e)) hb (λH hO hS=>hsp (K w.params) H a ns hlen (λy hy c P e=>hO P (aE.mpr ⟨(c,P),hmem hy e,rfl⟩)) hS) λH e s'=>hCX H s₁ e s';obtain⟨y,hy,ht⟩:=bM.mp ht;obtain⟨c,P⟩:=t;obtain⟨r,hr'⟩:=Option.isSome_iff_exists.mp (hrec y hy);obtain⟨C,e⟩:=tab_of G.T KX hr' ht;obtain⟨bm,ob,b1,b2,b3,b4,b5,b6⟩:=G.T.bmain;have gP:mainGlobals≠P:=λz=>by
  obtain⟨o',es,ep,e',hd',_⟩:=G.T.g;rw[z,e]at e';cases e';cases hd'
 have bP:bm≠P:=λz=>by
  rw[z,e]at b3;cases b3;cases b4
 have bG:bm≠mainGlobals:=λz=>by
  obtain⟨o',es,ep,e',hd',_⟩:=G.T.g;rw[z,e']at b3;cases b3;rw[b6]at hd';cases hd'
 exact⟨⟨C,⟨bm,ob,b1,b2,bG,bP,b3,b4,b5,b6⟩,gP⟩,C.tab e,EW (hnt w) KX e⟩
end L2
namespace L2
open PySem PySem.Spec PyProof.Rows
section
variable{X:Cx}
end
section
variable{prog:Program}{w:World}{A:Around}{E:Value->Shared->Prop}{s:Shared}
inductive Jh:Value->Value->Prop
 | int (i j:Int) (t u:Tok):Jh (.int i t) (.int j u)
 | str (x y:Str) (t u:Tok):Jh (.str x t) (.str y u)
def Jh.eqB(c:Jh x y)(h:∀r,Q r s):wpAny (model prog w) A (eqBool x y) Q E s:=by
 cases c with
 | int i j t u=>exact wpAny_eqBool_int (h _)
 | str x y t u=>exact wpAny_eqBool_str (h _)
def Jh.lt(c:Jh x y)(h:∀r,Q (.bool r) s):wpAny (model prog w) A (richCompare .Lt x y) Q E s:=by
 cases c with
 | int i j t u=>exact richCompare_gives (op:=.Lt) (typeIs_int s i t) (typeIs_int s j u) F.slot_int_lt F.entry_int_lt (F.args_int_lt_2 _ _) (gives_int_lt _ _ t u) (λx=>nomatch x) (h _)
 | str x y t u=>exact richCompare_gives (op:=.Lt) (typeIs_str s x t) (typeIs_str s y u) F.slot_str_lt F.entry_str_lt (F.args_str_lt_2 _ _) (gives_str_lt x y t u) (λe=>nomatch e) (h _)
def QC(h:Q (.bool (decide (c < d))) s):wpAny (model prog w) A (richCompare .Lt (.int c t) (.int d u)) Q E s:=
 richCompare_gives (op:=.Lt) (typeIs_int s c t) (typeIs_int s d u) F.slot_int_lt F.entry_int_lt (F.args_int_lt_2 _ _) (gives_int_lt _ _ t u) (λx=>nomatch x) h
def Qd{a b:Addr}{c d:Int}{t u:Tok}{x y:Value}{oa ob:Obj}{na nb:Nat}{Q:Value->Shared->Prop}(hu:A.units+1 < cLine)
    (hoa:s.heap.get? a=some oa) (ca:oa.cls=.type "tuple") (da:oa.data=.seq #[.int c t,x] na) (hob:s.heap.get? b=some ob) (cb:ob.cls=.type "tuple") (db:ob.data=.seq #[.int d u,y] nb) (hxy:Jh x y)
    (h:∀r:Bool,(r=true->c<=d)->(r=false->d<=c)->Q (.bool r) s):wpAny (model prog w) A (richCompare .Lt (.ref a) (.ref b)) Q E s:=by
 have ta:s.TypeIs (.ref a) "tuple":=⟨oa,hoa,ca⟩;have tb:s.TypeIs (.ref b) "tuple":=⟨ob,hob,cb⟩;refine wpAny_richCompare_same_room (op:=.Lt) ta tb F.slot_tuple_lt (wpAny_call_entry F.slot_tuple_lt ta F.entry_tuple_lt ?_ (F.args_tuple_lt_2 _ _)) (Nat.lt_of_succ_lt hu);show wpAny _ _ (isInstance (.ref b) (.type "tuple") >>= _) _ _ s;refine wpAny_bind (wpAny_isInstance tb isSubtype_tuple_tuple ?_);simp only[Bool.not_true,cn,if_false];refine wpAny_bind (wpAny_tupleItemsOf hoa da ?_);refine wpAny_bind (wpAny_tupleItemsOf hob db ?_);refine wpAny_bind ?_;show wpAny _ _ (forIn [(Value.int c t,Value.int d u),(x,y)] _ _) _ _ _;rw[cH];refine wpAny_bind ?_;refine wpAny_bind (wpAny_eqBool_int ?_);by_cases hcd:c=d
 . subst hcd;simp only[beq_self_eq_true,Bool.not_true,cn,if_false];refine wpAny_pure ?_;show wpAny _ _ (forIn [(x,y)] _ _) _ _ _;rw[cH];refine wpAny_bind ?_;refine wpAny_bind (hxy.eqB λr=>?_);cases r with
   | true=>
    simp only[Bool.not_true,cn,if_false];refine wpAny_pure ?_;show wpAny _ _ (forIn [] _ _) _ _ _;rw[List.forIn_nil];refine wpAny_pure ?_;refine wpAny_pure ?_;exact⟨_,rfl,λz=>(nomatch z),h false (λz=>nomatch z) λ_=>Int.le_refl _⟩
   | false=>
    simp only[Bool.not_false,if_true];refine wpAny_bind (wpAny_rule (wpAny_bind (hxy.lt λr=>?_)));refine wpAny_bind (wpAny_pure (wpAny_pure (wpAny_pure (wpAny_pure ?_))));exact⟨_,rfl,λz=>(nomatch z),h r (λ_=>Int.le_refl _) λ_=>Int.le_refl _⟩
 . rw[show(c == d)=false from beq_eq_false_iff_ne.mpr hcd];simp only[Bool.not_false,if_true];refine wpAny_bind (wpAny_rule (wpAny_bind (QC ?_)));refine wpAny_bind (wpAny_pure (wpAny_pure (wpAny_pure (wpAny_pure ?_))));exact⟨_,rfl,λz=>(nomatch z),h _ (λz=>Int.le_of_lt (of_decide_eq_true z)) λz=>Int.not_lt.mp (of_decide_eq_false z)⟩
def LM(h:Heap)(its:List Value)(cs:List Int):Prop:=∃ps:List Addr,its=ps.map Value.ref/\ps.length=cs.length/\∀(i j:Nat) (a b:Addr),ps[i]? = some a->ps[j]? = some b->∃(oa ob:Obj) (t u:Tok) (x y:Value) (na nb:Nat),h.get? a=some oa/\oa.cls=.type "tuple"/\oa.data=.seq #[.int (cs[i]?.getD 0) t,x] na/\h.get? b=some ob/\ob.cls=.type "tuple"/\ob.data=.seq #[.int (cs[j]?.getD 0) u,y] nb/\Jh x y
def LM.lt{its:List Value}{cs:List Int}{i j:Nat}{v u:Value}{Q:Value->Shared->Prop}(p:LM s.heap its cs)(hu:A.units+1 < cLine)(hi:its[i]? = some v)(hj:its[j]? = some u)
    (h:∀r:Bool,(r=true->cs[i]?.getD 0<=cs[j]?.getD 0)->(r=false->cs[j]?.getD 0<=cs[i]?.getD 0)->Q (.bool r) s):wpAny (model prog w) A (richCompare .Lt v u) Q E s:=by
 obtain⟨ps,rfl,hl,q⟩:=p;rw[aD]at hi hj;cases ea:ps[i]? with
 | none=>rw[ea]at hi;cases hi
 | some a=>
  cases eb:ps[j]? with
  | none=>rw[eb]at hj;cases hj
  | some b=>
   rw[ea]at hi;rw[eb]at hj;cases hi;cases hj;obtain⟨oa,ob,t,u,x,y,na,nb,h1,h2,h3,h4,h5,h6,h7⟩:=q i j a b ea eb;exact Qd hu h1 h2 h3 h4 h5 h6 h7 h
variable{R:Result->Shared->Prop}{I l:Addr}
end
section
variable{X:Cx}
theorem DG:∀{cs:List Addr} {its:List Value},r8 (cs.map V.ref) its->its=cs.map Value.ref
 | [],_,.nil=>rfl
 | c::r,_,.cons e t=>by
  cases (show _=Value.ref c from e);rw[DG t];rfl
end
end L2
namespace L2
open PySem PySem.Spec PyProof.Rows PySem.W
section
variable{X:Cx}{pins:List (Addr × Obj)}{σ:St}{H:Hp}{R:Result->Shared->Prop}{Iv l S q:Addr}{ps:List Addr}
def Qs(I:k8 X pins σ H s)(hq:t8 X.K H l (ps.map V.ref)):s.heap.IsList l (ps.map Value.ref).toArray:=by
 obtain⟨its,rv,p,_⟩:=I.list hq;cases DG rv;exact p.isList
end
section
variable{X:Cx}
end
end L2
namespace L2
open PySem PySem.Spec PyProof.Rows
def Up(K:aa)(a:Addr)(n:Nat):It:=
 ⟨λi H=>i < n/\∃xs x,t8 K H a xs/\xs[n - 1 - i]? = some x,λi H x H'=>H'=H/\∀xs,t8 K H a xs->xs[n - 1 - i]? = some x,λi _=>i=n⟩
def MX{P:Program}{w:World}{K:aa}{tg:Expr}(a it:Addr)(n:Nat):Jd P w K tg (Up K a n) [it] it (λi h=>h.IsRevIter it a ((n:Int) - 1 - (i:Int)))where
 mem:=by simp
 obj:=λi h st b hb=>by
  have e:b=it:=by simpa using hb
  subst e;obtain⟨o,e,c,d⟩:=st;exact⟨o,e,λv z=>by rw[d]at z;cases z⟩
 keep:=λi h h' st k=>st.at λo e=>k it (by simp) o e
 item:=by
  intro X hP hw hK hc i pins s σ H E I hf st hg;subst hP hw hK;obtain⟨hi,xs,x,hq,hx⟩:=hg;obtain⟨its,rv,p,hz⟩:=I.list hq;obtain⟨u,hu,ru⟩:=rv.get hx;obtain⟨f0,f1,f2,f3,f4,f5⟩:=hf it (by simp);have e1:((n:Int) - 1 - i)=((n - 1 - i:Nat):Int):=by omega
  rw[e1]at st;refine wpAny_pyNext_rev_item st p.isList (x:=u) (by simpa using hu) λh' st' sb=>?_;have I1:k8 X pins σ H { s with heap:=h' }:=I.turned (t':=s.toks) (λb o hb e=>(sb.2 b hb).trans e) f0 f1 f3 f4 f5;obtain⟨o,e,c,d⟩:=id st';have e2:((n - 1 - i:Nat):Int) - 1=(n:Int) - 1 - ((i+1:Nat):Int):=by omega
  rw[e2]at st';exact⟨u,rfl,IK (s:={ s with heap:=h' }) e c d (by decide) ⟨x,H,I1,ru,⟨rfl,λys hy=>by rw[I.list_inj hy hq];exact hx⟩,st',λb hb=>(hf b hb).1⟩⟩
 done:=by
  intro X hP hw hK hc i pins s σ H E I hf st hg;subst hP hw hK;have hg:i=n:=hg;obtain⟨f0,f1,f2,f3,f4,f5⟩:=hf it (by simp);have e:(n:Int) - 1 - i = -1:=by omega
  rw[e]at st;exact wpAny_pyNext_rev_end (I.ok.hd hc) st λh' eb=>⟨rfl,I.turned (t':=s.toks) (λb o hb e=>eb b o hb e) f0 f1 f3 f4 f5⟩
 self:=λ_ _ _ _ _ st h=>wpAny_pyIter_revIter st h
def Zx(K:aa)(ta:TA):TI:=λσ H R=>ta σ H λvs H1=>∃a xs,vs=[.ref a]/\t8 K H1 a xs/\R (Up K a xs.length) H1
def PX(hg:Gl X "reversed")(hm:X.mg "reversed"=none)(ha:PA X [a] ta)(hs:starEach [a] X.env=[(false,eval a X.env)]:=by rfl) :
    PI X tg (.Call (.Name "reversed" p) [a] [] pos) (Zx X.K ta):=by
 intro pins s σ H R I h;refine Call_ (As I hg hm boot_reversed (cw (B6 (ha pos pins s σ H _ I h) λus s1 ⟨vs,H1,I1,r1,q1⟩=>?_) hs rfl));obtain⟨l,xs,e,hq,q⟩:=q1;subst e;cases r1 with
 | cons r rr=>
  cases rr;cases r;obtain⟨its,rv,pl,hz⟩:=I1.list hq;have len:=rv.length;refine call_reversed_list pl.isList ?_;have hit:(s1.heap.push (revObj l ((its.toArray.size:Int) - 1))).IsRevIter s1.heap.objs.size l ((its.toArray.size:Int) - 1):=⟨_,aw _ rfl,rfl,rfl⟩;refine wpAny_pyIter_revIter hit ⟨_,[s1.heap.objs.size],_,Up X.K l xs.length,H1,rfl,I1.kept (t':=s1.toks) λb o e=>ah _ e,MX l _ _,?_,λb hb=>?_,q⟩
  . have e:((its.toArray.size:Int) - 1)=(xs.length:Int) - 1 - ((0:Nat):Int):=by rw[au,<- len];omega
    rw[e]at hit ⊢;exact hit
  . have e:b=s1.heap.objs.size:=by simpa using hb
    subst e;exact I1.fpOk (ae _) (I1.hok.fresh (ae _))
def OD{K:aa}{a:Addr}{xs:List V}{g:TG}{tb:TS}{D:EB}{σ:St}{H:Hp}(Pv:Nat->St->Hp->Prop)(h0:Pv 0 σ H)(hl:∀i σ H,i<=xs.length->Pv i σ H->t8 K H a xs)
    (hs:∀i x σ H,i < xs.length->xs[xs.length - 1 - i]? = some x->Pv i σ H->g x σ H λσ2 H2=>tb { D with nx:=Pv (i+1),ct:=Pv (i+1),bk:=D.nx } σ2 H2) (hd:∀σ H,Pv xs.length σ H->D.nx σ H) :
    ∃W:Nat->Nat->St->Hp->Prop,(∃m,W 0 m σ H)/\∀i m σ H,W i m σ H->
     ((Up K a xs.length).stop i H/\D.nx σ H)\/((Up K a xs.length).go i H/\∃N:St->Hp->Prop,(∀σ' H',N σ' H'->∃m',m' < m/\W (i+1) m' σ' H')/\∀x H',(Up K a xs.length).yld i H x H'->g x σ H' λσ2 H2=>tb { D with nx:=N,ct:=N,bk:=D.nx } σ2 H2):=by
 refine⟨λi m σ H=>m=xs.length - i/\i<=xs.length/\Pv i σ H,⟨xs.length,by simp,aK _,h0⟩,?_⟩;rintro i m σ H ⟨rfl,hi,p⟩;have q:=hl i σ H hi p;by_cases hlt:i < xs.length
 . refine .inr ⟨⟨hlt,xs,xs[xs.length - 1 - i],q,ax _⟩,Pv (i+1),λσ' H' p'=>⟨xs.length - (i+1),oM,rfl,hlt,p'⟩,λx H' y=>?_⟩;obtain⟨e,y⟩:=y;subst e;exact hs i x σ _ hlt (y xs q) p
 . have e:i=xs.length:=by omega
   subst e;exact .inl ⟨rfl,hd σ H p⟩
end L2
namespace L2
open PySem PySem.Spec PyProof.Rows PySem.W
def MD(qual:Str)(scope:Scope)(L a:Addr)(cd:Value)(clo:List (Str × Addr)):Env:=
 { scope:=scope,locals:=L,globals:=mainGlobals,cells:=clo,qual:=qual++".<locals>.",func:=some a,code:=cd,frame:=some L,builtins:=builtinsNs }
def ZL(P:Program)(w:World)(K:aa)(mg:Str->Option Value)(base:Heap)(N:List Str)(qual:Str)(scope:Scope)(f:Addr)(cd:Value)(clo:List (Str × Addr))(A:Around)(outer:List Env)(s:Shared)(H:Hp):Cx where
 prog:=P
 w:=w
 K:=K
 mg:=mg
 base:=base
 A:=A.deeper (MD qual scope s.heap.objs.size f cd clo)
 N:=N
 s₀:=s
 H₀:=H
 env:=MD qual scope s.heap.objs.size f cd clo
 outer:=outer
 stack:=MD qual scope s.heap.objs.size f cd clo::outer
 ex:=[]
 calm:=true
 fn:=λ_=>false
 pn:=[]
 xe:=λ_ _=>False
structure LN(pn:Str)(fr:List Str)(sc:Scope):Prop where
 kind:sc.kind=.function
 co:sc.isCoroutine=false
 gen:sc.isGenerator=false
 nd:(pn::fr).Nodup
 par:sc.names.lookup pn=some .local
 fre:∀x∈fr,sc.names.lookup x=some .free
 nocell:∀y∈sc.names,y.2≠.cell
 all:∀y∈sc.names,y.2=.free->y.1∈fr
def ZZ(base:Heap)(f c:Addr)(qual:Str)(params:Arguments)(body:Expr)(scope:Scope)(fr:List Str)(ws:List V):Prop:=
 ∃(clo:List (Str × Addr)) (pm ctv:Value),base.get? f=some (kla_obj "<lambda>" qual params body scope clo pm c ctv)/\
  (∀x y c,clo.lookup x=some c->clo.lookup y=some c->x=y)/\(∀x c,clo.lookup x=some c->∃v,base.IsCell c v)/\(∀x∈fr,∃c,clo.lookup x=some c)/\
  ∀(i:Nat) x v,fr[i]? = some x->ws[i]? = some v->∃c u,clo.lookup x=some c/\base.IsCell c (some u)/\y6 v u
def Ex{h h':Heap}{c:Addr}{v:Option Value}(x:h.IsCell c v)(k:∀b o,h.get? b=some o->h'.get? b=some o):h'.IsCell c v:=let⟨o,e,d⟩:=x;⟨o,k _ _ e,d⟩
section
variable{P:Program}{w:World}{K:aa}{mg:Str->Option Value}{base:Heap}{k:Nat}{f c0:Addr}{qual pn:Str}{params:Arguments}{body:Expr}{scope:Scope}{A:Around}{outer:List Env}{s:Shared}{H:Hp}{v:V}{u:Value}{tb:TE}{Q:VK}{fr:List Str}{ws:List V}
def Oi(S:LN pn fr scope)(F:ZZ base f c0 qual params body scope fr ws)(hcd:s.heap.CodeRec (.ref c0) qual)(hw:ws.length=fr.length)
    (hbody:∀cd clo,E6 k (A.deeper (MD qual scope s.heap.objs.size f cd clo))->PE (ZL P w K mg base (pn::fr) qual scope f cd clo A outer s H) body tb)
    (hbind:∀clo pm cd ctv,bindArgs (kla_fn "<lambda>" qual params body scope clo pm cd ctv) ⟨[u],[]⟩=pure [(pn,u)])
    (hr:E6 (k+1) A) (e0:Fo P w K mg base A outer s H) (rv:y6 v u) (q:tb (some v::ws.map some) H Q) :
    codeAny (model P w) A (.call (.ref f) ⟨[u],[]⟩) (CR D2 outer P w H s Q E0) s:=by
 obtain⟨clo,pm,ctv,ho,hinj,hcell,hhas,hval⟩:=F;have bk:∀b o,base.get? b=some o->s.heap.get? b=some o:=λb o e=>(e0.bs b o e).1;have lim:s.heap.NoLimit:=e0.mod.nolimit.keeps bk;refine kla_callFunE hr.depth (bk _ _ ho) rfl S.co S.gen rfl hcd (BindsTo.of_eq (s:=s) (hbind clo pm (.ref c0) ctv) _ _ _ _ ?_);refine wpAny_newFunctionEnv S.nocell (λy hy=>by rw[az.mp hy];exact S.par) (λh' hns hsb=>?_) S.kind;have kp:∀b o,s.heap.get? b=some o->h'.get? b=some o:=λb o e=>hsb.extBut b o (ao (ag e)) (ah _ e);refine⟨lim.keeps kp,kla_codeExpr ?_⟩;have noA:∀b:Addr,b ∉ (ZL P w K mg base (pn::fr) qual scope f (.ref c0) clo A outer s H).ex:=λb z=>absurd (show b∈([]:List Addr)from z) (by simp);have I:k8 (ZL P w K mg base (pn::fr) qual scope f (.ref c0) clo A outer s H) [] (some v::ws.map some) H { s with heap:=h',toks:=s.toks+[(pn,u)].length }:=by
  refine⟨⟨e0.mod,S.kind,rfl,rfl,ae _,hinj,λy hy=>?_,λy c z=>(nomatch z),λ_=>hr.hd,Around.frames_deeper e0.frames,.inr ⟨rfl,rfl⟩,λb z=>absurd z (noA b),e0.bs,e0.bsz,λb _ _=>noA b,λb z=>absurd z (noA b),e0.funs,e0.frf⟩,
   rfl,e0.bare,Un.kept kp,⟨_,hns,λi y v' h1 h2 h3=>?_⟩,λy c h=>?_,e0.hok.fresh (ae _),λy c h=>?_,λp hp=>absurd (show p∈([]:List (Addr × Obj))from hp) (by simp),e0.hok.kept kp,?_⟩
  . have hy:scope.names.lookup y=some .cell\/scope.names.lookup y=some .free:=hy;rcases hy with hy | hy
    . exact absurd rfl (S.nocell _ (aO hy))
    . exact hhas y (S.all _ (aO hy) rfl)
  . cases i with
    | zero=>
     have e1:pn=y:=Option.some.inj h1;have e2:v=v':=Option.some.inj (Option.some.inj h2);subst e1 e2;exact⟨u,rv,.inl ⟨S.par,by simp⟩⟩
    | succ i=>
     have h1:fr[i]? = some y:=h1;have h2:(ws.map some)[i]? = some (some v'):=h2;rw[aD]at h2;obtain⟨v2,e2,e3⟩:=dg.mp h2;cases e3;obtain⟨c,u',a1,a2,a3⟩:=hval i y _ h1 e2;exact⟨u',a3,.inr ⟨.inr (S.fre y (aR h1)),c,a1,Ex a2 λb o e=>kp b o (bk b o e)⟩⟩
  . obtain⟨v',a⟩:=hcell y c h;exact⟨v',Ex a λb o e=>kp b o (bk b o e)⟩
  . obtain⟨v',o,e,_⟩:=hcell y c h;exact(e0.bs _ _ e).2
  . show(ws.map some).length+1=fr.length+1;rw[aj,hw]
 refine wpAny_mono (hbody (.ref c0) clo (hr.deeper _) [] _ _ H _ I q) (λz s' hs=>?_) λe s' hs=>False.elim hs;obtain⟨v',H',J,rv',q'⟩:=hs;exact⟨v',H',J.os,J.bare,J.base,J.hok,rv',q'⟩
structure Fn(P:Program)(w:World)(K:aa)(mg:Str->Option Value)(base:Heap)(k:Nat)(f:Addr)(sp:Sp):Prop where
 fn:∃o fd,base.get? f=some o/\o.data=.func fd
 run:∀(A:Around) (outer:List Env) (s:Shared) (H:Hp) (u:Value) (v:V) (Q:VK),E6 k A->Fo P w K mg base A outer s H->y6 v u->sp [v] H Q E0->codeAny (model P w) A (.call (.ref f) ⟨[u],[]⟩) (CR D2 outer P w H s Q E0) s
end
section
variable{X:Cx}{pins:List (Addr × Obj)}{σ:St}{H:Hp}{s:Shared}
def RN(P:Program)(w:World)(K:aa)(mg:Str->Option Value)(base:Heap)(i k:Nat)(t:TA):TE:=λσ H Q=>∃f sp,σ[i]? = some (some (.ref f))/\Fn P w K mg base k f sp/\t σ H λvs H1=>vs.length=1/\sp vs H1 Q E0
def Fn.at{P:Program}{w:World}{K:aa}{mg:Str->Option Value}{base h:Heap}{k:Nat}{f:Addr}{sp:Sp}(F:Fn P w K mg base k f sp)(bk:∀b o,base.get? b=some o->h.get? b=some o):FnAt f h:=by
 obtain⟨⟨oc,od,dt,sl⟩,fd,e,d⟩:=F.fn;cases d;exact⟨oc,od,fd,sl,bk _ _ e⟩
def NH{i k:Nat}{x:Str}{e:Expr}{t:TA}{p pos:Pos}(hr:E6 k X.A)(ha:PA X [e] t)(hN:X.N[i]? = some x:=by rfl)(hv:Vis X.env.scope x:=by first | exact Or.inl rfl | exact Or.inr (Or.inl rfl) | exact Or.inr (Or.inr rfl))(hd:(x == ("__debug__":Str))=false:=by decide)(hcd:(x == ("__classdict__":Str))=false:=by decide)
    (he:starEach [e] X.env=(false,eval e X.env)::starEach [] X.env:=by rfl):PE X (.Call (.Name x p) [e] [] pos) (RN X.prog X.w X.K X.mg X.base i k t):=by
 intro pins s σ H Q I h;obtain⟨f,sp,hf,F,h⟩:=h;refine wpAny_Call_Name_kw (wpAny_mono (NB hN hv hd hcd pins s σ H (λv H'=>v=.ref f/\H'=H) I ⟨_,hf,rfl,rfl⟩) (λu s1 hu=>?_) λ_ _ z=>z);obtain⟨v,H',I1,rv,rfl,rfl⟩:=hu;obtain rfl:u=Value.ref f:=rv;refine callWith_F (F.at I1.bk) (B6 (ha pos pins s1 σ H' _ I1 h) λus s2 ⟨vs,H2,I2,r,hl,q⟩=>⟨F.at I2.bk,?_⟩) he rfl;obtain⟨v,rfl⟩:∃v,vs=[v]:=by
  match vs,hl with
  | [v],_=>exact⟨v,rfl⟩
 obtain⟨u,rfl,ru⟩:=r.one;refine wpAny_call (codeAny_mono (F.run X.A X.stack s2 H2 u v Q hr I2.env0 ru q) λr s' hq=>?_);cases r with
 | error e=>exact False.elim hq
 | ok fl=>
  cases fl with
  | ret u=>exact I2.after hq
  | next=>exact False.elim hq
  | brk=>exact False.elim hq
  | cont=>exact False.elim hq
def M6(H:Hp)(c:Addr)(qual:Str):Prop:=∃oc vs t,H c=some (.frz oc (.own 0))/\oc.data=.fields vs/\vs[1]? = some (.str qual t)
def K8(H:Hp)(P:Addr)(qual:Str):Prop:=∃ps,H P=some (.tbl ps)/\TriplesOk ps.toList/\∀lpos v,codeAmong lpos ps.toList=some v->∃c,v=.ref c/\M6 H c qual
def ML(l:List Value)(h:TriplesOk l)(e:codeAmong pos (l++[rawInt a,rawInt b,c])=some v):codeAmong pos l=some v\/v=c:=by
 fun_induction TriplesOk l with
 | case1=>
  simp only[cM,codeAmong,rawInt]at e;split at e
  . exact .inr (Option.some.inj e).symm
  . cases e
 | case2 a t b u x O6 ih=>
  simp only[cI,codeAmong]at e ⊢;split at e
  . rename_i hc;rw[if_pos hc];exact .inl e
  . rename_i hc;rw[if_neg hc];exact ih h e
 | case3 l h1 h2=>exact h.elim
def M6.rec(x:M6 H c qual)(hok:U2 P w H h):h.CodeRec (.ref c) qual:=by
 obtain⟨oc,vs,t,e,d,q⟩:=x;exact⟨c,oc,vs,t,rfl,(hok c _ e).1,d,q⟩
def Je(P:Addr)(H H':Hp):Prop:=∀b o,b≠P->H b=some o->H' b=some o
def IH{c P:Addr}{params:Arguments}{body:Expr}{scope:Scope}{lpos:Pos}{Q:Value->Shared->Prop}{E:Value->Shared->Prop}(I:k8 X pins σ H s)(tb:Tb X.mg X.base c P)(hcode:X.env.code=.ref c)(hd0:params.defaults=[])(hk0:params.kw_defaults=[])
    (hfr:∀y∈scope.names,y.2=.free->X.env.scope.names.lookup y.1=some .cell\/X.env.scope.names.lookup y.1=some .free) (hT:K8 H P (X.env.qual++"<lambda>"))
    (h:∀f c' pm ctv s' H',k8 X pins σ H' s'->Je P H H'->K8 H' P (X.env.qual++"<lambda>")->M6 H' c' (X.env.qual++"<lambda>")->P2 X pins H' f->s'.heap.get? f=some (kla_obj "<lambda>" (X.env.qual++"<lambda>") params body scope (J9 X.env.cells scope.names []) pm c' ctv)->Q (.ref f) s') :
    wpAny (model X.prog X.w) X.A (eval (.Lambda params body scope lpos) X.env) Q E s:=by
 obtain⟨tps,hP,ht,hc⟩:=hT;rw[arm_eval_Lambda,defaultsOf_eq,hd0,hk0];refine wpAny_bind (wpAny_pure ?_);refine wpAny_bind (wpAny_holding (wpAny_pure ?_));have hcl:=T5 (env:=X.env) (scope:=scope) λn hn=>I.ok.has n (hfr _ hn rfl);have tbh:=tb.keeps I.bk;have hPo:s.heap.get? P=some (tabObj tps):=I.hok P _ hP;cases hf:codeAmong lpos tps.toList with
 | none=>
  have hnf:=hf;refine kla_makeFunction (mg:=X.mg) hcl I.ok.glob (I.mod.glob.keeps I.bk) hcode tbh.cd hPo ht hnf tbh.gl tbh.bl λc' ctv h' tk hx' hge hlt hrec htb=>?_;have e:(h'.push (kla_obj "<lambda>" (X.env.qual++"<lambda>") params body scope (J9 X.env.cells scope.names []) ((X.mg "__name__").getD .none) c' ctv)).get? P=some (tabObj (tps++#[rawInt lpos.line,rawInt lpos.col,.ref c'])):=ah _ htb;have I2:=I.un (t':=tk) (Un.tab (fs:=X.fs) (ex:=[]) hP (Ep hx') e) (I.hok.tab hP (Ep hx') e);obtain⟨c2,oc,vs,tq,ec,eoc,edc,eq1⟩:=hrec;cases ec;have goc:=ah (kla_obj "<lambda>" (X.env.qual++"<lambda>") params body scope (J9 X.env.cells scope.names []) ((X.mg "__name__").getD .none) c' ctv) eoc;have gf:(h'.push (kla_obj "<lambda>" (X.env.qual++"<lambda>") params body scope (J9 X.env.cells scope.names []) ((X.mg "__name__").getD .none) c' ctv)).get? h'.objs.size=some (kla_obj "<lambda>" (X.env.qual++"<lambda>") params body scope (J9 X.env.cells scope.names []) ((X.mg "__name__").getD .none) c' ctv):=aw _ rfl;have hs1:s.heap.objs.size<=h'.objs.size:=bw (Nat.lt_of_le_of_lt hge hlt);have pP:P < s.heap.objs.size:=ag hPo;have nH:∀b,s.heap.objs.size<=b->upd H P (.tbl (tps++#[rawInt lpos.line,rawInt lpos.col,.ref c'])) b=none:=λb hb=>by
   rw[j6 (bq (ar pP hb))];exact I.hok.fresh hb
  have I3:k8 X pins σ (upd (upd H P (.tbl (tps++#[rawInt lpos.line,rawInt lpos.col,.ref c']))) c' (.frz oc (.own 0))) { s with heap:=h'.push (kla_obj "<lambda>" (X.env.qual++"<lambda>") params body scope (J9 X.env.cells scope.names []) ((X.mg "__name__").getD .none) c' ctv),toks:=tk }:=by
   refine I.un (t':=tk) ((Un.tab (fs:=X.fs) (ex:=[]) hP (Ep hx') e).track hge (nH _ hge)) (I2.hok.track (nH _ hge) ⟨goc,⟨_,goc⟩⟩)
  have ncP:P≠c':=ao (ar pP hge);have nfc:h'.objs.size≠c':=bq hlt;have cod:M6 (upd (upd H P (.tbl (tps++#[rawInt lpos.line,rawInt lpos.col,.ref c']))) c' (.frz oc (.own 0))) c' (X.env.qual++"<lambda>"):=⟨oc,vs,tq,c5,edc,eq1⟩;refine h _ c' _ ctv _ _ I3 (λb o hb q=>?_) ⟨_,(j6 ncP).trans c5,?_,λlp v ev=>?_⟩ cod (I.fpOk hs1 ((j6 nfc).trans (nH _ hs1))) gf
  . rw[j6 (λz=>by have:=I.hok.fresh hge;rw[<- z,q]at this;cases this),j6 hb];exact q
  . rw[Array.toList_append];exact TriplesOk_snoc _ _ _ _ ht
  . rw[Array.toList_append]at ev;rcases ML _ ht ev with z | z
    . obtain⟨c3,e3,oc3,vs3,t3,y1,y2⟩:=hc lp v z;have n1:c3≠P:=S7 y1 hP (by simp);have n2:c3≠c':=λz=>by have:=I.hok.fresh hge;rw[<- z,y1]at this;cases this
      exact⟨c3,e3,oc3,vs3,t3,(by rw[j6 n2,j6 n1];exact y1),y2⟩
    . exact⟨c',z,cod⟩
 | some cv=>
  obtain⟨cc,rfl,hcc⟩:=hc lpos cv hf;refine kla_makeFunctionHit (mg:=X.mg) hcl I.ok.glob (I.mod.glob.keeps I.bk) hcode tbh.cd hPo ht hf tbh.bl λctv h' tk kp hge=>?_;have I2:k8 X pins σ H { s with heap:=h'.push (kla_obj "<lambda>" (X.env.qual++"<lambda>") params body scope (J9 X.env.cells scope.names []) ((X.mg "__name__").getD .none) cc ctv),toks:=tk }:=I.kept (t':=tk) λb u e=>ah _ (kp b u e);exact h _ cc _ ctv _ _ I2 (λ_ _ _ q=>q) ⟨tps,hP,ht,hc⟩ hcc (I.fpOk hge (I.hok.fresh hge)) (aw _ rfl)
def W4(X:Cx)(H:Hp)(h:Heap):Heap:=hideAll h (RI h H++En X.stack)
theorem Mod.keeps{K:aa}{mg:Str->Option Value}{h h':Heap}(m:Mod K mg h)(k:∀b o,h.get? b=some o->h'.get? b=some o):Mod K mg h':=
 ⟨m.kin.keeps k,m.glob.keeps k,let⟨mb,a,b⟩:=m.blt;⟨mb,a.keeps k,b⟩,m.nolimit.keeps k,m.seer.keeps k⟩
def Ho(I:k8 X pins σ H s)(e:s.heap.get? b=some o)(n:H b=none)(nf:b ∉ En X.stack):(W4 X H s.heap).get? b=some o:=
 hideAll_get _ e λz=>by
  rcases aA.mp z with z | z
  . have:=(cu.mp z).2;rw[n]at this;cases this
  . exact nf z
def KC(I:k8 X pins σ H s):∀b o,X.base.get? b=some o->(W4 X H s.heap).get? b=some o:=λb o e=>
 Ho I (I.bs b o e).1 (I.bs b o e).2 λz=>by
  have:=(I.stack.mem z).1;rw[e]at this;cases this
def OO(I:k8 X pins σ H s):Fo X.prog X.w X.K X.mg (W4 X H s.heap) X.A X.stack s H:=by
 refine⟨I.ok.frames,I.ok.mod.keeps (KC I),λb o e=>⟨of_hideAll _ e,?_⟩,Nat.le_of_eq (hideAll_size _ _),funFrames_hide I.stack (λenv he a ha=>av _ (bM.mpr ⟨env,he,ha⟩)),I.stkFree,I.hok,I.bare⟩;cases q:H b with
 | none=>rfl
 | some u=>
  have hin:b∈RI s.heap H++En X.stack:=aP _ (cu.mpr ⟨aX.mpr (ag (of_hideAll _ e)),by rw[q];rfl⟩);have:=hideAll_none _ (h:=s.heap) hin;rw[show hideAll s.heap (RI s.heap H++En X.stack)=W4 X H s.heap from rfl,e]at this;cases this
structure Rx(X:Cx)(pn:Str)(fr:List Str)(js:List Nat)(scope:Scope):Prop where
 fn:∀x,X.fn x=true
 sc:LN pn fr scope
 vis:∀x∈fr,X.env.scope.names.lookup x=some .cell\/X.env.scope.names.lookup x=some .free
 all:∀x∈fr,(x,NameKind.free)∈scope.names
 at_:js.map (λj=>X.N[j]?)=fr.map some
def ZD{f c0:Addr}{kf:Nat}{pn:Str}{fr:List Str}{js:List Nat}{params:Arguments}{body:Expr}{scope:Scope}{pm ctv:Value}{qual:Str}{tb:TE}{ws:List V}(I:k8 X pins σ H s)(S:Rx X pn fr js scope)(ff:P2 X pins H f)
    (ho:s.heap.get? f=some (kla_obj "<lambda>" qual params body scope (J9 X.env.cells scope.names []) pm c0 ctv))
    (hws:js.map (λj=>σ[j]?)=ws.map λv=>some (some v))
    (hbody:∀cd clo A outer s0 H0,E6 kf (A.deeper (MD qual scope s0.heap.objs.size f cd clo))->PE (ZL X.prog X.w X.K X.mg (W4 X H s.heap) (pn::fr) qual scope f cd clo A outer s0 H0) body tb)
    (hbind:∀clo pm cd ctv u,bindArgs (kla_fn "<lambda>" qual params body scope clo pm cd ctv) ⟨[u],[]⟩=pure [(pn,u)]) :
    Fn X.prog X.w X.K X.mg (W4 X H s.heap) (kf+1) f (λvs H Q _=>M6 H c0 qual/\∃v,vs=[v]/\tb (some v::ws.map some) H Q):=by
 have nf:∀b,b≠X.env.locals->b ∉ X.fs->b ∉ En X.stack:=λb h1 h2 z=>by
  rcases ak.mp (I.stkSub b z)with z | z
  . exact h1 z
  . exact h2 z
 have hf:=Ho I ho ff.1 (nf f ff.2.1 ff.2.2.1);have hcl:∀n,(n,NameKind.free)∈scope.names->∃c,X.env.cells.lookup n=some c:=λn hn=>I.ok.has n (S.vis n (S.sc.all _ hn rfl));have up:∀{y c},(J9 X.env.cells scope.names []).lookup y=some c->X.env.cells.lookup y=some c:=λe=>by
  rcases Hj hcl e with z | z
  . cases z
  . exact z
 have cin:∀{y c v},X.env.cells.lookup y=some c->s.heap.IsCell c v->(W4 X H s.heap).IsCell c v:=λ{y c v} e ⟨o,h1,h2⟩=>by
  refine⟨o,Ho I h1 (I.freeC y c e) (nf c (I.cne y c e) λz=>?_),h2⟩;obtain⟨_,o',e',_⟩:=I.ok.funs.mem z;exact absurd (ar (ag e') (I.ok.cab y c (S.fn y) e)) (bo _)
 have jl:js.length=fr.length:=by
  have:=congrArg List.length S.at_;rwa [aj,aj]at this
 have wl:ws.length=fr.length:=by
  have:=congrArg List.length hws;rw[aj,aj,jl]at this;exact this.symm
 have F:ZZ (W4 X H s.heap) f c0 qual params body scope fr ws:=by
  refine⟨_,pm,ctv,hf,λx y c h1 h2=>I.ok.inj x y c (up h1) (up h2),λx c h=>?_,λx hx=>Cm (.inr (S.all x hx)),λi x v h1 h2=>?_⟩
  . obtain⟨v,z⟩:=I.cell x c (up h);exact⟨v,cin (up h) z⟩
  . obtain⟨j,j1⟩:∃j,js[i]? = some j:=⟨_,ax (by rw[jl];exact(aY.mp h1).1)⟩;have j2:X.N[j]? = some x:=by
     have:=congrArg (λl=>l[i]?) S.at_;simp only[aD,j1,h1,Option.map_some]at this;exact Option.some.inj this
    have hσ:σ[j]? = some (some v):=by
     have:=congrArg (λl=>l[i]?) hws;simp only[aD,j1,h2,Option.map_some]at this;exact Option.some.inj this
    obtain⟨m,hn,hl⟩:=I.loc;have hv:=S.vis x (aR h1);obtain⟨u,rv,lk⟩:=hl j x v j2 hσ (.inr hv);rcases lk with ⟨z,_⟩ | ⟨_,c,e1,e2⟩
    . have z:X.env.scope.names.lookup x=some .local:=z;rw[z]at hv;rcases hv with hv | hv <;>cases hv
    . obtain⟨c',ec⟩:=Cm (cells:=X.env.cells) (names:=scope.names) (cs:=[]) (.inr (S.all x (aR h1)));have:=up ec;rw[e1]at this;cases this;exact⟨c,u,ec,cin e1 e2,rv⟩
 refine⟨za ⟨hf,rfl⟩,λA outer s0 H0 u v Q hr e0 rv hsp=>?_⟩;obtain⟨hc,v',e,q⟩:=hsp;cases e;exact Oi S.sc F (hc.rec e0.hok) wl (λcd clo hr'=>hbody cd clo A outer s0 H0 hr') (λclo pm cd ctv=>hbind clo pm cd ctv u) hr e0 rv q
abbrev TAL:=St->Hp->(List V->Addr->Addr->Hp->Prop)->Prop
def LP(X:Cx)(params:Arguments)(body:Expr)(scope:Scope)(pins:List (Addr × Obj))(σ:St)(R:List V->Addr->Addr->Hp->Prop)(us:List Value)(s':Shared):Prop:=
 ∃us0 vs f c' pm ctv H',us=us0++[.ref f]/\r8 vs us0/\k8 X pins σ H' s'/\P2 X pins H' f/\s'.heap.get? f=some (kla_obj "<lambda>" (X.env.qual++"<lambda>") params body scope (J9 X.env.cells scope.names []) pm c' ctv)/\R vs f c' H'
def PAL(X:Cx)(params:Arguments)(body:Expr)(scope:Scope)(es:List Expr)(t:TAL):Prop:=
 ∀(pos:Pos) (pins:List (Addr × Obj)) (s:Shared) (σ:St) (H:Hp) (R:List V->Addr->Addr->Hp->Prop),k8 X pins σ H s->t σ H R->wpAny (model X.prog X.w) X.A (spliced (backTo pos (starEach es X.env))) (LP X params body scope pins σ R) X.xe s
def tLam(P:Addr)(qual:Str):TAL:=λ_ H R=>K8 H P qual/\∀f c H',Je P H H'->K8 H' P qual->M6 H' c qual->H' f=none->R [] f c H'
def Qc{c P:Addr}{params:Arguments}{body:Expr}{scope:Scope}{lpos:Pos}(tb:Tb X.mg X.base c P)(hcode:X.env.code=.ref c)(hd0:params.defaults=[])(hk0:params.kw_defaults=[])
    (hfr:∀y∈scope.names,y.2=.free->X.env.scope.names.lookup y.1=some .cell\/X.env.scope.names.lookup y.1=some .free)
    (hs:starEach [.Lambda params body scope lpos] X.env=(false,eval (.Lambda params body scope lpos) X.env)::starEach [] X.env:=by rfl):PAL X params body scope [.Lambda params body scope lpos] (tLam P (X.env.qual++"<lambda>")):=by
 intro pos pins s σ H R I h;obtain⟨hT,h⟩:=h;rw[hs];show wpAny _ _ (spliced ((false,eval (.Lambda params body scope lpos) X.env)::backTo pos (starEach [] X.env))) _ _ s;refine Calls.spliced_cons (IH I tb hcode hd0 hk0 hfr hT λf c' pm ctv s' H' I' sp hT' hc ff ho=>?_);exact Calls.spliced_nil ⟨[],[],f,c',pm,ctv,H',rfl,.nil,I',ff,ho,h f c' H' sp hT' hc ff.1⟩
def Ib(ha:PE X e te)(hr:PAL X params body scope es t)(hs:starEach (e::es) X.env=(false,eval e X.env)::starEach es X.env:=by rfl) :
    PAL X params body scope (e::es) (λσ H R=>te σ H λx H1=>t σ H1 λvs f c H2=>R (x::vs) f c H2):=by
 intro pos pins s σ H R I h;rw[hs];show wpAny _ _ (spliced ((false,eval e X.env)::backTo pos (starEach es X.env))) _ _ s;refine Calls.spliced_cons (B6 (ha pins s σ H _ I h) λu s1 ⟨x,H1,I1,r1,q1⟩=>?_);refine B6 (hr pos pins s1 σ H1 _ I1 q1) λus s2 hζ=>?_;obtain⟨us0,vs,f,c',pm,ctv,H2,e2,r2,I2,ff,ho,q2⟩:=hζ;exact⟨u::us0,x::vs,f,c',pm,ctv,H2,by rw[e2];rfl,.cons r1 r2,I2,ff,ho,q2⟩
def MZ(P:Program)(w:World)(K:aa)(mg:Str->Option Value)(kf:Nat)(qual:Str)(js:List Nat)(tb:Heap->TE)(spg:Heap->Sp)(t:TAL):TE:=λσ H Q=>∃ws:List V,js.map (λj=>σ[j]?)=ws.map (λv=>some (some v))/\
 t σ H λvs f c H2=>∀base':Heap,Fn P w K mg base' (kf+1) f (λxs H Q _=>M6 H c qual/\∃v,xs=[v]/\tb base' (some v::ws.map some) H Q)->spg base' (vs++[.ref f]) H2 Q E0
def JK{k kf:Nat}{g:Addr}{fd:FuncData}{ps:List Str}{spg:Heap->Sp}{x pn:Str}{fr:List Str}{js:List Nat}{p pos:Pos}{e:Expr}{es:List Expr}{params:Arguments}{body:Expr}{scope:Scope}{t:TAL}{tb:Heap->TE}
    (G:∀base':Heap,o9 X.prog X.w X.K X.mg base' D2 k g fd ps (spg base')) (hr:E6 k X.A) (hg:Gl X x) (hm:X.mg x=some (.ref g)) (hk:PySem.W.keepIn X.K (.ref g)=true) (hb:J0 X.K fd ps []) (hL:PAL X params body scope (e::es) t) (S:Rx X pn fr js scope)
    (hbody:∀base' f cd clo A outer s0 H0,E6 kf (A.deeper (MD (X.env.qual++"<lambda>") scope s0.heap.objs.size f cd clo))->PE (ZL X.prog X.w X.K X.mg base' (pn::fr) (X.env.qual++"<lambda>") scope f cd clo A outer s0 H0) body (tb base'))
    (hbind:∀clo pm cd ctv u,bindArgs (kla_fn "<lambda>" (X.env.qual++"<lambda>") params body scope clo pm cd ctv) ⟨[u],[]⟩=pure [(pn,u)])
    (hdb:(x == ("__debug__":Str))=false:=by decide) (he:starEach (e::es) X.env=(false,eval e X.env)::starEach es X.env:=by rfl) (hpl:(backTo pos (starEach es X.env)).any (·.1)=false:=by rfl) :
    PE X (.Call (.Name x p) (e::es) [] pos) (MZ X.prog X.w X.K X.mg kf (X.env.qual++"<lambda>") js tb spg t):=by
 intro pins s σ H Q I h;obtain⟨ws,hws,h⟩:=h;refine wpAny_Call_Name_kw (Ce I hg hm ?_ hdb);refine cS (h₀:=X.base) I.ok.mod.kin hk (B6 (hL pos pins s σ H _ I h) λus s1 hζ=>?_) he hpl;obtain⟨us0,vs,f,c',pm,ctv,H1,e1,r,I1,ff,ho,q⟩:=hζ;refine ⟨I1.kIn,?_⟩;subst e1;have q1:=q _ (ZD I1 S ff ho hws (hbody _ f) hbind);have F:=G (W4 X H1 s1.heap);have r2:r8 (vs++[.ref f]) (us0++[Value.ref f]):=r.append (.cons rfl .nil);have hl:((us0++[Value.ref f])++[]).length=ps.length:=by rw[aN,<- r2.length];exact F.len _ _ _ _ q1
 have hb1:=hb s1 (us0++[Value.ref f]) I1.kIn hl;rw[aN]at hb1;refine wpAny_call (codeAny_mono (F.run X.A X.stack s1 H1 ⟨us0++[Value.ref f],[]⟩ _ _ Q E0 hr (OO I1) hb1 r2 q1) λr s' hq=>?_);cases r with
 | error e=>exact False.elim hq
 | ok fl=>
  cases fl with
  | ret u=>exact I1.after hq
  | next=>exact False.elim hq
  | brk=>exact False.elim hq
  | cont=>exact False.elim hq
end
def Mu{P:Program}{w:World}{A:Around}{s:Shared}{q c' a:Addr}{pn qual:Str}{params:Arguments}{scope:Scope}{pm ctv:Value}{clo:List (Str × Addr)}{its:Array Value}{n:Int}{t:Tok}{p1 p2 p3:Pos}{j:Nat}
    (hroom:A.depth < recursionLimit) (lim:s.heap.NoLimit) (ho:s.heap.get? q=some (kla_obj "<lambda>" qual params (.Subscript (.Name pn p1) (.Constant (.int 0) j p2) p3) scope clo pm c' ctv)) (hcd:s.heap.CodeRec (.ref c') qual) (Sc:LN pn [] scope)
    (hbind:bindArgs (kla_fn "<lambda>" qual params (.Subscript (.Name pn p1) (.Constant (.int 0) j p2) p3) scope clo pm (.ref c') ctv) ⟨[.ref a],[]⟩=pure [(pn,.ref a)]) (ht:IsTup s.heap a its) (h0:its[0]? = some (.int n t)) (hpn:(pn == ("__debug__":Str))=false) :
    wpAny (model P w) A (call (.ref q) [.ref a]) (λu s'=>∃h' tk t',u=.int n t'/\s'={ s with heap:=h',toks:=tk }/\∀b o,s.heap.get? b=some o->h'.get? b=some o) (λ_ _=>False) s:=by
 refine wpAny_call ?_;refine kla_callFunE hroom ho rfl Sc.co Sc.gen rfl hcd (BindsTo.of_eq (s:=s) hbind _ _ _ _ ?_);refine wpAny_newFunctionEnv Sc.nocell (λy hy=>by rw[az.mp hy];exact Sc.par) (λh' hns hsb=>?_) Sc.kind;have kp:∀b o,s.heap.get? b=some o->h'.get? b=some o:=λb o e=>hsb.extBut b o (ao (ag e)) (ah _ e);refine⟨lim.keeps kp,kla_codeExpr ?_⟩;have ht':IsTup h' a its:=by
  obtain⟨o,e,c⟩:=ht;exact⟨o,kp _ _ e,c⟩
 have hz:0 < its.size:=(Array.getElem?_eq_some_iff.mp h0).1;refine Subscript_ (wpAny_Name (wpAny_loadName_local Sc.kind (show Env.kindOf _ pn=some .local from Sc.par) hns (v:=.ref a) (by simp) ?_) hpn);refine wpAny_Constant_int ?_;refine subscriptTail_builtinR (x:=.int n t) (s:={ s with heap:=h',toks:=_ }) ht'.typeIs slot_tuple_getitem.lookup (getItem_tuple (j:=0) ht' (by decide) (by decide) ?_ h0 ⟨rfl,?_⟩) (by rfl)
 . unfold seqIndex?;simp[hz]
 . exact⟨h',_,t,rfl,rfl,kp⟩
def adr:Value->Addr
 | .ref a=>a
 | _=>0
def NA{kz:List Int}{as:List Addr}{ps:List (Int × Value)}(h:ps.Perm (kz.zip (as.map Value.ref))):∃zs:List (Int × Addr),zs.Perm (kz.zip as)/\ps=zs.map λz=>(z.1,Value.ref z.2):=by
 have e0:kz.zip (as.map Value.ref)=(kz.zip as).map λz=>(z.1,Value.ref z.2):=by rw[List.zip_map_right];rfl
 refine⟨ps.map λp=>(p.1,adr p.2),?_,?_⟩
 . have:=h.map λp:Int × Value=>(p.1,adr p.2);rw[e0,cj]at this;have e1:(kz.zip as).map ((λp:Int × Value=>(p.1,adr p.2)) ∘ λz=>(z.1,Value.ref z.2))=kz.zip as:=by
    conv=>rhs;rw[<- List.map_id (kz.zip as)]
    rfl
   rwa [e1]at this
 . rw[cj]
   conv=>lhs;rw[<- List.map_id ps]
   refine List.map_congr_left λp hp=>?_;have:=h.mem_iff.mp hp;rw[e0]at this;obtain⟨z,_,rfl⟩:=aE.mp this;rfl
section
variable{X:Cx}
def RL(K:aa)(P:Addr)(qual:Str)(ta:TA):TE:=λσ H Q=>ta σ H λvs H1=>∃(l:Addr) (ps:List Addr) (kz:List Int),vs=[.ref l]/\t8 K H1 l (ps.map V.ref)/\kz.length=ps.length/\ps.length < 64/\K8 H1 P qual/\
 (∀(i:Nat) p n,ps[i]? = some p->kz[i]? = some n->∃r,H1 p=some (.tup (.int n::r)))/\
 ∀(H2:Hp) (d:Addr) (zs:List (Int × Addr)),Je P H1 H2->K8 H2 P qual->H2 d=some (.lst (zs.map λz:Int × Addr=>V.ref z.2))->zs.Perm (kz.zip ps)->zs.Pairwise (λp q=>p.1<=q.1)->Q (.ref d) H2
def ND{c P:Addr}{k:Nat}{pn:Str}{p pos lpos kpos p1 p2 p3:Pos}{jj:Nat}{e:Expr}{params:Arguments}{scope:Scope}{ta:TA}(hr:E6 (k+3) X.A)(tb':Tb X.mg X.base c P)(hcode:X.env.code=.ref c)
    (hg:Gl X "sorted") (hm:X.mg "sorted"=none) (ha:PA X [e] ta) (hd0:params.defaults=[]) (hk0:params.kw_defaults=[]) (Sc:LN pn [] scope)
    (hbind:∀clo pm cd ctv u,bindArgs (kla_fn "<lambda>" (X.env.qual++"<lambda>") params (.Subscript (.Name pn p1) (.Constant (.int 0) jj p2) p3) scope clo pm cd ctv) ⟨[u],[]⟩=pure [(pn,u)])
    (hpn:(pn == ("__debug__":Str))=false:=by decide)
    (hst:backTo pos (starEach [e] X.env)=(false,eval e X.env)::backTo pos (starEach [] X.env):=by rfl) (hpl:(backTo pos (starEach [e] X.env)).any (·.1)=false:=by rfl) :
    PE X (.Call (.Name "sorted" p) [e] [⟨some "key",.Lambda params (.Subscript (.Name pn p1) (.Constant (.int 0) jj p2) p3) scope lpos,kpos⟩] pos) (RL X.K P (X.env.qual++"<lambda>") ta):=by
 intro pins s σ H Q I h;refine wpAny_Call_Name_kw (As I hg hm (show bootBuiltins "sorted"=some (.builtin "sorted") by decide +kernel) ?_);refine callWith_kw (B6 (ha pos pins s σ H _ I h) λus s1 ⟨vs,H1,I1,r1,q1⟩=>?_) hst hpl;obtain⟨l,ps,kz,rfl,hl,hlen,h64,hT,hk,q⟩:=q1;obtain⟨u,rfl,ru⟩:=r1.one;cases (show u=Value.ref l from ru);show wpAny _ _ (evalAll [(eval (.Lambda params (.Subscript (.Name pn p1) (.Constant (.int 0) jj p2) p3) scope lpos) X.env >>= λv=>(standAt pos >>= λ_=>pure v))]) _ _ _;unfold evalAll;refine wpAny_bind (wpAny_bind ?_);refine IH I1 tb' hcode hd0 hk0 (λy hy hf=>nomatch Sc.all y hy hf) hT λf c' pm ctv s2 H2 I2 sp hT2 hc ff ho=>?_;refine wpAny_bind (wpAny_standAt (wpAny_pure ?_));refine wpAny_bind (wpAny_holding (wpAny_pure (wpAny_pure ?_)));show wpAny _ _ (call (.builtin "sorted") [.ref l] [(Str.ofString "key",.ref f)]) _ _ _;obtain⟨tps,hP,_⟩:=id hT;have hl2:t8 X.K H2 l (ps.map V.ref):=by
  rcases hl with (z | ⟨o,z⟩) | z
  . exact .inl (.inl (sp _ _ (S7 z hP (by simp)) z))
  . exact .inl (.inr ⟨o,sp _ _ (S7 z hP (by simp)) z⟩)
  . exact .inr z
 have hk2:∀(i:Nat) p n,ps[i]? = some p->kz[i]? = some n->∃r,H2 p=some (.tup (.int n::r)):=λi p n e1 e2=>by
  obtain⟨r,z⟩:=hk i p n e1 e2;exact⟨r,sp _ _ (S7 z hP (by simp)) z⟩
 have hL:=Qs I2 hl2;obtain⟨m,hF⟩:=I2.fr;have hN:=NR (g:=X.base) (h:=s2.heap) (L:=X.env.locals);have all:∀{h':Heap} {own:List (Addr × Obj)},Fr X.base X.env.locals h' m->News X.base X.env.locals h' (AJ X.base s2.heap X.env.locals++own)->∀b o,b≠X.env.locals->s2.heap.get? b=some o->h'.get? b=some o:=λ{h' own} F N b o hb e=>by
  cases z:X.base.get? b with
  | some u=>
   have:=I2.bk b u z;rw[e]at this;cases this;exact F.keep b _ z
  | none=>exact(N (b,o) (aP _ (De hb z e))).1
 have neL:∀{b o},H2 b=some o->b≠X.env.locals:=λe z=>by rw[z,I2.free]at e;cases e
 refine ksk_sorted (b:=false) (f:=.ref f) (kz:=kz) (vs:=ps.map Value.ref) hF hN hL (by rw[aj];exact hlen) (by rw[aj];exact h64) (ksk_s1 _ _) (λx=>ksk_l1 _ _) (λx=>ksk_t1 _ _) ?turn ?fin
 case turn=>
  intro i v n hv hn h' tk own F N;rw[aD]at hv;obtain⟨a,ea,rfl⟩:=dg.mp hv;obtain⟨r,hr2⟩:=hk2 i a n ea hn;have kp:=all F N;obtain⟨_,its,rv,⟨o,eo,co⟩,_⟩:=(show I0 X.prog X.w H2 s2.heap a (.tup (.int n::r))from I2.hok a _ hr2);have hits:∃t,its[0]? = some (Value.int n t):=by
   obtain⟨u,e1,t,e2⟩:=rv.get (i:=0) (x:=.int n) rfl;exact⟨t,by rw[e1,e2]⟩
  obtain⟨t,hits⟩:=hits;have hcr:=hc.rec I2.hok;obtain⟨c2,oc,ws,tq,ec,eoc,edc,eq1⟩:=hcr;cases ec;have ncL:c'≠X.env.locals:=by
   obtain⟨oc',vs',t',z,_⟩:=hc;exact neL z
  have lim:h'.NoLimit:=I2.ok.mod.nolimit.keeps F.keep;refine wpAny_mono (Mu (s:={ s2 with heap:=h',toks:=tk }) (n:=n) (t:=t) (its:=its.toArray) (a:=a) (by have:=hr.depth;exact this) lim (kp f _ ff.2.1 ho) ⟨c',oc,ws,tq,rfl,kp c' oc ncL eoc,edc,eq1⟩ Sc (hbind _ _ _ _ _) ⟨o,kp a o (neL hr2) eo,co⟩ (by simpa using hits) hpn) (λu s' hu=>?_) λ_ _ z=>z;obtain⟨h2,tk2,t2,rfl,rfl,kk⟩:=hu;exact⟨h2,tk2,t2,rfl,rfl,⟨F.ns.keeps kk,λb o e=>kk b o (F.keep b o e),F.above⟩,λp hp=>⟨kk _ _ (N p hp).1,(N p hp).2⟩⟩
 case fin=>
  intro D h' tk out cc F N lt out_is;have N':News X.base X.env.locals h' (AJ X.base s2.heap X.env.locals++[]):=λp hp=>N p (ay _ (by simpa using hp));have kp:=all F N';obtain⟨gD,nDL,nDB⟩:=N (D,seqObj "list" out cc) aq;have neD:∀b o,s2.heap.get? b=some o->b≠X.env.locals->b≠D:=λb o e hb z=>by
   cases zz:X.base.get? b with
   | some u=>rw[z,show X.base.get? D=none from nDB]at zz;cases zz
   | none=>exact bo _ (z▸lt (b,o) (De hb zz e))
  have HD:H2 D=none:=by
   cases zz:H2 D with
   | none=>rfl
   | some u=>
    obtain⟨ob,eo⟩:=I2.hok.there zz;exact absurd rfl (neD D ob eo (neL zz))
  obtain⟨prs,pm1,pm2,pm3⟩:=out_is;obtain⟨zs,z1,rfl⟩:=NA pm1;have zl:zs.length=ps.length:=by rw[z1.length_eq,List.length_zip,hlen,Nat.min_self]
  have vz:∀zs:List (Int × Addr),r8 (zs.map λz=>V.ref z.2) ((zs.map λz=>(z.1,Value.ref z.2)).map Prod.snd):=λzs=>by
   induction zs with
   | nil=>exact .nil
   | cons z r ih=>exact .cons rfl ih
  have hok1:U2 X.prog X.w H2 h':=I2.hok.loose λb u hb e=>kp b u (λz=>hb (by rw[z];exact I2.free)) e;have hok2:U2 X.prog X.w (upd H2 D (.lst (zs.map λz=>V.ref z.2))) h':=hok1.track HD ⟨by rw[aj,zl,sizeLine_eq];omega,_,cc,vz zs,by
   rw[<- pm2];exact gD⟩
  have I3:k8 X pins σ (upd H2 D (.lst (zs.map λz=>V.ref z.2))) { s2 with heap:=h',toks:=tk }:=by
   refine I2.step (g':=s2.gens) (d':=s2.drawn) (t':=tk) (ch:=[]) (λ_ z=>nomatch z) (λb o hL _ _ e _=>kp b o hL e) (λb o hL _ _ e _=>⟨o.slots,kp b o hL e⟩) (λb o _ e n=>?_) (λb o _ e=>?_) (λb xs e=>?_) (λb o u e=>?_) (λb tps e=>⟨#[],?_⟩) (λm' hm=>?_) hok2 I2.bare
   . by_cases hb:b=D
     . by_cases hbL:b=X.env.locals
       . exact absurd (hb.symm.trans hbL) nDL
       . exact absurd hb (neD b o e hbL)
     . rw[j6 hb];exact n
   . by_cases hb:b=X.env.locals
     . obtain⟨o',_,_,e',_⟩:=F.ns;exact⟨o',by rw[hb];exact e'⟩
     . exact⟨o,kp b o hb e⟩
   . rw[j6 (j0 e HD)];exact e
   . rw[j6 (j0 e HD)];exact e
   . rw[j6 (j0 e HD)];simpa using e
   . have:m'=m:=by
      obtain⟨o1,es1,ep1,a1,a2,_,a4⟩:=hm;obtain⟨o2,es2,ep2,b1,b2,_,b4⟩:=hF.ns;rw[a1]at b1;cases b1;rw[a2]at b2;cases b2;funext y;rw[<- a4 y,<- b4 y]
     rw[this];exact F.ns
  refine⟨.ref D,_,I3,rfl,q _ D zs (λb o hb e=>?_) ?_ c5 z1 ?_⟩
  . have e2:=sp b o hb e;rw[j6 (j0 e2 HD)];exact e2
  . obtain⟨tps2,hP2,ht2,hc2⟩:=hT2;refine⟨tps2,(by rw[j6 (j0 hP2 HD)];exact hP2),ht2,?_⟩;intro lp v ev;obtain⟨c3,z,oc3,vs3,t3,y1,y2⟩:=hc2 lp v ev;exact⟨c3,z,oc3,vs3,t3,(by rw[j6 (j0 y1 HD)];exact y1),y2⟩
  . have:=bQ.mp pm3;exact this.imp λh=>by simpa using h
end
end L2
namespace L2
open PySem PySem.Spec PyProof.Rows PySem.Builtin PySem.Builtin.Str
section
variable{X:Cx}
theorem Hu:∀{ls:List Str} {its:List Value},r8 (ls.map V.str) its->∃l:List (Str × Tok),its=strValues l/\l.map (·.1)=ls
 | [],_,.nil=>⟨[],rfl,rfl⟩
 | x::ls,_,.cons r rs=>by
  obtain⟨t,rfl⟩:=r;obtain⟨l,rfl,e⟩:=Hu rs;exact⟨(x,t)::l,rfl,by rw[aL,e]⟩
def Ri(K:aa):V->List V->Hp->VK->Prop:=λx xs H Q=>∃z a ls,x=.str z/\xs=[.ref a]/\t8 K H a (ls.map V.str)/\JoinOk z ls=true/\Q (.str (Txt.join z ls)) H
def Qp:MtR X "str.join" (Ri X.K):=by
 intro pins s σ H x xs v us Q I rx rs h;obtain⟨z,a,ls,rfl,rfl,hq,ok,q⟩:=h;obtain⟨t,rfl⟩:=rx;obtain⟨u,rfl,ru⟩:=rs.one;cases (show u=Value.ref a from ru);obtain⟨its,rv,p,hz⟩:=I.list hq;obtain⟨l,rfl,e⟩:=Hu rv;exact PySem.SC.join (l:=l) p.isList e ok λt' k=>⟨.str _,H,I.tok _,⟨_,rfl⟩,q⟩
end
end L2
namespace HT
open PySem PyProof.Rows
section
open PySem.SeqAt
open PySem.AutoSeq1 (wpAny_loadPart')
open PySem.MeetsSeq PySem.MeetsSeq2 PySem.MeetsSeq3
end
end HT
namespace L2
open PySem PySem.Spec PyProof.Rows PySem.SeqAt
section
variable{X:Cx}
end
section
variable{X:Cx}
end
end L2
namespace L2
open PySem PySem.Spec PyProof.Rows
end L2
namespace HT
open PySem PySem.Spec PyProof.Rows L2
section
variable{prog:Program}{w:World}{A:Around}{E:Value->Shared->Prop}{s:Shared}
end
end HT
namespace L2
open PySem PySem.Spec PyProof.Rows
section
variable{prog:Program}{w:World}{A:Around}{E:Value->Shared->Prop}{s:Shared}
end
section
variable{prog:Program}{w:World}{A:Around}{E:Value->Shared->Prop}{s:Shared}
end
end L2
namespace L2
open PySem PySem.W PyProof.Rows PySem.AutoSeq1
section
variable{X:Cx}
end
end L2
set_option maxHeartbeats 0
def PySem.W.Fast.tw5287145407530710777:PySem.Program:=PySem.Challenge.pw_weighwalk_k52_the_first_word_that_parts
local macro_rules | `(tactic| trivial)=>`(tactic| ((try rw[Fast.te15667345088766844465]);(try rw[Fast.te14082659384304107361]);(try rw[Fast.te14374325043358763698]);(try rw[Fast.te10110043849684766642]);(try rw[Fast.te14364793385576792824]);(try rw[Fast.te11892475500146522536]);(try rw[Fast.te4187177175401517315]);(try rw[Fast.te5923862056798008813]);(try rw[Fast.te8920871248978507458]);kernel_rfl))
def PySem.W.Fast.te5287145407530710777:PySem.Challenge.pw_weighwalk_k52_the_first_word_that_parts=PySem.W.Fast.tw5287145407530710777:=rfl
namespace H52
open PySem PySem.W
noncomputable section
abbrev q0:=SL.s658472552662922059x5
abbrev q1:=SL.s14018661285674007319x4
abbrev q2:=SL.s6070975301684473832x10
abbrev q3:=SL.s11030030927630378310x26
abbrev q4:=SL.s10062305145149207511x16
abbrev q5:=SL.s17162191345867700912x4
abbrev q6:=SL.s5946037652744460706x9
abbrev q7:=SL.s4278001404047624695x13
abbrev q8:=SL.s2742458400755230247x6
abbrev q9:=SL.s4209523147560561109x18
abbrev q10:=SL.s14755015743595814543x17
abbrev q11:=SL.s4290257624100764138x5
abbrev Jj:=SL.s4860613602091757760x24
abbrev q13:=SL.s11443829558043349243x14
def i(n:Int):Value:=.int n 0
def r(n:Addr):Value:=.ref n
def tu(a:Array Value)(n:Nat):Obj:=⟨.type SL.s2766695959194262286x5,none,.seq a n,#[]⟩
def co(a:Array Value):Obj:=⟨.type SL.s5856160107412720595x4,none,.fields a,#[]⟩
def fo(n q:Str)(s:Stmt)(m c:Value):Obj:=⟨.type SL.s7174869446012820540x8,none,.func ⟨n,q,L2.C0 s,.stmts (L2.B3 s),L2.b9 s,3,[],.none,.none,.none,m,none,c,.none,0⟩,#[]⟩
def f0(n q:Str)(s:Stmt):Obj:=⟨.none,none,.func ⟨n,q,L2.C0 s,.stmts (L2.B3 s),L2.b9 s,0,[],.none,.none,.none,.none,none,.none,.none,0⟩,#[]⟩
abbrev nd:=@BT.node
abbrev nl:=BT.nil
abbrev lf(x:Obj):BT:=.node x .nil .nil
abbrev kh:=@PySem.PyData.keyHash
abbrev pW:=PySem.Challenge.pw_weighwalk_k52_the_first_word_that_parts
def c9(i:Nat):Stmt:=pW.main.body.getD i (.Pass ⟨0,0,0,0⟩)
def dN:Nat->Nat->List Nat
 | 0,_=>[]
 | f+1,n=>match n.beq 0 with
  | true=>[]
  | false=>n % 128::dN f (n / 128)
def sn(n:Nat):Str:=⟨⟨dN 99 n⟩⟩
def s0:=sn 35350842279982780
def s1:=sn 2357460733860917196365705647
def s2:=sn 53901867955744735
def s3:=sn 53901559791857631
def s4:=sn 3689366717489091075983869054117489799088057754107187701768697650249741375993306951991554284
def s5:=sn 421105403244511
def s6:=sn 113039760542812094607327
def s7:=sn 883130438894441148383
def s8:=sn 53901488956436447
def s9:=sn 30344151541145318921183520387039
def s10:=sn 14469218985635115783729119
def Uh:=sn 53901559540068319
def Dc:=sn 883122557733039566815
def Gn:=sn 29219126239
def Ug:=sn 1059527485210603713239
def Rg:=sn 3465723181006
def s16:=sn 7268148298414553431
def s17:=sn 65763158886053838
def s18:=sn 3499278153557
def s19:=sn 4018155108302
def s20:=sn 509789213652974
def s21:=sn 8637845807904290036
def s22:=sn 8413708677377898467
def Rf:=sn 948836330527398770659
def s24:=sn 1914852
def s25:=sn 4184036210674
def s26:=sn 7988215201394064610
def s27:=sn 57336327856192738
def s28:=sn 31100499954
def s29:=sn 601770825760040032270655173063963374
def s30:=sn 3497399218914
def s31:=sn 938825954143424559856
def s32:=sn 930176747112159081198
def s33:=sn 456806758904556
def RU:=sn 67483170374514288
def PB:=sn 443305791420003
def s36:=sn 236548843
def s37:=sn 8354106484738241259
def s38:=sn 57912370749060343
def s39:=sn 487628251738597
def s40:=sn 1067958212234468489574
def s41:=sn 67036844960590972611422421793785066743
def s42:=sn 8343920028383967841
def s43:=sn 56743316885909742
def s44:=sn 243069676
def Rc:=sn 456806792737008
def s46:=sn 528795963481232634269054977774975335
def Rb:=sn 57336327837528311
def Ue:=sn 27338110561
def s49:=sn 57336776418130409
def s50:=sn 505222325449956
def s51:=sn 62416317159340390
def s52:=sn 57340970975885801
def s53:=sn 367430873507014
def s54:=sn 529798632943928514736
def s55:=sn 12624828682026729331812301
def s56:=sn 172336251032527473007704238407
def s57:=sn 1021914557058473523689
def s58:=sn 939405744834617045746
def s59:=sn 8426683116950221550
def RT:=sn 211530955
def s61:=sn 27071706310
def s62:=sn 8349039631521052998
def s63:=sn 65187494496105170
def s64:=sn 8426682910831572575
def s65:=sn 939974376926731597407
def s66:=sn 17359306920133061789644383
def s67:=sn 67482964224144991
def OS:=sn 8352967321978435167
def s69:=sn 1068027428587418711647
def s70:=sn 452440427624031
def s71:=sn 8423349363374847583
def s72:=sn 7268149395797341791
def s73:=sn 137915340185300882716255
def s74:=sn 15393529555129685134308959
def s75:=sn 65793839485974111
def s76:=sn 8127822628061214303
def s77:=sn 17513836086728843905758815
def Ud:=sn 957996620932714100319
def s79:=sn 15231770487597433125107295
def s80:=sn 63014823846770271
def s81:=sn 1078262421209535247967
def s82:=sn 1077463595637947266655
def s83:=sn 1962220
def s84:=sn 107
def FB:=sn 883123151916293124063
def Hr:=sn 4701359296062669796661670190936823
def OR:=sn 14469089781839015725264863
def FA:=sn 30344074158132277796980072755167
def Fz:=sn 133454983862861831018029446609853876543483871
def s90:=sn 113039831549272488013791
def s91:=sn 4697231691935424025109761959293687
def Pz:=sn 211530987
def Uc:=sn 1964018
def s94:=sn 3809077835747
def s95:=sn 29196367860
def Nr:=sn 120
def UL:=sn 121
def s98:=sn 448010674303213
def s99:=sn 76959527405706993652690204727243862775
def EN:=sn 1668975
def Si:=sn 30815173231
def s102:=sn 69030685704087611582940400770510123767
def s103:=sn 36719194879237978350877717197559
def Sh:=sn 28162209015
def PL:=sn 27321202288
def PK:=sn 245117675
def Sg:=sn 245166834
def Se:=sn 243136498
def EM:=sn 211498996
def s110:=sn 31381566694
def s111:=sn 29779294567
def Vv:=sn 245166316
def s113:=sn 28160129382
def s114:=sn 240808176
def s115:=sn 37048485259150746188863889896183
def s116:=sn 32275144254994814856296232809207
def s117:=sn 220018658
def Sd:=sn 27881272436
def s119:=sn 4700393738964033752103621815333623
def s120:=sn 65811471622830439
def Vu:=sn 244953836
def Vt:=sn 1849332
def Vs:=sn 3775253002210
def s124:=sn 3463326495859
def Vr:=sn 3944329476846
def s126:=sn 3947051413734
def s127:=sn 36694686467767925459708255302391
def PJ:=sn 245248756
def Vq:=sn 53902072520191967
def PH:=sn 56773483100109289
def PF:=sn 31096108272
def Q8:=sn 215692019
def Vp:=sn 249692419271657566055171716294
def Vo:=sn 136762130496189453923526
def HX:=sn 4013864876014
def HW:=sn 243103344
def HV:=sn 31083689204
def HU:=sn 31117260013
def HS:=sn 448184882935657
def HR:=sn 8417684337481742825
def HQ:=sn 29779293299
def HP:=sn 211317490
def Vn:=sn 249693942900369443720068102470
def Vm:=sn 4738735239314492059302342734412102
def Vl:=sn 1970378332810994856972810566
def Vk:=sn 287005771327406520212613790022
def Vj:=sn 36697143015659284620394997774662
def Vi:=sn 36736776431465389278236685924678
def Vh:=sn 529123317326050987060295870736529734
def Vg:=sn 9937847594675139374987317671213250672966
def Vf:=sn 35157184140118180154008019695942
def s152:=sn 3978691179760
def Ve:=sn 249479658437659509264028825926
def PD:=sn 53902074141372383
def RZ:=sn 27342305648
def Vd:=sn 497158883364006940381786093148500690
def Vc:=sn 1950733928909096901437878994
def Vb:=sn 37021369057144469173921927459538
def Va:=sn 15393580725046519694947026
def UZ:=sn 2242232588495324061535892178
def UY:=sn 286696429809838121719210767058
def UX:=sn 287006065870823314358598955730
def s163:=sn 513606627883376
def s164:=sn 3501140572403
def UW:=sn 4133775916609773336369183864976082
def UV:=sn 77639434333399526367088379928728367826
def UU:=sn 274665501094673243075562500818
def UT:=sn 1949059831544175538500072146
def Nt:=sn 32292397437976189666475158042207
def US:=sn 8781323754941216351
def UR:=sn 930329895887808525919
def UQ:=sn 137989276334399845594719
def s173:=sn 7263065528908412511
def s174:=sn 7843466381129971295
def RY:=sn 57345570095265375
def RX:=sn 1058801290007509759583
def s177:=sn 63542589428102751
def s178:=sn 129716705428967878325855
def s179:=sn 535556634736223
def Gm:=sn 252284354985268781312971929183
def RW:=sn 4148921136735
def RV:=sn 4183280875103
def s183:=sn 135526128861644626359903
def s184:=sn 939474468468921235039
def UP:=sn 67483170382575199
def s186:=sn 130878917859640350373471
def s187:=sn 1003179560991236585055
def UO:=sn 529078639625915187390690262777362015
def UN:=sn 929389782522295514719
def s190:=sn 8423912107169838687
def s191:=sn 529078639623794880859091104005912159
def s192:=sn 68547669436954207
def s193:=sn 1022192038397693425247
def s194:=sn 1003468873011952121439
def s195:=sn 3702244537951
def s196:=sn 119081799953273434175071
def s197:=sn 7270427996206954079
def s198:=sn 7340207024195008095
def s199:=sn 513532042442335
def s200:=sn 135527429768549519357535
def UM:=sn 57375978463721055
def s202:=sn 252284354984113581345394423391
def x0:Obj:=⟨.none,none,.fields #[],#[]⟩
def e0:Obj:=tu #[] 0
def dI(P:Params)(l:List (Str × Nat × Value))(n:Nat):Obj:=⟨.type q1,none,.dict ⟨l.map λx=>⟨kh P x.1,.str x.1 x.2.1,x.2.2⟩⟩ n,#[]⟩
def tV:List Nat->List Value
 | a::b::c::l=>i a::i b::r c::tV l
 | _=>[]
def tB(l:List Nat):Obj:=⟨.none,none,.fields ⟨tV l⟩,#[]⟩
def cC(n:Str)(t l a:Nat):Obj:=co #[.str n t,.str n (t+1),.str s1 (t+2),i l,i 0,i 0,i 0,i 0,r a,.bool false,i 181,r (a+1),.none,.none,.none,.none,i (t+3),i l,.str s1 (t+4)]
def pL(a b:Nat)(s:Value):Obj:=⟨.type q0,none,.plain,#[some (r a),some (r 3),some (r b),none,some s,none,some (r 0)]⟩
def cL(n:Str)(b m:List Value)(d:Nat)(s:List Value)(a t u:Nat)(z:String):Obj:=⟨.type q5,none,.cls ⟨n,b,m,d,n,true,[],s,false,none,false⟩,#[some (r a),none,some (.str n t),some (.str n u),some (.builtin z),some (.bool true)]⟩
def x3(a:Nat):Obj:=⟨.type q11,none,.fields #[r a,r a,r a],#[]⟩
def x2(a:Nat):Obj:=⟨.type q3,none,.fields #[.builtin Jj,r a],#[]⟩
def x1:Obj:=⟨.type q3,none,.fields #[.builtin q4,.type q5],#[]⟩
def m0:Value:=.str s2 164
def m1:Value:=.str s91 294
def m2:Value:=.str s99 350
def m3:Value:=.str s102 359
def m4:Value:=.str s103 381
def m5:Value:=.str s115 459
def m6:Value:=.str s116 493
def m7:Value:=.str s119 528
def m8:Value:=.str s127 565
def m9:Value:=.str s4 850
def vr:List Str->Nat->List Value
 | [],_=>[]
 | x::l,t=>.str x t::vr l (t+1)
def cO(n q:Str)(t l k a v:Nat):Obj:=co #[.str n t,.str q (t+1),.str s1 (t+2),i l,i k,i 0,i 0,i 3,r a,.bool true,i 181,r (a+1),.none,r (a+2),r (a+3),r (a+4),i (t+3+v),i l,.str s1 (t+4+v)]
def cN(n:Str)(t l k a v:Nat):Obj:=cO n n t l k a v
def fN(n:Str)(j:Nat)(m:Value)(c:Nat):Obj:=fo n n (c9 j) m (r c)
def f1:Obj->Obj
 | ⟨_,_,.func ⟨n,q,a,b,s,_,_,_,_,_,_,_,_,_,_⟩,_⟩=>⟨.none,none,.func ⟨n,q,a,b,s,0,[],.none,.none,.none,.none,none,.none,.none,0⟩,#[]⟩
 | o=>o
def D(t:Nat)(vs:List Str)(c f:Obj)(l:List Obj):List Obj:=e0::x0::tu ⟨vr vs t⟩ 0::e0::f1 f::c::f::l
def oL:List Obj->Nat->BT->BT
 | [],_,t=>t
 | o::l,n,t=>oL l (n+1) (t.ins n o)
def eO(n q:Str)(t l k a:Nat):Obj:=co #[.str n t,.str q (t+1),.str s1 (t+2),i l,i k,i 0,i 0,i 3,r a,.bool true,i 181,r (a+1),.none,.none,.none,r (a+2),i (t+3),i l,.str s1 (t+4)]
def eN(n:Str)(t l k a:Nat):Obj:=eO n n t l k a
def E(c f:Obj)(l:List Obj):List Obj:=e0::x0::f1 f::c::f::l
def SJ:Obj:=e0
def YO:Obj:=x0
def SI:Obj:=cC s0 182 1 11
def SH:Obj:=pL 13 3 m0
def o3(P:Params):Obj:=dI P [(s3,165,m9),(s5,166,.none),(s6,167,.none),(s7,168,.builtin SL.s7097527257260152453x26),(s8,169,.none),(s9,170,r 6),(s10,171,r 4),(Uh,173,.str s1 172),(Dc,174,.none),(Gn,193,r 21),(Ug,213,r 31),(Rg,229,r 44),(s16,245,r 56),(s17,261,r 68),(s18,277,r 80),(s19,293,r 92),(s20,301,r 99),(s21,307,r 104),(s22,313,r 109),(Rf,319,r 114),(s24,331,r 121),(s25,337,r 126),(s26,343,r 131),(s27,349,r 136),(s28,358,r 143),(s29,368,r 150),(s30,374,r 155),(s31,380,r 160),(s32,389,r 167),(s33,399,r 174),(RU,405,r 179),(PB,417,r 186),(s36,429,r 193),(s37,440,r 200),(s38,447,r 207),(s39,458,r 214),(s40,474,r 221),(s41,480,r 226),(s42,486,r 231),(s43,492,r 236),(s44,500,r 241),(Rc,506,r 246),(s46,515,r 253),(Rb,521,r 258),(Ue,527,r 263),(s49,536,r 270),(s50,547,r 277),(s51,556,r 284),(s52,564,r 291),(s53,568,.str s54 567),(s55,570,.int 30 569),(s56,572,.int 1000000 571),(s57,578,r 296),(s58,585,r 303),(s59,592,r 310),(RT,612,r 320),(s61,642,r 348),(s62,740,r 430),(s63,849,r 519),(s64,860,r 528),(s65,869,r 535),(s66,877,r 542),(s67,886,r 549),(OS,895,r 556),(s69,904,r 563),(s70,912,r 570),(s71,920,r 577),(s72,927,r 584),(s73,935,r 591),(s74,941,r 596),(s75,953,r 603),(s76,959,r 608),(s77,965,r 613),(Ud,971,r 618),(s79,977,r 623),(s80,992,r 630),(s81,1009,r 637),(s82,1017,r 644),(s83,1032,r 651)] 79
def o20:=cN Gn 187 1 1 15 1
def o21:=fN Gn 0 m0 20
def o30(P:Params):Obj:=dI P [(FB,203,.str Hr 194),(FA,207,.int 5 206),(Fz,208,r 29),(s90,210,r 32),(s5,211,.none)] 3
def o31:Obj:=cL Ug [.type q2] [r 31,.type q2,.type q6,.type q7,.type q8] 30 [r 44,r 56,r 68,r 80,r 92] 22 196 204 q9
def o43(P:Params):Obj:=dI P [(FB,221,.str Hr 194),(FA,225,.int 7 224),(Fz,226,r 42),(s5,227,.none)] 2
def o44:Obj:=cL Rg [r 31] [r 44,r 31,.type q2,.type q6,.type q7,.type q8] 43 [] 35 214 222 q9
def o55(P:Params):Obj:=dI P [(FB,237,.str Hr 194),(FA,241,.int 9 240),(Fz,242,r 54),(s5,243,.none)] 2
def o56:Obj:=cL s16 [r 31] [r 56,r 31,.type q2,.type q6,.type q7,.type q8] 55 [] 47 230 238 q9
def o67(P:Params):Obj:=dI P [(FB,253,.str Hr 194),(FA,257,.int 11 256),(Fz,258,r 66),(s5,259,.none)] 2
def o68:Obj:=cL s17 [r 31] [r 68,r 31,.type q2,.type q6,.type q7,.type q8] 67 [] 59 246 254 q9
def o79(P:Params):Obj:=dI P [(FB,269,.str Hr 194),(FA,273,.int 13 272),(Fz,274,r 78),(s5,275,.none)] 2
def o80:Obj:=cL s18 [r 31] [r 80,r 31,.type q2,.type q6,.type q7,.type q8] 79 [] 71 262 270 q9
def o91(P:Params):Obj:=dI P [(FB,285,.str Hr 194),(FA,289,.int 15 288),(Fz,290,r 90),(s5,291,.none)] 2
def o92:Obj:=cL s19 [r 31] [r 92,r 31,.type q2,.type q6,.type q7,.type q8] 91 [] 83 278 286 q9
def o98:=eN s20 296 18 2 95
def o99:=fN s20 9 m1 98
def YZ:=eN s21 302 20 3 100
def YY:=fN s21 10 m1 103
def YX:=eN s22 308 22 2 105
def YW:=fN s22 11 m1 108
def YV:=eN Rf 314 24 1 110
def YU:=fN Rf 12 m1 113
def YT:=cN s24 320 28 3 115 6
def YS:=fN s24 13 m1 120
def YR:=eN s25 332 33 3 122
def YQ:=fN s25 14 m1 125
def YN:=eN s26 338 35 3 127
def YM:=fN s26 15 m1 130
def YL:=eN s27 344 37 3 132
def YK:=fN s27 16 m1 135
def YJ:=cN s28 352 40 1 137 1
def YI:=fN s28 18 m2 142
def YH:=cN s29 361 43 2 144 2
def YG:=fN s29 20 m3 149
def YF:=eN s30 369 46 4 151
def YE:=fN s30 21 m3 154
def YD:=eN s31 375 50 3 156
def YC:=fN s31 22 m3 159
def YB:=cN s32 383 55 1 161 1
def YA:=fN s32 24 m4 166
def Yz:=cN s33 390 58 3 168 4
def Yy:=fN s33 25 m4 173
def Yx:=eN RU 400 63 3 175
def Yw:=fN RU 26 m4 178
def Yv:=cN PB 406 65 3 180 6
def Yu:=fN PB 27 m4 185
def Yt:=cN s36 418 71 4 187 6
def Ys:=fN s36 28 m4 192
def Yr:=cN s37 430 80 3 194 5
def Yq:=fN s37 29 m4 199
def Yp:=cN s38 441 85 1 201 1
def Yo:=fN s38 30 m4 206
def Yn:=cN s39 448 87 2 208 5
def Ym:=fN s39 31 m4 213
def Yl:=cN s40 461 93 3 215 8
def Yk:=fN s40 33 m5 220
def Yj:=eN s41 475 105 3 222
def Yi:=fN s41 34 m5 225
def Yh:=eN s42 481 110 2 227
def Yg:=fN s42 35 m5 230
def Ye:=eN s43 487 112 3 232
def Yd:=fN s43 36 m5 235
def Yc:=eN s44 495 120 3 237
def Yb:=fN s44 38 m6 240
def XZ:=eN Rc 501 123 3 242
def XY:=fN Rc 39 m6 245
def XX:=cN s46 507 125 3 247 3
def XW:=fN s46 40 m6 252
def XU:=eN Rb 516 129 3 254
def XS:=fN Rb 41 m6 257
def XR:=eN Ue 522 134 3 259
def XQ:=fN Ue 42 m6 262
def XO:=cN s49 530 144 1 264 1
def XN:=fN s49 44 m7 269
def XM:=cN s50 537 146 2 271 5
def XJ:=fN s50 45 m7 276
def XI:=cN s51 548 154 2 278 3
def XH:=fN s51 46 m7 283
def XG:=cN s52 557 163 1 285 2
def XF:=fN s52 47 m7 290
def XE:=eN s57 573 176 1 292
def XD:=fN s57 52 m8 295
def XC:=cN s58 579 185 1 297 1
def XA:=fN s58 53 m8 302
def Xz:=cN s59 586 189 1 304 1
def Xy:=fN s59 54 m8 309
def Xx(P:Params):Obj:=dI P [(FB,600,m8),(FA,604,.int 192 603),(Fz,605,r 318),(Vq,607,r 321),(s90,609,r 322),(s5,610,.none)] 4
def Xw:Obj:=⟨.type q5,none,.cls ⟨RT,[.type q8],[r 320,.type q8],319,RT,true,[],[r 348],false,none,false⟩,#[none,none,some (.str RT 593),some (.str RT 601),some (.builtin q13),some (.bool true)]⟩
def Xv:=cO PH Vp 625 196 1 332 1
def Xu:=fo PH Vp (L2.o6 (c9 56) 0) m8 (r 337)
def Xs:=cO PF Vo 632 199 1 339 1
def Xr:=fo PF Vo (L2.o6 (c9 56) 1) m8 (r 344)
def Xq(P:Params):Obj:=dI P [(FB,620,m8),(FA,624,.int 194 623),(PH,631,r 338),(PF,638,r 345),(Fz,639,r 346),(s5,640,.none)] 2
def Xp:Obj:=cL s61 [r 320] [r 348,r 320,.type q8] 347 [r 430,r 519] 325 613 621 q13
def Xo:=cO EM Vn 655 203 1 358 1
def Xn:=fo EM Vn (L2.o6 (c9 57) 0) m8 (r 363)
def Xm:=cO HX Vm 662 206 1 365 1
def Xl:=fo HX Vm (L2.o6 (c9 57) 1) m8 (r 370)
def Xk:=cO EN Vl 669 209 1 372 1
def Xj:=fo EN Vl (L2.o6 (c9 57) 2) m8 (r 377)
def Xi:=cO HW Vk 676 212 3 379 3
def Xh:=fo HW Vk (L2.o6 (c9 57) 3) m8 (r 384)
def Xg:=cO HV Vj 685 215 3 386 3
def Xf:=fo HV Vj (L2.o6 (c9 57) 4) m8 (r 391)
def Xe:=cO HU Vi 694 218 2 393 2
def Xd:=fo HU Vi (L2.o6 (c9 57) 5) m8 (r 398)
def Xc:=cO HS Vh 702 221 2 400 2
def Xb:=fo HS Vh (L2.o6 (c9 57) 6) m8 (r 405)
def Xa:=cO HR Vg 710 224 2 407 2
def WZ:=fo HR Vg (L2.o6 (c9 57) 7) m8 (r 412)
def WY:=cO HQ Vf 718 231 2 414 2
def WX:=fo HQ Vf (L2.o6 (c9 57) 8) m8 (r 419)
def WW:=cO HP Ve 726 234 2 421 5
def WV:=fo HP Ve (L2.o6 (c9 57) 9) m8 (r 426)
def WU(P:Params):Obj:=dI P [(FB,650,m8),(FA,654,.int 201 653),(EM,661,r 364),(HX,668,r 371),(EN,675,r 378),(HW,684,r 385),(HV,693,r 392),(HU,701,r 399),(HS,709,r 406),(HR,717,r 413),(HQ,725,r 420),(HP,736,r 427),(Fz,737,r 428),(s5,738,.none)] 2
def WT:Obj:=cL s62 [r 348] [r 430,r 348,r 320,.type q8] 429 [] 351 643 651 q13
def WS:=cO PD Vd 753 246 2 440 2
def WR:=fo PD Vd (L2.o6 (c9 58) 0) m8 (r 445)
def WQ:=cO EM Vc 761 251 1 447 2
def WO:=fo EM Vc (L2.o6 (c9 58) 1) m8 (r 452)
def WN:=cO HX Vb 769 255 1 454 1
def WM:=fo HX Vb (L2.o6 (c9 58) 2) m8 (r 459)
def WL:=cO EN Va 776 258 1 461 1
def WK:=fo EN Va (L2.o6 (c9 58) 3) m8 (r 466)
def WJ:=cO HW UZ 783 261 3 468 3
def WI:=fo HW UZ (L2.o6 (c9 58) 4) m8 (r 473)
def WH:=cO HV UY 792 264 3 475 3
def WG:=fo HV UY (L2.o6 (c9 58) 5) m8 (r 480)
def WD:=cO HU UX 801 267 2 482 2
def WC:=fo HU UX (L2.o6 (c9 58) 6) m8 (r 487)
def WB:=cO HS UW 809 270 2 489 5
def WA:=fo HS UW (L2.o6 (c9 58) 7) m8 (r 494)
def Wz:=cO HR UV 820 283 2 496 2
def Wy:=fo HR UV (L2.o6 (c9 58) 8) m8 (r 501)
def Wx:=cO HQ UU 828 286 2 503 2
def Ww:=fo HQ UU (L2.o6 (c9 58) 9) m8 (r 508)
def Wv:=cO HP UT 836 289 2 510 3
def Wu:=fo HP UT (L2.o6 (c9 58) 10) m8 (r 515)
def Wt(P:Params):Obj:=dI P [(FB,748,m8),(FA,752,.int 244 751),(PD,760,r 446),(EM,768,r 453),(HX,775,r 460),(EN,782,r 467),(HW,791,r 474),(HV,800,r 481),(HU,808,r 488),(HS,819,r 495),(HR,827,r 502),(HQ,835,r 509),(HP,844,r 516),(Fz,846,r 517),(s5,847,.none)] 2
def Ws:Obj:=cL s63 [r 348] [r 519,r 348,r 320,.type q8] 518 [] 433 741 749 q13
def Wr:=cN s64 852 295 2 522 3
def Wq:=fN s64 60 m9 527
def Wp:=cN s65 861 304 1 529 3
def Wo:=fN s65 61 m9 534
def Wn:=cN s66 870 311 2 536 2
def Wm:=fN s66 62 m9 541
def Wl:=cN s67 878 315 2 543 3
def Wk:=fN s67 63 m9 548
def Wj:=cN OS 887 318 3 550 3
def Wi:=fN OS 64 m9 555
def Wh:=cN s69 896 322 3 557 3
def Wg:=fN s69 65 m9 562
def Wf:=cN s70 905 326 2 564 2
def We:=fN s70 66 m9 569
def Wd:=cN s71 913 330 1 571 2
def Wc:=fN s71 67 m9 576
def Wb:=cN s72 921 333 1 578 1
def Wa:=fN s72 68 m9 583
def VZ:=cN s73 928 337 2 585 2
def VY:=fN s73 69 m9 590
def VX:=eN s74 936 343 4 592
def VW:=fN s74 70 m9 595
def VV:=cN s75 942 352 3 597 6
def VU:=fN s75 71 m9 602
def VT:=eN s76 954 357 3 604
def VS:=fN s76 72 m9 607
def VR:=eN s77 960 359 1 609
def VQ:=fN s77 73 m9 612
def VP:=eN Ud 966 364 4 614
def VO:=fN Ud 74 m9 617
def VN:=eN s79 972 382 3 619
def VM:=fN s79 75 m9 622
def VL:=cN s80 978 400 4 624 9
def VJ:=fN s80 76 m9 629
def VI:=cN s81 993 418 3 631 11
def VH:=fN s81 77 m9 636
def VG:=cN s82 1010 429 2 638 2
def VF:=fN s82 78 m9 643
def VE:=cN s83 1018 435 1 645 9
def VD:=fN s83 79 m9 650
def TF:Env:={ scope:=pW.main.scope,locals:=mainNs,globals:=mainNs,cells:=[],code:=(r 13),frame:=some 14 }
def cT:Code:=.body (behindTheImports pW) TF
def qP:Pos:=⟨0,0,0,0⟩
def Ha(P:Params):Heap:=⟨⟨[boot_o_0 P,boot_o_1 P,boot_o_2 P,boot_o_3 P,boot_o_4 P,boot_o_5 P,boot_o_6 P,boot_o_7 P,boot_o_8 P,boot_o_9 P,boot_o_10 P,SJ,YO,SI,SH]⟩,PySem.Life.mk [] [] [] 0 [] [] false #[] [] 0 false false false 0 [2000,10,10] false 0 true [] [] 0 false⟩
def Sa(w:World)(os:OsState):Shared:=⟨Ha w.params,⟨[]⟩,PySem.Drawn.mk 0 0 0 0,187,os⟩
def Tb(P:Params):BT:=(nd (boot_o_0 P) (nd (boot_o_1 P) (nd (boot_o_3 P) (lf (boot_o_7 P)) (lf SJ)) (nd (boot_o_5 P) (lf (boot_o_9 P)) (lf SI))) (nd (boot_o_2 P) (nd (boot_o_4 P) (lf (boot_o_8 P)) (lf YO)) (nd (boot_o_6 P) (lf (boot_o_10 P)) (lf SH))))
def Sb(w:World)(os:OsState):SharedT:=⟨Tb w.params,15,PySem.Life.mk [] [] [] 0 [] [] false #[] [] 0 false false false 0 [2000,10,10] false 0 true [] [] 0 false,⟨[]⟩,PySem.Drawn.mk 0 0 0 0,187,os⟩
def oA(P:Params):List Obj:=boot_o_0 P::boot_o_1 P::boot_o_2 P::o3 P::boot_o_4 P::boot_o_5 P::boot_o_6 P::boot_o_7 P::boot_o_8 P::boot_o_9 P::boot_o_10 P::SJ::tB [1,0,20,5,0,27,7,0,40,9,0,52,11,0,64,13,0,76,15,0,88,18,0,98,20,0,103,22,0,108,24,0,113,28,0,120,33,0,125,35,0,130,37,0,135,40,0,142,43,0,149,46,0,154,50,0,159,55,0,166,58,0,173,63,0,178,65,0,185,71,0,192,80,0,199,85,0,206,87,0,213,93,0,220,105,0,225,110,0,230,112,0,235,120,0,240,123,0,245,125,0,252,129,0,257,134,0,262,144,0,269,146,0,276,154,0,283,163,0,290,176,0,295,185,0,302,189,0,309,192,0,316,194,0,330,201,0,356,244,0,438,295,0,527,304,0,534,311,0,541,315,0,548,318,0,555,322,0,562,326,0,569,330,0,576,333,0,583,337,0,590,343,0,595,352,0,602,357,0,607,359,0,612,364,0,617,382,0,622,400,0,629,418,0,636,429,0,643,435,0,650]::SI::SH::D 190 [s84] o20 o21 (tu #[.type q2] 0::x1::dI P [(FB,203,.str Hr 194),(OR,205,.str Ug 204),(FA,207,.int 5 206),(Fz,208,r 29)] 4::e0::x0::cC Ug 198 5 25::pL 27 24 (.str Hr 194)::e0::o30 P::o31::⟨.type q10,none,.fields #[.str s90 209,r 31,.builtin SL.s10220274742760427390x26,.none],#[]⟩::x3 31::x2 31::tu #[r 31] 0::x1::dI P [(FB,221,.str Hr 194),(OR,223,.str Rg 222),(FA,225,.int 7 224),(Fz,226,r 42)] 4::e0::x0::cC Rg 216 7 38::pL 40 37 (.str Hr 194)::e0::o43 P::o44::x3 44::x2 44::tu #[r 31] 0::x1::dI P [(FB,237,.str Hr 194),(OR,239,.str s16 238),(FA,241,.int 9 240),(Fz,242,r 54)] 4::e0::x0::cC s16 232 9 50::pL 52 49 (.str Hr 194)::e0::o55 P::o56::x3 56::x2 56::tu #[r 31] 0::x1::dI P [(FB,253,.str Hr 194),(OR,255,.str s17 254),(FA,257,.int 11 256),(Fz,258,r 66)] 4::e0::x0::cC s17 248 11 62::pL 64 61 (.str Hr 194)::e0::o67 P::o68::x3 68::x2 68::tu #[r 31] 0::x1::dI P [(FB,269,.str Hr 194),(OR,271,.str s18 270),(FA,273,.int 13 272),(Fz,274,r 78)] 4::e0::x0::cC s18 264 13 74::pL 76 73 (.str Hr 194)::e0::o79 P::o80::x3 80::x2 80::tu #[r 31] 0::x1::dI P [(FB,285,.str Hr 194),(OR,287,.str s19 286),(FA,289,.int 15 288),(Fz,290,r 90)] 4::e0::x0::cC s19 280 15 86::pL 88 85 (.str Hr 194)::e0::o91 P::o92::x3 92::x2 92::E o98 o99 (E YZ YY (E YX YW (E YV YU (D 323 [Pz,Uc,s94,s95,Nr,UL] YT YS (E YR YQ (E YN YM (E YL YK (D 355 [s98] YJ YI (D 364 [EN,Si] YH YG (E YF YE (E YD YC (D 386 [Pz] YB YA (D 393 [Pz,Uc,Sh,PL] Yz Yy (E Yx Yw (D 409 [Pz,PK,Uc,Sg,PL,Si] Yv Yu (D 421 [Pz,PK,Uc,Sh,Sg,PL] Yt Ys (D 433 [Pz,Se,Sh,PK,Uc] Yr Yq (D 444 [Se] Yp Yo (D 451 [Pz,Se,EM,PL,Uc] Yn Ym (D 464 [Pz,s110,s111,PK,EM,Vv,s113,s114] Yl Yk (E Yj Yi (E Yh Yg (E Ye Yd (E Yc Yb (E XZ XY (D 510 [Pz,s117,Vv] XX XW (E XU XS (E XR XQ (D 533 [Sd] XO XN (D 540 [EN,Si,s120,Sg,Vu] XM XJ (D 551 [Vt,Vs,s124] XI XH (D 560 [Vr,s126] XG XF (E XE XD (D 582 [PJ] XC XA (D 589 [PJ] Xz Xy (e0::x1::dI P [(FB,600,m8),(OR,602,.str RT 601),(FA,604,.int 192 603),(Fz,605,r 318)] 4::e0::x0::cC RT 595 192 314::pL 316 313 m8::e0::Xx P::Xw::⟨.type q10,none,.fields #[.str Vq 606,r 320,.builtin SL.s6511155373996960695x17,.builtin SL.s12411053484034534018x21],#[]⟩::⟨.type q10,none,.fields #[.str s90 608,r 320,.builtin SL.s10220274742760427390x26,.none],#[]⟩::x3 320::x2 320::tu #[r 320] 0::x1::dI P [(FB,620,m8),(OR,622,.str s61 621),(FA,624,.int 194 623),(PH,631,r 338),(PF,638,r 345),(Fz,639,r 346)] 6::e0::tB [196,4,337,199,4,344]::cC s61 615 194 328::pL 330 327 m8::D 628 [Q8] Xv Xu (D 635 [Q8] Xs Xr (e0::Xq P::Xp::x3 348::x2 348::tu #[r 348] 0::x1::dI P [(FB,650,m8),(OR,652,.str s62 651),(FA,654,.int 201 653),(EM,661,r 364),(HX,668,r 371),(EN,675,r 378),(HW,684,r 385),(HV,693,r 392),(HU,701,r 399),(HS,709,r 406),(HR,717,r 413),(HQ,725,r 420),(HP,736,r 427),(Fz,737,r 428)] 14::e0::tB [203,4,363,206,4,370,209,4,377,212,4,384,215,4,391,218,4,398,221,4,405,224,4,412,231,4,419,234,4,426]::cC s62 645 201 354::pL 356 353 m8::D 658 [Q8] Xo Xn (D 665 [Q8] Xm Xl (D 672 [Q8] Xk Xj (D 679 [Q8,Nr,UL] Xi Xh (D 688 [Q8,Nr,UL] Xg Xf (D 697 [Q8,Nr] Xe Xd (D 705 [Q8,Nr] Xc Xb (D 713 [Q8,Sd] Xa WZ (D 721 [Q8,Nr] WY WX (D 729 [Q8,PJ,s152,Vt,Vs] WW WV (e0::WU P::WT::x3 430::x2 430::tu #[r 348] 0::x1::dI P [(FB,748,m8),(OR,750,.str s63 749),(FA,752,.int 244 751),(PD,760,r 446),(EM,768,r 453),(HX,775,r 460),(EN,782,r 467),(HW,791,r 474),(HV,800,r 481),(HU,808,r 488),(HS,819,r 495),(HR,827,r 502),(HQ,835,r 509),(HP,844,r 516),(Fz,846,r 517)] 15::e0::tB [246,4,445,251,4,452,255,4,459,258,4,466,261,4,473,264,4,480,267,4,487,270,4,494,283,4,501,286,4,508,289,4,515]::cC s63 743 244 436::pL 438 435 m8::D 756 [Q8,RZ] WS WR (D 764 [Q8,RZ] WQ WO (D 772 [Q8] WN WM (D 779 [Q8] WL WK (D 786 [Q8,Nr,UL] WJ WI (D 795 [Q8,Nr,UL] WH WG (D 804 [Q8,Nr] WD WC (D 812 [Q8,Nr,s163,s164,Vu] WB WA (D 823 [Q8,Sd] Wz Wy (D 831 [Q8,Nr] Wx Ww (D 839 [Q8,PJ,Vr] Wv Wu (tu #[.str RZ 845] 0::Wt P::Ws::x3 519::x2 519::D 855 [Nt,US,UR] Wr Wq (D 864 [UQ,s173,s174] Wp Wo (D 873 [RY,RX] Wn Wm (D 881 [s177,s178,s179] Wl Wk (D 890 [Gm,RW,RV] Wj Wi (D 899 [Gm,RW,RV] Wh Wg (D 908 [Gm,s183] Wf We (D 916 [Nt,s184] Wd Wc (D 924 [Gm] Wb Wa (D 931 [Nt,Gm] VZ VY (E VX VW (D 945 [Gm,UP,s186,s187,RW,RV] VV VU (E VT VS (E VR VQ (E VP VO (E VN VM (D 981 [Nt,Gm,UO,UN,s190,US,s191,s192,s193] VL VJ (D 996 [Gm,RY,RX,s194,s195,s196,s197,UP,s198,s199,s200] VI VH (D 1013 [UR,UM] VG VF (D 1021 [UQ,Nt,Gm,s202,UO,UN,RY,RX,UM] VE VD ([]))))))))))))))))))))))))))))))))))))))))))))))))))))))))))))))))))))))))))))))))
def T0(P:Params):BT:=oL (oA P) 0 .nil
def S0(w:World)(os:OsState):SharedT:=⟨T0 w.params,652,PySem.Life.mk [] [] [] 0 [] [] false #[] [] 0 false false false 0 [2000,10,10] false 0 true [] [] 0 false,⟨[]⟩,PySem.Drawn.mk 0 0 0 0,1033,os⟩
def Hf(P:Params):Heap:=⟨⟨oA P⟩,PySem.Life.mk [] [] [] 0 [] [] false #[] [] 0 false false false 0 [2000,10,10] false 0 true [] [] 0 false⟩
def Sf(w:World)(os:OsState):Shared:=⟨Hf w.params,⟨[]⟩,PySem.Drawn.mk 0 0 0 0,1033,os⟩
def pre_(w:World)(os:OsState):topGo treeTable pW w 11 ((some (r 6))) 12 ⟨boot_heap w.params,⟨[]⟩,boot_drawn,boot_toks,os⟩ (topStub pW)=some (Sa w os,⟨denote treeTable cT,cT,⟨0,0,0,0⟩,[topFrame qP]⟩):=by trivial
def TR(w:World)(os:OsState):segRun treeTable pW w 11 ((some (r 6))) 1 1 (Sa w os) (blockOf (behindTheImports pW) TF cT ⟨0,0,0,0⟩ [topFrame qP])=some (.next,(Sb w os).abs,cT,⟨0,0,0,0⟩):=by trivial
def UF:List Stmt:=[c9 0,c9 1,c9 2,c9 3,c9 4,c9 5,c9 6,c9 7,c9 8,c9 9,c9 10,c9 11,c9 12,c9 13,c9 14,c9 15,c9 16,c9 17,c9 18,c9 19,c9 20,c9 21,c9 22,c9 23,c9 24,c9 25,c9 26,c9 27,c9 28,c9 29,c9 30,c9 31,c9 32,c9 33,c9 34,c9 35,c9 36,c9 37,c9 38,c9 39,c9 40,c9 41,c9 42,c9 43,c9 44,c9 45,c9 46,c9 47,c9 48,c9 49,c9 50,c9 51,c9 52,c9 53,c9 54,c9 55,c9 56,c9 57,c9 58,c9 59,c9 60,c9 61,c9 62,c9 63,c9 64,c9 65,c9 66,c9 67,c9 68,c9 69,c9 70,c9 71,c9 72,c9 73,c9 74,c9 75,c9 76,c9 77,c9 78,c9 79]
def pc0(w:World)(os:OsState):segRunT treeTable pW w 11 ((some (r 6))) 1 4637 (Sb w os) (piecesOf UF TF cT ⟨0,0,0,0⟩ [topFrame qP])=some (.next,S0 w os,cT,⟨435,0,447,76⟩):=by trivial
def fin_(w:World)(os:OsState):topRun treeTable pW w 11 ((some (r 6))) 2 (S0 w os).abs ⟨doneF .next,cT,⟨435,0,447,76⟩,[topFrame qP]⟩=some (Sf w os):=by trivial
def QQ:behindTheImports pW=(UF++[]):=by kernel_rfl
def run_(w:World)(os:OsState):topRun treeTable pW w 11 ((some (r 6))) (12+(1+(4637+2))) ⟨boot_heap w.params,⟨[]⟩,boot_drawn,boot_toks,os⟩ (topStub pW)=some (Sf w os):=by
 have h:=(piece_app (segRun_of (pc0 w os)) (piece_nil (fin_ w os)));rw[<- QQ]at h;exact go_top (pre_ w os) (piece_block (TR w os) h)
def K(P:Params):Frag:=(nat_lit 2,boot_o_2 P)::(nat_lit 3,o3 P)::(nat_lit 20,o20)::(nat_lit 21,o21)::(nat_lit 30,o30 P)::(nat_lit 31,o31)::(nat_lit 43,o43 P)::(nat_lit 44,o44)::(nat_lit 55,o55 P)::(nat_lit 56,o56)::(nat_lit 67,o67 P)::(nat_lit 68,o68)::(nat_lit 79,o79 P)::(nat_lit 80,o80)::(nat_lit 91,o91 P)::(nat_lit 92,o92)::(nat_lit 98,o98)::(nat_lit 99,o99)::(nat_lit 103,YZ)::(nat_lit 104,YY)::(nat_lit 108,YX)::(nat_lit 109,YW)::(nat_lit 113,YV)::(nat_lit 114,YU)::(nat_lit 120,YT)::(nat_lit 121,YS)::(nat_lit 125,YR)::(nat_lit 126,YQ)::(nat_lit 130,YN)::(nat_lit 131,YM)::(nat_lit 135,YL)::(nat_lit 136,YK)::(nat_lit 142,YJ)::(nat_lit 143,YI)::(nat_lit 149,YH)::(nat_lit 150,YG)::(nat_lit 154,YF)::(nat_lit 155,YE)::(nat_lit 159,YD)::(nat_lit 160,YC)::(nat_lit 166,YB)::(nat_lit 167,YA)::(nat_lit 173,Yz)::(nat_lit 174,Yy)::(nat_lit 178,Yx)::(nat_lit 179,Yw)::(nat_lit 185,Yv)::(nat_lit 186,Yu)::(nat_lit 192,Yt)::(nat_lit 193,Ys)::(nat_lit 199,Yr)::(nat_lit 200,Yq)::(nat_lit 206,Yp)::(nat_lit 207,Yo)::(nat_lit 213,Yn)::(nat_lit 214,Ym)::(nat_lit 220,Yl)::(nat_lit 221,Yk)::(nat_lit 225,Yj)::(nat_lit 226,Yi)::(nat_lit 230,Yh)::(nat_lit 231,Yg)::(nat_lit 235,Ye)::(nat_lit 236,Yd)::(nat_lit 240,Yc)::(nat_lit 241,Yb)::(nat_lit 245,XZ)::(nat_lit 246,XY)::(nat_lit 252,XX)::(nat_lit 253,XW)::(nat_lit 257,XU)::(nat_lit 258,XS)::(nat_lit 262,XR)::(nat_lit 263,XQ)::(nat_lit 269,XO)::(nat_lit 270,XN)::(nat_lit 276,XM)::(nat_lit 277,XJ)::(nat_lit 283,XI)::(nat_lit 284,XH)::(nat_lit 290,XG)::(nat_lit 291,XF)::(nat_lit 295,XE)::(nat_lit 296,XD)::(nat_lit 302,XC)::(nat_lit 303,XA)::(nat_lit 309,Xz)::(nat_lit 310,Xy)::(nat_lit 319,Xx P)::(nat_lit 320,Xw)::(nat_lit 337,Xv)::(nat_lit 338,Xu)::(nat_lit 344,Xs)::(nat_lit 345,Xr)::(nat_lit 347,Xq P)::(nat_lit 348,Xp)::(nat_lit 363,Xo)::(nat_lit 364,Xn)::(nat_lit 370,Xm)::(nat_lit 371,Xl)::(nat_lit 377,Xk)::(nat_lit 378,Xj)::(nat_lit 384,Xi)::(nat_lit 385,Xh)::(nat_lit 391,Xg)::(nat_lit 392,Xf)::(nat_lit 398,Xe)::(nat_lit 399,Xd)::(nat_lit 405,Xc)::(nat_lit 406,Xb)::(nat_lit 412,Xa)::(nat_lit 413,WZ)::(nat_lit 419,WY)::(nat_lit 420,WX)::(nat_lit 426,WW)::(nat_lit 427,WV)::(nat_lit 429,WU P)::(nat_lit 430,WT)::(nat_lit 445,WS)::(nat_lit 446,WR)::(nat_lit 452,WQ)::(nat_lit 453,WO)::(nat_lit 459,WN)::(nat_lit 460,WM)::(nat_lit 466,WL)::(nat_lit 467,WK)::(nat_lit 473,WJ)::(nat_lit 474,WI)::(nat_lit 480,WH)::(nat_lit 481,WG)::(nat_lit 487,WD)::(nat_lit 488,WC)::(nat_lit 494,WB)::(nat_lit 495,WA)::(nat_lit 501,Wz)::(nat_lit 502,Wy)::(nat_lit 508,Wx)::(nat_lit 509,Ww)::(nat_lit 515,Wv)::(nat_lit 516,Wu)::(nat_lit 518,Wt P)::(nat_lit 519,Ws)::(nat_lit 527,Wr)::(nat_lit 528,Wq)::(nat_lit 534,Wp)::(nat_lit 535,Wo)::(nat_lit 541,Wn)::(nat_lit 542,Wm)::(nat_lit 548,Wl)::(nat_lit 549,Wk)::(nat_lit 555,Wj)::(nat_lit 556,Wi)::(nat_lit 562,Wh)::(nat_lit 563,Wg)::(nat_lit 569,Wf)::(nat_lit 570,We)::(nat_lit 576,Wd)::(nat_lit 577,Wc)::(nat_lit 583,Wb)::(nat_lit 584,Wa)::(nat_lit 590,VZ)::(nat_lit 591,VY)::(nat_lit 595,VX)::(nat_lit 596,VW)::(nat_lit 602,VV)::(nat_lit 603,VU)::(nat_lit 607,VT)::(nat_lit 608,VS)::(nat_lit 612,VR)::(nat_lit 613,VQ)::(nat_lit 617,VP)::(nat_lit 618,VO)::(nat_lit 622,VN)::(nat_lit 623,VM)::(nat_lit 629,VL)::(nat_lit 630,VJ)::(nat_lit 636,VI)::(nat_lit 637,VH)::(nat_lit 643,VG)::(nat_lit 644,VF)::(nat_lit 650,VE)::(nat_lit 651,VD)::[]
def KA:List Addr:=[2,3,20,21,30,31,43,44,55,56,67,68,79,80,91,92,98,99,103,104,108,109,113,114,120,121,125,126,130,131,135,136,142,143,149,150,154,155,159,160,166,167,173,174,178,179,185,186,192,193,199,200,206,207,213,214,220,221,225,226,230,231,235,236,240,241,245,246,252,253,257,258,262,263,269,270,276,277,283,284,290,291,295,296,302,303,309,310,319,320,337,338,344,345,347,348,363,364,370,371,377,378,384,385,391,392,398,399,405,406,412,413,419,420,426,427,429,430,445,446,452,453,459,460,466,467,473,474,480,481,487,488,494,495,501,502,508,509,515,516,518,519,527,528,534,535,541,542,548,549,555,556,562,563,569,570,576,577,583,584,590,591,595,596,602,603,607,608,612,613,617,618,622,623,629,630,636,637,643,644,650,651]
def ZX(P:Params):KA=(K P).map (·.1):=by kernel_rfl
def qT:Program:={ pW with main:={ pW.main with body:=[c9 0,c9 2,c9 3,c9 4,c9 5,c9 6,c9 7,c9 9,c9 10,c9 11,c9 12,c9 13,c9 14,c9 15,c9 16,c9 18,c9 20,c9 21,c9 22,c9 24,c9 25,c9 26,c9 27,c9 28,c9 29,c9 30,c9 31,c9 33,c9 34,c9 35,c9 36,c9 38,c9 39,c9 40,c9 41,c9 42,c9 44,c9 45,c9 46,c9 47,c9 49,c9 50,c9 51,c9 52,c9 53,c9 54,c9 55,c9 56,c9 57,c9 58,c9 60,c9 61,c9 62,c9 63,c9 64,c9 65,c9 66,c9 67,c9 68,c9 69,c9 70,c9 71,c9 72,c9 73,c9 74,c9 75,c9 76,c9 77,c9 78,c9 79] } }
def recs:=RowW.records (OpenRow.toRowW (OpenLaw.row PySem.Challenge.rw_weighwalk_k52_the_first_word_that_parts))
abbrev Xt(q:Program)(s:Shared):Bool:=xlAt q [] s && recOk recs s
abbrev El:Hook:=kHook K KA ZX
def UJ(w:World):((boot_heap w.params).isNs mainGlobals && (⟨[]⟩:Array GenState).size == 0,(boot_heap w.params).objs.size,(boot_heap w.params).nsMap mainGlobals "__annotations__")=(true,11,(some (r 6))):=by trivial
def VA:∀w:World,(fencedOpening treeTable pW w 9398).map (λs=>(s.heap,s.gens,s.drawn,s.toks))=some (boot_heap w.params,⟨[]⟩,boot_drawn,boot_toks):=boot_open (by kernel_rfl) (by decide) (λs=>by trivial)
def Zt(w:World)(os:OsState):(staticsOk (importedModules pW.main.body) (boot_heap w.params) (Hf w.params) && namesBound pW (Hf w.params) && gensDone (Sf w os) && laidKept (boot_heap w.params) (Hf w.params))=true:=by trivial
def Zs(w:World)(os:OsState):openSeen qT [] (importedModules pW.main.body) (Xt qT) true (Sf w os)=openGood qT []:=by trivial
def Zr(w:World)(os:OsState):El.obs (Sf w os)=El.val w:=by kernel_rfl
def left:LeftO pW qT [] (Xt qT) El.obs El.val 9398:=LeftO.of_pieces (H₁:=Hf) VA UJ run_ (by decide) (λw=>funext λos=>looks_pair (Zt w os) (looks_pair (Zs w os) (Zr w os)))
def dO:DefRec:=⟨PySem.Str.ofString "law",L2.C0 (c9 79),L2.B3 (c9 79),L2.b9 (c9 79),⟨435,0,447,76⟩⟩
def Ts(said:(OpenLaw.row PySem.Challenge.rw_weighwalk_k52_the_first_word_that_parts).wellSaid=true)(hw:(OpenLaw.row PySem.Challenge.rw_weighwalk_k52_the_first_word_that_parts).toRowW.promised)(hc:WalkO qT [] (XL qT []) (Hook.says El) (OpenLaw.row PySem.Challenge.rw_weighwalk_k52_the_first_word_that_parts).toRowW dO [] (λf vs=>PySem.call f vs)):(OpenLaw.row PySem.Challenge.rw_weighwalk_k52_the_first_word_that_parts).Holds:=
 holds_open (r:=(OpenLaw.row PySem.Challenge.rw_weighwalk_k52_the_first_word_that_parts)) (q:=qT) (loose:=[]) (Xt:=Xt qT) (XP:=XL qT []) (Yf:=El.obs) (Ya:=El.val) (YP:=El.says) (d:=dO) (kwd:=[]) (N:=9398) left El.of El.keeps (λs e=>xl_of s (Bool.and_eq_true_iff.mp e).1) XL.keeps (by kernel_rfl) (by kernel_rfl) (by kernel_rfl) (λs e=>recFacts_of (Bool.and_eq_true_iff.mp e).2) (by kernel_rfl) said (by decide +kernel) ⟨rfl,rfl,rfl,rfl,rfl,by decide +kernel⟩ hw hc
abbrev fO(n q:String)(s:Stmt)(m c:Value):Obj:=⟨.type SL.s7174869446012820540x8,none,.func (fnOf (PySem.Str.ofString n) (PySem.Str.ofString q) (L2.C0 s) (L2.B3 s) (L2.b9 s) .none .none .none m none c .none),#[]⟩
def lp P a n j m c(h:(K P).lookup a=some (fO n n (c9 j) m (r c)):=by kernel_rfl):=h
def lc P a n q j k m c(h:(K P).lookup a=some (fO n q (L2.o6 (c9 j) k) m (r c)):=by kernel_rfl):=h
def JY P:=lp P 99 "noughts" 9 m1 98
def GI P:=lp P 104 "times_row" 10 m1 103
def GK P:=lp P 109 "column_at" 11 m1 108
def Fc P:=lp P 114 "columns_of" 12 m1 113
def Tc P:=lp P 121 "dot" 13 m1 120
def Mp P:=lp P 126 "row_by" 14 m1 125
def GL P:=lp P 131 "by_column" 15 m1 130
def ID P:=lp P 136 "by_table" 16 m1 135
def Of P:=lp P 143 "rooms" 18 m2 142
def An P:=lp P 150 "need_same_letters" 20 m3 149
def Mq P:=lp P 155 "beside" 21 m3 154
def EY P:=lp P 160 "put_beside" 22 m3 159
def EZ P:=lp P 167 "need_field" 24 m4 166
def JZ P:=lp P 174 "leading" 25 m4 173
def Iy P:=lp P 179 "plus_row" 26 m4 178
def Kd P:=lp P 186 "cleared" 27 m4 185
def Qr P:=lp P 193 "keep" 28 m4 192
def GJ P:=lp P 200 "kept_rows" 29 m4 199
def Iu P:=lp P 207 "width_of" 30 m4 206
def Ka P:=lp P 214 "echelon" 31 m4 213
def Fb P:=lp P 221 "free_words" 33 m5 220
def X3 P:=lp P 226 "with_letter_behind" 34 m5 225
def GM P:=lp P 231 "at_places" 35 m5 230
def Iz P:=lp P 236 "narrowed" 36 m5 235
def Qq P:=lp P 241 "less" 38 m6 240
def JX P:=lp P 246 "parting" 39 m6 245
def Ao P:=lp P 253 "grown_while_alike" 40 m6 252
def Iw P:=lp P 258 "walkable" 41 m6 257
def Og P:=lp P 263 "alike" 42 m6 262
def IA P:=lp P 270 "is_whole" 44 m7 269
def Kc P:=lp P 277 "divisor" 45 m7 276
def IC P:=lp P 284 "fraction" 46 m7 283
def IB P:=lp P 291 "is_prime" 47 m7 290
def Cd P:=lc P 338 "is_field" "Field.is_field" 56 0 m8 337
def AS P:=lc P 371 "nought" "Fractions.nought" 57 1 m8 370
def CO P:=lc P 378 "one" "Fractions.one" 57 2 m8 377
def Cc P:=lc P 385 "plus" "Fractions.plus" 57 3 m8 384
def Bw P:=lc P 392 "times" "Fractions.times" 57 4 m8 391
def Bx P:=lc P 399 "minus" "Fractions.minus" 57 5 m8 398
def Aq P:=lc P 406 "inverse" "Fractions.inverse" 57 6 m8 405
def Ap P:=lc P 446 "__init__" "Residues.__init__" 58 0 m8 445
def Bv P:=lc P 460 "nought" "Residues.nought" 58 2 m8 459
def Ds P:=lc P 467 "one" "Residues.one" 58 3 m8 466
def CN P:=lc P 474 "plus" "Residues.plus" 58 4 m8 473
def BZ P:=lc P 481 "times" "Residues.times" 58 5 m8 480
def Ca P:=lc P 488 "minus" "Residues.minus" 58 6 m8 487
def AR P:=lc P 495 "inverse" "Residues.inverse" 58 7 m8 494
def GQ P:=lp P 528 "_law_next" 60 m9 527
def Fe P:=lp P 535 "_law_state" 61 m9 534
def Dp P:=lp P 542 "_law_divisor" 62 m9 541
def IF P:=lp P 549 "_law_low" 63 m9 548
def GP P:=lp P 556 "_law_plus" 64 m9 555
def Fd P:=lp P 563 "_law_times" 65 m9 562
def Ke P:=lp P 570 "_law_of" 66 m9 569
def GO P:=lp P 577 "_law_sort" 67 m9 576
def GR P:=lp P 584 "_law_kind" 68 m9 583
def Eg P:=lp P 591 "_law_weight" 69 m9 590
def Dn P:=lp P 596 "_law_machine" 70 m9 595
def IG P:=lp P 603 "_law_dot" 71 m9 602
def GN P:=lp P 608 "_law_step" 72 m9 607
def Do P:=lp P 613 "_law_letters" 73 m9 612
def Fh P:=lp P 618 "_law_along" 74 m9 617
def Dq P:=lp P 623 "_law_changed" 75 m9 622
def IE P:=lp P 630 "_law_two" 76 m9 629
def Fg P:=lp P 637 "_law_first" 77 m9 636
def Ff P:=lp P 644 "_law_right" 78 m9 643
def Ta P:=lp P 651 "law" 79 m9 650
end
end H52
set_option maxHeartbeats 4000000
abbrev Zp:List PySem.Str:=["_law_state_here","_law_sort_here","_law_letters_here","_law_many","_law_nought","_law_picked","_law_tables","_law_at","_law_table","_law_q","_law_line","_law_start","_law_ends"]
abbrev n1N:List PySem.Str:=["_law_state_here","_law_sort_here","_law_machine_here","_law_letters_here","_law_start","_law_tables","_law_ends","_law_many","_law_first_here","_law_last","_law_lines","_law_way","_law_x","_law_made","_law_table"]
abbrev n2N:List PySem.Str:=["_law_state_here","_law_sort_here","_law_machine_here","_law_letters_here","_law_start","_law_tables","_law_ends","_law_many","_law_first_here","_law_last","_law_lines","_law_way","_law_x","_law_made"]
abbrev n3N:List PySem.Str:=["_law_state_here","_law_sort_here","_law_letters_here","_law_many","_law_nought","_law_picked","_law_tables","_law_at","_law_table","_law_q","_law_line","_law_start","_law_ends","_law_r"]
abbrev n4N:List PySem.Str:=["_law_state_here","_law_sort_here","_law_machine_here","_law_letters_here","_law_start","_law_tables","_law_ends","_law_many","_law_first_here","_law_last","_law_lines","_law_way","_law_x","_law_made","_law_table","_law_line"]
abbrev GE:List PySem.Str:=["kind","one","other"]
abbrev Uj:List PySem.Str:=["_law_state_here","_law_sort_here","_law_letters_here","_law_many"]
abbrev n7N:List PySem.Str:=["kind","machine","kept","places","rows","tables","table","place","row"]
abbrev Rk:List PySem.Str:=["_law_sort_here","_law_x","_law_y"]
abbrev n9N:List PySem.Str:=["_law_state_here","_law_sort_here","_law_letters_here","_law_many","_law_start","_law_tables","_law_letter","_law_table","#1","_law_k"]
abbrev AQ:List PySem.Str:=["self","x","y"]
abbrev Zn:List PySem.Str:=["_law_state_here","_law_sort_here","_law_letters_here","_law_many","_law_start","_law_tables","_law_letter","_law_table","_law_k"]
abbrev Zl:List PySem.Str:=["_law_state_here","_law_sort_here","_law_letters_here","_law_many","_law_start","_law_tables","_law_letter","_law_table","#1"]
abbrev Qo:List PySem.Str:=["kind","machine","kept","places","rows","tables","table"]
abbrev Ob:List PySem.Str:=["_law_sort_here","_law_row","_law_table"]
abbrev SY:List PySem.Str:=["_law_state_here","_law_sort_here","_law_letters_here","_law_broad"]
abbrev Bt:List PySem.Str:=["self","x"]
abbrev SX:List PySem.Str:=["_law_state_here","_law_sort_here","_law_machine_here"]
abbrev SW:List PySem.Str:=["kind","first","second","step","upper","lower"]
abbrev SV:List PySem.Str:=["kind","both","rows","kept","narrow","steps"]
abbrev Qn:List PySem.Str:=["_law_state_here","_law_sort_here"]
abbrev Zk:List PySem.Str:=["kind","machine","last","told","word","row","letter","table"]
abbrev Zj:List PySem.Str:=["kind","first","second","step","upper","lower","row","extra"]
abbrev Oa:List PySem.Str:=["kind","table","column"]
abbrev SU:List PySem.Str:=["kind","one","other","no_step","tables"]
abbrev SS:List PySem.Str:=["_law_sort_here","_law_row","_law_column"]
abbrev Zh:List PySem.Str:=["kind","both","rows","kept","narrow","steps","place","row"]
abbrev Qm:List PySem.Str:=["_law_sort_here","_law_number"]
abbrev SQ:List PySem.Str:=["_law_sort_here","_law_one","_law_other"]
abbrev Zg:List PySem.Str:=["kind","one","other","both","found","parted","word","row"]
abbrev Zf:List PySem.Str:=["kind","one","other","no_step","tables","first","second"]
abbrev Ze:List PySem.Str:=["_law_state_here","_law_size","_law_first_here","_law_far"]
abbrev NZ:List PySem.Str:=["kind","both","found"]
abbrev NY:List PySem.Str:=["kind","row","table"]
abbrev Zd:List PySem.Str:=["kind","both","rows","kept","narrow","steps","table"]
abbrev JR:List PySem.Str:=["one","other"]
abbrev Mm:List PySem.Str:=["table","place"]
abbrev NX:List PySem.Str:=["kind","by","row"]
abbrev SO:List PySem.Str:=["kind","first","second","step"]
abbrev Ql:List PySem.Str:=["_law_one","_law_other"]
abbrev Qk:List PySem.Str:=["_law_found","_law_due"]
abbrev SN:List PySem.Str:=["kind","kept","row","width"]
abbrev Qj:List PySem.Str:=["kind","both","last"]
abbrev SM:List PySem.Str:=["_law_state_here","_law_many"]
abbrev NW:List PySem.Str:=["row","places"]
abbrev NV:List PySem.Str:=["kind","size"]
namespace L2
open PySem
@[elab_as_elim] def G8{motive:Hp->Prop}{H:Hp}{a:Addr}{o:HO}(n:H a=none)(h:∀G,h8 H G->G a=some o->motive G):motive (upd H a o):=h _ (c7 n) c5
def gN{X:Cx}{pos:Pos}(i:Nat){x:Str}(hN:X.N.Nodup)(hi:X.N[i]? = some x:=by rfl)(hx:X.env.scope.names.lookup x=some .local:=by rfl)(hf:X.fn x=true\/X.env.scope.names.lookup x=some .local:=by first | exact .inl rfl | exact .inr rfl | assumption):PG X (.Name x pos) (y7 i):=j9 hN hi (Or.inl hx) hf
def sT{X:Cx}{pos pos':Pos}(i:Nat){x:Str}{e:Expr}{te:TE}(hN:X.N.Nodup)(he:PE X e te)(hi:X.N[i]? = some x:=by rfl)(hx:X.env.scope.names.lookup x=some .local:=by rfl)(hs:swapsWith e (some (.Name x pos')) pos.line X.env=pure false:=by rfl)(hf:X.fn x=true\/X.env.scope.names.lookup x=some .local:=by first | exact .inl rfl | exact .inr rfl | assumption):PS X (.Assign [.Name x pos'] e pos) (Pg te (y7 i)):=Bn hN hi (Or.inl hx) he hs hf
end L2
namespace K52
open PySem L2 Mine PyProof.Rows PySem.SeqAt
abbrev Pr:Program:=PySem.Challenge.pw_weighwalk_k52_the_first_word_that_parts
def KN:Pr.given.tree=none:=rfl
def top(i:Nat):Stmt:=PySem.Challenge.pw_weighwalk_k52_the_first_word_that_parts.main.body.getD i (.Pass ⟨0,0,0,0⟩)
abbrev Bk:Stmt:=top 44
abbrev CC:Stmt:=top 45
abbrev Bm:Stmt:=top 46
abbrev Bl:Stmt:=top 47
abbrev K6:Stmt:=o6 (top 57) 1
abbrev P0:Stmt:=o6 (top 57) 2
abbrev N5:Stmt:=o6 (top 57) 3
abbrev L7:Stmt:=o6 (top 57) 4
abbrev J7:Stmt:=o6 (top 58) 0
abbrev L6:Stmt:=o6 (top 58) 2
abbrev Q7:Stmt:=o6 (top 58) 3
abbrev O9:Stmt:=o6 (top 58) 4
abbrev N3:Stmt:=o6 (top 58) 5
abbrev N6:Stmt:=o6 (top 56) 0
abbrev L8:Stmt:=o6 (top 57) 5
abbrev J8:Stmt:=o6 (top 57) 6
abbrev N4:Stmt:=o6 (top 58) 6
abbrev K5:Stmt:=o6 (top 58) 7
abbrev R8:Stmt:=top 10
abbrev AB:Stmt:=top 9
abbrev R9:Stmt:=top 11
abbrev P6:Stmt:=top 12
abbrev Np:Stmt:=top 13
abbrev BM:Stmt:=top 14
abbrev S3:Stmt:=top 15
abbrev V7:Stmt:=top 16
abbrev Gj:Stmt:=top 18
abbrev J5:Stmt:=top 20
abbrev Z4:Stmt:=top 21
abbrev L5:Stmt:=top 22
abbrev V4:Stmt:=top 24
abbrev Cw:Stmt:=top 25
abbrev V3:Stmt:=top 26
abbrev CD:Stmt:=top 27
abbrev JE:Stmt:=top 28
abbrev Z3:Stmt:=top 29
abbrev Bf:Stmt:=top 30
abbrev CB:Stmt:=top 31
abbrev V6:Stmt:=top 33
abbrev C2:Stmt:=top 34
abbrev S4:Stmt:=top 35
abbrev M9:Stmt:=top 36
abbrev Gk:Stmt:=top 38
abbrev AA:Stmt:=top 39
abbrev J6:Stmt:=top 40
abbrev M8:Stmt:=top 41
abbrev S5:Stmt:=top 42
abbrev Bi:Stmt:=top 60
abbrev Y8:Stmt:=top 61
abbrev U0:Stmt:=top 62
abbrev Cz:Stmt:=top 63
abbrev Bh:Stmt:=top 64
abbrev Y7:Stmt:=top 65
abbrev DO:Stmt:=top 66
abbrev Bg:Stmt:=top 67
abbrev Bj:Stmt:=top 68
abbrev V5:Stmt:=top 69
abbrev E8:Stmt:=top 70
abbrev CA:Stmt:=top 71
abbrev Q6:Stmt:=top 72
abbrev O0:Stmt:=top 73
abbrev F9:Stmt:=top 74
abbrev C9:Stmt:=top 75
abbrev Cy:Stmt:=top 76
abbrev Z0:Stmt:=top 77
abbrev Y9:Stmt:=top 78
abbrev Nn:Stmt:=top 79
def _root_.L2.E6.m{j k:Nat}{A:Around}(r:E6 k A)(h:j<=k:=by decide):E6 j A:=r.mono h
def o4{N P:List Str}{s:Scope}(a:s.kind=.function:=by rfl)(b:s.isCoroutine=false:=by rfl)(c:s.isGenerator=false:=by rfl)(d:N.Nodup:=by decide +kernel)(e:N.take P.length=P:=by rfl)(f:∀x∈P,s.names.lookup x=some .local\/s.names.lookup x=some .cell:=by decide +kernel)(g:∀y∈s.names,y.2≠.free:=by decide +kernel):c8 N P s:=⟨a,b,c,d,e,f,g⟩
def HL:c8 ["thing"] ["thing"] (b9 Bk):=o4
def M7:c8 ["one","other","greatest","rest","left"] JR (b9 CC):=o4
def Y4:c8 ["top","bottom","shared"] ["top","bottom"] (b9 Bm):=o4
def Y0:c8 ["number","factor"] ["number"] (b9 Bl):=o4
def AM:c8 ["self"] ["self"] (b9 K6):=o4
def Cv:c8 ["self"] ["self"] (b9 P0):=o4
def BK:c8 AQ AQ (b9 N5):=o4
def Bc:c8 AQ AQ (b9 L7):=o4
def Y5:c8 ["self","prime"] ["self","prime"] (b9 J7):=o4
def Bb:c8 ["self"] ["self"] (b9 L6):=o4
def Dk:c8 ["self"] ["self"] (b9 Q7):=o4
def Cu:c8 AQ AQ (b9 O9):=o4
def BI:c8 AQ AQ (b9 N3):=o4
def BL:c8 ["self"] ["self"] (b9 N6):=o4
def Bd:c8 Bt Bt (b9 L8):=o4
def Y6:c8 Bt Bt (b9 J8):=o4
def BJ:c8 Bt Bt (b9 N4):=o4
def w6:c8 ["self","x","product","square","left"] Bt (b9 K5):=o4
def Gc:c8 NX NX (b9 R8):=o4
def JD:c8 NV NV (b9 AB):=o4
def Gg:c8 Mm Mm (b9 R9):=o4
def EL:c8 ["table"] ["table"] (b9 P6):=o4
def DN:c8 ["kind","row","column","total","x","y"] ["kind","row","column"] (b9 Np):=o4
def Mb:c8 NY NY (b9 BM):=o4
def Gh:c8 Oa Oa (b9 S3):=o4
def HM:c8 GE GE (b9 V7):=o4
def Nm:c8 ["machine"] ["machine"] (b9 Gj):=o4
def X8:c8 JR JR (b9 J5):=o4
def Ct:c8 SW SO (b9 Z4):=o4
def T7:c8 SU GE (b9 L5):=o4
def EJ:c8 ["kind"] ["kind"] (b9 V4):=o4
def DL:c8 ["kind","row","width","place"] ["kind","row","width"] (b9 Cw):=o4
def HH:c8 GE GE (b9 V3):=o4
def Q5:c8 ["kind","kept","row","rest","place","other"] ["kind","kept","row"] (b9 CD):=o4
def Gf:c8 ["kind","kept","row","width","rest","place"] SN (b9 JE):=o4
def V1:c8 ["kind","rows","width","kept","row"] ["kind","rows","width"] (b9 Z3):=o4
def HG:c8 ["rows"] ["rows"] (b9 Bf):=o4
def V2:c8 ["kind","rows","told","place","row"] ["kind","rows"] (b9 CB):=o4
def C8:c8 ["kind","first","grown","kept","told","last","fresh","pair"] ["kind","first","grown"] (b9 V6):=o4
def B7:c8 ["kind","machine","last","told","word","row"] ["kind","machine","last"] (b9 C2):=o4
def Gi:c8 NW NW (b9 S4):=o4
def O5:c8 Qo ["kind","machine","kept"] (b9 M9):=o4
def La:c8 ["kind","one","other","minus_ends"] GE (b9 Gk):=o4
def JC:c8 NZ NZ (b9 AA):=o4
def Y3:c8 Qj Qj (b9 J6):=o4
def R7:c8 SV ["kind","both","rows"] (b9 M8):=o4
def BH:c8 ["kind","one","other","both","found","parted"] GE (b9 S5):=o4
def Da:c8 ["_law_state_here","_law_many","_law_found"] SM (b9 Bi):=o4
def P5:c8 ["_law_script","_law_seed","_law_cell"] ["_law_script"] (b9 Y8):=o4
def X9:c8 Ql Ql (b9 U0):=o4
def DM:c8 ["_law_top","_law_bottom","_law_by"] ["_law_top","_law_bottom"] (b9 Cz):=o4
def HJ:c8 Rk Rk (b9 Bh):=o4
def Gd:c8 Rk Rk (b9 Y7):=o4
def Mc:c8 Qm Qm (b9 DO):=o4
def CZ:c8 ["_law_state_here","_law_prime"] ["_law_state_here"] (b9 Bg):=o4
def HK:c8 ["_law_sort_here"] ["_law_sort_here"] (b9 Bj):=o4
def EK:c8 Qn Qn (b9 V5):=o4
def D3:c8 Zn Uj (b9 E8):=o4
def Q4:c8 ["_law_sort_here","_law_row","_law_column","_law_total","_law_x","_law_y"] SS (b9 CA):=o4
def HI:c8 Ob Ob (b9 Q6):=o4
def L4:c8 Ze ["_law_state_here"] (b9 O0):=o4
def z9:c8 Zp Uj (b9 F9):=o4
def t9:c8 n2N SX (b9 C9):=o4
def C7:c8 ["_law_state_here","_law_sort_here","_law_letters_here","_law_broad","_law_most","_law_many","_law_machine_here","_law_way","_law_chain"] SY (b9 Cy):=o4
def z8:c8 ["_law_sort_here","_law_one","_law_other","_law_level","_law_k","_law_beyond","_law_word","_law_row","_law_line","_law_at","_law_letter"] SQ (b9 Z0):=o4
def Ge:c8 Qk Qk (b9 Y9):=o4
def T9:c8 ["_law_script","_law_state_here","_law_sort_here","_law_kind_here","_law_letters_here","_law_broad","_law_one","_law_other","_law_due"] ["_law_script"] (b9 Nn):=o4
def sp_whole:Sp:=λvs H Q _=>∃i,vs=[.int i]/\Q (.bl true) H
def sp_divisor:Sp:=λvs H Q _=>∃a b,vs=[.int a,.int b]/\Q (.int (dv a b)) H
def sp_fraction:Sp:=λvs H Q _=>∃a b,vs=[.int a,.int b]/\b≠0/\∀v H',h8 H H'->FQ H' v (tp a b) (bt a b)->Q v H'
def sp_prime:Sp:=λvs H Q _=>∃n,vs=[.int n]/\(2<=n/\n<=1000000/\Hs n=true)/\Q (.bl true) H
def Pt(C:Addr):Sp:=λvs H Q _=>∃x dx n,vs=[.ref x,.int n]/\(2<=n/\n<=1000000/\Hs n=true)/\H x=some (.ins C dx [])/\Q .non (upd H x (.ins C dx (Lf n)))
set_option genInjectivity false in
set_option genSizeOfSpec false in
structure OV where
 c_alike:Addr
 P_alike:Addr
 c_echelon:Addr
 P_echelon:Addr
 g0i:Addr
 e0z:FuncData
 h0j:Addr
 f0w:FuncData
 g0p:Addr
 e0e:FuncData
 g0j:Addr
 d0y:FuncData
 b0c:Addr
 a0m:FuncData
 c0b:Addr
 b0j:FuncData
 b0u:Addr
 b0a:FuncData
 b0o:Addr
 a0r:FuncData
 a0x:Addr
 a0g:FuncData
 b0n:Addr
 a0y:FuncData
 c0h:Addr
 b0r:FuncData
 c0f:Addr
 b0p:FuncData
 b0t:Addr
 b0g:FuncData
 b0q:Addr
 b0i:FuncData
 b0m:Addr
 a0v:FuncData
 a0s:Addr
 a0h:FuncData
 b0v:Addr
 b0h:FuncData
 b0f:Addr
 a0o:FuncData
 f0h:Addr
 d0i:FuncData
 h0g:Addr
 f0c:FuncData
 f0u:Addr
 c0r:FuncData
 d0t:Addr
 c0o:FuncData
 dot:Addr
 h0w:FuncData
 h0r:Addr
 g0v:FuncData
 f0v:Addr
 d0l:FuncData
 g0r:Addr
 e0u:FuncData
 h0v:Addr
 h0d:FuncData
 a0q:Addr
 a0e:FuncData
 h0q:Addr
 g0w:FuncData
 e0n:Addr
 c0l:FuncData
 e0a:Addr
 c0p:FuncData
 h0i:Addr
 f0b:FuncData
 g0m:Addr
 e0c:FuncData
 h0b:Addr
 g0d:FuncData
 keep:Addr
 h0p:FuncData
 f0n:Addr
 d0j:FuncData
 g0o:Addr
 f0a:FuncData
 echelon:Addr
 f0r:FuncData
 e0m:Addr
 c0k:FuncData
 a0l:Addr
 a0b:FuncData
 f0x:Addr
 c0t:FuncData
 g0x:Addr
 e0s:FuncData
 i0a:Addr
 d_less:FuncData
 h0k:Addr
 f0e:FuncData
 a0w:Addr
 a0j:FuncData
 g0g:Addr
 e0o:FuncData
 alike:Addr
 h0m:FuncData
 g0l:Addr
 e0r:FuncData
 f0t:Addr
 d0f:FuncData
 d0a:Addr
 c0d:FuncData
 h0f:Addr
 f0g:FuncData
 g0f:Addr
 d0z:FuncData
 f0s:Addr
 c0u:FuncData
 h0s:Addr
 g0t:FuncData
 g0y:Addr
 e0i:FuncData
 g0s:Addr
 e0v:FuncData
 e0q:Addr
 c0n:FuncData
 d0c:Addr
 b0w:FuncData
 h0n:Addr
 g0a:FuncData
 g0h:Addr
 e0p:FuncData
 d0h:Addr
 b0y:FuncData
 f0k:Addr
 c0w:FuncData
 c0s:Addr
 b0z:FuncData
 h0e:Addr
 f0d:FuncData
 f0m:Addr
 c0x:FuncData
 f0f:Addr
 d0e:FuncData
 law:Addr
 h0z:FuncData
 f0p:Addr
 g0q:Addr
 h0y:Addr
def x9{X:Cx}{e0:Expr}{t0:TE}(h0:PE X e0 t0)(s0:starEach [e0] X.env=(false,eval e0 X.env)::starEach [] X.env:=by rfl):PA X [e0] (W6 t0 tNil):=(E2 h0 F0 s0)
def D0{X:Cx}{e0:Expr}{t0:TE}{e1:Expr}{t1:TE}(h0:PE X e0 t0)(h1:PE X e1 t1)(s0:starEach [e0,e1] X.env=(false,eval e0 X.env)::starEach [e1] X.env:=by rfl)(s1:starEach [e1] X.env=(false,eval e1 X.env)::starEach [] X.env:=by rfl):PA X [e0,e1] (W6 t0 (W6 t1 tNil)):=(E2 h0 (E2 h1 F0 s1) s0)
def W8{X:Cx}{e0:Expr}{t0:TE}{e1:Expr}{t1:TE}{e2:Expr}{t2:TE}(h0:PE X e0 t0)(h1:PE X e1 t1)(h2:PE X e2 t2)(s0:starEach [e0,e1,e2] X.env=(false,eval e0 X.env)::starEach [e1,e2] X.env:=by rfl)(s1:starEach [e1,e2] X.env=(false,eval e1 X.env)::starEach [e2] X.env:=by rfl)(s2:starEach [e2] X.env=(false,eval e2 X.env)::starEach [] X.env:=by rfl):PA X [e0,e1,e2] (W6 t0 (W6 t1 (W6 t2 tNil))):=(E2 h0 (E2 h1 (E2 h2 F0 s2) s1) s0)
def Jk{X:Cx}{e0:Expr}{t0:TE}{e1:Expr}{t1:TE}{e2:Expr}{t2:TE}{e3:Expr}{t3:TE}(h0:PE X e0 t0)(h1:PE X e1 t1)(h2:PE X e2 t2)(h3:PE X e3 t3)(s0:starEach [e0,e1,e2,e3] X.env=(false,eval e0 X.env)::starEach [e1,e2,e3] X.env:=by rfl)(s1:starEach [e1,e2,e3] X.env=(false,eval e1 X.env)::starEach [e2,e3] X.env:=by rfl)(s2:starEach [e2,e3] X.env=(false,eval e2 X.env)::starEach [e3] X.env:=by rfl)(s3:starEach [e3] X.env=(false,eval e3 X.env)::starEach [] X.env:=by rfl):PA X [e0,e1,e2,e3] (W6 t0 (W6 t1 (W6 t2 (W6 t3 tNil)))):=(E2 h0 (E2 h1 (E2 h2 (E2 h3 F0 s3) s2) s1) s0)
structure Df(K:aa)(mg:Str->Option Value)(n:Str)(s:Stmt)(ps:List Str)(a:Addr)(d:FuncData):Prop where
 F:KH K n n s a d
 b:J0 K d ps []
 m:mg n=some (.ref a)
structure Dm(K:aa)(C:Addr)(n q:Str)(s:Stmt)(ps:List Str)(a:Addr)(d:FuncData):Prop where
 F:KH K n q s a d
 b:J0 K d ps []
 t:Dw K C n a
def C3{X:Cx}{x:Str}{p pos:Pos}{k:Nat}{f:Addr}{fd:FuncData}{ps:List Str}{sp:Sp}{s:Stmt}{e:Expr}{es:List Expr}{t:TA}(F:o9 X.prog X.w X.K X.mg X.base D2 k f fd ps sp)(hr:E6 k X.A)(D:Df X.K X.mg x s ps f fd)(ha:PA X (e::es) t)(hg:Gl X x:=by rfl)(hdb:(x==("__debug__":Str))=false:=by decide)(he:starEach (e::es) X.env=(false,eval e X.env)::starEach es X.env:=by rfl)(hpl:(backTo pos (starEach es X.env)).any (·.1)=false:=by rfl):PE X (.Call (.Name x p) (e::es) [] pos) (QZ sp [] E0 t):=B9 F hr hg D.m D.F.kp D.b .nil B0 ha hdb he hpl
structure Txt(K:aa)(mg:Str->Option Value)(t:OV):Prop where
 e0w:Df K mg "is_whole" Bk ["thing"] t.g0i t.e0z
 f0y:Df K mg "divisor" CC JR t.h0j t.f0w
 e0x:Df K mg "fraction" Bm ["top","bottom"] t.g0p t.e0e
 d0s:Df K mg "is_prime" Bl ["number"] t.g0j t.d0y
 a0k:Dm K t.f0p "nought" "Fractions.nought" K6 ["self"] t.b0c t.a0m
 b0l:Dm K t.f0p "one" "Fractions.one" P0 ["self"] t.c0b t.b0j
 a0z:Dm K t.f0p "plus" "Fractions.plus" N5 AQ t.b0u t.b0a
 a0u:Dm K t.f0p "times" "Fractions.times" L7 AQ t.b0o t.a0r
 a0f:Dm K t.g0q "__init__" "Residues.__init__" J7 ["self","prime"] t.a0x t.a0g
 a0t:Dm K t.g0q "nought" "Residues.nought" L6 ["self"] t.b0n t.a0y
 b0s:Dm K t.g0q "one" "Residues.one" Q7 ["self"] t.c0h t.b0r
 b0k:Dm K t.g0q "plus" "Residues.plus" O9 AQ t.c0f t.b0p
 b0e:Dm K t.g0q "times" "Residues.times" N3 AQ t.b0t t.b0g
 b0d:Dm K t.h0y "is_field" "Field.is_field" N6 ["self"] t.b0q t.b0i
 a0p:Dm K t.f0p "minus" "Fractions.minus" L8 Bt t.b0m t.a0v
 a0d:Dm K t.f0p "inverse" "Fractions.inverse" J8 Bt t.a0s t.a0h
 b0b:Dm K t.g0q "minus" "Residues.minus" N4 Bt t.b0v t.b0h
 a0n:Dm K t.g0q "inverse" "Residues.inverse" K5 Bt t.b0f t.a0o
 d0b:Df K mg "times_row" R8 NX t.f0h t.d0i
 g0c:Df K mg "noughts" AB NV t.h0g t.f0c
 c0y:Df K mg "column_at" R9 Mm t.f0u t.c0r
 c0m:Df K mg "columns_of" P6 ["table"] t.d0t t.c0o
 h0u:Df K mg "dot" Np ["kind","row","column"] t.dot t.h0w
 g0k:Df K mg "row_by" BM NY t.h0r t.g0v
 c0v:Df K mg "by_column" S3 Oa t.f0v t.d0l
 e0h:Df K mg "by_table" V7 GE t.g0r t.e0u
 h0l:Df K mg "rooms" Gj ["machine"] t.h0v t.h0d
 a0c:Df K mg "need_same_letters" J5 JR t.a0q t.a0e
 g0e:Df K mg "beside" Z4 SO t.h0q t.g0w
 c0q:Df K mg "put_beside" L5 GE t.e0n t.c0l
 c0g:Df K mg "need_field" V4 ["kind"] t.e0a t.c0p
 f0q:Df K mg "leading" Cw ["kind","row","width"] t.h0i t.f0b
 e0d:Df K mg "plus_row" V3 GE t.g0m t.e0c
 f0j:Df K mg "cleared" CD ["kind","kept","row"] t.h0b t.g0d
 h0o:Df K mg "keep" JE SN t.keep t.h0p
 d0p:Df K mg "kept_rows" Z3 ["kind","rows","width"] t.f0n t.d0j
 d0x:Df K mg "width_of" Bf ["rows"] t.g0o t.f0a
 f0i:Df K mg "echelon" CB ["kind","rows"] t.echelon t.f0r
 c0i:Df K mg "free_words" V6 ["kind","first","grown"] t.e0m t.c0k
 a0a:Df K mg "with_letter_behind" C2 ["kind","machine","last"] t.a0l t.a0b
 d0d:Df K mg "at_places" S4 NW t.f0x t.c0t
 e0f:Df K mg "narrowed" M9 ["kind","machine","kept"] t.g0x t.e0s
 h0t:Df K mg "less" Gk GE t.i0a t.d_less
 g0b:Df K mg "parting" AA NZ t.h0k t.f0e
 a0i:Df K mg "grown_while_alike" J6 Qj t.a0w t.a0j
 e0y:Df K mg "walkable" M8 ["kind","both","rows"] t.g0g t.e0o
 h0h:Df K mg "alike" S5 GE t.alike t.h0m
 e0g:Df K mg "_law_next" Bi SM t.g0l t.e0r
 d0m:Df K mg "_law_state" Y8 ["_law_script"] t.f0t t.d0f
 b0x:Df K mg "_law_divisor" U0 Ql t.d0a t.c0d
 f0o:Df K mg "_law_low" Cz ["_law_top","_law_bottom"] t.h0f t.f0g
 e0l:Df K mg "_law_plus" Bh Rk t.g0f t.d0z
 c0z:Df K mg "_law_times" Y7 Rk t.f0s t.c0u
 g0n:Df K mg "_law_of" DO Qm t.h0s t.g0t
 d0u:Df K mg "_law_sort" Bg ["_law_state_here"] t.g0y t.e0i
 d0w:Df K mg "_law_kind" Bj ["_law_sort_here"] t.g0s t.e0v
 c0j:Df K mg "_law_weight" V5 Qn t.e0q t.c0n
 c0c:Df K mg "_law_machine" E8 Uj t.d0c t.b0w
 f0l:Df K mg "_law_dot" CA SS t.h0n t.g0a
 d0v:Df K mg "_law_step" Q6 Ob t.g0h t.e0p
 c0e:Df K mg "_law_letters" O0 ["_law_state_here"] t.d0h t.b0y
 d0g:Df K mg "_law_along" F9 Uj t.f0k t.c0w
 c0a:Df K mg "_law_changed" C9 SX t.c0s t.b0z
 f0z:Df K mg "_law_two" Cy SY t.h0e t.f0d
 d0r:Df K mg "_law_first" Z0 SQ t.f0m t.c0x
 d0k:Df K mg "_law_right" Y9 Qk t.f0f t.d0e
 h0x:Df K mg "law" Nn ["_law_script"] t.law t.h0z
 d0n:KL K t.f0p
 d0q:mg "Fractions"=some (.ref t.f0p)
 d0o:MkO K t.f0p
 e0t:KL K t.g0q
 e0j:mg "Residues"=some (.ref t.g0q)
 e0k:Mk K t.g0q t.a0x
 h0a:KL K t.h0y
 h0c:mg "Field"=some (.ref t.h0y)
 g0z:MkO K t.h0y
 z_isinstance:mg "isinstance"=none
 z_int:mg "int"=none
 z_bool:mg "bool"=none
 z_abs:mg "abs"=none
 c_GREATEST_PRIME:∃tk,mg "GREATEST_PRIME"=some (Value.int 1000000 tk)
 z_tuple:mg "tuple"=none
 z_range:mg "range"=none
 z_len:mg "len"=none
 z_zip:mg "zip"=none
 z_reversed:mg "reversed"=none
 z_sorted:mg "sorted"=none
 z_list:mg "list"=none
 z_min:mg "min"=none
 z_enumerate:mg "enumerate"=none
 z_str:mg "str"=none
 k_ii:PySem.W.kitOne K (.type "int") (.type "int")=some true
 k_ib:PySem.W.kitOne K (.type "int") (.type "bool")=some false
 k_tt:PySem.W.kitOne K (.type "tuple") (.type "tuple")=some true
 k_bb:PySem.W.kitOne K (.type "bool") (.type "bool")=some true
 nP:BC K t.g0q "prime"
 iF_is_field:PySem.W.findIn K (.ref t.f0p) "is_field"=some (some (.ref t.b0q))
 iR_is_field:PySem.W.findIn K (.ref t.g0q) "is_field"=some (some (.ref t.b0q))
 k_ll:PySem.W.kitOne K (.type "list") (.type "list")=some true
 d_tabs:([t.P_echelon,t.P_alike]:List Addr).Nodup
 k_ss:PySem.W.kitOne K (.type "str") (.type "str")=some true
 tb_echelon:PySem.W.tabIn K "echelon"=some (t.c_echelon,t.P_echelon)
 e0b:PySem.W.nsIn K mainGlobals "echelon"=some (some (.ref t.echelon))
 tb_alike:PySem.W.tabIn K "alike"=some (t.c_alike,t.P_alike)
 g0u:PySem.W.nsIn K mainGlobals "alike"=some (some (.ref t.alike))
structure TbA(mg:Str->Option Value)(base:Heap)(t:OV):Prop where
 echelon:Tb mg base t.c_echelon t.P_echelon
 alike:Tb mg base t.c_alike t.P_alike
def Dt{K:aa}{a:Addr}{xs:List V}{u:V}{i:Nat}{G:Hp}{M:V->Hp->Prop}(h:o7 K G a xs)(e:xs[i]?=some u)(m:M u G):(Ua K a).go i G/\∀x H',(Ua K a).yld i G x H'->M x H':=⟨za ⟨h,e⟩,λx H' y=>by
 obtain⟨rfl,y⟩:=y;have:=y _ h;rw[e]at this;cases this;exact m⟩
def Kh{K:aa}{a:Addr}{xs:List V}{u:V}{i:Nat}{G:Hp}{M:V->Hp->Prop}(h:t8 K G a xs)(e:xs[i]?=some u)(m:M u G):(Ub K a).go i G/\∀x H',(Ub K a).yld i G x H'->M x H':=⟨za ⟨h,e⟩,λx H' y=>by
 obtain⟨rfl,y⟩:=y;have:=y _ h;rw[e]at this;cases this;exact m⟩
def Ej{lo:Int}{n i:Nat}{G:Hp}{M:V->Hp->Prop}(h:i<n)(m:M (.int (lo+i)) G):(Ry lo n).go i G/\∀x H',(Ry lo n).yld i G x H'->M x H':=⟨h,λx H' y=>by
 obtain⟨rfl,rfl⟩:=y;exact m⟩
seal L2.KF L2.PS L2.PE L2.PT L2.PW L2.PA L2.PG L2.ZV L2.PI
local macro_rules | `(tactic| fail)=>`(tactic| (first | apply Exists.intro | refine And.intro rfl ?_ | refine And.intro (by with_reducible assumption) ?_ | refine And.intro (o7.of (by assumption)) ?_ | refine And.intro (t8.of (by assumption)) ?_ | refine And.intro (AV.int _) ?_ | refine And.intro (AV.tup (by assumption)) ?_ | refine And.intro (‹Txt _ _ _›.k_ii) ?_ | refine And.intro (‹Txt _ _ _›.k_ib) ?_ | refine And.intro (‹Txt _ _ _›.k_tt) ?_ | refine And.intro (‹Txt _ _ _›.k_bb) ?_ | refine And.intro (‹Txt _ _ _›.nP) ?_ | refine And.intro (‹Txt _ _ _›.iF_is_field) ?_ | refine And.intro (‹Txt _ _ _›.iR_is_field) ?_ | refine And.intro (‹Txt _ _ _›.k_ll) ?_ | refine And.intro (‹Txt _ _ _›.d_tabs) ?_ | refine And.intro (‹Txt _ _ _›.k_ss) ?_))
section
variable{w:World}{K:aa}{mg:Str->Option Value}{base:Heap}{t:OV}
def Ag(T:Txt K mg t):o9 Pr w K mg base D2 1 t.g0i t.e0z ["thing"] sp_whole:=by
 refine T.e0w.F.ok HL (by rintro _ _ _ _ ⟨_,rfl,_⟩;rfl) λcdv A outer s H vs Q E hr h=>?_;obtain⟨i,rfl,k⟩:=h;refine⟨_,(c6 (d9 (Gs (o5 Cn (by rfl) T.z_isinstance boot_isinstance (D0 (pv 0) (Dy (v:=.ty "int") rfl T.z_int boot_int rfl))) (JJ (SA (o5 Cn (by rfl) T.z_isinstance boot_isinstance (D0 (pv 0) (Dy (v:=.ty "bool") rfl T.z_bool boot_bool rfl)))))))),?_⟩
 (repeat fail)
 (try refine Fi ?_)
 (repeat fail)
 exact k
def JP(T:Txt K mg t):o9 Pr w K mg base D2 1 t.h0j t.f0w JR sp_divisor:=by
 refine T.f0y.F.ok M7 (by rintro _ _ _ _ ⟨_,_,rfl,_⟩;rfl) λcdv A outer s H vs Q E hr h=>?_;obtain⟨a,b,rfl,k⟩:=h;refine⟨_,(a9 (sT 2 M7.nd (o5 Ey (by rfl) T.z_abs boot_abs (x9 (pv 0)))) (a9 (sT 3 M7.nd (o5 Ey (by rfl) T.z_abs boot_abs (x9 (pv 1)))) (a9 (Ab aC (l4 W9 (pv 3) c4 (l6 _)) (a9 (sT 4 M7.nd (l5 C4 (pv 2) (pv 3))) (a9 (sT 2 M7.nd (pv 3)) (c6 (sT 3 M7.nd (pv 4)))))) (c6 (d9 (pv 2)))))),?_⟩;refine⟨_,rfl,_,rfl,_,rfl,_,rfl,?_⟩;refine⟨λm σ H'=>∃g r l,σ=[some (.int a),some (.int b),some (.int g),some (.int r),l]/\m=r.toNat/\(0<=g/\0<=r/\dv g r=dv a b)/\H'=H,ze ⟨rfl,rfl,RP a b,rfl⟩,?_⟩;rintro m σ H' ⟨g,r,l,rfl,rfl,⟨g0,r0,e⟩,rfl⟩
 (repeat fail)
 refine Av (λhr0=>?_) (λhr0=>?_)
 . refine⟨λσ' H''=>∃g' r' l',σ'=[some (.int a),some (.int b),some (.int g'),some (.int r'),l']/\r'.toNat < r.toNat/\(0<=g'/\0<=r'/\dv g' r'=dv a b)/\H''=H',λσ' H'' ⟨g',r',l',e1,e2,e3,e4⟩=>⟨_,e2,g',r',l',e1,rfl,e3,e4⟩,?_⟩;refine⟨_,rfl,_,rfl,za ⟨rfl,rfl,(show r≠0 by omega),_,rfl,_,rfl,?_⟩⟩;exact zd ⟨rfl,d_less hr0,TN e hr0,rfl⟩
 . refine⟨_,rfl,?_⟩
   (try dsimp only)
   rw[ZK e g0 r0 hr0];exact k
def Lr{a b:Int}(pb:0 < b):a.fdiv (dv a b)=tp a b/\b.fdiv (dv a b)=bt a b:=by
 unfold tp bt;rw[Nk oM];exact⟨rfl,rfl⟩
def OB{a b:Int}(nb:b < 0):a.fdiv (-(dv a b))=tp a b/\b.fdiv (-(dv a b))=bt a b:=by
 unfold tp bt;rw[Nl nb];exact⟨rfl,rfl⟩
def Ai(T:Txt K mg t):o9 Pr w K mg base D2 36 t.g0p t.e0e ["top","bottom"] sp_fraction:=by
 refine T.e0x.F.ok Y4 (by rintro _ _ _ _ ⟨_,_,rfl,_⟩;rfl) λcdv A outer s H vs Q E hr h=>?_;obtain⟨a,b,rfl,nb,k⟩:=h;have hd:dv a b≠0:=cB (Es nb);refine⟨_,(a9 (w8 (PW.pt (HY (Aa (Q9 (C3 (Ag T) hr.m T.e0w (x9 (pv 0))))) (Gp (Aa (Q9 (C3 (Ag T) hr.m T.e0w (x9 (pv 1)))))))) (c6 U4) l9) (a9 (w8 (l4 D5 (pv 1) c4 (l6 _)) (c6 U4) l9) (a9 (sT 2 Y4.nd (C3 (JP T) hr.m T.f0y (D0 (pv 0) (pv 1)))) (a9 (w8 (l4 NM (pv 1) c4 (l6 _)) (c6 (sT 2 Y4.nd (NC Jn (pv 2)))) l9) (c6 (d9 (B4 (D0 (l5 (BQ hr (by decide) KN) (pv 0) (pv 2)) (l5 (BQ hr (by decide) KN) (pv 1) (pv 2)))))))))),?_⟩
 (repeat fail)
 (try refine AU ?_)
 (repeat fail)
 (try refine AU ?_)
 (repeat fail)
 refine X4 (λh0=>absurd h0 nb) (λ_=>?_)
 (repeat fail)
 refine Av (λh0=>?_) (λh0=>?_)
 . have hd':-(dv a b)≠0:=by omega
   (repeat fail)
   refine⟨(by show 2<=sizeLine;decide),λp hp=>?_⟩;refine k _ _ (c7 hp) ?_
   (try dsimp only)
   rw[(OB h0).1,(OB h0).2];exact FQ.new
 . (repeat fail)
   refine⟨(by show 2<=sizeLine;decide),λp hp=>?_⟩;refine k _ _ (c7 hp) ?_
   (try dsimp only)
   rw[(Lr oM).1,(Lr oM).2];exact FQ.new
def Im(T:Txt K mg t):o9 Pr w K mg base D2 1 t.g0j t.d0y ["number"] sp_prime:=by
 refine T.d0s.F.ok Y0 (by rintro _ _ _ _ ⟨_,rfl,_⟩;rfl) λcdv A outer s H vs Q E hr h=>?_;obtain⟨n,rfl,⟨n2,n6,hp⟩,k⟩:=h;have PP:=IJ hp;refine⟨_,(a9 (w8 (l4 NM (pv 0) c4 (l6 _)) (c6 (d9 BP)) l9) (a9 (sT 1 Y0.nd c4) (a9 (Ab aC (l4 VB (l5 CJ (pv 1) (pv 1)) (pv 0) (l6 _)) (a9 (w8 (l4 D5 (l5 C4 (pv 0) (pv 1)) c4 (l6 _)) (c6 (d9 BP)) l9) (c6 (sT 1 Y0.nd (l5 E3 (pv 1) c4))))) (c6 (d9 BP))))),?_⟩;refine⟨_,rfl,za ⟨rfl,rfl,_,rfl,?_⟩⟩;refine Av (λh0=>absurd h0 oM) (λ_=>?_);refine⟨λm σ H'=>∃f:Int,σ=[some (.int n),some (.int f)]/\m=(n+2 - f).toNat/\(2<=f/\f<=n+1)/\H'=H,za ⟨rfl,rfl,⟨oM,oM⟩,rfl⟩,?_⟩;rintro m σ H' ⟨f,rfl,rfl,⟨f2,fn⟩,rfl⟩;have cm:MQ f f:=.inl ⟨oM,oM⟩;refine⟨_,rfl,_,rfl,za ⟨rfl,rfl,cm,_,rfl,za ⟨rfl,rfl,_,rfl,?_⟩⟩⟩;refine Av (λh0=>?_) (λh0=>?_)
 . refine⟨λσ' H''=>∃f':Int,σ'=[some (.int n),some (.int f')]/\(n+2 - f').toNat < (n+2 - f).toNat/\(2<=f'/\f'<=n+1)/\H''=H',λσ' H'' ⟨f',e1,e2,e3,e4⟩=>⟨_,e2,f',e1,rfl,e3,e4⟩,?_⟩;refine⟨_,rfl,_,rfl,za ⟨rfl,rfl,(show f≠0 by omega),rfl,_,rfl,?_⟩⟩;have hs:=UH f2 h0;refine X4 (λh1=>absurd h1 (PP.2 f f2 h0)) (λ_=>?_);refine⟨_,rfl,za ⟨rfl,rfl,?_⟩⟩;exact⟨_,rfl,oM,⟨oM,oM⟩,rfl⟩
 . exact k
def Aj(T:Txt K mg t):o9 Pr w K mg base D2 2 t.a0x t.a0g ["self","prime"] (Pt t.g0q):=by
 refine T.a0f.F.ok Y5 (by rintro _ _ _ _ ⟨_,_,_,rfl,_⟩;rfl) λcdv A outer s H vs Q E hr h=>?_;obtain⟨x,dx,n,rfl,hn,hx,k⟩:=h;refine⟨_,(a9 (w8 (PW.pt (HY (Aa (Q9 (C3 (Ag T) hr.m T.e0w (x9 (pv 1))))) (HY (l4 W9 (pv 1) (Qa (v:=.int 1000000) rfl T.c_GREATEST_PRIME.choose_spec ⟨_,rfl⟩) (l6 _)) (Gp (Aa (Q9 (C3 (Im T) hr.m T.d0s (x9 (pv 1))))))))) (c6 U4) l9) (c6 (Sx (pv 0) (pv 1) rfl))),?_⟩;refine⟨_,rfl,_,rfl,_,rfl,?_⟩
 (try refine AU ?_)
 refine⟨_,rfl,za ⟨rfl,rfl,_,rfl,?_⟩⟩;refine Av (λh0=>absurd h0 (by have:=hn.2.1;omega)) (λ_=>?_);refine⟨_,rfl,_,rfl,hn,_,rfl,?_⟩
 (try refine AU ?_)
 refine⟨_,rfl,_,rfl,x,_,dx,_,rfl,hx,T.e0t,T.nP,(by show 0 < 1000;decide),?_⟩;exact k
def FZ{n:Nat}(h:Ay Hg n):n<=60000000:=by
 rcases h with h | h
 . exact h
 . have:=h 0 (⟨2,1,by decide,by unfold dv;decide⟩:Fr);exact absurd this.1 (by decide)
def AO(T:Txt K mg t):o9 Pr w K mg base D2 1 t.b0c t.a0m ["self"] (Fw t.f0p [] Hg Kj Fr.zero):=by
 refine T.a0k.F.ok AM (by rintro _ _ _ _ ⟨_,rfl,_⟩;rfl) λcdv A outer s H vs Q E hr h=>?_;obtain⟨x,rfl,_,k⟩:=h;refine⟨_,(c6 (d9 (B4 (D0 c4 c4)))),?_⟩;exact⟨(by show 2<=sizeLine;decide),λp hp=>k _ _ (c7 hp) FQ.new⟩
def BW(T:Txt K mg t):o9 Pr w K mg base D2 38 t.b0u t.b0a AQ (Fx t.f0p [] Hg Kj Fr.add):=by
 refine T.a0z.F.ok BK (by rintro _ _ _ _ ⟨_,_,_,_,_,_,_,rfl,_⟩;rfl) λcdv A outer s H vs Q E hr h=>?_;obtain⟨k0,x,y,a,b,m,n,rfl,⟨_,⟨px,rfl,hx⟩,⟨py,rfl,hy⟩,sa,sb,hmn⟩,k⟩:=h;have sa:a.sz m:=sa;have sb:b.sz n:=sb;have hmn:=FZ hmn;have m1:Dj a.t b.b:=EX (n:=n) sa.1 sb.2 oM;have m2:Dj b.t a.b:=EX (n:=m) sb.1 sa.2 oM;have m3:Dj a.b b.b:=EX (n:=n) sa.2 sb.2 oM;refine⟨_,(c6 (d9 (C3 (Ai T) hr.m T.e0x (D0 (l5 E3 (l5 O1 (j8 h9 (pv 1) c4 (λ_ _=>rfl)) (j8 h9 (pv 2) c4 (λ_ _=>rfl))) (l5 O1 (j8 h9 (pv 2) c4 (λ_ _=>rfl)) (j8 h9 (pv 1) c4 (λ_ _=>rfl)))) (l5 O1 (j8 h9 (pv 1) c4 (λ_ _=>rfl)) (j8 h9 (pv 2) c4 (λ_ _=>rfl))))))),?_⟩
 (repeat fail)
 exact⟨cB (aF a.p b.p),k⟩
def Br(T:Txt K mg t):o9 Pr w K mg base D2 38 t.b0o t.a0r AQ (Fx t.f0p [] Hg Kj Fr.mul):=by
 refine T.a0u.F.ok Bc (by rintro _ _ _ _ ⟨_,_,_,_,_,_,_,rfl,_⟩;rfl) λcdv A outer s H vs Q E hr h=>?_;obtain⟨k0,x,y,a,b,m,n,rfl,⟨_,⟨px,rfl,hx⟩,⟨py,rfl,hy⟩,sa,sb,hmn⟩,k⟩:=h;have sa:a.sz m:=sa;have sb:b.sz n:=sb;have hmn:=FZ hmn;have m1:Dj a.t b.t:=EX (n:=n) sa.1 sb.1 oM;have m3:Dj a.b b.b:=EX (n:=n) sa.2 sb.2 oM;refine⟨_,(c6 (d9 (C3 (Ai T) hr.m T.e0x (D0 (l5 O1 (j8 h9 (pv 1) c4 (λ_ _=>rfl)) (j8 h9 (pv 2) c4 (λ_ _=>rfl))) (l5 O1 (j8 h9 (pv 1) c4 (λ_ _=>rfl)) (j8 h9 (pv 2) c4 (λ_ _=>rfl))))))),?_⟩
 (repeat fail)
 exact⟨cB (aF a.p b.p),k⟩
def Bq(T:Txt K mg t)(p:Int)(hp:2<=p):o9 Pr w K mg base D2 1 t.b0n t.a0y ["self"] (Fw t.g0q (Lf p) (U3 p hp) (Ki p) (U3 p hp).zero):=by
 refine T.a0t.F.ok Bb (by rintro _ _ _ _ ⟨_,rfl,_⟩;rfl) λcdv A outer s H vs Q E hr h=>?_;obtain⟨x,rfl,_,k⟩:=h;refine⟨_,(c6 (d9 c4)),?_⟩;exact k _ _ (h8.refl _) rfl
def CK(T:Txt K mg t)(p:Int)(hp:2<=p):o9 Pr w K mg base D2 1 t.c0f t.b0p AQ (Fx t.g0q (Lf p) (U3 p hp) (Ki p) (U3 p hp).add):=by
 refine T.b0k.F.ok Cu (by rintro _ _ _ _ ⟨_,_,_,_,_,_,_,rfl,_⟩;rfl) λcdv A outer s H vs Q E hr h=>?_;obtain⟨k0,x,y,a,b,m,n,rfl,⟨⟨q,dx,rfl,hq⟩,rfl,rfl,sa,sb,hmn⟩,k⟩:=h;refine⟨_,(c6 (d9 (l5 C4 (l5 E3 (pv 1) (pv 2)) (Gr (pv 0) rfl)))),?_⟩;refine⟨_,rfl,_,rfl,za ⟨rfl,rfl,_,rfl,q,_,dx,za ⟨rfl,hq,T.e0t,T.nP,AD p,za ⟨rfl,rfl,(show p≠0 by omega),?_⟩⟩⟩⟩;exact k _ _ (h8.refl _) rfl
def M1(T:Txt K mg t)(p:Int)(hp:2<=p)(hq:p<=1000000):o9 Pr w K mg base D2 1 t.b0t t.b0g AQ (Fx t.g0q (Lf p) (U3 p hp) (Ki p) (U3 p hp).mul):=by
 refine T.b0e.F.ok BI (by rintro _ _ _ _ ⟨_,_,_,_,_,_,_,rfl,_⟩;rfl) λcdv A outer s H vs Q E hr h=>?_;obtain⟨k0,x,y,a,b,m,n,rfl,⟨⟨q,dx,rfl,hk⟩,rfl,rfl,sa,sb,hmn⟩,k⟩:=h;have cm:MQ a.x b.x:=.inl ⟨by have:=a.h0;omega,by have:=a.h1;omega⟩;refine⟨_,(c6 (d9 (l5 C4 (l5 CJ (pv 1) (pv 2)) (Gr (pv 0) rfl)))),?_⟩;refine⟨_,rfl,_,rfl,za ⟨rfl,rfl,cm,_,rfl,q,_,dx,za ⟨rfl,hk,T.e0t,T.nP,AD p,za ⟨rfl,rfl,(show p≠0 by omega),?_⟩⟩⟩⟩;exact k _ _ (h8.refl _) rfl
def CL(T:Txt K mg t):o9 Pr w K mg base D2 1 t.c0b t.b0j ["self"] (Fw t.f0p [] Hg Kj Fr.one):=by
 refine T.b0l.F.ok Cv (by rintro _ _ _ _ ⟨_,rfl,_⟩;rfl) λcdv A outer s H vs Q E hr h=>?_;obtain⟨x,rfl,_,k⟩:=h;refine⟨_,(c6 (d9 (B4 (D0 c4 c4)))),?_⟩;exact⟨(by show 2<=sizeLine;decide),λp hp=>k _ _ (c7 hp) FQ.new⟩
def Dl(T:Txt K mg t)(p:Int)(hp:2<=p):o9 Pr w K mg base D2 1 t.c0h t.b0r ["self"] (Fw t.g0q (Lf p) (U3 p hp) (Ki p) (U3 p hp).one):=by
 refine T.b0s.F.ok Dk (by rintro _ _ _ _ ⟨_,rfl,_⟩;rfl) λcdv A outer s H vs Q E hr h=>?_;obtain⟨x,rfl,_,k⟩:=h;refine⟨_,(c6 (d9 c4)),?_⟩;exact k _ _ (h8.refl _) rfl
def S6(T:Txt K mg t):o9 Pr w K mg base D2 1 t.b0q t.b0i ["self"] (UI true):=by
 refine T.b0d.F.ok BL (by rintro _ _ _ _ ⟨_,rfl,_⟩;rfl) λcdv A outer s H vs Q E hr h=>?_;obtain⟨x,rfl,k⟩:=h;exact⟨_,(c6 (d9 BP)),k⟩
def Rz(x:Fr):Fr:=⟨-x.t,x.b,x.p,by rw[TK];exact x.l⟩
def X0(x:Fr):Fr:=if h:x.t≠0 then⟨tp x.b x.t,bt x.b x.t,BA h,Zq h⟩else x
def Az{x:Fr}(h:x≠Fr.zero):x.t≠0:=λe=>by
 refine h (Fr.eq_of e ?_);have h1:=x.l;rw[e]at h1;have h2:dv 0 x.b=x.b:=by rw[QM,Hi];have:=x.p;omega
 rw[h2]at h1;exact h1
def Fr_z{x:Fr}(h:x=Fr.zero):x.t=0:=by rw[h];rfl
def Jg{x:Fr}(h:x.t≠0):X0 x=⟨tp x.b x.t,bt x.b x.t,BA h,Zq h⟩:=by unfold X0;rw[dif_pos h]
def DE{x:Fr}(h:x.t≠0):(X0 x).t=tp x.b x.t:=by rw[Jg h]
def DF{x:Fr}(h:x.t≠0):(X0 x).b=bt x.b x.t:=by rw[Jg h]
def Bs(T:Txt K mg t):o9 Pr w K mg base D2 1 t.b0m t.a0v Bt (Ng t.f0p [] Hg Kj Rz):=by
 refine T.a0p.F.ok Bd (by rintro _ _ _ _ ⟨_,_,_,rfl,_⟩;rfl) λcdv A outer s H vs Q E hr h=>?_;obtain⟨k0,x,a,rfl,⟨_,⟨px,rfl,hx⟩⟩,k⟩:=h;refine⟨_,(c6 (d9 (B4 (D0 (NC Jn (j8 h9 (pv 1) c4 (λ_ _=>rfl))) (j8 h9 (pv 1) c4 (λ_ _=>rfl)))))),?_⟩
 (repeat fail)
 exact⟨(by show 2<=sizeLine;decide),λp hp=>k _ _ (c7 hp) FQ.new⟩
def Ak(T:Txt K mg t):o9 Pr w K mg base D2 37 t.a0s t.a0h Bt (Nh t.f0p [] Hg Kj X0):=by
 refine T.a0d.F.ok Y6 (by rintro _ _ _ _ ⟨_,_,_,rfl,_⟩;rfl) λcdv A outer s H vs Q E hr h=>?_;obtain⟨k0,x,a,rfl,⟨_,⟨px,rfl,hx⟩,na⟩,k⟩:=h;have h0:=Az (x:=a) na;refine⟨_,(c6 (d9 (C3 (Ai T) hr.m T.e0x (D0 (j8 h9 (pv 1) c4 (λ_ _=>rfl)) (j8 h9 (pv 1) c4 (λ_ _=>rfl)))))),?_⟩
 (repeat fail)
 refine λv H' q f=>k v H' q ?_;show FQ H' v (X0 a).t (X0 a).b;rw[DE h0,DF h0];exact f
def Ru(p:Int)(hp:2<=p)(a:Re p):Re p:=Re.of p oM (-a.x)
def Rv(p:Int)(hp:2<=p)(a:Re p):Re p:=⟨ri p a.x,(Rh oM).1,(Rh oM).2⟩
def BV(T:Txt K mg t)(p:Int)(hp:2<=p):o9 Pr w K mg base D2 1 t.b0v t.b0h Bt (Ng t.g0q (Lf p) (U3 p hp) (Ki p) (Ru p hp)):=by
 refine T.b0b.F.ok BJ (by rintro _ _ _ _ ⟨_,_,_,rfl,_⟩;rfl) λcdv A outer s H vs Q E hr h=>?_;obtain⟨k0,x,a,rfl,⟨⟨q,dx,rfl,hq⟩,rfl⟩,k⟩:=h;refine⟨_,(c6 (d9 (l5 C4 (NC Jn (pv 1)) (Gr (pv 0) rfl)))),?_⟩;refine⟨_,rfl,_,rfl,_,rfl,q,_,dx,za ⟨rfl,hq,T.e0t,T.nP,AD p,za ⟨rfl,rfl,(show p≠0 by omega),?_⟩⟩⟩;exact k _ _ (h8.refl _) rfl
def half{l:Int}(h:0 < l):0<=l.fdiv 2/\(l.fdiv 2).toNat < l.toNat:=by
 rw[du l (by decide)];omega
def AN(T:Txt K mg t)(p:Int)(hp:2<=p)(hq:p<=1000000):o9 Pr w K mg base D2 3 t.b0f t.a0o Bt (Nh t.g0q (Lf p) (U3 p hp) (Ki p) (Rv p hp)):=by
 refine T.a0n.F.ok w6 (by rintro _ _ _ _ ⟨_,_,_,rfl,_⟩;rfl) λcdv A outer s H vs Q E hr h=>?_;obtain⟨k0,x,a,rfl,⟨⟨q,dx,rfl,hk0⟩,rfl,na⟩,k⟩:=h;have hk:∀{H':Hp},h8 H H'->H' q=some (.ins t.g0q dx (Lf p)):=λe=>e _ _ hk0;have nt:(Lf p).lookup ("times":Str)=none:=Ad p dK;refine⟨_,(a9 (w8 (l4 D5 (pv 1) c4 (l6 _)) (c6 U4) l9) (a9 (sT 2 w6.nd c4) (a9 (sT 3 w6.nd (pv 1)) (a9 (sT 4 w6.nd (l5 CI (Gr (pv 0) rfl) c4)) (a9 (Ab aC (l4 W9 (pv 4) c4 (l6 _)) (a9 (w8 (l4 D5 (l5 C4 (pv 4) c4) c4 (l6 _)) (c6 (sT 2 w6.nd (P8 (pv 0) T.e0t T.b0e.t (M1 T p hp hq) hr.m T.b0e.b .nil B0 (D0 (pv 2) (pv 3))))) l9) (a9 (sT 3 w6.nd (P8 (pv 0) T.e0t T.b0e.t (M1 T p hp hq) hr.m T.b0e.b .nil B0 (D0 (pv 3) (pv 3)))) (c6 (sT 4 w6.nd (l5 BR (pv 4) c4)))))) (c6 (d9 (pv 2)))))))),?_⟩;refine⟨_,rfl,rfl,_,rfl,?_⟩;refine X4 (λh0=>absurd (Re.eq_of h0) na) (λh0=>?_);refine⟨_,rfl,_,rfl,q,_,dx,za ⟨rfl,hk0,T.e0t,T.nP,AD p,za ⟨rfl,rfl,?_⟩⟩⟩;refine⟨λm σ H'=>∃l pr sq:Int,σ=[some (.ref q),some (.int a.x),some (.int pr),some (.int sq),some (.int l)]/\m=l.toNat/\(0<=l/\0<=sq/\sq < p/\Jf p a.x l pr sq)/\h8 H H',ze ⟨rfl,rfl,⟨oM,a.h0,a.h1,Nw hp⟩,h8.refl _⟩,?_⟩;rintro m σ H' ⟨l,pr,sq,rfl,rfl,⟨l0,s0,s1,ri⟩,qq⟩;refine⟨_,rfl,za ⟨rfl,rfl,_,rfl,?_⟩⟩;refine Av (λhl=>?_) (λhl=>?_)
 . refine⟨λσ' H''=>∃l' pr' sq':Int,σ'=[some (.ref q),some (.int a.x),some (.int pr'),some (.int sq'),some (.int l')]/\l'.toNat < l.toNat/\(0<=l'/\0<=sq'/\sq' < p/\Jf p a.x l' pr' sq')/\h8 H H'',λσ' H'' ⟨l',pr',sq',e1,e2,e3,e4⟩=>⟨_,e2,l',pr',sq',e1,rfl,e3,e4⟩,?_⟩;have fd:=half hl;have m0:∀S:SR,Ay S (0+0):=λ_=>.inl (by decide);refine⟨_,rfl,za ⟨rfl,rfl,(show(2:Int)≠0 by decide),rfl,_,rfl,?_⟩⟩;refine X4 (λho=>?_) (λho=>?_)
   . refine⟨_,rfl,zd ⟨rfl,hk qq,nt,_,rfl,_,rfl,zd ⟨(⟨pr,ri.2.1,ri.2.2⟩:Re p),(⟨sq,s0,s1⟩:Re p),0,0,rfl,⟨za ⟨rfl,hk qq⟩,rfl,rfl,trivial,trivial,m0 _⟩,λv1 H1 q1 f1=>?_⟩⟩⟩;obtain rfl:v1=.int ((pr * sq).fmod p):=f1;have s2:=qq.trans q1;refine⟨_,rfl,zd ⟨rfl,hk s2,nt,_,rfl,_,rfl,zd ⟨(⟨sq,s0,s1⟩:Re p),(⟨sq,s0,s1⟩:Re p),0,0,rfl,⟨za ⟨rfl,hk s2⟩,rfl,rfl,trivial,trivial,m0 _⟩,λv2 H2 q2 f2=>?_⟩⟩⟩;obtain rfl:v2=.int ((sq * sq).fmod p):=f2;refine⟨_,rfl,za ⟨rfl,rfl,⟨by decide,by decide⟩,?_⟩⟩;exact zd ⟨rfl,fd.2,⟨fd.1,(JG oM).1,(JG oM).2,Sn oM ri hl (by rw[<- fe (by decide)];exact ho)⟩,s2.trans q2⟩
   . refine⟨_,rfl,zd ⟨rfl,hk qq,nt,_,rfl,_,rfl,zd ⟨(⟨sq,s0,s1⟩:Re p),(⟨sq,s0,s1⟩:Re p),0,0,rfl,⟨za ⟨rfl,hk qq⟩,rfl,rfl,trivial,trivial,m0 _⟩,λv2 H2 q2 f2=>?_⟩⟩⟩;obtain rfl:v2=.int ((sq * sq).fmod p):=f2;refine⟨_,rfl,za ⟨rfl,rfl,⟨by decide,by decide⟩,?_⟩⟩;exact zd ⟨rfl,fd.2,⟨fd.1,(JG oM).1,(JG oM).2,PR oM ri hl (by rw[<- fe (by decide)];exact ho)⟩,qq.trans q2⟩
 . refine⟨_,rfl,?_⟩;have e:=Sl ri hl;refine k _ _ qq ?_;show V.int pr=.int (Mine.ri p a.x);rw[e]
def TZ{p:Int}{hp:2<=p}{x:Re p}(h:x≠(U3 p hp).zero):0 < x.x:=by
 have h0:=x.h0;by_cases e:x.x=0
 . exact absurd (Re.eq_of e) h
 . omega
def R_fr(T:Txt K mg t):g9 Pr w K mg base where
 S:=Hg
 C:=t.f0p
 fs:=[]
 cl:=T.d0n
 is:=Kj
 same e h:=FQ.same e h
 isd h:=FQ.is h
 F:={
  neg:=Rz
  inv:=X0
  add_neg:=λx=>Fr.eq_of (DQ x.p).1 (DQ x.p).2
  mul_inv:=λx h=>Fr.eq_of (by show tp (x.t * (X0 x).t) (x.b * (X0 x).b)=1;rw[DE (Az h),DF (Az h)];exact(Fu (Az h) x.nb).1) (by show bt (x.t * (X0 x).t) (x.b * (X0 x).b)=1;rw[DE (Az h),DF (Az h)];exact(Fu (Az h) x.nb).2)
  sz_neg:=λm x h=>⟨by show(-x.t).natAbs<=_;rw[Int.natAbs_neg];exact h.1,h.2⟩
  sz_inv:=λm x h s=>⟨by rw[DE (Az h)];exact af (KQ (Az h)) s.2,by rw[DF (Az h)];exact af (LH (Az h)) s.1⟩ }
 B:=ZE
 f_plus:=_
 d_plus:=_
 t_plus:=T.a0z.t
 b_plus:=T.a0z.b
 l_plus:=rfl
 G_plus:=(BW T).mono (by decide)
 f_times:=_
 d_times:=_
 t_times:=T.a0u.t
 b_times:=T.a0u.b
 l_times:=rfl
 G_times:=(Br T).mono (by decide)
 f_nought:=_
 d_nought:=_
 t_nought:=T.a0k.t
 b_nought:=T.a0k.b
 l_nought:=rfl
 G_nought:=(AO T).mono (by decide)
 f_one:=_
 d_one:=_
 t_one:=T.b0l.t
 b_one:=T.b0l.b
 l_one:=rfl
 G_one:=(CL T).mono (by decide)
 f_minus:=_
 d_minus:=_
 t_minus:=T.a0p.t
 b_minus:=T.a0p.b
 l_minus:=rfl
 G_minus:=(Bs T).mono (by decide)
 f_inverse:=_
 d_inverse:=_
 t_inverse:=T.a0d.t
 b_inverse:=T.a0d.b
 l_inverse:=rfl
 G_inverse:=(Ak T).mono (by decide)
 f_is_field:=_
 d_is_field:=_
 t_is_field:=⟨T.iF_is_field,T.b0d.t.2,T.b0d.t.3⟩
 b_is_field:=T.b0d.b
 l_is_field:=rfl
 G_is_field:=(S6 T).mono (by decide)
def R_re(T:Txt K mg t)(p:Int)(hp:2<=p)(hq:p<=1000000)(hP:Hs p=true):g9 Pr w K mg base where
 S:=U3 p hp
 C:=t.g0q
 fs:=Lf p
 cl:=T.e0t
 is:=Ki p
 same _ h:=h
 isd {H v x} h:=by cases (show v=.int x.x from h);exact .int _
 F:={
  neg:=Ru p hp
  inv:=Rv p hp
  add_neg:=λx=>Re.eq_of (r_pm oM)
  mul_inv:=λx h=>Re.eq_of (Sm (IJ hP).nat (TZ (hp:=hp) h) x.h1)
  sz_neg:=λ_ _ _=>trivial
  sz_inv:=λ_ _ _ _=>trivial }
 B:=Vw p hp
 f_plus:=_
 d_plus:=_
 t_plus:=T.b0k.t
 b_plus:=T.b0k.b
 l_plus:=Ad p dK
 G_plus:=(CK T p hp).mono (by decide)
 f_times:=_
 d_times:=_
 t_times:=T.b0e.t
 b_times:=T.b0e.b
 l_times:=Ad p dK
 G_times:=(M1 T p hp hq).mono (by decide)
 f_nought:=_
 d_nought:=_
 t_nought:=T.a0t.t
 b_nought:=T.a0t.b
 l_nought:=Ad p dK
 G_nought:=(Bq T p hp).mono (by decide)
 f_one:=_
 d_one:=_
 t_one:=T.b0s.t
 b_one:=T.b0s.b
 l_one:=Ad p dK
 G_one:=(Dl T p hp).mono (by decide)
 f_minus:=_
 d_minus:=_
 t_minus:=T.b0b.t
 b_minus:=T.b0b.b
 l_minus:=Ad p dK
 G_minus:=(BV T p hp).mono (by decide)
 f_inverse:=_
 d_inverse:=_
 t_inverse:=T.a0n.t
 b_inverse:=T.a0n.b
 l_inverse:=Ad p dK
 G_inverse:=(AN T p hp hq).mono (by decide)
 f_is_field:=_
 d_is_field:=_
 t_is_field:=⟨T.iR_is_field,T.b0d.t.2,T.b0d.t.3⟩
 b_is_field:=T.b0d.b
 l_is_field:=Ad p dK
 G_is_field:=(S6 T).mono (by decide)
inductive So(T:Txt K mg t):g9 Pr w K mg base->Str->Int->Prop
 | fr:So T (R_fr T) "fractions" 0
 | re (p:Int) (hp:2<=p) (hq:p<=1000000) (hi:Hs p=true):So T (R_re T p hp hq hi) "residues" p
def K7(_:Hp)(v:V)(_:Str)(p:Int):Prop:=v=.int p
def K7.same{H H':Hp}{v:V}{nm:Str}{p:Int}(_:w9 H H')(h:K7 H v nm p):K7 H' v nm p:=h
def Dr(H:Hp)(a:Addr):Prop:=∃x:Int,H a=some (.lst [.int x])\/∃d:Int,H a=some (.lst [.int d,.int x])
def i3(a:Addr)(H H':Hp):Prop:=∀b o,b≠a->H b=some o->H' b=some o
def i3.refl(a:Addr)(H:Hp):i3 a H H:=λ_ _ _ h=>h
def i3.trans{a:Addr}{H H1 H2:Hp}(x:i3 a H H1)(y:i3 a H1 H2):i3 a H H2:=λb o n h=>y b o n (x b o n h)
theorem i3.upd{a:Addr}{H:Hp}{o:HO}:i3 a H (upd H a o):=λb u n h=>by rw[j6 n];exact h
def i3.of{a:Addr}{H H':Hp}(x:h8 H H'):i3 a H H':=λb o _ h=>x b o h
def sp_next:Sp:=λvs H Q _=>∃(a:Addr) (m:Int),vs=[.ref a,.int m]/\(Dr H a/\0 < m/\m<=1000000000000000)/\∀(r:Int) H',i3 a H H'->Dr H' a->0<=r->r < m->Q (.int r) H'
def Na(K:aa):Sp:=λvs H Q _=>∃(a:Addr) (ns:List Int),vs=[.ref a]/\t8 K H a (ns.map V.int)/\ns.length<=63/\∀b H',H b=none->h8 H H'->Dr H' b->Q (.ref b) H'
def LZ{m:Int}(h:0 < m)(h':m<=1000000000000000)(x:Int):RD x m:=by
 refine⟨oM,?_⟩;have:m.natAbs<=2 ^ 50:=by
  have e:(2:Nat) ^ 50=1125899906842624:=by decide
  omega
 by_cases e:m.natAbs=0
 . rw[e];decide
 . rw[Nat.log2_lt e];exact Nat.lt_of_le_of_lt this (Nat.pow_lt_pow_right (by decide) (by decide))
def l8(T:Txt K mg t):o9 Pr w K mg base D2 1 t.g0l t.e0r SM sp_next:=by
 refine T.e0g.F.ok Da (by rintro _ _ _ _ ⟨_,_,rfl,_⟩;rfl) λcdv A outer s H vs Q E hr h=>?_;obtain⟨a,m,rfl,⟨⟨x,hD⟩,m0,m1⟩,k⟩:=h;refine⟨_,(a9 (w8 (l4 D5 (o5 u9 (by rfl) T.z_len PySem.boot_len (x9 (pv 0))) c4 (l6 _)) (a9 (sT 2 Da.nd (l5 C4 (j8 D1 (pv 0) c4 (λ_ _=>rfl)) (pv 1))) (a9 (U1 (l5 BR (j8 D1 (pv 0) c4 (λ_ _=>rfl)) (pv 1)) (Ac (pv 0) c4 O4)) (a9 (w8 (l4 D5 (j8 D1 (pv 0) c4 (λ_ _=>rfl)) c4 (l6 _)) (c6 (E1 (U6 bg PySem.F.slot_list_pop PySem.F.type_list_pop Oc (pv 0) (x9 c4)))) l9) (c6 (d9 (pv 2)))))) l9) (a9 (U1 (l5 C4 (l5 E3 (l5 CJ (j8 D1 (pv 0) c4 (λ_ _=>rfl)) c4) c4) c4) (Ac (pv 0) c4 O4)) (c6 (d9 (l5 C4 (l5 BR (j8 D1 (pv 0) c4 (λ_ _=>rfl)) c4) (pv 1)))))),?_⟩;rcases hD with hD | ⟨d,hD⟩
 . have lc:AX K (.ref a) H 1:=.inl ⟨_,t8.of hD,rfl⟩;refine⟨_,rfl,za ⟨rfl,lc,rfl,_,rfl,?_⟩⟩;refine X4 (λh=>absurd h (by decide)) (λ_=>?_);refine⟨_,rfl,ze ⟨rfl,rfl,t8.of hD,rfl,za ⟨rfl,rfl,.inr ⟨by decide,by decide⟩,za ⟨rfl,rfl,za ⟨rfl,rfl,(show(2305843009213693951:Int)≠0 by decide),?_⟩⟩⟩⟩⟩;refine⟨_,rfl,ze ⟨rfl,rfl,hD,rfl,?_⟩⟩;refine⟨_,rfl,ze ⟨rfl,rfl,t8.of c5,rfl,za ⟨rfl,rfl,⟨by decide,by decide⟩,_,rfl,za ⟨rfl,rfl,(show m≠0 by omega),?_⟩⟩⟩⟩;exact k _ _ i3.upd ⟨_,.inl c5⟩ (br _ m0) (bu _ m0)
 . have lc:AX K (.ref a) H 2:=.inl ⟨_,t8.of hD,rfl⟩;refine⟨_,rfl,za ⟨rfl,lc,rfl,_,rfl,?_⟩⟩;refine X4 (λ_=>?_) (λh=>absurd rfl h);refine⟨_,rfl,ze ⟨rfl,rfl,t8.of hD,rfl,_,rfl,za ⟨rfl,rfl,(show m≠0 by omega),?_⟩⟩⟩;refine⟨_,rfl,ze ⟨rfl,rfl,t8.of hD,rfl,_,rfl,za ⟨rfl,rfl,LZ m0 m1 _,?_⟩⟩⟩;refine⟨_,rfl,ze ⟨rfl,rfl,hD,rfl,?_⟩⟩;refine⟨_,rfl,ze ⟨rfl,rfl,t8.of c5,rfl,rfl,_,rfl,?_⟩⟩;refine X4 (λ_=>?_) (λ_=>?_)
   . refine⟨_,rfl,.inl ⟨rfl,_,t8.of c5⟩,zf ⟨rfl,rfl,c5,(by decide),(by decide),rfl,rfl,?_⟩⟩;refine⟨_,rfl,?_⟩;exact k _ _ (i3.upd.trans i3.upd) ⟨x,.inl c5⟩ (br _ m0) (bu _ m0)
   . refine⟨_,rfl,?_⟩;exact k _ _ i3.upd ⟨x,.inr ⟨_,c5⟩⟩ (br _ m0) (bu _ m0)
def Gy(T:Txt K mg t):o9 Pr w K mg base D2 1 t.f0t t.d0f ["_law_script"] (Na K):=by
 refine T.d0m.F.ok P5 (by rintro _ _ _ _ ⟨_,_,rfl,_⟩;rfl) λcdv A outer s H vs Q E hr h=>?_;obtain⟨a,ns,rfl,hS,hlen,k⟩:=h;refine⟨_,(a9 (sT 1 P5.nd c4) (a9 (G0 aC rfl (F8 (Ia Pw (pv 0) Le (Ld c4))) (gN 2 P5.nd) (c6 (sT 1 P5.nd (l5 C4 (l5 E3 (l5 E3 (l5 CJ (pv 1) c4) (l5 C4 (pv 2) (l5 SD c4 c4))) c4) c4)))) (a9 (w8 (PW.pt (JH (l4 W9 (o5 u9 (by rfl) T.z_len PySem.boot_len (x9 (pv 0))) c4 (l6 _)) (JH (l4 W9 (j8 D1 (pv 0) c4 (λ_ _=>rfl)) c4 (l6 _)) (Lb (l4 D5 (l5 C4 (j8 D1 (pv 0) c4 (λ_ _=>rfl)) c4) c4 (l6 _)))))) (c6 (d9 (D4 (D0 (l5 BR (j8 D1 (pv 0) c4 (λ_ _=>rfl)) c4) (pv 1))))) l9) (c6 (d9 (D4 (x9 (pv 1)))))))),?_⟩;refine⟨_,rfl,_,rfl,za ⟨rfl,hS,λc1 hc1=>?_⟩⟩;have ec:Fl (ns.map V.int) none (some 200)=(ns.take 200).map V.int:=by
  rw[show(200:Int)=((200:Nat):Int)from rfl,OK,List.map_take]
 have s1:=c7 (o:=.lst (Fl (ns.map V.int) none (some 200))) hc1;have k1:=c5 (H:=H) (a:=c1) (o:=.lst (Fl (ns.map V.int) none (some 200)));have hS1:=s1.seq hS;clear hc1;revert s1 k1 hS1;generalize upd H c1 (.lst (Fl (ns.map V.int) none (some 200)))=H1;intro s1 k1 hS1;rw[ec]at k1;refine⟨c1,rfl,⟨_,t8.of k1⟩,U8 (K:=K) (a:=c1) (xs:=(ns.take 200).map V.int) (λi σ H'=>∃(x:Int) (v:Option V),σ=[some (.ref a),some (.int x),v]/\H'=H1) ⟨_,_,rfl,rfl⟩ (λi σ H' _ ⟨_,_,_,e⟩=>e▸t8.of k1) ?_ ?_⟩
 . rintro i y σ H' hi ⟨x,v,rfl,rfl⟩;obtain⟨z,rfl⟩:∃z,y=V.int z:=by
    rw[aD]at hi;cases e:(ns.take 200)[i]? with
    | none=>rw[e]at hi;cases hi
    | some z=>rw[e]at hi;exact⟨z,(Option.some.inj hi).symm⟩
   refine⟨_,rfl,za ⟨rfl,rfl,.inr ⟨by decide,by decide⟩,_,rfl,za ⟨rfl,rfl,⟨by decide,by decide,by decide⟩,za ⟨rfl,rfl,(show((10:Int) ^ (30:Int).toNat)≠0 by decide),za ⟨rfl,rfl,za ⟨rfl,rfl,za ⟨rfl,rfl,(show(2305843009213693951:Int)≠0 by decide),?_⟩⟩⟩⟩⟩⟩⟩;exact za ⟨rfl,rfl⟩
 . rintro σ H' ⟨x,v,rfl,rfl⟩;have lc:AX K (.ref a) H' (ns.map V.int).length:=.inl ⟨_,hS1,rfl⟩;rw[aj]at lc;have last:Uw tNext (Ux (UB (W6 (RK 1) tNil))) { nx:=λ_ H''=>Q .non H'',rt:=Q } [some (.ref a),some (.int x),v] H':=by
    refine⟨_,rfl,(by show 1<=sizeLine;decide),λb hb=>?_⟩;exact k b _ (s1.free hb) (s1.trans (c7 hb)) ⟨x,.inl c5⟩
   refine⟨_,rfl,za ⟨rfl,lc,za ⟨rfl,rfl,_,rfl,?_⟩⟩⟩;refine Av (λh0=>?_) (λ_=>?_)
   . obtain⟨n0,g0⟩:∃n,ns[0]? = some n:=⟨ns[0]'oM,by simp⟩;have a0:MK (ns.map V.int) 0=some (V.int n0):=J2 (j:=0) (by rw[aD,g0];rfl);refine⟨_,rfl,ze ⟨rfl,rfl,hS1,a0,za ⟨rfl,rfl,_,rfl,?_⟩⟩⟩;refine Av (λ_=>?_) (λ_=>?_)
     . refine⟨_,rfl,ze ⟨rfl,rfl,hS1,a0,za ⟨rfl,rfl,(show(2:Int)≠0 by decide),rfl,_,rfl,?_⟩⟩⟩;refine X4 (λ_=>?_) (λ_=>?_)
       . refine⟨_,rfl,ze ⟨rfl,rfl,hS1,a0,za ⟨rfl,rfl,⟨by decide,by decide⟩,_,rfl,(by show 2<=sizeLine;decide),λb hb=>?_⟩⟩⟩;exact k b _ (s1.free hb) (s1.trans (c7 hb)) ⟨x,.inr ⟨_,c5⟩⟩
       . exact last
     . exact last
   . exact last
def Dr.same{H H':Hp}{a:Addr}(e:h8 H H')(h:Dr H a):Dr H' a:=by
 obtain⟨x,h | ⟨d,h⟩⟩:=h
 . exact⟨x,.inl (e _ _ h)⟩
 . exact⟨x,.inr ⟨d,e _ _ h⟩⟩
theorem Dr.lst{H:Hp}{a:Addr}(h:Dr H a):∃xs,H a=some (.lst xs):=by
 obtain⟨x,h | ⟨d,h⟩⟩:=h
 . exact⟨_,h⟩
 . exact⟨_,h⟩
def i3.tt{a:Addr}{H H':Hp}(s:i3 a H H')(d:Dr H a):w9 H H':=λp vs h=>s p _ (by
 rintro rfl;obtain⟨xs,e⟩:=d.lst;rw[h]at e;cases e) h
def i3.tup{a p:Addr}{H:Hp}{o:HO}(n:H p=none)(d:Dr H a):i3 a H (L2.upd H p o)/\Dr (L2.upd H p o) a:=⟨.of (c7 n),d.same (c7 n)⟩
def y9{H:Hp}{a:Addr}{xs:List V}{o:HO}(h:H a=some (.lst xs)):w9 H (upd H a o):=λb vs hb=>by
 rw[j6 (by rintro rfl;rw[h]at hb;cases hb)];exact hb
def i3.put{a b:Addr}{H H1:Hp}{o:HO}(s:i3 a H H1)(n:H b=none):i3 a H (L2.upd H1 b o):=λc u hc hu=>by
 rw[j6 (j0 hu n)];exact s c u hc hu
def Dr.put{a b:Addr}{H:Hp}{o:HO}(d:Dr H a)(n:b≠a):Dr (L2.upd H b o) a:=by
 obtain⟨x,h | ⟨y,h⟩⟩:=d
 . exact⟨x,.inl (by rw[j6 (Ne.symm n)];exact h)⟩
 . exact⟨x,.inr ⟨y,by rw[j6 (Ne.symm n)];exact h⟩⟩
def NU{H:Hp}{a p:Addr}(d:Dr H a)(n:H p=none):p≠a:=λe=>by
 obtain⟨xs,z⟩:=d.lst;rw[<- e,n]at z;cases z
def tx(l:List Nat):Str:=⟨l.toArray⟩
def vT(l:List Nat):V:=.str (tx l)
def MT(a b:List Nat):tx a++tx b=tx (a++b):=by
 show(⟨a.toArray++b.toArray⟩:Str)=⟨(a++b).toArray⟩;simp
def O8(a:List Nat):(tx a).length=a.length:=by
 show a.toArray.size=a.length;simp
def OG:(Str.ofString "")=tx []:=by decide +kernel
def RH{l:List Nat}(h:∀c∈l,c < 128):(tx l).cps.all (· < 128)=true:=by
 show l.toArray.all (· < 128)=true;simp only[List.all_toArray,List.all_eq_true,decide_eq_true_eq];exact h
def BG(l:List Nat):L2.W7 (tx l)=l.map λc=>vT [c]:=by
 unfold L2.W7 tx;simp only[List.map_inj_left];intro c _;rfl
abbrev j5(R:g9 Pr w K mg base)(n:Nat)(x:Nat->R.S.W):V->Hp->Prop:=K0 (λj u H=>R.is H u (x j)) n
theorem j5.same{R:g9 Pr w K mg base}{n:Nat}{x:Nat->R.S.W}{v:V}{H H':Hp}(s:w9 H H')(e:j5 R n x v H):j5 R n x v H':=e.mono s λ_ _ _ q=>R.same s q
def j5.congr{R:g9 Pr w K mg base}{n:Nat}{x y:Nat->R.S.W}{v:V}{H:Hp}(h:∀i,i < n->x i=y i)(r:j5 R n x v H):j5 R n y v H:=
 r.mono (w9.refl _) λj _ hj q=>by rw[<- h j hj];exact q
def j5.at{R:g9 Pr w K mg base}{n:Nat}{x:Nat->R.S.W}{v:V}{H:Hp}(r:j5 R n x v H){j:Nat}(hj:j < n):∃p vs u,v=.ref p/\o7 K H p vs/\MK vs (j:Int)=some u/\R.is H u (x j):=by
 obtain⟨p,vs,rfl,hp,e⟩:=r;obtain⟨u,eu,q⟩:=e.2 j hj;exact⟨p,vs,u,rfl,o7.of hp,J2 eu,q⟩
def FS(w:World)(K:aa)(mg:Str->Option Value)(base:Heap):Sp:=λvs H Q _=>∃(R:g9 Pr w K mg base),∃kv bv row n b x r,vs=[kv,bv,row]/\(T6 R.C R.fs H kv/\R.is H bv b/\R.S.sz r b/\j5 R n x row H/\(∀i,i < n->R.S.sz r (x i))/\n<=1000/\Ay R.S (r+r))/\
 ∀v H',h8 H H'->j5 R n (λi=>R.S.mul b (x i)) v H'->Q v H'
def BS(T:Txt K mg t):o9 Pr w K mg base D2 41 t.f0h t.d0i NX (FS w K mg base):=by
 refine T.d0b.F.ok Gc (by rintro _ _ _ _ ⟨_,_,_,_,_,_,_,_,rfl,_⟩;rfl) λcdv A outer s H vs Q E hr h=>?_;obtain⟨R,kv,bv,row,n,b,x,r,rfl,⟨⟨kp,dx,rfl,hk⟩,hb,lb,⟨p,us,rfl,hp,ent⟩,lx,hn,hz⟩,k⟩:=h;refine⟨_,(c6 (d9 (j7 g6 (by rfl) T.z_tuple boot_tuple (x9 (w5 (xs:=["x"]) rfl (show p9 NX (b9 R8) _ from⟨rfl,dK,dK,dK,dK,dK⟩) (L9 (pv 2)) (λ_ _ _ _ _=>(j9 (i:=3) (by show List.Nodup (["kind","by","row","x"]:List Str);decide +kernel) rfl (Or.inl rfl))) (λ_ _ _ _ _=>(P8 (pv 0) R.cl R.t_times R.G_times hr.m R.b_times .nil B0 (D0 (pv 1) (pv 3))))))))),?_⟩;refine⟨_,rfl,p,rfl,⟨_,o7.of hp⟩,o8 (n:=n) (λj ys H2=>h8 H H2/\i0 (λi u H=>R.is H u (R.S.mul b (x i))) ys j H2) hn ⟨h8.refl _,i0.nil⟩ (λj ys H2 q=>q.2.1) ?_ ?_ ?_⟩
 . rintro j ys H2 hj ⟨q,e⟩;obtain⟨u,eu,pu⟩:=ent.2 j hj;refine Dt (o7.of (q _ _ hp)) eu ?_;refine⟨⟨[some _],rfl,rfl⟩,_,rfl,zd ⟨rfl,q _ _ hk,R.l_times,_,rfl,_,rfl,zf ⟨r,r,rfl,⟨za ⟨rfl,q _ _ hk⟩,R.same q.t hb,R.same q.t pu,lb,lx j hj,hz⟩,λv H3 s3 f3=>?_⟩⟩⟩;exact⟨q.trans s3,(e.mono λ_ _ _ z=>R.same s3.t z).snoc f3⟩
 . rintro ys H2 ⟨q,e⟩;exact⟨_,o7.of (q _ _ hp),by rw[ent.1];exact ae _⟩
 . rintro ys H2 l ⟨q,e⟩ nl;have s1':=c7 (o:=.lst ys) nl;refine⟨l,ys,rfl,.inl ⟨t8.of c5,λl2 n2=>?_⟩⟩;have s2:=c7 (o:=.tup ys) n2;exact k _ _ (q.trans (s1'.trans s2)) ⟨l2,ys,rfl,c5,e.mono λ_ _ _ z=>R.same (s1'.trans s2).t z⟩
def EF(w:World)(K:aa)(mg:Str->Option Value)(base:Heap):Sp:=λvs H Q _=>∃(R:g9 Pr w K mg base),∃kv,vs=[kv]/\T6 R.C R.fs H kv/\Q .non H
def ET(T:Txt K mg t):o9 Pr w K mg base D2 41 t.e0a t.c0p ["kind"] (EF w K mg base):=by
 refine T.c0g.F.ok EJ (by rintro _ _ _ _ ⟨_,_,rfl,_⟩;rfl) λcdv A outer s H vs Q E hr h=>?_;obtain⟨R,kv,rfl,⟨kp,dx,rfl,hk⟩,k⟩:=h;refine⟨_,(c6 (w8 (Aa (Q9 (U5 (pv 0) R.cl R.t_is_field R.G_is_field hr.m R.b_is_field .nil B0))) (c6 U4) l9)),?_⟩;refine⟨_,rfl,zd ⟨rfl,hk,R.l_is_field,_,rfl,_,rfl,?_⟩⟩
 (try refine AU ?_)
 exact k
def Rm:Option Nat->V
 | none=>.non
 | some p=>.int (p:Nat)
def Qw{S:SR}{x:Nat->S.W}{i w:Nat}(h:Ar x i=none)(n:x i≠S.zero)(hi:i < w):Ar x w=some i:=by
 cases e:Ar x w with
 | none=>exact absurd (Q2 e i hi) n
 | some p=>
  obtain⟨a,b,c⟩:=N7 e;by_cases h1:p < i
  . exact absurd (Q2 h p h1) b
  . by_cases h2:i < p
    . exact absurd (c i h2) n
    . rw[show p=i by omega]
def Jx(w:World)(K:aa)(mg:Str->Option Value)(base:Heap):Sp:=λvs H Q _=>∃(R:g9 Pr w K mg base),∃kv rv,∃(n l:Nat),∃x,vs=[kv,rv,.int (l:Nat)]/\(T6 R.C R.fs H kv/\j5 R n x rv H/\l<=n/\n<=1000)/\∀H',h8 H H'->Q (Rm (Ar x l)) H'
def JL(T:Txt K mg t):o9 Pr w K mg base D2 41 t.h0i t.f0b ["kind","row","width"] (Jx w K mg base):=by
 refine T.f0q.F.ok DL (by rintro _ _ _ _ ⟨_,_,_,_,_,_,rfl,_⟩;rfl) λcdv A outer s H vs Q E hr h=>?_;obtain⟨R,kv,rv,n,l,x,rfl,⟨⟨kp,dx,rfl,hk⟩,hr',hl,hn⟩,k⟩:=h;refine⟨_,(a9 (G0 aC rfl (x5 rfl T.z_range (x9 (pv 2))) (gN 3 DL.nd) (c6 (w8 (l4 (Gu hr.units) (j8 h9 (pv 1) (pv 3) (λ_ _=>rfl)) (U5 (pv 0) R.cl R.t_nought R.G_nought hr.m R.b_nought .nil B0) (l6 _)) (c6 (d9 (pv 3))) l9))) (c6 (d9 DS))),?_⟩;refine⟨_,rfl,_,rfl,oM,oM,AF (lo:=0) (n:=(l:Int).toNat) (λi σ H2=>∃v3,σ=[some (.ref kp),some rv,some (.int (l:Nat)),v3]/\h8 H H2/\Ar x i=none) ⟨_,rfl,h8.refl _,rfl⟩ ?_ ?_⟩
 . rintro i σ H2 hi ⟨v3,rfl,q,z⟩;have hi:i < l:=by omega
   obtain⟨p,us,u,rfl,hp,hu,iu⟩:=j5.at (j5.same q.t hr') (show i < n by omega);rw[show(i:Int)=0+(i:Int) by omega]at hu;refine⟨_,rfl,_,rfl,ze ⟨rfl,rfl,hp,hu,_,rfl,zd ⟨rfl,q _ _ hk,R.l_nought,_,rfl,za ⟨rfl,q _ _ hk⟩,λzv H3 s3 f3=>?_⟩⟩⟩;by_cases e:x i=R.S.zero
   . refine R.neD (R.same s3.t iu) f3 e ⟨_,rfl,?_⟩
     (try refine AU ?_)
     refine⟨_,rfl,q.trans s3,?_⟩;exact GS λj hj=>by
      by_cases ej:j=i
      . rw[ej];exact e
      . exact Q2 z j oM
   . refine R.neT (R.same s3.t iu) f3 e ⟨_,rfl,?_⟩
     (try refine Fi ?_)
     have:=k _ (q.trans s3);rw[Qw z e hi]at this;refine⟨_,rfl,?_⟩;rw[show(0:Int)+(i:Int)=((i:Nat):Int) by omega];exact this
 . rintro σ H2 ⟨v3,rfl,q,z⟩;rw[show(l:Int).toNat=l by omega]at z;have:=k _ q;rw[z]at this;exact this
def HB(w:World)(K:aa)(mg:Str->Option Value)(base:Heap):Sp:=λvs H Q _=>∃(R:g9 Pr w K mg base),∃kv ov hv,∃(n m m':Nat),∃x y,vs=[kv,ov,hv]/\(T6 R.C R.fs H kv/\j5 R n x ov H/\j5 R n y hv H/\(∀i,i < n->R.S.sz m (x i)/\R.S.sz m' (y i))/\n<=1000/\Ay R.S (m+m'))/\
 ∀v H',h8 H H'->j5 R n (λi=>R.S.add (x i) (y i)) v H'->Q v H'
def Ih(T:Txt K mg t):o9 Pr w K mg base D2 41 t.g0m t.e0c GE (HB w K mg base):=by
 refine T.e0d.F.ok HH (by rintro _ _ _ _ ⟨_,_,_,_,_,_,_,_,_,rfl,_⟩;rfl) λcdv A outer s H vs Q E hr h=>?_;obtain⟨R,kv,ov,hv,n,m,m',x,y,rfl,⟨⟨kp,dx,rfl,hk⟩,⟨fp,fs,rfl,hf,ef⟩,⟨gp,gs,rfl,hg,eg⟩,lx,hn,hz⟩,k⟩:=h;refine⟨_,(c6 (d9 (j7 g6 (by rfl) T.z_tuple boot_tuple (x9 (w5 (xs:=["x","y"]) rfl (show p9 GE (b9 V3) _ from⟨rfl,dK,dK,dK,dK,dK⟩) (CH rfl T.z_zip (D0 (pv 1) (pv 2))) (λ_ _ _ _ _=>(show PG _ _ (Fk K 2 _)from(E9 rfl (k9 (j9 (i:=3) (by show List.Nodup (["kind","one","other","x","y"]:List Str);decide +kernel) rfl (Or.inl rfl)) (k9 (j9 (i:=4) (by show List.Nodup (["kind","one","other","x","y"]:List Str);decide +kernel) rfl (Or.inl rfl)) B8))))) (λ_ _ _ _ _=>(P8 (pv 0) R.cl R.t_plus R.G_plus hr.m R.b_plus .nil B0 (D0 (pv 3) (pv 4))))))))),?_⟩;refine⟨_,rfl,_,rfl,.tup fp,.tup gp,za ⟨fs,gs,rfl,rfl,rfl,o7.of hf,o7.of hg,o8 (n:=n) (λj ys H2=>h8 H H2/\i0 (λi u H=>R.is H u (R.S.add (x i) (y i))) ys j H2) oM ⟨h8.refl _,i0.nil⟩ (λj ys H2 q=>q.2.1) ?_ ?_ ?_⟩⟩
 . rintro j ys H2 hj ⟨q,e⟩;obtain⟨u,eu,pu⟩:=ef.2 j hj;obtain⟨v,ev,pv⟩:=eg.2 j hj;refine⟨⟨fs,gs,u,v,o7.of (q _ _ hf),o7.of (q _ _ hg),eu,ev⟩,λy' H' hy=>?_⟩;obtain⟨pp,x',y',rfl,np,rfl,f1,f2⟩:=hy;have e1:=f1 _ (o7.of (q _ _ hf));rw[eu]at e1;cases e1;have e2:=f2 _ (o7.of (q _ _ hg));rw[ev]at e2;cases e2;have s3:=c7 (o:=.tup [u,v]) np;have q3:=q.trans s3;refine⟨pp,_,rfl,o7.of c5,rfl,za ⟨rfl,za ⟨rfl,rfl,⟨[some _,some _],rfl,rfl⟩,_,rfl,zd ⟨rfl,q3 _ _ hk,R.l_plus,_,rfl,_,rfl,zf ⟨m,m',rfl,⟨za ⟨rfl,q3 _ _ hk⟩,R.same q3.t pu,R.same q3.t pv,(lx j hj).1,(lx j hj).2,hz⟩,λv4 H4 s4 f4=>?_⟩⟩⟩⟩⟩;exact⟨q3.trans s4,(e.mono λ_ _ _ z=>R.same (s3.trans s4).t z).snoc f4⟩
 . rintro ys H2 ⟨q,e⟩;exact⟨fs,gs,o7.of (q _ _ hf),o7.of (q _ _ hg),.inl ef.1.symm⟩
 . rintro ys H2 l ⟨q,e⟩ nl;have s1':=c7 (o:=.lst ys) nl;refine⟨l,ys,rfl,.inl ⟨t8.of c5,λl2 n2=>?_⟩⟩;have s2:=c7 (o:=.tup ys) n2;exact k _ _ (q.trans (s1'.trans s2)) ⟨l2,ys,rfl,c5,e.mono λ_ _ _ z=>R.same (s1'.trans s2).t z⟩
def Cp(R:g9 Pr w K mg base)(W:Nat)(ks:List (Nat × (Nat->R.S.W))):Nat->V->Hp->Prop:=λi u H=>∃k q rv,ks[i]? = some k/\u=.ref q/\H q=some (.tup [.int (k.1:Nat),rv])/\j5 R W k.2 rv H
theorem Cp.same{R:g9 Pr w K mg base}{W i:Nat}{ks:List (Nat × (Nat->R.S.W))}{u:V}{H H':Hp}(s:w9 H H')(h:Cp R W ks i u H):Cp R W ks i u H':=by
 obtain⟨k,q,rv,e,rfl,hq,r⟩:=h;exact⟨k,q,rv,e,rfl,s _ _ hq,j5.same s r⟩
def J3(R:g9 Pr w K mg base)(W:Nat)(ks:List (Nat × (Nat->R.S.W)))(a:Addr)(H:Hp):Prop:=∃us,H a=some (.lst us)/\i0 (Cp R W ks) us ks.length H
theorem J3.same{R:g9 Pr w K mg base}{W:Nat}{ks:List (Nat × (Nat->R.S.W))}{a:Addr}{H H':Hp}(s:h8 H H')(h:J3 R W ks a H):J3 R W ks a H':=by
 obtain⟨us,ha,e⟩:=h;exact⟨us,s _ _ ha,e.mono λ_ _ _ q=>q.same s.t⟩
def Jz(w:World)(K:aa)(mg:Str->Option Value)(base:Heap):Sp:=λvs H Q _=>∃(R:g9 Pr w K mg base),∃kv a rv,∃(W r:Nat),∃ks x,vs=[kv,.ref a,rv]/\(T6 R.C R.fs H kv/\J3 R W ks a H/\(∀k∈ks,k.1 < W)/\j5 R W x rv H/\W<=1000/\Ji R.F W r ks x/\Ay R.S (3 * r))/\
 ∀v H',h8 H H'->j5 R W (clr R.F ks x) v H'->Q v H'
def Eb(T:Txt K mg t):o9 Pr w K mg base D2 42 t.h0b t.g0d ["kind","kept","row"] (Jz w K mg base):=by
 refine T.f0j.F.ok Q5 (by rintro _ _ _ _ ⟨_,_,_,_,_,_,_,_,rfl,_⟩;rfl) λcdv A outer s H vs Q E hr h=>?_;obtain⟨R,kv,a,rv,W,r,ks,x,rfl,⟨⟨kp,dx,rfl,hk⟩,⟨us,ha,eK⟩,hlt,hR,hW,⟨zc,zr⟩,hS⟩,k⟩:=h;refine⟨_,(a9 (sT 3 Q5.nd (pv 2)) (a9 (G0 aC rfl (F8 (pv 1)) (E9 rfl (k9 (gN 4 Q5.nd) (k9 (gN 5 Q5.nd) B8))) (c6 (w8 (l4 (Gu hr.units) (j8 h9 (pv 3) (pv 4) (λ_ _=>rfl)) (U5 (pv 0) R.cl R.t_nought R.G_nought hr.m R.b_nought .nil B0) (l6 _)) (c6 (sT 3 Q5.nd (C3 (Ih T) hr.m T.e0d (W8 (pv 0) (pv 3) (C3 (BS T) hr.m T.d0b (W8 (pv 0) (P8 (pv 0) R.cl R.t_minus R.G_minus hr.m R.b_minus .nil B0 (x9 (j8 h9 (pv 3) (pv 4) (λ_ _=>rfl)))) (pv 5))))))) l9))) (c6 (d9 (pv 3))))),?_⟩;refine⟨_,rfl,?_⟩;show y7 3 rv [some (.ref kp),some (.ref a),some rv,none,none,none] H _;refine⟨_,rfl,a,rfl,⟨_,t8.of ha⟩,U8 (K:=K) (a:=a) (xs:=us) (λi σ H2=>∃v3 v4 v5,σ=[some (.ref kp),some (.ref a),some rv,some v3,v4,v5]/\h8 H H2/\j5 R W (clr R.F (ks.take i) x) v3 H2) ⟨_,_,_,rfl,h8.refl _,hR⟩ (λi σ H2 _ ⟨_,_,_,_,q,_⟩=>t8.of (q _ _ ha)) ?_ ?_⟩
 . rintro i y σ H2 hi ⟨v3,v4,v5,rfl,q,hr3⟩;obtain⟨il,kq,qa,ov,ek,rfl,hq,ro⟩:=eK.at hi;have hkp:kq.1 < W:=hlt kq (aR ek);have z0:=zc i oM;have ts:ks.take (i+1)=ks.take i++[kq]:=E7 ek;refine⟨qa,_,rfl,o7.of (q _ _ hq),rfl,za ⟨rfl,za ⟨rfl,rfl,?_⟩⟩⟩;obtain⟨p,us',u,rfl,hp,hu,iu⟩:=j5.at hr3 hkp;refine⟨_,rfl,_,rfl,ze ⟨rfl,rfl,hp,hu,_,rfl,zd ⟨rfl,q _ _ hk,R.l_nought,_,rfl,za ⟨rfl,q _ _ hk⟩,λzv H3 s3 f3=>?_⟩⟩⟩;have q3:=q.trans s3;by_cases e:clr R.F (ks.take i) x kq.1=R.S.zero
   . refine R.neD (R.same s3.t iu) f3 e ⟨_,rfl,?_⟩
     (try refine AU ?_)
     refine zd ⟨rfl,q3,?_⟩;rw[ts,Ax,Hy e];exact j5.same s3.t hr3
   . refine R.neT (R.same s3.t iu) f3 e ⟨_,rfl,?_⟩
     (try refine Fi ?_)
     obtain⟨p',us2,u2,e',hp2,hu2,iu2⟩:=j5.at (j5.same s3.t hr3) hkp;cases e';refine⟨_,rfl,_,rfl,_,rfl,_,rfl,zd ⟨rfl,q3 _ _ hk,R.l_minus,_,rfl,_,rfl,ze ⟨rfl,rfl,hp2,hu2,zd ⟨rfl,⟨za ⟨rfl,q3 _ _ hk⟩,iu2⟩,λmv H4 s4 f4=>?_⟩⟩⟩⟩;have q4:=q3.trans s4;refine⟨_,rfl,R,zm _ _ _ W _ kq.2 r ⟨rfl,⟨za ⟨rfl,q4 _ _ hk⟩,f4,R.F.sz_neg _ _ (z0 kq.1 hkp),j5.same q4.t ro,zr kq (aR ek),hW,hS.le oM⟩,λtv H5 s5 r5=>?_⟩⟩;have q5:=q4.trans s5;refine⟨R,zp _ _ _ W r (r+r) _ _ ⟨rfl,⟨za ⟨rfl,q5 _ _ hk⟩,j5.same (s3.trans (s4.trans s5)).t hr3,r5,λj hj=>⟨z0 j hj,R.S.sz_mul _ _ _ _ (R.F.sz_neg _ _ (z0 kq.1 hkp)) (zr kq (aR ek) j hj)⟩,hW,hS.le oM⟩,λpv H6 s6 r6=>?_⟩⟩;refine zd ⟨rfl,q5.trans s6,?_⟩;rw[ts,Ax];exact r6
 . rintro σ H2 ⟨v3,v4,v5,rfl,q,r3⟩;have e1:=eK.1;refine⟨_,rfl,?_⟩;rw[e1,bb]at r3;exact k _ _ q r3
def On{S:SR}{F:X6 S}{w:Nat}{ks:List (Nat × (Nat->S.W))}{r:Nat->S.W}(h:ks.length=w):S9 F w ks r=ks:=by
 unfold S9;rw[if_pos h]
def Om{S:SR}{F:X6 S}{w:Nat}{ks:List (Nat × (Nat->S.W))}{r:Nat->S.W}(h:Ar (clr F ks r) w=none):S9 F w ks r=ks:=by
 unfold S9;split
 . rfl
 . rw[h]
def Ol{S:SR}{F:X6 S}{w p:Nat}{ks:List (Nat × (Nat->S.W))}{r:Nat->S.W}(n:ks.length≠w)(h:Ar (clr F ks r) w=some p):S9 F w ks r=ks++[(p,λj=>S.mul (F.inv (clr F ks r p)) (clr F ks r j))]:=by
 unfold S9;rw[if_neg n,h]
def Cp.app{R:g9 Pr w K mg base}{W i:Nat}{ks:List (Nat × (Nat->R.S.W))}{k:Nat × (Nat->R.S.W)}{u:V}{H:Hp}(hi:i < ks.length)(h:Cp R W ks i u H):Cp R W (ks++[k]) i u H:=by
 obtain⟨k',q,rv,e,r⟩:=h;exact⟨k',q,rv,by rw[aJ hi];exact e,r⟩
def Pq(w:World)(K:aa)(mg:Str->Option Value)(base:Heap):Sp:=λvs H Q _=>∃(R:g9 Pr w K mg base),∃kv a rv,∃(W l r:Nat),∃ks x,vs=[kv,.ref a,rv,.int (l:Nat)]/\(T6 R.C R.fs H kv/\J3 R W ks a H/\Kp R.S l ks/\j5 R W x rv H/\l<=W/\W<=1000/\(ks.length≠l->Ji R.F W r ks x)/\Ay R.S (3 * r))/\
 ∀H',i3 a H H'->J3 R W (S9 R.F l ks x) a H'->Q (.bl (decide ((S9 R.F l ks x).length≠ks.length))) H'
def Lh(T:Txt K mg t):o9 Pr w K mg base D2 43 t.keep t.h0p SN (Pq w K mg base):=by
 refine T.h0o.F.ok Gf (by rintro _ _ _ _ ⟨_,_,_,_,_,_,_,_,_,rfl,_⟩;rfl) λcdv A outer s H vs Q E hr h=>?_;obtain⟨R,kv,a,rv,W,l,r,ks,x,rfl,⟨⟨kp,dx,rfl,hk⟩,hK,KP,hR,hl,hW,hz,hS⟩,k⟩:=h;have hK0:=hK;obtain⟨us,ha,eK⟩:=hK;have e0:=eK.1;have kl:=KP.len;have sl:1000 < sizeLine:=by decide
 have kf:∀H',h8 H H'->S9 R.F l ks x=ks->Q (.bl false) H':=λH' s' e=>by
  have:=k H' (.of s') (by rw[e];exact hK0.same s');rw[e,decide_eq_false (λz=>z rfl)]at this;exact this
 refine⟨_,(a9 (w8 (l4 D5 (o5 u9 (by rfl) T.z_len PySem.boot_len (x9 (pv 1))) (pv 3) (l6 _)) (c6 (d9 BP)) l9) (a9 (sT 4 Gf.nd (C3 (Eb T) hr.m T.f0j (W8 (pv 0) (pv 1) (pv 2)))) (a9 (sT 5 Gf.nd (C3 (JL T) hr.m T.f0q (W8 (pv 0) (pv 4) (pv 3)))) (a9 (w8 (l4 NN (pv 5) DS (l6 _)) (c6 (d9 BP)) l9) (a9 (E1 (U6 bg bI bJ J1 (pv 1) (x9 (B4 (D0 (pv 5) (C3 (BS T) hr.m T.d0b (W8 (pv 0) (P8 (pv 0) R.cl R.t_inverse R.G_inverse hr.m R.b_inverse .nil B0 (x9 (j8 h9 (pv 4) (pv 5) (λ_ _=>rfl)))) (pv 4)))))))) (c6 (d9 BP))))))),?_⟩;refine⟨_,rfl,za ⟨rfl,(show AX K (.ref a) H ks.length from .inl ⟨_,t8.of ha,e0.symm⟩),_,rfl,rfl,_,rfl,?_⟩⟩;refine X4 (λe=>?_) (λne=>?_)
 . exact kf _ (h8.refl _) (On oM)
 have nl:ks.length≠l:=λe=>ne (by rw[e]);refine⟨_,rfl,_,rfl,_,rfl,R,zm _ a rv W r ks x ⟨rfl,⟨za ⟨rfl,hk⟩,hK0,λq hq=>ar (KP.lt q hq) hl,hR,hW,hz nl,hS⟩,λO6 H1 s1 r1=>?_⟩⟩;show y7 4 O6 [some (.ref kp),some (.ref a),some rv,some (.int (l:Nat)),none,none] H1 _;refine⟨_,rfl,_,rfl,_,rfl,R,zj _ _ W l _ ⟨rfl,⟨za ⟨rfl,s1 _ _ hk⟩,r1,hl,hW⟩,λH2 s2=>?_⟩⟩;show y7 5 (Rm (Ar (clr R.F ks x) l)) [some (.ref kp),some (.ref a),some rv,some (.int (l:Nat)),some O6,none] H2 _;have Dc:=s1.trans s2;cases e:Ar (clr R.F ks x) l with
 | none=>
  refine⟨_,rfl,rfl,_,rfl,?_⟩;refine Fi ?_;exact kf _ Dc (Om e)
 | some p=>
  obtain⟨pl,pn,_⟩:=N7 e;show y7 5 (V.int (p:Nat)) [some (.ref kp),some (.ref a),some rv,some (.int (l:Nat)),some O6,none] H2 _;have z0:=(hz nl).1 ks.length (ae _);rw[bb]at z0;obtain⟨q,us',u,rfl,hq,hu,iu⟩:=j5.at (j5.same s2.t r1) (show p < W by omega);refine⟨_,rfl,rfl,_,rfl,?_⟩;refine AU ?_;refine⟨_,rfl,.inl ⟨rfl,_,t8.of (Dc _ _ ha)⟩,_,rfl,_,rfl,_,rfl,zd ⟨rfl,Dc _ _ hk,R.l_inverse,_,rfl,_,rfl,ze ⟨rfl,rfl,hq,hu,zd ⟨rfl,⟨za ⟨rfl,Dc _ _ hk⟩,iu,pn⟩,λiv H3 s3 f3=>?_⟩⟩⟩⟩;have Gn:=Dc.trans s3;refine⟨_,rfl,R,zm _ _ _ W _ _ r ⟨rfl,⟨za ⟨rfl,Gn _ _ hk⟩,f3,R.F.sz_inv _ _ pn (z0 p oM),j5.same (s2.trans s3).t r1,z0,hW,hS.le oM⟩,λtv H4 s4 r4=>?_⟩⟩;have Ug:=Gn.trans s4;refine⟨(by show 2<=sizeLine;decide),λp5 n5=>?_⟩;have t5:=c7 (o:=.tup [V.int (p:Nat),tv]) n5;have k5:upd H4 p5 (.tup [V.int (p:Nat),tv]) p5=some (.tup [V.int (p:Nat),tv]):=c5;revert t5 k5;generalize upd H4 p5 (.tup [V.int (p:Nat),tv])=H5;intro t5 k5;have Rg:=Ug.trans t5;have ha5:=Rg _ _ ha;refine⟨a,us,V.ref p5,rfl,rfl,ha5,oM,?_⟩;have st:=y9 (o:=.lst (us++[V.ref p5])) ha5;have ek:=Ol (F:=R.F) nl e;have:=k (upd H5 a (.lst (us++[V.ref p5]))) ((i3.of Rg).trans i3.upd) (by
   rw[ek];refine⟨_,c5,?_⟩;rw[ai];refine i0.snoc (eK.mono λi w' hi q=>(Cp.app hi (q.same Rg.t)).same st) ⟨(p,λj=>R.S.mul (R.F.inv (clr R.F ks x p)) (clr R.F ks x j)),p5,tv,?_,rfl,st _ _ k5,?_⟩
   . rw[aQ (ae _),cq];rfl
   . exact j5.same st (j5.same t5.t r4))
  rw[ek,ai,decide_eq_true (show ks.length+[_].length≠ks.length by show ks.length+1≠_;omega)]at this;exact this
def Di(R:g9 Pr w K mg base)(W n:Nat)(rs:Nat->Nat->R.S.W)(v:V)(H:Hp):Prop:=∃a us,v=.ref a/\H a=some (.lst us)/\i0 (λi u H=>j5 R W (rs i) u H) us n H
theorem Di.same{R:g9 Pr w K mg base}{W n:Nat}{rs:Nat->Nat->R.S.W}{v:V}{H H':Hp}(s:h8 H H')(h:Di R W n rs v H):Di R W n rs v H':=by
 obtain⟨a,us,rfl,ha,e⟩:=h;exact⟨a,us,rfl,s _ _ ha,e.mono λ_ _ _ q=>j5.same s.t q⟩
def EO{α:Type}(rs:Nat->α)(n:Nat):List α:=(List.range n).map rs
def Nu{α:Type}(rs:Nat->α)(n:Nat):EO rs (n+1)=EO rs n++[rs n]:=by
 unfold EO;rw[List.range_succ,bH];rfl
def PM{α:Type}{rs:Nat->α}{n:Nat}{r:α}(h:r∈EO rs n):∃i,i < n/\r=rs i:=by
 obtain⟨i,hi,rfl⟩:=aE.mp h;exact⟨i,aX.mp hi,rfl⟩
def PN{α:Type}{rs:Nat->α}{n:Nat}:(EO rs n).length=n:=by unfold EO;rw[aj,cD]
def FT(w:World)(K:aa)(mg:Str->Option Value)(base:Heap):Sp:=λvs H Q _=>∃(R:g9 Pr w K mg base),∃kv rv,∃(W l r n:Nat),∃rs,vs=[kv,rv,.int (l:Nat)]/\(T6 R.C R.fs H kv/\Di R W n rs rv H/\l<=W/\W<=1000/\(∀i,i < n->(kpL R.F l (EO rs i)).length≠l->Ji R.F W r (kpL R.F l (EO rs i)) (rs i))/\Ay R.S (3 * r))/\
 ∀a H',H a=none->h8 H H'->J3 R W (kpL R.F l (EO rs n)) a H'->Q (.ref a) H'
def GB(T:Txt K mg t):o9 Pr w K mg base D2 44 t.f0n t.d0j ["kind","rows","width"] (FT w K mg base):=by
 refine T.d0p.F.ok V1 (by rintro _ _ _ _ ⟨_,_,_,_,_,_,_,_,rfl,_⟩;rfl) λcdv A outer s H vs Q E hr h=>?_;obtain⟨R,kv,rv,W,l,r,n,rs,rfl,⟨hk,⟨b,us,rfl,hb,eR⟩,hl,hW,hz,hS⟩,k⟩:=h;refine⟨_,(a9 (sT 3 V1.nd (D4 F0)) (a9 (G0 aC rfl (F8 (pv 1)) (gN 4 V1.nd) (c6 (E1 (C3 (Lh T) hr.m T.h0o (Jk (pv 0) (pv 3) (pv 4) (pv 2)))))) (c6 (d9 (pv 3))))),?_⟩;refine⟨(by show 0<=sizeLine;decide),λa na=>?_⟩;have s1:=c7 (o:=.lst []) na;have k1:upd H a (.lst []) a=some (.lst []):=c5;show y7 3 (.ref a) [some kv,some (.ref b),some (.int (l:Nat)),none,none] _ _;refine⟨_,rfl,b,rfl,⟨_,t8.of (s1 _ _ hb)⟩,U8 (K:=K) (a:=b) (xs:=us) (λi σ H2=>∃v4,σ=[some kv,some (.ref b),some (.int (l:Nat)),some (.ref a),v4]/\h8 H H2/\J3 R W (kpL R.F l (EO rs i)) a H2) ⟨_,rfl,s1,⟨_,k1,i0.nil⟩⟩ (λi σ H2 _ ⟨_,_,q,_⟩=>t8.of (q _ _ hb)) ?_ ?_⟩
 . rintro i y σ H2 hi ⟨v4,rfl,q,hK⟩;obtain⟨hi',ry⟩:=eR.at hi;refine⟨_,rfl,_,rfl,_,rfl,_,rfl,R,zp kv a y W l r _ _ ⟨rfl,⟨hk.same q,hK,CQ _,j5.same q.t ry,hl,hW,hz i hi',hS⟩,λH3 s3 K3=>?_⟩⟩;refine⟨_,rfl,λc o hc=>?_,?_⟩
   . exact s3 c o (j0 hc na) (q _ _ hc)
   . rw[Nu,Eh];exact K3
 . rintro σ H2 ⟨v4,rfl,q,hK⟩;rw[eR.1]at hK;exact⟨_,rfl,k _ _ na q hK⟩
def LL(R:g9 Pr w K mg base)(W n:Nat)(rs:Nat->Nat->R.S.W)(v:V)(H:Hp):Prop:=Di R W n rs v H\/K0 (λi u H=>j5 R W (rs i) u H) n v H
theorem LL.same{R:g9 Pr w K mg base}{W n:Nat}{rs:Nat->Nat->R.S.W}{v:V}{H H':Hp}(s:h8 H H')(h:LL R W n rs v H):LL R W n rs v H':=h.imp (Di.same s) λe=>e.mono s.t λ_ _ _ q=>j5.same s.t q
def Hz(w:World)(K:aa)(mg:Str->Option Value)(base:Heap):Sp:=λvs H Q _=>∃(R:g9 Pr w K mg base),∃rv,∃(W n:Nat),∃rs,vs=[rv]/\LL R W n rs rv H/\Q (.int ((if n=0 then 0 else W):Nat)) H
def Ic(T:Txt K mg t):o9 Pr w K mg base D2 1 t.g0o t.f0a ["rows"] (Hz w K mg base):=by
 refine T.d0x.F.ok HG (by rintro _ _ _ _ ⟨_,_,_,_,_,rfl,_⟩;rfl) λcdv A outer s H vs Q E hr h=>?_;obtain⟨R,rv,W,n,rs,rfl,hR,k⟩:=h;refine⟨_,(c6 (d9 (NG (l4 W9 (o5 u9 (by rfl) T.z_len PySem.boot_len (x9 (pv 0))) c4 (l6 _)) (o5 u9 (by rfl) T.z_len PySem.boot_len (x9 (j8 Tn (pv 0) c4 (λ_ _=>rfl)))) c4))),?_⟩;have hlen:AX K rv H n:=by
  rcases hR with ⟨b,us,rfl,hb,eR⟩ | hR
  . exact .inl ⟨_,t8.of hb,eR.1.symm⟩
  . exact hR.len
 refine⟨_,rfl,za ⟨rfl,hlen,za ⟨rfl,rfl,_,rfl,?_⟩⟩⟩;refine Av (λh0=>?_) (λh0=>?_)
 . rw[if_neg oM]at k;rcases hR with ⟨b,us,rfl,hb,eR⟩ | ⟨b,us,rfl,hb,eR⟩
   . obtain⟨u,eu,ru⟩:=eR.2 0 oM;exact⟨_,rfl,.inl (ze ⟨rfl,rfl,t8.of hb,J2 (j:=0) eu,za ⟨rfl,ru.len,k⟩⟩)⟩
   . obtain⟨u,eu,ru⟩:=eR.2 0 oM;exact⟨_,rfl,.inr (.inl (ze ⟨rfl,rfl,o7.of hb,J2 (j:=0) eu,za ⟨rfl,ru.len,k⟩⟩))⟩
 . rw[if_pos oM]at k;exact k
def K8.same{H H':Hp}{P:Addr}{q:Str}(s:h8 H H')(h:K8 H P q):K8 H' P q:=by
 obtain⟨ps,h1,h2,h3⟩:=h;refine⟨ps,s _ _ h1,h2,λlp v e=>?_⟩;obtain⟨c,e1,oc,vs,t,y1,y2⟩:=h3 lp v e;exact⟨c,e1,oc,vs,t,s _ _ y1,y2⟩
def HZ{α β:Type}{f:α->β}{zs ys:List β}(h:zs.Perm ys):∀L0:List α,ys=L0.map f->∃L:List α,L.Perm L0/\zs=L.map f:=by
 induction h with
 | nil=>intro L0 e;exact⟨L0,.refl _,e⟩
 | cons x _ ih=>
  intro L0 e
  match L0,e with
  | y::L1,e=>
   rw[aL]at e;injection e with e1 e2;obtain⟨L,h1,h2⟩:=ih L1 e2;exact⟨y::L,h1.cons y,by rw[aL,e1,h2]⟩
 | swap x y l=>
  intro L0 e
  match L0,e with
  | a::b::L1,e=>
   rw[aL,aL]at e;injection e with e1 e;injection e with e2 e3;exact⟨b::a::L1,.swap _ _ _,by rw[aL,aL,e1,e2,e3]⟩
 | trans _ _ i1 i2=>
  intro L0 e;obtain⟨L,h1,h2⟩:=i2 L0 e;obtain⟨L',h3,h4⟩:=i1 L h2;exact⟨L',h3.trans h1,h4⟩
def adV:V->Addr
 | .ref a=>a
 | _=>0
def J3.refs{R:g9 Pr w K mg base}{W:Nat}{es:List (Nat × (Nat->R.S.W))}{a:Addr}{H:Hp}(h:J3 R W es a H):∃ps:List Addr,H a=some (.lst (ps.map V.ref))/\ps.length=es.length/\
    ∀(i:Nat) p e,ps[i]? = some p->es[i]? = some e->∃rv,H p=some (.tup [.int (e.1:Nat),rv])/\j5 R W e.2 rv H:=by
 obtain⟨us,ha,en⟩:=h;have el:=en.1;have hu:us=(us.map adV).map V.ref:=by
  apply List.ext_getElem?;intro i;rw[aD,aD];cases hi:us[i]? with
  | none=>rfl
  | some u=>
   obtain⟨_,k,q,rv,_,rfl,_⟩:=en.at hi;rfl
 refine⟨us.map adV,by rw[<- hu];exact ha,by rw[aj,el],λi p e h1 h2=>?_⟩;rw[aD]at h1;obtain⟨u,hu',rfl⟩:=dg.mp h1;obtain⟨_,k,q,rv,e1,rfl,hq,ro⟩:=en.at hu';rw[h2]at e1;cases e1;exact⟨rv,hq,ro⟩
def qE:Str:=(("echelon":Str)++".<locals>.")++"<lambda>"
def Jy(w:World)(K:aa)(mg:Str->Option Value)(base:Heap)(t:OV):Sp:=λvs H Q _=>∃(R:g9 Pr w K mg base),∃kv rv,∃(W r n:Nat),∃rs,vs=[kv,rv]/\(T6 R.C R.fs H kv/\Di R W n rs rv H/\W < 64/\
 (∀i,i < n->(kpL R.F (if n=0 then 0 else W) (EO rs i)).length≠(if n=0 then 0 else W)->Ji R.F W r (kpL R.F (if n=0 then 0 else W) (EO rs i)) (rs i))/\
 (∀i k,i < (kpL R.F (if n=0 then 0 else W) (EO rs n)).length->(kpL R.F (if n=0 then 0 else W) (EO rs n))[(kpL R.F (if n=0 then 0 else W) (EO rs n)).length - 1 - i]? = some k->Ji R.F W r (echI R.F (kpL R.F (if n=0 then 0 else W) (EO rs n)) i) k.2)/\
 Ay R.S (3 * r)/\K8 H t.P_echelon qE)/\
 ∀es a H',Je t.P_echelon H H'->K8 H' t.P_echelon qE->J3 R W es a H'->es.Perm (Ku R.F (kpL R.F (if n=0 then 0 else W) (EO rs n)))->es.Pairwise (λp q=>p.1<=q.1)->Q (.ref a) H'
def JN(T:Txt K mg t)(hTb:TbA mg base t):o9 Pr w K mg base D2 46 t.echelon t.f0r ["kind","rows"] (Jy w K mg base t):=by
 refine T.f0i.F.okC V2 T.tb_echelon T.e0b (by rintro _ _ _ _ ⟨_,_,_,_,_,_,_,rfl,_⟩;rfl) λA outer s H vs Q E hr h=>?_;obtain⟨R,kv,rv,W,r,n,rs,rfl,⟨hk,hR,hW,hz,he,hS,hT⟩,k⟩:=h;have zl:10000 < sizeLine:=by decide
 have hKp:Kp R.S (if n=0 then 0 else W) (kpL R.F (if n=0 then 0 else W) (EO rs n)):=CQ _;have lW:(if n=0 then 0 else W)<=W:=by split <;>omega
 refine⟨_,(a9 (sT 2 V2.nd (D4 F0)) (a9 (G0 aC rfl (PX rfl T.z_reversed (x9 (C3 (GB T) hr.m T.d0p (W8 (pv 0) (pv 1) (C3 (Ic T) hr.m T.d0x (x9 (pv 1))))))) (E9 rfl (k9 (gN 3 V2.nd) (k9 (gN 4 V2.nd) B8))) (c6 (E1 (U6 bg bI bJ J1 (pv 2) (x9 (B4 (D0 (pv 3) (C3 (Eb T) hr.m T.f0j (W8 (pv 0) (pv 2) (pv 4)))))))))) (c6 (d9 (ND (k:=0) (pn:="pair") hr.m hTb.echelon rfl (by rfl) T.z_sorted (x9 (pv 2)) rfl rfl (by exact⟨rfl,rfl,rfl,dK,rfl,dK,dK,dK⟩) (λ_ _ _ _ _=>rfl)))))),?_⟩;refine⟨(by show 0<=sizeLine;omega),λa na=>?_⟩;refine G8 (o:=.lst []) na λH1 s1 k1=>?_;show y7 2 (.ref a) [some kv,some rv,none,none,none] H1 _;have hR1:=hR.same s1;refine⟨_,rfl,_,rfl,_,rfl,R,zi rv W n rs ⟨rfl,.inl hR1,?_⟩⟩;revert hz he hKp k lW;generalize (if n=0 then 0 else W)=l;intro k hz he hKp lW;refine⟨R,zm kv rv W l r n rs ⟨rfl,⟨hk.same s1,hR1,lW,oM,hz,hS⟩,λb H2 nb s2 hK=>?_⟩⟩;revert he hKp k hK;generalize kpL R.F l (EO rs n)=ks;intro k he hKp hK;have ksl:=hKp.len;obtain⟨us,hb,eK⟩:=hK;have ul:=eK.1;have ab:b≠a:=λz=>by rw[z,k1]at nb;cases nb
 have up:∀{G},i3 a H2 G->h8 H G:=λsG c o hc=>sG c o (j0 hc na) (s2 _ _ (s1 _ _ hc));have upT:∀{G},i3 a H2 G->w9 H2 G:=λsG p vs hp=>sG p _ (λz=>by
  have z2:=s2 _ _ k1;rw[<- z,hp]at z2;cases z2) hp
 refine⟨b,us,rfl,t8.of hb,OD (a:=b) (xs:=us) (λi σ G=>∃v3 v4:Option V,σ=[some kv,some rv,some (.ref a),v3,v4]/\i3 a H2 G/\J3 R W (echI R.F ks i) a G) ⟨none,none,rfl,i3.refl _ _,⟨[],s2 _ _ k1,i0.nil⟩⟩ (λi σ G _ ⟨_,_,_,sG,_⟩=>t8.of (sG _ _ ab hb)) ?_ ?_⟩
 . rintro i x σ G hi hx ⟨v3,v4,rfl,sG,hKG⟩;obtain⟨_,kq,qa,ov,ek,rfl,hq,ro⟩:=eK.at hx;rw[ul]at ek;have hqG:=upT sG _ _ hq;refine⟨qa,_,rfl,o7.of hqG,rfl,za ⟨rfl,za ⟨rfl,rfl,?_⟩⟩⟩;have hKG0:=hKG;obtain⟨ts,hta,ent⟩:=hKG;have tl:=ent.1;rw[R1 oM]at tl;refine⟨_,rfl,.inl ⟨rfl,_,t8.of hta⟩,_,rfl,_,rfl,_,rfl,_,rfl,R,zm kv a ov W r (echI R.F ks i) kq.2 ⟨rfl,⟨hk.same (up sG),hKG0,λe he'=>?_,j5.same (upT sG) ro,oM,he i kq oM ek,hS⟩,λO6 G1 t1 r1=>?_⟩⟩
   . obtain⟨k',hk',e1⟩:=IR oM e he';rw[e1];exact ar (hKp.lt k' hk') lW
   refine⟨(by show 2<=sizeLine;omega),λp5 n5=>?_⟩;refine G8 (o:=.tup [V.int (kq.1:Nat),O6]) n5 λG5 t5 k5=>?_;have t15:=t1.trans t5;have ha5:=t15 _ _ hta;refine⟨a,ts,V.ref p5,rfl,rfl,ha5,oM,?_⟩;have st:=y9 (o:=.lst (ts++[V.ref p5])) ha5;refine za ⟨rfl,sG.trans ((i3.of t15).trans i3.upd),?_⟩;rw[AH oM ek];refine⟨_,c5,?_⟩;rw[ai];refine i0.snoc (ent.mono λj w' hj q=>(Cp.app hj (q.same t15.t)).same st) ⟨(kq.1,clr R.F (echI R.F ks i) kq.2),p5,O6,?_,rfl,st _ _ k5,?_⟩
   . rw[aQ (ae _),cq];rfl
   . exact j5.same st (j5.same t5.t r1)
 . rintro σ G ⟨v3,v4,rfl,sG,hKG⟩;rw[ul,Aw]at hKG;have hel:(Ku R.F ks).length=ks.length:=by rw[<- Aw,R1 (ae _)]
   revert hKG hel k;generalize Ku R.F ks=es0;intro k hKG hel;obtain⟨ps,hpa,pl,hps⟩:=hKG.refs;have hTG:=K8.same (up sG) hT;refine⟨_,rfl,a,ps,es0.map λe=>((e.1:Nat):Int),rfl,t8.of hpa,by rw[aj,pl],oM,hTG,λi p m h1 h2=>?_,λH5 d zs sp hT5 hd pm pw=>?_⟩
   . rw[aD]at h2;obtain⟨e,e1,rfl⟩:=dg.mp h2;obtain⟨rv',z,_⟩:=hps i p e h1 e1;exact⟨_,z⟩
   . obtain⟨tps,hP,_⟩:=id hTG;have sT:w9 G H5:=λp vs hp=>sp p _ (S7 hp hP (by simp)) hp;have ez:(es0.map λe=>((e.1:Nat):Int)).zip ps=(es0.zip ps).map λx=>(((x.1.1:Nat):Int),x.2):=by
      rw[List.zip_map_left];rfl
     rw[ez]at pm;obtain⟨L,l1,rfl⟩:=HZ pm _ rfl;have pe:(L.map Prod.fst).Perm es0:=by
      have:=l1.map Prod.fst;rwa [List.map_fst_zip oM]at this
     refine k (L.map Prod.fst) d H5 (λc o hc e=>sp c o hc (up sG c o e)) hT5 ⟨_,hd,?_⟩ pe ?_
     . refine⟨by simp,λj hj=>?_⟩;rw[aj]at hj;have hm:L[j]∈es0.zip ps:=l1.mem_iff.mp (bc hj);obtain⟨i,hi,ei⟩:=cK.mp hm;have hi':i < es0.length/\i < ps.length:=by rw[List.length_zip]at hi;omega
       rw[List.getElem_zip]at ei;obtain⟨rv',z1,z2⟩:=hps i ps[i] es0[i] (ax hi'.2) (ax hi'.1);refine⟨V.ref L[j].2,by rw[cj,aD,ax hj];rfl,L[j].1,L[j].2,rv',by rw[aD,ax hj];rfl,rfl,?_,?_⟩
       . rw[<- ei];exact sT _ _ z1
       . rw[<- ei];exact j5.same sT z2
     . have:=bQ.mp pw;exact bQ.mpr (this.imp λh=>by
        have h:((_:Nat):Int)<=((_:Nat):Int):=h;exact Int.ofNat_le.mp h)
def RQ(w:World)(K:aa)(mg:Str->Option Value)(base:Heap):Sp:=λvs H Q _=>∃(R:g9 Pr w K mg base),∃kv row col n x y r,vs=[kv,row,col]/\(T6 R.C R.fs H kv/\j5 R n x row H/\j5 R n y col H/\KJ R.S r n x y/\Ay R.S (3 * r))/\
 ∀v H',h8 H H'->R.is H' v (M3 R.S x y n)->Q v H'
def JO(T:Txt K mg t):o9 Pr w K mg base D2 41 t.dot t.h0w ["kind","row","column"] (RQ w K mg base):=by
 refine T.h0u.F.ok DN (by rintro _ _ _ _ ⟨_,_,_,_,_,_,_,_,rfl,_⟩;rfl) λcdv A outer s H vs Q E hr h=>?_;obtain⟨R,kv,row,col,n,x,y,r,rfl,⟨⟨kp,dx,rfl,hk⟩,⟨fp,xs,rfl,hf,e1⟩,⟨gp,ys,rfl,hg,e2⟩,⟨z1,z2⟩,hz⟩,k⟩:=h;refine⟨_,(a9 (sT 3 DN.nd (U5 (pv 0) R.cl R.t_nought R.G_nought hr.m R.b_nought .nil B0)) (a9 (G0 aC rfl (CH rfl T.z_zip (D0 (pv 1) (pv 2))) (E9 rfl (k9 (gN 4 DN.nd) (k9 (gN 5 DN.nd) B8))) (c6 (sT 3 DN.nd (P8 (pv 0) R.cl R.t_plus R.G_plus hr.m R.b_plus .nil B0 (D0 (pv 3) (P8 (pv 0) R.cl R.t_times R.G_times hr.m R.b_times .nil B0 (D0 (pv 4) (pv 5)))))))) (c6 (d9 (pv 3))))),?_⟩;refine⟨_,rfl,zd ⟨rfl,hk,R.l_nought,_,rfl,za ⟨rfl,hk⟩,λz H1 s1 f1=>?_⟩⟩;refine⟨_,rfl,_,rfl,.tup fp,.tup gp,za ⟨xs,ys,rfl,rfl,rfl,o7.of (s1 _ _ hf),o7.of (s1 _ _ hg),Ls (K:=K) (xs:=xs) (ys:=ys) (λi σ H2=>∃tot v4 v5,σ=[some (.ref kp),some (.ref fp),some (.ref gp),some tot,v4,v5]/\h8 H H2/\R.is H2 tot (M3 R.S x y i)) (by rw[e1.1,e2.1]) ⟨_,_,_,rfl,s1,f1⟩ (λi σ H2 _ ⟨_,_,_,_,q,_⟩=>⟨o7.of (q _ _ hf),o7.of (q _ _ hg)⟩) ?_ ?_⟩⟩
 . rintro i u v p σ H2 hu hv np ⟨tot,v4,v5,rfl,q,f⟩;obtain⟨hi,pu⟩:=e1.at hu;obtain⟨_,pv⟩:=e2.at hv;have sp:=c7 (o:=.tup [u,v]) np;have q2:=q.trans sp;refine⟨p,_,rfl,o7.of c5,rfl,za ⟨rfl,za ⟨rfl,rfl,?_⟩⟩⟩;refine⟨_,rfl,zd ⟨rfl,q2 _ _ hk,R.l_plus,_,rfl,_,rfl,zd ⟨rfl,q2 _ _ hk,R.l_times,_,rfl,_,rfl,zf ⟨r,r,rfl,⟨za ⟨rfl,q2 _ _ hk⟩,R.same q2.t pu,R.same q2.t pv,(z1 i hi).1,(z1 i hi).2,hz.le oM⟩,λpr H3 s3 f3=>?_⟩⟩⟩⟩;have q3:=q2.trans s3;refine zf ⟨r,r+r,rfl,⟨za ⟨rfl,q3 _ _ hk⟩,R.same (sp.trans s3).t f,f3,z2 i oM,R.S.sz_mul _ _ _ _ (z1 i hi).1 (z1 i hi).2,hz.le oM⟩,λtt H4 s4 f4=>?_⟩;exact zd ⟨rfl,q3.trans s4,f4⟩
 . rintro σ H2 ⟨tot,v4,v5,rfl,q,f⟩;rw[e1.1]at f;exact⟨_,rfl,k _ _ q f⟩
abbrev D7(R:g9 Pr w K mg base)(h n:Nat)(x:Nat->Nat->R.S.W):V->Hp->Prop:=K0 (λi u H=>j5 R n (x i) u H) h
theorem D7.same{R:g9 Pr w K mg base}{h n:Nat}{x:Nat->Nat->R.S.W}{v:V}{H H':Hp}(s:w9 H H')(e:D7 R h n x v H):D7 R h n x v H':=e.mono s λ_ _ _ q=>j5.same s q
def FU(w:World)(K:aa)(mg:Str->Option Value)(base:Heap):Sp:=λvs H Q _=>∃(R:g9 Pr w K mg base),∃tb,∃(z:Int),∃(i:Nat),∃h n x,vs=[tb,.int z]/\(D7 R h n x tb H/\i < n/\h<=1000/\z=i)/\
 ∀v H',h8 H H'->j5 R h (λj=>x j i) v H'->Q v H'
def GC(T:Txt K mg t):o9 Pr w K mg base D2 1 t.f0u t.c0r Mm (FU w K mg base):=by
 refine T.c0y.F.ok Gg (by rintro _ _ _ _ ⟨_,_,_,_,_,_,_,rfl,_⟩;rfl) λcdv A outer s H vs Q E hr h=>?_;obtain⟨R,tb,z,i,h,n,x,rfl,⟨⟨p,rows,rfl,hp,ent⟩,hi,hh,rfl⟩,k⟩:=h;refine⟨_,(c6 (d9 (j7 g6 (by rfl) T.z_tuple boot_tuple (x9 (w5 (xs:=["row"]) rfl (show p9 Mm (b9 R9) _ from⟨rfl,dK,dK,dK,dK,dK⟩) (L9 (pv 0)) (λ_ _ _ _ _=>(j9 (i:=2) (by show List.Nodup (["table","place","row"]:List Str);decide +kernel) rfl (Or.inl rfl))) (λ_ _ _ _ _=>(j8 (show MO _ (Md K)from h9) (pv 2) (pv 1) (λ_ _=>rfl)))))))),?_⟩;refine⟨_,rfl,p,rfl,⟨_,o7.of hp⟩,o8 (n:=h) (λj ys H2=>i0 (λj u H=>R.is H u (x j i)) ys j H/\H2=H) hh ⟨i0.nil,rfl⟩ (λj ys H2 q=>q.1.1) ?_ ?_ ?_⟩
 . rintro j ys H2 hj ⟨e,rfl⟩;obtain⟨u,eu,pu⟩:=ent.2 j hj;refine Dt (o7.of hp) eu ?_;obtain⟨q,cs,rfl,hq,ec⟩:=pu;obtain⟨z,ez,pz⟩:=ec.2 i hi;refine⟨⟨[some (.ref q)],rfl,rfl⟩,_,rfl,_,rfl,ze ⟨rfl,rfl,o7.of hq,J2 ez,?_⟩⟩;exact⟨e.snoc pz,rfl⟩
 . rintro ys H2 ⟨e,rfl⟩;exact⟨_,o7.of hp,by rw[ent.1];exact ae _⟩
 . rintro ys H2 l ⟨e,rfl⟩ nl;have s1:=c7 (o:=.lst ys) nl;refine⟨l,ys,rfl,.inl ⟨t8.of c5,λl2 n2=>?_⟩⟩;have s2:=c7 (o:=.tup ys) n2;exact k _ _ (s1.trans s2) ⟨l2,ys,rfl,c5,e.mono λ_ _ _ q=>R.same (s1.trans s2).t q⟩
def EH(w:World)(K:aa)(mg:Str->Option Value)(base:Heap):Sp:=λvs H Q _=>∃(R:g9 Pr w K mg base),∃tb h n x,vs=[tb]/\(D7 R h n x tb H/\h<=1000/\n<=1000)/\
 ∀v H',h8 H H'->D7 R (if h=0 then 0 else n) h (λj i=>x i j) v H'->Q v H'
def EV(T:Txt K mg t):o9 Pr w K mg base D2 2 t.d0t t.c0o ["table"] (EH w K mg base):=by
 refine T.c0m.F.ok EL (by rintro _ _ _ _ ⟨_,_,_,_,_,rfl,_⟩;rfl) λcdv A outer s H vs Q E hr h=>?_;obtain⟨R,tb,h,n,x,rfl,⟨ht,hh,hn⟩,k⟩:=h;refine⟨_,(a9 (w8 (l4 D5 (o5 u9 (by rfl) T.z_len PySem.boot_len (x9 (pv 0))) c4 (l6 _)) (c6 (d9 (B4 F0))) l9) (c6 (d9 (j7 g6 (by rfl) T.z_tuple boot_tuple (x9 (w5 (xs:=["place"]) rfl (show p9 ["table"] (b9 P6) _ from⟨rfl,dK,dK,dK,dK,dK⟩) (x5 rfl T.z_range (x9 (o5 u9 (by rfl) T.z_len PySem.boot_len (x9 (j8 h9 (pv 0) c4 (λ_ _=>rfl)))))) (λ_ _ _ _ _=>(j9 (i:=1) (by show List.Nodup (Mm);decide +kernel) rfl (Or.inl rfl))) (λ_ _ _ _ _=>(B9 (GC (w:=w) (base:=base) T) hr.m rfl T.c0y.m T.c0y.F.kp T.c0y.b .nil B0 (D0 (pv 0) (pv 1)))))))))),?_⟩;refine⟨_,rfl,za ⟨rfl,ht.len,rfl,_,rfl,?_⟩⟩;refine X4 (λe0=>?_) (λe0=>?_)
 . have e:h=0:=by omega
   subst e;refine⟨(by show 0<=sizeLine;decide),λp np=>k _ _ (c7 np) ⟨p,[],rfl,c5,i0.nil⟩⟩
 . obtain⟨p,rows,rfl,hp,ent⟩:=ht;obtain⟨u,eu,pu⟩:=ent.2 0 oM;have e0:h≠0:=by omega
   rw[if_neg e0]at k;refine⟨_,rfl,ze ⟨rfl,rfl,o7.of hp,J2 (j:=0) eu,za ⟨rfl,pu.len,_,rfl,oM,oM,o8 (n:=n) (λj ys H2=>h8 H H2/\i0 (λj u H=>j5 R h (λi=>x i j) u H) ys j H2) hn ⟨h8.refl _,i0.nil⟩ (λj ys H2 q=>q.2.1) ?_ ?_ ?_⟩⟩⟩
   . rintro j ys H2 hj ⟨q,e⟩;refine Ej (by omega) ?_;refine⟨⟨[some (.int (0+(j:Int)))],rfl,rfl⟩,_,rfl,_,rfl,R,zk _ _ j h n x ⟨rfl,⟨D7.same q.t ⟨p,rows,rfl,hp,ent⟩,hj,hh,oM⟩,λv H3 s3 r3=>?_⟩⟩;exact⟨q.trans s3,(e.mono λ_ _ _ z=>j5.same s3.t z).snoc r3⟩
   . rintro ys H2 ⟨q,e⟩;show(n:Int).toNat<=n;omega
   . rintro ys H2 l ⟨q,e⟩ nl;have s1:=c7 (o:=.lst ys) nl;refine⟨l,ys,rfl,.inl ⟨t8.of c5,λl2 n2=>?_⟩⟩;have s2:=c7 (o:=.tup ys) n2;exact k _ _ (q.trans (s1.trans s2)) ⟨l2,ys,rfl,c5,e.mono λ_ _ _ z=>j5.same (s1.trans s2).t z⟩
def LS(w:World)(K:aa)(mg:Str->Option Value)(base:Heap):Sp:=λvs H Q _=>∃(R:g9 Pr w K mg base),∃kv row tb h n x A r,vs=[kv,row,tb]/\(T6 R.C R.fs H kv/\j5 R h x row H/\D7 R h n A tb H/\h<=1000/\n<=1000/\(∀j,j < n->KJ R.S r h x (λi=>A i j))/\Ay R.S (3 * r))/\
 ∀v H',h8 H H'->j5 R (if h=0 then 0 else n) (λj=>M3 R.S x (λi=>A i j) h) v H'->Q v H'
def FD(T:Txt K mg t):o9 Pr w K mg base D2 42 t.h0r t.g0v NY (LS w K mg base):=by
 refine T.g0k.F.ok Mb (by rintro _ _ _ _ ⟨_,_,_,_,_,_,_,_,_,rfl,_⟩;rfl) λcdv A outer s H vs Q E hr h=>?_;obtain⟨R,kv,row,tb,h,n,x,B,r,rfl,⟨hk,hx,ht,hh,hn,hz,hS⟩,k⟩:=h;refine⟨_,(c6 (d9 (j7 g6 (by rfl) T.z_tuple boot_tuple (x9 (w5 (xs:=["column"]) rfl (show p9 NY (b9 BM) _ from⟨rfl,dK,dK,dK,dK,dK⟩) (L9 (C3 (EV T) hr.m T.c0m (x9 (pv 2)))) (λ_ _ _ _ _=>(j9 (i:=3) (by show List.Nodup (["kind","row","table","column"]:List Str);decide +kernel) rfl (Or.inl rfl))) (λ_ _ _ _ _=>(B9 (JO (w:=w) (base:=base) T) hr.m rfl T.h0u.m T.h0u.F.kp T.h0u.b .nil B0 (W8 (pv 0) (pv 1) (pv 3))))))))),?_⟩;refine⟨_,rfl,R,zi _ h n B ⟨rfl,⟨ht,hh,hn⟩,?_⟩⟩;rintro cv H1 s1 ⟨p,cols,rfl,hp,ent⟩;refine⟨p,rfl,⟨_,o7.of hp⟩,o8 (n:=if h=0 then 0 else n) (λj ys H2=>h8 H1 H2/\i0 (λj u H=>R.is H u (M3 R.S x (λi=>B i j) h)) ys j H2) (by split <;>omega) ⟨h8.refl _,i0.nil⟩ (λj ys H2 q=>q.2.1) ?_ ?_ ?_⟩
 . rintro j ys H2 hj ⟨q,e⟩;obtain⟨u,eu,pu⟩:=ent.2 j hj;refine Dt (o7.of (q _ _ hp)) eu ?_;refine⟨⟨[some _],rfl,rfl⟩,_,rfl,_,rfl,_,rfl,R,zm _ _ _ h x (λi=>B i j) r ⟨rfl,⟨hk.same (s1.trans q),j5.same (s1.trans q).t hx,j5.same q.t pu,hz j (by split at hj <;>omega),hS⟩,λv H3 s3 f3=>?_⟩⟩;exact⟨q.trans s3,(e.mono λ_ _ _ z=>R.same s3.t z).snoc f3⟩
 . rintro ys H2 ⟨q,e⟩;exact⟨_,o7.of (q _ _ hp),by rw[ent.1];exact ae _⟩
 . rintro ys H2 l ⟨q,e⟩ nl;have s1':=c7 (o:=.lst ys) nl;refine⟨l,ys,rfl,.inl ⟨t8.of c5,λl2 n2=>?_⟩⟩;have s2:=c7 (o:=.tup ys) n2;exact k _ _ ((s1.trans q).trans (s1'.trans s2)) ⟨l2,ys,rfl,c5,e.mono λ_ _ _ z=>R.same (s1'.trans s2).t z⟩
def FV(w:World)(K:aa)(mg:Str->Option Value)(base:Heap):Sp:=λvs H Q _=>∃(R:g9 Pr w K mg base),∃kv tb col h n A y r,vs=[kv,tb,col]/\(T6 R.C R.fs H kv/\D7 R h n A tb H/\j5 R n y col H/\h<=1000/\(∀i,i < h->KJ R.S r n (A i) y)/\Ay R.S (3 * r))/\
 ∀v H',h8 H H'->j5 R h (λi=>M3 R.S (A i) y n) v H'->Q v H'
def GD(T:Txt K mg t):o9 Pr w K mg base D2 42 t.f0v t.d0l Oa (FV w K mg base):=by
 refine T.c0v.F.ok Gh (by rintro _ _ _ _ ⟨_,_,_,_,_,_,_,_,_,rfl,_⟩;rfl) λcdv A outer s H vs Q E hr h=>?_;obtain⟨R,kv,tb,col,h,n,B,y,r,rfl,⟨hk,⟨p,rows,rfl,hp,ent⟩,hy,hh,hz,hS⟩,k⟩:=h;refine⟨_,(c6 (d9 (j7 g6 (by rfl) T.z_tuple boot_tuple (x9 (w5 (xs:=["row"]) rfl (show p9 Oa (b9 S3) _ from⟨rfl,dK,dK,dK,dK,dK⟩) (L9 (pv 1)) (λ_ _ _ _ _=>(j9 (i:=3) (by show List.Nodup (["kind","table","column","row"]:List Str);decide +kernel) rfl (Or.inl rfl))) (λ_ _ _ _ _=>(B9 (JO (w:=w) (base:=base) T) hr.m rfl T.h0u.m T.h0u.F.kp T.h0u.b .nil B0 (W8 (pv 0) (pv 3) (pv 2))))))))),?_⟩;refine⟨_,rfl,p,rfl,⟨_,o7.of hp⟩,o8 (n:=h) (λj ys H2=>h8 H H2/\i0 (λi u H=>R.is H u (M3 R.S (B i) y n)) ys j H2) hh ⟨h8.refl _,i0.nil⟩ (λj ys H2 q=>q.2.1) ?_ ?_ ?_⟩
 . rintro j ys H2 hj ⟨q,e⟩;obtain⟨u,eu,pu⟩:=ent.2 j hj;refine Dt (o7.of (q _ _ hp)) eu ?_;refine⟨⟨[some _],rfl,rfl⟩,_,rfl,_,rfl,_,rfl,R,zm _ _ _ n (B j) y r ⟨rfl,⟨hk.same q,j5.same q.t pu,j5.same q.t hy,hz j hj,hS⟩,λv H3 s3 f3=>?_⟩⟩;exact⟨q.trans s3,(e.mono λ_ _ _ z=>R.same s3.t z).snoc f3⟩
 . rintro ys H2 ⟨q,e⟩;exact⟨_,o7.of (q _ _ hp),by rw[ent.1];exact ae _⟩
 . rintro ys H2 l ⟨q,e⟩ nl;have s1':=c7 (o:=.lst ys) nl;refine⟨l,ys,rfl,.inl ⟨t8.of c5,λl2 n2=>?_⟩⟩;have s2:=c7 (o:=.tup ys) n2;exact k _ _ (q.trans (s1'.trans s2)) ⟨l2,ys,rfl,c5,e.mono λ_ _ _ z=>R.same (s1'.trans s2).t z⟩
def HF(w:World)(K:aa)(mg:Str->Option Value)(base:Heap):Sp:=λvs H Q _=>∃(R:g9 Pr w K mg base),∃kv ov tb h n A B r,vs=[kv,ov,tb]/\(T6 R.C R.fs H kv/\D7 R h n A ov H/\D7 R n n B tb H/\h<=1000/\n<=1000/\(∀i,i < h->∀j,j < n->KJ R.S r n (A i) (λk=>B k j))/\Ay R.S (3 * r))/\
 ∀v H',h8 H H'->D7 R h n (λi j=>M3 R.S (A i) (λk=>B k j) n) v H'->Q v H'
def Io(T:Txt K mg t):o9 Pr w K mg base D2 43 t.g0r t.e0u GE (HF w K mg base):=by
 refine T.e0h.F.ok HM (by rintro _ _ _ _ ⟨_,_,_,_,_,_,_,_,_,rfl,_⟩;rfl) λcdv A outer s H vs Q E hr h=>?_;obtain⟨R,kv,ov,tb,h,n,A',B,r,rfl,⟨hk,⟨p,rows,rfl,hp,ent⟩,ht,hh,hn,hz,hS⟩,k⟩:=h;refine⟨_,(c6 (d9 (j7 g6 (by rfl) T.z_tuple boot_tuple (x9 (w5 (xs:=["row"]) rfl (show p9 GE (b9 V7) _ from⟨rfl,dK,dK,dK,dK,dK⟩) (L9 (pv 1)) (λ_ _ _ _ _=>(j9 (i:=3) (by show List.Nodup (["kind","one","other","row"]:List Str);decide +kernel) rfl (Or.inl rfl))) (λ_ _ _ _ _=>(B9 (FD (w:=w) (base:=base) T) hr.m rfl T.g0k.m T.g0k.F.kp T.g0k.b .nil B0 (W8 (pv 0) (pv 3) (pv 2))))))))),?_⟩;refine⟨_,rfl,p,rfl,⟨_,o7.of hp⟩,o8 (n:=h) (λj ys H2=>h8 H H2/\i0 (λi u H=>j5 R n (λj=>M3 R.S (A' i) (λk=>B k j) n) u H) ys j H2) hh ⟨h8.refl _,i0.nil⟩ (λj ys H2 q=>q.2.1) ?_ ?_ ?_⟩
 . rintro j ys H2 hj ⟨q,e⟩;obtain⟨u,eu,pu⟩:=ent.2 j hj;refine Dt (o7.of (q _ _ hp)) eu ?_;refine⟨⟨[some _],rfl,rfl⟩,_,rfl,_,rfl,_,rfl,R,zp _ _ _ n n (A' j) B r ⟨rfl,⟨hk.same q,j5.same q.t pu,D7.same q.t ht,hn,hn,hz j hj,hS⟩,λv H3 s3 f3=>?_⟩⟩;rw[show(if n=0 then 0 else n)=n by split <;>omega]at f3;exact⟨q.trans s3,(e.mono λ_ _ _ z=>j5.same s3.t z).snoc f3⟩
 . rintro ys H2 ⟨q,e⟩;exact⟨_,o7.of (q _ _ hp),by rw[ent.1];exact ae _⟩
 . rintro ys H2 l ⟨q,e⟩ nl;have s1':=c7 (o:=.lst ys) nl;refine⟨l,ys,rfl,.inl ⟨t8.of c5,λl2 n2=>?_⟩⟩;have s2:=c7 (o:=.tup ys) n2;exact k _ _ (q.trans (s1'.trans s2)) ⟨l2,ys,rfl,c5,e.mono λ_ _ _ z=>j5.same (s1'.trans s2).t z⟩
abbrev EA(R:g9 Pr w K mg base)(m n:Nat)(tb:Nat->Nat->Nat->R.S.W):V->Hp->Prop:=K0 (λj u H=>D7 R n n (tb j) u H) m
theorem EA.same{R:g9 Pr w K mg base}{m n:Nat}{tb:Nat->Nat->Nat->R.S.W}{v:V}{H H':Hp}(s:w9 H H')(h:EA R m n tb v H):EA R m n tb v H':=h.mono s λ_ _ _ q=>D7.same s q
def r9(R:g9 Pr w K mg base)(l:List Nat)(n:Nat)(st:Nat->R.S.W)(tb:Nat->Nat->Nat->R.S.W)(en:Nat->R.S.W)(v:V)(H:Hp):Prop:=
 ∃p sv tv ev,v=.ref p/\H p=some (.tup [vT l,sv,tv,ev])/\j5 R n st sv H/\EA R l.length n tb tv H/\j5 R n en ev H
theorem r9.same{R:g9 Pr w K mg base}{l:List Nat}{n:Nat}{st:Nat->R.S.W}{tb:Nat->Nat->Nat->R.S.W}{en:Nat->R.S.W}{v:V}{H H':Hp}(s:w9 H H')(h:r9 R l n st tb en v H):r9 R l n st tb en v H':=by
 obtain⟨p,sv,tv,ev,rfl,hp,h1,h2,h3⟩:=h;exact⟨p,sv,tv,ev,rfl,s _ _ hp,j5.same s h1,EA.same s h2,j5.same s h3⟩
def AW(R:g9 Pr w K mg base)(W:Nat)(ρ:List Nat->Nat->R.S.W)(ws:List (List Nat)):Nat->V->Hp->Prop:=λi u H=>∃wd q rv,ws[i]? = some wd/\u=.ref q/\H q=some (.tup [vT wd,rv])/\j5 R W (ρ wd) rv H
theorem AW.same{R:g9 Pr w K mg base}{W i:Nat}{ρ:List Nat->Nat->R.S.W}{ws:List (List Nat)}{u:V}{H H':Hp}(s:w9 H H')(h:AW R W ρ ws i u H):AW R W ρ ws i u H':=by
 obtain⟨wd,q,rv,e,rfl,hq,r⟩:=h;exact⟨wd,q,rv,e,rfl,s _ _ hq,j5.same s r⟩
def D9(R:g9 Pr w K mg base)(W:Nat)(ρ:List Nat->Nat->R.S.W)(ws:List (List Nat))(a:Addr)(H:Hp):Prop:=∃us,H a=some (.lst us)/\i0 (AW R W ρ ws) us ws.length H
theorem D9.same{R:g9 Pr w K mg base}{W:Nat}{ρ:List Nat->Nat->R.S.W}{ws:List (List Nat)}{a:Addr}{H H':Hp}(s:h8 H H')(h:D9 R W ρ ws a H):D9 R W ρ ws a H':=by
 obtain⟨us,ha,e⟩:=h;exact⟨us,s _ _ ha,e.mono λ_ _ _ q=>q.same s.t⟩
def AW.up{R:g9 Pr w K mg base}{W i:Nat}{ρ:List Nat->Nat->R.S.W}{ws vs:List (List Nat)}{u:V}{H:Hp}(hi:i < ws.length)(h:AW R W ρ ws i u H):AW R W ρ (ws++vs) i u H:=by
 obtain⟨wd,q,rv,e,r⟩:=h;exact⟨wd,q,rv,by rw[aJ hi];exact e,r⟩
def AW.lift{R:g9 Pr w K mg base}{W i:Nat}{ρ:List Nat->Nat->R.S.W}{ws vs:List (List Nat)}{u:V}{H:Hp}(h:AW R W ρ vs i u H):AW R W ρ (ws++vs) (ws.length+i) u H:=by
 obtain⟨wd,q,rv,e,r⟩:=h;exact⟨wd,q,rv,by rw[aQ oM,show ws.length+i - ws.length=i by omega];exact e,r⟩
def Er{R:g9 Pr w K mg base}{W:Nat}{ρ:List Nat->Nat->R.S.W}{ws vs:List (List Nat)}{us xs:List V}{H:Hp}(h:i0 (AW R W ρ ws) us ws.length H)(g:i0 (AW R W ρ vs) xs vs.length H):i0 (AW R W ρ (ws++vs)) (us++xs) (ws++vs).length H:=by
 refine⟨by rw[ai,ai,h.1,g.1],λj hj=>?_⟩;rw[ai]at hj;by_cases z:j < ws.length
 . obtain⟨u,e,p⟩:=h.2 j z;exact⟨u,by rw[aJ (by rw[h.1];exact z)];exact e,p.up z⟩
 . obtain⟨u,e,p⟩:=g.2 (j - ws.length) oM;refine⟨u,by rw[aQ (by rw[h.1];omega),h.1];exact e,?_⟩;have:=p.lift (ws:=ws);rwa [show ws.length+(j - ws.length)=j by omega]at this
def D8(D:Addr->Prop)(H H':Hp):Prop:=∀b o,¬D b->H b=some o->H' b=some o
def D8.of{D:Addr->Prop}{H H':Hp}(s:h8 H H'):D8 D H H':=λb o _ h=>s b o h
def D8.trans{D:Addr->Prop}{H H1 H2:Hp}(s:D8 D H H1)(s':D8 D H1 H2):D8 D H H2:=λb o n h=>s' b o n (s b o n h)
def spG(R:g9 Pr w K mg base)(W:Nat)(ρ:List Nat->Nat->R.S.W)(g:List (List Nat)->List (List Nat))(Ok:List (List Nat)->Prop)(D:Addr->Prop)(J:Hp->Prop):Sp:=λvs H Q _=>∃a ws,vs=[.ref a]/\(D9 R W ρ ws a H/\Ok ws/\J H)/\
 ∀b H',D8 D H H'->J H'->H b=none->D9 R W ρ (g ws) b H'->Q (.ref b) H'
theorem D8.tup{D:Addr->Prop}{H H':Hp}(s:D8 D H H')(h:∀b,D b->∃o,H b=some o/\(∀ts,o≠.tup ts)/\∀C dx fs,o≠.ins C dx fs):w9 H H':=λp ts e=>s p _ (λd=>by
 obtain⟨o,h1,h2,_⟩:=h p d;rw[e]at h1;exact h2 ts (Option.some.inj h1).symm) e
def T6.sameD{D:Addr->Prop}{H H':Hp}{C:Addr}{fs:List (Str × V)}{v:V}(s:D8 D H H')(h:∀b,D b->∃o,H b=some o/\(∀ts,o≠.tup ts)/\∀C dx fs,o≠.ins C dx fs)(k:T6 C fs H v):T6 C fs H' v:=by
 obtain⟨p,dx,rfl,e⟩:=k;refine⟨p,dx,rfl,s p _ (λd=>?_) e⟩;obtain⟨o,h1,_,h2⟩:=h p d;rw[e]at h1;exact h2 _ _ _ (Option.some.inj h1).symm
def i3.lt{a:Addr}{xs:List V}{H H':Hp}(s:i3 a H H')(h:H a=some (.lst xs)):w9 H H':=λp ts e=>s p _ (λz=>by rw[z,h]at e;cases e) e
def D9.sameX{R:g9 Pr w K mg base}{W:Nat}{ρ:List Nat->Nat->R.S.W}{ws:List (List Nat)}{a b:Addr}{xs:List V}{H H':Hp}(s:i3 b H H')(hb:H b=some (.lst xs))(n:a≠b)(h:D9 R W ρ ws a H):D9 R W ρ ws a H':=by
 obtain⟨us,ha,e⟩:=h;exact⟨us,s _ _ n ha,e.mono λ_ _ _ q=>q.same (s.lt hb)⟩
def J3.sameX{R:g9 Pr w K mg base}{W:Nat}{ks:List (Nat × (Nat->R.S.W))}{a b:Addr}{xs:List V}{H H':Hp}(s:i3 b H H')(hb:H b=some (.lst xs))(n:a≠b)(h:J3 R W ks a H):J3 R W ks a H':=by
 obtain⟨us,ha,e⟩:=h;exact⟨us,s _ _ n ha,e.mono λ_ _ _ q=>q.same (s.lt hb)⟩
def D9.sameD{R:g9 Pr w K mg base}{W:Nat}{ρ:List Nat->Nat->R.S.W}{ws:List (List Nat)}{a:Addr}{D:Addr->Prop}{H H':Hp}(s:D8 D H H')(t:w9 H H')(n:¬D a)(h:D9 R W ρ ws a H):D9 R W ρ ws a H':=by
 obtain⟨us,ha,e⟩:=h;exact⟨us,s _ _ n ha,e.mono λ_ _ _ q=>q.same t⟩
def J3.sameD{R:g9 Pr w K mg base}{W:Nat}{ks:List (Nat × (Nat->R.S.W))}{a:Addr}{D:Addr->Prop}{H H':Hp}(s:D8 D H H')(t:w9 H H')(n:¬D a)(h:J3 R W ks a H):J3 R W ks a H':=by
 obtain⟨us,ha,e⟩:=h;exact⟨us,s _ _ n ha,e.mono λ_ _ _ q=>q.same t⟩
def Fn.imp{P:Program}{w:World}{K:aa}{mg:Str->Option Value}{base:Heap}{k:Nat}{f:Addr}{sp sp':Sp}(F:Fn P w K mg base k f sp)(h:∀v H Q,sp' [v] H Q E0->sp [v] H Q E0):Fn P w K mg base k f sp':=
 ⟨F.fn,λA outer s H u v Q hr e rv q=>F.run A outer s H u v Q hr e rv (h v H Q q)⟩
def EG(w:World)(K:aa)(mg:Str->Option Value)(base:Heap):Sp:=λvs H Q _=>∃(R:g9 Pr w K mg base),∃kv fv f,∃(W β r:Nat),∃ρ g Ok D J,vs=[kv,fv,.ref f]/\(T6 R.C R.fs H kv/\j5 R W (ρ []) fv H/\W<=60/\Fn Pr w K mg base 48 f (spG R W ρ g Ok D J)/\(J H/\(∀G G',h8 G G'->J G->J G')/\∀a xs G G',H a=none->G a=some (.lst xs)->i3 a G G'->J G->J G')/\(∀G,J G->∀b,D b->∃o,G b=some o/\(∀ts,o≠.tup ts)/\∀C dx fs,o≠.ins C dx fs)/\g []=[]/\
    (∀i,(l7 R.F W ρ g i).last≠[]->Ok (O7 R.F W ρ (l7 R.F W ρ g i).ks (l7 R.F W ρ g i).last))/\(∀i,∀u∈(l7 R.F W ρ g i).last,XB R.B W β r (ρ u))/\Ay R.S (3 * (β+(r+1) * 2 ^ W)))/\
 ∀b H',D8 D H H'->J H'->H b=none->D9 R W ρ (DB R.F W ρ g) b H'->Q (.ref b) H'
def EU(T:Txt K mg t):o9 Pr w K mg base D2 51 t.e0m t.c0k ["kind","first","grown"] (EG w K mg base):=by
 refine T.c0i.F.ok C8 (by rintro _ _ _ _ ⟨_,_,_,_,_,_,_,_,_,_,_,_,rfl,_⟩;rfl) λcdv A outer s H vs Q E hr h=>?_;obtain⟨R,kv,fv,f,W,β,r,ρ,g,Ok,D,J,rfl,⟨hk,hf,hW,hG,⟨hJ,hJs,hJl⟩,hD,hg0,hOk,hX,hS⟩,k⟩:=h;refine⟨_,(a9 (sT 3 C8.nd (D4 F0)) (a9 (sT 4 C8.nd (D4 F0)) (a9 (sT 5 C8.nd (D4 (x9 (B4 (D0 Ae (pv 1)))))) (a9 (Ab aC (l4 W9 (o5 u9 (by rfl) T.z_len PySem.boot_len (x9 (pv 5))) c4 (l6 _)) (a9 (sT 6 C8.nd (D4 F0)) (a9 (G0 aC rfl (F8 (pv 5)) (gN 7 C8.nd) (c6 (w8 (Q9 (C3 (Lh T) hr.m T.h0o (Jk (pv 0) (pv 3) (j8 h9 (pv 7) c4 (λ_ _=>rfl)) (o5 u9 (by rfl) T.z_len PySem.boot_len (x9 (pv 1)))))) (c6 (E1 (U6 bg bI bJ J1 (pv 6) (x9 (pv 7))))) l9))) (a9 (E1 (U6 bg PySem.F.slot_list_extend PySem.F.type_list_extend FF (pv 4) (x9 (pv 6)))) (c6 (sT 5 C8.nd (NH (i:=2) (k:=48) hr.m (x9 (pv 6))))))))) (c6 (d9 (pv 4))))))),?_⟩;refine⟨(by show 0<=sizeLine;decide),λka nk=>?_⟩;refine G8 (o:=.lst []) nk λH1 s1 k1=>?_;refine⟨(by show 0<=sizeLine;decide),λta nt=>?_⟩;refine G8 (o:=.lst []) nt λH2 s2 k2=>?_;have tk:ta≠ka:=λz=>by rw[z,k1]at nt;cases nt
 show y7 4 (V.ref ta) [some kv,some fv,some (.ref f),some (.ref ka),none,none,none,none] H2 _;refine⟨_,rfl,(by show 2<=sizeLine;decide),λtp ntp=>?_⟩;rw[OG];refine G8 (o:=.tup [V.str (tx []),fv]) ntp λH3 s3 k3=>?_;refine⟨(by show 1<=sizeLine;decide),λla nl=>?_⟩;refine G8 (o:=.lst [V.ref tp]) nl λH4 s4 k4=>?_;show y7 5 (V.ref la) [some kv,some fv,some (.ref f),some (.ref ka),some (.ref ta),none,none,none] H4 _;have q2:=s1.trans s2;have q3:=q2.trans s3;have q4:=q3.trans s4;have nta:H ta=none:=by
  cases e:H ta with
  | none=>rfl
  | some o=>rw[s1 _ _ e]at nt;cases nt
 have nla:H la=none:=by
  cases e:H la with
  | none=>rfl
  | some o=>rw[q3 _ _ e]at nl;cases nl
 have lk:la≠ka:=λz=>by rw[z,s3 _ _ (s2 _ _ k1)]at nl;cases nl
 have lt:la≠ta:=λz=>by rw[z,s3 _ _ k2]at nl;cases nl
 refine⟨λm σ G=>∃(i:Nat) (la:Addr) (v6 v7:Option V),σ=[some kv,some fv,some (.ref f),some (.ref ka),some (.ref ta),some (.ref la),v6,v7]/\m=Uk W (l7 R.F W ρ g i)/\D8 D H G/\J G/\J3 R W (l7 R.F W ρ g i).ks ka G/\D9 R W ρ (l7 R.F W ρ g i).told ta G/\D9 R W ρ (l7 R.F W ρ g i).last la G/\H la=none/\la≠ka/\la≠ta,⟨_,0,la,za ⟨rfl,rfl,D8.of q4,hJs _ _ q4 hJ,⟨_,(s2.trans (s3.trans s4)) _ _ k1,i0.nil⟩,⟨_,(s3.trans s4) _ _ k2,i0.nil⟩,⟨_,k4,i0.snoc i0.nil ⟨[],tp,fv,rfl,rfl,s4 _ _ k3,j5.same q4.t hf⟩⟩,nla,lk,lt⟩⟩,?_⟩
 rintro m σ G ⟨i,la,v6,v7,rfl,rfl,sD,jG,hK,hT,hL,nla,lk,lt⟩;have hL0:=hL;obtain⟨us,hla,eL⟩:=hL;have hlen:AX K (.ref la) G (l7 R.F W ρ g i).last.length:=.inl ⟨_,t8.of hla,eL.1.symm⟩;refine⟨_,rfl,za ⟨rfl,hlen,za ⟨rfl,rfl,_,rfl,?_⟩⟩⟩;refine Av (λh0=>?_) (λh0=>?_)
 . have ne:(l7 R.F W ρ g i).last≠[]:=λz=>by rw[z]at h0;exact absurd h0 (by decide)
   refine⟨λσ' G'=>∃(la:Addr) (v6 v7:Option V),σ'=[some kv,some fv,some (.ref f),some (.ref ka),some (.ref ta),some (.ref la),v6,v7]/\D8 D H G'/\J G'/\J3 R W (l7 R.F W ρ g (i+1)).ks ka G'/\D9 R W ρ (l7 R.F W ρ g (i+1)).told ta G'/\D9 R W ρ (l7 R.F W ρ g (i+1)).last la G'/\H la=none/\la≠ka/\la≠ta,
    λσ' G' ⟨la,v6,v7,e1,e2,e3,e4,e5,e6,e7,e8,e9⟩=>⟨_,Oy hg0 ne,i+1,la,v6,v7,e1,rfl,e2,e3,e4,e5,e6,e7,e8,e9⟩,?_⟩
   have dG:=hD _ jG;have nd:∀{b:Addr},H b=none->¬D b:=λ{b} e d=>by
    obtain⟨o,h1,_⟩:=hD _ hJ b d;rw[e]at h1;cases h1
   have nn:∀{b:Addr} {G:Hp},D8 D H G->J G->G b=none->H b=none:=λ{b G} sG jG e=>by
    cases e':H b with
    | none=>rfl
    | some o=>
     by_cases d:D b
     . obtain⟨o,h1,_⟩:=hD _ jG b d;rw[e]at h1;cases h1
     . rw[sG b o d e']at e;cases e
   refine⟨(by show 0<=sizeLine;decide),λfa nf=>?_⟩;have t1:=c7 (o:=.lst ([]:List V)) nf;have f1:=c5 (H:=G) (a:=fa) (o:=.lst []);have nfa:=nn sD jG nf;have fk:fa≠ka:=λz=>by obtain⟨_,e,_⟩:=hK;rw[<- z,nf]at e;cases e
   have ft:fa≠ta:=λz=>by obtain⟨_,e,_⟩:=hT;rw[<- z,nf]at e;cases e
   have fl:fa≠la:=λz=>by rw[<- z,nf]at hla;cases hla
   revert t1 f1;generalize upd G fa (.lst [])=G1;intro t1 f1;show y7 6 (V.ref fa) [some kv,some fv,some (.ref f),some (.ref ka),some (.ref ta),some (.ref la),v6,v7] G1 _;have KP:∀j,Kp R.S W (U7 R.F W ρ (l7 R.F W ρ g i).ks ((l7 R.F W ρ g i).last.take j)):=λj=>Hd (N9 i);have KB:∀j,Kb R.B W r (U7 R.F W ρ (l7 R.F W ρ g i).ks ((l7 R.F W ρ g i).last.take j)):=λj=>Kr (β:=β) (ae _) (Ox (β:=β) (ae _) hX i) λu hu=>hX i u (List.mem_of_mem_take hu);have FL:∀j,(O7 R.F W ρ (l7 R.F W ρ g i).ks ((l7 R.F W ρ g i).last.take j)).length<=W:=λj=>by
    have:=W0 (F:=R.F) (l:=W) (ρ:=ρ) (ws:=(l7 R.F W ρ g i).last.take j) (ks:=(l7 R.F W ρ g i).ks);have:=(KP j).len;omega
   have zl:10000 < sizeLine:=by decide
   refine⟨_,rfl,la,rfl,⟨_,t8.of (t1 _ _ hla)⟩,U8 (K:=K) (a:=la) (xs:=us) (λj σ G2=>∃v7,σ=[some kv,some fv,some (.ref f),some (.ref ka),some (.ref ta),some (.ref la),some (.ref fa),v7]/\D8 D H G2/\J G2/\J3 R W (U7 R.F W ρ (l7 R.F W ρ g i).ks ((l7 R.F W ρ g i).last.take j)) ka G2/\D9 R W ρ (l7 R.F W ρ g i).told ta G2/\(G2 la=some (.lst us)/\i0 (AW R W ρ (l7 R.F W ρ g i).last) us (l7 R.F W ρ g i).last.length G2)/\D9 R W ρ (O7 R.F W ρ (l7 R.F W ρ g i).ks ((l7 R.F W ρ g i).last.take j)) fa G2)
    ⟨_,rfl,sD.trans (.of t1),hJs _ _ t1 jG,hK.same t1,hT.same t1,⟨t1 _ _ hla,eL.mono λ_ _ _ q=>q.same t1.t⟩,⟨_,f1,i0.nil⟩⟩ (λj σ G2 _ ⟨_,_,_,_,_,_,e,_⟩=>t8.of e.1) ?_ ?_⟩
   . rintro j y σ G2 hj ⟨v7,rfl,sD2,jG2,hK2,hT2,⟨hla2,eL2⟩,hF2⟩;obtain⟨jl,wd,q,rv,ew,rfl,hq,ro⟩:=eL2.at hj;have dG2:=hD _ jG2;have st2:w9 H G2:=sD2.tup (hD _ hJ);have hk2:T6 R.C R.fs G2 kv:=T6.sameD sD2 (hD _ hJ) hk;have ts:(l7 R.F W ρ g i).last.take (j+1)=(l7 R.F W ρ g i).last.take j++[wd]:=E7 ew;have ek:U7 R.F W ρ (l7 R.F W ρ g i).ks ((l7 R.F W ρ g i).last.take (j+1))=S9 R.F W (U7 R.F W ρ (l7 R.F W ρ g i).ks ((l7 R.F W ρ g i).last.take j)) (ρ wd):=by rw[ts,Oz]
     have ef:O7 R.F W ρ (l7 R.F W ρ g i).ks ((l7 R.F W ρ g i).last.take (j+1))=O7 R.F W ρ (l7 R.F W ρ g i).ks ((l7 R.F W ρ g i).last.take j)++(if(S9 R.F W (U7 R.F W ρ (l7 R.F W ρ g i).ks ((l7 R.F W ρ g i).last.take j)) (ρ wd)).length≠(U7 R.F W ρ (l7 R.F W ρ g i).ks ((l7 R.F W ρ g i).last.take j)).length then [wd]else []):=by rw[ts,Cg]
     refine⟨_,rfl,_,rfl,_,rfl,ze ⟨rfl,rfl,o7.of hq,rfl,_,rfl,za ⟨rfl,(j5.same st2 hf).len,R,zp kv ka rv W W (β+(r+1) * 2 ^ W) _ (ρ wd) ⟨rfl,⟨hk2,hK2,KP j,ro,ae _,oM,λ_=>(KB j).clrZ (hX i wd (aR ew)) (KP j).len (ae _),hS⟩,λG3 s3 K3=>?_⟩⟩⟩⟩;obtain⟨kus,hka2,_⟩:=id hK2;have hF3:=hF2.sameX s3 hka2 fk;have hT3:=hT2.sameX s3 hka2 tk;have st3:=s3.lt hka2;have sD3:D8 D H G3:=λb o d e=>s3 b o (j0 e nk) (sD2 b o d e);have jG3:=hJl ka _ _ _ nk hka2 s3 jG2;have hla3:=s3 _ _ lk hla2;have eL3:=eL2.mono λ_ _ _ (q:AW R W ρ (l7 R.F W ρ g i).last _ _ _)=>q.same st3;by_cases hc:(S9 R.F W (U7 R.F W ρ (l7 R.F W ρ g i).ks ((l7 R.F W ρ g i).last.take j)) (ρ wd)).length≠(U7 R.F W ρ (l7 R.F W ρ g i).ks ((l7 R.F W ρ g i).last.take j)).length
     . rw[if_pos hc]at ef;rw[decide_eq_true hc];refine⟨_,rfl,?_⟩;refine Fi ?_;obtain⟨fus,hfa3,eF3⟩:=hF3;have:=FL j;refine⟨_,rfl,.inl ⟨rfl,_,t8.of hfa3⟩,_,rfl,fa,fus,V.ref q,rfl,rfl,hfa3,(by rw[eF3.1];omega),?_⟩;have sx:i3 fa G3 (upd G3 fa (.lst (fus++[V.ref q]))):=i3.upd;have sl:=y9 (o:=.lst (fus++[V.ref q])) hfa3;refine⟨_,rfl,λb o d e=>sx b o (j0 e nfa) (sD3 b o d e),hJl fa _ _ _ nfa hfa3 sx jG3,?_,hT3.sameX sx hfa3 (Ne.symm ft),⟨sx _ _ (Ne.symm fl) hla3,eL3.mono λ_ _ _ q=>q.same sl⟩,?_⟩
       . rw[ek];exact K3.sameX sx hfa3 (Ne.symm fk)
       . rw[ef];refine⟨_,c5,Er (eF3.mono λ_ _ _ q=>q.same sl) (i0.snoc i0.nil ⟨wd,q,rv,rfl,rfl,sl _ _ (st3 _ _ hq),j5.same sl (j5.same st3 ro)⟩)⟩
     . rw[if_neg hc,aN]at ef;rw[decide_eq_false hc];refine⟨_,rfl,?_⟩;refine AU ?_;refine⟨_,rfl,sD3,jG3,?_,hT3,⟨hla3,eL3⟩,?_⟩
       . rw[ek];exact K3
       . rw[ef];exact hF3
   . rintro σ G2 ⟨v7,rfl,sD2,jG2,hK2,hT2,⟨hla2,eL2⟩,hF2⟩;rw[eL2.1,bb]at hK2 hF2;have FL:=FL (l7 R.F W ρ g i).last.length;rw[bb]at FL;obtain⟨fus,hfa2,eF2⟩:=id hF2;obtain⟨tus,hta2,eT2⟩:=id hT2;have tl:=GX (F:=R.F) (l:=W) (ρ:=ρ) (g:=g) i;have tl2:=(N9 (F:=R.F) (l:=W) (ρ:=ρ) (g:=g) i).len;refine⟨_,rfl,.inl ⟨rfl,_,t8.of hta2⟩,_,rfl,ta,fa,tus,fus,rfl,rfl,hta2,hfa2,(by rw[eF2.1,eT2.1];omega),?_⟩;have sx:i3 ta G2 (upd G2 ta (.lst (tus++fus))):=i3.upd;have sl:=y9 (o:=.lst (tus++fus)) hta2;have sD3:D8 D H (upd G2 ta (.lst (tus++fus))):=λb o d e=>sx b o (j0 e nta) (sD2 b o d e);have jG3:=hJl ta _ _ _ nta hta2 sx jG2;have hK3:=hK2.sameX sx hta2 (Ne.symm tk);have hF3:=hF2.sameX sx hta2 ft;have hT3:D9 R W ρ (l7 R.F W ρ g (i+1)).told ta (upd G2 ta (.lst (tus++fus))):=⟨_,c5,Er (eT2.mono λ_ _ _ q=>q.same sl) (eF2.mono λ_ _ _ q=>q.same sl)⟩;revert sD3 jG3 hK3 hF3 hT3;generalize upd G2 ta (.lst (tus++fus))=G3;intro sD3 jG3 hK3 hF3 hT3;refine⟨f,_,rfl,hG,_,rfl,rfl,fa,_,rfl,⟨hF3,hOk i ne,jG3⟩,λb G4 s4 j4 n4 P4=>?_⟩;have st4:=s4.tup (hD _ jG3);obtain⟨_,e1,_⟩:=id hK3;obtain⟨_,e2,_⟩:=id hT3;exact⟨b,za ⟨rfl,sD3.trans s4,j4,hK3.sameD s4 st4 (nd nk),hT3.sameD s4 st4 (nd nta),P4,nn sD3 jG3 n4,(λz=>by rw[<- z,n4]at e1;cases e1),(λz=>by rw[<- z,n4]at e2;cases e2)⟩⟩
 . have ne:(l7 R.F W ρ g i).last=[]:=by
    cases e:(l7 R.F W ρ g i).last with
    | nil=>rfl
    | cons a b=>rw[e]at h0;exact absurd (by simp) h0
   refine⟨_,rfl,?_⟩;rw[Em hg0 ne]at hT;exact k _ _ sD jG nta hT
def FW(w:World)(K:aa)(mg:Str->Option Value)(base:Heap):Sp:=λvs H Q _=>∃(R:g9 Pr w K mg base),∃rv,∃a,∃(n:Nat),∃x,∃(ps:List Nat),vs=[rv,.ref a]/\(j5 R n x rv H/\H a=some (.lst (ps.map λp:Nat=>V.int (p:Int)))/\(∀p∈ps,p < n)/\ps.length<=1000)/\
 ∀v H',h8 H H'->j5 R ps.length (λj=>x (ps.getD j 0)) v H'->Q v H'
def BU(T:Txt K mg t):o9 Pr w K mg base D2 1 t.f0x t.c0t NW (FW w K mg base):=by
 refine T.d0d.F.ok Gi (by rintro _ _ _ _ ⟨_,_,_,_,_,_,rfl,_⟩;rfl) λcdv A outer s H vs Q E hr h=>?_;obtain⟨R,rv,a,n,x,ps,rfl,⟨hx,ha,hp,hn⟩,k⟩:=h;refine⟨_,(c6 (d9 (j7 g6 (by rfl) T.z_tuple boot_tuple (x9 (w5 (xs:=["place"]) rfl (show p9 NW (b9 S4) _ from⟨rfl,dK,dK,dK,dK,dK⟩) (F8 (pv 1)) (λ_ _ _ _ _=>(j9 (i:=2) (by show List.Nodup (["row","places","place"]:List Str);decide +kernel) rfl (Or.inl rfl))) (λ_ _ _ _ _=>(j8 (show MO _ (Md K)from h9) (pv 0) (pv 2) (λ_ _=>rfl)))))))),?_⟩;refine⟨_,rfl,a,rfl,⟨_,t8.of ha⟩,o8 (n:=ps.length) (λj ys H2=>i0 (λj u H=>R.is H u (x (ps.getD j 0))) ys j H/\H2=H) hn ⟨i0.nil,rfl⟩ (λj ys H2 q=>q.1.1) ?_ ?_ ?_⟩
 . rintro j ys H2 hj ⟨e,rfl⟩;have ej:(ps.map λp:Nat=>V.int (p:Int))[j]? = some (V.int ((ps[j]:Nat):Int)):=by rw[aD,ax hj];rfl
   refine Kh (t8.of ha) ej ?_;obtain⟨p,us,u,rfl,h1,h2,h3⟩:=j5.at hx (hp _ (bc hj));refine⟨⟨[some _],rfl,rfl⟩,_,rfl,_,rfl,ze ⟨rfl,rfl,h1,h2,?_⟩⟩;have eg:ps.getD j 0=ps[j]:=by rw[bT,ax hj];rfl
   exact⟨e.snoc (by rw[eg];exact h3),rfl⟩
 . rintro ys H2 ⟨e,rfl⟩;exact⟨_,t8.of ha,by rw[aj];exact ae _⟩
 . rintro ys H2 l ⟨e,rfl⟩ nl;have s1:=c7 (o:=.lst ys) nl;refine⟨l,ys,rfl,.inl ⟨t8.of c5,λl2 n2=>?_⟩⟩;have s2:=c7 (o:=.tup ys) n2;exact k _ _ (s1.trans s2) ⟨l2,ys,rfl,c5,e.mono λ_ _ _ q=>R.same (s1.trans s2).t q⟩
structure W5(l:List Nat):Prop where
 nd:l.Nodup
 as:∀c∈l,c < 128
 h3:l.length<=3
def W5.asc{l:List Nat}(L:W5 l):(tx l).cps.all (· < 128)=true:=RH L.as
def Tq{l:List Nat}(nd:l.Nodup){j c:Nat}(h:l[j]? = some c):l.idxOf c=j:=by
 obtain⟨hj,e⟩:=aY.mp h;have h1:l.idxOf c < l.length:=List.idxOf_lt_length_iff.mpr (by rw[<- e];exact bc hj);have h2:=List.getElem_idxOf h1;exact(List.getElem_inj nd).mp (h2.trans e.symm)
def X1(w:World)(K:aa)(mg:Str->Option Value)(base:Heap):Sp:=λvs H Q _=>∃(R:g9 Pr w K mg base),∃kv mv a l,∃(n μ:Nat),∃st tb en ws,vs=[kv,mv,.ref a]/\(T6 R.C R.fs H kv/\r9 R l n st tb en mv H/\MB R.B n l.length μ st tb en/\W5 l/\n<=60/\D9 R n (w4 R.S n st (E5 l tb)) ws a H/\(∀u∈ws,u.length<=n/\∀c∈u,c∈l)/\ws.length<=1000/\Ay R.S (3 * ((n+2) * (μ+n))))/\
 ∀b H',h8 H H'->H b=none->D9 R n (w4 R.S n st (E5 l tb)) (gB l ws) b H'->Q (.ref b) H'
def X2(T:Txt K mg t):o9 Pr w K mg base D2 45 t.a0l t.a0b ["kind","machine","last"] (X1 w K mg base):=by
 refine T.a0a.F.ok B7 (by rintro _ _ _ _ ⟨_,_,_,_,_,_,_,_,_,_,_,rfl,_⟩;rfl) λcdv A outer s H vs Q E hr h=>?_;obtain⟨R,kv,mv,a,l,n,μ,st,tb,en,ws,rfl,⟨hk,hM,hB,L,hn,⟨us,ha,eP⟩,hw,hwl,hS⟩,k⟩:=h;obtain⟨mp,sv,tv,ev,rfl,hm,_,hT,_⟩:=id hM;have zl:10000 < sizeLine:=by decide
 refine⟨_,(a9 (sT 3 B7.nd (D4 F0)) (a9 (G0 aC rfl (F8 (pv 2)) (E9 rfl (k9 (j9 (i:=4) B7.nd rfl (Or.inr rfl)) (k9 (j9 (i:=5) B7.nd rfl (Or.inr rfl)) B8))) (c6 (E1 (U6 bg PySem.F.slot_list_extend PySem.F.type_list_extend FF (pv 3) (x9 (w5 (xs:=["letter","table"]) rfl (show p9 ["kind","machine","last","told","word","row"] (b9 C2) _ from⟨rfl,dK,dK,dK,dK,dK⟩) (CH rfl T.z_zip (D0 (j8 h9 (pv 1) c4 (λ_ _=>rfl)) (j8 h9 (pv 1) c4 (λ_ _=>rfl)))) (λ_ _ _ _ _=>(show PG _ _ (Fk K 2 _)from(E9 rfl (k9 (j9 (i:=6) (by show List.Nodup (Zk);decide +kernel) rfl (Or.inl rfl)) (k9 (j9 (i:=7) (by show List.Nodup (Zk);decide +kernel) rfl (Or.inl rfl)) B8))))) (λ_ _ _ _ _=>(B4 (D0 (l5 DU (pv 4) (pv 6)) (B9 (FD (w:=w) (base:=base) T) hr.m rfl T.g0k.m T.g0k.F.kp T.g0k.b .nil B0 (W8 (pv 0) (pv 5) (pv 7)))))))))))) (c6 (d9 (pv 3))))),?_⟩;refine⟨(by show 0<=sizeLine;decide),λb nb=>?_⟩;refine G8 (o:=.lst []) nb λH1 s1 k1=>?_;have ab:a≠b:=λz=>by rw[z,nb]at ha;cases ha
 show y7 3 (V.ref b) [some kv,some (.ref mp),some (.ref a),none,none,none] H1 _;refine⟨_,rfl,a,rfl,⟨_,t8.of (s1 _ _ ha)⟩,U8 (K:=K) (a:=a) (xs:=us) (λj σ G=>∃v4 v5,σ=[some kv,some (.ref mp),some (.ref a),some (.ref b),v4,v5]/\h8 H G/\D9 R n (w4 R.S n st (E5 l tb)) (gB l (ws.take j)) b G) ⟨_,_,rfl,s1,⟨_,k1,i0.nil⟩⟩ (λj σ G _ ⟨_,_,_,q,_⟩=>t8.of (q _ _ ha)) ?_ ?_⟩
 . rintro j y σ G hj ⟨v4,v5,rfl,q,hP⟩;obtain⟨jl,wd,p,rv,ew,rfl,hp,ro⟩:=eP.at hj;obtain⟨wl,wc⟩:=hw wd (aR ew);refine⟨p,_,rfl,o7.of (q _ _ hp),rfl,za ⟨rfl,za ⟨rfl,rfl,?_⟩⟩⟩;obtain⟨tp,tabs,rfl,htp,eT⟩:=id hT;obtain⟨bus,hb,eB⟩:=id hP;have bl:=eB.1;rw[GW]at bl;have wt:(ws.take j).length * l.length<=1000 * 3:=bj (by rw[bz];omega) L.h3;have zx:XB R.B n ((n+1) * (μ+n)) ((n+1) * (μ+n)) (w4 R.S n st (E5 l tb) wd):=(hB.row wd wc).mono (R5 wl) (R5 wl);have e2:(n+2) * (μ+n)=(n+1) * (μ+n)+(μ+n):=bF ..;refine⟨_,rfl,.inl ⟨rfl,_,t8.of hb⟩,_,rfl,ze ⟨rfl,rfl,o7.of (q _ _ hm),rfl,_,rfl,ze ⟨rfl,rfl,o7.of (q _ _ hm),rfl,.str (tx l),.tup tp,za ⟨l.map (λc=>vT [c]),tabs,rfl,rfl,rfl,(BG l).symm,o7.of (q _ _ htp),o8 (n:=l.length) (λi ys G2=>h8 G G2/\i0 (AW R n (w4 R.S n st (E5 l tb)) (l.map λc=>wd++[c])) ys i G2) (by have:=L.h3;omega) ⟨h8.refl _,i0.nil⟩ (λj ys H2 q=>q.2.1) ?_ ?_ ?_⟩⟩⟩⟩
   . rintro i ys G2 hi ⟨q2,e⟩;obtain⟨u,eu,pu⟩:=eT.2 i hi;have ec:(l.map λc=>vT [c])[i]? = some (vT [l[i]]):=by rw[aD,ax hi];rfl
     have q02:=q.trans q2;refine⟨⟨_,tabs,_,u,(BG l).symm,o7.of (q02 _ _ htp),ec,eu⟩,λy' H' hy=>?_⟩;obtain⟨pp,x',y',rfl,np,rfl,f1,f2⟩:=hy;have e1:=f1 _ (BG l).symm;rw[ec]at e1;cases e1;have e2':=f2 _ (o7.of (q02 _ _ htp));rw[eu]at e2';cases e2';have s3:=c7 (o:=.tup [vT [l[i]],u]) np;have q3:=q02.trans s3;refine⟨pp,_,rfl,o7.of c5,rfl,za ⟨rfl,za ⟨rfl,rfl,⟨[some _,some _],rfl,rfl⟩,_,rfl,_,rfl,za ⟨rfl,rfl,(by show(tx wd).length+(tx [l[i]]).length<=_;rw[O8,O8];simp;omega),?_⟩⟩⟩⟩;refine⟨_,rfl,_,rfl,_,rfl,R,zp _ _ _ n n (w4 R.S n st (E5 l tb) wd) (tb i) ((n+2) * (μ+n)) ⟨rfl,⟨hk.same q3,j5.same q3.t ro,D7.same q3.t pu,oM,oM,λj hj=>T4 zx ((hB.tb i hi).col hj) oM oM,hS⟩,λv H3 s3' f3=>?_⟩⟩;rw[show(if n=0 then 0 else n)=n by split <;>omega]at f3;refine⟨(by show 2<=sizeLine;decide),λp5 n5=>?_⟩;rw[MT];have s5:=c7 (o:=.tup [V.str (tx (wd++[l[i]])),v]) n5;refine⟨q2.trans (s3.trans (s3'.trans s5)),(e.mono λ_ _ _ z=>z.same (s3.trans (s3'.trans s5)).t).snoc ⟨wd++[l[i]],p5,v,by rw[aD,ax hi];rfl,rfl,c5,j5.same s5.t ?_⟩⟩;have ei:E5 l tb l[i]=tb i:=by unfold E5;rw[Tq L.nd (ax hi)]
     rw[D6,ei];exact f3
   . rintro ys G2 ⟨q2,e⟩;exact⟨_,tabs,(BG l).symm,o7.of ((q.trans q2) _ _ htp),.inl (by rw[aj])⟩
   . rintro ys G2 z ⟨q2,e⟩ nl;refine G8 (o:=.lst ys) nl λG3 s3 k3=>?_;have q3:=q2.trans s3;have hb3:=q3 _ _ hb;have l3:=L.h3;refine⟨b,z,bus,ys,rfl,rfl,hb3,k3,(by rw[bl,e.1];omega),?_⟩;have sx:i3 b G3 (upd G3 b (.lst (bus++ys))):=i3.upd;have sl:=y9 (o:=.lst (bus++ys)) hb3;refine za ⟨rfl,λc o hc=>sx c o (j0 hc nb) ((q.trans q3) c o hc),?_⟩;rw[Lp ew];have el:l.length=(l.map λc=>wd++[c]).length:=by rw[aj]
     rw[el]at e;exact⟨_,c5,Er (eB.mono λ_ _ _ z=>(z.same q3.t).same sl) (e.mono λ_ _ _ z=>(z.same s3.t).same sl)⟩
 . rintro σ G ⟨v4,v5,rfl,q,hP⟩;rw[eP.1,bb]at hP;exact⟨_,rfl,k _ _ q nb hP⟩
def qAL:Str:=(("alike":Str)++".<locals>.")++"<lambda>"
def tabs(t:OV):List (Addr × Str):=[(t.P_echelon,qE),(t.P_alike,qAL)]
def Pb(T:Txt K mg t):((tabs t).map Prod.fst).Nodup:=T.d_tabs
def QW:(t.P_echelon,qE)∈tabs t:=by simp[tabs]
def MY:(t.P_alike,qAL)∈tabs t:=by simp[tabs]
def DT(t:OV)(b:Addr):Prop:=∃q,(b,q)∈tabs t
def K4(t:OV)(H:Hp):Prop:=∀p∈tabs t,K8 H p.1 p.2
theorem K4.same{H H':Hp}(s:h8 H H')(h:K4 t H):K4 t H':=λp hp=>K8.same s (h p hp)
def K8.sameX{a P:Addr}{q:Str}{xs:List V}{H H':Hp}(s:i3 a H H')(ha:H a=some (.lst xs))(h:K8 H P q):K8 H' P q:=by
 obtain⟨ps,h1,h2,h3⟩:=h;refine⟨ps,s _ _ (S7 h1 ha (by simp)) h1,h2,λlp v e=>?_⟩;obtain⟨c,e1,oc,vs,t,y1,y2⟩:=h3 lp v e;exact⟨c,e1,oc,vs,t,s _ _ (S7 y1 ha (by simp)) y1,y2⟩
theorem K4.sameX{a:Addr}{xs:List V}{H H':Hp}(s:i3 a H H')(ha:H a=some (.lst xs))(h:K4 t H):K4 t H':=λp hp=>K8.sameX s ha (h p hp)
def M6.sameX{a c:Addr}{q:Str}{xs:List V}{H H':Hp}(s:i3 a H H')(ha:H a=some (.lst xs))(h:M6 H c q):M6 H' c q:=by
 obtain⟨oc,vs,t,y1,y2⟩:=h;exact⟨oc,vs,t,s _ _ (S7 y1 ha (by simp)) y1,y2⟩
def M6.same0{c:Addr}{q:Str}{H H':Hp}(s:h8 H H')(h:M6 H c q):M6 H' c q:=by
 obtain⟨oc,vs,t,y1,y2⟩:=h;exact⟨oc,vs,t,s _ _ y1,y2⟩
def K4.not{H:Hp}(h:K4 t H):∀b,DT t b->∃o,H b=some o/\(∀ts,o≠.tup ts)/\∀C dx fs,o≠.ins C dx fs:=λb ⟨q,hq⟩=>by
 obtain⟨ps,h1,_⟩:=h _ hq;exact⟨_,h1,λ_=>by simp,λ_ _ _=>by simp⟩
theorem K4.lst{H:Hp}{b:Addr}{xs:List V}(h:K4 t H)(e:H b=some (.lst xs)):¬DT t b:=λ⟨q,hq⟩=>by
 obtain⟨ps,h1,_⟩:=h _ hq;rw[e]at h1;cases h1
theorem K4.none{H:Hp}{b:Addr}(h:K4 t H)(e:H b=none):¬DT t b:=λ⟨q,hq⟩=>by
 obtain⟨ps,h1,_⟩:=h _ hq;rw[e]at h1;cases h1
theorem FE{α β:Type}:∀{l:List (α × β)},(l.map Prod.fst).Nodup->∀{p q},p∈l->q∈l->p.1=q.1->p=q
 | [],_,_,_,h,_,_=>nomatch h
 | a::l,nd,p,q,hp,hq,e=>by
  rw[aL,bV]at nd;rcases ak.mp hp with e1 | h1
  . rcases ak.mp hq with e2 | h2
    . rw[e1,e2]
    . exact absurd (aE.mpr ⟨q,h2,by rw[<- e,e1]⟩) nd.1
  . rcases ak.mp hq with e2 | h2
    . exact absurd (aE.mpr ⟨p,h1,by rw[e,e2]⟩) nd.1
    . exact FE nd.2 h1 h2 e
def K4.step{P:Addr}{q:Str}{H H':Hp}(T:Txt K mg t)(h:K4 t H)(m:(P,q)∈tabs t)(s:Je P H H')(g:K8 H' P q):K4 t H'/\D8 (DT t) H H':=by
 refine⟨λp hp=>?_,λb o d e=>s b o (λz=>d (by rw[z];exact⟨q,m⟩)) e⟩;by_cases z:p.1=P
 . cases FE (Pb T) hp m z;exact g
 . obtain⟨pp,hP,_⟩:=h _ m;obtain⟨ps,h1,h2,h3⟩:=h p hp;refine⟨ps,s _ _ z h1,h2,λlp v e=>?_⟩;obtain⟨c,e1,oc,vs,t,y1,y2⟩:=h3 lp v e;exact⟨c,e1,oc,vs,t,s _ _ (S7 y1 hP (by simp)) y1,y2⟩
def HC(w:World)(K:aa)(mg:Str->Option Value)(base:Heap):Sp:=λvs H Q _=>∃(R:g9 Pr w K mg base),∃kd mv a l,∃(n μ u:Nat),∃st tb en es,vs=[kd,mv,.ref a]/\(T6 R.C R.fs H kd/\r9 R l n st tb en mv H/\MB R.B n l.length μ st tb en/\J3 R n es a H/\(∀k∈es,k.1 < n/\XB R.B n u u k.2)/\n<=60/\es.length<=60/\l.length<=1000/\Ay R.S (3 * (u+μ+n)))/\
 ∀v H',h8 H H'->r9 R l es.length (nst es st) (ntb n es tb) (nen n es en) v H'->Q v H'
def Ii(T:Txt K mg t):o9 Pr w K mg base D2 46 t.g0x t.e0s ["kind","machine","kept"] (HC w K mg base):=by
 refine T.e0f.F.ok O5 (by rintro _ _ _ _ ⟨_,_,_,_,_,_,_,_,_,_,_,_,rfl,_⟩;rfl) λcdv A outer s H vs Q E hr h=>?_;obtain⟨R,kd,mv,a,l,n,μ,u,st,tb,en,es,rfl,⟨hk,hM,hB,⟨us,ha,eK⟩,hX,hn,he,hl,hS⟩,k⟩:=h;obtain⟨mp,sv,tv,ev,rfl,hm,h1,⟨tp,tabs,rfl,htp,eT⟩,h3⟩:=id hM;have zl:10000 < sizeLine:=by decide
 refine⟨_,(a9 (Bn (i:=3) O5.nd rfl (Or.inr rfl) (w5 (xs:=["place","row"]) rfl (show p9 Qo (b9 M9) _ from⟨rfl,dK,dK,dK,dK,dK⟩) (F8 (pv 2)) (λ_ _ _ _ _=>(show PG _ _ (Fk K 2 _)from(E9 rfl (k9 (j9 (i:=7) (by show List.Nodup (n7N);decide +kernel) rfl (Or.inl rfl)) (k9 (j9 (i:=8) (by show List.Nodup (n7N);decide +kernel) rfl (Or.inl rfl)) B8))))) (λ_ _ _ _ _=>(pv 7)))) (a9 (sT 4 O5.nd (j7 g6 (by rfl) T.z_tuple boot_tuple (x9 (w5 (xs:=["place","row"]) rfl (show p9 Qo (b9 M9) _ from⟨rfl,dK,dK,dK,dK,dK⟩) (F8 (pv 2)) (λ_ _ _ _ _=>(show PG _ _ (Fk K 2 _)from(E9 rfl (k9 (j9 (i:=7) (by show List.Nodup (n7N);decide +kernel) rfl (Or.inl rfl)) (k9 (j9 (i:=8) (by show List.Nodup (n7N);decide +kernel) rfl (Or.inl rfl)) B8))))) (λ_ _ _ _ _=>(pv 8)))))) (a9 (sT 5 O5.nd (D4 F0)) (a9 (G0 aC rfl (L9 (j8 h9 (pv 1) c4 (λ_ _=>rfl))) (gN 6 O5.nd) (c6 (E1 (U6 bg bI bJ J1 (pv 5) (x9 (j7 g6 (by rfl) T.z_tuple boot_tuple (x9 (w5 (xs:=["row"]) rfl (show p9 Qo (b9 M9) _ from⟨rfl,dK,dK,dK,dK,dK⟩) (L9 (C3 (Io T) hr.m T.e0h (W8 (pv 0) (pv 4) (pv 6)))) (λ_ _ _ _ _=>(j9 (i:=7) (by show List.Nodup (["kind","machine","kept","places","rows","tables","table","row"]:List Str);decide +kernel) rfl (Or.inl rfl))) (λ_ _ _ _ _=>(B9 (BU (w:=w) (base:=base) T) hr.m rfl T.d0d.m T.d0d.F.kp T.d0d.b .nil B0 (D0 (pv 7) (pv 3)))))))))))) (c6 (d9 (B4 (Jk (j8 h9 (pv 1) c4 (λ_ _=>rfl)) (C3 (BU T) hr.m T.d0d (D0 (j8 h9 (pv 1) c4 (λ_ _=>rfl)) (pv 3))) (j7 g6 (by rfl) T.z_tuple boot_tuple (x9 (pv 5))) (C3 (GD T) hr.m T.c0v (W8 (pv 0) (pv 4) (j8 h9 (pv 1) c4 (λ_ _=>rfl)))))))))))),?_⟩;refine⟨_,rfl,a,rfl,⟨_,t8.of ha⟩,o8 (n:=es.length) (λj ys H2=>ys.length=j/\ys=((es.take j).map Prod.fst).map (λp:Nat=>V.int (p:Int))/\H2=H) oM ⟨rfl,rfl,rfl⟩ (λj ys H2 q=>q.1) ?_ ?_ ?_⟩
 . rintro j ys H2 hj ⟨e0,e1,rfl⟩;obtain⟨y,ey,k',q,rv,ek,rfl,hq,ro⟩:=eK.2 j hj;refine Kh (t8.of ha) ey ?_;refine⟨q,_,rfl,o7.of hq,rfl,za ⟨rfl,za ⟨rfl,rfl,⟨[some _,some _],rfl,rfl⟩,_,rfl,by rw[ai,e0];rfl,?_,rfl⟩⟩⟩;rw[E7 ek,bH,bH,<- e1];rfl
 . rintro ys H2 ⟨e0,e1,rfl⟩;exact⟨_,t8.of ha,by rw[eK.1];exact ae _⟩
 . rintro ys H2 pa ⟨e0,e1,rfl⟩ npa;rw[bb]at e1;subst e1;refine G8 (o:=.lst ((es.map Prod.fst).map (λp:Nat=>V.int (p:Int)))) npa λH1 s1 k1=>?_;show y7 3 (V.ref pa) [some kd,some (.ref mp),some (.ref a),none,none,none,none] H1 _;refine⟨_,rfl,a,rfl,⟨_,t8.of (s1 _ _ ha)⟩,o8 (n:=es.length) (λj ys H3=>i0 (λi u H=>j5 R n (kv es i) u H) ys j H1/\H3=H1) oM ⟨i0.nil,rfl⟩ (λj ys H3 q=>q.1.1) ?_ ?_ ?_⟩
   . rintro j ys H3 hj ⟨e,rfl⟩;obtain⟨y,ey,k',q,rv,ek,rfl,hq,ro⟩:=eK.2 j hj;refine Kh (t8.of (s1 _ _ ha)) ey ?_;refine⟨q,_,rfl,o7.of (s1 _ _ hq),rfl,za ⟨rfl,za ⟨rfl,rfl,⟨[some _,some _],rfl,rfl⟩,_,rfl,e.snoc ?_,rfl⟩⟩⟩;rw[Oj ek];exact j5.same s1.t ro
   . rintro ys H3 ⟨e,rfl⟩;exact⟨_,t8.of (s1 _ _ ha),by rw[eK.1];exact ae _⟩
   . rintro ys H3 z ⟨e,rfl⟩ nz;have s2:=c7 (o:=.lst ys) nz;refine⟨z,ys,rfl,.inl ⟨t8.of c5,λz2 n2=>?_⟩⟩;have s3:=c7 (o:=.tup ys) n2;have Gn:=s2.trans s3;have hR:D7 R es.length n (kv es) (.ref z2) (upd (upd H3 z (.lst ys)) z2 (.tup ys)):=⟨z2,ys,rfl,c5,e.mono λ_ _ _ q=>j5.same Gn.t q⟩;revert Gn hR;generalize upd (upd H3 z (.lst ys)) z2 (.tup ys)=H4;intro Gn hR;show y7 4 (V.ref z2) [some kd,some (.ref mp),some (.ref a),some (.ref pa),none,none,none] H4 _;have q4:=s1.trans Gn;refine⟨(by show 0<=sizeLine;decide),λb nb=>?_⟩;refine G8 (o:=.lst []) nb λH5 s5 k5=>?_;have hb0:∀{c o},H2 c=some o->c≠b:=λ{c o} e z=>by rw[z]at e;rw[q4 _ _ e]at nb;cases nb
     have q5:=q4.trans s5;show y7 5 (V.ref b) [some kd,some (.ref mp),some (.ref a),some (.ref pa),some (.ref z2),none,none] H5 _;have pk:=λi (hi:i < es.length)=>hX _ (bc hi);have kvx:∀i,i < es.length->XB R.B n u u (kv es i):=λi hi=>by rw[Oj (ax hi)];exact(pk i hi).2
     have hps:∀p∈es.map Prod.fst,p < n:=λp hp=>by
      obtain⟨k',hk',rfl⟩:=aE.mp hp;exact(hX k' hk').1
     have hpl:(es.map Prod.fst).length=es.length:=aj ..;refine⟨_,rfl,ze ⟨rfl,rfl,o7.of (q5 _ _ hm),rfl,tp,rfl,⟨_,o7.of (q5 _ _ htp)⟩,QH (K:=K) (a:=tp) (xs:=tabs) (λi σ G=>∃v6,σ=[some kd,some (.ref mp),some (.ref a),some (.ref pa),some (.ref z2),some (.ref b),v6]/\h8 H4 G/\∃ts,G b=some (.lst ts)/\i0 (λa u H=>D7 R es.length es.length (ntb n es tb a) u H) ts i G) ⟨_,rfl,s5,[],k5,i0.nil⟩ (λi σ G _ ⟨_,_,q,_⟩=>o7.of (q _ _ (q4 _ _ htp))) ?_ ?_⟩⟩
     . rintro i y σ G hi ⟨v6,rfl,q,ts,hts,eB⟩;obtain⟨il,pv⟩:=eT.at hi;have q0:=q4.trans q;refine⟨_,rfl,.inl ⟨rfl,_,t8.of hts⟩,_,rfl,_,rfl,_,rfl,R,zp kd (.ref z2) y es.length n (kv es) (tb i) (u+μ+n) ⟨rfl,⟨hk.same q0,D7.same q.t hR,D7.same q0.t pv,oM,oM,λi' hi' j hj=>T4 (kvx i' hi') ((hB.tb i il).col hj) oM oM,hS⟩,?_⟩⟩;rintro bv G1 t1 ⟨bp,brs,rfl,hbp,eR⟩;refine⟨bp,rfl,⟨_,o7.of hbp⟩,o8 (n:=es.length) (λj ys G2=>h8 G1 G2/\i0 (λi' u H=>j5 R es.length (ntb n es tb i i') u H) ys j G2) oM ⟨h8.refl _,i0.nil⟩ (λj ys H2 q=>q.2.1) ?_ ?_ ?_⟩
       . rintro j ys G2 hj ⟨q2,e⟩;obtain⟨y2,ey,py⟩:=eR.2 j hj;refine Dt (o7.of (q2 _ _ hbp)) ey ?_;refine⟨⟨[some _],rfl,rfl⟩,_,rfl,_,rfl,R,zj _ pa n _ (es.map Prod.fst) ⟨rfl,⟨j5.same q2.t py,(Gn.trans (q.trans (t1.trans q2))) _ _ k1,hps,by rw[hpl];omega⟩,λv G3 t3 f3=>?_⟩⟩;rw[hpl]at f3;exact⟨q2.trans t3,(e.mono λ_ _ _ z=>j5.same t3.t z).snoc f3⟩
       . rintro ys G2 ⟨q2,e⟩;exact⟨_,o7.of (q2 _ _ hbp),by rw[eR.1];exact ae _⟩
       . rintro ys G2 z3 ⟨q2,e⟩ nz3;have t3:=c7 (o:=.lst ys) nz3;refine⟨z3,ys,rfl,.inl ⟨t8.of c5,λz4 n4=>?_⟩⟩;have t4:=c7 (o:=.tup ys) n4;have t34:=q2.trans (t3.trans t4);have hR4:D7 R es.length es.length (ntb n es tb i) (.ref z4) (upd (upd G2 z3 (.lst ys)) z4 (.tup ys)):=⟨z4,ys,rfl,c5,e.mono λ_ _ _ z=>j5.same (t3.trans t4).t z⟩;revert t34 hR4;generalize upd (upd G2 z3 (.lst ys)) z4 (.tup ys)=G4;intro t34 hR4;have t14:=t1.trans t34;have hts4:=t14 _ _ hts;have tl:=eB.1;refine⟨b,ts,V.ref z4,rfl,rfl,hts4,oM,?_⟩;have sx:i3 b G4 (upd G4 b (.lst (ts++[V.ref z4]))):=i3.upd;have sl:=y9 (o:=.lst (ts++[V.ref z4])) hts4;refine⟨_,rfl,λc o e=>sx c o (j0 e nb) ((q.trans t14) c o e),_,c5,i0.snoc (eB.mono λ_ _ _ z=>D7.same sl (D7.same t14.t z)) (D7.same sl hR4)⟩
     . rintro σ G ⟨v6,rfl,q,ts,hts,eB⟩;rw[eT.1]at eB;have q0:=q4.trans q;refine⟨_,rfl,ze ⟨rfl,rfl,o7.of (q0 _ _ hm),rfl,_,rfl,ze ⟨rfl,rfl,o7.of (q0 _ _ hm),rfl,_,rfl,R,zj sv pa n st (es.map Prod.fst) ⟨rfl,⟨j5.same q0.t h1,(Gn.trans q) _ _ k1,hps,by rw[hpl];omega⟩,λv1 G1 t1 r1=>?_⟩⟩⟩⟩;rw[hpl]at r1;refine⟨_,rfl,b,ts,rfl,.inl ⟨t8.of (t1 _ _ hts),λz6 n6=>?_⟩⟩;refine G8 (o:=.tup ts) n6 λG2 t2 k6=>?_;have t12:=t1.trans t2;have q2:=q0.trans t12;refine⟨_,rfl,_,rfl,_,rfl,ze ⟨rfl,rfl,o7.of (q2 _ _ hm),rfl,R,zp kd (.ref z2) ev es.length n (kv es) en (u+μ+n) ⟨rfl,⟨hk.same q2,D7.same (q.trans t12).t hR,j5.same q2.t h3,oM,λi hi=>T4 (kvx i hi) hB.en oM oM,hS⟩,λv3 G3 t3 r3=>?_⟩⟩⟩;refine⟨(by show 4<=sizeLine;decide),λz7 n7=>?_⟩;have t4:=c7 (o:=.tup [vT l,v1,V.ref z6,v3]) n7;have t24:=t2.trans (t3.trans t4);refine k _ _ (q2.trans (t3.trans t4)) ⟨z7,v1,.ref z6,v3,rfl,c5,j5.same t24.t r1,⟨z6,ts,rfl,(t3.trans t4) _ _ k6,eB.mono λ_ _ _ z=>D7.same (t1.trans t24).t z⟩,j5.same t4.t r3⟩
def i0.app{Pd:Nat->V->Hp->Prop}{xs ys:List V}{n k:Nat}{H:Hp}(h1:i0 Pd xs n H)(h2:i0 (λj=>Pd (n+j)) ys k H):i0 Pd (xs++ys) (n+k) H:=
 ⟨by rw[ai,h1.1,h2.1],λj hj=>by
  by_cases hn:j < n
  . obtain⟨u,e,q⟩:=h1.2 j hn;exact⟨u,by rw[aJ (by rw[h1.1];exact hn)];exact e,q⟩
  . obtain⟨u,e,q⟩:=h2.2 (j - n) oM;rw[show n+(j - n)=j by omega]at q;exact⟨u,by rw[aQ (by rw[h1.1];omega),h1.1];exact e,q⟩⟩
def Jv(w:World)(K:aa)(mg:Str->Option Value)(base:Heap):Sp:=λvs H Q _=>∃(R:g9 Pr w K mg base),∃kv,∃(z:Int),∃(n:Nat),vs=[kv,.int z]/\(T6 R.C R.fs H kv/\n<=1000/\z=n)/\
 ∀v H',h8 H H'->j5 R n (λ_=>R.S.zero) v H'->Q v H'
def DW(T:Txt K mg t):o9 Pr w K mg base D2 41 t.h0g t.f0c NV (Jv w K mg base):=by
 refine T.g0c.F.ok JD (by rintro _ _ _ _ ⟨_,_,_,_,rfl,_⟩;rfl) λcdv A outer s H vs Q E hr h=>?_;obtain⟨R,kv,z,n,rfl,⟨⟨kp,dx,rfl,hk⟩,hn,rfl⟩,k⟩:=h;refine⟨_,(c6 (d9 (j7 g6 (by rfl) T.z_tuple boot_tuple (x9 (w5 (xs:=["place"]) rfl (show p9 NV (b9 AB) _ from⟨rfl,dK,dK,dK,dK,dK⟩) (x5 rfl T.z_range (x9 (pv 1))) (λ_ _ _ _ _=>(j9 (i:=2) (by show List.Nodup (["kind","size","place"]:List Str);decide +kernel) rfl (Or.inl rfl))) (λ_ _ _ _ _=>(U5 (pv 0) R.cl R.t_nought R.G_nought hr.m R.b_nought .nil B0))))))),?_⟩;refine⟨_,rfl,_,rfl,oM,oM,o8 (n:=n) (λj ys H2=>h8 H H2/\i0 (λ_ u H=>R.is H u R.S.zero) ys j H2) hn ⟨h8.refl _,i0.nil⟩ (λj ys H2 q=>q.2.1) ?_ ?_ ?_⟩
 . rintro j ys H2 hj ⟨q,e⟩;refine Ej (by omega) ?_;refine⟨⟨[some _],rfl,rfl⟩,_,rfl,zd ⟨rfl,q _ _ hk,R.l_nought,_,rfl,za ⟨rfl,q _ _ hk⟩,λv H3 s3 f3=>?_⟩⟩;exact⟨q.trans s3,(e.mono λ_ _ _ z=>R.same s3.t z).snoc f3⟩
 . rintro ys H2 ⟨q,e⟩;show(n:Int).toNat<=n;omega
 . rintro ys H2 l ⟨q,e⟩ nl;have s1':=c7 (o:=.lst ys) nl;refine⟨l,ys,rfl,.inl ⟨t8.of c5,λl2 n2=>?_⟩⟩;have s2:=c7 (o:=.tup ys) n2;exact k _ _ (q.trans (s1'.trans s2)) ⟨l2,ys,rfl,c5,e.mono λ_ _ _ z=>R.same (s1'.trans s2).t z⟩
def W2{S:SR}{n i:Nat}{x y:Nat->S.W}(h:i < n):R4 S n x y i=x i:=if_pos h
def W3{S:SR}{n i:Nat}{x y:Nat->S.W}:R4 S n x y (n+i)=y i:=by
 unfold R4;rw[if_neg oM,dz]
def AG{R:g9 Pr w K mg base}{n l:Nat}{x y:Nat->R.S.W}{xs ys:List V}{H:Hp}(a:i0 (λj u H=>R.is H u (x j)) xs n H)(b:i0 (λj u H=>R.is H u (y j)) ys l H):i0 (λj u H=>R.is H u (R4 R.S n x y j)) (xs++ys) (n+l) H:=
 i0.app (a.mono λj _ hj q=>by rw[W2 hj];exact q) (b.mono λj _ _ q=>by rw[W3];exact q)
def Jb(S:SR)(n:Nat)(A B:Nat->Nat->S.W):Nat->Nat->S.W:=λi=>if i < n then R4 S n (A i) λ_=>S.zero else R4 S n (λ_=>S.zero) (B (i - n))
def Nb(w:World)(K:aa)(mg:Str->Option Value)(base:Heap):Sp:=λvs H Q _=>∃(R:g9 Pr w K mg base),∃mv l,∃(n:Nat),∃st tb en,vs=[mv]/\r9 R l n st tb en mv H/\Q (.int (n:Nat)) H
def Ig(T:Txt K mg t):o9 Pr w K mg base D2 1 t.h0v t.h0d ["machine"] (Nb w K mg base):=by
 refine T.h0l.F.ok Nm (by rintro _ _ _ _ ⟨_,_,_,_,_,_,_,rfl,_⟩;rfl) λcdv A outer s H vs Q E hr h=>?_;obtain⟨R,mv,l,n,st,tb,en,rfl,hM,k⟩:=h;obtain⟨mp,sv,tv,ev,rfl,hm,h1,h2,h3⟩:=hM;refine⟨_,(c6 (d9 (o5 u9 (by rfl) T.z_len PySem.boot_len (x9 (j8 h9 (pv 0) c4 (λ_ _=>rfl)))))),?_⟩;exact⟨_,rfl,ze ⟨rfl,rfl,o7.of hm,rfl,za ⟨rfl,h1.len,k⟩⟩⟩
def LV(w:World)(K:aa)(mg:Str->Option Value)(base:Heap):Sp:=λvs H Q _=>∃(R:g9 Pr w K mg base),∃mv ov l,∃(n n':Nat),∃st tb en st' tb' en',vs=[mv,ov]/\(r9 R l n st tb en mv H/\r9 R l n' st' tb' en' ov H)/\Q .non H
def Af(T:Txt K mg t):o9 Pr w K mg base D2 1 t.a0q t.a0e JR (LV w K mg base):=by
 refine T.a0c.F.ok X8 (by rintro _ _ _ _ ⟨_,_,_,_,_,_,_,_,_,_,_,_,rfl,_⟩;rfl) λcdv A outer s H vs Q E hr h=>?_;obtain⟨R,mv,ov,l,n,n',st,tb,en,st',tb',en',rfl,⟨hM,hM'⟩,k⟩:=h;obtain⟨mp,sv,tv,ev,rfl,hm,h1,h2,h3⟩:=hM;obtain⟨mp',sv',tv',ev',rfl,hm',h1',h2',h3'⟩:=hM';refine⟨_,(c6 (w8 (l4 NL (j8 h9 (pv 0) c4 (λ_ _=>rfl)) (j8 h9 (pv 1) c4 (λ_ _=>rfl)) (l6 _)) (c6 U4) l9)),?_⟩;refine⟨_,rfl,ze ⟨rfl,rfl,o7.of hm,rfl,_,rfl,ze ⟨rfl,rfl,o7.of hm',rfl,rfl,_,rfl,?_⟩⟩⟩;refine Ei (by rw[decide_eq_true rfl];rfl) ?_;exact k
def LY(w:World)(K:aa)(mg:Str->Option Value)(base:Heap):Sp:=λvs H Q _=>∃(R:g9 Pr w K mg base),∃kv fv sv ep,∃(n n':Nat),∃A B us,vs=[kv,fv,sv,.ref ep]/\(T6 R.C R.fs H kv/\D7 R n n A fv H/\D7 R n' n' B sv H/\H ep=some (.lst us)/\i0 (λ_ u H=>j5 R n' (λ_=>R.S.zero) u H) us n H/\n<=60/\n'<=60)/\
 ∀v H',h8 H H'->D7 R (n+n') (n+n') (Jb R.S n A B) v H'->Q v H'
def Mh(T:Txt K mg t):o9 Pr w K mg base D2 42 t.h0q t.g0w SO (LY w K mg base):=by
 refine T.g0e.F.ok Ct (by rintro _ _ _ _ ⟨_,_,_,_,_,_,_,_,_,_,rfl,_⟩;rfl) λcdv A outer s H vs Q E hr h=>?_;obtain⟨R,kv,fv,sv,ep,n,n',X,Y,us,rfl,⟨hk,⟨fp,fs,rfl,hfp,eF⟩,⟨sp,ss,rfl,hsp,eS⟩,hep,eE,hn,hn'⟩,k⟩:=h;have zl:10000 < sizeLine:=by decide
 refine⟨_,(a9 (P7 (i₀:=4) (xs:=["row","extra"]) Ct.nd rfl (Or.inl rfl) rfl (show p9 SW (b9 Z4) _ from⟨rfl,dK,dK,dK,dK,dK⟩) (CH rfl T.z_zip (D0 (pv 1) (pv 3))) (λ_ _ _ _ _=>(show PG _ _ (Fk K 2 _)from(E9 rfl (k9 (j9 (i:=6) (by show List.Nodup (Zj);decide +kernel) rfl (Or.inl rfl)) (k9 (j9 (i:=7) (by show List.Nodup (Zj);decide +kernel) rfl (Or.inl rfl)) B8))))) (λ_ _ _ _ _=>(l5 Dz (pv 6) (pv 7)))) (a9 (P7 (i₀:=5) (xs:=["row"]) Ct.nd rfl (Or.inl rfl) rfl (show p9 SW (b9 Z4) _ from⟨rfl,dK,dK,dK,dK,dK⟩) (L9 (pv 2)) (λ_ _ _ _ _=>(j9 (i:=6) (by show List.Nodup (["kind","first","second","step","upper","lower","row"]:List Str);decide +kernel) rfl (Or.inl rfl))) (λ_ _ _ _ _=>(l5 Dz (B9 (DW (w:=w) (base:=base) T) hr.m rfl T.g0c.m T.g0c.F.kp T.g0c.b .nil B0 (D0 (pv 0) (o5 (show R3 _ (.builtin "len") (λxs H Q=>∃x n,xs=[x]/\AX K x H n/\Q (V.int (n:Nat)) H)from u9) (by rfl) T.z_len PySem.boot_len (x9 (pv 1))))) (pv 6)))) (c6 (d9 (j7 g6 (by rfl) T.z_tuple boot_tuple (x9 (l5 SE (pv 4) (pv 5)))))))),?_⟩;refine⟨_,rfl,_,rfl,.tup fp,.lst ep,za ⟨fs,us,rfl,rfl,rfl,o7.of hfp,t8.of hep,o8 (n:=n) (λi ys G=>h8 H G/\i0 (λi u H=>j5 R (n+n') (R4 R.S n (X i) λ_=>R.S.zero) u H) ys i G) oM ⟨h8.refl _,i0.nil⟩ (λj ys G q=>q.2.1) ?_ ?_ ?_⟩⟩
 . rintro i ys G hi ⟨q,e⟩;obtain⟨u,eu,pu⟩:=eF.2 i hi;obtain⟨x,ex,px⟩:=eE.2 i hi;refine⟨⟨fs,us,u,x,o7.of (q _ _ hfp),t8.of (q _ _ hep),eu,ex⟩,λy' H' hy=>?_⟩;obtain⟨pp,x',y',rfl,np,rfl,f1,f2⟩:=hy;have e1:=f1 _ (o7.of (q _ _ hfp));rw[eu]at e1;cases e1;have e2:=f2 _ (t8.of (q _ _ hep));rw[ex]at e2;cases e2;refine G8 (o:=.tup [u,x]) np λG1 s3 k3=>?_;have q3:=q.trans s3;obtain⟨up,uvs,rfl,hup,eU⟩:=j5.same q3.t pu;obtain⟨xp,xvs,rfl,hxp,eX⟩:=j5.same q3.t px;have ul:=eU.1;have xl:=eX.1;refine⟨pp,_,rfl,o7.of k3,rfl,za ⟨rfl,za ⟨rfl,rfl,⟨[some _,some _],rfl,rfl⟩,_,rfl,_,rfl,ze ⟨rfl,rfl,hup,hxp,oM,λp4 G4 s4 h4=>?_⟩⟩⟩⟩;exact⟨q3.trans s4,(e.mono λ_ _ _ z=>j5.same (s3.trans s4).t z).snoc ⟨p4,_,rfl,h4,(AG eU eX).mono λ_ _ _ z=>R.same s4.t z⟩⟩
 . rintro ys G ⟨q,e⟩;exact⟨fs,us,o7.of (q _ _ hfp),t8.of (q _ _ hep),.inl (by rw[eF.1])⟩
 . rintro ys G z ⟨q,e⟩ nz;refine G8 (o:=.lst ys) nz λH1 s1 k1=>?_;have q1:=q.trans s1;have e1:=e.mono (H':=H1) λ_ _ _ z=>j5.same s1.t z;refine⟨_,rfl,sp,rfl,⟨_,o7.of (q1 _ _ hsp)⟩,o8 (n:=n') (λi ys G=>h8 H1 G/\i0 (λi u H=>j5 R (n+n') (R4 R.S n (λ_=>R.S.zero) (Y i)) u H) ys i G) oM ⟨h8.refl _,i0.nil⟩ (λj ys G q=>q.2.1) ?_ ?_ ?_⟩
   . rintro i zs G2 hi ⟨q2,e2⟩;obtain⟨u,eu,pu⟩:=eS.2 i hi;have Jj:=q1.trans q2;refine Dt (o7.of (Jj _ _ hsp)) eu ?_;have hl:AX K (.ref fp) G2 n:=.inr ⟨_,o7.of (Jj _ _ hfp),eF.1.symm⟩;refine⟨⟨[some _],rfl,rfl⟩,_,rfl,_,rfl,za ⟨rfl,hl,R,zh kv _ n ⟨rfl,⟨hk.same Jj,oM,rfl⟩,λv G3 s3 r3=>?_⟩⟩⟩;obtain⟨vp,vvs,rfl,hvp,eV⟩:=r3;obtain⟨up,uvs,rfl,hup,eU⟩:=j5.same (Jj.trans s3).t pu;have vl:=eV.1;have ul:=eU.1;refine⟨_,rfl,ze ⟨rfl,rfl,hvp,hup,oM,λp4 G4 s4 h4=>?_⟩⟩;exact⟨q2.trans (s3.trans s4),(e2.mono λ_ _ _ z=>j5.same (s3.trans s4).t z).snoc ⟨p4,_,rfl,h4,(AG eV eU).mono λ_ _ _ z=>R.same s4.t z⟩⟩
   . rintro zs G2 ⟨q2,e2⟩;exact⟨_,o7.of ((q1.trans q2) _ _ hsp),by rw[eS.1];exact ae _⟩
   . rintro zs G2 z2 ⟨q2,e2⟩ nz2;refine G8 (o:=.lst zs) nz2 λH2 s2 k2=>?_;have Jj:=q2.trans s2;have yl:=e1.1;have zl':=e2.1;refine⟨_,rfl,_,rfl,z,z2,ys,zs,rfl,rfl,Jj _ _ k1,k2,oM,λp3 n3=>?_⟩;refine G8 (o:=.lst (ys++zs)) n3 λH3 s3 k3=>?_;refine⟨p3,_,rfl,.inl ⟨t8.of k3,λp4 n4=>?_⟩⟩;have s4:=c7 (o:=.tup (ys++zs)) n4;have RU:=s3.trans s4;refine k _ _ (q1.trans (Jj.trans RU)) ⟨p4,_,rfl,c5,i0.app (e1.mono λi _ hi z=>?_) (e2.mono λi _ hi z=>?_)⟩
     . show j5 R (n+n') (Jb R.S n X Y i) _ _;unfold Jb;rw[if_pos hi];exact j5.same (Jj.trans RU).t z
     . show j5 R (n+n') (Jb R.S n X Y (n+i)) _ _;unfold Jb;rw[if_neg oM,dz];exact j5.same (s2.trans RU).t z
def EE(w:World)(K:aa)(mg:Str->Option Value)(base:Heap):Sp:=λvs H Q _=>∃(R:g9 Pr w K mg base),∃kv mv ov l,∃(n n':Nat),∃st tb en st' tb' en',vs=[kv,mv,ov]/\(T6 R.C R.fs H kv/\r9 R l n st tb en mv H/\r9 R l n' st' tb' en' ov H/\W5 l/\n<=60/\n'<=60)/\
 ∀v H',h8 H H'->r9 R l (n+n') (R4 R.S n st st') (λa=>Jb R.S n (tb a) (tb' a)) (R4 R.S n en en') v H'->Q v H'
def ES(T:Txt K mg t):o9 Pr w K mg base D2 43 t.e0n t.c0l GE (EE w K mg base):=by
 refine T.c0q.F.ok T7 (by rintro _ _ _ _ ⟨_,_,_,_,_,_,_,_,_,_,_,_,_,rfl,_⟩;rfl) λcdv A outer s H vs Q E hr h=>?_;obtain⟨R,kv,mv,ov,l,n,n',st,tb,en,st',tb',en',rfl,⟨hk,hM,hM',L,hn,hn'⟩,k⟩:=h;have zl:10000 < sizeLine:=by decide
 have l3:=L.h3;obtain⟨mp,sv,tv,ev,rfl,hm,⟨sp,ss,rfl,hsp,eS⟩,⟨tp,ts,rfl,htp,eT⟩,⟨ep,es,rfl,hep,eE⟩⟩:=id hM;obtain⟨mp',sv',tv',ev',rfl,hm',⟨sp',ss',rfl,hsp',eS'⟩,⟨tp',ts',rfl,htp',eT'⟩,⟨ep',es',rfl,hep',eE'⟩⟩:=id hM';have lS:=eS.1;have lS':=eS'.1;have lE:=eE.1;have lE':=eE'.1;refine⟨_,(a9 (Bn (i:=3) T7.nd rfl (Or.inr rfl) (w5 (xs:=["room"]) rfl (show p9 SU (b9 L5) _ from⟨rfl,dK,dK,dK,dK,dK⟩) (x5 rfl T.z_range (x9 (C3 (Ig T) hr.m T.h0l (x9 (pv 1))))) (λ_ _ _ _ _=>(j9 (i:=5) (by show List.Nodup (["kind","one","other","no_step","tables","room"]:List Str);decide +kernel) rfl (Or.inl rfl))) (λ_ _ _ _ _=>(B9 (DW (w:=w) (base:=base) T) hr.m rfl T.g0c.m T.g0c.F.kp T.g0c.b .nil B0 (D0 (pv 0) (B9 (Ig (w:=w) (base:=base) T) hr.m rfl T.h0l.m T.h0l.F.kp T.h0l.b .nil B0 (x9 (pv 2)))))))) (a9 (P7 (i₀:=4) (xs:=["first","second"]) T7.nd rfl (Or.inl rfl) rfl (show p9 SU (b9 L5) _ from⟨rfl,dK,dK,dK,dK,dK⟩) (CH rfl T.z_zip (D0 (j8 h9 (pv 1) c4 (λ_ _=>rfl)) (j8 h9 (pv 2) c4 (λ_ _=>rfl)))) (λ_ _ _ _ _=>(show PG _ _ (Fk K 2 _)from(E9 rfl (k9 (j9 (i:=5) (by show List.Nodup (Zf);decide +kernel) rfl (Or.inl rfl)) (k9 (j9 (i:=6) (by show List.Nodup (Zf);decide +kernel) rfl (Or.inl rfl)) B8))))) (λ_ _ _ _ _=>(B9 (Mh (w:=w) (base:=base) T) hr.m rfl T.g0e.m T.g0e.F.kp T.g0e.b .nil B0 (Jk (pv 0) (pv 5) (pv 6) (pv 3))))) (c6 (d9 (B4 (Jk (j8 h9 (pv 1) c4 (λ_ _=>rfl)) (l5 Dz (j8 h9 (pv 1) c4 (λ_ _=>rfl)) (j8 h9 (pv 2) c4 (λ_ _=>rfl))) (j7 g6 (by rfl) T.z_tuple boot_tuple (x9 (pv 4))) (l5 Dz (j8 h9 (pv 1) c4 (λ_ _=>rfl)) (j8 h9 (pv 2) c4 (λ_ _=>rfl))))))))),?_⟩;refine⟨_,rfl,R,zk (.ref mp) l n st tb en ⟨rfl,hM,?_⟩⟩;refine⟨_,rfl,oM,oM,o8 (n:=n) (λi ys G=>h8 H G/\i0 (λi u H=>j5 R n' (λ_=>R.S.zero) u H) ys i G) oM ⟨h8.refl _,i0.nil⟩ (λj ys G q=>q.2.1) ?_ ?_ ?_⟩
 . rintro i ys G hi ⟨q,e⟩;refine Ej (by omega) ?_;refine⟨⟨[some _],rfl,rfl⟩,_,rfl,_,rfl,R,zk (.ref mp') l n' st' tb' en' ⟨rfl,r9.same q.t hM',R,zh kv _ n' ⟨rfl,⟨hk.same q,oM,rfl⟩,λv G3 s3 r3=>?_⟩⟩⟩;exact⟨q.trans s3,(e.mono λ_ _ _ z=>j5.same s3.t z).snoc r3⟩
 . rintro ys G ⟨q,e⟩;show(n:Int).toNat<=n;omega
 . rintro us G up ⟨q,e⟩ nup;refine G8 (o:=.lst us) nup λH1 s1 k1=>?_;have q1:=q.trans s1;have e1:=e.mono (H':=H1) λ_ _ _ z=>j5.same s1.t z;refine⟨_,rfl,ze ⟨rfl,rfl,o7.of (q1 _ _ hm),rfl,_,rfl,ze ⟨rfl,rfl,o7.of (q1 _ _ hm'),rfl,.tup tp,.tup tp',za ⟨ts,ts',rfl,rfl,rfl,o7.of (q1 _ _ htp),o7.of (q1 _ _ htp'),o8 (n:=l.length) (λi ys G=>h8 H1 G/\i0 (λa u H=>D7 R (n+n') (n+n') (Jb R.S n (tb a) (tb' a)) u H) ys i G) oM ⟨h8.refl _,i0.nil⟩ (λj ys G q=>q.2.1) ?_ ?_ ?_⟩⟩⟩⟩
   . rintro i ys G2 hi ⟨q2,e2⟩;have Jj:=q1.trans q2;obtain⟨u,eu,pu⟩:=eT.2 i hi;obtain⟨x,ex,px⟩:=eT'.2 i hi;refine⟨⟨ts,ts',u,x,o7.of (Jj _ _ htp),o7.of (Jj _ _ htp'),eu,ex⟩,λy' H' hy=>?_⟩;obtain⟨pp,x',y',rfl,np,rfl,f1,f2⟩:=hy;have g1:=f1 _ (o7.of (Jj _ _ htp));rw[eu]at g1;cases g1;have g2:=f2 _ (o7.of (Jj _ _ htp'));rw[ex]at g2;cases g2;refine G8 (o:=.tup [u,x]) np λG3 s3 k3=>?_;have q3:=Jj.trans s3;have q23:=q2.trans s3;refine⟨pp,_,rfl,o7.of k3,rfl,za ⟨rfl,za ⟨rfl,rfl,⟨[some _,some _],rfl,rfl⟩,_,rfl,_,rfl,_,rfl,_,rfl,R,zq kv u x up n n' (tb i) (tb' i) us ⟨rfl,⟨hk.same q3,D7.same q3.t pu,D7.same q3.t px,q23 _ _ k1,e1.mono λ_ _ _ z=>j5.same q23.t z,hn,hn'⟩,λv G4 s4 r4=>?_⟩⟩⟩⟩;exact⟨q23.trans s4,(e2.mono λ_ _ _ z=>D7.same (s3.trans s4).t z).snoc r4⟩
   . rintro ys G2 ⟨q2,e2⟩;exact⟨ts,ts',o7.of ((q1.trans q2) _ _ htp),o7.of ((q1.trans q2) _ _ htp'),.inl (by rw[eT.1])⟩
   . rintro ys G2 bp ⟨q2,e2⟩ nbp;refine G8 (o:=.lst ys) nbp λH2 s2 k2=>?_;have u2:=q1.trans (q2.trans s2);refine⟨_,rfl,ze ⟨rfl,rfl,o7.of (u2 _ _ hm),rfl,?_⟩⟩;refine⟨_,rfl,ze ⟨rfl,rfl,o7.of (u2 _ _ hm),rfl,_,rfl,ze ⟨rfl,rfl,o7.of (u2 _ _ hm'),rfl,ze ⟨rfl,rfl,u2 _ _ hsp,u2 _ _ hsp',oM,λp3 H3 s3 h3=>?_⟩⟩⟩⟩;refine⟨_,rfl,bp,ys,rfl,.inl ⟨t8.of (s3 _ _ k2),λp4 n4=>?_⟩⟩;refine G8 (o:=.tup ys) n4 λH4 s4 k4=>?_;have u4:=u2.trans (s3.trans s4);refine⟨_,rfl,ze ⟨rfl,rfl,o7.of (u4 _ _ hm),rfl,_,rfl,ze ⟨rfl,rfl,o7.of (u4 _ _ hm'),rfl,ze ⟨rfl,rfl,u4 _ _ hep,u4 _ _ hep',oM,λp5 H5 s5 h5=>?_⟩⟩⟩⟩;refine⟨(by show 4<=sizeLine;decide),λp6 n6=>?_⟩;have s6:=c7 (o:=.tup [vT l,V.ref p3,V.ref p4,V.ref p5]) n6;have u6:=u4.trans (s5.trans s6);exact k _ _ u6 ⟨p6,_,_,_,rfl,c5,⟨p3,_,rfl,(s4.trans (s5.trans s6)) _ _ h3,(AG eS eS').mono λ_ _ _ z=>R.same u6.t z⟩,⟨p4,ys,rfl,(s5.trans s6) _ _ k4,e2.mono λ_ _ _ z=>D7.same (s2.trans (s3.trans (s4.trans (s5.trans s6)))).t z⟩,⟨p5,_,rfl,s6 _ _ h5,(AG eE eE').mono λ_ _ _ z=>R.same u6.t z⟩⟩
def OL{J:It}{n k:Nat}{g:TG}{tc:TT}{te:TE}{σ:L2.St}{Q:VK}{H1:Hp}(Pv:Nat->List V->Hp->Prop)(hn:n<=10000)(h0:Pv 0 [] H1)(hl:∀i ys H,Pv i ys H->ys.length<=i)
    (hgo:∀i ys H,i < n->Pv i ys H->J.go i H/\∀x H',J.yld i H x H'->g x (σ++List.replicate k none) H' λσ2 H2=>(∃zs,σ2=σ++zs/\zs.length=k)/\tc σ2 H2 λb H3=>if b=true then te σ2 H3 λv H4=>Pv (i+1) (ys++[v]) H4 else Pv (i+1) ys H3)
    (hstop:∀ys H,Pv n ys H->J.stop n H) (hend:∀ys H p,Pv n ys H->H p=none->Q (.ref p) (upd H p (.lst ys))) :
    OQ J k g tc te σ Q H1:=by
 have z:10000 < sizeLine:=by decide
 refine⟨λi m ys H=>m=n - i/\i<=n/\Pv i ys H,⟨n,rfl,aK _,h0⟩,?_⟩;rintro i m ys H ⟨rfl,hi,p⟩;have yl:=hl i ys H p;by_cases hlt:i < n
 . obtain⟨a,b⟩:=hgo i ys H hlt p;refine .inr ⟨a,oM,λx H' y=>?_⟩;have c:=b x H' y;have e1:∀ys H3,(∃m',m' < n - i/\m'=n - (i+1)/\i+1<=n/\Pv (i+1) ys H3)=Pv (i+1) ys H3:=λys H3=>propext ⟨λ⟨_,_,_,_,q⟩=>q,λq=>⟨_,oM,rfl,hlt,q⟩⟩;simp only[e1];exact c
 . have e:i=n:=by omega
   subst e;exact .inl ⟨hstop ys H p,oM,λq nq=>hend ys H q p nq⟩
def Pl(w:World)(K:aa)(mg:Str->Option Value)(base:Heap):Sp:=λvs H Q _=>∃(R:g9 Pr w K mg base),∃kv mv ov l,∃(n n':Nat),∃st tb en st' tb' en',vs=[kv,mv,ov]/\(T6 R.C R.fs H kv/\r9 R l n st tb en mv H/\r9 R l n' st' tb' en' ov H/\W5 l/\n<=60/\n'<=60)/\
 ∀v H',h8 H H'->r9 R l (n+n') (R4 R.S n st st') (λa=>Jb R.S n (tb a) (tb' a)) (R4 R.S n en λi=>R.F.neg (en' i)) v H'->Q v H'
def Qg(T:Txt K mg t):o9 Pr w K mg base D2 44 t.i0a t.d_less GE (Pl w K mg base):=by
 refine T.h0t.F.ok La (by rintro _ _ _ _ ⟨_,_,_,_,_,_,_,_,_,_,_,_,_,rfl,_⟩;rfl) λcdv A outer s H vs Q E hr h=>?_;obtain⟨R,kv,mv,ov,l,n,n',st,tb,en,st',tb',en',rfl,⟨⟨kp,dx,rfl,hk⟩,hM,hM',L,hn,hn'⟩,k⟩:=h;obtain⟨mp',sv',tv',ev',rfl,hm',h1',h2',⟨ep',es',rfl,hep',eE'⟩⟩:=id hM';refine⟨_,(a9 (sT 3 La.nd (j7 g6 (by rfl) T.z_tuple boot_tuple (x9 (w5 (xs:=["x"]) rfl (show p9 ["kind","one","other","minus_ends"] (b9 Gk) _ from⟨rfl,dK,dK,dK,dK,dK⟩) (L9 (j8 h9 (pv 2) c4 (λ_ _=>rfl))) (λ_ _ _ _ _=>(j9 (i:=4) (by show List.Nodup (["kind","one","other","minus_ends","x"]:List Str);decide +kernel) rfl (Or.inl rfl))) (λ_ _ _ _ _=>(P8 (pv 0) R.cl R.t_minus R.G_minus hr.m R.b_minus .nil B0 (x9 (pv 4)))))))) (c6 (d9 (C3 (ES T) hr.m T.c0q (W8 (pv 0) (pv 1) (B4 (Jk (j8 h9 (pv 2) c4 (λ_ _=>rfl)) (j8 h9 (pv 2) c4 (λ_ _=>rfl)) (j8 h9 (pv 2) c4 (λ_ _=>rfl)) (pv 3)))))))),?_⟩;refine⟨_,rfl,ze ⟨rfl,rfl,o7.of hm',rfl,ep',rfl,⟨_,o7.of hep'⟩,o8 (n:=n') (λi ys G=>h8 H G/\i0 (λi u H=>R.is H u (R.F.neg (en' i))) ys i G) oM ⟨h8.refl _,i0.nil⟩ (λj ys G q=>q.2.1) ?_ ?_ ?_⟩⟩
 . rintro i ys G hi ⟨q,e⟩;obtain⟨u,eu,pu⟩:=eE'.2 i hi;refine Dt (o7.of (q _ _ hep')) eu ?_;refine⟨⟨[some _],rfl,rfl⟩,_,rfl,zd ⟨rfl,q _ _ hk,R.l_minus,_,rfl,zd ⟨rfl,⟨za ⟨rfl,q _ _ hk⟩,R.same q.t pu⟩,λv G3 s3 r3=>?_⟩⟩⟩;exact⟨q.trans s3,(e.mono λ_ _ _ z=>R.same s3.t z).snoc r3⟩
 . rintro ys G ⟨q,e⟩;exact⟨_,o7.of (q _ _ hep'),by rw[eE'.1];exact ae _⟩
 . rintro ys G lp ⟨q,e⟩ nl;have s1:=c7 (o:=.lst ys) nl;refine⟨lp,ys,rfl,.inl ⟨t8.of c5,λp2 n2=>?_⟩⟩;have s2:=c7 (o:=.tup ys) n2;have k2:=c5 (H:=upd G lp (.lst ys)) (a:=p2) (o:=.tup ys);revert s1 s2 k2;generalize upd (upd G lp (.lst ys)) p2 (.tup ys)=H2;intro s1 s2 k2;have u2:=q.trans (s1.trans s2);refine⟨_,rfl,_,rfl,_,rfl,ze ⟨rfl,rfl,o7.of (u2 _ _ hm'),rfl,_,rfl,ze ⟨rfl,rfl,o7.of (u2 _ _ hm'),rfl,_,rfl,ze ⟨rfl,rfl,o7.of (u2 _ _ hm'),rfl,_,rfl,(by show 4<=sizeLine;decide),λp3 n3=>?_⟩⟩⟩⟩;refine G8 (o:=.tup [vT l,sv',tv',V.ref p2]) n3 λH3 s3 k3=>?_;have u3:=u2.trans s3;refine⟨R,zw (.ref kp) mv (.ref p3) l n n' st tb en st' tb' _ ⟨rfl,⟨za ⟨rfl,u3 _ _ hk⟩,r9.same u3.t hM,⟨p3,zd ⟨rfl,k3,j5.same u3.t h1',EA.same u3.t h2',⟨p2,ys,rfl,s3 _ _ k2,e.mono λ_ _ _ z=>R.same (s1.trans (s2.trans s3)).t z⟩⟩⟩,L,hn,hn'⟩,λv H4 s4 r4=>?_⟩⟩;exact k _ _ (u3.trans s4) r4
structure OP(R:g9 Pr w K mg base)(l:List Nat)(n μ:Nat)(st:Nat->R.S.W)(tb:Nat->Nat->Nat->R.S.W)(en:Nat->R.S.W)(ws:List (List Nat)):Prop where
 mb:MB R.B n l.length μ st tb en
 L:W5 l
 hn:n<=60
 al:∀u∈ws,u.length<=n/\∀c∈u,c∈l
 wl:ws.length<=1000
 sm:Ay R.S (3 * ((n+2) * (μ+n)))
def Ju(w:World)(K:aa)(mg:Str->Option Value)(base:Heap):Sp:=λvs H Q _=>∃(R:g9 Pr w K mg base),∃kv mv a l,∃(n μ:Nat),∃st tb en ws,vs=[kv,mv,.ref a]/\(T6 R.C R.fs H kv/\r9 R l n st tb en mv H/\D9 R n (w4 R.S n st (E5 l tb)) ws a H/\OP R l n μ st tb en ws)/\
 ∀b H',h8 H H'->H b=none->H' b=some (.lst ((DP (L3 R.S l n st tb en) ws).map vT))->Q (.ref b) H'
def DV(T:Txt K mg t):o9 Pr w K mg base D2 42 t.h0k t.f0e NZ (Ju w K mg base):=by
 refine T.g0b.F.ok JC (by rintro _ _ _ _ ⟨_,_,_,_,_,_,_,_,_,_,_,rfl,_⟩;rfl) λcdv A outer s H vs Q E hr h=>?_;obtain⟨R,kv,mv,a,l,n,μ,st,tb,en,ws,rfl,⟨⟨kp,dx,rfl,hk⟩,hM,⟨us,ha,eP⟩,P⟩,k⟩:=h;obtain⟨mp,sv,tv,ev,rfl,hm,h1,h2,h3⟩:=id hM;have hn:=P.hn;have wl:=P.wl;refine⟨_,(c6 (d9 (Mg (xs:=["word","row"]) rfl (show p9 NZ (b9 AA) _ from⟨rfl,dK,dK,dK,dK,dK⟩) (F8 (pv 2)) (λ_ _ _ _ _=>(show PG _ _ (Fk K 2 _)from(E9 rfl (k9 (j9 (i:=3) (by show List.Nodup (["kind","both","found","word","row"]:List Str);decide +kernel) rfl (Or.inl rfl)) (k9 (j9 (i:=4) (by show List.Nodup (["kind","both","found","word","row"]:List Str);decide +kernel) rfl (Or.inl rfl)) B8))))) (λ_ _ _ _ _=>(l4 (show CY _ (compareOp .NotEq) (PU K)from Gu hr.units) (B9 (JO (w:=w) (base:=base) T) hr.m rfl T.h0u.m T.h0u.F.kp T.h0u.b .nil B0 (W8 (pv 0) (pv 4) (j8 (show MO _ (Md K)from h9) (pv 1) c4 (λ_ _=>rfl)))) (U5 (pv 0) R.cl R.t_nought R.G_nought hr.m R.b_nought .nil B0) (l6 _))) (λ_ _ _ _ _=>(pv 3))))),?_⟩;refine⟨_,rfl,a,rfl,⟨_,t8.of ha⟩,OL (n:=ws.length) (λj ys G=>h8 H G/\ys=(DP (L3 R.S l n st tb en) (ws.take j)).map vT) oM ⟨h8.refl _,rfl⟩ (λj ys G q=>by rw[q.2,aj];exact af Lc (by rw[bz];omega)) ?_ ?_ ?_⟩
 . rintro j ys G hj ⟨q,rfl⟩;obtain⟨y,ey,wd,pp,rv,ew,rfl,hq,ro⟩:=eP.2 j hj;obtain⟨a1,a2⟩:=P.al wd (aR ew);refine Kh (t8.of (q _ _ ha)) ey ?_;have zx:=(P.mb.row wd a2).mono (R5 a1) (R5 a1);have e2:(n+2) * (μ+n)=(n+1) * (μ+n)+(μ+n):=bF ..;refine⟨pp,_,rfl,o7.of (q _ _ hq),rfl,za ⟨rfl,za ⟨rfl,rfl,⟨[some _,some _],rfl,rfl⟩,?_⟩⟩⟩;refine⟨_,rfl,_,rfl,_,rfl,ze ⟨rfl,rfl,o7.of (q _ _ hm),rfl,R,zm _ rv ev n _ en ((n+2) * (μ+n)) ⟨rfl,⟨za ⟨rfl,q _ _ hk⟩,j5.same q.t ro,j5.same q.t h3,T4 zx P.mb.en oM oM,P.sm⟩,λv G1 s1 f1=>?_⟩⟩⟩;have q1:=q.trans s1;refine⟨_,rfl,zd ⟨rfl,q1 _ _ hk,R.l_nought,_,rfl,za ⟨rfl,q1 _ _ hk⟩,λzv G2 s2 f2=>?_⟩⟩;by_cases e:L3 R.S l n st tb en wd=R.S.zero
   . refine R.neD (R.same s2.t f1) f2 e ⟨_,rfl,?_⟩
     (try refine AU ?_)
     exact⟨q1.trans s2,by rw[Sy ew e]⟩
   . refine R.neT (R.same s2.t f1) f2 e ⟨_,rfl,?_⟩
     (try refine Fi ?_)
     exact⟨_,rfl,q1.trans s2,by rw[PV ew e,bH];rfl⟩
 . rintro ys G ⟨q,rfl⟩;exact⟨_,t8.of (q _ _ ha),by rw[eP.1];exact ae _⟩
 . rintro ys G z ⟨q,rfl⟩ nz;rw[bb];refine k z _ (q.trans (c7 nz)) ?_ c5;cases e:H z with
   | none=>rfl
   | some o=>rw[q _ _ e]at nz;cases nz
def X7(w:World)(K:aa)(mg:Str->Option Value)(base:Heap):Sp:=λvs H Q _=>∃(R:g9 Pr w K mg base),∃kv mv a l,∃(n μ:Nat),∃st tb en ws,vs=[kv,mv,.ref a]/\(T6 R.C R.fs H kv/\r9 R l n st tb en mv H/\D9 R n (w4 R.S n st (E5 l tb)) ws a H/\OP R l n μ st tb en ws)/\
 ∀b H',h8 H H'->H b=none->D9 R n (w4 R.S n st (E5 l tb)) (gP l (L3 R.S l n st tb en) ws) b H'->Q (.ref b) H'
def Ah(T:Txt K mg t):o9 Pr w K mg base D2 46 t.a0w t.a0j Qj (X7 w K mg base):=by
 refine T.a0i.F.ok Y3 (by rintro _ _ _ _ ⟨_,_,_,_,_,_,_,_,_,_,_,rfl,_⟩;rfl) λcdv A outer s H vs Q E hr h=>?_;obtain⟨R,kv,mv,a,l,n,μ,st,tb,en,ws,rfl,⟨hk,hM,hP,P⟩,k⟩:=h;refine⟨_,(a9 (w8 (l4 W9 (o5 u9 (by rfl) T.z_len PySem.boot_len (x9 (C3 (DV T) hr.m T.g0b (W8 (pv 0) (pv 1) (pv 2))))) c4 (l6 _)) (c6 (d9 (D4 F0))) l9) (c6 (d9 (C3 (X2 T) hr.m T.a0a (W8 (pv 0) (pv 1) (pv 2)))))),?_⟩;refine⟨_,rfl,_,rfl,_,rfl,R,zt kv mv a l n μ st tb en ws ⟨rfl,⟨hk,hM,hP,P⟩,λb H1 s1 nb hb=>?_⟩⟩;have hl:AX K (.ref b) H1 (DP (L3 R.S l n st tb en) ws).length:=.inl ⟨_,t8.of hb,by rw[aj]⟩;refine za ⟨rfl,hl,za ⟨rfl,rfl,_,rfl,?_⟩⟩;have bn:∀{z:Addr},H1 z=none->H z=none:=λ{z} nz=>by
  cases e:H z with
  | none=>rfl
  | some o=>rw[s1 _ _ e]at nz;cases nz
 refine Av (λgt=>?_) (λgt=>?_)
 . refine⟨(by show 0<=sizeLine;decide),λz nz=>?_⟩;refine k z _ (s1.trans (c7 nz)) (bn nz) ?_;unfold gP;rw[if_neg oM];exact⟨[],c5,i0.nil⟩
 . refine⟨_,rfl,_,rfl,_,rfl,R,zt kv mv a l n μ st tb en ws ⟨rfl,⟨hk.same s1,r9.same s1.t hM,P.mb,P.L,P.hn,hP.same s1,P.al,P.wl,P.sm⟩,λz H2 s2 nz hz=>?_⟩⟩;refine k z _ (s1.trans s2) (bn nz) ?_;unfold gP;rw[if_pos oM];exact hz
def HA(w:World)(K:aa)(mg:Str->Option Value)(base:Heap)(t:OV):Sp:=λvs H Q _=>∃(R:g9 Pr w K mg base),∃kv mv rv l,∃(n μ k:Nat),∃st tb en rs,vs=[kv,mv,rv]/\(T6 R.C R.fs H kv/\r9 R l n st tb en mv H/\MB R.B n l.length μ st tb en/\W5 l/\n<=60/\k<=60/\Di R n k rs rv H/\(∀i,i < k->XB R.B n ((n+1) * (μ+n)) ((n+1) * (μ+n)) (rs i))/\Ay R.S (3 * zC n μ)/\K4 t H)/\
 ∀v H',D8 (DT t) H H'->K4 t H'->Q v H'
def Ie(T:Txt K mg t)(hTb:TbA mg base t):o9 Pr w K mg base D2 54 t.g0g t.e0o ["kind","both","rows"] (HA w K mg base t):=by
 refine T.e0y.F.ok R7 (by rintro _ _ _ _ ⟨_,_,_,_,_,_,_,_,_,_,_,_,rfl,_⟩;rfl) λcdv A outer s H vs Q E hr h=>?_;obtain⟨R,kv,mv,rv,l,n,μ,k0,st,tb,en,rs,rfl,⟨hk,hM,hB,L,hn,hk0,hR,hx,hS,hT⟩,k⟩:=h;have l3:=L.h3;have sl:10000 < sizeLine:=by decide
 refine⟨_,(a9 (sT 3 R7.nd (C3 (JN T hTb) hr.m T.f0i (D0 (pv 0) (pv 2)))) (a9 (sT 4 R7.nd (C3 (Ii T) hr.m T.e0f (W8 (pv 0) (pv 1) (pv 3)))) (a9 (P7 (i₀:=5) (xs:=["table"]) R7.nd rfl (Or.inl rfl) rfl (show p9 SV (b9 M8) _ from⟨rfl,dK,dK,dK,dK,dK⟩) (L9 (j8 h9 (pv 4) c4 (λ_ _=>rfl))) (λ_ _ _ _ _=>(j9 (i:=6) (by show List.Nodup (Zd);decide +kernel) rfl (Or.inl rfl))) (λ_ _ _ _ _=>(w5 (xs:=["row"]) rfl (show p9 Zd (rlS (b9 M8) _) _ from⟨rfl,dK,dK,dK,dK,dK⟩) (show PI _ _ _ (QD K _)from L9 (pv 6)) (λ_ _ _ _ _=>(j9 (i:=7) (by show List.Nodup (["kind","both","rows","kept","narrow","steps","table","row"]:List Str);decide +kernel) rfl (Or.inl rfl))) (λ_ _ _ _ _=>(j7 (show R3 _ (.type "list") (λxs H Q=>∃p ys,xs=[.ref p]/\(t8 K H p ys\/o7 K H p ys)/\∀l,H l=none->Q (.ref l) (upd H l (.lst ys)))from M5) (by rfl) T.z_list boot_list (x9 (pv 7))))))) (c6 (d9 (B4 (W8 (w5 (xs:=["place","row"]) rfl (show p9 SV (b9 M8) _ from⟨rfl,dK,dK,dK,dK,dK⟩) (F8 (pv 3)) (λ_ _ _ _ _=>(show PG _ _ (Fk K 2 _)from(E9 rfl (k9 (j9 (i:=6) (by show List.Nodup (Zh);decide +kernel) rfl (Or.inl rfl)) (k9 (j9 (i:=7) (by show List.Nodup (Zh);decide +kernel) rfl (Or.inl rfl)) B8))))) (λ_ _ _ _ _=>(pv 7))) (j7 M5 (by rfl) T.z_list boot_list (x9 (j8 h9 (pv 4) c4 (λ_ _=>rfl)))) (pv 5)))))))),?_⟩;have hx2:∀i,i<=k0->∀x∈EO rs i,XB R.B n ((n+1) * (μ+n)) ((n+1) * (μ+n)) x:=λi hi x hx'=>by
  obtain⟨j,hj,rfl⟩:=PM hx';exact hx j oM
 have zb:=Ur (n:=n) (μ:=μ);have zc:=Ut (n:=n) (μ:=μ);refine⟨_,rfl,_,rfl,R,zk kv rv n (zC n μ) k0 rs ⟨rfl,⟨hk,hR,oM,λi hi _=>TJ (rs:=[]) (hx2 i oM) (hx i hi) oM,λi k' hi ek=>TH (hx2 _ (ae _)) oM (aR ek) zC_e,hS,hT _ QW⟩,λes a H3 sP hT3 hK pm pw=>?_⟩⟩;obtain⟨hTs,sD3⟩:=hT.step T QW sP hT3;have st3:w9 H H3:=sD3.tup hT.not;have EC:ED R.F n (EO rs k0) es:=⟨by rw[PN];exact pm,pw⟩;have el:=EC.le;have hk3:=T6.sameD sD3 hT.not hk;refine⟨_,rfl,_,rfl,_,rfl,R,zu kv mv a l n μ (zU n μ) st tb en es ⟨rfl,⟨hk3,r9.same st3 hM,hB,hK,EC.xb (hx2 _ (ae _)),hn,oM,oM,hS.le (aV _ zU_C)⟩,λv H4 s4 hN=>?_⟩⟩;obtain⟨mp,sv,tv,ev,rfl,hm,⟨sp,ss,rfl,hsp,eS⟩,⟨tp,ts,rfl,htp,eT⟩,h3⟩:=hN;refine⟨_,rfl,ze ⟨rfl,rfl,o7.of hm,rfl,tp,rfl,⟨_,o7.of htp⟩,o8 (n:=l.length) (λi ys G=>h8 H4 G/\ys.length=i) oM ⟨h8.refl _,rfl⟩ (λj ys G q=>q.2) ?_ ?_ ?_⟩⟩
 . rintro i ys G hi ⟨q,e⟩;obtain⟨u,eu,pu⟩:=eT.2 i hi;refine Dt (o7.of (q _ _ htp)) eu ?_;obtain⟨up,us,rfl,hup,eU⟩:=D7.same q.t pu;refine⟨⟨[some _],rfl,rfl⟩,_,rfl,up,rfl,⟨_,o7.of hup⟩,o8 (n:=es.length) (λj zs G2=>h8 G G2/\zs.length=j) oM ⟨h8.refl _,rfl⟩ (λj ys G q=>q.2) ?_ ?_ ?_⟩
   . rintro j zs G2 hj ⟨q2,e2⟩;obtain⟨x,ex,px⟩:=eU.2 j hj;refine Dt (o7.of (q2 _ _ hup)) ex ?_;obtain⟨xp,xs,rfl,hxp,eX⟩:=j5.same q2.t px;refine⟨⟨[some _],rfl,rfl⟩,_,rfl,xp,xs,rfl,.inr (o7.of hxp),λlp nl=>?_⟩;exact⟨q2.trans (c7 nl),by rw[ai,e2];rfl⟩
   . rintro zs G2 ⟨q2,e2⟩;exact⟨_,o7.of (q2 _ _ hup),by rw[eU.1];exact ae _⟩
   . rintro zs G2 z ⟨q2,e2⟩ nz;exact⟨(q.trans q2).trans (c7 nz),by rw[ai,e];rfl⟩
 . rintro ys G ⟨q,e⟩;exact⟨_,o7.of (q _ _ htp),by rw[eT.1];exact ae _⟩
 . rintro ys G z ⟨q,e⟩ nz;refine G8 (o:=.lst ys) nz λH5 s5 k5=>?_;have q5:=q.trans s5;obtain⟨kus,hka,eK⟩:=hK.same (s4.trans q5);refine⟨_,rfl,a,rfl,⟨_,t8.of hka⟩,o8 (n:=es.length) (λi zs G=>h8 H5 G/\zs.length=i) oM ⟨h8.refl _,rfl⟩ (λj ys G q=>q.2) ?_ ?_ ?_⟩
   . rintro i zs G2 hi ⟨q2,e2⟩;obtain⟨u,eu,kq,qa,ov,ek,rfl,hq,ro⟩:=eK.2 i hi;refine Kh (t8.of (q2 _ _ hka)) eu ?_;refine⟨qa,_,rfl,o7.of (q2 _ _ hq),rfl,za ⟨rfl,za ⟨rfl,rfl,⟨[some _,some _],rfl,rfl⟩,_,rfl,q2,by rw[ai,e2];rfl⟩⟩⟩
   . rintro zs G2 ⟨q2,e2⟩;exact⟨_,t8.of (q2 _ _ hka),by rw[eK.1];exact ae _⟩
   . rintro zs G2 z2 ⟨q2,e2⟩ nz2;have s6:=c7 (o:=.lst zs) nz2;revert s6;generalize upd G2 z2 (.lst zs)=H6;intro s6;have q6:=q5.trans (q2.trans s6);refine⟨_,rfl,ze ⟨rfl,rfl,o7.of (q6 _ _ hm),rfl,sp,ss,rfl,.inr (o7.of (q6 _ _ hsp)),λp7 n7=>?_⟩⟩;have s7:=c7 (o:=.lst ss) n7;refine⟨_,rfl,(by show 3<=sizeLine;decide),λp8 n8=>?_⟩;have s8:=s7.trans (c7 (o:=.tup [V.ref z2,V.ref p7,V.ref z]) n8);have Ue:=s4.trans (q6.trans s8);exact k _ _ (sD3.trans (.of Ue)) (hTs.same Ue)
noncomputable abbrev Jm{S:SR}(n:Nat)(st st':Nat->S.W):Nat->S.W:=R4 S n st st'
noncomputable abbrev Jl{S:SR}(n:Nat)(tb tb':Nat->Nat->Nat->S.W):Nat->Nat->Nat->S.W:=λa=>Jb S n (tb a) (tb' a)
noncomputable abbrev LK{S:SR}(F:X6 S)(n:Nat)(en en':Nat->S.W):Nat->S.W:=R4 S n en λi=>F.neg (en' i)
noncomputable def Ul{S:SR}(F:X6 S)(l:List Nat)(m:Nat)(st:Nat->S.W)(tb:Nat->Nat->Nat->S.W)(en:Nat->S.W):List (List Nat):=DB F m (w4 S m st (E5 l tb)) (gP l (L3 S l m st tb en))
def Nf(w:World)(K:aa)(mg:Str->Option Value)(base:Heap)(t:OV):Sp:=λvs H Q _=>∃(R:g9 Pr w K mg base),∃kv mv ov l,∃(n n' μ:Nat),∃st tb en st' tb' en',vs=[kv,mv,ov]/\(T6 R.C R.fs H kv/\r9 R l n st tb en mv H/\r9 R l n' st' tb' en' ov H/\MB R.B (n+n') l.length μ (Jm n st st') (Jl n tb tb') (LK R.F n en en')/\W5 l/\n+n'<=60/\Ay R.S (3 * zC (n+n') μ)/\K4 t H)/\
 ∀p v H',D8 (DT t) H H'->K4 t H'->(∀ws,DP (L3 R.S l (n+n') (Jm n st st') (Jl n tb tb') (LK R.F n en en')) (Ul R.F l (n+n') (Jm n st st') (Jl n tb tb') (LK R.F n en en'))=ws->(ws=[]/\H' p=some (.tup [.str (Str.ofString "yes"),v]))\/∃u T,ws=u::T/\H' p=some (.tup [.str (Str.ofString "no"),vT u]))->Q (.ref p) H'
def Ec(T:Txt K mg t)(hTb:TbA mg base t):o9 Pr w K mg base D2 56 t.alike t.h0m GE (Nf w K mg base t):=by
 refine T.h0h.F.okC BH T.tb_alike T.g0u (by rintro _ _ _ _ ⟨_,_,_,_,_,_,_,_,_,_,_,_,_,_,rfl,_⟩;rfl) λA outer s H vs Q E hr h=>?_;obtain⟨R,kv,mv,ov,l,n,n',μ,st,tb,en,st',tb',en',rfl,⟨hk,hM,hM',hB,L,hn,hS,hT⟩,k⟩:=h;refine⟨_,(a9 (E1 (C3 (ET T) hr.m T.c0g (x9 (pv 0)))) (a9 (E1 (C3 (Af T) hr.m T.a0c (D0 (pv 1) (pv 2)))) (a9 (Bn (i:=3) BH.nd rfl (Or.inr rfl) (C3 (Qg T) hr.m T.h0t (W8 (pv 0) (pv 1) (pv 2)))) (a9 (sT 4 BH.nd (JK (kf:=47) (pn:="last") (fr:=["kind","both"]) (js:=[0,3]) (λbase=>EU (w:=w) (base:=base) T) hr.m rfl T.c0i.m T.c0i.F.kp T.c0i.b (Ib (pv 0) (Ib (j8 h9 (pv 3) c4 (λ_ _=>rfl)) (Qc hTb.alike rfl rfl rfl (show ∀y:Str × NameKind,y∈_->y.2=.free->(b9 S5).names.lookup y.1=some .cell\/(b9 S5).names.lookup y.1=some .free from by decide +kernel)))) (by exact⟨λ_=>rfl,⟨rfl,rfl,rfl,dK,rfl,dK,dK,dK⟩,(show ∀y:Str,y∈(["kind","both"]:List Str)->(b9 S5).names.lookup y=some .cell\/(b9 S5).names.lookup y=some .free from by decide +kernel),dK,rfl⟩) (λbase _ _ _ _ _ _ _ hr=>(B9 (Ah (w:=w) (base:=base) T) hr.m rfl T.a0i.m T.a0i.F.kp T.a0i.b .nil B0 (W8 (pv 1) (pv 2) (pv 0)))) (λ_ _ _ _ _=>rfl))) (a9 (sT 5 BH.nd (C3 (DV T) hr.m T.g0b (W8 (pv 0) (pv 3) (pv 4)))) (a9 (w8 (l4 W9 (o5 u9 (by rfl) T.z_len PySem.boot_len (x9 (pv 5))) c4 (l6 _)) (c6 (d9 (B4 (D0 Ae (j8 D1 (pv 5) c4 (λ_ _=>rfl)))))) l9) (c6 (d9 (B4 (D0 Ae (C3 (Ie T hTb) hr.m T.e0y (W8 (pv 0) (pv 3) (w5 (xs:=["word","row"]) rfl (show p9 ["kind","one","other","both","found","parted"] (b9 S5) _ from⟨rfl,dK,dK,dK,dK,dK⟩) (F8 (pv 4)) (λ_ _ _ _ _=>(show PG _ _ (Fk K 2 _)from(E9 rfl (k9 (j9 (i:=6) (by show List.Nodup (Zg);decide +kernel) rfl (Or.inl rfl)) (k9 (j9 (i:=7) (by show List.Nodup (Zg);decide +kernel) rfl (Or.inl rfl)) B8))))) (λ_ _ _ _ _=>(pv 7))))))))))))))),?_⟩;refine⟨_,rfl,R,kv,rfl,hk,?_⟩;refine⟨_,rfl,_,rfl,R,zu mv ov l n n' st tb en st' tb' en' ⟨rfl,⟨hM,hM'⟩,?_⟩⟩;refine⟨_,rfl,_,rfl,_,rfl,R,zw kv mv ov l n n' st tb en st' tb' en' ⟨rfl,⟨hk,hM,hM',L,oM,oM⟩,λbv H1 s1 hM1=>?_⟩⟩;have hT1:=hT.same s1;have hk1:=hk.same s1;have fd:∀u∈Ul R.F l (n+n') (Jm n st st') (Jl n tb tb') (LK R.F n en en'),u.length<=n+n'/\∀c∈u,c∈l:=λu hu=>Ou IL _ u hu;have fl:(Ul R.F l (n+n') (Jm n st st') (Jl n tb tb') (LK R.F n en en')).length<=n+n':=by
  unfold Ul DB;rw[GX];exact(N9 _).len
 have hM1:r9 R l (n+n') (Jm n st st') (Jl n tb tb') (LK R.F n en en') bv H1:=hM1;have k':=k;unfold Ul at k' fd fl;revert hM1 hB k' fd fl;generalize Jm n st st'=bs;generalize Jl n tb tb'=bt;generalize LK R.F n en en'=be;generalize n+n'=m at *;intro hB fd fl hM1 k';obtain⟨mp,sv,tv,ev,rfl,hm,h1,h2,h3⟩:=id hM1;have zl:∀i,∀u∈(l7 R.F m (w4 R.S m bs (E5 l bt)) (gP l (L3 R.S l m bs bt be)) i).last,u.length<=m/\∀c∈u,c∈l:=λi u hu=>Ov IL hu;have zFC:=Ut (n:=m) (μ:=μ);have smF:=hS.le (aV 3 zFC);have smA:Ay R.S (3 * ((m+2) * (μ+m))):=smF.le (aV _ Us);have held:∀ws:List (List Nat),(∀u∈ws,u.length<=m/\∀c∈u,c∈l)->ws.length<=1000->OP R l m μ bs bt be ws:=λws h1 h2=>⟨hB,L,hn,h1,h2,smA⟩;refine⟨[kv,.ref mp],rfl,_,rfl,_,rfl,ze ⟨rfl,rfl,o7.of hm,rfl,hT1 _ MY,λf c H2 sP hT2 hC nf base' hF=>?_⟩⟩;obtain⟨hTs,sD⟩:=hT1.step T MY sP hT2;have st2:w9 H1 H2:=sD.tup hT1.not;have hk2:T6 R.C R.fs H2 kv:=T6.sameD sD hT1.not hk1;have hM2:=r9.same st2 hM1;refine⟨R.re base',kv,sv,f,m,(m+1) * (μ+m),(m+1) * (μ+m),w4 R.S m bs (E5 l bt),gP l (L3 R.S l m bs bt be),λws=>(∀u∈ws,u.length<=m/\∀c∈u,c∈l)/\ws.length<=1000,λ_=>False,λG=>M6 G c qAL/\T6 R.C R.fs G kv/\r9 R l m bs bt be (.ref mp) G/\K4 t G,rfl,⟨hk2,j5.same st2 h1,hn,?_,⟨⟨hC,hk2,hM2,hTs⟩,λG G' s' j=>⟨M6.same0 s' j.1,j.2.1.same s',r9.same s'.t j.2.2.1,j.2.2.2.same s'⟩,λa xs G G' _ ha s' j=>⟨M6.sameX s' ha j.1,?_,r9.same (s'.lt ha) j.2.2.1,j.2.2.2.sameX s' ha⟩⟩,λG j b d=>d.elim,IL.1,λi ne=>?_,λi u hu=>(hB.row u (zl i u hu).2).mono (R5 (zl i u hu).1) (R5 (zl i u hu).1),smF.le (aV _ Ur)⟩,λb H3 s3 j3 nb hP=>?_⟩
 . refine Fn.imp hF λv G Q' h=>?_;obtain⟨a,ws,e,⟨hL,⟨o1,o2⟩,j1,j2,j3,j4⟩,k'⟩:=h;cases e;refine⟨j1,_,rfl,_,rfl,_,rfl,_,rfl,R.re base',kv,.ref mp,a,l,m,μ,bs,bt,be,ws,rfl,⟨j2,j3,hL,⟨hB,L,hn,o1,o2,smA⟩⟩,λb G' s' nb hP=>?_⟩;exact k' b G' (.of s') ⟨M6.same0 s' j1,j2.same s',r9.same s'.t j3,j4.same s'⟩ nb hP
 . obtain⟨kp,dx,rfl,hkp⟩:=j.2.1;exact⟨kp,dx,rfl,s' _ _ (λz=>by rw[z,ha]at hkp;cases hkp) hkp⟩
 . refine⟨λu hu=>zl i u (O3 hu),?_⟩;have e:=W0 (F:=R.F) (l:=m) (ρ:=w4 R.S m bs (E5 l bt)) (ws:=(l7 R.F m (w4 R.S m bs (E5 l bt)) (gP l (L3 R.S l m bs bt be)) i).last) (ks:=(l7 R.F m (w4 R.S m bs (E5 l bt)) (gP l (L3 R.S l m bs bt be)) i).ks);have k2:=(N9 (F:=R.F) (l:=m) (ρ:=w4 R.S m bs (E5 l bt)) (g:=gP l (L3 R.S l m bs bt be)) (i+1)).len;have k2:(U7 R.F m (w4 R.S m bs (E5 l bt)) (l7 R.F m (w4 R.S m bs (E5 l bt)) (gP l (L3 R.S l m bs bt be)) i).ks (l7 R.F m (w4 R.S m bs (E5 l bt)) (gP l (L3 R.S l m bs bt be)) i).last).length<=m:=k2;show(O7 R.F m (w4 R.S m bs (E5 l bt)) (l7 R.F m (w4 R.S m bs (E5 l bt)) (gP l (L3 R.S l m bs bt be)) i).ks (l7 R.F m (w4 R.S m bs (E5 l bt)) (gP l (L3 R.S l m bs bt be)) i).last).length<=1000;omega
 . have hP:D9 R m (w4 R.S m bs (E5 l bt)) (DB R.F m (w4 R.S m bs (E5 l bt)) (gP l (L3 R.S l m bs bt be))) b H3:=hP;have hT3:=j3.2.2.2;have hk3:T6 R.C R.fs H3 kv:=j3.2.1;have hM3:=j3.2.2.1;have sD3:D8 (DT t) H1 H3:=sD.trans λc o _ e=>s3 c o (λz=>z) e;have hx:∀u∈DB R.F m (w4 R.S m bs (E5 l bt)) (gP l (L3 R.S l m bs bt be)),XB R.B m ((m+1) * (μ+m)) ((m+1) * (μ+m)) (w4 R.S m bs (E5 l bt) u):=λu hu=>(hB.row u (fd u hu).2).mono (R5 (fd u hu).1) (R5 (fd u hu).1);revert hP k' fd fl hx;generalize DB R.F m (w4 R.S m bs (E5 l bt)) (gP l (L3 R.S l m bs bt be))=ws;intro fd fl k' hP hx;have hd:=held ws fd oM;refine⟨_,rfl,_,rfl,_,rfl,R,zt kv (.ref mp) b l m μ bs bt be ws ⟨rfl,⟨hk3,hM3,hP,hd⟩,λpb H4 s4 npb hpb=>?_⟩⟩;have pl:=Lc (D:=L3 R.S l m bs bt be) (ws:=ws);have hl:AX K (.ref pb) H4 (DP (L3 R.S l m bs bt be) ws).length:=.inl ⟨_,t8.of hpb,by rw[aj]⟩;have sD4:=sD3.trans (.of s4);refine⟨_,rfl,za ⟨rfl,hl,za ⟨rfl,rfl,_,rfl,?_⟩⟩⟩;cases ep:DP (L3 R.S l m bs bt be) ws with
   | cons u Tl=>
    refine Av (λgt=>?_) (λgt=>absurd (show(0:Int) < ((u::Tl).length:Nat) by rw[bx];omega) gt);rw[ep]at hpb;refine⟨_,rfl,ze ⟨rfl,rfl,t8.of hpb,(show MK ((u::Tl).map vT) 0=some (vT u)from J2 (j:=0) rfl),(by show 2<=sizeLine;decide),λp np=>?_⟩⟩;have s5:=c7 (o:=.tup [V.str (Str.ofString "no"),vT u]) np;refine k' p .non _ ((D8.of s1).trans (sD4.trans (.of s5))) ((hT3.same s4).same s5) λws' e'=>.inr ⟨u,Tl,?_,c5⟩;rw[<- e',ep]
   | nil=>
    refine Av (λgt=>absurd gt (by simp)) (λgt=>?_);obtain⟨us,hb,eP⟩:=hP.same s4;refine⟨_,rfl,_,rfl,_,rfl,b,rfl,⟨_,t8.of hb⟩,o8 (n:=ws.length) (λj ys G=>i0 (λi u H=>j5 R m (w4 R.S m bs (E5 l bt) (ws.getD i [])) u H) ys j H4/\G=H4) oM ⟨i0.nil,rfl⟩ (λj ys H3 q=>q.1.1) ?_ ?_ ?_⟩
    . rintro j ys G hj ⟨e,rfl⟩;obtain⟨y,ey,wd,q,rv,ew,rfl,hq,ro⟩:=eP.2 j hj;refine Kh (t8.of hb) ey ?_;refine⟨q,_,rfl,o7.of hq,rfl,za ⟨rfl,za ⟨rfl,rfl,⟨[some _,some _],rfl,rfl⟩,_,rfl,e.snoc ?_,rfl⟩⟩⟩;rw[bT,ew];exact ro
    . rintro ys G ⟨e,rfl⟩;exact⟨_,t8.of hb,by rw[eP.1];exact ae _⟩
    . rintro ys G z ⟨e,rfl⟩ nz;refine G8 (o:=.lst ys) nz λH5 s5 k5=>?_;have Rc:=s4.trans s5;refine⟨R,zu kv (.ref mp) (.ref z) l m μ ws.length bs bt be (λi=>w4 R.S m bs (E5 l bt) (ws.getD i [])) ⟨rfl,⟨hk3.same Rc,r9.same Rc.t hM3,hB,L,hn,oM,⟨z,ys,rfl,k5,e.mono λ_ _ _ q=>j5.same s5.t q⟩,λi hi=>hx _ (Mine.GV hi),hS,hT3.same Rc⟩,λv H6 sD6 hT6=>?_⟩⟩;refine⟨(by show 2<=sizeLine;decide),λp np=>?_⟩;have s7:=c7 (o:=.tup [V.str (Str.ofString "yes"),v]) np;refine k' p v _ ((D8.of s1).trans (sD3.trans ((D8.of Rc).trans (sD6.trans (.of s7))))) (hT6.same s7) λws' e'=>.inl ⟨?_,c5⟩;rw[<- e',ep]
def DZ(T:Txt K mg t):o9 Pr w K mg base D2 1 t.d0a t.c0d Ql sp_divisor:=by
 refine T.b0x.F.ok X9 (by rintro _ _ _ _ ⟨_,_,rfl,_⟩;rfl) λcdv A outer s H vs Q E hr h=>?_;obtain⟨a,b,rfl,k⟩:=h;refine⟨_,(a9 (Ab aC (l4 NL (pv 1) c4 (l6 _)) (c6 (Sw (i:=0) (j:=1) rfl X9.nd rfl rfl (by decide) rfl rfl (D0 (pv 1) (l5 C4 (pv 0) (pv 1))) rfl))) (c6 (d9 (o5 Ey (by rfl) T.z_abs boot_abs (x9 (pv 0)))))),?_⟩;refine⟨λm σ H'=>∃x y,σ=[some (.int x),some (.int y)]/\m=y.natAbs/\dv x y=dv a b/\H'=H,zd ⟨rfl,rfl,rfl,rfl⟩,?_⟩;rintro m σ H' ⟨x,y,rfl,rfl,e,rfl⟩
 (repeat fail)
 refine Ro (λh0=>?_) (λh0=>?_)
 . refine⟨λσ' H''=>∃x' y',σ'=[some (.int x'),some (.int y')]/\y'.natAbs < y.natAbs/\dv x' y'=dv a b/\H''=H',λσ' H'' ⟨x',y',e1,e2,e3,e4⟩=>⟨_,e2,x',y',e1,rfl,e3,e4⟩,?_⟩;refine⟨_,rfl,_,rfl,_,rfl,za ⟨rfl,rfl,h0,za ⟨rfl,?_⟩⟩⟩;exact za ⟨rfl,IP _ _ h0,Td e,rfl⟩
 . refine⟨_,rfl,_,rfl,?_⟩
   (try dsimp only)
   rw[out2 e h0];exact k
def sp_low:Sp:=λvs H Q _=>∃a b,vs=[.int a,.int b]/\0 < b/\∀v H',h8 H H'->FQ H' v (tp a b) (bt a b)->Q v H'
def Bo(T:Txt K mg t):o9 Pr w K mg base D2 36 t.h0f t.f0g ["_law_top","_law_bottom"] sp_low:=by
 refine T.f0o.F.ok DM (by rintro _ _ _ _ ⟨_,_,rfl,_⟩;rfl) λcdv A outer s H vs Q E hr h=>?_;obtain⟨a,b,rfl,pb,k⟩:=h;have hd:dv a b≠0:=cB (Es oM);refine⟨_,(a9 (sT 2 DM.nd (C3 (DZ T) hr.m T.b0x (D0 (pv 0) (pv 1)))) (c6 (d9 (B4 (D0 (l5 (BQ hr (by decide) KN) (pv 0) (pv 2)) (l5 (BQ hr (by decide) KN) (pv 1) (pv 2))))))),?_⟩
 (repeat fail)
 refine⟨(by show 2<=sizeLine;decide),λp hp=>?_⟩;refine k _ _ (c7 hp) ?_
 (try dsimp only)
 rw[(Lr pb).1,(Lr pb).2];exact FQ.new
def KU(T:Txt K mg t)(f:∀S:SR,S.W->S.W->S.W):Sp:=λvs H Q _=>∃(R:g9 Pr w K mg base),∃nm p so x y a b m n,So T R nm p/\vs=[so,x,y]/\
 (K7 H so nm p/\R.is H x a/\R.is H y b/\R.S.sz m a/\R.S.sz n b/\Ay R.S (m+n))/\∀v H',h8 H H'->R.is H' v (f R.S a b)->Q v H'
def Ik(T:Txt K mg t):o9 Pr w K mg base D2 37 t.g0f t.d0z Rk (KU (w:=w) (base:=base) T λS=>S.add):=by
 refine T.e0l.F.ok HJ (by rintro _ _ _ _ ⟨_,_,_,_,_,_,_,_,_,_,_,rfl,_⟩;rfl) λcdv A outer s H vs Q E hr h=>?_;obtain⟨R,nm,p,so,x,y,a,b,m,n,hS,rfl,⟨rfl,hx,hy,sa,sb,hmn⟩,k⟩:=h;refine⟨_,(a9 (w8 (l4 D5 (pv 0) c4 (l6 _)) (c6 (d9 (C3 (Bo T) hr.m T.f0o (D0 (l5 E3 (l5 O1 (j8 h9 (pv 1) c4 (λ_ _=>rfl)) (j8 h9 (pv 2) c4 (λ_ _=>rfl))) (l5 O1 (j8 h9 (pv 2) c4 (λ_ _=>rfl)) (j8 h9 (pv 1) c4 (λ_ _=>rfl)))) (l5 O1 (j8 h9 (pv 1) c4 (λ_ _=>rfl)) (j8 h9 (pv 2) c4 (λ_ _=>rfl))))))) l9) (c6 (d9 (l5 C4 (l5 E3 (pv 1) (pv 2)) (pv 0))))),?_⟩;cases hS with
 | fr=>
  obtain⟨px,rfl,hx⟩:=hx;obtain⟨py,rfl,hy⟩:=hy;have sa:a.sz m:=sa;have sb:b.sz n:=sb;have hmn:=FZ hmn;refine⟨_,rfl,rfl,_,rfl,?_⟩;refine Au (decide_eq_true rfl) ?_;refine⟨_,rfl,ze ⟨rfl,rfl,o7.of hx,rfl,_,rfl,ze ⟨rfl,rfl,o7.of hy,rfl,za ⟨rfl,rfl,EX (n:=n) sa.1 sb.2 oM,_,rfl,ze ⟨rfl,rfl,o7.of hy,rfl,_,rfl,ze ⟨rfl,rfl,o7.of hx,rfl,za ⟨rfl,rfl,EX (n:=m) sb.1 sa.2 oM,za ⟨rfl,rfl,?_⟩⟩⟩⟩⟩⟩⟩⟩;refine⟨_,rfl,ze ⟨rfl,rfl,o7.of hx,rfl,_,rfl,ze ⟨rfl,rfl,o7.of hy,rfl,za ⟨rfl,rfl,EX (n:=n) sa.2 sb.2 oM,za ⟨rfl,aF a.p b.p,λv H' s' f'=>k v H' s' f'⟩⟩⟩⟩⟩
 | re p hp hq' hi=>
  cases (show x=.int a.x from hx);cases (show y=.int b.x from hy);refine⟨_,rfl,rfl,_,rfl,?_⟩;refine Ei (decide_eq_false λz=>by injection z with z;omega) ?_;refine⟨_,rfl,_,rfl,za ⟨rfl,rfl,_,rfl,za ⟨rfl,rfl,(show p≠0 by omega),?_⟩⟩⟩;exact k _ _ (h8.refl _) rfl
def Gx(T:Txt K mg t):o9 Pr w K mg base D2 37 t.f0s t.c0u Rk (KU (w:=w) (base:=base) T λS=>S.mul):=by
 refine T.c0z.F.ok Gd (by rintro _ _ _ _ ⟨_,_,_,_,_,_,_,_,_,_,_,rfl,_⟩;rfl) λcdv A outer s H vs Q E hr h=>?_;obtain⟨R,nm,p,so,x,y,a,b,m,n,hS,rfl,⟨rfl,hx,hy,sa,sb,hmn⟩,k⟩:=h;refine⟨_,(a9 (w8 (l4 D5 (pv 0) c4 (l6 _)) (c6 (d9 (C3 (Bo T) hr.m T.f0o (D0 (l5 O1 (j8 h9 (pv 1) c4 (λ_ _=>rfl)) (j8 h9 (pv 2) c4 (λ_ _=>rfl))) (l5 O1 (j8 h9 (pv 1) c4 (λ_ _=>rfl)) (j8 h9 (pv 2) c4 (λ_ _=>rfl))))))) l9) (c6 (d9 (l5 C4 (l5 CJ (pv 1) (pv 2)) (pv 0))))),?_⟩;cases hS with
 | fr=>
  obtain⟨px,rfl,hx⟩:=hx;obtain⟨py,rfl,hy⟩:=hy;have sa:a.sz m:=sa;have sb:b.sz n:=sb;have hmn:=FZ hmn;refine⟨_,rfl,rfl,_,rfl,?_⟩;refine Au (decide_eq_true rfl) ?_;refine⟨_,rfl,ze ⟨rfl,rfl,o7.of hx,rfl,_,rfl,ze ⟨rfl,rfl,o7.of hy,rfl,za ⟨rfl,rfl,EX (n:=n) sa.1 sb.1 oM,?_⟩⟩⟩⟩;refine⟨_,rfl,ze ⟨rfl,rfl,o7.of hx,rfl,_,rfl,ze ⟨rfl,rfl,o7.of hy,rfl,za ⟨rfl,rfl,EX (n:=n) sa.2 sb.2 oM,za ⟨rfl,aF a.p b.p,λv H' s' f'=>k v H' s' f'⟩⟩⟩⟩⟩
 | re p hp hq' hi=>
  cases (show x=.int a.x from hx);cases (show y=.int b.x from hy);refine⟨_,rfl,rfl,_,rfl,?_⟩;refine Ei (decide_eq_false λz=>by injection z with z;omega) ?_;have cm:MQ a.x b.x:=.inl ⟨by have:=a.h0;omega,by have:=a.h1;omega⟩;refine⟨_,rfl,_,rfl,za ⟨rfl,rfl,cm,_,rfl,za ⟨rfl,rfl,(show p≠0 by omega),?_⟩⟩⟩;exact k _ _ (h8.refl _) rfl
def Qi:Fr.add ⟨-1,1,by decide,by unfold dv;rw[Int.gcd_one_right];rfl⟩ Fr.one=Fr.zero:=Fr.eq_of dK dK
def LU(T:Txt K mg t):Sp:=λvs H Q _=>∃(R:g9 Pr w K mg base),∃nm p so,∃(n:Int),So T R nm p/\vs=[so,.int n]/\(K7 H so nm p/\-1<=n/\n<=1)/\∀v H' x,h8 H H'->R.is H' v x->(n=0->x=R.S.zero)->(n=1->x=R.S.one)->(n≠0->x≠R.S.zero)->(n = -1->R.S.add x R.S.one=R.S.zero)->R.S.sz 0 x->Q v H'
def Q1(T:Txt K mg t):o9 Pr w K mg base D2 1 t.h0s t.g0t Qm (LU (w:=w) (base:=base) T):=by
 refine T.g0n.F.ok Mc (by rintro _ _ _ _ ⟨_,_,_,_,_,_,rfl,_⟩;rfl) λcdv A outer s H vs Q E hr h=>?_;obtain⟨R,nm,p,so,n,hS,rfl,⟨rfl,n0,n1⟩,k⟩:=h;refine⟨_,(a9 (w8 (l4 D5 (pv 0) c4 (l6 _)) (c6 (d9 (B4 (D0 (pv 1) c4)))) l9) (c6 (d9 (l5 C4 (pv 1) (pv 0))))),?_⟩;cases hS with
 | fr=>
  refine⟨_,rfl,rfl,_,rfl,?_⟩;refine Au (decide_eq_true rfl) ?_;refine⟨_,rfl,(by show 2<=sizeLine;decide),λp1 np=>?_⟩;refine k _ _ (⟨n,1,by decide,by unfold dv;rw[Int.gcd_one_right];rfl⟩:Fr) (c7 np) FQ.new (λe=>Fr.eq_of e rfl) (λe=>Fr.eq_of e rfl) (λne e=>ne (Fr_z e)) (λe=>by subst e;exact Qi) ⟨?_,by show(1:Int).natAbs<=2 ^ 0;decide⟩;show n.natAbs<=2 ^ 0;rw[Nat.pow_zero];omega
 | re p hp hq' hi=>
  refine⟨_,rfl,rfl,_,rfl,?_⟩;refine Ei (decide_eq_false λz=>by injection z with z;omega) ?_;refine⟨_,rfl,_,rfl,za ⟨rfl,rfl,(show p≠0 by omega),?_⟩⟩;refine k _ _ (Re.of p oM n) (h8.refl _) rfl (λe=>?_) (λe=>?_) (λne e=>?_) (λe=>?_) trivial
  . subst e;exact Re.eq_of (by show(0:Int).fmod p=0;exact CF oM oM)
  . subst e;exact Re.eq_of (by show(1:Int).fmod p=1;exact CF oM oM)
  . have e:n.fmod p=0:=congrArg Re.x e;rcases(by omega:n=1\/n = -1)with rfl | rfl
    . rw[CF oM oM]at e;omega
    . rw[dq _ oM]at e;have h3:p ∣ 1:=Int.dvd_neg.mp (Int.dvd_of_emod_eq_zero e);have:=Int.le_of_dvd (by decide) h3;omega
  . subst e;refine Re.eq_of ?_;show((-1:Int).fmod p+1).fmod p=0;have h1:(-1:Int).fmod p=p - 1:=by
     have h2:=br (-1) (show 0 < p by omega);have h3:=bu (-1) (show 0 < p by omega);have h4:=Int.fmod_add_mul_fdiv (-1) p;have h5:((-1:Int).fdiv p) = -1:=by
      rcases Int.lt_trichotomy ((-1:Int).fdiv p) (-1)with q | q | q
      . have:p * (-1:Int).fdiv p<=p * (-2):=Int.mul_le_mul_of_nonneg_left oM oM;omega
      . exact q
      . have:p * 0<=p * (-1:Int).fdiv p:=Int.mul_le_mul_of_nonneg_left oM oM;omega
     rw[h5]at h4;omega
    rw[h1,show p - 1+1=p by omega,Int.fmod_self]
def p13':Hs 13=true:=p13
def Zc{r:Int}(h0:0<=r)(h1:r < 9):∃p:Int,MK ([2,3,5,7,11,13,101,65537,999983].map V.int) r=some (V.int p)/\2<=p/\p<=1000000/\Hs p=true:=by
 rcases(by omega:r=0\/r=1\/r=2\/r=3\/r=4\/r=5\/r=6\/r=7\/r=8)with rfl | rfl | rfl | rfl | rfl | rfl | rfl | rfl | rfl
 . exact⟨2,rfl,by decide,by decide,p2⟩
 . exact⟨3,rfl,by decide,by decide,p3⟩
 . exact⟨5,rfl,by decide,by decide,p5⟩
 . exact⟨7,rfl,by decide,by decide,p7⟩
 . exact⟨11,rfl,by decide,by decide,p11⟩
 . exact⟨13,rfl,by decide,by decide,p13'⟩
 . exact⟨101,rfl,by decide,by decide,p101⟩
 . exact⟨65537,rfl,by decide,by decide,SB⟩
 . exact⟨999983,rfl,by decide,by decide,Qe⟩
def Pj(T:Txt K mg t):Sp:=λvs H Q _=>∃(a:Addr),vs=[.ref a]/\Dr H a/\∀(R:g9 Pr w K mg base) nm p v H',So T R nm p->K7 H' v nm p->i3 a H H'->Dr H' a->Q v H'
def Ij(T:Txt K mg t):o9 Pr w K mg base D2 2 t.g0y t.e0i ["_law_state_here"] (Pj (w:=w) (base:=base) T):=by
 refine T.d0u.F.ok CZ (by rintro _ _ _ _ ⟨_,rfl,_⟩;rfl) λcdv A outer s H vs Q E hr h=>?_;obtain⟨a,rfl,hD,k⟩:=h;refine⟨_,(a9 (sT 1 CZ.nd (j8 D1 (D4 (E2 c4 (E2 c4 (E2 c4 (E2 c4 (E2 c4 (Jk c4 c4 c4 c4))))))) (C3 (l8 T) hr.m T.e0g (D0 (pv 0) c4)) (λ_ _=>rfl))) (c6 (d9 (j8 D1 (D4 (W8 c4 (pv 1) (pv 1))) (C3 (l8 T) hr.m T.e0g (D0 (pv 0) c4)) (λ_ _=>rfl))))),?_⟩;refine⟨(by show 9<=sizeLine;decide),λp1 n1=>?_⟩;have t1:=c7 (o:=.lst [V.int 2,V.int 3,V.int 5,V.int 7,V.int 11,V.int 13,V.int 101,V.int 65537,V.int 999983]) n1;have k1:upd H p1 (.lst [V.int 2,V.int 3,V.int 5,V.int 7,V.int 11,V.int 13,V.int 101,V.int 65537,V.int 999983]) p1=some (.lst [V.int 2,V.int 3,V.int 5,V.int 7,V.int 11,V.int 13,V.int 101,V.int 65537,V.int 999983]):=c5;have b1:p1≠a:=NU hD n1;revert t1 k1;generalize upd H p1 (.lst [V.int 2,V.int 3,V.int 5,V.int 7,V.int 11,V.int 13,V.int 101,V.int 65537,V.int 999983])=H1;intro t1 k1;have d1:=hD.same t1;refine⟨_,rfl,a,9,rfl,⟨d1,by decide,by decide⟩,λr2 H2 s2 d2 a2 b2=>?_⟩;obtain⟨p,ep,p2,p3,p4⟩:=Zc a2 b2;refine ze ⟨rfl,rfl,t8.of (s2 _ _ b1 k1),ep,?_⟩;refine⟨_,rfl,_,rfl,(by show 3<=sizeLine;decide),λp5 n5=>?_⟩;have t5:=c7 (o:=.lst [V.int 0,V.int p,V.int p]) n5;have k5:=c5 (H:=H2) (a:=p5) (o:=.lst [V.int 0,V.int p,V.int p]);have b5:p5≠a:=NU d2 n5;revert t5 k5;generalize upd H2 p5 (.lst [V.int 0,V.int p,V.int p])=H5;intro t5 k5;refine⟨_,rfl,a,3,rfl,⟨d2.same t5,by decide,by decide⟩,λr6 H6 s6 d6 a6 b6=>?_⟩;have sA:i3 a H H6:=((i3.of t1).trans s2).trans ((i3.of t5).trans s6);rcases(by omega:r6=0\/r6=1\/r6=2)with rfl | rfl | rfl
 . exact ze ⟨rfl,rfl,t8.of (s6 _ _ b5 k5),rfl,k _ _ _ _ _ .fr rfl sA d6⟩
 . exact ze ⟨rfl,rfl,t8.of (s6 _ _ b5 k5),rfl,k _ _ _ _ _ (.re p p2 p3 p4) rfl sA d6⟩
 . exact ze ⟨rfl,rfl,t8.of (s6 _ _ b5 k5),rfl,k _ _ _ _ _ (.re p p2 p3 p4) rfl sA d6⟩
def Pp(T:Txt K mg t):Sp:=λvs H Q _=>∃(R:g9 Pr w K mg base),∃nm p so,So T R nm p/\vs=[so]/\K7 H so nm p/\∀v H',h8 H H'->T6 R.C R.fs H' v->Q v H'
def Il(T:Txt K mg t):o9 Pr w K mg base D2 4 t.g0s t.e0v ["_law_sort_here"] (Pp (w:=w) (base:=base) T):=by
 refine T.d0w.F.ok HK (by rintro _ _ _ _ ⟨_,_,_,_,_,rfl,_⟩;rfl) λcdv A outer s H vs Q E hr h=>?_;obtain⟨R,nm,p,so,hS,rfl,rfl,k⟩:=h;refine⟨_,(a9 (w8 (l4 D5 (pv 0) c4 (l6 _)) (c6 (d9 (NF T.d0o rfl T.d0q))) l9) (c6 (d9 (PZ T.e0k (Aj T) hr.m rfl T.e0j T.a0f.b .nil B0 (x9 (pv 0)))))),?_⟩;cases hS with
 | fr=>
  refine⟨_,rfl,rfl,_,rfl,?_⟩;refine Au (decide_eq_true rfl) ?_;intro x dx nx ndx nex;exact k _ _ (Fy nx ndx) ⟨x,dx,rfl,c5⟩
 | re p hp hq' hi=>
  refine⟨_,rfl,rfl,_,rfl,?_⟩;refine Ei (decide_eq_false λz=>by injection z with z;omega) ?_;refine⟨_,rfl,λx dx nx ndx nex=>?_⟩;refine⟨x,dx,p,rfl,⟨hp,hq',hi⟩,c5,?_⟩;refine⟨rfl,k _ _ (λb o e=>?_) ⟨x,dx,rfl,c5⟩⟩;rw[j6 (j0 e nx)];exact Fy nx ndx b o e
def Jw(T:Txt K mg t):Sp:=λvs H Q _=>∃(R:g9 Pr w K mg base),∃nm p,∃(a:Addr),∃so,So T R nm p/\vs=[.ref a,so]/\(Dr H a/\K7 H so nm p)/\∀v H' x,i3 a H H'->Dr H' a->R.is H' v x->R.B.cb 12 48 x->Q v H'
def O2(T:Txt K mg t):o9 Pr w K mg base D2 37 t.e0q t.c0n Qn (Jw (w:=w) (base:=base) T):=by
 refine T.c0j.F.ok EK (by rintro _ _ _ _ ⟨_,_,_,_,_,_,rfl,_⟩;rfl) λcdv A outer s H vs Q E hr h=>?_;obtain⟨R,nm,p,a,so,hS,rfl,⟨hD,rfl⟩,k⟩:=h;refine⟨_,(a9 (w8 (l4 D5 (C3 (l8 T) hr.m T.e0g (D0 (pv 0) c4)) c4 (l6 _)) (c6 (d9 (C3 (Q1 T) hr.m T.g0n (D0 (pv 1) c4)))) l9) (a9 (w8 (l4 D5 (pv 1) c4 (l6 _)) (c6 (d9 (C3 (Bo T) hr.m T.f0o (D0 (l5 CI (C3 (l8 T) hr.m T.e0g (D0 (pv 0) c4)) c4) (l5 E3 c4 (C3 (l8 T) hr.m T.e0g (D0 (pv 0) c4))))))) l9) (c6 (d9 (C3 (l8 T) hr.m T.e0g (D0 (pv 0) (pv 1))))))),?_⟩;refine⟨_,rfl,a,4,rfl,⟨hD,by decide,by decide⟩,λr0 H0 s0 d0 a0 b0=>⟨rfl,_,rfl,?_⟩⟩;refine X4 (λ_=>?_) (λ_=>?_)
 . refine⟨_,rfl,R,zi nm p _ 0 ⟨hS,rfl,⟨rfl,by decide,by decide⟩,λv H' x s' f' _ _ _ _ z=>?_⟩⟩;exact k v H' x (s0.trans (.of s')) (d0.same s') f' (R.B.dr _ (R.S.sz_mono _ _ _ (by decide) z))
 . cases hS with
   | fr=>
    refine⟨_,rfl,rfl,_,rfl,?_⟩;refine Au (decide_eq_true rfl) ?_;refine⟨_,rfl,a,9,rfl,⟨d0,by decide,by decide⟩,λr2 H2 s2 d2 a2 b2=>?_⟩;refine za ⟨rfl,rfl,_,rfl,a,3,rfl,⟨d2,by decide,by decide⟩,λr3 H3 s3 d3 a3 b3=>?_⟩;refine za ⟨rfl,rfl,za ⟨rfl,(show(0:Int) < 1+r3 by omega),λv H4 s4 f4=>?_⟩⟩;have e:(2:Nat) ^ 2=4:=rfl;exact k v H4 (Fr.of _ _ (show(0:Int) < 1+r3 by omega)) (((s0.trans s2).trans s3).trans (.of s4)) (d3.same s4) f4 (ZE.dr _ (NO (by rw[e];omega) (by rw[e];omega)))
   | re p hp hq' hi=>
    refine⟨_,rfl,rfl,_,rfl,?_⟩;refine Ei (decide_eq_false λz=>by injection z with z;omega) ?_;refine⟨_,rfl,_,rfl,a,_,rfl,⟨d0,oM,oM⟩,λr2 H2 s2 d2 a2 b2=>?_⟩;exact k _ _ ⟨r2,a2,b2⟩ (s0.trans s2) d2 rfl trivial
def QL{α:Type}(d:α){P:Nat->α->V->Hp->Prop}{us:List V}{n:Nat}{H:Hp}(h:i0 (λi u H=>∃x,P i x u H) us n H):∃f:Nat->α,i0 (λi u H=>P i (f i) u H) us n H:=by
 have h2:∀i,∃x,i < n->∃u,us[i]? = some u/\P i x u H:=λi=>by
  by_cases hi:i < n
  . obtain⟨u,e,x,p⟩:=h.2 i hi;exact⟨x,λ_=>⟨u,e,p⟩⟩
  . exact⟨d,λz=>absurd z hi⟩
 exact⟨λi=>(h2 i).choose,h.1,λj hj=>(h2 j).choose_spec hj⟩
def Jr{α:Type}(d:α){P:Nat->α->V->Hp->Prop}{v:V}{n:Nat}{H:Hp}(h:K0 (λi u H=>∃x,P i x u H) n v H):∃f:Nat->α,K0 (λi u H=>P i (f i) u H) n v H:=by
 obtain⟨p,vs,rfl,hp,e⟩:=h;obtain⟨f,hf⟩:=QL d e;exact⟨f,p,vs,rfl,hp,hf⟩
def FR{P:Nat->V->Hp->Prop}{Z:Nat->Prop}{v:V}{n:Nat}{H:Hp}(h:K0 P n v H)(g:∀i u,P i u H->Z i):∀i,i < n->Z i:=λi hi=>by
 obtain⟨p,vs,rfl,hp,e⟩:=h;obtain⟨u,_,q⟩:=e.2 i hi;exact g i u q
abbrev K9(R:g9 Pr w K mg base)(b m n:Nat):V->Hp->Prop:=K0 (λ_ u H=>∃x,R.is H u x/\R.B.cb b m x) n
theorem K9.same{R:g9 Pr w K mg base}{b m n:Nat}{v:V}{H H':Hp}(s:w9 H H')(h:K9 R b m n v H):K9 R b m n v H':=h.mono s λ_ _ _ ⟨x,q,z⟩=>⟨x,R.same s q,z⟩
def K9.ch{R:g9 Pr w K mg base}{b m n:Nat}{v:V}{H:Hp}(h:K9 R b m n v H):∃x,j5 R n x v H/\∀i,i < n->R.B.cb b m (x i):=by
 obtain⟨f,hf⟩:=Jr R.S.zero h;exact⟨f,hf.mono (w9.refl _) λ_ _ _ q=>q.1,FR hf λi u q=>q.2⟩
abbrev P1(R:g9 Pr w K mg base)(b m n:Nat):V->Hp->Prop:=K0 (λ_ u H=>K9 R b m n u H) n
theorem P1.same{R:g9 Pr w K mg base}{b m n:Nat}{v:V}{H H':Hp}(s:w9 H H')(h:P1 R b m n v H):P1 R b m n v H':=h.mono s λ_ _ _ q=>K9.same s q
theorem P1.ch{R:g9 Pr w K mg base}{b m n:Nat}{v:V}{H:Hp}(h:P1 R b m n v H):∃A,D7 R n n A v H/\∀i,i < n->∀j,j < n->R.B.cb b m (A i j):=by
 have h2:K0 (λ_ u H=>∃x,j5 R n x u H/\∀i,i < n->R.B.cb b m (x i)) n v H:=h.mono (w9.refl _) λ_ _ _ q=>K9.ch q;obtain⟨f,hf⟩:=Jr (λ_=>R.S.zero) h2;exact⟨f,hf.mono (w9.refl _) λ_ _ _ q=>q.1,FR hf λi u q=>q.2⟩
theorem TabsE.ch{R:g9 Pr w K mg base}{b m n k:Nat}{v:V}{H:Hp}(h:K0 (λ_ u H=>P1 R b m n u H) k v H):∃A,EA R k n A v H/\∀a,a < k->∀i,i < n->∀j,j < n->R.B.cb b m (A a i j):=by
 have h2:K0 (λ_ u H=>∃x,D7 R n n x u H/\∀i,i < n->∀j,j < n->R.B.cb b m (x i j)) k v H:=h.mono (w9.refl _) λ_ _ _ q=>P1.ch q;obtain⟨f,hf⟩:=Jr (λ_ _=>R.S.zero) h2;exact⟨f,hf.mono (w9.refl _) λ_ _ _ q=>q.1,FR hf λi u q=>q.2⟩
structure MC(R:g9 Pr w K mg base)(b m n k:Nat)(st:Nat->R.S.W)(tb:Nat->Nat->Nat->R.S.W)(en:Nat->R.S.W):Prop where
 st:∀i,i < n->R.B.cb b m (st i)
 tb:∀a,a < k->∀i,i < n->∀j,j < n->R.B.cb b m (tb a i j)
 en:∀i,i < n->R.B.cb b m (en i)
def MC.mb{R:g9 Pr w K mg base}{b m n k μ:Nat}{st:Nat->R.S.W}{tb:Nat->Nat->Nat->R.S.W}{en:Nat->R.S.W}(h:MC R b m n k st tb en)(b0:0 < b)(b1:b<=2 ^ μ)(m1:m<=2 ^ μ):MB R.B n k μ st tb en:=
 ⟨⟨b,b0,b1,λj hj=>R.B.mono _ _ _ _ m1 (h.st j hj)⟩,λa ha=>⟨b,b0,b1,λi hi j hj=>R.B.mono _ _ _ _ m1 (h.tb a ha i hi j hj)⟩,⟨b,b0,b1,λj hj=>R.B.mono _ _ _ _ m1 (h.en j hj)⟩⟩
theorem MC.up{R:g9 Pr w K mg base}{b m n k:Nat}{st:Nat->R.S.W}{tb:Nat->Nat->Nat->R.S.W}{en:Nat->R.S.W}(c:Nat)(c0:0 < c)(h:MC R b m n k st tb en):MC R (b * c) (m * c) n k st tb en:=
 ⟨λi hi=>R.B.up _ _ c _ c0 (h.st i hi),λa ha i hi j hj=>R.B.up _ _ c _ c0 (h.tb a ha i hi j hj),λi hi=>R.B.up _ _ c _ c0 (h.en i hi)⟩
theorem MC.mono{R:g9 Pr w K mg base}{b m m' n k:Nat}{st:Nat->R.S.W}{tb:Nat->Nat->Nat->R.S.W}{en:Nat->R.S.W}(h:MC R b m n k st tb en)(e:m<=m'):MC R b m' n k st tb en:=
 ⟨λi hi=>R.B.mono _ _ _ _ e (h.st i hi),λa ha i hi j hj=>R.B.mono _ _ _ _ e (h.tb a ha i hi j hj),λi hi=>R.B.mono _ _ _ _ e (h.en i hi)⟩
def Dr.ne{H:Hp}{a p:Addr}(d:Dr H a)(n:H p=none):p≠a:=NU d n
def HE(T:Txt K mg t):Sp:=λvs H Q _=>∃(R:g9 Pr w K mg base),∃nm p,∃(a:Addr),∃so l,∃(n:Nat),∃(z:Int),So T R nm p/\vs=[.ref a,so,vT l,.int z]/\(Dr H a/\K7 H so nm p/\W5 l/\n<=60/\z=n)/\∀v H' st tb en,i3 a H H'->Dr H' a->r9 R l n st tb en v H'->MC R 12 48 n l.length st tb en->Q v H'
def M0(T:Txt K mg t):o9 Pr w K mg base D2 40 t.d0c t.b0w Uj (HE (w:=w) (base:=base) T):=by
 refine T.c0c.F.ok D3 (by rintro _ _ _ _ ⟨_,_,_,_,_,_,_,_,_,rfl,_⟩;rfl) λcdv A outer s H vs Q E hr h=>?_;obtain⟨R,nm,p,a,so,l,n,z,hS,rfl,⟨hD,hso,L,hn,rfl⟩,k⟩:=h;have l3:=L.h3;have z20:1000 < sizeLine:=by decide
 refine⟨_,(a9 (sT 4 D3.nd (j7 g6 (by rfl) T.z_tuple boot_tuple (x9 (Lg 8 "#1" (w5 (xs:=["_law_k"]) rfl (show p9 Zl (b9 E8) _ from⟨rfl,dK,dK,dK,dK,dK⟩) (x5 rfl T.z_range (x9 (pv 3))) (λ_ _ _ _ _=>(j9 (i:=9) (by show List.Nodup (n9N);decide +kernel) rfl (Or.inl rfl))) (λ_ _ _ _ _=>(B9 (O2 (w:=w) (base:=base) T) hr.m rfl T.c0j.m T.c0j.F.kp T.c0j.b .nil B0 (D0 (pv 0) (pv 1))))))))) (a9 (sT 5 D3.nd (D4 F0)) (a9 (G0 aC rfl (Sz (pv 2)) (gN 6 D3.nd) (a9 (sT 7 D3.nd (D4 F0)) (a9 (G0 aC rfl (x5 rfl T.z_range (x9 (pv 3))) (gN 8 D3.nd) (c6 (E1 (U6 bg bI bJ J1 (pv 7) (x9 (j7 g6 (by rfl) T.z_tuple boot_tuple (x9 (w5 (xs:=["_law_j"]) rfl (show p9 Zn (b9 E8) _ from⟨rfl,dK,dK,dK,dK,dK⟩) (x5 rfl T.z_range (x9 (pv 3))) (λ_ _ _ _ _=>(j9 (i:=9) (by show List.Nodup (["_law_state_here","_law_sort_here","_law_letters_here","_law_many","_law_start","_law_tables","_law_letter","_law_table","_law_k","_law_j"]:List Str);decide +kernel) rfl (Or.inl rfl))) (λ_ _ _ _ _=>(B9 (O2 (w:=w) (base:=base) T) hr.m rfl T.c0j.m T.c0j.F.kp T.c0j.b .nil B0 (D0 (pv 0) (pv 1)))))))))))) (c6 (E1 (U6 bg bI bJ J1 (pv 5) (x9 (j7 g6 (by rfl) T.z_tuple boot_tuple (x9 (pv 7)))))))))) (c6 (Me 8 (d9 (B4 (Jk (pv 2) (pv 4) (j7 g6 (by rfl) T.z_tuple boot_tuple (x9 (pv 5))) (j7 g6 (by rfl) T.z_tuple boot_tuple (x9 (Lg 8 "#1" (w5 (xs:=["_law_k"]) rfl (show p9 Zl (b9 E8) _ from⟨rfl,dK,dK,dK,dK,dK⟩) (x5 rfl T.z_range (x9 (pv 3))) (λ_ _ _ _ _=>(j9 (i:=9) (by show List.Nodup (n9N);decide +kernel) rfl (Or.inl rfl))) (λ_ _ _ _ _=>(B9 (O2 (w:=w) (base:=base) T) hr.m rfl T.c0j.m T.c0j.F.kp T.c0j.b .nil B0 (D0 (pv 0) (pv 1)))))))))))))))),?_⟩;refine⟨rfl,_,rfl,_,rfl,oM,oM,o8 (n:=n) (λj ys H2=>i3 a H H2/\Dr H2 a/\i0 (λ_ u H=>∃x,R.is H u x/\R.B.cb 12 48 x) ys j H2) oM ⟨i3.refl _ _,hD,i0.nil⟩ (λj ys H2 q=>q.2.2.1) ?_ ?_ ?_⟩
 . rintro j ys H2 hj ⟨q,d2,e2⟩;refine Ej (by omega) ?_;refine⟨⟨[some _],rfl,rfl⟩,_,rfl,_,rfl,R,zi nm p a so ⟨hS,rfl,⟨d2,hso.same (q.tt hD)⟩,λv H3 x s3 d3 iv cv=>?_⟩⟩;exact⟨q.trans s3,d3,(e2.mono λ_ _ _ ⟨x,z1,z2⟩=>⟨x,R.same (s3.tt d2) z1,z2⟩).snoc ⟨x,iv,cv⟩⟩
 . rintro ys H2 ⟨q,d2,e2⟩;show(n:Int).toNat<=n;omega
 rintro ys0 H0 l0 ⟨q0,d0,e0⟩ nl0;have t1:=c7 (o:=.lst ys0) nl0;refine⟨l0,_,rfl,.inl ⟨t8.of c5,λsp nsp=>?_⟩⟩;have t2:=t1.trans (c7 (o:=.tup ys0) nsp);have r1:K9 R 12 48 n (.ref sp) (upd (upd H0 l0 (.lst ys0)) sp (.tup ys0)):=⟨sp,ys0,rfl,c5,e0.mono λ_ _ _ ⟨x,z1,z2⟩=>⟨x,R.same t2.t z1,z2⟩⟩;have s1:i3 a H (upd (upd H0 l0 (.lst ys0)) sp (.tup ys0)):=q0.trans (.of t2);have d1:=d0.same t2;clear t1 t2 nl0 nsp;revert r1 s1 d1;generalize upd (upd H0 l0 (.lst ys0)) sp (.tup ys0)=H1;intro r1 s1 d1;refine⟨aK _,λtp ntp=>?_⟩;have s2:=c7 (o:=.lst []) ntp;have k2:=c5 (H:=H1) (a:=tp) (o:=.lst []);have d2:=d1.same s2;have na:tp≠a:=d1.ne ntp;revert s2 k2 d2;generalize upd H1 tp (.lst [])=H2;intro s2 k2 d2;refine⟨_,rfl,_,rfl,L.asc,Ks (n:=l.length) (λi σ H3=>∃v6 v7 v8 ys,σ=[some (.ref a),some so,some (vT l),some (.int n),some (.ref sp),some (.ref tp),v6,v7,v8]/\i3 a H1 H3/\Dr H3 a/\H3 tp=some (.lst ys)/\
  i0 (λ_ u H=>P1 R 12 48 n u H) ys i H3) ⟨_,_,_,[],rfl,.of s2,d2,k2,i0.nil⟩ ?_ ?_⟩
 . rintro i σ H3 hi ⟨v6,v7,v8,ys,rfl,s3,d3,k3,e3⟩;refine⟨(by show i < l.toArray.size;simpa using hi),λy G3 hy=>?_⟩;obtain⟨rfl,c,hc,rfl⟩:=hy;refine⟨aK _,λbp nbp=>?_⟩;have s4:=c7 (o:=.lst []) nbp;have k4:=c5 (H:=G3) (a:=bp) (o:=.lst []);have d4:=d3.same s4;have nb:bp≠a:=d3.ne nbp;have nt:tp≠bp:=λz=>by rw[z,nbp]at k3;cases k3
   revert s4 k4 d4;generalize upd G3 bp (.lst [])=H4;intro s4 k4 d4;refine⟨_,rfl,_,rfl,oM,oM,Ks (n:=n) (λj σ H5=>∃v8 zs,σ=[some (.ref a),some so,some (vT l),some (.int n),some (.ref sp),some (.ref tp),some (.str ⟨#[c]⟩),some (.ref bp),v8]/\i3 a G3 H5/\Dr H5 a/\H5 bp=some (.lst zs)/\
    i0 (λ_ u H=>K9 R 12 48 n u H) zs j H5) ⟨_,[],rfl,.of s4,d4,k4,i0.nil⟩ ?_ ?_⟩
   . rintro j σ H5 hj ⟨v8,zs,rfl,s5,d5,k5,e5⟩;refine⟨(show j < (n:Int).toNat by omega),λy G5 hy=>?_⟩;obtain⟨rfl,rfl⟩:=hy;refine⟨_,rfl,.inl ⟨rfl,_,t8.of k5⟩,?_⟩;refine⟨_,rfl,_,rfl,oM,oM,o8 (n:=n) (λj ys H2=>i3 a G5 H2/\Dr H2 a/\i0 (λ_ u H=>∃x,R.is H u x/\R.B.cb 12 48 x) ys j H2) oM ⟨i3.refl _ _,d5,i0.nil⟩ (λj ys H2 q=>q.2.2.1) ?_ ?_ ?_⟩
     . rintro j' ys' H2 hj' ⟨q,d2,e2⟩;refine Ej (by omega) ?_;have u1:=((((s1.trans s3).trans s5).trans q).tt hD);refine⟨⟨[some _],rfl,rfl⟩,_,rfl,_,rfl,R,zi nm p a so ⟨hS,rfl,⟨d2,hso.same u1⟩,λv H3 x s3 d3 iv cv=>?_⟩⟩;exact⟨q.trans s3,d3,(e2.mono λ_ _ _ ⟨x,z1,z2⟩=>⟨x,R.same (s3.tt d2) z1,z2⟩).snoc ⟨x,iv,cv⟩⟩
     . rintro ys' H2 ⟨q,d2,e2⟩;show(n:Int).toNat<=n;omega
     . rintro ys' H6 lp ⟨s6,d6,e6⟩ nl;have t1:=c7 (o:=.lst ys') nl;refine⟨lp,_,rfl,.inl ⟨t8.of c5,λl2 n2=>?_⟩⟩;have t2:=c7 (o:=.tup ys') n2;have t12:=t1.trans t2;have k6:=t12 _ _ (s6 bp _ nb k5);have hr6:K9 R 12 48 n (.ref l2) (upd (upd H6 lp (.lst ys')) l2 (.tup ys')):=⟨l2,ys',rfl,c5,e6.mono λ_ _ _ ⟨x,z1,z2⟩=>⟨x,R.same t12.t z1,z2⟩⟩;have d6':=d6.same t12;have s6':i3 a G5 (upd (upd H6 lp (.lst ys')) l2 (.tup ys')):=s6.trans (.of t12);clear t1 t2 t12 nl n2;revert k6 hr6 d6' s6';generalize upd (upd H6 lp (.lst ys')) l2 (.tup ys')=H7;intro k6 hr6 d6' s6';refine⟨bp,zs,_,rfl,rfl,k6,(by rw[e5.1];omega),?_⟩;have nx:=y9 (o:=.lst (zs++[.ref l2])) k6;refine⟨_,zs++[.ref l2],rfl,λc' o nc hc'=>?_,?_,c5,(e5.mono λ_ _ _ h=>K9.same nx (K9.same (s6'.tt d5) h)).snoc (K9.same nx hr6)⟩
       . rw[j6 (j0 hc' nbp)];exact s6' c' o nc (s5 c' o nc hc')
       . exact d6'.put nb
   . rintro σ H5 ⟨v8,zs,rfl,s5,d5,k5,e5⟩;refine⟨(by show(n:Int).toNat<=n;omega),?_⟩;have k5t:=s5 tp _ na k3;refine⟨_,rfl,.inl ⟨rfl,_,t8.of k5t⟩,_,rfl,bp,zs,rfl,.inl ⟨t8.of k5,λl2 n2=>?_⟩⟩;have t2:=c7 (o:=.tup zs) n2;have k6:=t2 _ _ k5t;have ht6:P1 R 12 48 n (.ref l2) (upd H5 l2 (.tup zs)):=⟨l2,zs,rfl,c5,e5.mono λ_ _ _ q=>K9.same t2.t q⟩;have d6:=d5.same t2;have s6:i3 a G3 (upd H5 l2 (.tup zs)):=s5.trans (.of t2);clear t2 n2;revert k6 ht6 d6 s6;generalize upd H5 l2 (.tup zs)=H7;intro k6 ht6 d6 s6;refine⟨tp,ys,_,rfl,rfl,k6,(by rw[e3.1];omega),?_⟩;have nx:=y9 (o:=.lst (ys++[.ref l2])) k6;refine zd ⟨ys++[.ref l2],rfl,λc' o nc hc'=>?_,?_,c5,(e3.mono λ_ _ _ h=>P1.same nx (P1.same (s6.tt d3) h)).snoc (P1.same nx ht6)⟩
     . rw[j6 (j0 hc' ntp)];exact s6 c' o nc (s3 c' o nc hc')
     . exact d6.put na
 . rintro σ H3 ⟨v6,v7,v8,ys,rfl,s3,d3,k3,e3⟩;refine⟨(by show l.toArray.size<=_;simp),?_⟩;refine⟨_,rfl,_,rfl,_,rfl,tp,ys,rfl,.inl ⟨t8.of k3,λl2 n2=>?_⟩⟩;have t1:=c7 (o:=.tup ys) n2;have ht:K0 (λ_ u H=>P1 R 12 48 n u H) l.length (.ref l2) (upd H3 l2 (.tup ys)):=⟨l2,ys,rfl,c5,e3.mono λ_ _ _ q=>P1.same t1.t q⟩;have d4:=d3.same t1;have s4:i3 a H1 (upd H3 l2 (.tup ys)):=s3.trans (.of t1);clear t1 n2;revert ht d4 s4;generalize upd H3 l2 (.tup ys)=H4;intro ht d4 s4;refine⟨rfl,_,rfl,_,rfl,oM,oM,o8 (n:=n) (λj ys H2=>i3 a H4 H2/\Dr H2 a/\i0 (λ_ u H=>∃x,R.is H u x/\R.B.cb 12 48 x) ys j H2) oM ⟨i3.refl _ _,d4,i0.nil⟩ (λj ys H2 q=>q.2.2.1) ?_ ?_ ?_⟩
   . rintro j' ys' H2 hj' ⟨q,d2,e2⟩;refine Ej (by omega) ?_;refine⟨⟨[some _],rfl,rfl⟩,_,rfl,_,rfl,R,zi nm p a so ⟨hS,rfl,⟨d2,hso.same (((s1.trans s4).trans q).tt hD)⟩,λv H3 x s3 d3 iv cv=>?_⟩⟩;exact⟨q.trans s3,d3,(e2.mono λ_ _ _ ⟨x,z1,z2⟩=>⟨x,R.same (s3.tt d2) z1,z2⟩).snoc ⟨x,iv,cv⟩⟩
   . rintro ys' H2 ⟨q,d2,e2⟩;show(n:Int).toNat<=n;omega
   . rintro ys' H5 lp ⟨s5,d5,e5⟩ nl;have t1:=c7 (o:=.lst ys') nl;refine⟨lp,_,rfl,.inl ⟨t8.of c5,λl3 n3=>?_⟩⟩;have t2:=t1.trans (c7 (o:=.tup ys') n3);have re:K9 R 12 48 n (.ref l3) (upd (upd H5 lp (.lst ys')) l3 (.tup ys')):=⟨l3,ys',rfl,c5,e5.mono λ_ _ _ ⟨x,z1,z2⟩=>⟨x,R.same t2.t z1,z2⟩⟩;refine⟨(by show 4<=sizeLine;decide),λp6 n6=>?_⟩;have t7:=c7 (o:=.tup [vT l,.ref sp,.ref l2,.ref l3]) n6;have t6:=t2.trans t7;have u5:w9 H4 _:=(s5.tt d4).trans t6.t;obtain⟨st,q1,c1⟩:=K9.ch ((r1.same (s4.tt d1)).same u5);obtain⟨en,q3,c3⟩:=K9.ch (re.same t7.t);obtain⟨tb,q2,c2⟩:=TabsE.ch (ht.mono u5 λ_ _ _ q=>P1.same u5 q);exact k _ _ st tb en (((s1.trans s4).trans s5).trans (.of t6)) (d5.same t6) ⟨p6,_,_,_,rfl,c5,q1,q2,q3⟩ ⟨c1,c2,c3⟩
def jn(sep:List Nat):List (List Nat)->List Nat
 | []=>[]
 | [p]=>p
 | p::q::r=>p++sep++jn sep (q::r)
theorem FI(sep:List Nat):∀(ls:List (List Nat)) (acc:List Nat),(ls.map tx).foldl (λa p=>a++(tx sep).cps++p.cps) acc.toArray=(ls.foldl (λa p=>a++sep++p) acc).toArray
 | [],acc=>rfl
 | p::ls,acc=>by
  rw[aL,List.foldl_cons,List.foldl_cons];have:acc.toArray++(tx sep).cps++(tx p).cps=(acc++sep++p).toArray:=by simp[tx]
  rw[this];exact FI sep ls _
theorem Lm(sep:List Nat):∀(ls:List (List Nat)) (p:List Nat),ls.foldl (λa p=>a++sep++p) p=jn sep (p::ls)
 | [],p=>rfl
 | q::ls,p=>by
  rw[List.foldl_cons,Lm sep ls];cases ls with
  | nil=>rfl
  | cons r ls=>simp[jn]
def QA(sep:List Nat):∀ls:List (List Nat),Txt.join (tx sep) (ls.map tx)=tx (jn sep ls)
 | []=>rfl
 | p::ls=>by
  show(⟨_⟩:Str)=⟨_⟩;rw[aL,List.drop_succ_cons,List.drop_zero,List.headD_cons];have:=FI sep ls p;rw[show(tx p).cps=p.toArray from rfl,this,Lm]
def Ra{p:List Nat}{q:Int}(h0:0<=q)(h1:q<=p.length):Txt.slice (tx p) none (some q)=tx (p.take q.toNat):=by
 have e:=PyProof.Rows.slice_closes_toL (x:=tx p) (j:=q) h0 (by rw[O8];exact h1);rw[beq_iff_eq]at e;rw[e];show(⟨_⟩:Str)=⟨_⟩;simp[tx]
theorem Lu{sep:Str}{k:Nat}:∀{ls:List Str} {a:Nat},(∀p∈ls,p.length<=k)->ls.foldl (λx y=>x+y.length+sep.length) a<=a+ls.length * (k+sep.length)
 | [],a,_=>by simp
 | p::ls,a,h=>by
  have h1:=h p (by simp);have h2:=Lu (sep:=sep) (k:=k) (ls:=ls) (a:=a+p.length+sep.length) (λx hx=>h x (ay _ hx));rw[List.foldl_cons,bx,bF];omega
def Sq{sep:List Nat}{sz:Str}(hz:sz=tx sep){a:Addr}{ls:List (List Nat)}{k:Nat}{H:Hp}{Q:VK}(hk:∀p∈ls,p.length<=k)(hl:ls.length * (k+sep.length)<=16777216)(hq:t8 K H a (ls.map vT))(q:Q (vT (jn sep ls)) H) :
    Ri K (.str sz) [.ref a] H Q:=by
 subst hz;refine⟨tx sep,a,ls.map tx,rfl,rfl,by rw[cj];exact hq,?_,by rw[QA];exact q⟩;unfold PySem.JoinOk Builtin.Str.tooLong;have:=Lu (sep:=tx sep) (k:=k) (ls:=ls.map tx) (a:=0) (λp hp=>by
  obtain⟨x,hx,rfl⟩:=aE.mp hp;rw[O8];exact hk x hx)
 have hl':ls.length * (k+(tx sep).length)<=16777216:=by rw[O8];exact hl
 rw[aj]at this;have z:sizeLine=16777216:=by decide
 rw[List.foldl_toArray];simp only[Bool.not_eq_true',decide_eq_false_iff_not];omega
def QB{sep p:List Nat}{ls:List (List Nat)}(h:ls≠[]):jn sep (p::ls)=p++sep++jn sep ls:=by
 cases ls with
 | nil=>exact absurd rfl h
 | cons q ls=>simp[jn]
def SK:(Str.ofString "")=tx []:=OG
def azs:List Nat:=[97,98,99,100,101,102,103,104,105,106,107,108,109,110,111,112,113,114,115,116,117,118,119,120,121,122]
def ZQ:(Str.ofString "abcdefghijklmnopqrstuvwxyz")=tx azs:=by decide +kernel
theorem Ll:∀ls:List Nat,jn [] (ls.map λc=>[c])=ls
 | []=>rfl
 | [a]=>rfl
 | a::b::ls=>by
  have:=Ll (b::ls);rw[aL,QB (by simp),this];rfl
def ZP{i:Nat}(h:i < 26):azs[i]? = some (97+i):=by
 have:∀i,i < 26->azs[i]? = some (97+i):=by decide
 exact this i h
def cL(a b:Int)(k:Nat):Nat:=97+((a+b * (k:Int)).fmod 26).toNat
def ZN{a b:Int}{k:Nat}:MK (tx azs).cps.toList ((a+b * (k:Int)).fmod 26)=some (cL a b k):=by
 have m0:0<=(a+b * (k:Int)).fmod 26:=br _ (by decide);have m1:(a+b * (k:Int)).fmod 26 < 26:=bu _ (by decide);unfold cL;revert m0 m1;generalize (a+b * (k:Int)).fmod 26=r;intro m0 m1;obtain⟨i,rfl⟩:∃i:Nat,r=(i:Int):=⟨r.toNat,oM⟩;have e:(tx azs).cps.toList=azs:=by simp[tx]
 rw[e];exact J2 (ZP oM)
def ZM{a b:Int}(a0:0<=a)(a1:a < 26)(b0:1<=b)(b1:b<=8){n:Nat}(hn:n<=3):W5 ((List.range n).map (cL a b)):=by
 have lt:∀k,cL a b k < 128:=λk=>by
  have m1:(a+b * (k:Int)).fmod 26 < 26:=bu _ (by decide);unfold cL;omega
 refine⟨?_,λc hc=>?_,by rw[aj,cD];exact hn⟩
 . refine bQ.mpr ((List.pairwise_lt_range).imp_of_mem λ{i j} hi hj hij e=>?_);have hi:=aX.mp hi;have hj:=aX.mp hj;unfold cL at e;have f:∀k:Nat,(a+b * (k:Int)).fmod 26=(a+b * (k:Int)) % 26:=λk=>dq _ (by decide);rw[f i,f j]at e;rcases(by omega:(i=0/\j=1)\/(i=0/\j=2)\/(i=1/\j=2))with ⟨rfl,rfl⟩ | ⟨rfl,rfl⟩ | ⟨rfl,rfl⟩ <;>simp at e <;>omega
 . obtain⟨k,_,rfl⟩:=aE.mp hc;exact lt k
def sp_lletters:Sp:=λvs H Q _=>∃(a:Addr),vs=[.ref a]/\Dr H a/\∀l H',i3 a H H'->Dr H' a->W5 l->1<=l.length->Q (vT l) H'
def DY(T:Txt K mg t):o9 Pr w K mg base D2 2 t.d0h t.b0y ["_law_state_here"] sp_lletters:=by
 refine T.c0e.F.ok L4 (by rintro _ _ _ _ ⟨_,rfl,_⟩;rfl) λcdv A outer s H vs Q E hr h=>?_;obtain⟨a,rfl,hD,k⟩:=h;have zl:10000 < sizeLine:=by decide
 refine⟨_,(a9 (sT 1 L4.nd (l5 E3 c4 (C3 (l8 T) hr.m T.e0g (D0 (pv 0) c4)))) (a9 (Bn (i:=2) L4.nd rfl (Or.inr rfl) (C3 (l8 T) hr.m T.e0g (D0 (pv 0) c4))) (a9 (Bn (i:=3) L4.nd rfl (Or.inr rfl) (l5 E3 c4 (C3 (l8 T) hr.m T.e0g (D0 (pv 0) c4)))) (c6 (d9 (U6 PySem.F.plainAttrs_str PySem.F.slot_str_join PySem.F.type_str_join Qp Ae (x9 (w5 (xs:=["_law_k"]) rfl (show p9 Ze (b9 O0) _ from⟨rfl,dK,dK,dK,dK,dK⟩) (x5 rfl T.z_range (x9 (pv 1))) (λ_ _ _ _ _=>(j9 (i:=4) (by show List.Nodup (["_law_state_here","_law_size","_law_first_here","_law_far","_law_k"]:List Str);decide +kernel) rfl (Or.inl rfl))) (λ_ _ _ _ _=>(j8 Oo Ae (l5 C4 (l5 E3 (pv 2) (l5 CJ (pv 3) (pv 4))) c4) (λ_ _=>rfl))))))))))),?_⟩;rw[ZQ];refine⟨_,rfl,a,3,rfl,⟨hD,by decide,by decide⟩,λr1 H1 s1 d1 a1 b1=>za ⟨rfl,rfl,?_⟩⟩;refine⟨_,rfl,a,26,rfl,⟨d1,by decide,by decide⟩,λr2 H2 s2 d2 a2 b2=>?_⟩;refine⟨_,rfl,a,8,rfl,⟨d2,by decide,by decide⟩,λr3 H3 s3 d3 a3 b3=>za ⟨rfl,rfl,?_⟩⟩;have Gn:=(s1.trans s2).trans s3;obtain⟨n,en⟩:∃n:Nat,1+r1=(n:Int):=⟨(1+r1).toNat,oM⟩;refine⟨rfl,_,rfl,_,rfl,oM,oM,o8 (n:=n) (λj ys G=>G=H3/\ys=(((List.range j).map (cL r2 (1+r3))).map λc=>[c]).map vT) oM ⟨rfl,rfl⟩ (λj ys G q=>by rw[q.2];simp) ?_ ?_ ?_⟩
 . rintro j ys G hj ⟨rfl,rfl⟩;refine⟨(show j < (1+r1).toNat by omega),λy H' hy=>?_⟩;obtain⟨rfl,rfl⟩:=hy;have ec:=ZN (a:=r2) (b:=1+r3) (k:=j);rw[show((j:Nat):Int)=0+(j:Int) by omega]at ec;refine⟨⟨[some _],rfl,rfl⟩,_,rfl,_,rfl,_,rfl,za ⟨rfl,rfl,.inl ⟨oM,oM⟩,za ⟨rfl,rfl,za ⟨rfl,rfl,(by show(26:Int)≠0;decide),zd ⟨rfl,rfl,(by rw[O8];show 26<=_;omega),ec,rfl,?_⟩⟩⟩⟩⟩;rw[List.range_succ,bH,bH,bH];rfl
 . rintro ys G ⟨rfl,rfl⟩;show(1+r1).toNat<=n;omega
 . rintro ys G p ⟨rfl,rfl⟩ np;have e2:=c7 (o:=.lst ((((List.range n).map (cL r2 (1+r3))).map λc=>[c]).map vT)) np;refine Sq (sep:=[]) (k:=1) SK ?_ ?_ (t8.of c5) ?_
   . intro x hx;obtain⟨c,_,rfl⟩:=aE.mp hx;exact ae _
   . rw[aj,aj,cD];show n * (1+0)<=_;omega
   . rw[Ll];exact k _ _ (Gn.trans (.of e2)) (d3.same e2) (ZM a2 b2 oM oM oM) (by rw[aj,cD];omega)
def Mr{l:List Nat}{H:Hp}(h:l.length<=10000):AX K (vT l) H l.length:=by
 have z:10000 < sizeLine:=by decide
 exact⟨by rw[O8];omega,(O8 l).symm⟩
abbrev ZT(R:g9 Pr w K mg base)(n:Nat)(x:Nat->R.S.W):V->Hp->Prop:=Dh K (λj u H=>R.is H u (x j)) n
def Pm(T:Txt K mg t):Sp:=λvs H Q _=>∃(R:g9 Pr w K mg base),∃nm p so rv cv n x y r,So T R nm p/\vs=[so,rv,cv]/\(K7 H so nm p/\ZT R n x rv H/\ZT R n y cv H/\KJ R.S r n x y/\Ay R.S (3 * r))/\
 ∀v H',h8 H H'->R.is H' v (M3 R.S x y n)->Q v H'
def Bp(T:Txt K mg t):o9 Pr w K mg base D2 40 t.h0n t.g0a SS (Pm (w:=w) (base:=base) T):=by
 refine T.f0l.F.ok Q4 (by rintro _ _ _ _ ⟨_,_,_,_,_,_,_,_,_,_,_,rfl,_⟩;rfl) λcdv A outer s H vs Q E hr h=>?_;obtain⟨R,nm,p,so,rv,cv,n,x,y,r,hS,rfl,⟨hso,⟨S1,xs,o1,v1,w1,e1⟩,⟨S2,ys,o2,v2,w2,e2⟩,⟨z1,z2⟩,hz⟩,k⟩:=h;refine⟨_,(a9 (sT 3 Q4.nd (C3 (Q1 T) hr.m T.g0n (D0 (pv 0) c4))) (a9 (G0 aC rfl (CH rfl T.z_zip (D0 (pv 1) (pv 2))) (E9 rfl (k9 (gN 4 Q4.nd) (k9 (gN 5 Q4.nd) B8))) (c6 (sT 3 Q4.nd (C3 (Ik T) hr.m T.e0l (W8 (pv 0) (pv 3) (C3 (Gx T) hr.m T.c0z (W8 (pv 0) (pv 4) (pv 5)))))))) (c6 (d9 (pv 3))))),?_⟩;refine⟨_,rfl,R,zi nm p so 0 ⟨hS,rfl,⟨hso,by decide,by decide⟩,λz H1 x0 s1 f1 ez _ _ _ _=>?_⟩⟩;cases ez rfl;refine⟨_,rfl,_,rfl,S1,S2,za ⟨xs,ys,rfl,o1,o2,(w1 _ s1).1,(w2 _ s1).1,Ls (K:=K) (xs:=xs) (ys:=ys) (λi σ H2=>∃tot v4 v5,σ=[some so,some rv,some cv,some tot,v4,v5]/\h8 H H2/\R.is H2 tot (M3 R.S x y i)) (by rw[e1.1,e2.1]) ⟨_,_,_,rfl,s1,f1⟩ (λi σ H2 _ ⟨_,_,_,_,q,_⟩=>⟨(w1 _ q).1,(w2 _ q).1⟩) ?_ ?_⟩⟩
 . rintro i u v pp σ H2 hu hv np ⟨tot,v4,v5,rfl,q,f⟩;obtain⟨hi,pu⟩:=e1.at hu;obtain⟨_,pv⟩:=e2.at hv;have sp:=c7 (o:=.tup [u,v]) np;have q2:=q.trans sp;refine⟨pp,_,rfl,o7.of c5,rfl,za ⟨rfl,za ⟨rfl,rfl,?_⟩⟩⟩;refine⟨_,rfl,_,rfl,_,rfl,_,rfl,_,rfl,R,zq nm p so _ _ _ _ r r ⟨hS,rfl,⟨hso.same q2.t,R.same q2.t pu,R.same q2.t pv,(z1 i hi).1,(z1 i hi).2,hz.le oM⟩,λpr H3 s3 f3=>?_⟩⟩;have q3:=q2.trans s3;refine⟨R,zq nm p so _ _ _ _ r (r+r) ⟨hS,rfl,⟨hso.same q3.t,R.same (sp.trans s3).t f,f3,z2 i oM,R.S.sz_mul _ _ _ _ (z1 i hi).1 (z1 i hi).2,hz.le oM⟩,λtt H4 s4 f4=>?_⟩⟩;exact zd ⟨rfl,q3.trans s4,f4⟩
 . rintro σ H2 ⟨tot,v4,v5,rfl,q,f⟩;rw[e1.1]at f;exact⟨_,rfl,k _ _ q f⟩
def Nc(T:Txt K mg t):Sp:=λvs H Q _=>∃(R:g9 Pr w K mg base),∃nm p so rv tv n x A r,So T R nm p/\vs=[so,rv,tv]/\(K7 H so nm p/\j5 R n x rv H/\D7 R n n A tv H/\n<=60/\(∀j,j < n->KJ R.S r n x (λi=>A i j))/\Ay R.S (3 * r))/\
 ∀v H',h8 H H'->j5 R n (PQ R.S n A x) v H'->Q v H'
def Dd(T:Txt K mg t):o9 Pr w K mg base D2 42 t.g0h t.e0p Ob (Nc (w:=w) (base:=base) T):=by
 refine T.d0v.F.ok HI (by rintro _ _ _ _ ⟨_,_,_,_,_,_,_,_,_,_,_,rfl,_⟩;rfl) λcdv A outer s H vs Q E hr h=>?_;obtain⟨R,nm,p,so,rv,tv,n,x,X,r,hS,rfl,⟨hso,hR,⟨ap,lines,rfl,hap,eA⟩,hn,hd,hz⟩,k⟩:=h;refine⟨_,(c6 (d9 (j7 g6 (by rfl) T.z_tuple boot_tuple (x9 (w5 (xs:=["_law_k"]) rfl (show p9 Ob (b9 Q6) _ from⟨rfl,dK,dK,dK,dK,dK⟩) (x5 rfl T.z_range (x9 (o5 u9 (by rfl) T.z_len PySem.boot_len (x9 (pv 1))))) (λ_ _ _ _ _=>(j9 (i:=3) (by show List.Nodup (["_law_sort_here","_law_row","_law_table","_law_k"]:List Str);decide +kernel) rfl (Or.inr rfl))) (λ_ _ _ _ _=>(B9 (Bp (w:=w) (base:=base) T) hr.m rfl T.f0l.m T.f0l.F.kp T.f0l.b .nil B0 (W8 (pv 0) (pv 1) (w5 (xs:=["_law_line"]) rfl (show p9 ["_law_sort_here","_law_row","_law_table","_law_k"] (rlS (b9 Q6) _) _ from⟨rfl,dK,dK,dK,dK,dK⟩) (show PI _ _ _ (QD K _)from L9 (pv 2)) (λ_ _ _ _ _=>(j9 (i:=4) (by show List.Nodup (["_law_sort_here","_law_row","_law_table","_law_k","_law_line"]:List Str);decide +kernel) rfl (Or.inl rfl))) (λ_ _ _ _ _=>(j8 (show MO _ (Md K)from h9) (pv 4) (pv 3) (λ_ _=>rfl)))))))))))),?_⟩;refine⟨_,rfl,za ⟨rfl,hR.len,_,rfl,oM,oM,o8 (n:=n) (λj ys G2=>h8 H G2/\i0 (λj u' H=>R.is H u' (PQ R.S n X x j)) ys j G2) oM ⟨h8.refl _,i0.nil⟩ (λj ys H2 q=>q.2.1) ?_ ?_ ?_⟩⟩
 . rintro j ys G2 hj ⟨q2,e⟩;refine Ej (by omega) ?_;refine⟨⟨[some _],rfl,rfl⟩,_,rfl,_,rfl,_,rfl,ap,rfl,⟨_,o7.of (q2 _ _ hap)⟩,o8 (n:=n) (λi' ys' G3=>i0 (λi' u' H=>R.is H u' (X i' j)) ys' i' G2/\G3=G2) oM ⟨i0.nil,rfl⟩ (λj ys H2 q=>q.1.1) ?_ ?_ ?_⟩
   . rintro i' ys' G3 hi' ⟨e',rfl⟩;obtain⟨lu,elu,plu⟩:=eA.2 i' hi';refine Dt (o7.of (q2 _ _ hap)) elu ?_;obtain⟨lp,lvs,lx,rfl,h4,h5,h6⟩:=j5.at (j5.same q2.t plu) hj;rw[show(j:Int)=0+(j:Int) by omega]at h5;exact⟨⟨[some _],rfl,rfl⟩,_,rfl,_,rfl,ze ⟨rfl,rfl,h4,h5,e'.snoc h6,rfl⟩⟩
   . rintro ys' G3 ⟨e',rfl⟩;exact⟨_,o7.of (q2 _ _ hap),by rw[eA.1];exact ae _⟩
   . rintro ys' G3 z ⟨e',rfl⟩ nz;refine G8 (o:=.lst ys') nz λG4 t1 k1=>?_;have q4:=q2.trans t1;refine⟨R,zq nm p so rv (.ref z) n x (λi'=>X i' j) r ⟨hS,rfl,⟨hso.same q4.t,(j5.same q4.t hR).seq,Dh.list k1 (e'.mono λ_ _ _ x=>R.same t1.t x),hd j hj,hz⟩,λv H3 s3 f3=>?_⟩⟩;exact⟨q4.trans s3,(e.mono λ_ _ _ x=>R.same (t1.trans s3).t x).snoc f3⟩
 . rintro ys G2 ⟨q2,e⟩;show(n:Int).toNat<=n;omega
 . rintro ys G2 z ⟨q2,e⟩ nz;have t1:=c7 (o:=.lst ys) nz;refine⟨z,ys,rfl,.inl ⟨t8.of c5,λz2 n2=>?_⟩⟩;have t2:=t1.trans (c7 (o:=.tup ys) n2);exact k _ _ (q2.trans t2) ⟨z2,ys,rfl,c5,e.mono λ_ _ _ x=>R.same t2.t x⟩
theorem DJ{S:SR}(f:Nat->S.W)(n:Nat):∀m,sm S f (n+m)=S.add (sm S f n) (sm S (λi=>f (n+i)) m)
 | 0=>(S.add_zero _).symm
 | m+1=>by
  show S.add (sm S f (n+m)) (f (n+m))=_;rw[DJ f n m,S.add_assoc];rfl
theorem Nj{S:SR}{F:X6 S}(f:Nat->S.W):∀m,sm S (λi=>F.neg (f i)) m=F.neg (sm S f m)
 | 0=>(Tw (F:=F)).symm
 | m+1=>by
  show S.add (sm S (λi=>F.neg (f i)) m) (F.neg (f m))=F.neg (S.add (sm S f m) (f m));rw[Nj f m,Tx]
section
variable{S:SR}{F:X6 S}{l:List Nat}{n n':Nat}{st st':Nat->S.W}{tb tb':Nat->Nat->Nat->S.W}{en en':Nat->S.W}
def LI:∀u,AL l u->∀j,j < n+n'->w4 S (n+n') (Jm n st st') (E5 l (Jl n tb tb')) u j=R4 S n (w4 S n st (E5 l tb) u) (w4 S n' st' (E5 l tb') u) j:=by
 refine(OY (l:=l)).ind _ (λj _=>rfl) λc u hc hu ih j hj=>?_;rw[D6,D6,D6];show sm S (λi=>S.mul (w4 S (n+n') (Jm n st st') (E5 l (Jl n tb tb')) u i) (Jb S n (tb (l.idxOf c)) (tb' (l.idxOf c)) i j)) (n+n')=_;rw[DJ];have b1:∀i,i < n->Jb S n (tb (l.idxOf c)) (tb' (l.idxOf c)) i=R4 S n (tb (l.idxOf c) i) λ_=>S.zero:=λi hi=>if_pos hi;have b2:∀i,Jb S n (tb (l.idxOf c)) (tb' (l.idxOf c)) (n+i)=R4 S n (λ_=>S.zero) (tb' (l.idxOf c) i):=λi=>by
  unfold Jb;rw[if_neg oM,dz]
 by_cases z:j < n
 . rw[W2 z,x6 (f:=λi=>S.mul (w4 S (n+n') (Jm n st st') (E5 l (Jl n tb tb')) u (n+i)) (Jb S n (tb (l.idxOf c)) (tb' (l.idxOf c)) (n+i) j)) (g:=λ_=>S.zero) λi hi=>by rw[b2,W2 z,S.mul_zero],R6,S.add_zero];exact x6 λi hi=>by rw[ih i oM,W2 hi,b1 i hi,W2 z];rfl
 . obtain⟨q,rfl⟩:∃q,j=n+q:=⟨j - n,oM⟩;rw[W3,x6 (f:=λi=>S.mul (w4 S (n+n') (Jm n st st') (E5 l (Jl n tb tb')) u i) (Jb S n (tb (l.idxOf c)) (tb' (l.idxOf c)) i (n+q))) (g:=λ_=>S.zero) λi hi=>by rw[b1 i hi,W3,S.mul_zero],R6,QJ];exact x6 λi hi=>by rw[ih (n+i) oM,W3,b2,W3];rfl
def QO(u:List Nat)(hu:AL l u):L3 S l (n+n') (Jm n st st') (Jl n tb tb') (LK F n en en') u=S.add (L3 S l n st tb en u) (F.neg (L3 S l n' st' tb' en' u)):=by
 show sm S _ (n+n')=_;rw[DJ];congr 1
 . exact x6 λi hi=>by rw[LI u hu i oM,W2 hi,show LK F n en en' i=en i from W2 hi]
 . rw[x6 (g:=λi=>F.neg (S.mul (w4 S n' st' (E5 l tb') u i) (en' i))) λi hi=>by rw[LI u hu (n+i) oM,W3,show LK F n en en' (n+i)=F.neg (en' i)from W3,ZH],Nj];rfl
def Cj(u:List Nat)(hu:AL l u):L3 S l (n+n') (Jm n st st') (Jl n tb tb') (LK F n en en') u=S.zero↔L3 S l n st tb en u=L3 S l n' st' tb' en' u:=by
 rw[QO u hu];exact⟨λh=>f_eq (F:=F) h,λh=>by rw[h,F.add_neg]⟩
end
def MC.both{R:g9 Pr w K mg base}{b m n n' k:Nat}{st:Nat->R.S.W}{tb:Nat->Nat->Nat->R.S.W}{en:Nat->R.S.W}{st':Nat->R.S.W}{tb':Nat->Nat->Nat->R.S.W}{en':Nat->R.S.W}(b0:0 < b)(h:MC R b m n k st tb en)(h':MC R b m n' k st' tb' en'):MC R b m (n+n') k (Jm n st st') (Jl n tb tb') (LK R.F n en en'):=by
 have z0:R.B.cb b m R.S.zero:=R.B.mono _ _ _ _ (aK _) (R.B.zero b b0);refine⟨λi hi=>?_,λa ha i hi j hj=>?_,λi hi=>?_⟩
 . show R.B.cb b m (R4 R.S n st st' i);unfold R4;split
   . exact h.st i (by assumption)
   . exact h'.st _ oM
 . show R.B.cb b m (Jb R.S n (tb a) (tb' a) i j);unfold Jb R4;split
   . (try dsimp only)
     split
     . exact h.tb a ha i (by assumption) j (by assumption)
     . exact z0
   . (try dsimp only)
     split
     . exact z0
     . exact h'.tb a ha _ oM _ oM
 . show R.B.cb b m (R4 R.S n en (λi=>R.F.neg (en' i)) i);unfold R4;split
   . exact h.en i (by assumption)
   . exact R.B.neg _ _ _ _ (R.F.add_neg _) (h'.en _ oM)
def Cq(S:SR)(l:List Nat)(m:Nat)(D E:List Nat->S.W)(v:V):Prop:=(v=.non/\∀u,AL l u->u.length < m->D u=E u)\/∃u0,v=vT u0/\(AL l u0/\u0.length < m)/\D u0≠E u0/\∀u,AL l u->Cs l u u0=true->D u=E u
def QR{l:List Nat}(nd:l.Nodup):∀{u v:List Nat},AL l u->AL l v->u=v\/Cs l u v=true\/Cs l v u=true:=by
 have key:∀(u v:List Nat),u.length=v.length->AL l u->AL l v->u=v\/BY l u v=true\/BY l v u=true:=by
  intro u
  induction u with
  | nil=>intro v e _ _;exact .inl (bA.mp e.symm).symm
  | cons a u ih=>
   intro v e hu hv;cases v with
   | nil=>cases e
   | cons b v=>
    have ha:=hu a (aq ..);have hb:=hv b (aq ..);by_cases z:a=b
    . subst z;rcases ih v (by simpa using e) (λd hd=>hu d (ay _ hd)) (λd hd=>hv d (ay _ hd))with h | h | h
      . exact .inl (by rw[h])
      . exact .inr (.inl (by unfold BY;rw[if_pos rfl];exact h))
      . exact .inr (.inr (by unfold BY;rw[if_pos rfl];exact h))
    . have ne:l.idxOf a≠l.idxOf b:=λi=>z (by
       have at':∀{x:Nat},x∈l->l[l.idxOf x]? = some x:=λhx=>by rw[ax (Lo hx),List.getElem_idxOf]
       have h1:=at' ha;have h2:=at' hb;rw[i,h2]at h1;exact(Option.some.inj h1).symm)
      rcases Nat.lt_or_gt_of_ne ne with g | g
      . exact .inr (.inl (by unfold BY;rw[if_neg z];exact decide_eq_true g))
      . exact .inr (.inr (by unfold BY;rw[if_neg (Ne.symm z)];exact decide_eq_true g))
 intro u v hu hv;by_cases e:u.length=v.length
 . rcases key u v e hu hv with h | h | h
   . exact .inl h
   . exact .inr (.inl (by unfold Cs;rw[if_pos e];exact h))
   . exact .inr (.inr (by unfold Cs;rw[if_pos e.symm];exact h))
 . rcases Nat.lt_or_gt_of_ne e with g | g
   . exact .inr (.inl (by unfold Cs;rw[if_neg e];exact decide_eq_true g))
   . exact .inr (.inr (by unfold Cs;rw[if_neg (Ne.symm e)];exact decide_eq_true g))
def MN(R:g9 Pr w K mg base)(l:List Nat)(n n':Nat)(st:Nat->R.S.W)(tb:Nat->Nat->Nat->R.S.W)(st':Nat->R.S.W)(tb':Nat->Nat->Nat->R.S.W)(ws:List (List Nat)):Nat->V->Hp->Prop:=λi u H=>∃wd q r1 r2,ws[i]? = some wd/\u=.ref q/\H q=some (.tup [vT wd,r1,r2])/\j5 R n (w4 R.S n st (E5 l tb) wd) r1 H/\j5 R n' (w4 R.S n' st' (E5 l tb') wd) r2 H
theorem MN.same{R:g9 Pr w K mg base}{l:List Nat}{n n':Nat}{st:Nat->R.S.W}{tb:Nat->Nat->Nat->R.S.W}{st':Nat->R.S.W}{tb':Nat->Nat->Nat->R.S.W}{ws:List (List Nat)}{i:Nat}{u:V}{H H':Hp}(s:w9 H H')(h:MN R l n n' st tb st' tb' ws i u H):MN R l n n' st tb st' tb' ws i u H':=by
 obtain⟨wd,q,r1,r2,e,rfl,hq,h1,h2⟩:=h;exact⟨wd,q,r1,r2,e,rfl,s _ _ hq,j5.same s h1,j5.same s h2⟩
def MN.app{R:g9 Pr w K mg base}{l:List Nat}{n n':Nat}{st:Nat->R.S.W}{tb:Nat->Nat->Nat->R.S.W}{st':Nat->R.S.W}{tb':Nat->Nat->Nat->R.S.W}{ws vs:List (List Nat)}{i:Nat}{u:V}{H:Hp}(hi:i < ws.length)(h:MN R l n n' st tb st' tb' ws i u H):MN R l n n' st tb st' tb' (ws++vs) i u H:=by
 obtain⟨wd,q,r1,r2,e,h⟩:=h;exact⟨wd,q,r1,r2,by rw[aJ hi];exact e,h⟩
def LW(T:Txt K mg t):Sp:=λvs H Q _=>∃(R:g9 Pr w K mg base),∃nm p so mv ov l,∃(n n' μ:Nat),∃st tb en st' tb' en',So T R nm p/\vs=[so,mv,ov]/\(K7 H so nm p/\r9 R l n st tb en mv H/\r9 R l n' st' tb' en' ov H/\MB R.B n l.length μ st tb en/\MB R.B n' l.length μ st' tb' en'/\W5 l/\1<=l.length/\(n<=30/\n'<=30)/\l.length ^ (n+n')<=10000/\Ay R.S (3 * ((n+n'+2) * (μ+n)))/\Ay R.S (3 * ((n+n'+2) * (μ+n'))))/\
 ∀v H',h8 H H'->Cq R.S l (n+n') (L3 R.S l n st tb en) (L3 R.S l n' st' tb' en') v->Q v H'
def Gz(T:Txt K mg t):o9 Pr w K mg base D2 44 t.f0m t.c0x SQ (LW (w:=w) (base:=base) T):=by
 refine T.d0r.F.ok z8 (by rintro _ _ _ _ ⟨_,_,_,_,_,_,_,_,_,_,_,_,_,_,_,_,_,rfl,_⟩;rfl) λcdv A outer s H vs Q E hr h=>?_;obtain⟨R,nm,p,so,mv,ov,l,n,n',μ,st,tb,en,st',tb',en',hS,rfl,⟨hso,hM,hM',hB,hB',L,l1,⟨hn,hn'⟩,hp,hz,hz'⟩,kQ⟩:=h;obtain⟨mp,sv,tv,ev,rfl,hm,h1,h2,h3⟩:=id hM;obtain⟨mp',sv',tv',ev',rfl,hm',h1',h2',h3'⟩:=id hM';have zl:20000 < sizeLine:=by decide
 have l3:=L.h3;have pw:∀{k:Nat},k<=n+n'->l.length ^ k<=10000:=λh=>af (cG oM h) hp;refine⟨_,(a9 (sT 3 z8.nd (D4 (x9 (B4 (W8 Ae (j8 h9 (pv 1) c4 (λ_ _=>rfl)) (j8 h9 (pv 2) c4 (λ_ _=>rfl))))))) (a9 (G0 aC rfl (x5 rfl T.z_range (x9 (l5 E3 (o5 u9 (by rfl) T.z_len PySem.boot_len (x9 (j8 h9 (pv 1) c4 (λ_ _=>rfl)))) (o5 u9 (by rfl) T.z_len PySem.boot_len (x9 (j8 h9 (pv 2) c4 (λ_ _=>rfl))))))) (gN 4 z8.nd) (a9 (sT 5 z8.nd (D4 F0)) (a9 (G0 aC rfl (F8 (pv 3)) (E9 rfl (k9 (gN 6 z8.nd) (k9 (gN 7 z8.nd) (k9 (gN 8 z8.nd) B8)))) (a9 (w8 (l4 (Gu hr.units) (C3 (Bp T) hr.m T.f0l (W8 (pv 0) (pv 7) (j8 h9 (pv 1) c4 (λ_ _=>rfl)))) (C3 (Bp T) hr.m T.f0l (W8 (pv 0) (pv 8) (j8 h9 (pv 2) c4 (λ_ _=>rfl)))) (l6 _)) (c6 (d9 (pv 6))) l9) (c6 (G0 aC rfl (PY rfl T.z_enumerate (x9 (j8 h9 (pv 1) c4 (λ_ _=>rfl)))) (E9 rfl (k9 (gN 9 z8.nd) (k9 (gN 10 z8.nd) B8))) (c6 (E1 (U6 bg bI bJ J1 (pv 5) (x9 (B4 (W8 (l5 DU (pv 6) (pv 10)) (C3 (Dd T) hr.m T.d0v (W8 (pv 0) (pv 7) (j8 h9 (j8 h9 (pv 1) c4 (λ_ _=>rfl)) (pv 9) (λ_ _=>rfl)))) (C3 (Dd T) hr.m T.d0v (W8 (pv 0) (pv 8) (j8 h9 (j8 h9 (pv 2) c4 (λ_ _=>rfl)) (pv 9) (λ_ _=>rfl)))))))))))))) (c6 (sT 3 z8.nd (pv 5)))))) (c6 (d9 DS)))),?_⟩;refine⟨_,rfl,ze ⟨rfl,rfl,o7.of hm,rfl,_,rfl,ze ⟨rfl,rfl,o7.of hm',rfl,(by show 3<=sizeLine;decide),λtp ntp=>⟨(by show 1<=sizeLine;decide),λlp nlp=>?_⟩⟩⟩⟩;have s1:=c7 (o:=.tup [V.str (Str.ofString ""),sv,sv']) ntp;have k1:=c5 (H:=H) (a:=tp) (o:=.tup [V.str (Str.ofString ""),sv,sv']);have s2:=c7 (o:=.lst [V.ref tp]) nlp;have k2:=c5 (H:=upd H tp (.tup [V.str (Str.ofString ""),sv,sv'])) (a:=lp) (o:=.lst [V.ref tp]);have k1':=s2 _ _ k1;revert s1 s2 k2 k1';generalize upd (upd H tp (.tup [V.str (Str.ofString ""),sv,sv'])) lp (.lst [V.ref tp])=H2;intro s1 s2 k2 k1';have Dc:=s1.trans s2;rw[OG]at k1';refine⟨_,rfl,ze ⟨rfl,rfl,o7.of (Dc _ _ hm),rfl,za ⟨rfl,(j5.same Dc.t h1).len,_,rfl,ze ⟨rfl,rfl,o7.of (Dc _ _ hm'),rfl,za ⟨rfl,(j5.same Dc.t h1').len,za ⟨rfl,rfl,_,rfl,oM,oM,?_⟩⟩⟩⟩⟩⟩;refine AF (lo:=0) (n:=((n:Int)+(n':Int)).toNat) (λk σ G=>∃lp us v4 v5 v6 v7 v8 v9 v10,σ=[some so,some (.ref mp),some (.ref mp'),some (.ref lp),v4,v5,v6,v7,v8,v9,v10]/\h8 H G/\G lp=some (.lst us)/\i0 (MN R l n n' st tb st' tb' (Ef l k)) us (Ef l k).length G/\∀u,AL l u->u.length < k->L3 R.S l n st tb en u=L3 R.S l n' st' tb' en' u) ⟨lp,[V.ref tp],_,_,_,_,_,_,_,rfl,Dc,k2,?_,λu _ h=>absurd h (bR _)⟩ ?_ ?_
 . refine⟨rfl,λj hj=>?_⟩;have hj:j < 1:=hj;obtain rfl:j=0:=by omega
   exact⟨_,rfl,[],tp,sv,sv',rfl,rfl,k1',j5.same Dc.t h1,j5.same Dc.t h1'⟩
 . rintro k σ G hk ⟨lp,us,v4,v5,v6,v7,v8,v9,v10,rfl,sG,hlp,eL,hw⟩;have hk:k < n+n':=by omega
   refine⟨(by show 0<=sizeLine;decide),λbp nbp=>?_⟩;refine G8 (o:=.lst []) nbp λH3 s3 k3=>?_;have up:∀{F},i3 bp H3 F->h8 G F:=λsF c o hc=>sF c o (j0 hc nbp) (s3 _ _ hc);refine⟨_,rfl,lp,rfl,⟨_,t8.of (s3 _ _ hlp)⟩,U8 (K:=K) (a:=lp) (xs:=us) (λi σ F=>∃v6 v7 v8 v9 v10 bs,σ=[some so,some (.ref mp),some (.ref mp'),some (.ref lp),some (.int (0+(k:Int))),some (.ref bp),v6,v7,v8,v9,v10]/\i3 bp H3 F/\F bp=some (.lst bs)/\i0 (MN R l n n' st tb st' tb' (gB l ((Ef l k).take i))) bs (gB l ((Ef l k).take i)).length F/\∀u∈(Ef l k).take i,L3 R.S l n st tb en u=L3 R.S l n' st' tb' en' u) ⟨_,_,_,_,_,[],rfl,i3.refl _ _,k3,i0.nil,λu hu=>(by rw[List.take_zero]at hu;cases hu)⟩ (λi σ F _ ⟨_,_,_,_,_,_,_,sF,_⟩=>t8.of (up sF _ _ hlp)) ?_ ?_⟩
   . rintro i x σ F hi ⟨v6',v7',v8',v9',v10',bs,rfl,sF,hbs,eB,hwi⟩;obtain⟨il,wd,q,r1,r2,ew,rfl,hq,ro1,ro2⟩:=eL.at hi;obtain⟨wl,wal⟩:=JW k wd (aR ew);have uF:=up sF;have hF:=sG.trans uF;refine⟨q,_,rfl,o7.of (uF _ _ hq),rfl,za ⟨rfl,za ⟨rfl,za ⟨rfl,rfl,?_⟩⟩⟩⟩;have zz:(wd.length+1) * (μ+n)+(μ+n)<=(n+n'+2) * (μ+n):=by
      rw[<- bF];exact ba _ oM
     have zz':(wd.length+1) * (μ+n')+(μ+n')<=(n+n'+2) * (μ+n'):=by
      rw[<- bF];exact ba _ oM
     refine⟨_,rfl,_,rfl,_,rfl,ze ⟨rfl,rfl,o7.of (hF _ _ hm),rfl,R,zq nm p so r1 ev n _ en ((n+n'+2) * (μ+n)) ⟨hS,rfl,⟨hso.same hF.t,(j5.same uF.t ro1).seq,(j5.same hF.t h3).seq,T4 (hB.row wd wal) hB.en oM oM,hz⟩,λw1 F1 t1 i1=>?_⟩⟩⟩;have hF1:=hF.trans t1;refine⟨_,rfl,_,rfl,_,rfl,ze ⟨rfl,rfl,o7.of (hF1 _ _ hm'),rfl,R,zq nm p so r2 ev' n' _ en' ((n+n'+2) * (μ+n')) ⟨hS,rfl,⟨hso.same hF1.t,(j5.same (uF.trans t1).t ro2).seq,(j5.same hF1.t h3').seq,T4 (hB'.row wd wal) hB'.en oM oM,hz'⟩,λw2 F2 t2 i2=>?_⟩⟩⟩;have hF2:=hF1.trans t2;have t12:=t1.trans t2;by_cases e:L3 R.S l n st tb en wd=L3 R.S l n' st' tb' en' wd
     . refine R.neD (R.same t2.t i1) i2 e ⟨_,rfl,?_⟩
       (try refine AU ?_)
       have bl0:(gB l ((Ef l k).take i)).length<=10000:=by
        rw[GW];have a1:((Ef l k).take i).length<=l.length ^ k:=by rw[bz,Li];omega
        have a2:=ba l.length a1;rw[<- cg]at a2;exact af a2 (pw oM)
       have hbs2:=t12 _ _ hbs;obtain⟨tq,tabs,rfl,htq,eT⟩:=id h2;obtain⟨tq',tabs',rfl,htq',eT'⟩:=id h2';refine⟨_,rfl,ze ⟨rfl,rfl,o7.of (hF2 _ _ hm),rfl,.str (tx l),za ⟨rfl,rfl,rfl,Ks (n:=l.length) (λj σ F3=>∃v9 v10 bs',σ=[some so,some (.ref mp),some (.ref mp'),some (.ref lp),some (.int (0+(k:Int))),some (.ref bp),some (vT wd),some r1,some r2,v9,v10]/\i3 bp F2 F3/\F3 bp=some (.lst bs')/\i0 (MN R l n n' st tb st' tb' (gB l ((Ef l k).take i)++(l.take j).map λc=>wd++[c])) bs' ((gB l ((Ef l k).take i)).length+j) F3) ⟨_,_,bs,rfl,i3.refl _ _,hbs2,?_⟩ ?_ ?_⟩⟩⟩
       . rw[List.take_zero,List.map_nil,aN];exact eB.mono λ_ _ _ z=>MN.same t12.t z
       . rintro j σ F3 hj ⟨v9'',v10'',bs',rfl,sF3,hb3,e3⟩;have ec:l[j]? = some l[j]:=ax hj;have es:(L2.W7 (tx l))[j]? = some (vT [l[j]]):=by
          simp only[L2.W7,tx,aD];rw[ec];rfl
         refine⟨za ⟨rfl,es⟩,λx G3 hy=>?_⟩;obtain⟨pp,x2,rfl,np,rfl,hx⟩:=hy;have:=hx _ rfl;rw[es]at this;cases this;have cl:=bc hj;have ix:=L.nd.idxOf_getElem j hj;revert ec cl ix np;generalize l[j]=c;intro ec np cl ix;refine G8 (o:=.tup [V.int (j:Nat),vT [c]]) np λF4 s4 k4=>?_;have tF3:w9 F2 F3:=λq vs hq=>sF3 q _ (λz=>by rw[z,hbs2]at hq;cases hq) hq;have tF4:=tF3.trans s4.t;have hF4:=hF2.t.trans tF4;obtain⟨tu,etu,ptu⟩:=eT.2 j hj;obtain⟨tu',etu',ptu'⟩:=eT'.2 j hj;have el3:=e3.1;have tcj:E5 l tb c=tb j:=by unfold E5;rw[ix]
         have tcj':E5 l tb' c=tb' j:=by unfold E5;rw[ix]
         refine⟨pp,_,rfl,o7.of k4,rfl,za ⟨rfl,za ⟨rfl,rfl,?_⟩⟩⟩;refine⟨_,rfl,.inl ⟨rfl,_,t8.of (s4 _ _ hb3)⟩,_,rfl,_,rfl,za ⟨rfl,rfl,(by show(tx wd).length+(tx [c]).length<=_;rw[O8,O8];show _+1<=_;omega),?_⟩⟩;refine⟨_,rfl,_,rfl,_,rfl,ze ⟨rfl,rfl,o7.of (hF4 _ _ hm),rfl,_,rfl,ze ⟨rfl,rfl,o7.of (hF4 _ _ htq),J2 etu,R,zq nm p so r1 tu n (w4 R.S n st (E5 l tb) wd) (tb j) ((n+n'+2) * (μ+n)) ⟨hS,rfl,⟨hso.same hF4,j5.same ((uF.trans t12).t.trans tF4) ro1,D7.same hF4 ptu,oM,λq hq=>T4 (hB.row wd wal) ((hB.tb j hj).col hq) oM oM,hz⟩,λv1 F5 s5 g1=>?_⟩⟩⟩⟩;have hF5:=hF4.trans s5.t;refine⟨_,rfl,_,rfl,_,rfl,ze ⟨rfl,rfl,o7.of (hF5 _ _ hm'),rfl,_,rfl,ze ⟨rfl,rfl,o7.of (hF5 _ _ htq'),J2 etu',R,zq nm p so r2 tu' n' (w4 R.S n' st' (E5 l tb') wd) (tb' j) ((n+n'+2) * (μ+n')) ⟨hS,rfl,⟨hso.same hF5,j5.same (((uF.trans t12).t.trans tF4).trans s5.t) ro2,D7.same hF5 ptu',oM,λq hq=>T4 (hB'.row wd wal) ((hB'.tb j hj).col hq) oM oM,hz'⟩,λv2 F6 s6 g2=>?_⟩⟩⟩⟩;refine⟨(by show 3<=sizeLine;decide),λp7 n7=>?_⟩;rw[show(tx wd++tx [c])=tx (wd++[c])from MT wd [c]];refine G8 (o:=.tup [V.str (tx (wd++[c])),v1,v2]) n7 λF7 s7 k7=>?_;have Rb:=s4.trans (s5.trans (s6.trans s7));refine⟨bp,bs',_,rfl,rfl,Rb _ _ hb3,oM,?_⟩;have sx:i3 bp F2 (upd F7 bp (.lst (bs'++[V.ref p7]))):=sF3.trans ((i3.of Rb).trans i3.upd);have st7:=y9 (o:=.lst (bs'++[V.ref p7])) (Rb _ _ hb3);have tk:(l.take (j+1)).map (λc=>wd++[c])=(l.take j).map (λc=>wd++[c])++[wd++[c]]:=by rw[E7 ec,bH];rfl
         have lk:((l.take j).map λc=>wd++[c]).length=j:=by rw[aj,bz];omega
         refine zd ⟨rfl,sx,c5,?_⟩;rw[tk,<- bD];refine(e3.mono λq _ hq z=>MN.app (by rw[ai,lk];exact hq) (MN.same st7 (MN.same Rb.t z))).snoc ⟨wd++[c],p7,v1,v2,?_,rfl,st7 _ _ k7,?_,?_⟩
         . rw[aQ (by rw[ai,lk];exact ae _),ai,lk,cq];rfl
         . rw[D6,tcj];exact j5.same st7 (j5.same (s6.trans s7).t g1)
         . rw[D6,tcj'];exact j5.same st7 (j5.same s7.t g2)
       . rintro σ F3 ⟨v9'',v10'',bs',rfl,sF3,hb3,e3⟩;refine⟨⟨_,rfl,by simp[L2.W7,tx]⟩,?_⟩;rw[bb]at e3;have eg:gB l ((Ef l k).take (i+1))=gB l ((Ef l k).take i)++l.map λc=>wd++[c]:=Lp ew;refine zf ⟨bs',rfl,sF.trans ((i3.of t12).trans sF3),hb3,?_,λu hu=>?_⟩
         . rw[eg,ai,aj];exact e3
         . rw[E7 ew]at hu;rcases aA.mp hu with hu | hu
           . exact hwi u hu
           . rw[az.mp hu];exact e
     . refine R.neT (R.same t2.t i1) i2 e ⟨_,rfl,?_⟩
       (try refine Fi ?_)
       refine⟨_,rfl,?_⟩;refine kQ _ _ hF2 (.inr ⟨wd,rfl,⟨wal,oM⟩,e,λu hu hb=>?_⟩);unfold Cs at hb;by_cases ul:u.length=wd.length
       . rw[if_pos ul]at hb;obtain⟨j,hj,ej⟩:=cK.mp (JV k u oM hu);have il':i < (Ef l k).length:=il;have ei:(Ef l k)[i]=wd:=by
          rw[ax il']at ew;exact Option.some.inj ew
         by_cases ji:j < i
         . exact hwi u (aR (i:=j) (by rw[List.getElem?_take,if_pos ji,ax hj,ej]))
         . exfalso;have pwl:(Ef l k).Pairwise λu v=>BY l u v=true:=by
            have:∀k,(Ef l k).Pairwise λu v=>BY l u v=true:=by
             intro k
             induction k with
             | zero=>exact dw _ _
             | succ k ih=>exact Rq L.nd (k:=k) (λu hu=>(JW k u hu).1) ih
            exact this k
           by_cases jj:j=i
           . subst jj;rw[ej]at ei;rw[ei,BX]at hb;cases hb
           . have:=cP.mp pwl i j il' hj oM;rw[ei,ej]at this;have:=CM this hb;rw[BX]at this;cases this
       . rw[if_neg ul]at hb;have:=of_decide_eq_true hb;exact hw u hu oM
   . rintro σ F ⟨v6',v7',v8',v9',v10',bs,rfl,sF,hbs,eB,hwi⟩;rw[eL.1,bb]at eB hwi;refine⟨_,rfl,?_⟩;refine⟨bp,bs,zg ⟨rfl,sG.trans (up sF),hbs,eB,λu hu ul=>?_⟩⟩;by_cases z:u.length < k
     . exact hw u hu z
     . exact hwi u (JV k u oM hu)
 . rintro σ G ⟨lp,us,v4,v5,v6,v7,v8,v9,v10,rfl,sG,hlp,eL,hw⟩;exact kQ _ _ sG (.inl ⟨rfl,λu hu h=>hw u hu oM⟩)
abbrev WE(R:g9 Pr w K mg base):Nat->V->Hp->Prop:=λ_ u H=>∃x,R.is H u x/\R.B.cb 12 48 x
theorem WE.same{R:g9 Pr w K mg base}{i:Nat}{u:V}{H H':Hp}(s:w9 H H')(h:WE R i u H):WE R i u H':=let⟨x,a,b⟩:=h;⟨x,R.same s a,b⟩
def Ci{P:Nat->V->Hp->Prop}{us:List V}{n k:Nat}{u:V}{H:Hp}(h:i0 P us n H)(hk:k < n)(hu:P k u H):i0 P (us.set k u) n H:=by
 have hl:=h.1;refine⟨by rw[bW];exact hl,λi hi=>?_⟩;by_cases e:k=i
 . subst e;exact⟨u,by rw[cR oM],hu⟩
 . obtain⟨v,ev,q⟩:=h.2 i hi;exact⟨v,by rw[bU e];exact ev,q⟩
def CT{n j:Nat}(h:j < n):OT n (j:Int)=some j:=by
 unfold OT;rw[if_pos oM,if_pos oM];simp
def none_of{H H1:Hp}{b:Addr}(s:h8 H H1)(n:H1 b=none):H b=none:=by
 cases e:H b with
 | none=>rfl
 | some o=>rw[s _ _ e]at n;cases n
def Nz{H H1:Hp}{b:Addr}{o:HO}(s:h8 H H1)(n:H b=none):h8 H (upd H1 b o):=λc u hc=>by rw[j6 (j0 hc n)];exact s _ _ hc
def LX(T:Txt K mg t):Sp:=λvs H Q _=>∃(R:g9 Pr w K mg base),∃nm p,∃(a:Addr),∃so l,∃(n:Nat),∃(z:Int),So T R nm p/\vs=[.ref a,so,vT l,.int z]/\(Dr H a/\K7 H so nm p/\W5 l/\1<=l.length/\n<=60/\z=n)/\∀v H' st tb en,i3 a H H'->Dr H' a->r9 R l n st tb en v H'->MC R 12 48 n l.length st tb en->Q v H'
def GA(T:Txt K mg t):o9 Pr w K mg base D2 40 t.f0k t.c0w Uj (LX (w:=w) (base:=base) T):=by
 refine T.d0g.F.ok z9 (by rintro _ _ _ _ ⟨_,_,_,_,_,_,_,_,_,rfl,_⟩;rfl) λcdv A outer s H vs Q E hr h=>?_;obtain⟨R,nm,p,a,so,l,n,z,hS,rfl,⟨hD,hso,L,l1,hn,rfl⟩,k⟩:=h;have l3:=L.h3;have zl:10000 < sizeLine:=by decide
 refine⟨_,(a9 (Bn (i:=4) z9.nd rfl (Or.inr rfl) (C3 (Q1 T) hr.m T.g0n (D0 (pv 1) c4))) (a9 (P7 (i₀:=5) (xs:=["_law_k"]) z9.nd rfl (Or.inl rfl) rfl (show p9 Zp (b9 F9) _ from⟨rfl,dK,dK,dK,dK,dK⟩) (x5 rfl T.z_range (x9 (pv 3))) (λ_ _ _ _ _=>(j9 (i:=13) (by show List.Nodup (["_law_state_here","_law_sort_here","_law_letters_here","_law_many","_law_nought","_law_picked","_law_tables","_law_at","_law_table","_law_q","_law_line","_law_start","_law_ends","_law_k"]:List Str);decide +kernel) rfl (Or.inl rfl))) (λ_ _ _ _ _=>(B9 (l8 (w:=w) (base:=base) T) hr.m rfl T.e0g.m T.e0g.F.kp T.e0g.b .nil B0 (D0 (pv 0) (o5 (show R3 _ (.builtin "len") (λxs H Q=>∃x n,xs=[x]/\AX K x H n/\Q (V.int (n:Nat)) H)from u9) (by rfl) T.z_len PySem.boot_len (x9 (pv 2))))))) (a9 (sT 6 z9.nd (D4 F0)) (a9 (G0 aC rfl (x5 rfl T.z_range (x9 (o5 u9 (by rfl) T.z_len PySem.boot_len (x9 (pv 2))))) (gN 7 z9.nd) (a9 (sT 8 z9.nd (D4 F0)) (a9 (G0 aC rfl (x5 rfl T.z_range (x9 (pv 3))) (gN 9 z9.nd) (a9 (P7 (i₀:=10) (xs:=["_law_r"]) z9.nd rfl (Or.inl rfl) rfl (show p9 Zp (b9 F9) _ from⟨rfl,dK,dK,dK,dK,dK⟩) (x5 rfl T.z_range (x9 (pv 3))) (λ_ _ _ _ _=>(j9 (i:=13) (by show List.Nodup (n3N);decide +kernel) rfl (Or.inl rfl))) (λ_ _ _ _ _=>(pv 4))) (a9 (w8 (PW.pt (JH (l4 NM (l5 E3 (pv 9) c4) (pv 3) (l6 _)) (Lb (l4 D5 (j8 D1 (pv 5) (pv 9) (λ_ _=>rfl)) (pv 7) (l6 _))))) (c6 (U1 (C3 (Q1 T) hr.m T.g0n (D0 (pv 1) c4)) (Ac (pv 10) (l5 E3 (pv 9) c4) O4))) l9) (c6 (E1 (U6 bg bI bJ J1 (pv 8) (x9 (j7 g6 (by rfl) T.z_tuple boot_tuple (x9 (pv 10)))))))))) (c6 (E1 (U6 bg bI bJ J1 (pv 6) (x9 (j7 g6 (by rfl) T.z_tuple boot_tuple (x9 (pv 8)))))))))) (a9 (P7 (i₀:=11) (xs:=["_law_r"]) z9.nd rfl (Or.inl rfl) rfl (show p9 Zp (b9 F9) _ from⟨rfl,dK,dK,dK,dK,dK⟩) (x5 rfl T.z_range (x9 (pv 3))) (λ_ _ _ _ _=>(j9 (i:=13) (by show List.Nodup (n3N);decide +kernel) rfl (Or.inl rfl))) (λ_ _ _ _ _=>(pv 4))) (a9 (P7 (i₀:=12) (xs:=["_law_r"]) z9.nd rfl (Or.inl rfl) rfl (show p9 Zp (b9 F9) _ from⟨rfl,dK,dK,dK,dK,dK⟩) (x5 rfl T.z_range (x9 (pv 3))) (λ_ _ _ _ _=>(j9 (i:=13) (by show List.Nodup (n3N);decide +kernel) rfl (Or.inl rfl))) (λ_ _ _ _ _=>(pv 4))) (a9 (w8 (l4 W9 (pv 3) c4 (l6 _)) (a9 (U1 (C3 (Q1 T) hr.m T.g0n (D0 (pv 1) c4)) (Ac (pv 11) c4 O4)) (c6 (U1 (C3 (Q1 T) hr.m T.g0n (D0 (pv 1) c4)) (Ac (pv 12) (l5 CI (pv 3) c4) O4)))) l9) (c6 (d9 (B4 (Jk (pv 2) (j7 g6 (by rfl) T.z_tuple boot_tuple (x9 (pv 11))) (j7 g6 (by rfl) T.z_tuple boot_tuple (x9 (pv 6))) (j7 g6 (by rfl) T.z_tuple boot_tuple (x9 (pv 12)))))))))))))),?_⟩;refine⟨_,rfl,R,zi nm p so 0 ⟨hS,rfl,⟨hso,by decide,by decide⟩,λzv H1 x0 s1 f1 ez _ _ _ _=>?_⟩⟩;cases ez rfl;have d1:=hD.same s1;refine⟨_,rfl,_,rfl,oM,oM,o8 (n:=n) (λj ys H2=>i3 a H1 H2/\Dr H2 a/\i0 (λ_ u _=>∃r:Int,u=.int r) ys j H2) oM ⟨i3.refl _ _,d1,i0.nil⟩ (λj ys H2 q=>q.2.2.1) ?_ ?_ ?_⟩
 . rintro j ys H2 hj ⟨q,d2,e2⟩;refine Ej (by omega) ?_;refine⟨⟨[some _],rfl,rfl⟩,_,rfl,_,rfl,za ⟨rfl,Mr oM,a,l.length,rfl,⟨d2,oM,oM⟩,λr H3 s3 d3 a3 b3=>?_⟩⟩;exact⟨q.trans s3,d3,(e2.mono λ_ _ _ z=>z).snoc ⟨r,rfl⟩⟩
 . rintro ys H2 ⟨q,d2,e2⟩;show(n:Int).toNat<=n;omega
 rintro ks H0 kp ⟨q0,d0,e0⟩ nkp;refine G8 (o:=.lst ks) nkp λHk t1 hkp=>?_;have sk:i3 a H Hk:=(i3.of s1).trans (q0.trans (.of t1));have dk:=d0.same t1;have uk:=sk.tt hD;have ik:R.is Hk zv R.S.zero:=R.same ((q0.tt d1).trans t1.t) f1;have c0:R.B.cb 12 48 R.S.zero:=R.B.mono _ _ _ _ (aK _) (R.B.zero 12 (by decide));have c1:R.B.cb 12 48 R.S.one:=R.B.mono _ _ _ _ (by decide) (R.B.up _ _ 12 _ (by decide) R.B.one);have ek:i0 (λ_ u _=>∃r:Int,u=.int r) ks n Hk:=e0.mono λ_ _ _ z=>z;clear t1 nkp q0 d0 e0 f1 s1 d1;refine⟨aK _,λtp ntp=>?_⟩;refine G8 (o:=.lst []) ntp λH2 s2 k2=>?_;refine⟨_,rfl,za ⟨rfl,Mr oM,_,rfl,oM,oM,?_⟩⟩;refine AF (lo:=0) (n:=((l.length:Nat):Int).toNat) (λi σ G=>∃v7 v8 v9 v10 ys,σ=[some (.ref a),some so,some (vT l),some (.int n),some zv,some (.ref kp),some (.ref tp),v7,v8,v9,v10,none,none]/\h8 Hk G/\G tp=some (.lst ys)/\i0 (λ_ u H=>P1 R 12 48 n u H) ys i G) ⟨_,_,_,_,[],rfl,s2,k2,i0.nil⟩ ?_ ?_
 . rintro i σ G hi ⟨v7,v8,v9,v10,ys,rfl,sG,hG,eG⟩;refine⟨aK _,λbp nbp=>?_⟩;refine G8 (o:=.lst []) nbp λH3 s3 k3=>?_;refine⟨_,rfl,_,rfl,oM,oM,?_⟩;refine AF (lo:=0) (n:=(n:Int).toNat) (λj σ F=>∃v9 v10 zs,σ=[some (.ref a),some so,some (vT l),some (.int n),some zv,some (.ref kp),some (.ref tp),some (.int (0+(i:Int))),some (.ref bp),v9,v10,none,none]/\h8 G F/\F bp=some (.lst zs)/\i0 (λ_ u H=>K9 R 12 48 n u H) zs j F) ⟨_,_,[],rfl,s3,k3,i0.nil⟩ ?_ ?_
   . rintro j σ F hj ⟨v9',v10',zs,rfl,sF,hF,eF⟩;have kF:=sG.trans sF;refine⟨_,rfl,_,rfl,oM,oM,o8 (n:=n) (λj' ys' F'=>F'=F/\i0 (WE R) ys' j' F) oM ⟨rfl,i0.nil⟩ (λj ys H2 q=>q.2.1) ?_ ?_ ?_⟩
     . rintro j' ys' F' hj' ⟨rfl,e'⟩;refine Ej (by omega) ?_;exact⟨⟨[some _],rfl,rfl⟩,_,rfl,rfl,e'.snoc ⟨_,R.same kF.t ik,c0⟩⟩
     . rintro ys' F' ⟨rfl,e'⟩;show(n:Int).toNat<=n;omega
     rintro us F' lp ⟨rfl,e'⟩ nlp;refine G8 (o:=.lst us) nlp λF4 s4 k4=>?_;show y7 10 (.ref lp) [some (.ref a),some so,some (vT l),some (.int n),some zv,some (.ref kp),some (.ref tp),some (.int (0+(i:Int))),some (.ref bp),some (.int (0+(j:Int))),v10',none,none] F4 _;refine(λ(key:∀F5 us',h8 F' F5->F5 lp=some (.lst us')->i0 (WE R) us' n F5->(?F2:L2.St->Hp->Prop) [some (.ref a),some so,some (vT l),some (.int n),some zv,some (.ref kp),some (.ref tp),some (.int (0+(i:Int))),some (.ref bp),some (.int (0+(j:Int))),some (.ref lp),none,none] F5)=>?main) ?O6
     case main=>
      have e4:i0 (WE R) us n F4:=e'.mono λ_ _ _ z=>WE.same s4.t z;refine⟨_,rfl,za ⟨rfl,rfl,_,rfl,za ⟨rfl,rfl,_,rfl,?_⟩⟩⟩;refine Av (λlt=>?_) (λ_=>?_);rotate_left
      . refine AU ?_;exact key F4 us s4 k4 e4
      obtain⟨ku,eku,r,rfl⟩:=ek.2 j oM;refine⟨_,rfl,_,rfl,ze ⟨rfl,rfl,t8.of ((kF.trans s4) _ _ hkp),(by rw[show(0+(j:Int))=((j:Nat):Int) by omega];exact J2 eku),_,rfl,rfl,_,rfl,?_⟩⟩;refine X4 (λ_=>?_) (λ_=>key F4 us s4 k4 e4);refine⟨_,rfl,R,zi nm p so 1 ⟨hS,rfl,⟨hso.same (uk.trans (kF.trans s4).t),by decide,by decide⟩,λov F5 x1 s5 f5 _ eo _ _ _=>?_⟩⟩;cases eo rfl;refine⟨_,rfl,_,rfl,za ⟨rfl,rfl,lp,us,_,j+1,rfl,rfl,s5 _ _ k4,(by rw[show(0+(j:Int)+1)=((j+1:Nat):Int) by omega];exact CT (by rw[e4.1];omega)),?_⟩⟩;have nx:=y9 (o:=.lst (us.set (j+1) ov)) (s5 _ _ k4);exact key _ _ (Nz (s4.trans s5) nlp) c5 (Ci (e4.mono λ_ _ _ z=>WE.same (s5.t.trans nx) z) oM ⟨_,R.same nx f5,c1⟩)
     case O6=>
      rintro F5 us' s5 k5 e5;refine⟨_,rfl,.inl ⟨rfl,_,t8.of (s5 _ _ hF)⟩,_,rfl,lp,us',rfl,.inl ⟨t8.of k5,λl2 n2=>?_⟩⟩;have t2:=c7 (o:=.tup us') n2;have k6:=t2 _ _ (s5 _ _ hF);have hr6:K9 R 12 48 n (.ref l2) (upd F5 l2 (.tup us')):=⟨l2,us',rfl,c5,e5.mono λ_ _ _ z=>WE.same t2.t z⟩;refine⟨bp,zs,_,rfl,rfl,k6,(by rw[eF.1];omega),?_⟩;have nx:=y9 (o:=.lst (zs++[.ref l2])) k6;exact za ⟨zs++[.ref l2],rfl,Nz (sF.trans (s5.trans t2)) nbp,c5,(eF.mono λ_ _ _ h=>K9.same ((s5.trans t2).t.trans nx) h).snoc (K9.same nx hr6)⟩
   . rintro σ F ⟨v9',v10',zs,rfl,sF,hF,eF⟩;rw[show(n:Int).toNat=n by omega]at eF;refine⟨_,rfl,.inl ⟨rfl,_,t8.of (sF _ _ hG)⟩,_,rfl,bp,zs,rfl,.inl ⟨t8.of hF,λl2 n2=>?_⟩⟩;have t2:=c7 (o:=.tup zs) n2;have k6:=t2 _ _ (sF _ _ hG);have hr6:P1 R 12 48 n (.ref l2) (upd F l2 (.tup zs)):=⟨l2,zs,rfl,c5,eF.mono λ_ _ _ z=>K9.same t2.t z⟩;refine⟨tp,ys,_,rfl,rfl,k6,(by rw[eG.1];omega),?_⟩;have nx:=y9 (o:=.lst (ys++[.ref l2])) k6;exact ze ⟨ys++[.ref l2],rfl,Nz (sG.trans (sF.trans t2)) ntp,c5,(eG.mono λ_ _ _ h=>P1.same ((sF.trans t2).t.trans nx) h).snoc (P1.same nx hr6)⟩
 . rintro σ G ⟨v7,v8,v9,v10,ys,rfl,sG,hG,eG⟩;rw[show((l.length:Nat):Int).toNat=l.length by omega]at eG;refine⟨_,rfl,_,rfl,oM,oM,o8 (n:=n) (λj' ys' F'=>F'=G/\i0 (WE R) ys' j' G) oM ⟨rfl,i0.nil⟩ (λj ys H2 q=>q.2.1) ?_ ?_ ?_⟩
   . rintro j' ys' F' hj' ⟨rfl,e'⟩;refine Ej (by omega) ?_;exact⟨⟨[some _],rfl,rfl⟩,_,rfl,rfl,e'.snoc ⟨_,R.same sG.t ik,c0⟩⟩
   . rintro ys' F' ⟨rfl,e'⟩;show(n:Int).toNat<=n;omega
   rintro us G' sp ⟨rfl,e1⟩ nsp;refine G8 (o:=.lst us) nsp λG4 s4 k4=>?_;have e1:i0 (WE R) us n G4:=e1.mono λ_ _ _ z=>WE.same s4.t z;have sG4:=sG.trans s4;refine⟨_,rfl,_,rfl,oM,oM,o8 (n:=n) (λj' ys' F'=>F'=G4/\i0 (WE R) ys' j' G4) oM ⟨rfl,i0.nil⟩ (λj ys H2 q=>q.2.1) ?_ ?_ ?_⟩
   . rintro j' ys' F' hj' ⟨rfl,e'⟩;refine Ej (by omega) ?_;exact⟨⟨[some _],rfl,rfl⟩,_,rfl,rfl,e'.snoc ⟨_,R.same sG4.t ik,c0⟩⟩
   . rintro ys' F' ⟨rfl,e'⟩;show(n:Int).toNat<=n;omega
   rintro es G5 ep ⟨rfl,e2⟩ nep;refine G8 (o:=.lst es) nep λG6 s5 k5=>?_;have e2:i0 (WE R) es n G6:=e2.mono λ_ _ _ z=>WE.same s5.t z;have sG6:h8 G' G6:=s4.trans s5;have nep0:G' ep=none:=none_of s4 nep;have ne:sp≠ep:=λz=>by rw[z,nep]at k4;cases k4
   show y7 12 (.ref ep) [some (.ref a),some so,some (vT l),some (.int n),some zv,some (.ref kp),some (.ref tp),v7,v8,v9,v10,some (.ref sp),none] G6 _;refine(λ(key:∀J us es,h8 G' J->J sp=some (.lst us)->J ep=some (.lst es)->i0 (WE R) us n J->i0 (WE R) es n J->(?F4:L2.St->Hp->Prop) [some (.ref a),some so,some (vT l),some (.int n),some zv,some (.ref kp),some (.ref tp),v7,v8,v9,v10,some (.ref sp),some (.ref ep)] J)=>?main4) ?rest4
   case main4=>
    have e1':i0 (WE R) us n G6:=e1.mono λ_ _ _ z=>WE.same s5.t z;refine⟨_,rfl,za ⟨rfl,rfl,_,rfl,?_⟩⟩;refine Av (λlt=>?_) (λ_=>?_);rotate_left
    . exact key G6 us es sG6 (s5 _ _ k4) k5 e1' e2
    refine⟨_,rfl,R,zi nm p so 1 ⟨hS,rfl,⟨hso.same (uk.trans (sG.trans sG6).t),by decide,by decide⟩,λov F5 x1 s7 f5 _ eo _ _ _=>?_⟩⟩;cases eo rfl;have ks7:=s7 _ _ (s5 _ _ k4);refine⟨_,rfl,sp,us,_,0,rfl,rfl,ks7,(show OT us.length ((0:Nat):Int)=some 0 from CT (by rw[e1.1];omega)),?_⟩;have nx:=y9 (o:=.lst (us.set 0 ov)) ks7;have u7:=s7.t.trans nx;refine⟨_,rfl,R,zi nm p so 1 ⟨hS,rfl,⟨hso.same ((uk.trans (sG.trans sG6).t).trans u7),by decide,by decide⟩,λov2 F6 x2 s8 f6 _ eo2 _ _ _=>?_⟩⟩;cases eo2 rfl;have ke8:=s8 ep _ (by rw[j6 (Ne.symm ne)];exact s7 _ _ k5);refine⟨_,rfl,_,rfl,za ⟨rfl,rfl,ep,es,_,n - 1,rfl,rfl,ke8,(by rw[show((n:Int) - 1)=((n - 1:Nat):Int) by omega];exact CT (by rw[e2.1];omega)),?_⟩⟩;have nx2:=y9 (o:=.lst (es.set (n - 1) ov2)) ke8;refine key _ (us.set 0 ov) (es.set (n - 1) ov2) (Nz ((Nz (s4.trans (s5.trans s7)) nsp).trans s8) nep0) (by rw[j6 ne];exact s8 _ _ c5) c5 ?_ ?_
    . exact Ci (e1'.mono λ_ _ _ z=>WE.same (u7.trans (s8.t.trans nx2)) z) oM ⟨_,R.same (nx.trans (s8.t.trans nx2)) f5,c1⟩
    . exact Ci (e2.mono λ_ _ _ z=>WE.same (u7.trans (s8.t.trans nx2)) z) oM ⟨_,R.same nx2 f6,c1⟩
   case rest4=>
    rintro J us es sJ ks ke f1 f2;refine⟨_,rfl,_,rfl,sp,us,rfl,.inl ⟨t8.of ks,λq1 n1=>?_⟩⟩;have j1:=c7 (o:=.tup us) n1;refine⟨_,rfl,tp,ys,rfl,.inl ⟨t8.of (j1 _ _ (sJ _ _ hG)),λq2 n2=>?_⟩⟩;have j2:=c7 (o:=.tup ys) n2;have j12:=j1.trans j2;refine⟨_,rfl,ep,es,rfl,.inl ⟨t8.of (j12 _ _ ke),λq3 n3=>?_⟩⟩;have j3:=c7 (o:=.tup es) n3;refine⟨(by show 4<=sizeLine;decide),λq4 n4=>?_⟩;have j4:=c7 (o:=.tup [vT l,.ref q1,.ref q2,.ref q3]) n4;have j34:=j3.trans j4;have j24:=j2.trans j34;have jj:=j12.trans j34;obtain⟨st,r1,c1'⟩:=K9.ch (R:=R) (b:=12) (m:=48) ⟨q1,us,rfl,j24 _ _ c5,f1.mono λ_ _ _ z=>WE.same jj.t z⟩;obtain⟨en,r3,c3'⟩:=K9.ch (R:=R) (b:=12) (m:=48) ⟨q3,es,rfl,j4 _ _ c5,f2.mono λ_ _ _ z=>WE.same jj.t z⟩;obtain⟨tb,r2,c2'⟩:=TabsE.ch (R:=R) (b:=12) (m:=48) (n:=n) (k:=l.length) ⟨q2,ys,rfl,j34 _ _ c5,eG.mono λ_ _ _ z=>P1.same (sJ.trans jj).t z⟩;have sa:h8 Hk _:=sG.trans (sJ.trans jj);exact k _ _ st tb en (sk.trans (.of sa)) (dk.same sa) ⟨q4,_,_,_,rfl,c5,r1,r2,r3⟩ ⟨c1',c2',c3'⟩
def X5(R:g9 Pr w K mg base)(n:Nat)(H0:Hp)(r:Addr)(G:Hp):Prop:=H0 r=none/\∃xs,G r=some (.lst xs)/\i0 (WE R) xs n G
def Dv(R:g9 Pr w K mg base)(n:Nat)(H0:Hp):Nat->V->Hp->Prop:=λ_ u G=>∃r,u=.ref r/\X5 R n H0 r G
def Q0(R:g9 Pr w K mg base)(n:Nat)(H0:Hp):Nat->V->Hp->Prop:=λ_ u G=>∃q us,u=.ref q/\H0 q=none/\G q=some (.lst us)/\i0 (Dv R n H0) us n G
section
variable{R:g9 Pr w K mg base}{n i:Nat}{H0 G G':Hp}{u:V}{r a:Addr}
theorem X5.same(s:h8 G G')(h:X5 R n H0 r G):X5 R n H0 r G':=let⟨z,xs,a,b⟩:=h;⟨z,xs,s _ _ a,b.mono λ_ _ _ z=>WE.same s.t z⟩
theorem Dv.same(s:h8 G G')(h:Dv R n H0 i u G):Dv R n H0 i u G':=let⟨r,e,a⟩:=h;⟨r,e,a.same s⟩
theorem Q0.same(s:h8 G G')(h:Q0 R n H0 i u G):Q0 R n H0 i u G':=let⟨q,us,e,z,a,b⟩:=h;⟨q,us,e,z,s _ _ a,b.mono λ_ _ _ z=>Dv.same s z⟩
def X5.sx(hD:Dr H0 a)(d:Dr G a)(s:i3 a G G')(h:X5 R n H0 r G):X5 R n H0 r G':=let⟨z,xs,e,b⟩:=h;⟨z,xs,s _ _ (hD.ne z) e,b.mono λ_ _ _ z=>WE.same (s.tt d) z⟩
theorem Dv.sx(hD:Dr H0 a)(d:Dr G a)(s:i3 a G G')(h:Dv R n H0 i u G):Dv R n H0 i u G':=let⟨r,e,x⟩:=h;⟨r,e,x.sx hD d s⟩
theorem Q0.sx(hD:Dr H0 a)(d:Dr G a)(s:i3 a G G')(h:Q0 R n H0 i u G):Q0 R n H0 i u G':=let⟨q,us,e,z,x,b⟩:=h;⟨q,us,e,z,s _ _ (hD.ne z) x,b.mono λ_ _ _ z=>Dv.sx hD d s z⟩
def OF{x:Nat->R.S.W}{us:List V}{H:Hp}(h:i0 (λj u H=>R.is H u (x j)) us n H)(c:∀i,i < n->R.B.cb 12 48 (x i)):i0 (WE R) us n H:=⟨h.1,λi hi=>let⟨u,e,q⟩:=h.2 i hi;⟨u,e,x i,q,c i hi⟩⟩
def X5.put{j:Nat}{r':Addr}{xs:List V}(hr:G r=some (.lst xs))(e:i0 (WE R) xs n G)(hj:j < n)(hu:WE R j u G)(h:X5 R n H0 r' G):X5 R n H0 r' (upd G r (.lst (xs.set j u))):=by
 have nx:=y9 (o:=.lst (xs.set j u)) hr;by_cases z:r'=r
 . subst z;exact⟨h.1,_,c5,Ci (e.mono λ_ _ _ z=>WE.same nx z) hj (WE.same nx hu)⟩
 . obtain⟨y,ys,a,b⟩:=h;exact⟨y,ys,by rw[j6 z];exact a,b.mono λ_ _ _ z=>WE.same nx z⟩
def QV{T:Txt K mg t}{nm:Str}{p:Int}(hS:So T R nm p){q r1:Addr}{us xs ys:List V}(n0:0 < n)(h:G r=some (.lst ys))(b:i0 (WE R) ys n G)(hq:G q=some (.lst us))(e:us[0]? = some (.ref r1))(h1:G r1=some (.lst xs)):q≠r:=λz=>by
 rw[z,h]at hq;cases hq;obtain⟨u,eu,x,ix,_⟩:=b.2 0 n0;rw[e]at eu;cases eu;cases hS with
 | fr=>
  obtain⟨px,ep,hx⟩:=ix;cases ep;rw[h1]at hx;cases hx
 | re p hp hq' hi=>cases (show V.ref r1=.int x.x from ix)
theorem Q0.put{T:Txt K mg t}{nm:Str}{p:Int}(hS:So T R nm p){j:Nat}{v:V}{xs:List V}(hr:G r=some (.lst xs))(e:i0 (WE R) xs n G)(hj:j < n)(hu:WE R j u G)(h:Q0 R n H0 i v G):Q0 R n H0 i v (upd G r (.lst (xs.set j u))):=by
 obtain⟨q,us,rfl,z,a,b⟩:=h;obtain⟨u0,e0,r1,rfl,_,ys,hy,_⟩:=b.2 0 oM;refine⟨q,us,rfl,z,by rw[j6 (QV hS oM hr e a e0 hy)];exact a,⟨b.1,λi hi=>?_⟩⟩;obtain⟨u1,e1,r2,rfl,w2⟩:=b.2 i hi;exact⟨_,e1,r2,rfl,w2.put hr e hj hu⟩
end
def Pn(T:Txt K mg t):Sp:=λvs H Q _=>∃(R:g9 Pr w K mg base),∃nm p,∃(a:Addr),∃so mv l,∃(n:Nat),∃st tb en,So T R nm p/\vs=[.ref a,so,mv]/\(Dr H a/\K7 H so nm p/\W5 l/\1<=l.length/\n<=60/\r9 R l n st tb en mv H/\MC R 12 48 n l.length st tb en)/\∀v H' st' tb' en',i3 a H H'->Dr H' a->r9 R l n st' tb' en' v H'->MC R 12 48 n l.length st' tb' en'->Q v H'
def Ea(T:Txt K mg t):o9 Pr w K mg base D2 40 t.c0s t.b0z SX (Pn (w:=w) (base:=base) T):=by
 refine T.c0a.F.ok t9 (by rintro _ _ _ _ ⟨_,_,_,_,_,_,_,_,_,_,_,_,rfl,_⟩;rfl) λcdv A outer s H vs Q E hr h=>?_;obtain⟨R,nm,p,a,so,mv,l,n,st,tb,en,hS,rfl,⟨hD,hso,L,l1,hn,hM,hC⟩,k⟩:=h;obtain⟨mp,sv,tv,ev,rfl,hm,⟨sp,ss,rfl,hsp,eS⟩,⟨tp,tabs,rfl,htp,eT⟩,⟨ep,es,rfl,hep,eE⟩⟩:=id hM;have zl:10000 < sizeLine:=by decide
 have l3:=L.h3;have lS:=eS.1;have lT:=eT.1;have lE:=eE.1;refine⟨_,(a9 (U1 (pv 2) (E9 rfl (k9 (gN 3 t9.nd) (k9 (gN 4 t9.nd) (k9 (gN 5 t9.nd) (k9 (gN 6 t9.nd) B8)))))) (a9 (sT 7 t9.nd (o5 u9 (by rfl) T.z_len PySem.boot_len (x9 (pv 4)))) (a9 (w8 (l4 D5 (pv 7) c4 (l6 _)) (c6 (d9 (pv 2))) l9) (a9 (sT 8 t9.nd (j7 M5 (by rfl) T.z_list boot_list (x9 (pv 4)))) (a9 (sT 9 t9.nd (j7 M5 (by rfl) T.z_list boot_list (x9 (pv 6)))) (a9 (P7 (i₀:=10) (xs:=["_law_table"]) t9.nd rfl (Or.inl rfl) rfl (show p9 n2N (b9 C9) _ from⟨rfl,dK,dK,dK,dK,dK⟩) (L9 (pv 5)) (λ_ _ _ _ _=>(j9 (i:=14) (by show List.Nodup (n1N);decide +kernel) rfl (Or.inl rfl))) (λ_ _ _ _ _=>(w5 (xs:=["_law_line"]) rfl (show p9 n1N (rlS (b9 C9) _) _ from⟨rfl,dK,dK,dK,dK,dK⟩) (show PI _ _ _ (QD K _)from L9 (pv 14)) (λ_ _ _ _ _=>(j9 (i:=15) (by show List.Nodup (n4N);decide +kernel) rfl (Or.inl rfl))) (λ_ _ _ _ _=>(j7 (show R3 _ (.type "list") (λxs H Q=>∃p ys,xs=[.ref p]/\(t8 K H p ys\/o7 K H p ys)/\∀l,H l=none->Q (.ref l) (upd H l (.lst ys)))from M5) (by rfl) T.z_list boot_list (x9 (pv 15))))))) (a9 (sT 11 t9.nd (C3 (l8 T) hr.m T.e0g (D0 (pv 0) c4))) (a9 (sT 12 t9.nd (C3 (O2 T) hr.m T.c0j (D0 (pv 0) (pv 1)))) (a9 (w8 (l4 D5 (pv 11) c4 (l6 _)) (c6 (U1 (pv 12) (Ac (pv 8) (C3 (l8 T) hr.m T.e0g (D0 (pv 0) (pv 7))) O4))) (c6 (w8 (l4 D5 (pv 11) c4 (l6 _)) (c6 (U1 (pv 12) (Ac (pv 9) (C3 (l8 T) hr.m T.e0g (D0 (pv 0) (pv 7))) O4))) (c6 (U1 (pv 12) (Ac (j8 D1 (j8 D1 (pv 10) (C3 (l8 T) hr.m T.e0g (D0 (pv 0) (o5 u9 (by rfl) T.z_len PySem.boot_len (x9 (pv 3))))) (λ_ _=>rfl)) (C3 (l8 T) hr.m T.e0g (D0 (pv 0) (pv 7))) (λ_ _=>rfl)) (C3 (l8 T) hr.m T.e0g (D0 (pv 0) (pv 7))) O4)))))) (a9 (sT 13 t9.nd (j7 g6 (by rfl) T.z_tuple boot_tuple (x9 (w5 (xs:=["_law_table"]) rfl (show p9 n2N (b9 C9) _ from⟨rfl,dK,dK,dK,dK,dK⟩) (F8 (pv 10)) (λ_ _ _ _ _=>(j9 (i:=14) (by show List.Nodup (n1N);decide +kernel) rfl (Or.inl rfl))) (λ_ _ _ _ _=>(j7 (show R3 _ (.type "tuple") (λxs H Q=>∃p ys,xs=[.ref p]/\((t8 K H p ys/\∀l,H l=none->Q (.ref l) (upd H l (.tup ys)))\/(o7 K H p ys/\Q (.ref p) H)))from g6) (by rfl) T.z_tuple boot_tuple (x9 (w5 (xs:=["_law_line"]) rfl (show p9 n1N (rlS (b9 C9) _) _ from⟨rfl,dK,dK,dK,dK,dK⟩) (show PI _ _ _ (Rp K _)from F8 (pv 14)) (λ_ _ _ _ _=>(j9 (i:=15) (by show List.Nodup (n4N);decide +kernel) rfl (Or.inl rfl))) (λ_ _ _ _ _=>(j7 (show R3 _ (.type "tuple") (λxs H Q=>∃p ys,xs=[.ref p]/\((t8 K H p ys/\∀l,H l=none->Q (.ref l) (upd H l (.tup ys)))\/(o7 K H p ys/\Q (.ref p) H)))from g6) (by rfl) T.z_tuple boot_tuple (x9 (pv 15)))))))))))) (c6 (d9 (B4 (Jk (pv 3) (j7 g6 (by rfl) T.z_tuple boot_tuple (x9 (pv 8))) (pv 13) (j7 g6 (by rfl) T.z_tuple boot_tuple (x9 (pv 9))))))))))))))))),?_⟩;refine⟨_,rfl,mp,_,rfl,o7.of hm,rfl,za ⟨rfl,za ⟨rfl,za ⟨rfl,za ⟨rfl,rfl,?_⟩⟩⟩⟩⟩;have hls:AX K (.ref sp) H n:=.inr ⟨_,o7.of hsp,lS.symm⟩;refine⟨_,rfl,za ⟨rfl,hls,?_⟩⟩;refine⟨_,rfl,rfl,_,rfl,?_⟩;refine X4 (λn0=>?_) (λn0=>?_)
 . refine⟨_,rfl,?_⟩;exact k _ _ st tb en (i3.refl _ _) hD hM hC
 have n0:0 < n:=by omega
 refine⟨_,rfl,sp,ss,rfl,.inr (o7.of hsp),λfp nfp=>?_⟩;refine G8 (o:=.lst ss) nfp λH1 s1 k1=>?_;have w1:X5 R n H fp H1:=⟨nfp,_,k1,OF (eS.mono λ_ _ _ z=>R.same s1.t z) hC.st⟩;show y7 8 (.ref fp) [some (.ref a),some so,some (.ref mp),some (vT l),some (.ref sp),some (.ref tp),some (.ref ep),some (.int (n:Nat)),none,none,none,none,none,none] H1 _;refine⟨_,rfl,ep,es,rfl,.inr (o7.of (s1 _ _ hep)),λgp ngp=>?_⟩;refine G8 (o:=.lst es) ngp λH2 s2 k2=>?_;have Dc:=s1.trans s2;have w2:X5 R n H gp H2:=⟨none_of s1 ngp,_,k2,OF (eE.mono λ_ _ _ z=>R.same Dc.t z) hC.en⟩;have w1:=w1.same s2;show y7 9 (.ref gp) [some (.ref a),some so,some (.ref mp),some (vT l),some (.ref sp),some (.ref tp),some (.ref ep),some (.int (n:Nat)),some (.ref fp),none,none,none,none,none] H2 _;refine⟨_,rfl,tp,rfl,⟨_,o7.of (Dc _ _ htp)⟩,o8 (n:=l.length) (λi ys G=>h8 H2 G/\i0 (Q0 R n H) ys i G) oM ⟨h8.refl _,i0.nil⟩ (λj ys H2 q=>q.2.1) ?_ ?_ ?_⟩
 . rintro i ys G hi ⟨sG,e⟩;obtain⟨tu,etu,ptu⟩:=eT.2 i hi;refine⟨za ⟨o7.of ((Dc.trans sG) _ _ htp),etu⟩,λy G' hy=>?_⟩;obtain⟨rfl,hy⟩:=hy;have:=hy _ (o7.of ((Dc.trans sG) _ _ htp));rw[etu]at this;cases this;obtain⟨ap,rows,rfl,hap,eA⟩:=D7.same (Dc.trans sG).t ptu;refine⟨⟨[some _],rfl,rfl⟩,_,rfl,ap,rfl,⟨_,o7.of hap⟩,o8 (n:=n) (λj zs F=>h8 G' F/\i0 (Dv R n H) zs j F) oM ⟨h8.refl _,i0.nil⟩ (λj ys H2 q=>q.2.1) ?_ ?_ ?_⟩
   . rintro j zs F hj ⟨sF,e'⟩;obtain⟨ru,eru,pru⟩:=eA.2 j hj;refine Dt (o7.of (sF _ _ hap)) eru ?_;obtain⟨rp,xs,rfl,hrp,eX⟩:=j5.same sF.t pru;refine⟨⟨[some _],rfl,rfl⟩,_,rfl,rp,xs,rfl,.inr (o7.of hrp),λq nq=>?_⟩;have t1:=c7 (o:=.lst xs) nq;exact⟨sF.trans t1,(e'.mono λ_ _ _ z=>Dv.same t1 z).snoc ⟨q,rfl,none_of ((Dc.trans sG).trans sF) nq,_,c5,OF (eX.mono λ_ _ _ z=>R.same t1.t z) (hC.tb i hi j hj)⟩⟩
   . rintro zs F ⟨sF,e'⟩;exact⟨_,o7.of (sF _ _ hap),by rw[eA.1];exact ae _⟩
   . rintro zs F q ⟨sF,e'⟩ nq;have t1:=c7 (o:=.lst zs) nq;exact⟨sG.trans (sF.trans t1),(e.mono λ_ _ _ z=>Q0.same (sF.trans t1) z).snoc ⟨q,zs,rfl,none_of ((Dc.trans sG).trans sF) nq,c5,e'.mono λ_ _ _ z=>Dv.same t1 z⟩⟩
 . rintro ys G ⟨sG,e⟩;exact⟨_,o7.of ((Dc.trans sG) _ _ htp),by rw[lT];exact ae _⟩
 rintro ls G lp ⟨sG,eL⟩ nlp;refine G8 (o:=.lst ls) nlp λH3 s3 k3=>?_;have eL:i0 (Q0 R n H) ls l.length H3:=eL.mono λ_ _ _ z=>Q0.same s3 z;have Rf:=sG.trans s3;have w1:=w1.same Rf;have w2:=w2.same Rf;have Gn:=Dc.trans Rf;have d3:=hD.same Gn;clear k1 k2 s3 Rf;show y7 10 (.ref lp) [some (.ref a),some so,some (.ref mp),some (vT l),some (.ref sp),some (.ref tp),some (.ref ep),some (.int (n:Nat)),some (.ref fp),some (.ref gp),none,none,none,none] H3 _;have hlp:H lp=none:=none_of (Dc.trans sG) nlp;refine⟨_,rfl,a,4,rfl,⟨d3,by decide,by decide⟩,λway H4 s4 d4 a4 b4=>?_⟩;show y7 11 (.int way) [some (.ref a),some so,some (.ref mp),some (vT l),some (.ref sp),some (.ref tp),some (.ref ep),some (.int (n:Nat)),some (.ref fp),some (.ref gp),some (.ref lp),none,none,none] H4 _;have q4:i3 a H H4:=(i3.of Gn).trans s4;refine⟨_,rfl,_,rfl,R,zi nm p a so ⟨hS,rfl,⟨d4,hso.same (q4.tt hD)⟩,λxv H5 x s5 d5 ix cx=>?_⟩⟩;have q5:=q4.trans s5;have PB:=s4.trans s5;have w1:=w1.sx hD d3 PB;have w2:=w2.sx hD d3 PB;have k5:=PB _ _ (hD.ne hlp) k3;have eL:i0 (Q0 R n H) ls l.length H5:=eL.mono λ_ _ _ z=>Q0.sx hD d3 PB z;clear PB k3 s4 s5 q4 d4 d3;show y7 12 xv [some (.ref a),some so,some (.ref mp),some (vT l),some (.ref sp),some (.ref tp),some (.ref ep),some (.int (n:Nat)),some (.ref fp),some (.ref gp),some (.ref lp),some (.int way),none,none] H5 _;obtain⟨lq,el0,q0,us0,rfl,hq0,kq0,eq0⟩:=eL.2 0 oM;refine(λ(key:∀G,i3 a H G->Dr G a->X5 R n H fp G->X5 R n H gp G->G lp=some (.lst ls)->i0 (Q0 R n H) ls l.length G->(?F2:L2.St->Hp->Prop) [some (.ref a),some so,some (.ref mp),some (vT l),some (.ref sp),some (.ref tp),some (.ref ep),some (.int (n:Nat)),some (.ref fp),some (.ref gp),some (.ref lp),some (.int way),some xv,none] G)=>?main) ?O6
 case main=>
  have stor:∀{G:Hp} {r:Addr} {xs:List V} {j:Nat},i3 a H G->Dr G a->X5 R n H fp G->X5 R n H gp G->G lp=some (.lst ls)->i0 (Q0 R n H) ls l.length G->R.is G xv x->H r=none->G r=some (.lst xs)->i0 (WE R) xs n G->j < n->i3 a H (upd G r (.lst (xs.set j xv)))/\Dr (upd G r (.lst (xs.set j xv))) a/\X5 R n H fp (upd G r (.lst (xs.set j xv)))/\X5 R n H gp (upd G r (.lst (xs.set j xv)))/\(upd G r (.lst (xs.set j xv))) lp=some (.lst ls)/\i0 (Q0 R n H) ls l.length (upd G r (.lst (xs.set j xv))):=λ{G r xs j} sG dG v1 v2 hl eG ixv hr kr er hj=>by
   obtain⟨lq,el0,q0,us0,rfl,hq0,kq0,eq0⟩:=eG.2 0 oM;exact⟨λc o nc hc=>(by rw[j6 (j0 hc hr)];exact sG c o nc hc),dG.put (hD.ne hr),v1.put kr er hj ⟨x,ixv,cx⟩,v2.put kr er hj ⟨x,ixv,cx⟩,(by rw[j6 (QV hS n0 kr er hl el0 kq0)];exact hl),⟨eG.1,λi hi=>let⟨v,e,z⟩:=eG.2 i hi;⟨v,e,Q0.put hS kr er hj ⟨x,ixv,cx⟩ z⟩⟩⟩
  refine⟨_,rfl,rfl,_,rfl,?_⟩;refine X4 (λ_=>?_) (λ_=>?_)
  . refine⟨_,rfl,_,rfl,_,rfl,_,rfl,a,_,rfl,⟨d5,oM,oM⟩,λr H6 s6 d6 a6 b6=>?_⟩;obtain⟨j,rfl⟩:∃j:Nat,r=(j:Int):=⟨r.toNat,oM⟩;obtain⟨z,xs,kx,ex⟩:=w1.sx hD d5 s6;refine⟨fp,xs,_,j,rfl,rfl,kx,CT (by rw[ex.1];omega),?_⟩;obtain⟨z1,z2,z3,z4,z5,z6⟩:=stor (q5.trans s6) d6 (w1.sx hD d5 s6) (w2.sx hD d5 s6) (s6 _ _ (hD.ne hlp) k5) (eL.mono λ_ _ _ z=>Q0.sx hD d5 s6 z) (R.same (s6.tt d5) ix) z kx ex (show j < n by omega);exact key _ z1 z2 z3 z4 z5 z6
  refine⟨_,rfl,rfl,_,rfl,?_⟩;refine X4 (λ_=>?_) (λ_=>?_)
  . refine⟨_,rfl,_,rfl,_,rfl,_,rfl,a,_,rfl,⟨d5,oM,oM⟩,λr H6 s6 d6 a6 b6=>?_⟩;obtain⟨j,rfl⟩:∃j:Nat,r=(j:Int):=⟨r.toNat,oM⟩;obtain⟨z,xs,kx,ex⟩:=w2.sx hD d5 s6;refine⟨gp,xs,_,j,rfl,rfl,kx,CT (by rw[ex.1];omega),?_⟩;obtain⟨z1,z2,z3,z4,z5,z6⟩:=stor (q5.trans s6) d6 (w1.sx hD d5 s6) (w2.sx hD d5 s6) (s6 _ _ (hD.ne hlp) k5) (eL.mono λ_ _ _ z=>Q0.sx hD d5 s6 z) (R.same (s6.tt d5) ix) z kx ex (show j < n by omega);exact key _ z1 z2 z3 z4 z5 z6
  refine⟨_,rfl,_,rfl,_,rfl,_,rfl,za ⟨rfl,Mr oM,a,_,rfl,⟨d5,oM,oM⟩,λr1 H6 s6 d6 a6 b6=>?_⟩⟩;obtain⟨j1,rfl⟩:∃j:Nat,r1=(j:Int):=⟨r1.toNat,oM⟩;have eL6:i0 (Q0 R n H) ls l.length H6:=eL.mono λ_ _ _ z=>Q0.sx hD d5 s6 z;obtain⟨_,et1,tq,us,rfl,nt,kt,eU⟩:=eL6.2 j1 oM;refine ze ⟨rfl,rfl,t8.of (s6 _ _ (hD.ne hlp) k5),J2 et1,_,rfl,_,rfl,a,_,rfl,⟨d6,oM,oM⟩,λr2 H7 s7 d7 a7 b7=>?_⟩;obtain⟨j2,rfl⟩:∃j:Nat,r2=(j:Int):=⟨r2.toNat,oM⟩;obtain⟨_,et2,rq,rfl,wr⟩:=eU.2 j2 oM;refine ze ⟨rfl,rfl,t8.of (s7 _ _ (hD.ne nt) kt),J2 et2,_,rfl,_,rfl,a,_,rfl,⟨d7,oM,oM⟩,λr3 H8 s8 d8 a8 b8=>?_⟩;obtain⟨j3,rfl⟩:∃j:Nat,r3=(j:Int):=⟨r3.toNat,oM⟩;have Ud:=s7.trans s8;have OS:=s6.trans Ud;obtain⟨z,xs,kx,ex⟩:=wr.sx hD d6 Ud;refine⟨rq,xs,_,j3,rfl,rfl,kx,CT (by rw[ex.1];omega),?_⟩;obtain⟨z1,z2,z3,z4,z5,z6⟩:=stor (q5.trans OS) d8 (w1.sx hD d5 OS) (w2.sx hD d5 OS) (OS _ _ (hD.ne hlp) k5) (eL.mono λ_ _ _ z=>Q0.sx hD d5 OS z) (R.same (OS.tt d5) ix) z kx ex (show j3 < n by omega);exact key _ z1 z2 z3 z4 z5 z6
 case O6=>
  rintro G6 q6 d6 v1 v2 k6 e6;refine⟨_,rfl,lp,rfl,⟨_,t8.of k6⟩,o8 (n:=l.length) (λi ys G=>h8 G6 G/\i0 (λ_ u H=>P1 R 12 48 n u H) ys i G) oM ⟨h8.refl _,i0.nil⟩ (λj ys H2 q=>q.2.1) ?_ ?_ ?_⟩
  . rintro i ys G hi ⟨sG,e⟩;obtain⟨_,et,tq,us,rfl,nt,kt,eU⟩:=e6.2 i hi;refine⟨za ⟨t8.of (sG _ _ k6),et⟩,λy G' hy=>?_⟩;obtain⟨rfl,hy⟩:=hy;have:=hy _ (t8.of (sG _ _ k6));rw[et]at this;cases this;refine⟨⟨[some _],rfl,rfl⟩,_,rfl,tq,rfl,⟨_,t8.of (sG _ _ kt)⟩,o8 (n:=n) (λj zs F=>h8 G' F/\i0 (λ_ u H=>K9 R 12 48 n u H) zs j F) oM ⟨h8.refl _,i0.nil⟩ (λj ys H2 q=>q.2.1) ?_ ?_ ?_⟩
    . rintro j zs F hj ⟨sF,e'⟩;obtain⟨_,er,rq,rfl,_,xs,kx,ex⟩:=eU.2 j hj;have sGF:=sG.trans sF;refine Kh (t8.of (sGF _ _ kt)) er ?_;refine⟨⟨[some _],rfl,rfl⟩,_,rfl,rq,xs,rfl,.inl ⟨t8.of (sGF _ _ kx),λq nq=>?_⟩⟩;have t1:=c7 (o:=.tup xs) nq;exact⟨sF.trans t1,(e'.mono λ_ _ _ z=>K9.same t1.t z).snoc ⟨q,xs,rfl,c5,ex.mono λ_ _ _ z=>WE.same (sGF.trans t1).t z⟩⟩
    . rintro zs F ⟨sF,e'⟩;exact⟨_,t8.of ((sG.trans sF) _ _ kt),by rw[eU.1];exact ae _⟩
    . rintro zs F q ⟨sF,e'⟩ nq;have t1:=c7 (o:=.lst zs) nq;refine⟨q,zs,rfl,.inl ⟨t8.of c5,λq2 nq2=>?_⟩⟩;have t2:=t1.trans (c7 (o:=.tup zs) nq2);exact⟨sG.trans (sF.trans t2),(e.mono λ_ _ _ z=>P1.same (sF.trans t2).t z).snoc ⟨q2,zs,rfl,c5,e'.mono λ_ _ _ z=>K9.same t2.t z⟩⟩
  . rintro ys G ⟨sG,e⟩;exact⟨_,t8.of (sG _ _ k6),by rw[e6.1];exact ae _⟩
  rintro ys G q ⟨sG,e⟩ nq;have t1:=c7 (o:=.lst ys) nq;refine⟨q,ys,rfl,.inl ⟨t8.of c5,λq2 nq2=>?_⟩⟩;have t2:=t1.trans (c7 (o:=.tup ys) nq2);have ht:K0 (λ_ u H=>P1 R 12 48 n u H) l.length (.ref q2) (upd (upd G q (.lst ys)) q2 (.tup ys)):=⟨q2,ys,rfl,c5,e.mono λ_ _ _ z=>P1.same t2.t z⟩;revert t2 ht;generalize upd (upd G q (.lst ys)) q2 (.tup ys)=G7;intro t2 ht;have s7:=sG.trans t2;show y7 13 (.ref q2) [some (.ref a),some so,some (.ref mp),some (vT l),some (.ref sp),some (.ref tp),some (.ref ep),some (.int (n:Nat)),some (.ref fp),some (.ref gp),some (.ref lp),some (.int way),some xv,none] G7 _;obtain⟨_,fs,kf,ef⟩:=v1.same s7;obtain⟨_,gs,kg,eg⟩:=v2.same s7;refine⟨_,rfl,_,rfl,fp,fs,rfl,.inl ⟨t8.of kf,λp1 n1=>?_⟩⟩;have j1:=c7 (o:=.tup fs) n1;refine⟨_,rfl,_,rfl,gp,gs,rfl,.inl ⟨t8.of (j1 _ _ kg),λp3 n3=>?_⟩⟩;have j3:=c7 (o:=.tup gs) n3;refine⟨(by show 4<=sizeLine;decide),λp4 n4=>?_⟩;have j4:=c7 (o:=.tup [vT l,.ref p1,.ref q2,.ref p3]) n4;have j34:=j3.trans j4;have jj:=j1.trans j34;obtain⟨st',r1,c1'⟩:=K9.ch (R:=R) (b:=12) (m:=48) ⟨p1,fs,rfl,j34 _ _ c5,ef.mono λ_ _ _ z=>WE.same jj.t z⟩;obtain⟨en',r3,c3'⟩:=K9.ch (R:=R) (b:=12) (m:=48) ⟨p3,gs,rfl,j4 _ _ c5,eg.mono λ_ _ _ z=>WE.same jj.t z⟩;obtain⟨tb',r2,c2'⟩:=TabsE.ch (ht.mono jj.t λ_ _ _ z=>P1.same jj.t z);exact k _ _ st' tb' en' (q6.trans (.of (s7.trans jj))) (d6.same (s7.trans jj)) ⟨p4,_,_,_,rfl,c5,r1,r2,r3⟩ ⟨c1',c2',c3'⟩
def sp_lright:Sp:=λvs H Q _=>∃q x v,∃(b:Bool),vs=[.ref q,v]/\H q=some (.tup [.str (Str.ofString (if b then "yes" else "no")),x])/\((b=true/\v=.non)\/∃u,b=false/\v=vT u/\x=vT u)/\∀H',h8 H H'->Q (.bl true) H'
def V8(T:Txt K mg t):o9 Pr w K mg base D2 2 t.f0f t.d0e Qk sp_lright:=by
 refine T.d0k.F.ok Ge (by rintro _ _ _ _ ⟨_,_,_,_,rfl,_⟩;rfl) λcdv A outer s H vs Q E hr h=>?_;obtain⟨q,x,v,b,rfl,hq,hb,k⟩:=h;refine⟨_,(a9 (w8 (PW.pt (HY (Aa (Q9 (o5 Cn (by rfl) T.z_isinstance boot_isinstance (D0 (pv 0) (Dy (v:=.ty "tuple") rfl T.z_tuple boot_tuple rfl))))) (Gp (l4 NL (o5 u9 (by rfl) T.z_len PySem.boot_len (x9 (pv 0))) c4 (l6 _))))) (c6 (d9 BP)) l9) (a9 (w8 (l4 NN (pv 1) DS (l6 _)) (c6 (d9 (AE D5 (j8 h9 (pv 0) c4 (λ_ _=>rfl)) Ae (l6 _)))) l9) (c6 (d9 (Gs (AE D5 (j8 h9 (pv 0) c4 (λ_ _=>rfl)) Ae (l6 _)) (Gs (o5 Cn (by rfl) T.z_isinstance boot_isinstance (D0 (j8 h9 (pv 0) c4 (λ_ _=>rfl)) (Dy (v:=.ty "str") rfl T.z_str boot_str rfl))) (JJ (AE D5 (j8 h9 (pv 0) c4 (λ_ _=>rfl)) (pv 1) (l6 _))))))))),?_⟩;refine⟨_,rfl,ze ⟨rfl,AV.tup hq,T.k_tt,_,rfl,?_⟩⟩
 (try refine AU ?_)
 refine⟨_,rfl,za ⟨rfl,.inr ⟨_,o7.of hq,rfl⟩,rfl,_,rfl,?_⟩⟩;refine Ro (λne=>absurd rfl ne) (λ_=>?_);rcases hb with ⟨rfl,rfl⟩ | ⟨u,rfl,rfl,rfl⟩
 . refine⟨_,rfl,rfl,_,rfl,?_⟩;refine Au (decide_eq_true rfl) ?_;refine⟨_,rfl,ze ⟨rfl,rfl,o7.of hq,rfl,rfl,?_⟩⟩;show Q (V.bl (decide (V.str (Str.ofString "yes")=V.str (Str.ofString "yes")))) H;rw[decide_eq_true rfl];exact k _ (h8.refl _)
 . refine⟨_,rfl,rfl,_,rfl,?_⟩;refine Ei (decide_eq_false λz=>nomatch z) ?_;refine⟨_,rfl,ze ⟨rfl,rfl,o7.of hq,rfl,rfl,_,rfl,?_⟩⟩;refine Au (decide_eq_true rfl) ?_;refine⟨_,rfl,ze ⟨rfl,rfl,o7.of hq,rfl,ze ⟨rfl,.str _,T.k_ss,_,rfl,?_⟩⟩⟩;refine Au rfl ?_;refine⟨_,rfl,ze ⟨rfl,rfl,o7.of hq,rfl,_,rfl,rfl,?_⟩⟩;show Q (V.bl (decide (vT u=vT u))) H;rw[decide_eq_true rfl];exact k _ (h8.refl _)
def cmB{i j:Int}(h1:0<=i)(h2:i<=9)(h3:0<=j)(h4:j<=9):RB i j:=by
 have key:∀k:Nat,k < 10->Builtin.Int.intBits (k:Int)<=2 ^ 20:=by decide
 have e1:=key i.toNat oM;have e2:=key j.toNat oM;rw[ck h1]at e1;rw[ck h3]at e2;exact⟨e1,e2⟩
structure Rt(b:Bool)(l n n':Nat):Prop where
 a:b=false->n<=3/\n'<=3/\n+n'<=5/\(l=3->n+n'<=4)
 c:b=true->(l=1/\n<=7/\n'<=7)\/(l=2/\n<=4/\n'<=4)
def Pk(T:Txt K mg t):Sp:=λvs H Q _=>∃(R:g9 Pr w K mg base),∃nm p,∃(a:Addr),∃so l,∃(b:Bool),So T R nm p/\vs=[.ref a,so,vT l,.bl b]/\(Dr H a/\K7 H so nm p/\W5 l/\1<=l.length/\(b=true->l.length<=2))/\∀q mv ov (n n':Nat) st tb en st' tb' en' H',i3 a H H'->Dr H' a->H' q=some (.tup [mv,ov])->r9 R l n st tb en mv H'->r9 R l n' st' tb' en' ov H'->MC R 12 48 n l.length st tb en->MC R 12 48 n' l.length st' tb' en'->Rt b l.length n n'->Q (.ref q) H'
def JM(T:Txt K mg t):o9 Pr w K mg base D2 42 t.h0e t.f0d SY (Pk (w:=w) (base:=base) T):=by
 refine T.f0z.F.ok C7 (by rintro _ _ _ _ ⟨_,_,_,_,_,_,_,_,rfl,_⟩;rfl) λcdv A outer s H vs Q E hr h=>?_;obtain⟨R,nm,p,a,so,l,b,hS,rfl,⟨hD,hso,L,l1,hb⟩,k⟩:=h;have l3:=L.h3;have zl:10000 < sizeLine:=by decide
 refine⟨_,(a9 (sT 4 C7.nd c4) (a9 (w8 (l4 D5 (o5 u9 (by rfl) T.z_len PySem.boot_len (x9 (pv 2))) c4 (l6 _)) (c6 (sT 4 C7.nd c4)) l9) (a9 (sT 5 C7.nd (C3 (l8 T) hr.m T.e0g (D0 (pv 0) c4))) (a9 (w8 (Q9 (pv 3)) (a9 (sT 4 C7.nd (j8 D1 (D4 (D0 c4 c4)) (l5 CI (o5 u9 (by rfl) T.z_len PySem.boot_len (x9 (pv 2))) c4) (λ_ _=>rfl))) (c6 (sT 5 C7.nd (l5 E3 c4 (C3 (l8 T) hr.m T.e0g (D0 (pv 0) (l5 CI c4 (l5 Gv c4 (j7 FK (by rfl) T.z_int boot_int (x9 (AE D5 (o5 u9 (by rfl) T.z_len PySem.boot_len (x9 (pv 2))) c4 (l6 _)))))))))))) l9) (a9 (sT 6 C7.nd (C3 (M0 T) hr.m T.c0c (Jk (pv 0) (pv 1) (pv 2) (pv 5)))) (a9 (sT 7 C7.nd (C3 (l8 T) hr.m T.e0g (D0 (pv 0) c4))) (a9 (w8 (l4 D5 (pv 7) c4 (l6 _)) (c6 (d9 (B4 (D0 (pv 6) (C3 (M0 T) hr.m T.c0c (Jk (pv 0) (pv 1) (pv 2) (C3 (l8 T) hr.m T.e0g (D0 (pv 0) (l5 E3 (o5 (MI rfl) (by rfl) T.z_min boot_min (D0 (l5 E3 c4 (l5 Gv c4 (j7 FK (by rfl) T.z_int boot_int (x9 (pv 3))))) (l5 CI (pv 4) (pv 5)))) c4))))))))) l9) (a9 (w8 (l4 D5 (pv 7) c4 (l6 _)) (a9 (sT 8 C7.nd (C3 (GA T) hr.m T.d0g (Jk (pv 0) (pv 1) (pv 2) (pv 5)))) (c6 (d9 (B4 (D0 (pv 8) (C3 (M0 T) hr.m T.c0c (Jk (pv 0) (pv 1) (pv 2) c4))))))) l9) (a9 (w8 (l4 W9 (l5 Gv c4 (pv 5)) (pv 4) (l6 _)) (c6 (sT 6 C7.nd (C3 (M0 T) hr.m T.c0c (Jk (pv 0) (pv 1) (pv 2) c4)))) l9) (c6 (d9 (B4 (D0 (pv 6) (C3 (Ea T) hr.m T.c0a (W8 (pv 0) (pv 1) (pv 6)))))))))))))))),?_⟩;refine(λ(key:∀(m:Int),(m=5\/m=4)->(l.length=3->m=4)->(?F2:L2.St->Hp->Prop) [some (.ref a),some so,some (vT l),some (.bl b),some (.int m),none,none,none,none] H)=>?main) ?O6
 case main=>
  refine⟨_,rfl,za ⟨rfl,Mr oM,rfl,_,rfl,?_⟩⟩;refine X4 (λe=>?_) (λe=>?_)
  . exact key 4 (.inr rfl) (λ_=>rfl)
  . exact key 5 (.inl rfl) (λh=>absurd h oM)
 case O6=>
  rintro m hm hm3;refine⟨_,rfl,a,4,rfl,⟨hD,by decide,by decide⟩,λr1 H1 s1 d1 a1 b1=>?_⟩;obtain⟨n,rfl⟩:∃n:Nat,r1=(n:Int):=⟨r1.toNat,oM⟩;show y7 5 (.int (n:Nat)) [some (.ref a),some so,some (vT l),some (.bl b),some (.int m),none,none,none,none] H1 _;refine(λ(key2:∀(G:Hp) (m:Int) (n:Nat),i3 a H G->Dr G a->(b=false->n<=3/\(m=5\/m=4)/\(l.length=3->m=4))->(b=true->(l.length=1/\m=14/\4<=n/\n<=7)\/(l.length=2/\m=8/\n=4))->(?F4:L2.St->Hp->Prop) [some (.ref a),some so,some (vT l),some (.bl b),some (.int m),some (.int (n:Nat)),none,none,none] G)=>?main4) ?rest4
  case main4=>
   cases b with
   | false=>
    refine⟨_,rfl,_,rfl,?_⟩
    (try refine AU ?_)
    exact key2 H1 m n s1 d1 (λ_=>⟨oM,hm,hm3⟩) (λh=>nomatch h)
   | true=>
    have l2:=hb rfl;refine⟨_,rfl,_,rfl,?_⟩
    (try refine Fi ?_)
    refine⟨(by show 2<=sizeLine;decide),λlp nlp=>?_⟩;have t2:=c7 (o:=.lst [V.int 14,V.int 8]) nlp;refine⟨_,rfl,za ⟨rfl,Mr oM,za ⟨rfl,rfl,ze ⟨rfl,rfl,t8.of c5,(show MK _ _=some (V.int (if l.length=1 then 14 else 8))from ?_),?_⟩⟩⟩⟩
    . rcases(by omega:l.length=1\/l.length=2)with e | e <;>rw[e] <;>rfl
    show y7 4 (.int (if l.length=1 then 14 else 8)) [some (.ref a),some so,some (vT l),some (.bl true),some (.int m),some (.int (n:Nat)),none,none,none] _ _;have d2:=d1.same t2;refine⟨_,rfl,_,rfl,za ⟨rfl,Mr oM,rfl,.inr ⟨_,rfl,?_⟩⟩⟩;obtain⟨c,ec,hc⟩:∃c:Int,(if decide (V.int ((l.length:Nat):Int)=V.int 2)=true then(1:Int)else 0)=c/\((l.length=1/\c=0)\/(l.length=2/\c=1)):=by
     rcases(by omega:l.length=1\/l.length=2)with e | e <;>rw[e] <;>simp
    rw[ec];refine za ⟨rfl,rfl,(cmB oM oM oM oM),za ⟨rfl,rfl,a,_,rfl,⟨d2,oM,oM⟩,λr G4 s4 d4 a4 b4=>za ⟨rfl,rfl,?_⟩⟩⟩;obtain⟨n4,e4⟩:∃n4:Nat,4+r=(n4:Int):=⟨(4+r).toNat,oM⟩;show y7 5 (.int (4+r)) [some (.ref a),some so,some (vT l),some (.bl true),some (.int (if l.length=1 then 14 else 8)),some (.int (n:Nat)),none,none,none] G4 _;rw[e4];refine key2 G4 _ n4 ((s1.trans (.of t2)).trans s4) d4 (λh=>nomatch h) (λ_=>?_);rcases hc with ⟨h,_⟩ | ⟨h,_⟩
    . exact .inl ⟨h,if_pos h,oM,oM⟩
    . exact .inr ⟨h,if_neg oM,oM⟩
  case rest4=>
   rintro G m n sG dG z1 z2;have n7:n<=7:=by cases b with
    | false=>exact af (z1 rfl).1 (by decide)
    | true=>rcases z2 rfl with h | h <;>omega
   refine⟨_,rfl,_,rfl,_,rfl,_,rfl,R,zm nm p a so l n _ ⟨hS,rfl,⟨dG,hso.same (sG.tt hD),L,oM,rfl⟩,λmv G2 st tb en s2 d2 hM hC=>?_⟩⟩;show y7 6 mv [some (.ref a),some so,some (vT l),some (.bl b),some (.int m),some (.int (n:Nat)),none,none,none] G2 _;refine⟨_,rfl,a,4,rfl,⟨d2,by decide,by decide⟩,λway G3 s3 d3 a3 b3=>?_⟩;show y7 7 (.int way) [some (.ref a),some so,some (vT l),some (.bl b),some (.int m),some (.int (n:Nat)),some mv,none,none] G3 _;have q3:=(sG.trans s2).trans s3;have hM3:=r9.same (s3.tt d2) hM;have hso3:=hso.same (q3.tt hD);refine⟨_,rfl,rfl,_,rfl,?_⟩;refine X4 (λ_=>?_) (λ_=>?_)
   . obtain⟨c,ec,c01⟩:∃c:Int,(if b=true then(1:Int)else 0)=c/\((b=false/\c=0)\/(b=true/\c=1)):=by cases b <;>simp
     have mb:(b=false/\c=0/\n<=3/\(m=5\/m=4)/\(l.length=3->m=4))\/(b=true/\c=1/\((l.length=1/\m=14/\4<=n/\n<=7)\/(l.length=2/\m=8/\n=4))):=by
      rcases c01 with ⟨h,e⟩ | ⟨h,e⟩
      . exact .inl ⟨h,e,z1 h⟩
      . exact .inr ⟨h,e,z2 h⟩
     refine⟨_,rfl,_,rfl,_,rfl,_,rfl,_,rfl,_,rfl,.inr ⟨_,rfl,?_⟩⟩;rw[ec];obtain⟨M,eM,hM0⟩:∃M:Int,(if m - (n:Int) < 3+4 * c then m - (n:Int)else 3+4 * c)=M/\0<=M/\M<=m - n/\M<=3+4 * c:=⟨_,rfl,by split <;>omega⟩;refine za ⟨rfl,rfl,(cmB oM oM oM oM),za ⟨rfl,rfl,_,rfl,_,rfl,za ⟨rfl,rfl,za ⟨rfl,?_⟩⟩⟩⟩;rw[eM];refine za ⟨rfl,rfl,a,_,rfl,⟨d3,oM,oM⟩,λr G4 s4 d4 a4 b4=>?_⟩;obtain⟨n',rfl⟩:∃n':Nat,r=(n':Int):=⟨r.toNat,oM⟩;have q4:=q3.trans s4;refine⟨R,zm nm p a so l n' _ ⟨hS,rfl,⟨d4,hso.same (q4.tt hD),L,oM,rfl⟩,λov G5 st5 tb5 en5 s5 d5 hM5 hC5=>⟨(by show 2<=sizeLine;decide),λq nq=>?_⟩⟩⟩;have t6:=c7 (o:=.tup [mv,ov]) nq;refine k q mv ov n n' st tb en st5 tb5 en5 _ ((q4.trans s5).trans (.of t6)) (d5.same t6) c5 (r9.same ((s4.tt d3).trans ((s5.tt d4).trans t6.t)) hM3) (r9.same t6.t hM5) hC hC5 ⟨λh=>?_,λh=>?_⟩
     . rcases mb with ⟨_,h1⟩ | ⟨h1,_⟩
       . exact⟨oM,oM,oM,oM⟩
       . rw[h]at h1;cases h1
     . rcases mb with ⟨h1,_⟩ | ⟨_,h1⟩
       . rw[h]at h1;cases h1
       . omega
   refine⟨_,rfl,rfl,_,rfl,?_⟩;refine X4 (λ_=>?_) (λ_=>?_)
   . refine⟨_,rfl,_,rfl,_,rfl,_,rfl,R,zm nm p a so l n _ ⟨hS,rfl,⟨d3,hso3,L,l1,oM,rfl⟩,λcv G4 st4 tb4 en4 s4 d4 hM4 hC4=>?_⟩⟩;have q4:=q3.trans s4;refine⟨_,rfl,_,rfl,_,rfl,_,rfl,R,zm nm p a so l 0 _ ⟨hS,rfl,⟨d4,hso.same (q4.tt hD),L,by decide,rfl⟩,λov G5 st5 tb5 en5 s5 d5 hM5 hC5=>⟨(by show 2<=sizeLine;decide),λq nq=>?_⟩⟩⟩;have t6:=c7 (o:=.tup [cv,ov]) nq;exact k q cv ov n 0 st4 tb4 en4 st5 tb5 en5 _ ((q4.trans s5).trans (.of t6)) (d5.same t6) c5 (r9.same ((s5.tt d4).trans t6.t) hM4) (r9.same t6.t hM5) hC4 hC5 ⟨λh=>have:=z1 h;⟨oM,oM,oM,oM⟩,λh=>by rcases z2 h with h | h <;>omega⟩
   refine(λ(key6:∀(G:Hp) (mv:V) (n6:Nat) st tb en,i3 a H G->Dr G a->r9 R l n6 st tb en mv G->MC R 12 48 n6 l.length st tb en->n6<=7->Rt b l.length n6 n6->(?F6:L2.St->Hp->Prop) [some (.ref a),some so,some (vT l),some (.bl b),some (.int m),some (.int (n:Nat)),some mv,some (.int way),none] G)=>?main6) ?rest6
   case main6=>
    refine⟨_,rfl,za ⟨rfl,rfl,(cmB oM oM oM oM),_,rfl,za ⟨rfl,rfl,_,rfl,?_⟩⟩⟩;refine Av (λgt=>?_) (λgt=>?_)
    . refine⟨_,rfl,_,rfl,_,rfl,R,zm nm p a so l 2 _ ⟨hS,rfl,⟨d3,hso3,L,by decide,rfl⟩,λov G5 st5 tb5 en5 s5 d5 hM5 hC5=>?_⟩⟩;refine key6 G5 ov 2 st5 tb5 en5 (q3.trans s5) d5 hM5 hC5 (by decide) ⟨λh=>⟨by decide,by decide,by decide,λ_=>by decide⟩,λh=>?_⟩;rcases z2 h with h | h <;>omega
    . refine key6 G3 mv n st tb en q3 d3 hM3 hC n7 ⟨λh=>?_,λh=>?_⟩
      . have:=z1 h;exact⟨oM,oM,oM,oM⟩
      . rcases z2 h with h | h <;>omega
   case rest6=>
    rintro G mv n st tb en sG dG hM hC hn tw;refine⟨_,rfl,_,rfl,_,rfl,_,rfl,R,zt nm p a so mv l n st tb en ⟨hS,rfl,⟨dG,hso.same (sG.tt hD),L,l1,oM,hM,hC⟩,λov G5 st5 tb5 en5 s5 d5 hM5 hC5=>⟨(by show 2<=sizeLine;decide),λq nq=>?_⟩⟩⟩;have t6:=c7 (o:=.tup [mv,ov]) nq;exact k q mv ov n n st tb en st5 tb5 en5 _ ((sG.trans s5).trans (.of t6)) (d5.same t6) c5 (r9.same ((s5.tt dG).trans t6.t) hM) (r9.same t6.t hM5) hC hC5 tw
def Ez{S:SR}{F:X6 S}{l:List Nat}(nd:l.Nodup){n n':Nat}{st st':Nat->S.W}{tb tb':Nat->Nat->Nat->S.W}{en en':Nat->S.W}{v x:V}{p:Addr}{H':Hp}(hf:Cq S l (n+n') (L3 S l n st tb en) (L3 S l n' st' tb' en') v)
    (h:∀ws,DP (L3 S l (n+n') (Jm n st st') (Jl n tb tb') (LK F n en en')) (Ul F l (n+n') (Jm n st st') (Jl n tb tb') (LK F n en en'))=ws->(ws=[]/\H' p=some (.tup [.str (Str.ofString "yes"),x]))\/∃u T,ws=u::T/\H' p=some (.tup [.str (Str.ofString "no"),vT u])) :
    ∃y,∃(b:Bool),H' p=some (.tup [.str (Str.ofString (if b then "yes" else "no")),y])/\((b=true/\v=.non)\/∃u,b=false/\v=vT u/\y=vT u):=by
 rcases h _ rfl with ⟨e,hp⟩ | ⟨u,T,e,hp⟩
 . refine⟨x,true,hp,.inl ⟨rfl,?_⟩⟩;have z:=QG (F:=F) e;rcases hf with ⟨hv,_⟩ | ⟨u0,_,⟨ha,_⟩,ne,_⟩
   . exact hv
   . exact absurd ((Cj u0 ha).mp (z u0 ha)) ne
 . obtain⟨⟨hl,ha⟩,ne,bf⟩:=OC (F:=F) nd e;refine⟨vT u,false,hp,.inr ⟨u,rfl,?_,rfl⟩⟩;rcases hf with ⟨_,al⟩ | ⟨u0,hv,⟨ha0,_⟩,ne0,bf0⟩
   . exact absurd ((Cj u ha).mpr (al u ha hl)) ne
   . rcases QR nd ha ha0 with rfl | h | h
     . exact hv
     . exact absurd ((Cj u ha).mpr (bf0 u ha h)) ne
     . exact absurd ((Cj u0 ha0).mp (bf u0 ha0 h)) ne0
theorem Cq.symm{S:SR}{l:List Nat}{m m':Nat}{D E:List Nat->S.W}{v:V}(h:Cq S l m D E v)(e:m=m'):Cq S l m' E D v:=by
 subst e;rcases h with ⟨hv,al⟩ | ⟨u0,hv,ha,ne,bf⟩
 . exact .inl ⟨hv,λu h g=>(al u h g).symm⟩
 . exact .inr ⟨u0,hv,ha,λz=>ne z.symm,λu h g=>(bf u h g).symm⟩
def Pc:List Str:=["echelon","alike"]
def Nd(K:aa):Sp:=λvs H Q _=>∃(a:Addr) (ns:List Int),vs=[.ref a]/\t8 K H a (ns.map V.int)/\ns.length<=63/\(∀y∈Pc,∀c P,PySem.W.tabIn K y=some (c,P)->H P=some (.tbl #[]))/\∀H',Q (.bl true) H'
def KS{H:Hp}{P:Addr}{q:Str}(h:H P=some (.tbl #[])):K8 H P q:=⟨#[],h,trivial,λlp v e=>by simp[codeAmong]at e⟩
def Pa(T:Txt K mg t){H:Hp}(h:∀y∈Pc,∀c P,PySem.W.tabIn K y=some (c,P)->H P=some (.tbl #[])):K4 t H:=λp hp=>by
 rcases ak.mp hp with rfl | hp
 . exact KS (h "echelon" (by simp[Pc]) _ _ T.tb_echelon)
 rcases ak.mp hp with rfl | hp
 . exact KS (h "alike" (by simp[Pc]) _ _ T.tb_alike)
 . cases hp
def Kl{n:Nat}{i:Int}(h:(n:Int)<=i):Builtin.Str.strSliceIndices none (some i) 1 n=Builtin.Str.strSliceIndices none (some (n:Int)) 1 n:=by
 have h0:¬i < 0:=by omega
 have h1:¬((n:Int) < 0):=by omega
 have h2:(1:Int) > 0:=by decide
 simp only[Builtin.Str.strSliceIndices,h0,h1,h2,if_false,if_true,Int.min_eq_right h,Int.min_self]
def RR{p:List Nat}{q:Int}(h0:0<=q):Txt.slice (tx p) none (some q)=tx (p.take q.toNat):=by
 by_cases h1:q<=p.length
 . exact Ra h0 h1
 . have e2:Txt.slice (tx p) none (some q)=Txt.slice (tx p) none (some ((p.length:Nat):Int)):=by
    unfold Txt.slice;rw[O8,Kl oM]
   rw[e2,Ra oM (Int.le_refl _),dy oM,dy oM]
theorem W5.take{l:List Nat}(L:W5 l)(k:Nat):W5 (l.take k):=⟨L.nd.sublist (List.take_sublist _ _),λc hc=>L.as c (List.mem_of_mem_take hc),by have:=L.h3;rw[bz];omega⟩
def FY{S:SR}{m:Nat}(h:m<=6\/∀k,Ay S k):Ay S (3 * zC m 6):=by
 rcases h with h | h
 . have h1:zC m 6<=20000000:=by
    rcases(by omega:m=0\/m=1\/m=2\/m=3\/m=4\/m=5\/m=6)with e | e | e | e | e | e | e <;>rw[e] <;>decide +kernel
   exact .inl oM
 . exact h _
def SG(T:Txt K mg t)(hTb:TbA mg base t):o9 Pr w K mg base D2 62 t.law t.h0z ["_law_script"] (Nd K):=by
 refine T.h0x.F.ok T9 (by rintro _ _ _ _ ⟨_,_,rfl,_⟩;rfl) λcdv A outer s H vs Q E hr h=>?_;obtain⟨a0,ns,rfl,hS0,hlen,hP,kQ⟩:=h;have zl:10000 < sizeLine:=by decide
 have hT0:=Pa T hP;refine⟨_,(a9 (sT 1 T9.nd (C3 (Gy T) hr.m T.d0m (x9 (pv 0)))) (a9 (sT 2 T9.nd (C3 (Ij T) hr.m T.d0u (x9 (pv 1)))) (a9 (sT 3 T9.nd (C3 (Il T) hr.m T.d0w (x9 (pv 2)))) (a9 (sT 4 T9.nd (C3 (DY T) hr.m T.c0e (x9 (pv 1)))) (a9 (sT 5 T9.nd (Gs (AE W9 (pv 2) c4 (l6 _)) (JJ (AE D5 (C3 (l8 T) hr.m T.e0g (D0 (pv 1) c4)) c4 (l6 _))))) (a9 (w8 (Q9 (pv 5)) (c6 (sT 4 T9.nd (Ia RS (pv 4) Le (Ld (l5 E3 c4 (C3 (l8 T) hr.m T.e0g (D0 (pv 1) c4))))))) l9) (a9 (U1 (C3 (JM T) hr.m T.f0z (Jk (pv 1) (pv 2) (pv 4) (pv 5))) (E9 rfl (k9 (gN 6 T9.nd) (k9 (gN 7 T9.nd) B8)))) (a9 (sT 8 T9.nd (C3 (Gz T) hr.m T.d0r (W8 (pv 2) (pv 6) (pv 7)))) (a9 (w8 (PW.pt (HY (Aa (Q9 (C3 (V8 T) hr.m T.d0k (D0 (C3 (Ec T hTb) hr.m T.h0h (W8 (pv 3) (pv 6) (pv 7))) (pv 8))))) (Gp (Aa (Q9 (C3 (V8 T) hr.m T.d0k (D0 (C3 (Ec T hTb) hr.m T.h0h (W8 (pv 3) (pv 6) (pv 6))) DS))))))) (c6 (d9 BP)) l9) (c6 (d9 (C3 (V8 T) hr.m T.d0k (D0 (C3 (Ec T hTb) hr.m T.h0h (W8 (pv 3) (pv 7) (pv 6))) (pv 8)))))))))))))),?_⟩;refine⟨_,rfl,a0,ns,rfl,hS0,hlen,λa H1 na s1 d1=>?_⟩;show y7 1 (.ref a) [some (.ref a0),none,none,none,none,none,none,none,none] H1 _;have hT1:=hT0.same s1;refine⟨_,rfl,a,rfl,d1,λR nm p so H2 hS hso s2 d2=>?_⟩;obtain rfl:so=.int p:=hso;obtain⟨xs1,hx1⟩:=d1.lst;have hT2:=hT1.sameX s2 hx1;show y7 2 (.int p) [some (.ref a0),some (.ref a),none,none,none,none,none,none,none] H2 _;refine⟨_,rfl,R,zh nm p (.int p) ⟨hS,rfl,rfl,λkv H3 s3 hk=>?_⟩⟩;show y7 3 kv [some (.ref a0),some (.ref a),some (.int p),none,none,none,none,none,none] H3 _;have d3:=d2.same s3;have hT3:=hT2.same s3;refine⟨_,rfl,a,rfl,d3,λl H4 s4 d4 L l1=>?_⟩;show y7 4 (vT l) [some (.ref a0),some (.ref a),some (.int p),some kv,none,none,none,none,none] H4 _;have hbr:0 < p->∀k,Ay R.S k:=λh=>by
  cases hS with
  | fr=>exact absurd h (by decide)
  | re p hp hq hi=>exact λk=>.inr λ_ _=>trivial
 refine(λ(key:∀(b:Bool) (G:Hp),i3 a H3 G->Dr G a->(b=true->∀k,Ay R.S k)->(?F:L2.St->Hp->Prop) [some (.ref a0),some (.ref a),some (.int p),some kv,some (vT l),some (.bl b),none,none,none] G)=>?main) ?O6
 case main=>
  refine⟨_,rfl,za ⟨rfl,rfl,_,rfl,?_⟩⟩;refine Av (λgt=>?_) (λgt=>?_)
  . refine⟨_,rfl,a,8,rfl,⟨d4,by decide,by decide⟩,λr H5 s5 d5 a5 b5=>⟨rfl,?_⟩⟩;show y7 5 (V.bl (decide (V.int r=V.int 7))) [some (.ref a0),some (.ref a),some (.int p),some kv,some (vT l),none,none,none,none] H5 _;exact key _ H5 (s4.trans s5) d5 (λ_=>hbr gt)
  . exact key false H4 s4 d4 (λh=>nomatch h)
 case O6=>
  intro b G sG dG hb;refine(λ(key2:∀(l:List Nat) (G:Hp),i3 a H3 G->Dr G a->W5 l->1<=l.length->(b=true->l.length<=2)->(?F2:L2.St->Hp->Prop) [some (.ref a0),some (.ref a),some (.int p),some kv,some (vT l),some (.bl b),none,none,none] G)=>?main2) ?rest2
  case main2=>
   cases b with
   | false=>
    refine⟨_,rfl,_,rfl,?_⟩
    (try refine AU ?_)
    exact key2 l G sG dG L l1 (λh=>nomatch h)
   | true=>
    refine⟨_,rfl,_,rfl,?_⟩
    (try refine Fi ?_)
    have h3:=L.h3;refine⟨_,rfl,⟨_,rfl,a,2,rfl,⟨dG,by decide,by decide⟩,λr H5 s5 d5 a5 b5=>za ⟨rfl,rfl,_,rfl,_,rfl,by rw[O8];omega,?_⟩⟩⟩
    (try dsimp only)
    rw[RR oM];exact key2 (l.take (1+r).toNat) H5 (sG.trans s5) d5 (L.take _) (by rw[bz];omega) (λ_=>by rw[bz];omega)
  case rest2=>
   clear L l1 sG dG;intro l G sG dG L l1 hb2;have l3:=L.h3;refine⟨_,rfl,_,rfl,_,rfl,_,rfl,R,zk nm p a (.int p) l b ⟨hS,rfl,⟨dG,rfl,L,l1,hb2⟩,λq mv ov n n' st tb en st' tb' en' H6 s6 d6 hq hM hM' hC hC' tw=>?_⟩⟩;have qX:i3 a H3 H6:=sG.trans s6;obtain⟨xs3,hx3⟩:=d3.lst;have hT6:=hT3.sameX qX hx3;have hk6:T6 R.C R.fs H6 kv:=by
    obtain⟨kp,dx,rfl,hkp⟩:=hk;exact⟨kp,dx,rfl,qX _ _ (λz=>by rw[z,hx3]at hkp;cases hkp) hkp⟩
   have bd:(n<=3/\n'<=3/\n+n'<=5)\/∀k,Ay R.S k:=by
    cases b with
    | false=>exact .inl ⟨(tw.a rfl).1,(tw.a rfl).2.1,(tw.a rfl).2.2.1⟩
    | true=>exact .inr (hb rfl)
   have nn:n<=7/\n'<=7:=by
    cases b with
    | false=>exact⟨af (tw.a rfl).1 (by decide),af (tw.a rfl).2.1 (by decide)⟩
    | true=>rcases tw.c rfl with h | h <;>omega
   have pw:l.length ^ (n+n')<=10000:=by
    have hk:(l.length=1)\/(l.length=2/\n+n'<=8)\/(l.length=3/\n+n'<=8):=by
     cases b with
     | false=>have:=tw.a rfl;omega
     | true=>rcases tw.c rfl with h | h <;>omega
    rcases hk with e | ⟨e,h⟩ | ⟨e,h⟩
    . rw[e,Nat.one_pow];decide
    . rw[e];exact af (cG (by decide) h) (by decide)
    . rw[e];exact af (cG (by decide) h) (by decide)
   have hB:MB R.B n l.length 6 st tb en:=hC.mb (by decide) (by decide) (by decide);have hB':MB R.B n' l.length 6 st' tb' en':=hC'.mb (by decide) (by decide) (by decide);have z1:∀k,k<=3\/(∀k,Ay R.S k)->Ay R.S (3 * ((n+n'+2) * (6+k))):=λk h=>by
    rcases bd with g | g
    . rcases h with h | h
      . have:=bj (show n+n'+2<=7 by omega) (show 6+k<=9 by omega);exact .inl oM
      . exact h _
    . exact g _
   refine⟨q,_,rfl,o7.of hq,rfl,za ⟨rfl,za ⟨rfl,rfl,?_⟩⟩⟩;refine⟨_,rfl,_,rfl,_,rfl,R,nm,p,.int p,mv,ov,l,n,n',6,st,tb,en,st',tb',en',hS,rfl,⟨rfl,hM,hM',hB,hB',L,l1,⟨oM,oM⟩,pw,z1 n (bd.imp_left λg=>g.1),z1 n' (bd.imp_left λg=>g.2.1)⟩,λdv H7 s7 hF=>?_⟩;show y7 8 dv [some (.ref a0),some (.ref a),some (.int p),some kv,some (vT l),some (.bl b),some mv,some ov,none] H7 _;have hT7:=hT6.same s7;have hk7:=hk6.same s7;have hM7:=r9.same s7.t hM;have hN7:=r9.same s7.t hM';refine⟨_,rfl,_,rfl,_,rfl,R,kv,mv,ov,l,n,n',6,st,tb,en,st',tb',en',rfl,⟨hk7,hM7,hN7,(MC.both (by decide) hC hC').mb (by decide) (by decide) (by decide),L,oM,FY (bd.imp_left λg=>by omega),hT7⟩,λp8 x8 H8 sD8 hT8 a8=>?_⟩;have u8:w9 H7 H8:=sD8.tup hT7.not;have hk8:=T6.sameD sD8 hT7.not hk7;obtain⟨y8,b8,e8,f8⟩:=Ez L.nd hF a8;refine⟨_,rfl,p8,y8,dv,b8,rfl,e8,f8,λH9 s9=>⟨_,rfl,?_⟩⟩
   (try refine Fi ?_)
   have hT9:=hT8.same s9;have hM9:=r9.same (u8.trans s9.t) hM7;have hN9:=r9.same (u8.trans s9.t) hN7;refine⟨_,rfl,_,rfl,_,rfl,R,kv,mv,mv,l,n,n,6,st,tb,en,st,tb,en,rfl,⟨hk8.same s9,hM9,hM9,(MC.both (by decide) hC hC).mb (by decide) (by decide) (by decide),L,oM,FY (bd.imp_left λg=>by omega),hT9⟩,λp10 x10 H10 sD10 hT10 a10=>?_⟩;have u10:w9 H9 H10:=sD10.tup hT9.not;have hk10:=T6.sameD sD10 hT9.not (hk8.same s9);obtain⟨y10,b10,e10,f10⟩:=Ez (v:=.non) L.nd (.inl ⟨rfl,λ_ _ _=>rfl⟩) a10;refine⟨p10,y10,.non,b10,rfl,e10,f10,λH11 Uh=>⟨_,rfl,?_⟩⟩
   (try refine AU ?_)
   have hT11:=hT10.same Uh;refine⟨_,rfl,_,rfl,_,rfl,R,kv,ov,mv,l,n',n,6,st',tb',en',st,tb,en,rfl,⟨hk10.same Uh,r9.same (u10.trans Uh.t) hN9,r9.same (u10.trans Uh.t) hM9,(MC.both (by decide) hC' hC).mb (by decide) (by decide) (by decide),L,oM,FY (bd.imp_left λg=>by omega),hT11⟩,λp12 x12 H12 sD12 hT12 a12=>?_⟩;obtain⟨y12,b12,e12,f12⟩:=Ez L.nd (hF.symm (Nat.add_comm ..)) a12;exact⟨_,rfl,p12,y12,dv,b12,rfl,e12,f12,λH13 Gn=>kQ _⟩
def Mt(T:Txt K mg t):∀(s:Shared) (u:Value),BindsTo s t.h0z ⟨[u],[]⟩ [("_law_script",u)]:=by
 obtain⟨oc,od,kV,doc,pm,an,cdv,ct,osl,e,_,_⟩:=T.h0x.F.ex;rw[e];exact λs u=>.of_eq rfl
end
abbrev NS(K:aa)(x:Str)(a:Addr):Prop:=PySem.W.nsIn K mainGlobals x=some (some (.ref a))
abbrev KI(K:aa)(a:Addr):Prop:=PySem.W.keepIn K (.ref a)=true
abbrev FX(K:aa)(n q:Str)(s:Stmt)(a:Addr):Prop:=∃d,KH K n q s a d
def fx{K:aa}{x q:Str}{s:Stmt}{f:Addr}{b:Value}{u v:Option Addr}{w:Array (Option Value)}{c d e g j:Value}(l:K.lookup f=some ⟨b,u,.func (PySem.W.fnOf x q (C0 s) (B3 s) (b9 s) .none c d e v g j),w⟩)(h:PySem.W.codeIn K g q=true)(k:KI K f):FX K x q s f:=⟨_,OA l h k⟩
def Te{us:List Value}{n:Nat}(h:us.length=n+1):∃a l,us=a::l/\l.length=n:=by cases us with | nil=>cases h | cons a l=>exact⟨a,l,rfl,Nat.succ.inj h⟩
def Uo{K:aa}{x q:Str}{s:Stmt}{f:Addr}{fd:FuncData}{p0:Str}(F:KH K x q s f fd)(h:∀(c d e:Value) (v:Option Addr) (g j:Value) (u0:Value),bindArgs (PySem.W.fnOf x q (C0 s) (B3 s) (b9 s) .none c d e v g j) ⟨[u0],[]⟩=pure (([p0]:List Str).zip [u0]):=by intros;rfl):J0 K fd [p0] []:=F.binds λc d e v g j us hl=>match us,hl with | [u0],_=>h c d e v g j u0
def Um{K:aa}{x q:Str}{s:Stmt}{f:Addr}{fd:FuncData}{p0 p1:Str}(F:KH K x q s f fd)(h:∀(c d e:Value) (v:Option Addr) (g j:Value) (u0 u1:Value),bindArgs (PySem.W.fnOf x q (C0 s) (B3 s) (b9 s) .none c d e v g j) ⟨[u0,u1],[]⟩=pure (([p0,p1]:List Str).zip [u0,u1]):=by intros;rfl):J0 K fd [p0,p1] []:=F.binds λc d e v g j us hl=>match us,hl with | [u0,u1],_=>h c d e v g j u0 u1
def ZO{K:aa}{x q:Str}{s:Stmt}{f:Addr}{fd:FuncData}{p0 p1 p2:Str}(F:KH K x q s f fd)(h:∀(c d e:Value) (v:Option Addr) (g j:Value) (u0 u1 u2:Value),bindArgs (PySem.W.fnOf x q (C0 s) (B3 s) (b9 s) .none c d e v g j) ⟨[u0,u1,u2],[]⟩=pure (([p0,p1,p2]:List Str).zip [u0,u1,u2]):=by intros;rfl):J0 K fd [p0,p1,p2] []:=F.binds λc d e v g j us hl=>by obtain⟨u0,_,rfl,k0⟩:=Te hl;obtain⟨u1,_,rfl,k1⟩:=Te k0;obtain⟨u2,_,rfl,k2⟩:=Te k1;cases bA.mp k2;exact h c d e v g j u0 u1 u2
def bn4{K:aa}{x q:Str}{s:Stmt}{f:Addr}{fd:FuncData}{p0 p1 p2 p3:Str}(F:KH K x q s f fd)(h:∀(c d e:Value) (v:Option Addr) (g j:Value) (u0 u1 u2 u3:Value),bindArgs (PySem.W.fnOf x q (C0 s) (B3 s) (b9 s) .none c d e v g j) ⟨[u0,u1,u2,u3],[]⟩=pure (([p0,p1,p2,p3]:List Str).zip [u0,u1,u2,u3]):=by intros;rfl):J0 K fd [p0,p1,p2,p3] []:=F.binds λc d e v g j us hl=>by obtain⟨u0,_,rfl,k0⟩:=Te hl;obtain⟨u1,_,rfl,k1⟩:=Te k0;obtain⟨u2,_,rfl,k2⟩:=Te k1;obtain⟨u3,_,rfl,k3⟩:=Te k2;cases bA.mp k3;exact h c d e v g j u0 u1 u2 u3
abbrev DX(K:aa)(n:Str)(s:Stmt)(a:Addr):Prop:=NS K n a/\FX K n n s a
def dx{K:aa}{x:Str}{s:Stmt}{f:Addr}{b:Value}{u v:Option Addr}{w:Array (Option Value)}{c d e g j:Value}(m:NS K x f)(l:K.lookup f=some ⟨b,u,.func (PySem.W.fnOf x x (C0 s) (B3 s) (b9 s) .none c d e v g j),w⟩)(h:PySem.W.codeIn K g x=true)(k:KI K f):DX K x s f:=⟨m,_,OA l h k⟩
def OH{K:aa}{x:Str}{s:Stmt}{f:Addr}{H:Heap}{mg:Str->Option Value}(X:K.In H)(G:H.Ns mainGlobals mg){p0:Str}(m:DX K x s f)(h:∀(c d e:Value) (v:Option Addr) (g j:Value) (u0:Value),bindArgs (PySem.W.fnOf x x (C0 s) (B3 s) (b9 s) .none c d e v g j) ⟨[u0],[]⟩=pure (([p0]:List Str).zip [u0]):=by intros;rfl):Df K mg x s [p0] f m.2.choose:=⟨m.2.choose_spec,Uo m.2.choose_spec h,cQ X G m.1⟩
def MF{K:aa}{x:Str}{s:Stmt}{f:Addr}{H:Heap}{mg:Str->Option Value}(X:K.In H)(G:H.Ns mainGlobals mg){p0 p1:Str}(m:DX K x s f)(h:∀(c d e:Value) (v:Option Addr) (g j:Value) (u0 u1:Value),bindArgs (PySem.W.fnOf x x (C0 s) (B3 s) (b9 s) .none c d e v g j) ⟨[u0,u1],[]⟩=pure (([p0,p1]:List Str).zip [u0,u1]):=by intros;rfl):Df K mg x s [p0,p1] f m.2.choose:=⟨m.2.choose_spec,Um m.2.choose_spec h,cQ X G m.1⟩
def DC{K:aa}{x:Str}{s:Stmt}{f:Addr}{H:Heap}{mg:Str->Option Value}(X:K.In H)(G:H.Ns mainGlobals mg){p0 p1 p2:Str}(m:DX K x s f)(h:∀(c d e:Value) (v:Option Addr) (g j:Value) (u0 u1 u2:Value),bindArgs (PySem.W.fnOf x x (C0 s) (B3 s) (b9 s) .none c d e v g j) ⟨[u0,u1,u2],[]⟩=pure (([p0,p1,p2]:List Str).zip [u0,u1,u2]):=by intros;rfl):Df K mg x s [p0,p1,p2] f m.2.choose:=⟨m.2.choose_spec,ZO m.2.choose_spec h,cQ X G m.1⟩
def ZI{K:aa}{x:Str}{s:Stmt}{f:Addr}{H:Heap}{mg:Str->Option Value}(X:K.In H)(G:H.Ns mainGlobals mg){p0 p1 p2 p3:Str}(m:DX K x s f)(h:∀(c d e:Value) (v:Option Addr) (g j:Value) (u0 u1 u2 u3:Value),bindArgs (PySem.W.fnOf x x (C0 s) (B3 s) (b9 s) .none c d e v g j) ⟨[u0,u1,u2,u3],[]⟩=pure (([p0,p1,p2,p3]:List Str).zip [u0,u1,u2,u3]):=by intros;rfl):Df K mg x s [p0,p1,p2,p3] f m.2.choose:=⟨m.2.choose_spec,bn4 m.2.choose_spec h,cQ X G m.1⟩
def RG{K:aa}{h:Heap}{mg:Str->Option Value}(X:K.In h)(G:h.Ns mainGlobals mg){A0 A1 A2 A3 A4 A5 A6 A7 A8 A9 A10 A11 A12 A13 A14 A15 A16 A17 A18 A19 A20 A21 A22 A23 A24 A25 A26 A27 A28 A29 A30 A31 A32 A33 A34 A35 A36 A37 A38 A39 A40 A41 A42 A43 A44 A45 A46 A47 A48 A49 A50 A51 A52 A53 A54 A55 A56 A57 A58 A59 A60 A61 A62 A63 A64 A65 A66 A67 A68 A69 c_echelon P_echelon c_alike P_alike:Addr}
 (N0:NS K "Fractions" A0)
 (pg0:PySem.W.plainGet K A0 Str.empty=true)
 (hd0:PySem.W.hasDictIn K A0=true)
 (po0:PySem.W.plainOver K A0=true)
 (sa0:PySem.W.findIn K (.ref A0) "__setattr__"=some (some (.builtin "object.__setattr__")))
 (mk0:PySem.W.makesIn K A0=true)
 (kp0:KI K A0)
 (in0:PySem.W.findIn K (.ref A0) "__init__"=some (some (.builtin "object.__init__")))
 (N1:NS K "Residues" A1)
 (pg1:PySem.W.plainGet K A1 Str.empty=true)
 (hd1:PySem.W.hasDictIn K A1=true)
 (po1:PySem.W.plainOver K A1=true)
 (sa1:PySem.W.findIn K (.ref A1) "__setattr__"=some (some (.builtin "object.__setattr__")))
 (mk1:PySem.W.makesIn K A1=true)
 (kp1:KI K A1)
 (N2:NS K "Field" A2)
 (pg2:PySem.W.plainGet K A2 Str.empty=true)
 (hd2:PySem.W.hasDictIn K A2=true)
 (po2:PySem.W.plainOver K A2=true)
 (sa2:PySem.W.findIn K (.ref A2) "__setattr__"=some (some (.builtin "object.__setattr__")))
 (mk2:PySem.W.makesIn K A2=true)
 (kp2:KI K A2)
 (in2:PySem.W.findIn K (.ref A2) "__init__"=some (some (.builtin "object.__init__")))
 (f0:DX K "is_whole" Bk A3)
 (f1:DX K "divisor" CC A4)
 (f2:DX K "fraction" Bm A5)
 (f3:DX K "is_prime" Bl A6)
 (n4:PySem.W.findIn K (.ref A0) "nought"=some (some (.ref A7)))
 (i4:PySem.W.isFn K (.ref A7)=true)
 (f4:FX K "nought" "Fractions.nought" K6 A7)
 (n5:PySem.W.findIn K (.ref A0) "one"=some (some (.ref A8)))
 (i5:PySem.W.isFn K (.ref A8)=true)
 (f5:FX K "one" "Fractions.one" P0 A8)
 (n6:PySem.W.findIn K (.ref A0) "plus"=some (some (.ref A9)))
 (i6:PySem.W.isFn K (.ref A9)=true)
 (f6:FX K "plus" "Fractions.plus" N5 A9)
 (n7:PySem.W.findIn K (.ref A0) "times"=some (some (.ref A10)))
 (i7:PySem.W.isFn K (.ref A10)=true)
 (f7:FX K "times" "Fractions.times" L7 A10)
 (n8:PySem.W.findIn K (.ref A1) "__init__"=some (some (.ref A11)))
 (i8:PySem.W.isFn K (.ref A11)=true)
 (f8:FX K "__init__" "Residues.__init__" J7 A11)
 (n9:PySem.W.findIn K (.ref A1) "nought"=some (some (.ref A12)))
 (i9:PySem.W.isFn K (.ref A12)=true)
 (f9:FX K "nought" "Residues.nought" L6 A12)
 (n10:PySem.W.findIn K (.ref A1) "one"=some (some (.ref A13)))
 (i10:PySem.W.isFn K (.ref A13)=true)
 (f10:FX K "one" "Residues.one" Q7 A13)
 (n11:PySem.W.findIn K (.ref A1) "plus"=some (some (.ref A14)))
 (i11:PySem.W.isFn K (.ref A14)=true)
 (f11:FX K "plus" "Residues.plus" O9 A14)
 (Zm:PySem.W.findIn K (.ref A1) "times"=some (some (.ref A15)))
 (i12:PySem.W.isFn K (.ref A15)=true)
 (f12:FX K "times" "Residues.times" N3 A15)
 (n13:PySem.W.findIn K (.ref A2) "is_field"=some (some (.ref A16)))
 (i13:PySem.W.isFn K (.ref A16)=true)
 (f13:FX K "is_field" "Field.is_field" N6 A16)
 (n14:PySem.W.findIn K (.ref A0) "minus"=some (some (.ref A17)))
 (i14:PySem.W.isFn K (.ref A17)=true)
 (f14:FX K "minus" "Fractions.minus" L8 A17)
 (n15:PySem.W.findIn K (.ref A0) "inverse"=some (some (.ref A18)))
 (i15:PySem.W.isFn K (.ref A18)=true)
 (f15:FX K "inverse" "Fractions.inverse" J8 A18)
 (n16:PySem.W.findIn K (.ref A1) "minus"=some (some (.ref A19)))
 (i16:PySem.W.isFn K (.ref A19)=true)
 (f16:FX K "minus" "Residues.minus" N4 A19)
 (n17:PySem.W.findIn K (.ref A1) "inverse"=some (some (.ref A20)))
 (i17:PySem.W.isFn K (.ref A20)=true)
 (f17:FX K "inverse" "Residues.inverse" K5 A20)
 (f18:DX K "times_row" R8 A21)
 (f19:DX K "noughts" AB A22)
 (f20:DX K "column_at" R9 A23)
 (f21:DX K "columns_of" P6 A24)
 (f22:DX K "dot" Np A25)
 (f23:DX K "row_by" BM A26)
 (f24:DX K "by_column" S3 A27)
 (f25:DX K "by_table" V7 A28)
 (f26:DX K "rooms" Gj A29)
 (f27:DX K "need_same_letters" J5 A30)
 (f28:DX K "beside" Z4 A31)
 (f29:DX K "put_beside" L5 A32)
 (f30:DX K "need_field" V4 A33)
 (f31:DX K "leading" Cw A34)
 (f32:DX K "plus_row" V3 A35)
 (f33:DX K "cleared" CD A36)
 (f34:DX K "keep" JE A37)
 (f35:DX K "kept_rows" Z3 A38)
 (f36:DX K "width_of" Bf A39)
 (f37:DX K "echelon" CB A40)
 (f38:DX K "free_words" V6 A41)
 (f39:DX K "with_letter_behind" C2 A42)
 (f40:DX K "at_places" S4 A43)
 (f41:DX K "narrowed" M9 A44)
 (f42:DX K "less" Gk A45)
 (f43:DX K "parting" AA A46)
 (f44:DX K "grown_while_alike" J6 A47)
 (f45:DX K "walkable" M8 A48)
 (f46:DX K "alike" S5 A49)
 (f47:DX K "_law_next" Bi A50)
 (f48:DX K "_law_state" Y8 A51)
 (f49:DX K "_law_divisor" U0 A52)
 (f50:DX K "_law_low" Cz A53)
 (f51:DX K "_law_plus" Bh A54)
 (f52:DX K "_law_times" Y7 A55)
 (f53:DX K "_law_of" DO A56)
 (f54:DX K "_law_sort" Bg A57)
 (f55:DX K "_law_kind" Bj A58)
 (f56:DX K "_law_weight" V5 A59)
 (f57:DX K "_law_machine" E8 A60)
 (f58:DX K "_law_dot" CA A61)
 (f59:DX K "_law_step" Q6 A62)
 (f60:DX K "_law_letters" O0 A63)
 (f61:DX K "_law_along" F9 A64)
 (f62:DX K "_law_changed" C9 A65)
 (f63:DX K "_law_two" Cy A66)
 (f64:DX K "_law_first" Z0 A67)
 (f65:DX K "_law_right" Y9 A68)
 (f66:DX K "law" Nn A69)
 (z_isinstance:PySem.W.nsIn K mainGlobals "isinstance"=some none)
 (z_int:PySem.W.nsIn K mainGlobals "int"=some none)
 (z_bool:PySem.W.nsIn K mainGlobals "bool"=some none)
 (z_abs:PySem.W.nsIn K mainGlobals "abs"=some none)
 {tk_c_GREATEST_PRIME:Tok}
 (c_GREATEST_PRIME:PySem.W.nsIn K mainGlobals "GREATEST_PRIME"=some (some (.int 1000000 tk_c_GREATEST_PRIME)))
 (z_tuple:PySem.W.nsIn K mainGlobals "tuple"=some none)
 (z_range:PySem.W.nsIn K mainGlobals "range"=some none)
 (z_len:PySem.W.nsIn K mainGlobals "len"=some none)
 (z_zip:PySem.W.nsIn K mainGlobals "zip"=some none)
 (z_reversed:PySem.W.nsIn K mainGlobals "reversed"=some none)
 (z_sorted:PySem.W.nsIn K mainGlobals "sorted"=some none)
 (z_list:PySem.W.nsIn K mainGlobals "list"=some none)
 (z_min:PySem.W.nsIn K mainGlobals "min"=some none)
 (z_enumerate:PySem.W.nsIn K mainGlobals "enumerate"=some none)
 (z_str:PySem.W.nsIn K mainGlobals "str"=some none)
 (k_ii:PySem.W.kitOne K (.type "int") (.type "int")=some true)
 (k_ib:PySem.W.kitOne K (.type "int") (.type "bool")=some false)
 (k_tt:PySem.W.kitOne K (.type "tuple") (.type "tuple")=some true)
 (k_bb:PySem.W.kitOne K (.type "bool") (.type "bool")=some true)
 (nP:PySem.W.findIn K (.ref A1) "prime"=some none)
 (iF_is_field:PySem.W.findIn K (.ref A0) "is_field"=some (some (.ref A16)))
 (iR_is_field:PySem.W.findIn K (.ref A1) "is_field"=some (some (.ref A16)))
 (k_ll:PySem.W.kitOne K (.type "list") (.type "list")=some true)
 (d_tabs:([P_echelon,P_alike]:List Addr).Nodup)
 (k_ss:PySem.W.kitOne K (.type "str") (.type "str")=some true)
 (tb_echelon:PySem.W.tabIn K "echelon"=some (c_echelon,P_echelon))
 (tb_alike:PySem.W.tabIn K "alike"=some (c_alike,P_alike))
 : ∃t:OV,Txt K mg t:=
 have M:∀{x:Str} {v:Value},PySem.W.nsIn K mainGlobals x=some (some v)->mg x=some v:=λn=>cQ X G n;have Z:∀{x:Str},PySem.W.nsIn K mainGlobals x=some none->mg x=none:=λn=>PySem.W.mg_none_of X G n;have S:∀{n q:Str} {s:Stmt} {a:Addr} (f:FX K n q s a),KH K n q s a f.choose:=λf=>f.choose_spec
 ⟨{ g0i:=A3,e0z:=f0.2.choose,h0j:=A4,f0w:=f1.2.choose,g0p:=A5,e0e:=f2.2.choose,g0j:=A6,d0y:=f3.2.choose,b0c:=A7,a0m:=f4.choose,c0b:=A8,b0j:=f5.choose,b0u:=A9,b0a:=f6.choose,b0o:=A10,a0r:=f7.choose,a0x:=A11,a0g:=f8.choose,b0n:=A12,a0y:=f9.choose,c0h:=A13,b0r:=f10.choose,c0f:=A14,b0p:=f11.choose,b0t:=A15,b0g:=f12.choose,b0q:=A16,b0i:=f13.choose,b0m:=A17,a0v:=f14.choose,a0s:=A18,a0h:=f15.choose,b0v:=A19,b0h:=f16.choose,b0f:=A20,a0o:=f17.choose,f0h:=A21,d0i:=f18.2.choose,h0g:=A22,f0c:=f19.2.choose,f0u:=A23,c0r:=f20.2.choose,d0t:=A24,c0o:=f21.2.choose,dot:=A25,h0w:=f22.2.choose,h0r:=A26,g0v:=f23.2.choose,f0v:=A27,d0l:=f24.2.choose,g0r:=A28,e0u:=f25.2.choose,h0v:=A29,h0d:=f26.2.choose,a0q:=A30,a0e:=f27.2.choose,h0q:=A31,g0w:=f28.2.choose,e0n:=A32,c0l:=f29.2.choose,e0a:=A33,c0p:=f30.2.choose,h0i:=A34,f0b:=f31.2.choose,g0m:=A35,e0c:=f32.2.choose,h0b:=A36,g0d:=f33.2.choose,keep:=A37,h0p:=f34.2.choose,f0n:=A38,d0j:=f35.2.choose,g0o:=A39,f0a:=f36.2.choose,echelon:=A40,f0r:=f37.2.choose,e0m:=A41,c0k:=f38.2.choose,a0l:=A42,a0b:=f39.2.choose,f0x:=A43,c0t:=f40.2.choose,g0x:=A44,e0s:=f41.2.choose,i0a:=A45,d_less:=f42.2.choose,h0k:=A46,f0e:=f43.2.choose,a0w:=A47,a0j:=f44.2.choose,g0g:=A48,e0o:=f45.2.choose,alike:=A49,h0m:=f46.2.choose,g0l:=A50,e0r:=f47.2.choose,f0t:=A51,d0f:=f48.2.choose,d0a:=A52,c0d:=f49.2.choose,h0f:=A53,f0g:=f50.2.choose,g0f:=A54,d0z:=f51.2.choose,f0s:=A55,c0u:=f52.2.choose,h0s:=A56,g0t:=f53.2.choose,g0y:=A57,e0i:=f54.2.choose,g0s:=A58,e0v:=f55.2.choose,e0q:=A59,c0n:=f56.2.choose,d0c:=A60,b0w:=f57.2.choose,h0n:=A61,g0a:=f58.2.choose,g0h:=A62,e0p:=f59.2.choose,d0h:=A63,b0y:=f60.2.choose,f0k:=A64,c0w:=f61.2.choose,c0s:=A65,b0z:=f62.2.choose,h0e:=A66,f0d:=f63.2.choose,f0m:=A67,c0x:=f64.2.choose,f0f:=A68,d0e:=f65.2.choose,law:=A69,h0z:=f66.2.choose,f0p:=A0,g0q:=A1,h0y:=A2,c_echelon:=c_echelon,P_echelon:=P_echelon,c_alike:=c_alike,P_alike:=P_alike },
  { e0w:=OH X G f0,f0y:=MF X G f1,e0x:=MF X G f2,d0s:=OH X G f3,a0k:=⟨S f4,Uo (S f4),⟨n4,i4,(S f4).kp⟩⟩,b0l:=⟨S f5,Uo (S f5),⟨n5,i5,(S f5).kp⟩⟩,a0z:=⟨S f6,ZO (S f6),⟨n6,i6,(S f6).kp⟩⟩,a0u:=⟨S f7,ZO (S f7),⟨n7,i7,(S f7).kp⟩⟩,a0f:=⟨S f8,Um (S f8),⟨n8,i8,(S f8).kp⟩⟩,a0t:=⟨S f9,Uo (S f9),⟨n9,i9,(S f9).kp⟩⟩,b0s:=⟨S f10,Uo (S f10),⟨n10,i10,(S f10).kp⟩⟩,b0k:=⟨S f11,ZO (S f11),⟨n11,i11,(S f11).kp⟩⟩,b0e:=⟨S f12,ZO (S f12),⟨Zm,i12,(S f12).kp⟩⟩,b0d:=⟨S f13,Uo (S f13),⟨n13,i13,(S f13).kp⟩⟩,a0p:=⟨S f14,Um (S f14),⟨n14,i14,(S f14).kp⟩⟩,a0d:=⟨S f15,Um (S f15),⟨n15,i15,(S f15).kp⟩⟩,b0b:=⟨S f16,Um (S f16),⟨n16,i16,(S f16).kp⟩⟩,a0n:=⟨S f17,Um (S f17),⟨n17,i17,(S f17).kp⟩⟩,d0b:=DC X G f18,g0c:=MF X G f19,c0y:=MF X G f20,c0m:=OH X G f21,h0u:=DC X G f22,g0k:=DC X G f23,c0v:=DC X G f24,e0h:=DC X G f25,h0l:=OH X G f26,a0c:=MF X G f27,g0e:=ZI X G f28,c0q:=DC X G f29,c0g:=OH X G f30,f0q:=DC X G f31,e0d:=DC X G f32,f0j:=DC X G f33,h0o:=ZI X G f34,d0p:=DC X G f35,d0x:=OH X G f36,f0i:=MF X G f37,c0i:=DC X G f38,a0a:=DC X G f39,d0d:=MF X G f40,e0f:=DC X G f41,h0t:=DC X G f42,g0b:=DC X G f43,a0i:=DC X G f44,e0y:=DC X G f45,h0h:=DC X G f46,e0g:=MF X G f47,d0m:=OH X G f48,b0x:=MF X G f49,f0o:=MF X G f50,e0l:=DC X G f51,c0z:=DC X G f52,g0n:=MF X G f53,d0u:=OH X G f54,d0w:=OH X G f55,c0j:=MF X G f56,c0c:=ZI X G f57,f0l:=DC X G f58,d0v:=DC X G f59,c0e:=OH X G f60,d0g:=ZI X G f61,c0a:=DC X G f62,f0z:=ZI X G f63,d0r:=DC X G f64,d0k:=MF X G f65,h0x:=OH X G f66,d0n:=⟨pg0,hd0,po0,sa0⟩,d0q:=M N0,d0o:=⟨mk0,in0,kp0⟩,e0t:=⟨pg1,hd1,po1,sa1⟩,e0j:=M N1,e0k:=⟨mk1,n8,i8,kp1⟩,h0a:=⟨pg2,hd2,po2,sa2⟩,h0c:=M N2,g0z:=⟨mk2,in2,kp2⟩,z_isinstance:=Z z_isinstance,z_int:=Z z_int,z_bool:=Z z_bool,z_abs:=Z z_abs,c_GREATEST_PRIME:=⟨_,M c_GREATEST_PRIME⟩,z_tuple:=Z z_tuple,z_range:=Z z_range,z_len:=Z z_len,z_zip:=Z z_zip,z_reversed:=Z z_reversed,z_sorted:=Z z_sorted,z_list:=Z z_list,z_min:=Z z_min,z_enumerate:=Z z_enumerate,z_str:=Z z_str,k_ii:=k_ii,k_ib:=k_ib,k_tt:=k_tt,k_bb:=k_bb,nP:=nP,iF_is_field:=iF_is_field,iR_is_field:=iR_is_field,k_ll:=k_ll,d_tabs:=d_tabs,k_ss:=k_ss,tb_echelon:=tb_echelon,e0b:=f37.1,tb_alike:=tb_alike,g0u:=f46.1 }⟩
end K52
open PySem PySem.W PyProof.Rows
set_option maxRecDepth 100000 in
set_option maxHeartbeats 0 in
theorem PySem.Challenge.cw_weighwalk_k52_the_first_word_that_parts_holds : PySem.Challenge.rw_weighwalk_k52_the_first_word_that_parts.Holds := by
 w_on;o_law
 refine H52.Ts (by assumption) ?hw ?hc
 (case hw=>w_witness2)
 unfold H52.El
 k_fill
 refine L2.MS (l:=PySem.Challenge.rw_weighwalk_k52_the_first_word_that_parts) (n:=63) (k:=62) (x:="_law_script") (CX:=L2.D2) (sp:=K52.Nd) ["echelon","alike"] rfl (by decide) rfl ⟨rfl,by decide,by decide⟩ dK (λw h Y=>PySem.W.kIn_of Y) ?NT ?RC ?F ?S ?C
 case NT=>exact λw=>by kernel_rfl
 case RC=>
  intro y hy;rcases ak.mp hy with rfl | hy
  . kernel_rfl
  cases az.mp hy;kernel_rfl
 case F=>
  intro w mg fa h KX G hmg;have T:∃t,K52.Txt (L2.KOf KX) mg t:=by
   dsimp only[L2.KOf];refine' K52.RG KX G (c_echelon:=213) (P_echelon:=209) (c_alike:=262) (P_alike:=260) ?_ ?_ ?_ ?_ ?_ ?_ ?_ ?_ ?_ ?_ ?_ ?_ ?_ ?_ ?_ ?_ ?_ ?_ ?_ ?_ ?_ ?_ ?_ (K52.dx ?_ (H52.IA _) ?_ ?_) (K52.dx ?_ (H52.Kc _) ?_ ?_) (K52.dx ?_ (H52.IC _) ?_ ?_) (K52.dx ?_ (H52.IB _) ?_ ?_) ?_ ?_ (K52.fx (H52.AS _) ?_ ?_) ?_ ?_ (K52.fx (H52.CO _) ?_ ?_) ?_ ?_ (K52.fx (H52.Cc _) ?_ ?_) ?_ ?_ (K52.fx (H52.Bw _) ?_ ?_) ?_ ?_ (K52.fx (H52.Ap _) ?_ ?_) ?_ ?_ (K52.fx (H52.Bv _) ?_ ?_) ?_ ?_ (K52.fx (H52.Ds _) ?_ ?_) ?_ ?_ (K52.fx (H52.CN _) ?_ ?_) ?_ ?_ (K52.fx (H52.BZ _) ?_ ?_) ?_ ?_ (K52.fx (H52.Cd _) ?_ ?_) ?_ ?_ (K52.fx (H52.Bx _) ?_ ?_) ?_ ?_ (K52.fx (H52.Aq _) ?_ ?_) ?_ ?_ (K52.fx (H52.Ca _) ?_ ?_) ?_ ?_ (K52.fx (H52.AR _) ?_ ?_) (K52.dx ?_ (H52.GI _) ?_ ?_) (K52.dx ?_ (H52.JY _) ?_ ?_) (K52.dx ?_ (H52.GK _) ?_ ?_) (K52.dx ?_ (H52.Fc _) ?_ ?_) (K52.dx ?_ (H52.Tc _) ?_ ?_) (K52.dx ?_ (H52.Mp _) ?_ ?_) (K52.dx ?_ (H52.GL _) ?_ ?_) (K52.dx ?_ (H52.ID _) ?_ ?_) (K52.dx ?_ (H52.Of _) ?_ ?_) (K52.dx ?_ (H52.An _) ?_ ?_) (K52.dx ?_ (H52.Mq _) ?_ ?_) (K52.dx ?_ (H52.EY _) ?_ ?_) (K52.dx ?_ (H52.EZ _) ?_ ?_) (K52.dx ?_ (H52.JZ _) ?_ ?_) (K52.dx ?_ (H52.Iy _) ?_ ?_) (K52.dx ?_ (H52.Kd _) ?_ ?_) (K52.dx ?_ (H52.Qr _) ?_ ?_) (K52.dx ?_ (H52.GJ _) ?_ ?_) (K52.dx ?_ (H52.Iu _) ?_ ?_) (K52.dx ?_ (H52.Ka _) ?_ ?_) (K52.dx ?_ (H52.Fb _) ?_ ?_) (K52.dx ?_ (H52.X3 _) ?_ ?_) (K52.dx ?_ (H52.GM _) ?_ ?_) (K52.dx ?_ (H52.Iz _) ?_ ?_) (K52.dx ?_ (H52.Qq _) ?_ ?_) (K52.dx ?_ (H52.JX _) ?_ ?_) (K52.dx ?_ (H52.Ao _) ?_ ?_) (K52.dx ?_ (H52.Iw _) ?_ ?_) (K52.dx ?_ (H52.Og _) ?_ ?_) (K52.dx ?_ (H52.GQ _) ?_ ?_) (K52.dx ?_ (H52.Fe _) ?_ ?_) (K52.dx ?_ (H52.Dp _) ?_ ?_) (K52.dx ?_ (H52.IF _) ?_ ?_) (K52.dx ?_ (H52.GP _) ?_ ?_) (K52.dx ?_ (H52.Fd _) ?_ ?_) (K52.dx ?_ (H52.Ke _) ?_ ?_) (K52.dx ?_ (H52.GO _) ?_ ?_) (K52.dx ?_ (H52.GR _) ?_ ?_) (K52.dx ?_ (H52.Eg _) ?_ ?_) (K52.dx ?_ (H52.Dn _) ?_ ?_) (K52.dx ?_ (H52.IG _) ?_ ?_) (K52.dx ?_ (H52.GN _) ?_ ?_) (K52.dx ?_ (H52.Do _) ?_ ?_) (K52.dx ?_ (H52.Fh _) ?_ ?_) (K52.dx ?_ (H52.Dq _) ?_ ?_) (K52.dx ?_ (H52.IE _) ?_ ?_) (K52.dx ?_ (H52.Fg _) ?_ ?_) (K52.dx ?_ (H52.Ff _) ?_ ?_) (K52.dx ?_ (H52.Ta _) ?_ ?_) ?_ ?_ ?_ ?_ ?_ ?_ ?_ ?_ ?_ ?_ ?_ ?_ ?_ ?_ ?_ ?k_ii ?k_ib ?k_tt ?k_bb ?_ ?_ ?_ ?k_ll ?d_tabs ?k_ss ?tb_echelon ?tb_alike
   any_goals (show _=_;k_is)
   (case k_ii | k_ib | k_tt | k_bb | k_ll | k_ss=>kit_is)
   (case d_tabs=>decide)
   (case tb_echelon | tb_alike=>kernel_rfl)
  obtain⟨t,T⟩:=T;have e0:=hmg.symm.trans T.h0x.m;cases e0;exact⟨_,K52.Mt T,λbase kb nb hT=>K52.SG T ⟨hT "echelon" (by simp) _ _ T.tb_echelon,hT "alike" (by simp) _ _ T.tb_alike⟩⟩
 case S=>exact λK H a ns hl hT hS=>⟨a,ns,rfl,hS,hl,hT,λ_=>rfl⟩
 case C=>exact λ_ _ _ _ z=>z
