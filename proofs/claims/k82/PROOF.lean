import PyProof.Rows.All
import Wide.All
import OpenK.AllK
import Wide.FinOn
import Lean
import PyProof.EqAt
import PyProof.EqKinds
import PyProof.TupleCall
import KE.KRevIter
import KE.KTryMore
import PySem.Challenge.RW_weighwalk_k82_whole_built_as_said
set_option Elab.async false
set_option linter.all false
set_option maxRecDepth 100000
set_option compiler.extract_closed false
set_option bootstrap.genMatcherCode false
local macro_rules | `(tactic| omega)=>`(tactic| lia)
def sL{n:Nat}(h:Nat.ble n 100000=true:=by rfl):n<=PySem.sizeLine:=Nat.le_trans (Nat.le_of_ble_eq_true h) (by decide)
def sZ:10000 < PySem.sizeLine:=by decide
def bR{p:Prop}(h:p:=by rfl):p:=h
def bD{p:Prop}(h:p:=by decide):p:=h
def dK{p:Prop}(h:p:=by decide +kernel):p:=h
def Z{p:Prop}(h:p:=by omega):p:=h
theorem zc{A0 A1}{p:A0->A1->Prop}{a0 a1}(h:p a0 a1):∃a0 a1,p a0 a1:=⟨a0,a1,h⟩
theorem zd{A0 A1 A2}{p:A0->A1->A2->Prop}{a0 a1 a2}(h:p a0 a1 a2):∃a0 a1 a2,p a0 a1 a2:=⟨a0,a1,a2,h⟩
theorem ze{A0 A1 A2 A3}{p:A0->A1->A2->A3->Prop}{a0 a1 a2 a3}(h:p a0 a1 a2 a3):∃a0 a1 a2 a3,p a0 a1 a2 a3:=⟨a0,a1,a2,a3,h⟩
theorem zf{A0 A1 A2 A3 A4}{p:A0->A1->A2->A3->A4->Prop}{a0 a1 a2 a3 a4}(h:p a0 a1 a2 a3 a4):∃a0 a1 a2 a3 a4,p a0 a1 a2 a3 a4:=⟨a0,a1,a2,a3,a4,h⟩
theorem zg{A0 A1 A2 A3 A4 A5}{p:A0->A1->A2->A3->A4->A5->Prop}{a0 a1 a2 a3 a4 a5}(h:p a0 a1 a2 a3 a4 a5):∃a0 a1 a2 a3 a4 a5,p a0 a1 a2 a3 a4 a5:=⟨a0,a1,a2,a3,a4,a5,h⟩
theorem zh{A0 A1 A2 A3 A4 A5 A6 A7}{p:A0->A1->A2->A3->A4->A5->A6->A7->Prop}{a0 a1 a2 a3 a4 a5 a6 a7}(h:p a0 a1 a2 a3 a4 a5 a6 a7):∃a0 a1 a2 a3 a4 a5 a6 a7,p a0 a1 a2 a3 a4 a5 a6 a7:=⟨a0,a1,a2,a3,a4,a5,a6,a7,h⟩
theorem zi{A0 A1}{p:A0->A1->Prop}(a0 a1)(h:p a0 a1):∃a0 a1,p a0 a1:=⟨a0,a1,h⟩
theorem zj{A0 A1 A2}{p:A0->A1->A2->Prop}(a0 a1 a2)(h:p a0 a1 a2):∃a0 a1 a2,p a0 a1 a2:=⟨a0,a1,a2,h⟩
theorem zk{A0 A1 A2 A3}{p:A0->A1->A2->A3->Prop}(a0 a1 a2 a3)(h:p a0 a1 a2 a3):∃a0 a1 a2 a3,p a0 a1 a2 a3:=⟨a0,a1,a2,a3,h⟩
theorem zq{A0 A1 A2 A3 A4}{p:A0->A1->A2->A3->A4->Prop}(a0 a1 a2 a3 a4)(h:p a0 a1 a2 a3 a4):∃a0 a1 a2 a3 a4,p a0 a1 a2 a3 a4:=⟨a0,a1,a2,a3,a4,h⟩
theorem zr{A0 A1 A2 A3 A4 A5}{p:A0->A1->A2->A3->A4->A5->Prop}(a0 a1 a2 a3 a4 a5)(h:p a0 a1 a2 a3 a4 a5):∃a0 a1 a2 a3 a4 a5,p a0 a1 a2 a3 a4 a5:=⟨a0,a1,a2,a3,a4,a5,h⟩
theorem zt{A0 A1 A2 A3 A4 A5 A6}{p:A0->A1->A2->A3->A4->A5->A6->Prop}(a0 a1 a2 a3 a4 a5 a6)(h:p a0 a1 a2 a3 a4 a5 a6):∃a0 a1 a2 a3 a4 a5 a6,p a0 a1 a2 a3 a4 a5 a6:=⟨a0,a1,a2,a3,a4,a5,a6,h⟩
theorem zu{A0 A1 A2 A3 A4 A5 A6 A7}{p:A0->A1->A2->A3->A4->A5->A6->A7->Prop}(a0 a1 a2 a3 a4 a5 a6 a7)(h:p a0 a1 a2 a3 a4 a5 a6 a7):∃a0 a1 a2 a3 a4 a5 a6 a7,p a0 a1 a2 a3 a4 a5 a6 a7:=⟨a0,a1,a2,a3,a4,a5,a6,a7,h⟩
theorem zv{A0 A1 A2 A3 A4 A5 A6 A7 A8}{p:A0->A1->A2->A3->A4->A5->A6->A7->A8->Prop}(a0 a1 a2 a3 a4 a5 a6 a7 a8)(h:p a0 a1 a2 a3 a4 a5 a6 a7 a8):∃a0 a1 a2 a3 a4 a5 a6 a7 a8,p a0 a1 a2 a3 a4 a5 a6 a7 a8:=⟨a0,a1,a2,a3,a4,a5,a6,a7,a8,h⟩
theorem zw{A0 A1 A2 A3 A4 A5 A6 A7 A8 A9}{p:A0->A1->A2->A3->A4->A5->A6->A7->A8->A9->Prop}(a0 a1 a2 a3 a4 a5 a6 a7 a8 a9)(h:p a0 a1 a2 a3 a4 a5 a6 a7 a8 a9):∃a0 a1 a2 a3 a4 a5 a6 a7 a8 a9,p a0 a1 a2 a3 a4 a5 a6 a7 a8 a9:=⟨a0,a1,a2,a3,a4,a5,a6,a7,a8,a9,h⟩
theorem zz{A0 A1 A2 A3 A4 A5 A6 A7 A8 A9 jr}{p:A0->A1->A2->A3->A4->A5->A6->A7->A8->A9->jr->Prop}(a0 a1 a2 a3 a4 a5 a6 a7 a8 a9 ib)(h:p a0 a1 a2 a3 a4 a5 a6 a7 a8 a9 ib):∃a0 a1 a2 a3 a4 a5 a6 a7 a8 a9 ib,p a0 a1 a2 a3 a4 a5 a6 a7 a8 a9 ib:=⟨a0,a1,a2,a3,a4,a5,a6,a7,a8,a9,ib,h⟩
theorem zA{A0 A1 A2 A3 A4 A5 A6 A7 A8 A9 jr jq}{p:A0->A1->A2->A3->A4->A5->A6->A7->A8->A9->jr->jq->Prop}(a0 a1 a2 a3 a4 a5 a6 a7 a8 a9 ib lP)(h:p a0 a1 a2 a3 a4 a5 a6 a7 a8 a9 ib lP):∃a0 a1 a2 a3 a4 a5 a6 a7 a8 a9 ib lP,p a0 a1 a2 a3 a4 a5 a6 a7 a8 a9 ib lP:=⟨a0,a1,a2,a3,a4,a5,a6,a7,a8,a9,ib,lP,h⟩
theorem U{A B:Sort _}{l:B}{g:A->B}{Q:A->Prop}{x:A}(h:l=g x)(q:Q x):∃y,l=g y/\Q y:=⟨x,h,q⟩
theorem vb{A B C D:Sort _}{l:B}{g:A->B}{m:A->D}{k:A->C->D}{Q:A->C->Prop}{x:A}{y:C}(h:l=g x)(i:m x=k x y)(q:Q x y):∃x,l=g x/\∃y,m x=k x y/\Q x y:=⟨x,h,y,i,q⟩
theorem vc{A B C D E F:Sort _}{l:B}{g:A->B}{m:A->D}{k:A->C->D}{o:A->C->F}{p:A->C->E->F}{Q:A->C->E->Prop}{x:A}{y:C}{z:E}(h:l=g x)(i:m x=k x y)(j:o x y=p x y z)(q:Q x y z):∃x,l=g x/\∃y,m x=k x y/\∃z,o x y=p x y z/\Q x y z:=⟨x,h,y,i,z,j,q⟩
section
open PySem PySem.Spec PyProof.Rows
abbrev aa:=@PySem.W.Frag
abbrev w1e:=List (Addr × Obj)
abbrev w1f:=Value->Shared->Prop
abbrev w1g:=Str->Option Value
abbrev w1h:=List Nat
abbrev w1i:=List Str
abbrev w1j:=List Value
abbrev ae:=@Nat.le_refl
abbrev af:=@Heap.lt_size
abbrev ag:=@Heap.get?_push_of_some
abbrev ah:=@Nat.le_trans
abbrev ai:=@Nat.ne_of_lt
abbrev aj:=@List.size_toArray
abbrev ak:=@Heap.get?_push_size
abbrev ao:=@Nat.lt_of_lt_of_le
abbrev aq:=@List.mem_singleton
abbrev ar:=@List.length_append
abbrev aw:=@List.mem_cons
abbrev ax:=@Bool.false_ne_true
abbrev ay:=@Int.mul_assoc
abbrev aA:=@List.mem_append_right
abbrev aB:=@PassesOwn.never
abbrev aD:=@List.length_map
abbrev aF:=@List.mem_cons_self
abbrev aG:=@List.mem_cons_of_mem
abbrev aH:=@List.getElem?_eq_some_iff
abbrev aI:=@List.mem_of_getElem?
abbrev aJ:=@List.mem_append
abbrev aK:=@List.length_drop
abbrev aL:=@Heap.size_push
abbrev aM:=@List.length_take
abbrev aN:=@Int.mul_pos
abbrev aO:=@List.map_cons
abbrev aP:=@Int.mul_comm
abbrev aQ:=@List.getElem?_eq_getElem
abbrev aR:=@List.getElem?_append_left
abbrev aU:=@PySem.mem_of_lookup
abbrev aV:=@Nat.succ_mul
abbrev aX:=@PySem.W.kia_one
abbrev aY:=@Nat.le_succ
abbrev aZ:=@Nat.lt_irrefl
abbrev ba:=@PySem.W.hideAll_none
abbrev bb:=@Nat.lt_succ_self
abbrev bc:=@List.getElem?_append_right
abbrev bf:=@Nat.mul_le_mul_right
abbrev bg:=@List.filterMap_cons
abbrev bh:=@Nat.zero_le
abbrev bj:=@Int.natAbs_mul
abbrev bo:=@Int.mul_right_comm
abbrev bq:=@List.not_mem_nil
abbrev br:=@List.map_append
abbrev bu:=@List.length_eq_zero_iff
abbrev bw:=@Nat.le_of_lt
abbrev bx:=@List.length_cons
abbrev bz:=@List.getElem?_map
abbrev bA:=@Int.fmod_nonneg_of_pos
abbrev bB:=@Nat.zero_mul
abbrev bE:=@List.take_length
abbrev bF:=@List.getD_eq_getElem?_getD
abbrev bH:=@List.mem_append_left
abbrev bI:=@Int.fmod_lt_of_pos
abbrev bJ:=@Int.eq_of_mul_eq_mul_right
abbrev bK:=@List.all_eq_true
abbrev bL:=@List.lookup_cons
abbrev bN:=@Nat.min_eq_left
abbrev bO:=@Nat.ne_of_gt
abbrev bP:=@PyProof.Rows.callWith_type1
abbrev bQ:=@Nat.lt_succ_of_lt
abbrev bS:=@List.mem_of_mem_take
abbrev bT:=@PySem.W.hideAll_get
abbrev bU:=@Bool.eq_iff_iff
abbrev bV:=@List.find?_cons
abbrev bW:=@List.length_nil
abbrev bX:=@Nat.mul_le_mul
abbrev bZ:=@Nat.add_comm
abbrev cb:=@PySem.F.plainAttrs_list
abbrev cg:=@PySem.W.mg_of
abbrev cj:=@List.mem_range
abbrev ck:=@List.append_nil
abbrev cn:=@Heap.get?_update_self
abbrev cq:=@Heap.get?_update_other
abbrev cw:=@Nat.lt_trans
abbrev cy:=@Int.natCast_mul
abbrev cz:=@Nat.pow_succ
abbrev cA:=@Nat.pow_le_pow_right
abbrev cB:=@Nat.mul_assoc
abbrev cD:=@Int.add_zero
abbrev cE:=@List.mem_of_mem_drop
abbrev cF:=@List.idxOf_cons
abbrev cG:=@List.mem_map
abbrev cH:=@List.replicate_succ'
abbrev cI:=@Nat.zero_add
abbrev cJ:=@PySem.W.of_hideAll
abbrev cK:=@PySem.W.callWith_K
abbrev cM:=@List.getElem?_replicate
abbrev cP:=@List.length_replicate
abbrev cQ:=@PyProof.Rows.slot_tuple_getitem
abbrev cR:=@Bool.and_eq_true
abbrev cS:=@Option.map_eq_some_iff
abbrev cU:=@Option.getD_some
abbrev cW:=@Nat.le_add_right
abbrev cY:=@List.getElem_mem
abbrev cZ:=@List.take_of_length_le
abbrev da:=@List.take_add_one
abbrev dc:=@Nat.add_sub_cancel_left
abbrev de:=@List.length_reverse
abbrev df:=@List.getElem?_set_self
abbrev dg:=@PySem.F.slot_tuple_add
abbrev dh:=@PySem.F.entry_tuple_add
abbrev di:=@PySem.F.args_tuple_add_2
abbrev dj:=@Nat.le_mul_of_pos_left
abbrev dk:=@PyProof.Rows.F.plain_set_update_loop
abbrev dm:=@PySem.F.plainAttrs_str
abbrev dq:=@PySem.F.slot_list_extend
abbrev dr:=@PySem.F.type_list_extend
abbrev du:=@List.mem_singleton_self
end
theorem Y.{u}{α:Sort u}{a:α}:a=a:=rfl
local macro_rules|`(tactic|show $e)=>`(tactic|refine $e)
namespace L2
open PySem
def j0(s:Stmt)(j:Nat):Stmt:=match s with
 | .ClassDef _ _ _ body _ _ _ _ _ _ _=>body.getD j (.Pass ⟨0,0,0,0⟩)
 | _=>.Pass ⟨0,0,0,0⟩
def C5(s:Stmt):Arguments:=match s with
 | .FunctionDef _ a _ _ _ _ _ _ _ _=>a
 | _=>{ posonlyargs:=[],args:=[],vararg:=none,kwonlyargs:=[],kw_defaults:=[],kwarg:=none,defaults:=[] }
def B5(s:Stmt):List Stmt:=match s with
 | .FunctionDef _ _ b _ _ _ _ _ _ _=>b
 | _=>[]
def b9(s:Stmt):Scope:=match s with
 | .FunctionDef _ _ _ _ _ _ sc _ _ _=>sc
 | _=>{ kind:=.function,names:=[],isGenerator:=false,isCoroutine:=false }
end L2
section
set_option maxHeartbeats 0
def PySem.W.Fast.tw16330819322736194118:PySem.Program:=PySem.Challenge.pw_weighwalk_k82_whole_built_as_said
local macro_rules | `(tactic| trivial)=>`(tactic| ((try rw[Fast.te15667345088766844465]);(try rw[Fast.te14082659384304107361]);(try rw[Fast.te14374325043358763698]);(try rw[Fast.te10110043849684766642]);(try rw[Fast.te14364793385576792824]);(try rw[Fast.te11892475500146522536]);(try rw[Fast.te4187177175401517315]);(try rw[Fast.te5923862056798008813]);(try rw[Fast.te8920871248978507458]);kernel_rfl))
def PySem.W.Fast.te16330819322736194118:PySem.Challenge.pw_weighwalk_k82_whole_built_as_said=PySem.W.Fast.tw16330819322736194118:=rfl
namespace H82
open PySem PySem.W
noncomputable section
abbrev q0:=SL.s658472552662922059x5
abbrev q1:=SL.s14018661285674007319x4
abbrev q2:=SL.s7097527257260152453x26
abbrev q3:=SL.s6070975301684473832x10
abbrev q4:=SL.s11030030927630378310x26
abbrev q5:=SL.s10062305145149207511x16
abbrev q6:=SL.s17162191345867700912x4
abbrev q7:=SL.s5946037652744460706x9
abbrev q8:=SL.s4278001404047624695x13
abbrev q9:=SL.s2742458400755230247x6
abbrev Vl:=SL.s4209523147560561109x18
abbrev q11:=SL.s14755015743595814543x17
abbrev q12:=SL.s4290257624100764138x5
abbrev q13:=SL.s4860613602091757760x24
abbrev WI:=SL.s11443829558043349243x14
def i(n:Int):Value:=.int n 0
def r(n:Addr):Value:=.ref n
def tu(a:Array Value)(n:Nat):Obj:=⟨.type SL.s2766695959194262286x5,none,.seq a n,#[]⟩
def co(a:Array Value):Obj:=⟨.type SL.s5856160107412720595x4,none,.fields a,#[]⟩
def fo(n q:Str)(s:Stmt)(m c:Value):Obj:=⟨.type SL.s7174869446012820540x8,none,.func ⟨n,q,L2.C5 s,.stmts<|L2.B5 s,L2.b9 s,3,[],.none,.none,.none,m,none,c,.none,0⟩,#[]⟩
def f0(n q:Str)(s:Stmt):Obj:=⟨.none,none,.func ⟨n,q,L2.C5 s,.stmts<|L2.B5 s,L2.b9 s,0,[],.none,.none,.none,.none,none,.none,.none,0⟩,#[]⟩
abbrev nd:=@BT.node
abbrev nl:=BT.nil
abbrev lf(x:Obj):BT:=.node x .nil .nil
abbrev kh:=@PySem.PyData.keyHash
abbrev pW:=PySem.Challenge.pw_weighwalk_k82_whole_built_as_said
def c7(i:Nat):Stmt:=pW.main.body.getD i (.Pass ⟨0,0,0,0⟩)
def dN:Nat->Nat->List Nat
 | 0,_=>[]
 | f+1,n=>match n.beq 0 with
  | true=>[]
  | false=>n % 128::dN f (n / 128)
def sn(n:Nat):Str:=⟨⟨dN 99 n⟩⟩
def s0:=sn 35350842279982780
def s1:=sn 2357460733860917196365705647
def s2:=sn 53901867955744735
def s3:=sn 53901559791857631
def s4:=sn 601327437824046760046376642856776439
def s5:=sn 421105403244511
def s6:=sn 113039760542812094607327
def s7:=sn 883130438894441148383
def s8:=sn 53901488956436447
def s9:=sn 30344151541145318921183520387039
def b0x:=sn 14469218985635115783729119
def Yz:=sn 53901559540068319
def FI:=sn 883122557733039566815
def On:=sn 29219126239
def Yy:=sn 1059527485210603713239
def Yx:=sn 3465723181006
def Yw:=sn 65763158886053838
def Yv:=sn 3466809702350
def Yu:=sn 3499278153557
def Yt:=sn 7342511845356402638
def Ys:=sn 65732306194397140
def Yr:=sn 4018155108302
def a0a:=sn 509789213652974
def ZX:=sn 245004149
def ZV:=sn 8637845807904290036
def ZT:=sn 8413708677377898467
def ZR:=sn 948836330527398770659
def ZQ:=sn 1914852
def ZP:=sn 4184036210674
def ZO:=sn 7988215201394064610
def s30:=sn 1617927219776377072475203283
def s31:=sn 5888264223357980304431984745896147357382385819329294689
def s32:=sn 12640056404502945895606221
def s33:=sn 771133137135038949325
def RF:=sn 1068959722090383538665
def ZN:=sn 443751708752361
def ZM:=sn 7270427996167172846
def Vi:=sn 4118845848041
def ZL:=sn 57336327856191977
def ZK:=sn 939546481636333320681
def ZJ:=sn 31100499954
def ZI:=sn 57912369926942964
def ZH:=sn 27048637537
def ZG:=sn 4013864678135
def ZF:=sn 601770825760040032270655173063963374
def Vh:=sn 286851481614839751532548289262
def ZE:=sn 3463313912307
def ZD:=sn 3497399218914
def ZC:=sn 938825954143424559856
def Zy:=sn 27057009249
def Zx:=sn 30815369967
def Zw:=sn 3463318239210
def Zv:=sn 8637845807933684067
def Zu:=sn 120242994636268739754339
def Zt:=sn 443306097768803
def Zs:=sn 56743145087218925
def Zr:=sn 3463318387444
def Vg:=sn 15391103313441879542724195
def RE:=sn 1970061224057545296946229998
def Ud:=sn 3463328822883
def Zq:=sn 1105644262932579333363
def Zp:=sn 3499542426867
def Zn:=sn 57336776418130409
def Zm:=sn 505222325449956
def Zl:=sn 62416317159340390
def Zk:=sn 57340970975885801
def s66:=sn 367430873507014
def Vf:=sn 529798632943928514736
def s68:=sn 12624828682026729331812301
def Ve:=sn 172336251032527473007704238407
def Zj:=sn 1021914557058473523689
def Zh:=sn 939405744834617045746
def Zg:=sn 8426683116950221550
def Uc:=sn 211530955
def Yq:=sn 27071706310
def Yp:=sn 456806773617872
def Yo:=sn 8349039631521052998
def Yn:=sn 65187494496105170
def Jz:=sn 31115245507
def HA:=sn 3979532400980
def s80:=sn 107
def Dn:=sn 883123151916293124063
def FH:=sn 4701359296062669796661670190936823
def MP:=sn 14469089781839015725264863
def Dl:=sn 30344074158132277796980072755167
def Dk:=sn 133454983862861831018029446609853876543483871
def s86:=sn 113039831549272488013791
def s87:=sn 4697231691935424025109761959293687
def Tp:=sn 211530987
def Ml:=sn 1964018
def s90:=sn 3809077835747
def s91:=sn 29196367860
def Iu:=sn 120
def Ub:=sn 121
def s94:=sn 76959527405706993652690204727243862775
def s95:=sn 509719716115180
def Ym:=sn 27881272436
def Yl:=sn 448010674303213
def s98:=sn 3944367338220
def s99:=sn 211597303
def W9:=sn 1668975
def RH:=sn 30815173231
def s102:=sn 69030685704087611582940400770510123767
def s103:=sn 31371130851
def s104:=sn 15586
def s105:=sn 31379192435
def s106:=sn 3978710003956
def s107:=sn 31381566694
def s108:=sn 3465736155891
def s109:=sn 236550771
def Bb:=sn 211498996
def s111:=sn 17653163543718513564464869
def s112:=sn 27321202288
def s113:=sn 4700393738964033752103621815333623
def s114:=sn 65811471622830439
def s115:=sn 245166834
def s116:=sn 244953836
def b0w:=sn 1849332
def b0v:=sn 3775253002210
def s119:=sn 3463326495859
def b0u:=sn 3944329476846
def s121:=sn 3947051413734
def s122:=sn 36694686467767925459708255302391
def Pz:=sn 245248756
def b0t:=sn 53902072520191967
def Lg:=sn 56773483100109289
def Lf:=sn 31096108272
def D2:=sn 215692019
def b0s:=sn 249692419271657566055171716294
def b0r:=sn 136762130496189453923526
def Fl:=sn 31117260013
def Fk:=sn 448184882935657
def b0q:=sn 4090960597346837562261197337195728
def b0p:=sn 2240710746049581277020484816
def b0o:=sn 2242234889615754672899421392
def b0n:=sn 32295124348513854137913721812176
def BS:=sn 4013864876014
def BR:=sn 243103344
def Ba:=sn 31083689204
def BQ:=sn 8417684337481742825
def BP:=sn 29779293299
def BO:=sn 211317490
def b0m:=sn 249693942900369443720068102470
def b0l:=sn 4738735239314492059302342734412102
def b0k:=sn 1970378332810994856972810566
def b0j:=sn 287005771327406520212613790022
def b0i:=sn 36697143015659284620394997774662
def b0h:=sn 36736776431465389278236685924678
def b0g:=sn 529123317326050987060295870736529734
def b0f:=sn 9937847594675139374987317671213250672966
def b0e:=sn 35157184140118180154008019695942
def s151:=sn 3978691179760
def b0d:=sn 249479658437659509264028825926
def Ui:=sn 53902074141372383
def WB:=sn 27342305648
def b0c:=sn 497158883364006940381786093148500690
def b0b:=sn 1950733928909096901437878994
def b0a:=sn 37021369057144469173921927459538
def a0z:=sn 15393580725046519694947026
def a0y:=sn 2242232588495324061535892178
def a0x:=sn 286696429809838121719210767058
def a0w:=sn 287006065870823314358598955730
def a0v:=sn 4133775916609773336369183864976082
def a0u:=sn 77639434333399526367088379928728367826
def a0t:=sn 274665501094673243075562500818
def a0s:=sn 1949059831544175538500072146
def a0r:=sn 930182423071462062019
def a0q:=sn 17653164413997873897469891
def a0p:=sn 7340231287533008835
def a0o:=sn 1069179815528578742211
def a0n:=sn 136707510857504934131651
def a0m:=sn 37021367232036364730400298039235
def a0l:=sn 130970716998421339502531
def a0k:=sn 929384151241417619395
def a0j:=sn 119063350153143924914516
def a0i:=sn 2259605044991727855657122132
def a0h:=sn 939549604801006106964
def a0g:=sn 136855016387654859979092
def a0f:=sn 17498561389760628349827412
def a0e:=sn 4738735005700654685491234929998164
def a0d:=sn 16764251775797928237300052
def a0c:=sn 118961171358898236258644
def a0b:=sn 2699807761623
def s183:=sn 1783022
def s184:=sn 1800947
def s185:=sn 232354932
def s186:=sn 220018658
def s187:=sn 226029794
def s188:=sn 240679539
def s189:=sn 729680409348195016435872418187785647172649303897238468540645058353207550275820
def WA:=sn 274393657981102138040287916275
def Wz:=sn 31366740706
def Wy:=sn 8426682910831572575
def Wx:=sn 939974376926731597407
def Ww:=sn 17359306920133061789644383
def Wv:=sn 67482964224144991
def Wu:=sn 8352967321978435167
def Ws:=sn 1068027428587418711647
def Wr:=sn 137915346984371551237727
def Wq:=sn 57345570095265375
def Wp:=sn 8423349363374847583
def Wo:=sn 7268149395797341791
def Wn:=sn 137915340185300882716255
def Wm:=sn 7983654697786963551
def Wl:=sn 8269686016323384927
def Wk:=sn 17516223997145595269117535
def Wj:=sn 1124450230645766518367
def Wi:=sn 1067958212234506171999
def Wh:=sn 17513836086728843905758815
def Wg:=sn 7270427996206954079
def Wf:=sn 122623142452853370025567
def We:=sn 7346962664154232415
def Wd:=sn 65793839485974111
def Wc:=sn 966712182081171519071
def Wb:=sn 929675765462320313951
def Wa:=sn 1962220
def s216:=sn 3568803148019
def Py:=sn 32292397437976189666475158042207
def s218:=sn 8781323754941216351
def Uh:=sn 930329895887808525919
def ZZ:=sn 137989276334399845594719
def s221:=sn 7263065528908412511
def s222:=sn 7843466381129971295
def Ug:=sn 1970971523313950507201492575
def ZY:=sn 1058801290007509759583
def s225:=sn 63542589428102751
def s226:=sn 129716705428967878325855
def s227:=sn 535556634736223
def Fj:=sn 252284354985268781312971929183
def VZ:=sn 4148921136735
def VY:=sn 4183280875103
def s231:=sn 939474468468921235039
def RG:=sn 252284354984115859945804035679
def VX:=sn 1003179560991236585055
def ZW:=sn 513532042442335
def VW:=sn 4133426872063258699515051954959967
def Ue:=sn 529078639625915187390690262777362015
def s237:=sn 3702244537951
def s238:=sn 8127756141967472223
def s239:=sn 68547669436954207
def s240:=sn 67483170382575199
def s241:=sn 130878917859640350373471
def ZU:=sn 252284354984113581345394423391
def s243:=sn 101
def s244:=sn 252284354984192394613751314015
def s245:=sn 15231881675267104671561311
def s246:=sn 32292397437965891055010746758751
def s247:=sn 57375978463721055
def x0:Obj:=⟨.none,none,.fields #[],#[]⟩
def e0:Obj:=tu #[] 0
def dI(P:Params)(l:List (Str × Nat × Value))(n:Nat):Obj:=⟨.type q1,none,.dict ⟨l.map λx=>⟨kh P x.1,.str x.1 x.2.1,x.2.2⟩⟩ n,#[]⟩
def tV:w1h->List Value
 | a::b::c::l=>i a::i b::r c::tV l
 | _=>[]
def tB(l:w1h):Obj:=⟨.none,none,.fields ⟨tV l⟩,#[]⟩
def cC(n:Str)(t l a:Nat):Obj:=co #[.str n t,.str n<|t+1,.str s1<|t+2,i l,i 0,i 0,i 0,i 0,r a,.bool false,i 181,r<|a+1,.none,.none,.none,.none,i<|t+3,i l,.str s1<|t+4]
def pL(a b:Nat)(s:Value):Obj:=⟨.type q0,none,.plain,#[some<|r a,some<|r 3,some<|r b,none,some s,none,some<|r 0]⟩
def cL(n:Str)(b m:w1j)(d:Nat)(s:w1j)(a t u:Nat)(z:String):Obj:=⟨.type q6,none,.cls ⟨n,b,m,d,n,true,[],s,false,none,false⟩,#[some<|r a,none,some<|.str n t,some<|.str n u,some<|.builtin z,some<|.bool true]⟩
def x3(a:Nat):Obj:=⟨.type q12,none,.fields #[r a,r a,r a],#[]⟩
def x2(a:Nat):Obj:=⟨.type q4,none,.fields #[.builtin q13,r a],#[]⟩
def x1:Obj:=⟨.type q4,none,.fields #[.builtin q5,.type q6],#[]⟩
def m0:Value:=.str s2 164
def m1:Value:=.str s87 326
def m2:Value:=.str s94 382
def m3:Value:=.str s102 463
def m4:Value:=.str s113 603
def m5:Value:=.str s122 640
def m6:Value:=.str s4 1126
def m7:Value:=.str s189 1166
def vr:w1i->Nat->List Value
 | [],_=>[]
 | x::l,t=>.str x t::vr l (t+1)
def cO(n q:Str)(t l k a v:Nat):Obj:=co #[.str n t,.str q<|t+1,.str s1<|t+2,i l,i k,i 0,i 0,i 3,r a,.bool true,i 181,r<|a+1,.none,r<|a+2,r<|a+3,r<|a+4,i<|t+3+v,i l,.str s1<|t+4+v]
def cN(n:Str)(t l k a v:Nat):Obj:=cO n n t l k a v
def fN(n:Str)(j:Nat)(m:Value)(c:Nat):Obj:=fo n n (c7 j) m (r c)
def f1:Obj->Obj
 | ⟨_,_,.func ⟨n,q,a,b,s,_,_,_,_,_,_,_,_,_,_⟩,_⟩=>⟨.none,none,.func ⟨n,q,a,b,s,0,[],.none,.none,.none,.none,none,.none,.none,0⟩,#[]⟩
 | o=>o
def D(t:Nat)(vs:w1i)(c f:Obj)(l:List Obj):List Obj:=e0::x0::tu ⟨vr vs t⟩ 0::e0::f1 f::c::f::l
def oL:List Obj->Nat->BT->BT
 | [],_,t=>t
 | o::l,n,t=>oL l (n+1) (t.ins n o)
def eO(n q:Str)(t l k a:Nat):Obj:=co #[.str n t,.str q<|t+1,.str s1<|t+2,i l,i k,i 0,i 0,i 3,r a,.bool true,i 181,r<|a+1,.none,.none,.none,r<|a+2,i<|t+3,i l,.str s1<|t+4]
def eN(n:Str)(t l k a:Nat):Obj:=eO n n t l k a
def E(c f:Obj)(l:List Obj):List Obj:=e0::x0::f1 f::c::f::l
def Xe:Obj:=e0
def l0k:Obj:=x0
def Xd:Obj:=cC s0 182 1 11
def Xc:Obj:=pL 13 3 m0
def o3_0(P:Params):Obj:=dI P [(s3,165,m6),(s5,166,.none),(s6,167,.none),(s7,168,.builtin q2),(s8,169,.none),(s9,170,r 6),(b0x,171,r 4),(Yz,173,.str s1 172),(FI,174,.none),(On,193,r 21),(Yy,213,r 31),(Yx,229,r 44),(Yw,245,r 56),(Yv,261,r 68),(Yu,277,r 80),(Yt,293,r 92),(Ys,309,r 104),(Yr,325,r 116),(a0a,333,r 123),(ZX,339,r 128),(ZV,345,r 133),(ZT,351,r 138),(ZR,357,r 143),(ZQ,369,r 150),(ZP,375,r 155),(ZO,381,r 160),(s30,385,.str s31 384),(s32,387,.int 3 386),(s33,389,.int 20 388),(RF,395,r 165),(ZN,401,r 170),(ZM,409,r 177),(Vi,415,r 182),(ZL,421,r 187),(ZK,427,r 192),(ZJ,434,r 199),(ZI,442,r 206),(ZH,453,r 213),(ZG,462,r 220),(ZF,472,r 227),(Vh,479,r 234),(ZE,488,r 241),(ZD,494,r 246),(ZC,500,r 251),(Zy,509,r 258),(Zx,515,r 263),(Zw,529,r 270),(Zv,540,r 277),(Zu,546,r 282),(Zt,552,r 287),(Zs,558,r 292),(Zr,566,r 299),(Vg,572,r 304),(RE,580,r 311),(Ud,586,r 316),(Zq,596,r 323),(Zp,602,r 328),(Zn,611,r 335),(Zm,622,r 342),(Zl,631,r 349),(Zk,639,r 356),(s66,643,.str Vf 642),(s68,645,.int 30 644),(Ve,647,.int 1000000 646),(Zj,653,r 361),(Zh,660,r 368),(Zg,667,r 375),(Uc,687,r 385),(Yq,717,r 413),(Yp,763,r 453),(Yo,861,r 535),(Yn,967,r 624),(Jz,1046,r 692),(HA,1125,r 760)] 74
def Vn:Obj:=tB [1,0,20,5,0,27,7,0,40,9,0,52,11,0,64,13,0,76,15,0,88,17,0,100,19,0,112,22,0,122,24,0,127,26,0,132,28,0,137,30,0,142,34,0,149,39,0,154,41,0,159,47,0,164,51,0,169,53,0,176,56,0,181,60,0,186,64,0,191,77,0,198,79,0,205,81,0,212,87,0,219,90,0,226,93,0,233,96,0,240,99,0,245,103,0,250,107,0,257,111,0,262,113,0,269,122,0,276,127,0,281,132,0,286,138,0,291,141,0,298,144,0,303,149,0,310,152,0,315,159,0,322,163,0,327,173,0,334,175,0,341,183,0,348,192,0,355,205,0,360,214,0,367,218,0,374,221,0,381,223,0,395,230,0,421,243,0,461,286,0,543,326,0,632,360,0,700]
def o20:=cN On 187 1 1 15 1
def o21:=fN On 0 m0 20
def o30(P:Params):Obj:=dI P [(Dn,203,.str FH 194),(Dl,207,.int 5 206),(Dk,208,r 29),(s86,210,r 32),(s5,211,.none)] 3
def o31:Obj:=cL Yy [.type q3] [r 31,.type q3,.type q7,.type q8,.type q9] 30 [r 44,r 56,r 68,r 80,r 92,r 104,r 116] 22 196 204 Vl
def o43(P:Params):Obj:=dI P [(Dn,221,.str FH 194),(Dl,225,.int 7 224),(Dk,226,r 42),(s5,227,.none)] 2
def o44:Obj:=cL Yx [r 31] [r 44,r 31,.type q3,.type q7,.type q8,.type q9] 43 [] 35 214 222 Vl
def o55(P:Params):Obj:=dI P [(Dn,237,.str FH 194),(Dl,241,.int 9 240),(Dk,242,r 54),(s5,243,.none)] 2
def o56:Obj:=cL Yw [r 31] [r 56,r 31,.type q3,.type q7,.type q8,.type q9] 55 [] 47 230 238 Vl
def o67(P:Params):Obj:=dI P [(Dn,253,.str FH 194),(Dl,257,.int 11 256),(Dk,258,r 66),(s5,259,.none)] 2
def o68:Obj:=cL Yv [r 31] [r 68,r 31,.type q3,.type q7,.type q8,.type q9] 67 [] 59 246 254 Vl
def o79(P:Params):Obj:=dI P [(Dn,269,.str FH 194),(Dl,273,.int 13 272),(Dk,274,r 78),(s5,275,.none)] 2
def o80:Obj:=cL Yu [r 31] [r 80,r 31,.type q3,.type q7,.type q8,.type q9] 79 [] 71 262 270 Vl
def o91(P:Params):Obj:=dI P [(Dn,285,.str FH 194),(Dl,289,.int 15 288),(Dk,290,r 90),(s5,291,.none)] 2
def o92:Obj:=cL Yt [r 31] [r 92,r 31,.type q3,.type q7,.type q8,.type q9] 91 [] 83 278 286 Vl
def l0s(P:Params):Obj:=dI P [(Dn,301,.str FH 194),(Dl,305,.int 17 304),(Dk,306,r 102),(s5,307,.none)] 2
def l0r:Obj:=cL Ys [r 31] [r 104,r 31,.type q3,.type q7,.type q8,.type q9] 103 [] 95 294 302 Vl
def l0q(P:Params):Obj:=dI P [(Dn,317,.str FH 194),(Dl,321,.int 19 320),(Dk,322,r 114),(s5,323,.none)] 2
def l0p:Obj:=cL Yr [r 31] [r 116,r 31,.type q3,.type q7,.type q8,.type q9] 115 [] 107 310 318 Vl
def l0o:=eN a0a 328 22 2 119
def l0n:=fN a0a 11 m1 122
def l0m:=eN ZX 334 24 3 124
def l0l:=fN ZX 12 m1 127
def l0j:=eN ZV 340 26 3 129
def l0i:=fN ZV 13 m1 132
def l0h:=eN ZT 346 28 2 134
def l0g:=fN ZT 14 m1 137
def l0f:=eN ZR 352 30 1 139
def l0e:=fN ZR 15 m1 142
def l0d:=cN ZQ 358 34 3 144 6
def l0c:=fN ZQ 16 m1 149
def l0b:=eN ZP 370 39 3 151
def l0a:=fN ZP 17 m1 154
def k0z:=eN ZO 376 41 3 156
def k0y:=fN ZO 18 m1 159
def k0x:=eN RF 390 47 1 161
def k0w:=fN RF 23 m2 164
def k0v:=eN ZN 396 51 2 166
def k0u:=fN ZN 24 m2 169
def k0t:=cN ZM 402 53 2 171 2
def k0s:=fN ZM 25 m2 176
def k0r:=eN Vi 410 56 3 178
def k0q:=fN Vi 26 m2 181
def k0p:=eN ZL 416 60 3 183
def k0o:=fN ZL 27 m2 186
def k0n:=eN ZK 422 64 2 188
def k0m:=fN ZK 28 m2 191
def k0l:=cN ZJ 428 77 1 193 1
def k0k:=fN ZJ 29 m2 198
def k0j:=cN ZI 435 79 2 200 2
def k0i:=fN ZI 30 m2 205
def k0h:=cN ZH 443 81 3 207 5
def k0g:=fN ZH 31 m2 212
def k0f:=cN ZG 454 87 3 214 3
def k0e:=fN ZG 32 m2 219
def k0d:=cN ZF 465 90 2 221 2
def k0c:=fN ZF 34 m3 226
def k0b:=cN Vh 473 93 1 228 1
def k0a:=fN Vh 35 m3 233
def j0z:=cN ZE 480 96 3 235 3
def j0y:=fN ZE 36 m3 240
def j0x:=eN ZD 489 99 4 242
def j0w:=fN ZD 37 m3 245
def j0v:=eN ZC 495 103 3 247
def j0u:=fN ZC 38 m3 250
def j0t:=cN Zy 501 107 3 252 3
def j0s:=fN Zy 39 m3 257
def j0r:=eN Zx 510 111 3 259
def j0q:=fN Zx 40 m3 262
def j0p:=cN Zw 516 113 3 264 8
def j0o:=fN Zw 41 m3 269
def j0n:=cN Zv 530 122 3 271 5
def j0m:=fN Zv 42 m3 276
def j0l:=eN Zu 541 127 3 278
def j0k:=fN Zu 43 m3 281
def j0j:=eN Zt 547 132 3 283
def j0i:=fN Zt 44 m3 286
def j0h:=eN Zs 553 138 1 288
def j0g:=fN Zs 45 m3 291
def j0f:=cN Zr 559 141 2 293 2
def j0e:=fN Zr 46 m3 298
def j0d:=eN Vg 567 144 3 300
def j0c:=fN Vg 47 m3 303
def j0b:=cN RE 573 149 2 305 2
def j0a:=fN RE 48 m3 310
def i0z:=eN Ud 581 152 2 312
def i0y:=fN Ud 49 m3 315
def i0x:=cN Zq 587 159 4 317 4
def i0w:=fN Zq 50 m3 322
def i0v:=eN Zp 597 163 4 324
def i0u:=fN Zp 51 m3 327
def i0t:=cN Zn 605 173 1 329 1
def i0s:=fN Zn 53 m4 334
def i0r:=cN Zm 612 175 2 336 5
def i0q:=fN Zm 54 m4 341
def i0p:=cN Zl 623 183 2 343 3
def i0o:=fN Zl 55 m4 348
def i0n:=cN Zk 632 192 1 350 2
def i0m:=fN Zk 56 m4 355
def i0l:=eN Zj 648 205 1 357
def i0k:=fN Zj 61 m5 360
def i0j:=cN Zh 654 214 1 362 1
def i0i:=fN Zh 62 m5 367
def i0h:=cN Zg 661 218 1 369 1
def i0g:=fN Zg 63 m5 374
def i0f(P:Params):Obj:=dI P [(Dn,675,m5),(Dl,679,.int 221 678),(Dk,680,r 383),(b0t,682,r 386),(s86,684,r 387),(s5,685,.none)] 4
def i0e:Obj:=⟨.type q6,none,.cls ⟨Uc,[.type q9],[r 385,.type q9],384,Uc,true,[],[r 413,r 453],false,none,false⟩,#[none,none,some<|.str Uc 668,some<|.str Uc 676,some<|.builtin WI,some<|.bool true]⟩
def i0c:=cO Lg b0s 700 225 1 397 1
def i0b:=fo Lg b0s (L2.j0 (c7 65) 0) m5 (r 402)
def i0a:=cO Lf b0r 707 228 1 404 1
def h0z:=fo Lf b0r (L2.j0 (c7 65) 1) m5 (r 409)
def h0y(P:Params):Obj:=dI P [(Dn,695,m5),(Dl,699,.int 223 698),(Lg,706,r 403),(Lf,713,r 410),(Dk,714,r 411),(s5,715,.none)] 2
def h0x:Obj:=cL Yq [r 385] [r 413,r 385,.type q9] 412 [r 535,r 624] 390 688 696 WI
def h0w:=cO Lg b0q 730 232 1 423 1
def h0v:=fo Lg b0q (L2.j0 (c7 66) 0) m5 (r 428)
def h0u:=cO Lf b0p 737 235 1 430 1
def h0t:=fo Lf b0p (L2.j0 (c7 66) 1) m5 (r 435)
def h0s:=cO Fl b0o 744 238 2 437 2
def h0r:=fo Fl b0o (L2.j0 (c7 66) 2) m5 (r 442)
def h0q:=cO Fk b0n 752 241 2 444 2
def h0p:=fo Fk b0n (L2.j0 (c7 66) 3) m5 (r 449)
def h0o(P:Params):Obj:=dI P [(Dn,725,m5),(Dl,729,.int 230 728),(Lg,736,r 429),(Lf,743,r 436),(Fl,751,r 443),(Fk,759,r 450),(Dk,760,r 451),(s5,761,.none)] 2
def h0n:Obj:=cL Yp [r 385] [r 453,r 385,.type q9] 452 [r 692,r 760] 416 718 726 WI
def h0m:=cO Bb b0m 776 245 1 463 1
def h0l:=fo Bb b0m (L2.j0 (c7 67) 0) m5 (r 468)
def h0k:=cO BS b0l 783 248 1 470 1
def h0j:=fo BS b0l (L2.j0 (c7 67) 1) m5 (r 475)
def h0i:=cO W9 b0k 790 251 1 477 1
def h0h:=fo W9 b0k (L2.j0 (c7 67) 2) m5 (r 482)
def h0g:=cO BR b0j 797 254 3 484 3
def h0f:=fo BR b0j (L2.j0 (c7 67) 3) m5 (r 489)
def h0e:=cO Ba b0i 806 257 3 491 3
def h0d:=fo Ba b0i (L2.j0 (c7 67) 4) m5 (r 496)
def h0c:=cO Fl b0h 815 260 2 498 2
def h0b:=fo Fl b0h (L2.j0 (c7 67) 5) m5 (r 503)
def h0a:=cO Fk b0g 823 263 2 505 2
def g0z:=fo Fk b0g (L2.j0 (c7 67) 6) m5 (r 510)
def g0y:=cO BQ b0f 831 266 2 512 2
def g0x:=fo BQ b0f (L2.j0 (c7 67) 7) m5 (r 517)
def g0w:=cO BP b0e 839 273 2 519 2
def g0v:=fo BP b0e (L2.j0 (c7 67) 8) m5 (r 524)
def g0u:=cO BO b0d 847 276 2 526 5
def g0t:=fo BO b0d (L2.j0 (c7 67) 9) m5 (r 531)
def g0s(P:Params):Obj:=dI P [(Dn,771,m5),(Dl,775,.int 243 774),(Bb,782,r 469),(BS,789,r 476),(W9,796,r 483),(BR,805,r 490),(Ba,814,r 497),(Fl,822,r 504),(Fk,830,r 511),(BQ,838,r 518),(BP,846,r 525),(BO,857,r 532),(Dk,858,r 533),(s5,859,.none)] 2
def g0r:Obj:=cL Yo [r 413] [r 535,r 413,r 385,.type q9] 534 [] 456 764 772 WI
def g0q:=cO Ui b0c 874 288 2 545 2
def g0p:=fo Ui b0c (L2.j0 (c7 68) 0) m5 (r 550)
def g0o:=cO Bb b0b 882 293 1 552 2
def g0n:=fo Bb b0b (L2.j0 (c7 68) 1) m5 (r 557)
def g0m:=cO BS b0a 890 297 1 559 1
def g0l:=fo BS b0a (L2.j0 (c7 68) 2) m5 (r 564)
def g0k:=cO W9 a0z 897 300 1 566 1
def g0j:=fo W9 a0z (L2.j0 (c7 68) 3) m5 (r 571)
def g0i:=cO BR a0y 904 303 3 573 3
def g0h:=fo BR a0y (L2.j0 (c7 68) 4) m5 (r 578)
def g0g:=cO Ba a0x 913 306 3 580 3
def g0f:=fo Ba a0x (L2.j0 (c7 68) 5) m5 (r 585)
def g0e:=cO Fl a0w 922 309 2 587 2
def g0d:=fo Fl a0w (L2.j0 (c7 68) 6) m5 (r 592)
def g0c:=cO Fk a0v 930 312 2 594 2
def g0b:=fo Fk a0v (L2.j0 (c7 68) 7) m5 (r 599)
def g0a:=cO BQ a0u 938 315 2 601 2
def f0z:=fo BQ a0u (L2.j0 (c7 68) 8) m5 (r 606)
def f0y:=cO BP a0t 946 318 2 608 2
def f0x:=fo BP a0t (L2.j0 (c7 68) 9) m5 (r 613)
def f0w:=cO BO a0s 954 321 2 615 3
def f0v:=fo BO a0s (L2.j0 (c7 68) 10) m5 (r 620)
def f0u(P:Params):Obj:=dI P [(Dn,869,m5),(Dl,873,.int 286 872),(Ui,881,r 551),(Bb,889,r 558),(BS,896,r 565),(W9,903,r 572),(BR,912,r 579),(Ba,921,r 586),(Fl,929,r 593),(Fk,937,r 600),(BQ,945,r 607),(BP,953,r 614),(BO,962,r 621),(Dk,964,r 622),(s5,965,.none)] 2
def f0t:Obj:=cL Yn [r 413] [r 624,r 413,r 385,.type q9] 623 [] 538 862 870 WI
def f0s:=cO Bb a0r 980 328 1 634 1
def f0r:=fo Bb a0r (L2.j0 (c7 69) 0) m5 (r 639)
def f0q:=cO BS a0q 987 331 1 641 1
def f0p:=fo BS a0q (L2.j0 (c7 69) 1) m5 (r 646)
def f0o:=cO W9 a0p 994 334 1 648 1
def f0n:=fo W9 a0p (L2.j0 (c7 69) 2) m5 (r 653)
def f0m:=cO BR a0o 1001 337 3 655 3
def f0l:=fo BR a0o (L2.j0 (c7 69) 3) m5 (r 660)
def f0k:=cO Ba a0n 1010 344 3 662 3
def f0j:=fo Ba a0n (L2.j0 (c7 69) 4) m5 (r 667)
def f0i:=cO BQ a0m 1019 349 2 669 2
def f0h:=fo BQ a0m (L2.j0 (c7 69) 5) m5 (r 674)
def f0g:=cO BP a0l 1027 352 2 676 2
def f0f:=fo BP a0l (L2.j0 (c7 69) 6) m5 (r 681)
def f0e:=cO BO a0k 1035 355 2 683 2
def f0d:=fo BO a0k (L2.j0 (c7 69) 7) m5 (r 688)
def f0c(P:Params):Obj:=dI P [(Dn,975,m5),(Dl,979,.int 326 978),(Bb,986,r 640),(BS,993,r 647),(W9,1000,r 654),(BR,1009,r 661),(Ba,1018,r 668),(BQ,1026,r 675),(BP,1034,r 682),(BO,1042,r 689),(Dk,1043,r 690),(s5,1044,.none)] 2
def f0b:Obj:=cL Jz [r 453] [r 692,r 453,r 385,.type q9] 691 [] 627 968 976 WI
def f0a:=cO Bb a0j 1059 362 1 702 1
def e0z:=fo Bb a0j (L2.j0 (c7 70) 0) m5 (r 707)
def e0y:=cO BS a0i 1066 365 1 709 1
def e0x:=fo BS a0i (L2.j0 (c7 70) 1) m5 (r 714)
def e0w:=cO W9 a0h 1073 368 1 716 1
def e0v:=fo W9 a0h (L2.j0 (c7 70) 2) m5 (r 721)
def e0u:=cO BR a0g 1080 371 3 723 3
def e0t:=fo BR a0g (L2.j0 (c7 70) 3) m5 (r 728)
def e0s:=cO Ba a0f 1089 374 3 730 3
def e0r:=fo Ba a0f (L2.j0 (c7 70) 4) m5 (r 735)
def e0q:=cO BQ a0e 1098 377 2 737 2
def e0p:=fo BQ a0e (L2.j0 (c7 70) 5) m5 (r 742)
def e0o:=cO BP a0d 1106 380 2 744 2
def e0n:=fo BP a0d (L2.j0 (c7 70) 6) m5 (r 749)
def e0m:=cO BO a0c 1114 383 2 751 2
def e0l:=fo BO a0c (L2.j0 (c7 70) 7) m5 (r 756)
def e0k(P:Params):Obj:=dI P [(Dn,1054,m5),(Dl,1058,.int 360 1057),(Bb,1065,r 708),(BS,1072,r 715),(W9,1079,r 722),(BR,1088,r 729),(Ba,1097,r 736),(BQ,1105,r 743),(BP,1113,r 750),(BO,1121,r 757),(Dk,1122,r 758),(s5,1123,.none)] 2
def e0j:Obj:=cL HA [r 453] [r 760,r 453,r 385,.type q9] 759 [] 695 1047 1055 WI
def o3_1(P:Params):Obj:=dI P [(s3,165,m6),(s5,166,.none),(s6,167,.none),(s7,168,.builtin q2),(s8,169,.none),(s9,170,r 6),(b0x,171,r 4),(Yz,173,.str s1 172),(FI,174,.none),(On,193,r 21),(Yy,213,r 31),(Yx,229,r 44),(Yw,245,r 56),(Yv,261,r 68),(Yu,277,r 80),(Yt,293,r 92),(Ys,309,r 104),(Yr,325,r 116),(a0a,333,r 123),(ZX,339,r 128),(ZV,345,r 133),(ZT,351,r 138),(ZR,357,r 143),(ZQ,369,r 150),(ZP,375,r 155),(ZO,381,r 160),(s30,385,.str s31 384),(s32,387,.int 3 386),(s33,389,.int 20 388),(RF,395,r 165),(ZN,401,r 170),(ZM,409,r 177),(Vi,415,r 182),(ZL,421,r 187),(ZK,427,r 192),(ZJ,434,r 199),(ZI,442,r 206),(ZH,453,r 213),(ZG,462,r 220),(ZF,472,r 227),(Vh,479,r 234),(ZE,488,r 241),(ZD,494,r 246),(ZC,500,r 251),(Zy,509,r 258),(Zx,515,r 263),(Zw,529,r 270),(Zv,540,r 277),(Zu,546,r 282),(Zt,552,r 287),(Zs,558,r 292),(Zr,566,r 299),(Vg,572,r 304),(RE,580,r 311),(Ud,586,r 316),(Zq,596,r 323),(Zp,602,r 328),(Zn,611,r 335),(Zm,622,r 342),(Zl,631,r 349),(Zk,639,r 356),(s66,643,.str Vf 642),(s68,645,.int 30 644),(Ve,647,.int 1000000 646),(Zj,653,r 361),(Zh,660,r 368),(Zg,667,r 375),(Uc,687,r 385),(Yq,717,r 413),(Yp,763,r 453),(Yo,861,r 535),(Yn,967,r 624),(Jz,1046,r 692),(HA,1125,r 760),(a0b,1152,r 763)] 75
def e0i(P:Params):Obj:=dI P [(s183,1128,.int 0 1129),(s99,1130,.int 0 1131),(Ba,1132,.int 1 1133),(s184,1134,.int 2 1135),(s185,1136,.int 2 1137),(s186,1138,.int 2 1139),(s187,1140,.int 1 1141),(s188,1142,.int 1 1143)] 8
def i0d(P:Params):Obj:=dI P [(s3,165,m7),(s5,166,.none),(s6,167,.none),(s7,168,.builtin q2),(s8,169,.none),(s9,170,r 6),(b0x,171,r 4),(Yz,173,.str s1 172),(FI,174,.none),(On,193,r 21),(Yy,213,r 31),(Yx,229,r 44),(Yw,245,r 56),(Yv,261,r 68),(Yu,277,r 80),(Yt,293,r 92),(Ys,309,r 104),(Yr,325,r 116),(a0a,333,r 123),(ZX,339,r 128),(ZV,345,r 133),(ZT,351,r 138),(ZR,357,r 143),(ZQ,369,r 150),(ZP,375,r 155),(ZO,381,r 160),(s30,385,.str s31 384),(s32,387,.int 3 386),(s33,389,.int 20 388),(RF,395,r 165),(ZN,401,r 170),(ZM,409,r 177),(Vi,415,r 182),(ZL,421,r 187),(ZK,427,r 192),(ZJ,434,r 199),(ZI,442,r 206),(ZH,453,r 213),(ZG,462,r 220),(ZF,472,r 227),(Vh,479,r 234),(ZE,488,r 241),(ZD,494,r 246),(ZC,500,r 251),(Zy,509,r 258),(Zx,515,r 263),(Zw,529,r 270),(Zv,540,r 277),(Zu,546,r 282),(Zt,552,r 287),(Zs,558,r 292),(Zr,566,r 299),(Vg,572,r 304),(RE,580,r 311),(Ud,586,r 316),(Zq,596,r 323),(Zp,602,r 328),(Zn,611,r 335),(Zm,622,r 342),(Zl,631,r 349),(Zk,639,r 356),(s66,643,.str Vf 642),(s68,645,.int 30 644),(Ve,647,.int 1000000 646),(Zj,653,r 361),(Zh,660,r 368),(Zg,667,r 375),(Uc,687,r 385),(Yq,717,r 413),(Yp,763,r 453),(Yo,861,r 535),(Yn,967,r 624),(Jz,1046,r 692),(HA,1125,r 760),(a0b,1152,r 763),(WA,1159,r 770),(Wz,1165,r 775),(Wy,1176,r 782),(Wx,1185,r 789),(Ww,1193,r 796),(Wv,1202,r 803),(Wu,1211,r 810),(Ws,1220,r 817),(Wr,1227,r 824),(Wq,1234,r 831),(Wp,1242,r 838),(Wo,1249,r 845),(Wn,1257,r 852),(Wm,1269,r 859),(Wl,1281,r 866),(Wk,1287,r 871),(Wj,1295,r 878),(Wi,1301,r 883),(Wh,1307,r 888),(Wg,1317,r 895),(Wf,1329,r 902),(We,1335,r 907),(Wd,1347,r 914),(Wc,1353,r 919),(Wb,1365,r 926),(Wa,1383,r 933)] 101
def e0h:=cN WA 1153 392 1 764 1
def e0g:=fN WA 73 m6 769
def e0f:=eN Wz 1160 394 3 771
def e0e:=fN Wz 74 m6 774
def e0d:=cN Wy 1168 413 2 776 3
def e0c:=fN Wy 76 m7 781
def e0b:=cN Wx 1177 422 1 783 3
def e0a:=fN Wx 77 m7 788
def d0z:=cN Ww 1186 429 2 790 2
def d0y:=fN Ww 78 m7 795
def d0x:=cN Wv 1194 433 2 797 3
def d0w:=fN Wv 79 m7 802
def d0v:=cN Wu 1203 436 3 804 3
def d0u:=fN Wu 80 m7 809
def d0t:=cN Ws 1212 446 3 811 3
def d0s:=fN Ws 81 m7 816
def d0r:=cN Wr 1221 456 1 818 1
def d0q:=fN Wr 82 m7 823
def d0p:=cN Wq 1228 458 1 825 1
def d0o:=fN Wq 83 m7 830
def d0n:=cN Wp 1235 460 1 832 2
def d0m:=fN Wp 84 m7 837
def d0l:=cN Wo 1243 463 1 839 1
def d0k:=fN Wo 85 m7 844
def d0j:=cN Wn 1250 471 2 846 2
def d0i:=fN Wn 86 m7 851
def d0h:=cN Wm 1258 481 4 853 6
def d0g:=fN Wm 87 m7 858
def d0f:=cN Wl 1270 486 4 860 6
def d0e:=fN Wl 88 m7 865
def d0d:=eN Wk 1282 493 3 867
def d0c:=fN Wk 89 m7 870
def d0b:=cN Wj 1288 515 2 872 2
def d0a:=fN Wj 90 m7 877
def c0z:=eN Wi 1296 517 2 879
def c0y:=fN Wi 91 m7 882
def c0x:=eN Wh 1302 527 2 884
def c0w:=fN Wh 92 m7 887
def c0v:=cN Wg 1308 534 2 889 4
def c0u:=fN Wg 93 m7 894
def c0t:=cN Wf 1318 539 4 896 6
def c0s:=fN Wf 94 m7 901
def c0r:=eN We 1330 555 2 903
def c0q:=fN We 95 m7 906
def c0p:=cN Wd 1336 576 3 908 6
def c0o:=fN Wd 96 m7 913
def c0n:=eN Wc 1348 581 3 915
def c0m:=fN Wc 97 m7 918
def c0l:=cN Wb 1354 587 3 920 6
def c0k:=fN Wb 98 m7 925
def c0j:=cN Wa 1366 595 1 927 12
def c0i:=fN Wa 99 m7 932
def QD:Env:={ scope:=pW.main.scope,locals:=mainNs,globals:=mainNs,cells:=[],code:=(r 13),frame:=some 14 }
def cT:Code:=.body (behindTheImports pW) QD
def qP:Pos:=⟨0,0,0,0⟩
def Ha(P:Params):Heap:=⟨⟨[boot_o_0 P,boot_o_1 P,boot_o_2 P,boot_o_3 P,boot_o_4 P,boot_o_5 P,boot_o_6 P,boot_o_7 P,boot_o_8 P,boot_o_9 P,boot_o_10 P,Xe,l0k,Xd,Xc]⟩,PySem.Life.mk [] [] [] 0 [] [] false #[] [] 0 false false false 0 [2000,10,10] false 0 true [] [] 0 false⟩
def Sa(w:World)(os:OsState):Shared:=⟨Ha w.params,⟨[]⟩,PySem.Drawn.mk 0 0 0 0,187,os⟩
def Tb(P:Params):BT:=(nd (boot_o_0 P) (nd (boot_o_1 P) (nd (boot_o_3 P) (lf<|boot_o_7 P)<|lf Xe)<|nd (boot_o_5 P) (lf<|boot_o_9 P)<|lf Xd)<|nd (boot_o_2 P) (nd (boot_o_4 P) (lf<|boot_o_8 P)<|lf l0k)<|nd (boot_o_6 P) (lf<|boot_o_10 P)<|lf Xc)
def Sb(w:World)(os:OsState):SharedT:=⟨Tb w.params,15,PySem.Life.mk [] [] [] 0 [] [] false #[] [] 0 false false false 0 [2000,10,10] false 0 true [] [] 0 false,⟨[]⟩,PySem.Drawn.mk 0 0 0 0,187,os⟩
def oA(P:Params):List Obj:=boot_o_0 P::boot_o_1 P::boot_o_2 P::i0d P::boot_o_4 P::boot_o_5 P::boot_o_6 P::boot_o_7 P::boot_o_8 P::boot_o_9 P::boot_o_10 P::Xe::tB [1,0,20,5,0,27,7,0,40,9,0,52,11,0,64,13,0,76,15,0,88,17,0,100,19,0,112,22,0,122,24,0,127,26,0,132,28,0,137,30,0,142,34,0,149,39,0,154,41,0,159,47,0,164,51,0,169,53,0,176,56,0,181,60,0,186,64,0,191,77,0,198,79,0,205,81,0,212,87,0,219,90,0,226,93,0,233,96,0,240,99,0,245,103,0,250,107,0,257,111,0,262,113,0,269,122,0,276,127,0,281,132,0,286,138,0,291,141,0,298,144,0,303,149,0,310,152,0,315,159,0,322,163,0,327,173,0,334,175,0,341,183,0,348,192,0,355,205,0,360,214,0,367,218,0,374,221,0,381,223,0,395,230,0,421,243,0,461,286,0,543,326,0,632,360,0,700,392,0,769,394,0,774,413,0,781,422,0,788,429,0,795,433,0,802,436,0,809,446,0,816,456,0,823,458,0,830,460,0,837,463,0,844,471,0,851,481,0,858,486,0,865,493,0,870,515,0,877,517,0,882,527,0,887,534,0,894,539,0,901,555,0,906,576,0,913,581,0,918,587,0,925,595,0,932]::Xd::Xc::D 190 [s80] o20 o21 (tu #[.type q3] 0::x1::dI P [(Dn,203,.str FH 194),(MP,205,.str Yy 204),(Dl,207,.int 5 206),(Dk,208,r 29)] 4::e0::x0::cC Yy 198 5 25::pL 27 24 (.str FH 194)::e0::o30 P::o31::⟨.type q11,none,.fields #[.str s86 209,r 31,.builtin SL.s10220274742760427390x26,.none],#[]⟩::x3 31::x2 31::tu #[r 31] 0::x1::dI P [(Dn,221,.str FH 194),(MP,223,.str Yx 222),(Dl,225,.int 7 224),(Dk,226,r 42)] 4::e0::x0::cC Yx 216 7 38::pL 40 37 (.str FH 194)::e0::o43 P::o44::x3 44::x2 44::tu #[r 31] 0::x1::dI P [(Dn,237,.str FH 194),(MP,239,.str Yw 238),(Dl,241,.int 9 240),(Dk,242,r 54)] 4::e0::x0::cC Yw 232 9 50::pL 52 49 (.str FH 194)::e0::o55 P::o56::x3 56::x2 56::tu #[r 31] 0::x1::dI P [(Dn,253,.str FH 194),(MP,255,.str Yv 254),(Dl,257,.int 11 256),(Dk,258,r 66)] 4::e0::x0::cC Yv 248 11 62::pL 64 61 (.str FH 194)::e0::o67 P::o68::x3 68::x2 68::tu #[r 31] 0::x1::dI P [(Dn,269,.str FH 194),(MP,271,.str Yu 270),(Dl,273,.int 13 272),(Dk,274,r 78)] 4::e0::x0::cC Yu 264 13 74::pL 76 73 (.str FH 194)::e0::o79 P::o80::x3 80::x2 80::tu #[r 31] 0::x1::dI P [(Dn,285,.str FH 194),(MP,287,.str Yt 286),(Dl,289,.int 15 288),(Dk,290,r 90)] 4::e0::x0::cC Yt 280 15 86::pL 88 85 (.str FH 194)::e0::o91 P::o92::x3 92::x2 92::tu #[r 31] 0::x1::dI P [(Dn,301,.str FH 194),(MP,303,.str Ys 302),(Dl,305,.int 17 304),(Dk,306,r 102)] 4::e0::x0::cC Ys 296 17 98::pL 100 97 (.str FH 194)::e0::l0s P::l0r::x3 104::x2 104::tu #[r 31] 0::x1::dI P [(Dn,317,.str FH 194),(MP,319,.str Yr 318),(Dl,321,.int 19 320),(Dk,322,r 114)] 4::e0::x0::cC Yr 312 19 110::pL 112 109 (.str FH 194)::e0::l0q P::l0p::x3 116::x2 116::E l0o l0n (E l0m l0l<|E l0j l0i<|E l0h l0g<|E l0f l0e<|D 361 [Tp,Ml,s90,s91,Iu,Ub] l0d l0c<|E l0b l0a<|E k0z k0y<|E k0x k0w<|E k0v k0u<|D 405 [s95,Ym] k0t k0s<|E k0r k0q<|E k0p k0o<|E k0n k0m<|D 431 [Yl] k0l k0k<|D 438 [Yl,s98] k0j k0i<|D 446 [Tp,Yl,s99,Ml,s98] k0h k0g<|D 457 [Tp,Yl,s99] k0f k0e<|D 468 [W9,RH] k0d k0c<|D 476 [s103] k0b k0a<|D 483 [Tp,s104,Yl] j0z j0y<|E j0x j0w<|E j0v j0u<|D 504 [Tp,W9,RH] j0t j0s<|E j0r j0q<|D 519 [Tp,W9,RH,s105,s106,s107,s108,s109] j0p j0o<|D 533 [Tp,W9,RH,Bb,Iu] j0n j0m<|E j0l j0k<|E j0j j0i<|E j0h j0g<|D 562 [Tp,Yl] j0f j0e<|E j0d j0c<|D 576 [Tp,s111] j0b j0a<|E i0z i0y<|D 590 [Tp,s98,s99,s112] i0x i0w<|E i0v i0u<|D 608 [Ym] i0t i0s<|D 615 [W9,RH,s114,s115,s116] i0r i0q<|D 626 [b0w,b0v,s119] i0p i0o<|D 635 [b0u,s121] i0n i0m<|E i0l i0k<|D 657 [Pz] i0j i0i<|D 664 [Pz] i0h i0g (e0::x1::dI P [(Dn,675,m5),(MP,677,.str Uc 676),(Dl,679,.int 221 678),(Dk,680,r 383)] 4::e0::x0::cC Uc 670 221 379::pL 381 378 m5::e0::i0f P::i0e::⟨.type q11,none,.fields #[.str b0t 681,r 385,.builtin SL.s6511155373996960695x17,.builtin SL.s12411053484034534018x21],#[]⟩::⟨.type q11,none,.fields #[.str s86 683,r 385,.builtin SL.s10220274742760427390x26,.none],#[]⟩::x3 385::x2 385::tu #[r 385] 0::x1::dI P [(Dn,695,m5),(MP,697,.str Yq 696),(Dl,699,.int 223 698),(Lg,706,r 403),(Lf,713,r 410),(Dk,714,r 411)] 6::e0::tB [225,4,402,228,4,409]::cC Yq 690 223 393::pL 395 392 m5::D 703 [D2] i0c i0b (D 710 [D2] i0a h0z (e0::h0y P::h0x::x3 413::x2 413::tu #[r 385] 0::x1::dI P [(Dn,725,m5),(MP,727,.str Yp 726),(Dl,729,.int 230 728),(Lg,736,r 429),(Lf,743,r 436),(Fl,751,r 443),(Fk,759,r 450),(Dk,760,r 451)] 8::e0::tB [232,4,428,235,4,435,238,4,442,241,4,449]::cC Yp 720 230 419::pL 421 418 m5::D 733 [D2] h0w h0v (D 740 [D2] h0u h0t<|D 747 [D2,Iu] h0s h0r<|D 755 [D2,Iu] h0q h0p (e0::h0o P::h0n::x3 453::x2 453::tu #[r 413] 0::x1::dI P [(Dn,771,m5),(MP,773,.str Yo 772),(Dl,775,.int 243 774),(Bb,782,r 469),(BS,789,r 476),(W9,796,r 483),(BR,805,r 490),(Ba,814,r 497),(Fl,822,r 504),(Fk,830,r 511),(BQ,838,r 518),(BP,846,r 525),(BO,857,r 532),(Dk,858,r 533)] 14::e0::tB [245,4,468,248,4,475,251,4,482,254,4,489,257,4,496,260,4,503,263,4,510,266,4,517,273,4,524,276,4,531]::cC Yo 766 243 459::pL 461 458 m5::D 779 [D2] h0m h0l (D 786 [D2] h0k h0j<|D 793 [D2] h0i h0h<|D 800 [D2,Iu,Ub] h0g h0f<|D 809 [D2,Iu,Ub] h0e h0d<|D 818 [D2,Iu] h0c h0b<|D 826 [D2,Iu] h0a g0z<|D 834 [D2,Ym] g0y g0x<|D 842 [D2,Iu] g0w g0v<|D 850 [D2,Pz,s151,b0w,b0v] g0u g0t (e0::g0s P::g0r::x3 535::x2 535::tu #[r 413] 0::x1::dI P [(Dn,869,m5),(MP,871,.str Yn 870),(Dl,873,.int 286 872),(Ui,881,r 551),(Bb,889,r 558),(BS,896,r 565),(W9,903,r 572),(BR,912,r 579),(Ba,921,r 586),(Fl,929,r 593),(Fk,937,r 600),(BQ,945,r 607),(BP,953,r 614),(BO,962,r 621),(Dk,964,r 622)] 15::e0::tB [288,4,550,293,4,557,297,4,564,300,4,571,303,4,578,306,4,585,309,4,592,312,4,599,315,4,606,318,4,613,321,4,620]::cC Yn 864 286 541::pL 543 540 m5::D 877 [D2,WB] g0q g0p (D 885 [D2,WB] g0o g0n<|D 893 [D2] g0m g0l<|D 900 [D2] g0k g0j<|D 907 [D2,Iu,Ub] g0i g0h<|D 916 [D2,Iu,Ub] g0g g0f<|D 925 [D2,Iu] g0e g0d<|D 933 [D2,Iu] g0c g0b<|D 941 [D2,Ym] g0a f0z<|D 949 [D2,Iu] f0y f0x<|D 957 [D2,Pz,b0u] f0w f0v (tu #[.str WB 963] 0::f0u P::f0t::x3 624::x2 624::tu #[r 453] 0::x1::dI P [(Dn,975,m5),(MP,977,.str Jz 976),(Dl,979,.int 326 978),(Bb,986,r 640),(BS,993,r 647),(W9,1000,r 654),(BR,1009,r 661),(Ba,1018,r 668),(BQ,1026,r 675),(BP,1034,r 682),(BO,1042,r 689),(Dk,1043,r 690)] 12::e0::tB [328,4,639,331,4,646,334,4,653,337,4,660,344,4,667,349,4,674,352,4,681,355,4,688]::cC Jz 970 326 630::pL 632 629 m5::D 983 [D2] f0s f0r (D 990 [D2] f0q f0p<|D 997 [D2] f0o f0n<|D 1004 [D2,Iu,Ub] f0m f0l<|D 1013 [D2,Iu,Ub] f0k f0j<|D 1022 [D2,Ym] f0i f0h<|D 1030 [D2,Iu] f0g f0f<|D 1038 [D2,Pz] f0e f0d (e0::f0c P::f0b::x3 692::x2 692::tu #[r 453] 0::x1::dI P [(Dn,1054,m5),(MP,1056,.str HA 1055),(Dl,1058,.int 360 1057),(Bb,1065,r 708),(BS,1072,r 715),(W9,1079,r 722),(BR,1088,r 729),(Ba,1097,r 736),(BQ,1105,r 743),(BP,1113,r 750),(BO,1121,r 757),(Dk,1122,r 758)] 12::e0::tB [362,4,707,365,4,714,368,4,721,371,4,728,374,4,735,377,4,742,380,4,749,383,4,756]::cC HA 1049 360 698::pL 700 697 m5::D 1062 [D2] f0a e0z (D 1069 [D2] e0y e0x<|D 1076 [D2] e0w e0v<|D 1083 [D2,Iu,Ub] e0u e0t<|D 1092 [D2,Iu,Ub] e0s e0r<|D 1101 [D2,Ym] e0q e0p<|D 1109 [D2,Iu] e0o e0n<|D 1117 [D2,Pz] e0m e0l (e0::e0k P::e0j::x3 760::x2 760::e0i P::D 1156 [s216] e0h e0g (E e0f e0e<|D 1171 [Py,s218,Uh] e0d e0c<|D 1180 [ZZ,s221,s222] e0b e0a<|D 1189 [Ug,ZY] d0z d0y<|D 1197 [s225,s226,s227] d0x d0w<|D 1206 [Fj,VZ,VY] d0v d0u<|D 1215 [Fj,VZ,VY] d0t d0s<|D 1224 [Fj] d0r d0q<|D 1231 [Fj] d0p d0o<|D 1238 [Py,s231] d0n d0m<|D 1246 [Fj] d0l d0k<|D 1253 [Py,Fj] d0j d0i<|D 1261 [Fj,Ug,ZY,RG,VX,ZW] d0h d0g<|D 1273 [Fj,Ug,Uh,RG,VX,ZW] d0f d0e<|E d0d d0c<|D 1291 [Fj,VW] d0b d0a<|E c0z c0y<|E c0x c0w<|D 1311 [Py,Ue,RG,s237] c0v c0u<|D 1321 [Py,Fj,Ue,s238,s239,Ug] c0t c0s<|E c0r c0q<|D 1339 [Fj,s240,s241,VX,VZ,VY] c0p c0o<|E c0n c0m<|D 1357 [ZU,Ue,VW,Uh,RG,s243] c0l c0k<|D 1369 [ZZ,Py,Fj,ZU,Ue,VW,s244,Uh,s245,s246,s247,RG] c0j c0i<|[]))))))))))))))))
def T0(P:Params):BT:=oL ((((oA P).take 763).set 3<|o3_0 P).set 12 Vn) 0 .nil
def S0(w:World)(os:OsState):SharedT:=⟨T0 w.params,763,PySem.Life.mk [] [] [] 0 [] [] false #[] [] 0 false false false 0 [2000,10,10] false 0 true [] [] 0 false,⟨[]⟩,PySem.Drawn.mk 0 0 0 0,1128,os⟩
def T1(P:Params):BT:=oL ((((oA P).take 764).set 3<|o3_1 P).set 12 Vn) 0 .nil
def S1(w:World)(os:OsState):SharedT:=⟨T1 w.params,764,PySem.Life.mk [] [] [] 0 [] [] false #[] [] 0 false false false 0 [2000,10,10] false 0 true [] [] 0 false,⟨[]⟩,PySem.Drawn.mk 0 0 0 0,1153,os⟩
def T2(P:Params):BT:=oL (oA P) 0 .nil
def S2(w:World)(os:OsState):SharedT:=⟨T2 w.params,934,PySem.Life.mk [] [] [] 0 [] [] false #[] [] 0 false false false 0 [2000,10,10] false 0 true [] [] 0 false,⟨[]⟩,PySem.Drawn.mk 0 0 0 0,1384,os⟩
def Hf(P:Params):Heap:=⟨⟨oA P⟩,PySem.Life.mk [] [] [] 0 [] [] false #[] [] 0 false false false 0 [2000,10,10] false 0 true [] [] 0 false⟩
def Sf(w:World)(os:OsState):Shared:=⟨Hf w.params,⟨[]⟩,PySem.Drawn.mk 0 0 0 0,1384,os⟩
def pre_(w:World)(os:OsState):topGo treeTable pW w 11 ((some<|r 6)) 12 ⟨boot_heap w.params,⟨[]⟩,boot_drawn,boot_toks,os⟩ (topStub pW)=some (Sa w os,⟨denote treeTable cT,cT,⟨0,0,0,0⟩,[topFrame qP]⟩):=by trivial
def Yc(w:World)(os:OsState):segRun treeTable pW w 11 ((some<|r 6)) 1 1 (Sa w os) (blockOf (behindTheImports pW) QD cT ⟨0,0,0,0⟩ [topFrame qP])=some (.next,(Sb w os).abs,cT,⟨0,0,0,0⟩):=by trivial
def YX:List Stmt:=[c7 0,c7 1,c7 2,c7 3,c7 4,c7 5,c7 6,c7 7,c7 8,c7 9,c7 10,c7 11,c7 12,c7 13,c7 14,c7 15,c7 16,c7 17,c7 18,c7 19,c7 20,c7 21,c7 22,c7 23,c7 24,c7 25,c7 26,c7 27,c7 28,c7 29,c7 30,c7 31,c7 32,c7 33,c7 34,c7 35,c7 36,c7 37,c7 38,c7 39,c7 40,c7 41,c7 42,c7 43,c7 44,c7 45,c7 46,c7 47,c7 48,c7 49,c7 50,c7 51,c7 52,c7 53,c7 54,c7 55,c7 56,c7 57,c7 58,c7 59,c7 60,c7 61,c7 62,c7 63,c7 64,c7 65,c7 66,c7 67,c7 68,c7 69,c7 70,c7 71]
def pc0(w:World)(os:OsState):segRunT treeTable pW w 11 ((some<|r 6)) 1 5938 (Sb w os) (piecesOf YX QD cT ⟨0,0,0,0⟩ [topFrame qP])=some (.next,S0 w os,cT,⟨390,0,390,8⟩):=by trivial
def VO:List Stmt:=[c7 72]
def pck1(os:OsState):∀(b:Bool) (w:World),segRunT treeTable pW (w.withFollow "special-get-raises" b) 11 ((some<|r 6)) 1 131 (S0 (w.withFollow "special-get-raises" b) os) (piecesOf VO QD cT ⟨390,0,390,8⟩ [topFrame qP])=some (.next,S1 (w.withFollow "special-get-raises" b) os,cT,⟨391,0,391,6⟩):=by
 intro b w;cases b
 . (try rw[Fast.te15667345088766844465]);(try rw[Fast.te14082659384304107361]);(try rw[Fast.te14374325043358763698]);(try rw[Fast.te10110043849684766642]);(try rw[Fast.te14364793385576792824]);(try rw[Fast.te11892475500146522536]);(try rw[Fast.te4187177175401517315]);(try rw[Fast.te5923862056798008813]);(try rw[Fast.te8920871248978507458]);kernel_rfl
 . (try rw[Fast.te15667345088766844465]);(try rw[Fast.te14082659384304107361]);(try rw[Fast.te14374325043358763698]);(try rw[Fast.te10110043849684766642]);(try rw[Fast.te14364793385576792824]);(try rw[Fast.te11892475500146522536]);(try rw[Fast.te4187177175401517315]);(try rw[Fast.te5923862056798008813]);(try rw[Fast.te8920871248978507458]);kernel_rfl
def pc1(w:World)(os:OsState):segRunT treeTable pW w 11 ((some<|r 6)) 1 131 (S0 w os) (piecesOf VO QD cT ⟨390,0,390,8⟩ [topFrame qP])=some (.next,S1 w os,cT,⟨391,0,391,6⟩):=by have:=pck1 os (w.params.followText "special-get-raises") w;rwa [World.withFollow_self]at this
def YW:List Stmt:=[c7 73,c7 74,c7 75,c7 76,c7 77,c7 78,c7 79,c7 80,c7 81,c7 82,c7 83,c7 84,c7 85,c7 86,c7 87,c7 88,c7 89,c7 90,c7 91,c7 92,c7 93,c7 94,c7 95,c7 96,c7 97,c7 98,c7 99]
def pc2(w:World)(os:OsState):segRunT treeTable pW w 11 ((some<|r 6)) 1 799 (S1 w os) (piecesOf YW QD cT ⟨391,0,391,6⟩ [topFrame qP])=some (.next,S2 w os,cT,⟨595,0,612,15⟩):=by trivial
def fin_(w:World)(os:OsState):topRun treeTable pW w 11 ((some<|r 6)) 2 (S2 w os).abs ⟨doneF .next,cT,⟨595,0,612,15⟩,[topFrame qP]⟩=some (Sf w os):=by trivial
def UU:behindTheImports pW=(YX++(VO++(YW++[]))):=by kernel_rfl
def run_(w:World)(os:OsState):topRun treeTable pW w 11 ((some<|r 6)) (12+(1+(5938+(131+(799+2))))) ⟨boot_heap w.params,⟨[]⟩,boot_drawn,boot_toks,os⟩ (topStub pW)=some (Sf w os):=by have h:=(piece_app (segRun_of<|pc0 w os)<|piece_app (segRun_of<|pc1 w os)<|piece_app (segRun_of<|pc2 w os)<|piece_nil<|fin_ w os);rw[<- UU]at h;exact go_top (pre_ w os) (piece_block (Yc w os) h)
def K(P:Params):Frag:=(nat_lit 2,boot_o_2 P)::(nat_lit 3,i0d P)::(nat_lit 20,o20)::(nat_lit 21,o21)::(nat_lit 30,o30 P)::(nat_lit 31,o31)::(nat_lit 43,o43 P)::(nat_lit 44,o44)::(nat_lit 55,o55 P)::(nat_lit 56,o56)::(nat_lit 67,o67 P)::(nat_lit 68,o68)::(nat_lit 79,o79 P)::(nat_lit 80,o80)::(nat_lit 91,o91 P)::(nat_lit 92,o92)::(nat_lit 103,l0s P)::(nat_lit 104,l0r)::(nat_lit 115,l0q P)::(nat_lit 116,l0p)::(nat_lit 122,l0o)::(nat_lit 123,l0n)::(nat_lit 127,l0m)::(nat_lit 128,l0l)::(nat_lit 132,l0j)::(nat_lit 133,l0i)::(nat_lit 137,l0h)::(nat_lit 138,l0g)::(nat_lit 142,l0f)::(nat_lit 143,l0e)::(nat_lit 149,l0d)::(nat_lit 150,l0c)::(nat_lit 154,l0b)::(nat_lit 155,l0a)::(nat_lit 159,k0z)::(nat_lit 160,k0y)::(nat_lit 164,k0x)::(nat_lit 165,k0w)::(nat_lit 169,k0v)::(nat_lit 170,k0u)::(nat_lit 176,k0t)::(nat_lit 177,k0s)::(nat_lit 181,k0r)::(nat_lit 182,k0q)::(nat_lit 186,k0p)::(nat_lit 187,k0o)::(nat_lit 191,k0n)::(nat_lit 192,k0m)::(nat_lit 198,k0l)::(nat_lit 199,k0k)::(nat_lit 205,k0j)::(nat_lit 206,k0i)::(nat_lit 212,k0h)::(nat_lit 213,k0g)::(nat_lit 219,k0f)::(nat_lit 220,k0e)::(nat_lit 226,k0d)::(nat_lit 227,k0c)::(nat_lit 233,k0b)::(nat_lit 234,k0a)::(nat_lit 240,j0z)::(nat_lit 241,j0y)::(nat_lit 245,j0x)::(nat_lit 246,j0w)::(nat_lit 250,j0v)::(nat_lit 251,j0u)::(nat_lit 257,j0t)::(nat_lit 258,j0s)::(nat_lit 262,j0r)::(nat_lit 263,j0q)::(nat_lit 269,j0p)::(nat_lit 270,j0o)::(nat_lit 276,j0n)::(nat_lit 277,j0m)::(nat_lit 281,j0l)::(nat_lit 282,j0k)::(nat_lit 286,j0j)::(nat_lit 287,j0i)::(nat_lit 291,j0h)::(nat_lit 292,j0g)::(nat_lit 298,j0f)::(nat_lit 299,j0e)::(nat_lit 303,j0d)::(nat_lit 304,j0c)::(nat_lit 310,j0b)::(nat_lit 311,j0a)::(nat_lit 315,i0z)::(nat_lit 316,i0y)::(nat_lit 322,i0x)::(nat_lit 323,i0w)::(nat_lit 327,i0v)::(nat_lit 328,i0u)::(nat_lit 334,i0t)::(nat_lit 335,i0s)::(nat_lit 341,i0r)::(nat_lit 342,i0q)::(nat_lit 348,i0p)::(nat_lit 349,i0o)::(nat_lit 355,i0n)::(nat_lit 356,i0m)::(nat_lit 360,i0l)::(nat_lit 361,i0k)::(nat_lit 367,i0j)::(nat_lit 368,i0i)::(nat_lit 374,i0h)::(nat_lit 375,i0g)::(nat_lit 384,i0f P)::(nat_lit 385,i0e)::(nat_lit 402,i0c)::(nat_lit 403,i0b)::(nat_lit 409,i0a)::(nat_lit 410,h0z)::(nat_lit 412,h0y P)::(nat_lit 413,h0x)::(nat_lit 428,h0w)::(nat_lit 429,h0v)::(nat_lit 435,h0u)::(nat_lit 436,h0t)::(nat_lit 442,h0s)::(nat_lit 443,h0r)::(nat_lit 449,h0q)::(nat_lit 450,h0p)::(nat_lit 452,h0o P)::(nat_lit 453,h0n)::(nat_lit 468,h0m)::(nat_lit 469,h0l)::(nat_lit 475,h0k)::(nat_lit 476,h0j)::(nat_lit 482,h0i)::(nat_lit 483,h0h)::(nat_lit 489,h0g)::(nat_lit 490,h0f)::(nat_lit 496,h0e)::(nat_lit 497,h0d)::(nat_lit 503,h0c)::(nat_lit 504,h0b)::(nat_lit 510,h0a)::(nat_lit 511,g0z)::(nat_lit 517,g0y)::(nat_lit 518,g0x)::(nat_lit 524,g0w)::(nat_lit 525,g0v)::(nat_lit 531,g0u)::(nat_lit 532,g0t)::(nat_lit 534,g0s P)::(nat_lit 535,g0r)::(nat_lit 550,g0q)::(nat_lit 551,g0p)::(nat_lit 557,g0o)::(nat_lit 558,g0n)::(nat_lit 564,g0m)::(nat_lit 565,g0l)::(nat_lit 571,g0k)::(nat_lit 572,g0j)::(nat_lit 578,g0i)::(nat_lit 579,g0h)::(nat_lit 585,g0g)::(nat_lit 586,g0f)::(nat_lit 592,g0e)::(nat_lit 593,g0d)::(nat_lit 599,g0c)::(nat_lit 600,g0b)::(nat_lit 606,g0a)::(nat_lit 607,f0z)::(nat_lit 613,f0y)::(nat_lit 614,f0x)::(nat_lit 620,f0w)::(nat_lit 621,f0v)::(nat_lit 623,f0u P)::(nat_lit 624,f0t)::(nat_lit 639,f0s)::(nat_lit 640,f0r)::(nat_lit 646,f0q)::(nat_lit 647,f0p)::(nat_lit 653,f0o)::(nat_lit 654,f0n)::(nat_lit 660,f0m)::(nat_lit 661,f0l)::(nat_lit 667,f0k)::(nat_lit 668,f0j)::(nat_lit 674,f0i)::(nat_lit 675,f0h)::(nat_lit 681,f0g)::(nat_lit 682,f0f)::(nat_lit 688,f0e)::(nat_lit 689,f0d)::(nat_lit 691,f0c P)::(nat_lit 692,f0b)::(nat_lit 707,f0a)::(nat_lit 708,e0z)::(nat_lit 714,e0y)::(nat_lit 715,e0x)::(nat_lit 721,e0w)::(nat_lit 722,e0v)::(nat_lit 728,e0u)::(nat_lit 729,e0t)::(nat_lit 735,e0s)::(nat_lit 736,e0r)::(nat_lit 742,e0q)::(nat_lit 743,e0p)::(nat_lit 749,e0o)::(nat_lit 750,e0n)::(nat_lit 756,e0m)::(nat_lit 757,e0l)::(nat_lit 759,e0k P)::(nat_lit 760,e0j)::(nat_lit 763,e0i P)::(nat_lit 769,e0h)::(nat_lit 770,e0g)::(nat_lit 774,e0f)::(nat_lit 775,e0e)::(nat_lit 781,e0d)::(nat_lit 782,e0c)::(nat_lit 788,e0b)::(nat_lit 789,e0a)::(nat_lit 795,d0z)::(nat_lit 796,d0y)::(nat_lit 802,d0x)::(nat_lit 803,d0w)::(nat_lit 809,d0v)::(nat_lit 810,d0u)::(nat_lit 816,d0t)::(nat_lit 817,d0s)::(nat_lit 823,d0r)::(nat_lit 824,d0q)::(nat_lit 830,d0p)::(nat_lit 831,d0o)::(nat_lit 837,d0n)::(nat_lit 838,d0m)::(nat_lit 844,d0l)::(nat_lit 845,d0k)::(nat_lit 851,d0j)::(nat_lit 852,d0i)::(nat_lit 858,d0h)::(nat_lit 859,d0g)::(nat_lit 865,d0f)::(nat_lit 866,d0e)::(nat_lit 870,d0d)::(nat_lit 871,d0c)::(nat_lit 877,d0b)::(nat_lit 878,d0a)::(nat_lit 882,c0z)::(nat_lit 883,c0y)::(nat_lit 887,c0x)::(nat_lit 888,c0w)::(nat_lit 894,c0v)::(nat_lit 895,c0u)::(nat_lit 901,c0t)::(nat_lit 902,c0s)::(nat_lit 906,c0r)::(nat_lit 907,c0q)::(nat_lit 913,c0p)::(nat_lit 914,c0o)::(nat_lit 918,c0n)::(nat_lit 919,c0m)::(nat_lit 925,c0l)::(nat_lit 926,c0k)::(nat_lit 932,c0j)::(nat_lit 933,c0i)::[]
def KA:List Addr:=[2,3,20,21,30,31,43,44,55,56,67,68,79,80,91,92,103,104,115,116,122,123,127,128,132,133,137,138,142,143,149,150,154,155,159,160,164,165,169,170,176,177,181,182,186,187,191,192,198,199,205,206,212,213,219,220,226,227,233,234,240,241,245,246,250,251,257,258,262,263,269,270,276,277,281,282,286,287,291,292,298,299,303,304,310,311,315,316,322,323,327,328,334,335,341,342,348,349,355,356,360,361,367,368,374,375,384,385,402,403,409,410,412,413,428,429,435,436,442,443,449,450,452,453,468,469,475,476,482,483,489,490,496,497,503,504,510,511,517,518,524,525,531,532,534,535,550,551,557,558,564,565,571,572,578,579,585,586,592,593,599,600,606,607,613,614,620,621,623,624,639,640,646,647,653,654,660,661,667,668,674,675,681,682,688,689,691,692,707,708,714,715,721,722,728,729,735,736,742,743,749,750,756,757,759,760,763,769,770,774,775,781,782,788,789,795,796,802,803,809,810,816,817,823,824,830,831,837,838,844,845,851,852,858,859,865,866,870,871,877,878,882,883,887,888,894,895,901,902,906,907,913,914,918,919,925,926,932,933]
def n0g(P:Params):KA=(K P).map (·.1):=by kernel_rfl
def qT:Program:={ pW with main:={ pW.main with body:=[c7 0,c7 2,c7 3,c7 4,c7 5,c7 6,c7 7,c7 8,c7 9,c7 11,c7 12,c7 13,c7 14,c7 15,c7 16,c7 17,c7 18,c7 20,c7 21,c7 22,c7 23,c7 24,c7 25,c7 26,c7 27,c7 28,c7 29,c7 30,c7 31,c7 32,c7 34,c7 35,c7 36,c7 37,c7 38,c7 39,c7 40,c7 41,c7 42,c7 43,c7 44,c7 45,c7 46,c7 47,c7 48,c7 49,c7 50,c7 51,c7 53,c7 54,c7 55,c7 56,c7 58,c7 59,c7 60,c7 61,c7 62,c7 63,c7 64,c7 65,c7 66,c7 67,c7 68,c7 69,c7 70,c7 72,c7 73,c7 74,c7 76,c7 77,c7 78,c7 79,c7 80,c7 81,c7 82,c7 83,c7 84,c7 85,c7 86,c7 87,c7 88,c7 89,c7 90,c7 91,c7 92,c7 93,c7 94,c7 95,c7 96,c7 97,c7 98,c7 99] } }
def recs:=RowW.records (OpenRow.toRowW<|OpenLaw.row PySem.Challenge.rw_weighwalk_k82_whole_built_as_said)
abbrev Xt(q:Program)(s:Shared):Bool:=xlAt q [] s && recOk recs s
abbrev GO:Hook:=kHook K KA n0g
def Zd(w:World):((boot_heap w.params).isNs mainGlobals && (⟨[]⟩:Array GenState).size == 0,(boot_heap w.params).objs.size,(boot_heap w.params).nsMap mainGlobals "__annotations__")=(true,11,(some<|r 6)):=by trivial
def c0e:∀w:World,(fencedOpening treeTable pW w 13856).map (λs=>(s.heap,s.gens,s.drawn,s.toks))=some (boot_heap w.params,⟨[]⟩,boot_drawn,boot_toks):=boot_open (by kernel_rfl) bD (λs=>by trivial)
def m0j(w:World)(os:OsState):(staticsOk (importedModules pW.main.body) (boot_heap w.params) (Hf w.params) && namesBound pW (Hf w.params) && gensDone (Sf w os) && laidKept (boot_heap w.params) (Hf w.params))=true:=by trivial
def m0i(w:World)(os:OsState):openSeen qT [PySem.Str.ofString "WITHIN"] (importedModules pW.main.body) (Xt qT) true (Sf w os)=openGood qT [PySem.Str.ofString "WITHIN"]:=by trivial
def m0h(w:World)(os:OsState):GO.obs (Sf w os)=GO.val w:=by kernel_rfl
def left:LeftO pW qT [PySem.Str.ofString "WITHIN"] (Xt qT) GO.obs GO.val 13856:=LeftO.of_pieces (H₁:=Hf) c0e Zd run_ bD (λw=>funext λos=>looks_pair (m0j w os)<|looks_pair (m0i w os)<|m0h w os)
def dO:DefRec:=⟨PySem.Str.ofString "law",L2.C5<|c7 99,L2.B5<|c7 99,L2.b9<|c7 99,⟨595,0,612,15⟩⟩
def XQ(mK:(OpenLaw.row PySem.Challenge.rw_weighwalk_k82_whole_built_as_said).wellSaid=true)(hw:(OpenLaw.row PySem.Challenge.rw_weighwalk_k82_whole_built_as_said).toRowW.promised)(hc:WalkO qT [PySem.Str.ofString "WITHIN"] (XL qT []) (Hook.says GO) (OpenLaw.row PySem.Challenge.rw_weighwalk_k82_whole_built_as_said).toRowW dO [] (λf vs=>PySem.call f vs)):(OpenLaw.row PySem.Challenge.rw_weighwalk_k82_whole_built_as_said).Holds:=
 holds_open (r:=(OpenLaw.row PySem.Challenge.rw_weighwalk_k82_whole_built_as_said)) (q:=qT) (loose:=[PySem.Str.ofString "WITHIN"]) (Xt:=Xt qT) (XP:=XL qT []) (Yf:=GO.obs) (Ya:=GO.val) (YP:=GO.says) (d:=dO) (kwd:=[]) (N:=13856) left GO.of GO.keeps (λs e=>xl_of s (Bool.and_eq_true_iff.mp e).1) XL.keeps (by kernel_rfl) (by kernel_rfl) (by kernel_rfl) (λs e=>recFacts_of (Bool.and_eq_true_iff.mp e).2) (by kernel_rfl) mK (by decide +kernel) ⟨Y,Y,Y,Y,Y,by decide +kernel⟩ hw hc
abbrev fO(n q:String)(s:Stmt)(m c:Value):Obj:=⟨.type SL.s7174869446012820540x8,none,.func<|fnOf (PySem.Str.ofString n) (PySem.Str.ofString q) (L2.C5 s) (L2.B5 s) (L2.b9 s) .none .none .none m none c .none,#[]⟩
def lp P a n j m c(h:(K P).lookup a=some (fO n n (c7 j) m<|r c):=by kernel_rfl):=h
def lc P a n q j k m c(h:(K P).lookup a=some (fO n q (L2.j0 (c7 j) k) m<|r c):=by kernel_rfl):=h
def Np P:=lp P 123 "noughts" 11 m1 122
def UG P:=lp P 128 "unit" 12 m1 127
def JN P:=lp P 133 "times_row" 13 m1 132
def JQ P:=lp P 138 "column_at" 14 m1 137
def HS P:=lp P 143 "columns_of" 15 m1 142
def XD P:=lp P 150 "dot" 16 m1 149
def Qg P:=lp P 155 "row_by" 17 m1 154
def JR P:=lp P 160 "by_column" 18 m1 159
def HR P:=lp P 165 "is_letters" 23 m2 164
def Nq P:=lp P 170 "is_word" 24 m2 169
def JO P:=lp P 177 "need_word" 25 m2 176
def Qi P:=lp P 182 "is_row" 26 m2 181
def LG P:=lp P 187 "is_table" 27 m2 186
def HQ P:=lp P 192 "is_machine" 28 m2 191
def SB P:=lp P 199 "rooms" 29 m2 198
def LC P:=lp P 206 "table_of" 30 m2 205
def SF P:=lp P 213 "ahead" 31 m2 212
def Qc P:=lp P 220 "weight" 32 m2 219
def Bl P:=lp P 227 "need_same_letters" 34 m3 226
def DW P:=lp P 234 "need_few_rooms" 35 m3 233
def Qf P:=lp P 241 "scaled" 36 m3 240
def Qk P:=lp P 246 "beside" 37 m3 245
def HP P:=lp P 251 "put_beside" 38 m3 250
def SG P:=lp P 258 "added" 39 m3 257
def SD P:=lp P 263 "outer" 40 m3 262
def Qh P:=lp P 270 "joined" 41 m3 269
def JP P:=lp P 277 "cross_row" 42 m3 276
def GE P:=lp P 282 "cross_table" 43 m3 281
def Nt P:=lp P 287 "crossed" 44 m3 286
def LD P:=lp P 292 "mirrored" 45 m3 291
def Qd P:=lp P 299 "turned" 46 m3 298
def Fs P:=lp P 304 "closed_table" 47 m3 303
def EF P:=lp P 311 "need_closable" 48 m3 310
def Qj P:=lp P 316 "closed" 49 m3 315
def HN P:=lp P 323 "single_row" 50 m3 322
def Qe P:=lp P 328 "single" 51 m3 327
def LF P:=lp P 335 "is_whole" 53 m4 334
def Nr P:=lp P 342 "divisor" 54 m4 341
def LJ P:=lp P 349 "fraction" 55 m4 348
def LH P:=lp P 356 "is_prime" 56 m4 355
def BX P:=lc P 476 "nought" "Fractions.nought" 67 1 m5 475
def EI P:=lc P 483 "one" "Fractions.one" 67 2 m5 482
def DZ P:=lc P 490 "plus" "Fractions.plus" 67 3 m5 489
def Da P:=lc P 497 "times" "Fractions.times" 67 4 m5 496
def Au P:=lc P 518 "is_weight" "Fractions.is_weight" 67 7 m5 517
def Bm P:=lc P 551 "__init__" "Residues.__init__" 68 0 m5 550
def CZ P:=lc P 565 "nought" "Residues.nought" 68 2 m5 564
def Fx P:=lc P 572 "one" "Residues.one" 68 3 m5 571
def EH P:=lc P 579 "plus" "Residues.plus" 68 4 m5 578
def DY P:=lc P 586 "times" "Residues.times" 68 5 m5 585
def AD P:=lc P 607 "is_weight" "Residues.is_weight" 68 8 m5 606
def Fy P:=lc P 647 "nought" "Costs.nought" 69 1 m5 646
def Ka P:=lc P 654 "one" "Costs.one" 69 2 m5 653
def Ib P:=lc P 661 "plus" "Costs.plus" 69 3 m5 660
def GJ P:=lc P 668 "times" "Costs.times" 69 4 m5 667
def Dc P:=lc P 675 "is_weight" "Costs.is_weight" 69 5 m5 674
def EG P:=lc P 715 "nought" "Truths.nought" 70 1 m5 714
def Ia P:=lc P 722 "one" "Truths.one" 70 2 m5 721
def GI P:=lc P 729 "plus" "Truths.plus" 70 3 m5 728
def Fw P:=lc P 736 "times" "Truths.times" 70 4 m5 735
def BW P:=lc P 743 "is_weight" "Truths.is_weight" 70 5 m5 742
def DV P:=lp P 770 "sayings_within" 73 m6 769
def SE P:=lp P 775 "built" 74 m6 774
def JY P:=lp P 782 "_law_next" 76 m7 781
def HX P:=lp P 789 "_law_state" 77 m7 788
def Fv P:=lp P 796 "_law_divisor" 78 m7 795
def LL P:=lp P 803 "_law_low" 79 m7 802
def JX P:=lp P 810 "_law_plus" 80 m7 809
def HW P:=lp P 817 "_law_times" 81 m7 816
def GH P:=lp P 824 "_law_nought" 82 m7 823
def LK P:=lp P 831 "_law_one" 83 m7 830
def JV P:=lp P 838 "_law_sort" 84 m7 837
def JZ P:=lp P 845 "_law_kind" 85 m7 844
def GF P:=lp P 852 "_law_weight" 86 m7 851
def JT P:=lp P 859 "_law_then" 87 m7 858
def JU P:=lp P 866 "_law_star" 88 m7 865
def Ft P:=lp P 871 "_law_weights" 89 m7 870
def HY P:=lp P 878 "_law_empty" 90 m7 877
def HU P:=lp P 883 "_law_words" 91 m7 882
def Fu P:=lp P 888 "_law_letters" 92 m7 887
def JS P:=lp P 895 "_law_word" 93 m7 894
def GG P:=lp P 902 "_law_saying" 94 m7 901
def JW P:=lp P 907 "_law_size" 95 m7 906
def LM P:=lp P 914 "_law_dot" 96 m7 913
def HV P:=lp P 919 "_law_weigh" 97 m7 918
def HZ P:=lp P 926 "_law_asked" 98 m7 925
def XC P:=lp P 933 "law" 99 m7 932
end
end H82
end
namespace L2
open PySem PySem.Spec PyProof.Rows
abbrev G6:=Sum Int Str
def IJ:G6->Value->Bool
 | .inl k,v=>Value.isInt k v
 | .inr x,v=>Value.isStrOf x v
def keyH(w:World):G6->Int
 | .inl k=>hashInt k
 | .inr x=>hashStr w x
def C9:∀{k:G6} {v:Value},IJ k v=true->(∃i t,k=Sum.inl i/\v=Value.int i t)\/(∃x t,k=Sum.inr x/\v=Value.str x t)
 | .inl i,v,h=>by
  obtain⟨t,e⟩:=Value.isInt_shape (k:=i) (v:=v) h;exact .inl ⟨i,t,Y,e⟩
 | .inr x,v,h=>by
  obtain⟨t,e⟩:=Value.isStrOf_shape (x:=x) (v:=v) h;exact .inr ⟨x,t,Y,e⟩
def Qn(i:Int)(t:Tok):IJ (.inl i) (.int i t)=true:=by simp[IJ,Value.isInt]
def Qm(x:Str)(t:Tok):IJ (.inr x) (.str x t)=true:=by simp[IJ,Value.isStrOf]
def XJ(a b:Int):decide ((Sum.inl a:G6)=Sum.inl b)=(a == b):=by
 by_cases e:a=b
 . subst e;simp
 . have h:¬(Sum.inl a:G6)=Sum.inl b:=λq=>e<|Sum.inl.inj q;rw[decide_eq_false h];exact(beq_eq_false_iff_ne.mpr e).symm
def XG(a b:Str):decide ((Sum.inr a:G6)=Sum.inr b)=decide (a=b):=by
 by_cases e:a=b
 . subst e;simp
 . have h:¬(Sum.inr a:G6)=Sum.inr b:=λq=>e<|Sum.inr.inj q;rw[decide_eq_false h,decide_eq_false e]
def XI(a:Int)(b:Str):decide ((Sum.inl a:G6)=Sum.inr b)=false:=decide_eq_false (λq=>nomatch q)
def XH(a:Str)(b:Int):decide ((Sum.inr a:G6)=Sum.inl b)=false:=decide_eq_false (λq=>nomatch q)
def C4(prog:Program)(w:World):PySem.KeyKind prog w G6 where
 is:=IJ
 hash:=keyH w
 inj:=λv a b ha hb=>by
  rcases C9 ha with ⟨i,t,rfl,rfl⟩ | ⟨x,t,rfl,rfl⟩
  . rcases C9 hb with ⟨j,u,rfl,e⟩ | ⟨y,u,rfl,e⟩
    . injection e with e1 _;rw[e1]
    . exact nomatch e
  . rcases C9 hb with ⟨j,u,rfl,e⟩ | ⟨y,u,rfl,e⟩
    . exact nomatch e
    . injection e with e1 _;rw[e1]
 byValue:=λk v h=>by
  rcases C9 h with ⟨i,t,rfl,rfl⟩ | ⟨x,t,rfl,rfl⟩ <;>rfl
 pyHash:=λhv h=>by
  rcases C9 hv with ⟨i,t,rfl,rfl⟩ | ⟨x,t,rfl,rfl⟩
  . exact wpAny_pyHash_int h
  . exact wpAny_pyHash_str h
 eqBool:=λhu hv h=>by
  rcases C9 hu with ⟨i,t,rfl,rfl⟩ | ⟨x,t,rfl,rfl⟩
  . rcases C9 hv with ⟨j,u,rfl,rfl⟩ | ⟨y,u,rfl,rfl⟩
    . rw[XJ]at h;exact wpAny_eqBool_int h
    . rw[XI]at h;exact SeqAt.EqAt.int_str i t y u _ _ _ _ h
  . rcases C9 hv with ⟨j,u,rfl,rfl⟩ | ⟨y,u,rfl,rfl⟩
    . rw[XH]at h;exact SeqAt.EqAt.str_int x t j u _ _ _ _ h
    . rw[XG]at h;exact wpAny_eqBool_str h
 «strs»:=λk x t v h=>by
  rcases C9 h with ⟨i,u,rfl,e⟩ | ⟨y,u,rfl,e⟩
  . exact nomatch e
  . injection e with e1 _;subst e1;cases v <;>rfl
def Ly(prog:Program)(w:World)(i:Int)(t:Tok):(C4 prog w).is (.inl i) (.int i t)=true:=Qn i t
def Bk(prog:Program)(w:World)(x:Str)(t:Tok):(C4 prog w).is (.inr x) (.str x t)=true:=Qm x t
inductive V where
 | non | bl (b:Bool) | int (i:Int) | str (x:Str) | byt (b:Array UInt8) | flt (b:UInt64) | ref (a:Addr) | ty (n:String)
 deriving DecidableEq
def w8:V->Value->Prop
 | .non,u=>u=Value.none
 | .bl b,u=>u=Value.bool b
 | .int i,u=>∃t,u=Value.int i t
 | .str x,u=>∃t,u=Value.str x t
 | .byt b,u=>∃t,u=Value.bytes b t
 | .flt b,u=>∃t,u=Value.float b t
 | .ref a,u=>u=Value.ref a
 | .ty n,u=>u=Value.type n
abbrev m9:List V->List Value->Prop:=Paired w8
theorem m9.length{xs:List V}{us:w1j}(r:m9 xs us):xs.length=us.length:=Paired.length r
theorem m9.get:∀{xs:List V} {us:w1j} {i:Nat} {x:V},m9 xs us->xs[i]? = some x->∃u,us[i]? = some u/\w8 x u
 | _,_,_,_,.nil,e=>by simp at e
 | _,_,0,_,.cons r _,e=>by simp at e;subst e;exact⟨_,Y,r⟩
 | _,_,i+1,x,.cons _ t,e=>by
  obtain⟨u,h1,h2⟩:=m9.get (i:=i) (x:=x) t (by simpa using e);exact⟨u,by simpa using h1,h2⟩
theorem m9.set{x:V}{u:Value}(r:w8 x u):∀{xs:List V} {us:w1j} (i:Nat),m9 xs us->m9 (xs.set i x) (us.set i u)
 | _,_,_,.nil=>.nil
 | _,_,0,.cons _ t=>.cons r t
 | _,_,i+1,.cons q t=>.cons q (m9.set r i t)
theorem m9.append:∀{xs ys:List V} {us ws:w1j},m9 xs us->m9 ys ws->m9 (xs++ys) (us++ws)
 | _,_,_,_,.nil,s=>s
 | _,_,_,_,.cons r t,s=>.cons r (m9.append t s)
theorem m9.take:∀{xs:List V} {us:w1j} (n:Nat),m9 xs us->m9 (xs.take n) (us.take n)
 | _,_,0,_=>.nil
 | _,_,_+1,.nil=>.nil
 | _,_,n+1,.cons r t=>.cons r (m9.take n t)
theorem m9.drop:∀{xs:List V} {us:w1j} (n:Nat),m9 xs us->m9 (xs.drop n) (us.drop n)
 | _,_,0,r=>r
 | _,_,_+1,.nil=>.nil
 | _,_,n+1,.cons _ t=>m9.drop n t
def Bu:Option V->Option Value->Prop
 | some v,some u=>w8 v u
 | none,none=>True
 | _,_=>False
def KV{κ:Type}:List (κ × V)->List (κ × Value)->Prop:=Paired λ(p:κ × V) (q:κ × Value)=>p.1=q.1/\w8 p.2 q.2
def kV:G6->V
 | .inl i=>.int i
 | .inr x=>.str x
inductive HO where
 | lst (xs:List V)
 | tup (xs:List V)
 | dK (aT:List (G6 × V)) | dT (aT:List (List G6 × V))
 | set (S:Int->Bool) (n:Nat)
 | ins (C dx:Addr) (fs:List (Str × V))
 | own (x:Addr)
 | xd (fs:List (Str × V))
 | met (f x:Addr)
 | rng (lo hi:Int)
 | frz (o:Obj) (u:HO)
 | tbl (ps:Array Value)
 | ext (φ:Heap->Prop)
abbrev Hp:=Addr->Option HO
def upd(H:Hp)(a:Addr)(o:HO):Hp:=λb=>if b=a then some o else H b
def c0{H:Hp}{a:Addr}{o:HO}:upd H a o a=some o:=by unfold upd;rw[if_pos rfl]
def k8{H:Hp}{a b:Addr}{o:HO}(h:b≠a):upd H a o b=H b:=by unfold upd;rw[if_neg h]
def TH{H:Hp}{a:Addr}{o u:HO}:upd (upd H a o) a u=upd H a u:=by
 funext b;unfold upd;split <;>rfl
def l0t{H:Hp}{a b:Addr}{o u:HO}(h:H a=some o)(h':H b=some u)(d:o≠u):a≠b:=by intro e;subst e;rw[h]at h';exact d (Option.some.inj h')
def k9{H:Hp}{a b:Addr}{o:HO}(h:H a=some o)(h':H b=none):a≠b:=by intro e;subst e;rw[h]at h';cases h'
section
variable(P:Program)(w:World)
def D1(H:Hp)(h:Heap)(a:Addr):HO->Prop
 | .lst xs=>xs.length<=sizeLine/\∃(dw:w1j) (n:Nat),m9 xs dw/\h.get? a=some { cls:=.type "list",data:=.seq dw.toArray n }
 | .tup xs=>xs.length<=sizeLine/\∃dw:w1j,m9 xs dw/\IsTup h a dw.toArray/\((∀i y,xs≠[.int i,y])->∃o,h.get? a=some o/\o.dict=none)
 | .dK aT=>aT.length<=sizeLine/\(a == sysModules)=false/\∃vs,KV aT vs/\h.DictOf (C4 P w) a vs
 | .dT aT=>aT.length<=sizeLine/\(a == sysModules)=false/\∃xs:List (List G6 × Addr × Value),
     Paired (λ(p:List G6 × V) (q:List G6 × Addr × Value)=>p.1=q.1/\H q.2.1=some (.tup<|p.1.map kV)/\w8 p.2 q.2.2) aT xs/\
     ∃o es ep,h.get? a=some o/\o.ExactDict/\o.data=.dict es ep/\es.toList=xs.map (entryOfKey<|tupleKind<|C4 P w)/\(xs.map (·.1)).Nodup
 | .set S n=>h.SetOf (intKind P w) a S n
 | .ins C dx fs=>H dx=some (.own a)/\fs.length<=1000/\dx≠a/\h.get? a=some (PySem.W.instObj C dx)/\
     ∃mA,h.Ns1 dx mA/\(∀f,Bu (fs.lookup f)<|mA f)/\PySem.Within mA (fs.map (·.1))
 | .own _=>∃o,h.get? a=some o
 | .xd fs=>∃mA,h.Ns1 a mA/\∀f,Bu (fs.lookup f) (mA f)
 | .rng lo hi=>∃t u v,h.get? a=some { cls:=.type "range",data:=.fields #[.int lo t,.int hi u,.int 1 v] }
 | .frz o u=>h.get? a=some o/\D1 H h a u
 | .tbl ps=>h.get? a=some { cls:=.none,data:=.fields ps }
 | .met f x=>h.get? a=some (PySem.W.methodObj (.ref f)<|.ref x)
 | .ext φ=>φ h/\(∃o,h.get? a=some o)/\∀h1 h2:Heap,φ h1->(∀o,h1.get? a=some o->h2.get? a=some o)->φ h2
def X7(H:Hp)(h:Heap):Prop:=∀a o,H a=some o->D1 P w H h a o
end
section
variable{P:Program}{w:World}{H H':Hp}{h h':Heap}{a:Addr}{o:HO}
theorem D1.lt(x:D1 P w H h a o):a < h.objs.size:=by
 cases o with
 | lst xs=>obtain⟨_,_,_,_,e⟩:=x;exact af e
 | tup xs=>obtain⟨_,_,_,p,_⟩:=x;exact p.lt
 | dK aT=>obtain⟨_,_,_,_,o,_,_,e,_⟩:=x;exact af e
 | dT aT=>obtain⟨_,_,_,_,o,_,_,e,_⟩:=x;exact af e
 | set S n=>obtain⟨o,_,_,_,e,_⟩:=x;exact af e
 | ins C dx fs=>obtain⟨_,_,_,e,_⟩:=x;exact af e
 | own y=>obtain⟨_,e⟩:=x;exact af e
 | xd fs=>obtain⟨_,⟨_,_,_,e,_⟩,_⟩:=x;exact af e
 | rng lo hi=>obtain⟨_,_,_,e⟩:=x;exact af e
 | frz ob u=>obtain⟨e,_⟩:=x;exact af e
 | tbl ps=>exact af (show h.get? a=some _ from x)
 | met f y=>exact af (show h.get? a=some _ from x)
 | ext φ=>obtain⟨_,⟨_,e⟩,_⟩:=x;exact af e
theorem Paired.mapP{α β:Type}{F G:α->β->Prop}:∀{l₁:List α} {l₂:List β},Paired F l₁ l₂->(∀a b,F a b->G a b)->Paired G l₁ l₂
 | _,_,.nil,_=>.nil
 | _,_,.cons r t,f=>.cons (f _ _ r) (Paired.mapP t f)
def D1.stay(x:D1 P w H h a o)(k:∀b u,(b=a\/H b=some (.own a))->h.get? b=some u->h'.get? b=some u)
    (ho:∀b,H b=some (.own a)->H' b=some (.own a)) (ht:∀b xs,H b=some (.tup xs)->H' b=some (.tup xs)):D1 P w H' h' a o:=by
 induction o with
 | lst xs=>obtain⟨z,dw,n,r,e⟩:=x;exact⟨z,dw,n,r,k _ _ (.inl Y) e⟩
 | tup xs=>obtain⟨z,dw,r,⟨ob,e,c⟩,d⟩:=x;exact⟨z,dw,r,⟨ob,k _ _ (.inl Y) e,c⟩,λnx=>let⟨o,e2,d2⟩:=d nx;⟨o,k _ _ (.inl Y) e2,d2⟩⟩
 | dK aT=>obtain⟨z,y,vs,r,ob,es,ep,e,c⟩:=x;exact⟨z,y,vs,r,ob,es,ep,k _ _ (.inl Y) e,c⟩
 | dT aT=>
  obtain⟨z,y,xs,r,ob,es,ep,e,c⟩:=x;exact⟨z,y,xs,Paired.mapP r λp q z=>⟨z.1,ht _ _ z.2.1,z.2.2⟩,ob,es,ep,k _ _ (.inl Y) e,c⟩
 | set S n=>obtain⟨ob,es,ep,t,e,c⟩:=x;exact⟨ob,es,ep,t,k _ _ (.inl Y) e,c⟩
 | ins C dx fs=>
  obtain⟨d,z,ne,e,mA,⟨od,es,ep,e2,c⟩,r⟩:=x;exact⟨ho _ d,z,ne,k _ _ (.inl Y) e,mA,⟨od,es,ep,k _ _ (.inr d) e2,c⟩,r⟩
 | own y=>obtain⟨ob,e⟩:=x;exact⟨ob,k _ _ (.inl Y) e⟩
 | xd fs=>obtain⟨mA,⟨od,es,ep,e,c⟩,r⟩:=x;exact⟨mA,⟨od,es,ep,k _ _ (.inl Y) e,c⟩,r⟩
 | rng lo hi=>obtain⟨t,u,v,e⟩:=x;exact⟨t,u,v,k _ _ (.inl Y) e⟩
 | frz ob u ih=>obtain⟨e,q⟩:=x;exact⟨k _ _ (.inl Y) e,ih q⟩
 | tbl ps=>
  have e:h.get? a=some { cls:=.none,data:=.fields ps }:=x;show h'.get? a=some { cls:=.none,data:=.fields ps };exact k a _ (.inl Y) e
 | met f y=>
  have e:h.get? a=some (PySem.W.methodObj (.ref f)<|.ref y):=x;show h'.get? a=some (PySem.W.methodObj (.ref f)<|.ref y);exact k a _ (.inl Y) e
 | ext φ=>obtain⟨p,⟨o,e⟩,st⟩:=x;exact⟨st _ _ p λo q=>k _ _ (.inl Y) q,⟨o,k _ _ (.inl Y) e⟩,st⟩
theorem X7.lt(x:X7 P w H h)(e:H a=some o):a < h.objs.size:=(x a o e).lt
def X7.fresh(x:X7 P w H h)(e:h.objs.size<=a):H a=none:=by
 cases q:H a with
 | none=>rfl
 | some u=>exact absurd (ao (x.lt q) e) (aZ _)
def X7.kept(x:X7 P w H h)(k:∀b u,h.get? b=some u->h'.get? b=some u):X7 P w H h':=λa o e=>
 (x a o e).stay (λb u _ q=>k b u q) (λ_ q=>q) λ_ _ q=>q
def X7.laid(x:X7 P w H h)(k:∀b u,h.get? b=some u->h'.get? b=some u)(hp:h.objs.size<=a)(new:D1 P w (upd H a o) h' a o):X7 P w (upd H a o) h':=λb u e=>by
 have hn:=x.fresh hp;by_cases hb:b=a
 . subst hb;rw[c0]at e;cases e;exact new
 . rw[k8 hb]at e;exact(x b u e).stay (λc v _ q=>k c v q) (λc q=>by rw[k8<|k9 q hn];exact q) λc xs q=>by rw[k8<|k9 q hn];exact q
end
def Rd(H:Hp)(a:Addr)(u:HO):Prop:=H a=some u\/∃o,H a=some (.frz o u)
def Rd.of{H:Hp}{a:Addr}{u:HO}(h:H a=some u):Rd H a u:=.inl h
def Rd.ok{P:Program}{w:World}{H:Hp}{h:Heap}{a:Addr}{u:HO}(r:Rd H a u)(x:X7 P w H h):D1 P w H h a u:=by
 rcases r with r | ⟨o,r⟩
 . exact x a u r
 . obtain⟨_,q⟩:=x a _ r;exact q
def n0e:Option HO->Prop
 | some (.lst _)=>True
 | some (.dK _)=>True
 | some (.dT _)=>True
 | some (.set _ _)=>True
 | some (.ins _ _ _)=>True
 | some (.ext _)=>True
 | _=>False
section
variable{P:Program}{w:World}{H:Hp}{h h':Heap}{x e:Addr}{o':HO}
def X7.write(ok:X7 P w H h)(mu:n0e (H x))(he:e=x\/H e=some (.own x))(k:∀b u,b≠e->h.get? b=some u->h'.get? b=some u)(ji:∃u,h'.get? e=some u)
    (new:D1 P w (upd H x o') h' x o'):X7 P w (upd H x o') h':=λb u q=>by
 have jA:∀c y,H c=some (.own y)->c≠x:=λc y r z=>by subst z;rw[r]at mu;exact mu
 have mU:∀c xs,H c=some (.tup xs)->c≠x:=λc xs r z=>by subst z;rw[r]at mu;exact mu
 by_cases hb:b=x
 . subst hb;rw[c0]at q;cases q;exact new
 . rw[k8 hb]at q;by_cases hbe:b=e
   . have q':H b=some (.own x):=by
      rcases he with z | z
      . exact absurd (hbe.trans z) hb
      . rw[hbe];exact z
     rw[q]at q';cases q';obtain⟨v,hv⟩:=ji;exact⟨v,by rw[hbe];exact hv⟩
   . show(ok b u q).stay (λc v hc r=>k c v ?_ r) (λc r=>by rw[k8<|jA c b r];exact r) λc xs r=>by rw[k8<|mU c xs r];exact r
     rcases hc with rfl | hc
     . exact hbe
     . rintro rfl;rcases he with z | z
       . exact jA c b hc z
       . rw[hc]at z;cases z;exact hb rfl
end
structure Un(fs ex:List Addr)(H H':Hp)(h h':Heap):Prop where
 keep:∀b o,h.get? b=some o->H b=none->b ∉ fs->b ∉ ex->h'.get? b=some o
 slot:∀b o,h.get? b=some o->H b=none->b∈fs->b ∉ ex->∃sl,h'.get? b=some { o with slots:=sl }
 free:∀b o,h.get? b=some o->H b=none->b ∉ ex->H' b=none
 there:∀b o,h.get? b=some o->b ∉ ex->∃o',h'.get? b=some o'
 tups:∀b xs,H b=some (.tup xs)->H' b=some (.tup xs)
 frzs:∀b o u,H b=some (.frz o u)->H' b=some (.frz o u)
 tbls:∀b ps,H b=some (.tbl ps)->∃more,H' b=some (.tbl<|ps++more)
section
variable{fs ow ex rO:List Addr}{H H1 H2:Hp}{h h1 h2 h':Heap}{a x e:Addr}{o:HO}
def Un.any(u:Un fs ex H H1 h h1){b:Addr}{ob:Obj}(q:h.get? b=some ob)(n:H b=none)(hx:b ∉ ex):∃sl,h1.get? b=some { ob with slots:=sl }:=by
 by_cases hb:b∈fs
 . exact u.slot b ob q n hb hx
 . exact⟨ob.slots,u.keep b ob q n hb hx⟩
def Un.trans(a:Un fs ex H H1 h h1)(b:Un fs ex H1 H2 h1 h2):Un fs ex H H2 h h2 where
 keep:=λc ob q n hc hx=>b.keep c ob (a.keep c ob q n hc hx) (a.free c ob q n hx) hc hx
 slot:=λc ob q n hc hx=>by
  obtain⟨sl,e1⟩:=a.slot c ob q n hc hx;obtain⟨gM,e2⟩:=b.slot c _ e1 (a.free c ob q n hx) hc hx;exact⟨gM,e2⟩
 free:=λc ob q n hx=>by
  obtain⟨o',e1⟩:=a.there c ob q hx;exact b.free c o' e1 (a.free c ob q n hx) hx
 there:=λc ob q hx=>by
  obtain⟨o',e1⟩:=a.there c ob q hx;exact b.there c o' e1 hx
 tups:=λc xs q=>b.tups c xs (a.tups c xs q)
 frzs:=λc ob xs q=>b.frzs c ob xs (a.frzs c ob xs q)
 tbls:=λc ps q=>by
  obtain⟨m1,e1⟩:=a.tbls c ps q;obtain⟨m2,e2⟩:=b.tbls c _ e1;exact⟨m1++m2,by rw[e2,Array.append_assoc]⟩
def Un.kept(k:∀b u,h.get? b=some u->h'.get? b=some u):Un fs ex H H h h':=
 ⟨λb ob q _ _ _=>k b ob q,λb ob q _ _ _=>⟨ob.slots,k b ob q⟩,λ_ _ _ n _=>n,λb ob q _=>⟨ob,k b ob q⟩,λ_ _ q=>q,λ_ _ _ q=>q,λ_ ps q=>⟨#[],by rw[q];simp⟩⟩
def Un.refl:Un fs ex H H h h:=Un.kept λ_ _ q=>q
def Un.laid(k:∀b u,h.get? b=some u->h'.get? b=some u)(hp:h.objs.size<=a)(hn:H a=none):Un fs ex H (upd H a o) h h' where
 keep:=λb u q _ _ _=>k b u q
 slot:=λb u q _ _ _=>⟨u.slots,k b u q⟩
 free:=λb u q n _=>by rw[k8<|ai<|ao (af q) hp];exact n
 there:=λb u q _=>⟨u,k b u q⟩
 tups:=λb xs q=>by rw[k8<|k9 q hn];exact q
 frzs:=λb u xs q=>by rw[k8<|k9 q hn];exact q
 tbls:=λb ps q=>⟨#[],by rw[k8<|k9 q hn,q];simp⟩
def Un.write(mu:n0e (H x))(he:e=x\/H e=some (.own x))(k:∀b u,b≠e->h.get? b=some u->h'.get? b=some u)(ji:∃u,h'.get? e=some u):Un fs ex H (upd H x o) h h':=by
 have hx:∀b,H b=none->b≠x:=λb n z=>by subst z;rw[n]at mu;exact mu
 have hb:∀b,H b=none->b≠e:=λb n z=>by
  subst z;rcases he with r | r
  . exact hx b n r
  . rw[n]at r;cases r
 have hm:∀b u,H b=some u->¬n0e (some u)->b≠x:=λb u q nm z=>by subst z;rw[q]at mu;exact nm mu
 show⟨λb u q n _ _=>k b u (hb b n) q,λb u q n _ _=>⟨u.slots,k b u (hb b n) q⟩,λb u q n _=>by rw[k8<|hx b n];exact n,λb u q _=>?_,
  λb xs q=>by rw[k8<|hm b _ q λz=>z];exact q,λb u xs q=>by rw[k8<|hm b _ q λz=>z];exact q,λb ps q=>⟨#[],by rw[k8<|hm b _ q λz=>z,q];simp⟩⟩
 by_cases hbe:b=e
 . subst hbe;exact ji
 . exact⟨u,k b u hbe q⟩
def Un.mono(u:Un fs ex H H1 h h1)(hs:∀b∈fs,b∈ow)(hx:∀b∈ex,b∈rO):Un ow rO H H1 h h1:=
 ⟨λb ob q n hb he=>u.keep b ob q n (λz=>hb<|hs b z) λz=>he<|hx b z,λ_ _ q n _ he=>u.any q n λz=>he<|hx _ z,λb ob q n he=>u.free b ob q n λz=>he<|hx b z,λb ob q he=>u.there b ob q λz=>he<|hx b z,u.tups,u.frzs,u.tbls⟩
end
def trk(h:Heap)(H:Hp):List Addr:=(List.range h.objs.size).filter λa=>(H a).isSome
def Kb(h:Heap)(H:Hp):Heap:=PySem.W.hideAll h (trk h H)
def Qw(h:Heap)(H:Hp):(Kb h H).objs.size=h.objs.size:=PySem.W.hideAll_size _ _
def SN{h:Heap}{H:Hp}{b:Addr}{o:Obj}(e:h.get? b=some o)(n:H b=none):(Kb h H).get? b=some o:=
 bT _ e λhm=>by
  have q:(H b).isSome=true:=(List.mem_filter.mp hm).2;rw[n]at q;simp at q
def Uv{h:Heap}{H:Hp}{b:Addr}{o:Obj}(e:(Kb h H).get? b=some o):h.get? b=some o/\H b=none:=by
 have e':h.get? b=some o:=cJ (trk h H) e;show⟨e',?_⟩;cases q:H b with
 | none=>rfl
 | some x=>
  have hm:b∈trk h H:=List.mem_filter.mpr ⟨cj.mpr<|af e',by simp[q]⟩;have z:(Kb h H).get? b=none:=ba (trk h H) hm;rw[z]at e;cases e
def UY(g h:Heap)(L:Addr):w1e:=(List.range h.objs.size).filterMap λa=>if a=L\/(g.get? a).isSome=true then none else(h.get? a).map λo=>(a,o)
def Y5(g h:Heap)(L d:Addr):w1e:=(UY g h L).filter λp=>decide (p.1≠d)
structure Mod(K:aa)(mg:w1g)(base:Heap):Prop where
 kin:K.In base
 glob:base.Ns mainGlobals mg
 blt:∃mb,base.Ns builtinsNs mb/\∀x:Str,x≠"__name__"->mb x=bootBuiltins x
 nolimit:base.NoLimit
 seer:base.NoSeer
set_option genInjectivity false in
set_option genSizeOfSpec false in
structure Cx where
 prog:Program
 w:World
 K:aa
 mg:w1g
 base:Heap
 A:Around
 N:w1i
 s₀:Shared
 H₀:Hp
 env:Env
 outer:List Env
 stack:List Env
 ex:List Addr
 fn:Str->Bool
 calm:Bool
 pn:w1e
 xe:w1f
def E2(l:List Env):List Addr:=l.filterMap (·.frame)
abbrev Cx.fs(X:Cx):List Addr:=E2 X.outer
def Vis(sc:Scope)(x:Str):Prop:=sc.names.lookup x=some .local\/sc.names.lookup x=some .cell\/sc.names.lookup x=some .free
def Va(sc:Scope)(x:Str):Prop:=sc.names.lookup x=some .local\/sc.names.lookup x=some .cell
def n0f(env:Env)(h:Heap)(m:w1g)(x:Str)(u:Value):Prop:=
 (env.kindOf x=some .local/\m x=some u)\/((env.kindOf x=some .cell\/env.kindOf x=some .free)/\∃c,env.cells.lookup x=some c/\h.IsCell c (some u))
structure Cx.Ok(X:Cx):Prop where
 mod:Mod X.K X.mg X.base
 kind:X.env.scope.kind=.function
 glob:X.env.globals=mainGlobals
 blt:X.env.builtins=builtinsNs
 above:X.s₀.heap.objs.size<=X.env.locals
 inj:∀x y c,X.env.cells.lookup x=some c->X.env.cells.lookup y=some c->x=y
 has:∀x,(X.env.kindOf x=some .cell\/X.env.kindOf x=some .free)->∃c,X.env.cells.lookup x=some c
 cab:∀x c,X.fn x=true->X.env.cells.lookup x=some c->X.s₀.heap.objs.size<=c
 hd:X.calm=true->X.A.handled=none
 frames:X.A.frames=some X.stack
 stk:X.stack=X.outer\/(X.stack=X.env::X.outer/\X.env.frame=some X.env.locals)
 exf:∀b∈X.ex,b≠X.env.locals/\∀x c,X.env.cells.lookup x=some c->c≠b
 bs:∀b o,X.base.get? b=some o->X.s₀.heap.get? b=some o/\X.H₀ b=none
 bsz:X.base.objs.size<=X.s₀.heap.objs.size
 noex:∀b o,X.base.get? b=some o->b ∉ X.ex
 exfs:∀b∈X.ex,b ∉ X.fs
 funs:X.s₀.heap.FunFrames X.base X.outer
 frf:∀b∈X.fs,X.H₀ b=none
structure j5(X:Cx)(aS:w1e)(σ:List (Option V))(H:Hp)(s:Shared):Prop where
 ok:X.Ok
 os:s.os=X.s₀.os
 bare:AllBare s.gens
 base:Un X.fs X.ex X.H₀ H X.s₀.heap s.heap
 loc:∃m,s.heap.Ns X.env.locals m/\∀(i:Nat) (x:Str) (v:V),X.N[i]? = some x->σ[i]? = some (some v)->Vis X.env.scope x->∃u,w8 v u/\n0f X.env s.heap m x u
 cell:∀x c,X.env.cells.lookup x=some c->∃v,s.heap.IsCell c v
 free:H X.env.locals=none
 freeC:∀x c,X.env.cells.lookup x=some c->H c=none
 pin:∀p∈X.pn++aS,s.heap.get? p.1=some p.2/\H p.1=none/\p.1≠X.env.locals/\p.1 ∉ X.fs/\∀v,p.2.data≠.cell v
 hok:X7 X.prog X.w H s.heap
 len:σ.length=X.N.length
section
variable{X:Cx}{aS:w1e}{σ:List (Option V)}{H H':Hp}{s:Shared}{h':Heap}
def Cx.Ok.nofr(ok:X.Ok){b:Addr}{o:Obj}(e:X.base.get? b=some o):b ∉ X.fs:=λhb=>by
 have:=(ok.funs.mem hb).1;rw[e]at this;cases this
theorem j5.bs(I:j5 X aS σ H s):∀b o,X.base.get? b=some o->s.heap.get? b=some o/\H b=none:=λb o e=>
 ⟨I.base.keep b o (I.ok.bs b o e).1 (I.ok.bs b o e).2 (I.ok.nofr e)<|I.ok.noex b o e,I.base.free b o (I.ok.bs b o e).1 (I.ok.bs b o e).2<|I.ok.noex b o e⟩
def j5.bk(I:j5 X aS σ H s):∀b o,X.base.get? b=some o->s.heap.get? b=some o:=λb o e=>(I.bs b o e).1
theorem j5.mod(I:j5 X aS σ H s):Mod X.K X.mg X.base:=I.ok.mod
def j5.kIn(I:j5 X aS σ H s):X.K.In s.heap:=I.ok.mod.kin.keeps I.bk
theorem j5.nolimit(I:j5 X aS σ H s):s.heap.NoLimit:=I.ok.mod.nolimit.keeps I.bk
def j5.fr(I:j5 X aS σ H s):∃m,Fr X.base X.env.locals s.heap m:=
 let⟨m,hn,_⟩:=I.loc
 ⟨m,hn,I.bk,ah I.ok.bsz I.ok.above⟩
theorem j5.lt(I:j5 X aS σ H s):X.env.locals < s.heap.objs.size:=let⟨_,hn,_⟩:=I.loc;hn.lt
def j5.sz(I:j5 X aS σ H s):X.s₀.heap.objs.size<=s.heap.objs.size:=ah I.ok.above (bw I.lt)
def j5.nofs(I:j5 X aS σ H s){a:Addr}(h:s.heap.objs.size<=a):a ∉ X.fs:=λhb=>by
 obtain⟨_,o,ho,_⟩:=I.ok.funs.mem hb;exact absurd (ao (af ho)<|ah I.sz h) (aZ _)
def j5.cne(I:j5 X aS σ H s):∀x c,X.env.cells.lookup x=some c->c≠X.env.locals:=λx c e z=>by
 obtain⟨v,o,ho,hd⟩:=I.cell x c e;obtain⟨m,⟨o',es,ep,gv,gH,_⟩,_⟩:=I.loc;rw[z,gv]at ho;cases ho;rw[gH]at hd;cases hd
theorem j5.funs(I:j5 X aS σ H s):s.heap.FunFrames X.base X.outer:=by
 have all:∀(l:List Env),(∀b∈E2 l,b∈X.fs)->X.s₀.heap.FunFrames X.base l->s.heap.FunFrames X.base l:=by
  intro l
  induction l with
  | nil=>intro _ _;trivial
  | cons env r ih=>
   intro hs hl;obtain⟨hk,⟨L,o,hf,hn,ho,hd⟩,hr⟩:=hl;have hL:L∈X.fs:=hs L (by unfold E2;rw[bg,hf];exact aF);obtain⟨sl,e⟩:=I.base.slot L o ho (I.ok.frf L hL) hL λz=>I.ok.exfs L z hL;exact⟨hk,⟨L,_,hf,hn,e,hd⟩,ih (λb hb=>hs b<|by unfold E2;rw[bg,hf];exact aG _ hb) hr⟩
 exact all X.outer (λ_ hb=>hb) I.ok.funs
theorem j5.stack(I:j5 X aS σ H s):s.heap.FunFrames X.base X.stack:=by
 rcases I.ok.stk with e | ⟨e,hf⟩
 . rw[e];exact I.funs
 . rw[e];obtain⟨m,hn,_⟩:=I.loc;show .cons (by rw[I.ok.kind];decide) hf hn ?_ I.funs;exact Heap.get?_none_of_le (ah I.ok.bsz I.ok.above)
def j5.stkSub(I:j5 X aS σ H s):∀b∈E2 X.stack,b∈X.env.locals::X.fs:=λb hb=>by
 rcases I.ok.stk with e | ⟨e,hf⟩
 . rw[e]at hb;exact aG _ hb
 . rw[e]at hb;unfold E2 at hb;rw[bg,hf]at hb;exact hb
def j5.stkFree(I:j5 X aS σ H s):∀b∈E2 X.stack,H b=none:=λb hb=>by
 rcases aw.mp (I.stkSub b hb)with e | hb
 . rw[e];exact I.free
 . obtain⟨_,o,ho,_⟩:=I.ok.funs.mem hb;exact I.base.free b o ho (I.ok.frf b hb) λz=>I.ok.exfs b z hb
def j5.step{g':Array GenState}{t':Nat}{d':Drawn}{ch:List Addr}(I:j5 X aS σ H s)
    (gI:∀b∈ch,(b∈X.ex\/X.s₀.heap.objs.size<=b)/\b≠X.env.locals/\(∀x c,X.env.cells.lookup x=some c->c≠b)/\∀p∈X.pn++aS,p.1≠b)
    (keep:∀b o,b≠X.env.locals->b ∉ X.fs->b ∉ ch->s.heap.get? b=some o->H b=none->h'.get? b=some o)
    (slot:∀b o,b≠X.env.locals->b∈X.fs->b ∉ ch->s.heap.get? b=some o->H b=none->∃sl,h'.get? b=some { o with slots:=sl }) (free:∀b o,b ∉ ch->s.heap.get? b=some o->H b=none->H' b=none)
    (there:∀b o,b ∉ ch->s.heap.get? b=some o->∃o',h'.get? b=some o')
    (tups:∀b xs,H b=some (.tup xs)->H' b=some (.tup xs)) (frzs:∀b o u,H b=some (.frz o u)->H' b=some (.frz o u)) (tbls:∀b ps,H b=some (.tbl ps)->∃more,H' b=some (.tbl<|ps++more))
    (ns:∀m,s.heap.Ns X.env.locals m->h'.Ns X.env.locals m) (hok:X7 X.prog X.w H' h') (hg:AllBare g') :
    j5 X aS σ H' { s with heap:=h',gens:=g',drawn:=d',toks:=t' }:=by
 have kT:∀b o,X.s₀.heap.get? b=some o->b≠X.env.locals:=λb o e=>ai<|ao (af e) I.ok.above;have fq:∀b o,X.s₀.heap.get? b=some o->b ∉ X.ex->b ∉ ch:=λb o e hx hb=>by
  rcases(gI b hb).1 with z | z
  . exact hx z
  . exact absurd (ao (af e) z) (aZ _)
 have iz:∀x c,X.env.cells.lookup x=some c->∀v,s.heap.IsCell c v->h'.IsCell c v:=λx c e v ⟨o,ho,hd⟩=>by
  have jE:c ∉ ch:=λz=>(gI c z).2.2.1 x c e rfl;by_cases hc:c∈X.fs
  . obtain⟨sl,q⟩:=slot c o (I.cne x c e) hc jE ho<|I.freeC x c e;exact⟨_,q,hd⟩
  . exact⟨o,keep c o (I.cne x c e) hc jE ho<|I.freeC x c e,hd⟩
 show⟨I.ok,I.os,hg,⟨λb o e n hb hx=>?_,λb o e n hb hx=>?_,λb o e n hx=>?_,λb o e hx=>?_,λb xs e=>tups b xs<|I.base.tups b xs e,λb o xs e=>frzs b o xs<|I.base.frzs b o xs e,λb ps e=>?_⟩,?_,λx c e=>?_,?_,λx c e=>?_,λp hp=>?_,hok,I.len⟩
 . exact keep b o (kT b o e) hb (fq b o e hx) (I.base.keep b o e n hb hx) (I.base.free b o e n hx)
 . obtain⟨sl,e1⟩:=I.base.slot b o e n hb hx;obtain⟨gM,e2⟩:=slot b _ (kT b o e) hb (fq b o e hx) e1<|I.base.free b o e n hx;exact⟨gM,e2⟩
 . obtain⟨o',e1⟩:=I.base.there b o e hx;exact free b o' (fq b o e hx) e1 (I.base.free b o e n hx)
 . obtain⟨o',e1⟩:=I.base.there b o e hx;exact there b o' (fq b o e hx) e1
 . obtain⟨m1,e1⟩:=I.base.tbls b ps e;obtain⟨m2,e2⟩:=tbls b _ e1;exact⟨m1++m2,by rw[e2,Array.append_assoc]⟩
 . obtain⟨m,hn,hl⟩:=I.loc;show⟨m,ns m hn,λi x v e1 e2 e3=>?_⟩;obtain⟨u,r,l⟩:=hl i x v e1 e2 e3;show⟨u,r,?_⟩;rcases l with l | ⟨k,c,e,z⟩
   . exact .inl l
   . exact .inr ⟨k,c,e,iz x c e _ z⟩
 . obtain⟨v,z⟩:=I.cell x c e;exact⟨v,iz x c e v z⟩
 . obtain⟨m,⟨o,_,_,ho,_⟩,_⟩:=I.loc;exact free _ o (λz=>(gI _ z).2.1 Y) ho I.free
 . obtain⟨v,o,ho,hd⟩:=I.cell x c e;exact free c o (λz=>(gI c z).2.2.1 x c e Y) ho (I.freeC x c e)
 . obtain⟨e,n,ne,nf,d⟩:=I.pin p hp;have jE:p.1 ∉ ch:=λz=>(gI p.1 z).2.2.2 p hp rfl;exact⟨keep p.1 p.2 ne nf jE e n,free p.1 p.2 jE e n,ne,nf,d⟩
def j5.un{t':Nat}(I:j5 X aS σ H s)(u:Un X.fs [] H H' s.heap h')(hok:X7 X.prog X.w H' h'):j5 X aS σ H' { s with heap:=h',toks:=t' }:=by
 obtain⟨m,⟨o,es,ep,ho,r⟩,_⟩:=id I.loc;obtain⟨sl,hL⟩:=u.any ho I.free (by simp);exact I.step (g':=s.gens) (d':=s.drawn) (ch:=[]) (λ_ z=>nomatch z) (λb o _ hb _ e n=>u.keep b o e n hb<|by simp) (λb o _ hb _ e n=>u.slot b o e n hb<|by simp) (λb o _ e n=>u.free b o e n<|by simp) (λb o _ e=>u.there b o e<|by simp) u.tups u.frzs u.tbls (λm' hm=>by
  obtain⟨o',oH,oI,gv,r'⟩:=hm;rw[ho]at gv;cases gv;exact⟨_,oH,oI,hL,r'⟩) hok I.bare
def j5.call{g':Array GenState}{t':Nat}{d':Drawn}{ch:List Addr}(I:j5 X aS σ H s)(u:Un (E2 X.stack) ch H H' s.heap h')(hok:X7 X.prog X.w H' h')(hg:AllBare g')
    (gI:∀b∈ch,(b∈X.ex\/X.s₀.heap.objs.size<=b)/\b≠X.env.locals/\(∀x c,X.env.cells.lookup x=some c->c≠b)/\∀p∈X.pn++aS,p.1≠b) :
    j5 X aS σ H' { s with heap:=h',gens:=g',drawn:=d',toks:=t' }:=by
 obtain⟨m,⟨o,es,ep,ho,r⟩,_⟩:=id I.loc;obtain⟨sl,hL⟩:=u.any ho I.free λz=>(gI _ z).2.1 rfl;exact I.step (ch:=ch) gI (λb o hL hb hc e n=>u.keep b o e n (λz=>(aw.mp<|I.stkSub b z).elim hL hb) hc) (λb o _ _ hc e n=>u.any e n hc) (λb o hc e n=>u.free b o e n hc) (λb o hc e=>u.there b o e hc) u.tups u.frzs u.tbls (λm' hm=>by
  obtain⟨o',oH,oI,gv,r'⟩:=hm;rw[ho]at gv;cases gv;exact⟨_,oH,oI,hL,r'⟩) hok hg
def j5.turned{t':Nat}{it:Addr}(I:j5 X aS σ H s)(k:∀b o,b≠it->s.heap.get? b=some o->h'.get? b=some o)(hn:H it=none)(hL:it≠X.env.locals)
    (h1:it∈X.ex\/X.s₀.heap.objs.size<=it) (h2:∀x c,X.env.cells.lookup x=some c->c≠it) (h3:∀p∈X.pn++aS,p.1≠it):j5 X aS σ H { s with heap:=h',toks:=t' }:=by
 have jC:∀b u,H b=some u->b≠it:=λb u e z=>by rw[z,hn]at e;cases e
 show I.step (g':=s.gens) (d':=s.drawn) (ch:=[it]) (λb hb=>?_) (λb o _ _ hc e _=>k b o (λz=>hc<|by simp[z]) e) (λb o _ _ hc e _=>⟨o.slots,k b o (λz=>hc<|by simp[z]) e⟩) (λ_ _ _ _ n=>n)
  (λb o hc e=>⟨o,k b o (λz=>hc<|by simp[z]) e⟩) (λ_ _ e=>e) (λ_ _ _ e=>e) (λb ps e=>⟨#[],by rw[e];simp⟩) (λm hm=>?_) (λb u e=>?_) I.bare
 . have e:b=it:=by simpa using hb
   subst e;exact⟨h1,hL,h2,h3⟩
 . obtain⟨o,es,ep,ho,r⟩:=hm;exact⟨o,es,ep,k _ o (Ne.symm hL) ho,r⟩
 . show(I.hok b u e).stay (λc v hc q=>k c v ?_ q) (λ_ q=>q) λ_ _ q=>q;rcases hc with z | z
   . rw[z];exact jC b u e
   . exact jC c _ z
def j5.tok(I:j5 X aS σ H s)(t:Nat):j5 X aS σ H { s with toks:=t }:=I.un (h':=s.heap) (t':=t) Un.refl I.hok
theorem j5.kept{t':Nat}(I:j5 X aS σ H s)(k:∀b u,s.heap.get? b=some u->h'.get? b=some u):j5 X aS σ H { s with heap:=h',toks:=t' }:=I.un (Un.kept k) (I.hok.kept k)
theorem j5.laid{a:Addr}{o:HO}{t':Nat}(I:j5 X aS σ H s)(k:∀b u,s.heap.get? b=some u->h'.get? b=some u)(hp:s.heap.objs.size<=a)(new:D1 X.prog X.w (upd H a o) h' a o) :
    j5 X aS σ (upd H a o) { s with heap:=h',toks:=t' }:=I.un (Un.laid k hp<|I.hok.fresh hp) (I.hok.laid k hp new)
theorem j5.write{x e:Addr}{o:HO}{t':Nat}(I:j5 X aS σ H s)(mu:n0e (H x))(he:e=x\/H e=some (.own x))(k:∀b u,b≠e->s.heap.get? b=some u->h'.get? b=some u)(ji:∃u,h'.get? e=some u)
    (new:D1 X.prog X.w (upd H x o) h' x o):j5 X aS σ (upd H x o) { s with heap:=h',toks:=t' }:=I.un (Un.write mu he k ji) (I.hok.write mu he k ji new)
def j5.weak{σ':List (Option V)}(I:j5 X aS σ H s)(hl:σ'.length=σ.length)(w:∀(i:Nat) v,σ'[i]? = some (some v)->σ[i]? = some (some v)):j5 X aS σ' H s:=
 ⟨I.ok,I.os,I.bare,I.base,let⟨m,hn,pS⟩:=I.loc;⟨m,hn,λi x v e1 e2 e3=>pS i x v e1 (w i v e2) e3⟩,I.cell,I.free,I.freeC,I.pin,I.hok,hl.trans I.len⟩
def j5.pins_of{pins':w1e}(I:j5 X aS σ H s)(h:∀p∈pins',s.heap.get? p.1=some p.2/\H p.1=none/\p.1≠X.env.locals/\p.1 ∉ X.fs/\∀v,p.2.data≠.cell v):j5 X pins' σ H s:=
 ⟨I.ok,I.os,I.bare,I.base,I.loc,I.cell,I.free,I.freeC,λp hp=>(aJ.mp hp).elim (λz=>I.pin p<|bH _ z)<|h p,I.hok,I.len⟩
def Gz{N:w1i}(hN:N.Nodup){i j:Nat}{x:Str}(a:N[i]? = some x)(b:N[j]? = some x):i=j:=by obtain⟨h1,e1⟩:=aH.mp a;obtain⟨h2,e2⟩:=aH.mp b;exact(List.getElem_inj hN).mp (e1.trans e2.symm)
def Ef{M:Model}{A:Around}{E:w1f}{i:Nat}{x:Str}{v:V}{u:Value}{Q:Unit->Shared->Prop}(I:j5 X aS σ H s)(hN:X.N.Nodup)(hi:X.N[i]? = some x)(hx:Va X.env.scope x)(r:w8 v u)
    (h:∀s',j5 X aS (σ.set i<|some v) H s'->(∃a,Heap.SameBut a s.heap s'.heap/\(a=X.env.locals\/X.env.cells.lookup x=some a))->Q () s') (hf:X.fn x=true\/X.env.scope.names.lookup x=some .local:=by first | exact .inl rfl | exact .inr rfl | assumption):wpAny M A (storeName X.env x u) Q E s:=by
 obtain⟨m,hn,hl⟩:=id I.loc;have hG:(X.env.scope.kind == .class || (X.env.scope.kind == .module && X.env.locals != X.env.globals))=false:=by rw[I.ok.kind];rfl
 have gY:i < σ.length:=by rw[I.len];exact(aH.mp hi).1
 have cne:=I.cne;have fP:∀{a:Addr} {h':Heap},(∃o,s.heap.get? a=some o/\H a=none)->Heap.SameBut a s.heap h'->X7 X.prog X.w H h':=λ{a h'} ha hs b ob e=>by
  obtain⟨_,_,iw⟩:=ha;show(I.hok b ob e).stay (λc w' hc q=>(hs.2 c ?_).trans q) (λ_ q=>q) λ_ _ q=>q;rintro rfl;rcases hc with rfl | hc
  . rw[iw]at e;cases e
  . rw[iw]at hc;cases hc
 rcases hx with hk | hk
 . show wpAny_storeName_local hk hn (λh' gx hs=>?_) hG;obtain⟨oL,_,_,wD,_⟩:=id hn;show h _ ⟨I.ok,I.os,I.bare,⟨λb o e n hb hx=>?_,λb o e n hb hx=>?_,I.base.free,λb o e hx=>?_,I.base.tups,I.base.frzs,I.base.tbls⟩,⟨_,gx,λj y v' e1 e2 e3=>?_⟩,λy c e=>?_,I.free,I.freeC,λp hp=>?_,fP ⟨oL,wD,I.free⟩ hs,by simpa using I.len⟩ ⟨_,hs,.inl Y⟩
   . exact(hs.2 b<|ai<|ao (af e) I.ok.above).trans (I.base.keep b o e n hb hx)
   . obtain⟨sl,e1⟩:=I.base.slot b o e n hb hx;exact⟨sl,(hs.2 b<|ai<|ao (af e) I.ok.above).trans e1⟩
   . obtain⟨o',e1⟩:=I.base.there b o e hx;exact⟨o',(hs.2 b<|ai<|ao (af e) I.ok.above).trans e1⟩
   . by_cases hj:j=i
     . subst hj;rw[hi]at e1;cases e1;rw[df gY]at e2;cases e2;exact⟨u,r,.inl ⟨hk,by simp⟩⟩
     . rw[List.getElem?_set_ne<|Ne.symm hj]at e2;obtain⟨u',r',q⟩:=hl j y v' e1 e2 e3;show⟨u',r',?_⟩;rcases q with ⟨k,e⟩ | ⟨k,c,e,z⟩
       . show .inl ⟨k,?_⟩;have:y≠x:=λe=>hj<|Gz hN e1<|e▸hi;simp[this,e]
       . exact .inr ⟨k,c,e,z.sameBut hs<|cne y c e⟩
   . obtain⟨w',z⟩:=I.cell y c e;exact⟨w',z.sameBut hs<|cne y c e⟩
   . obtain⟨e,n,ne,nf,d⟩:=I.pin p hp;exact⟨(hs.2 p.1 ne).trans e,n,ne,nf,d⟩
 . have nX:X.fn x=true:=by
    rcases hf with z | z
    . exact z
    . rw[z]at hk;cases hk
   obtain⟨c,hc⟩:=I.ok.has x<|.inl hk;obtain⟨w',z⟩:=I.cell x c hc;show wpAny_storeName_cell I.ok.kind hk hc z<|λh' iV hs=>?_;obtain⟨oc,pM,nJ⟩:=id z;show h { s with heap:=h' } ⟨I.ok,I.os,I.bare,⟨λb o e n hb hx=>?_,λb o e n hb hx=>?_,I.base.free,λb o e hx=>?_,I.base.tups,I.base.frzs,I.base.tbls⟩,⟨m,hn.sameBut hs<|Ne.symm<|cne x c hc,λj y v' e1 e2 e3=>?_⟩,λy c' e=>?_,I.free,I.freeC,λp hp=>?_,fP ⟨oc,pM,I.freeC x c hc⟩ hs,by simpa using I.len⟩ ⟨c,hs,.inr hc⟩
   . exact(hs.2 b<|ai<|ao (af e)<|I.ok.cab x c nX hc).trans (I.base.keep b o e n hb hx)
   . obtain⟨sl,e1⟩:=I.base.slot b o e n hb hx;exact⟨sl,(hs.2 b<|ai<|ao (af e)<|I.ok.cab x c nX hc).trans e1⟩
   . obtain⟨o',e1⟩:=I.base.there b o e hx;exact⟨o',(hs.2 b<|ai<|ao (af e)<|I.ok.cab x c nX hc).trans e1⟩
   . by_cases hj:j=i
     . subst hj;rw[hi]at e1;cases e1;rw[df gY]at e2;cases e2;exact⟨u,r,.inr ⟨.inl hk,c,hc,iV⟩⟩
     . rw[List.getElem?_set_ne<|Ne.symm hj]at e2;obtain⟨u',r',q⟩:=hl j y v' e1 e2 e3;show⟨u',r',?_⟩;rcases q with q | ⟨k,c',e,z'⟩
       . exact .inl q
       . show .inr ⟨k,c',e,z'.sameBut hs ?_⟩;rintro rfl;exact hj (Gz hN e1<|I.ok.inj _ _ _ e hc▸hi)
   . by_cases hcc:c'=c
     . subst hcc;exact⟨_,iV⟩
     . obtain⟨w2,z2⟩:=I.cell y c' e;exact⟨w2,z2.sameBut hs hcc⟩
   . obtain⟨e,n,ne,nf,d⟩:=I.pin p hp;show⟨(hs.2 p.1 ?_).trans e,n,ne,nf,d⟩;intro q;rw[q,pM]at e;have q':oc=p.2:=Option.some.inj e;exact d w' (by rw[<- q'];exact nJ)
def X9{M:Model}{A:Around}{E:w1f}{i:Nat}{x:Str}{v:V}{u:Value}{Q:Unit->Shared->Prop}(I:j5 X aS σ H s)(hN:X.N.Nodup)(hi:X.N[i]? = some x)(hx:Va X.env.scope x)(r:w8 v u)
    (h:∀s',j5 X aS (σ.set i<|some v) H s'->Q () s') (hf:X.fn x=true\/X.env.scope.names.lookup x=some .local:=by first | exact .inl rfl | exact .inr rfl | assumption):wpAny M A (storeName X.env x u) Q E s:=
 Ef I hN hi hx r (λs' I' _=>h s' I') hf
def j5.call'{s':Shared}{ch:List Addr}(I:j5 X aS σ H s)(ho:s'.os=s.os)(u:Un (E2 X.stack) ch H H' s.heap s'.heap)(hok:X7 X.prog X.w H' s'.heap)(hg:AllBare s'.gens)
    (gI:∀b∈ch,(b∈X.ex\/X.s₀.heap.objs.size<=b)/\b≠X.env.locals/\(∀x c,X.env.cells.lookup x=some c->c≠b)/\∀p∈X.pn++aS,p.1≠b):j5 X aS σ H' s':=by
 obtain⟨h',g',d',t',o'⟩:=s';have e:o'=s.os:=ho;subst e;exact I.call (g':=g') (t':=t') (d':=d') u hok hg gI
end
abbrev XK:=Value->Option Addr->Hp->Prop
abbrev St:=List (Option V)
abbrev VK:=V->Hp->Prop
abbrev TE:=St->Hp->VK->Prop
abbrev TT:=St->Hp->(Bool->Hp->Prop)->Prop
abbrev TA:=St->Hp->(List V->Hp->Prop)->Prop
structure BY where
 nx:St->Hp->Prop
 rt:VK
 bk:St->Hp->Prop:=λ_ _=>False
 ct:St->Hp->Prop:=λ_ _=>False
abbrev TS:=BY->St->Hp->Prop
def EP(X:Cx)(aS:w1e)(σ:St)(Q:VK)(u:Value)(s':Shared):Prop:=∃v H',j5 X aS σ H' s'/\w8 v u/\Q v H'
def TP(X:Cx)(aS:w1e)(σ:St)(Q:Bool->Hp->Prop)(b:Bool)(s':Shared):Prop:=∃H',j5 X aS σ H' s'/\Q b H'
def AP(X:Cx)(aS:w1e)(σ:St)(Q:List V->Hp->Prop)(us:w1j)(s':Shared):Prop:=∃vs H',j5 X aS σ H' s'/\m9 vs us/\Q vs H'
def SP(X:Cx)(aS:w1e)(D:BY)(f:Flow)(s':Shared):Prop:=
 match f with
 | .next=>∃σ' H',j5 X aS σ' H' s'/\D.nx σ' H'
 | .brk=>∃σ' H',j5 X aS σ' H' s'/\D.bk σ' H'
 | .cont=>∃σ' H',j5 X aS σ' H' s'/\D.ct σ' H'
 | .ret u=>∃v σ' H',j5 X aS σ' H' s'/\w8 v u/\D.rt v H'
def PE(X:Cx)(e:Expr)(t:TE):Prop:=
 ∀(aS:w1e) (s:Shared) (σ:St) (H:Hp) (Q:VK),j5 X aS σ H s->t σ H Q->wpAny (model X.prog X.w) X.A (eval e X.env) (EP X aS σ Q) X.xe s
def PT(X:Cx)(e:Expr)(t:TT):Prop:=
 ∀(aS:w1e) (s:Shared) (σ:St) (H:Hp) (Q:Bool->Hp->Prop),j5 X aS σ H s->t σ H Q->wpAny (model X.prog X.w) X.A (isTrue e X.env<|eval e X.env) (TP X aS σ Q) X.xe s
def PW(X:Cx)(e:Expr)(t:TT):Prop:=
 ∀(fM:Sem Value) (aS:w1e) (s:Shared) (σ:St) (H:Hp) (Q:Bool->Hp->Prop),j5 X aS σ H s->t σ H Q->wpAny (model X.prog X.w) X.A (isTrue e X.env fM) (TP X aS σ Q) X.xe s
def PW.pt{X:Cx}{e:Expr}{t:TT}(h:PW X e t):PT X e t:=h _
def PA(X:Cx)(es:List Expr)(t:TA):Prop:=
 ∀(pos:Pos) (aS:w1e) (s:Shared) (σ:St) (H:Hp) (Q:List V->Hp->Prop),j5 X aS σ H s->t σ H Q->wpAny (model X.prog X.w) X.A (spliced<|backTo pos<|starEach es X.env) (AP X aS σ Q) X.xe s
def PS(X:Cx)(st:Stmt)(t:TS):Prop:=
 ∀(aS:w1e) (s:Shared) (σ:St) (H:Hp) (D:BY),j5 X aS σ H s->t D σ H->wpAny (model X.prog X.w) X.A (exec st X.env) (SP X aS D) X.xe s
def Kt(X:Cx)(st:List Stmt)(t:TS):Prop:=
 ∀(aS:w1e) (s:Shared) (σ:St) (H:Hp) (D:BY),j5 X aS σ H s->t D σ H->wpAny (model X.prog X.w) X.A (execs st X.env) (SP X aS D) X.xe s
def B0{α:Type}{t:Sem α}{Q Q':α->Shared->Prop}{M:Model}{A:Around}{E:w1f}{s:Shared}(h:wpAny M A t Q E s)(hQ:∀a s,Q a s->Q' a s):wpAny M A t Q' E s:=wpAny_mono h hQ λ_ _ x=>x
section
variable{X:Cx}
def bin{a b:Expr}{ta tb:TE}(ha:PE X a ta)(hb:PE X b tb){aS:w1e}{s:Shared}{σ:St}{H:Hp}{R:V->V->Hp->Prop}(I:j5 X aS σ H s)(h:ta σ H λx H1=>tb σ H1 λy H2=>R x y H2)
    {α:Type} {Q:α->Shared->Prop} {f:Value->Value->Sem α}
    (hf:∀v u s2 x y H2,j5 X aS σ H2 s2->w8 x v->w8 y u->R x y H2->wpAny (model X.prog X.w) X.A (f v u) Q X.xe s2) :
    wpAny (model X.prog X.w) X.A (eval a X.env) (λv s₁=>wpAny (model X.prog X.w) X.A (eval b X.env) (λu s₂=>wpAny (model X.prog X.w) X.A (f v u) Q X.xe s₂) X.xe s₁) X.xe s:=by
 show B0 (ha aS s σ H _ I h) λv s1 ⟨x,H1,I1,r1,q1⟩=>?_;show B0 (hb aS s1 σ H1 _ I1 q1) λu s2 ⟨y,H2,I2,r2,q2⟩=>?_;exact hf v u s2 x y H2 I2 r1 r2 q2
def OW(i:Nat):TE:=λσ H Q=>∃v,σ[i]? = some (some v)/\Q v H
def tC(v:V):TE:=λ_ H Q=>Q v H
def WQ{i:Nat}{x:Str}{pos:Pos}(hN:X.N[i]? = some x)(hv:Vis X.env.scope x)(hd:(x == ("__debug__":Str))=false:=by decide)(fX:(x == ("__classdict__":Str))=false:=by decide):PE X (.Name x pos) (OW i):=by
 intro aS s σ H Q I h;obtain⟨v,e,h⟩:=h;obtain⟨m,hn,hl⟩:=I.loc;obtain⟨u,r,l⟩:=hl i x v hN e hv;have dW:EP X aS σ Q u s:=⟨v,H,I,r,h⟩;rcases l with ⟨hk,hm⟩ | ⟨hk,c,hc,iy⟩
 . exact wpAny_Name (wpAny_loadName_local I.ok.kind hk hn hm dW) hd
 . rcases hk with hk | hk
   . exact wpAny_Name (wpAny_loadName_cell I.ok.kind hk hc iy dW) hd
   . exact wpAny_Name (wpAny_loadName_free I.ok.kind hk hc iy dW fX) hd
def a7{i j pos}:PE X (.Constant (.int i) j pos) (tC<|.int i):=λ_ _ _ H _ I h=>wpAny_Constant_int ⟨.int i,H,I.tok _,⟨_,Y⟩,h⟩
def M5{b j pos}:PE X (.Constant (.bool b) j pos) (tC<|.bl b):=λ_ _ _ H _ I h=>Constant_bool ⟨.bl b,H,I,Y,h⟩
def M4{j pos}:PE X (.Constant .none j pos) (tC .non):=λ_ _ _ H _ I h=>Constant_none ⟨.non,H,I,Y,h⟩
def j1{x j pos}:PE X (.Constant (.str x) j pos) (tC<|.str x):=λ_ _ _ H _ I h=>Calls.Constant_str ⟨.str x,H,I.tok _,⟨_,Y⟩,h⟩
def Gl(X:Cx)(x:Str):Prop:=X.env.kindOf x=some .globalImplicit
def Av{E:w1f}{aS:w1e}{s:Shared}{σ:St}{H:Hp}{x:Str}{u:Value}{pos:Pos}{Q:w1f}(I:j5 X aS σ H s)(hg:Gl X x)(hm:X.mg x=some u)(h:Q u s)
    (hd:(x == ("__debug__":Str))=false:=by decide):wpAny (model X.prog X.w) X.A (eval (.Name x pos) X.env) Q E s:=
 Calls.Name_function_global I.ok.kind hg (Calls.loadGlobal_global (by rw[I.ok.glob];exact I.mod.glob.keeps I.bk) hm h) hd
def X1{E:w1f}{aS:w1e}{s:Shared}{σ:St}{H:Hp}{x:Str}{u:Value}{pos:Pos}{Q:w1f}(I:j5 X aS σ H s)(hg:Gl X x)(hm:X.mg x=none)(hv:bootBuiltins x=some u)(h:Q u s)
    (hn:x≠"__name__":=by decide) (hd:(x == ("__debug__":Str))=false:=by decide):wpAny (model X.prog X.w) X.A (eval (.Name x pos) X.env) Q E s:=by
 obtain⟨mb,h1,h2⟩:=I.mod.blt;exact Calls.Name_function_global I.ok.kind hg (Calls.loadGlobal_builtin (by rw[I.ok.glob];exact I.mod.glob.keeps I.bk) hm (by rw[I.ok.blt];exact h1.keeps I.bk) ((h2 x hn).trans hv) h) hd
def V7{x:Str}{v:V}{u:Value}{pos:Pos}(hg:Gl X x)(hm:X.mg x=some u)(r:w8 v u)(hd:(x == ("__debug__":Str))=false:=by decide):PE X (.Name x pos) (tC v):=
 λ_ _ _ H _ I h=>Av I hg hm ⟨v,H,I,r,h⟩ hd
def E1{x:Str}{v:V}{u:Value}{pos:Pos}(hg:Gl X x)(hm:X.mg x=none)(hv:bootBuiltins x=some u)(r:w8 v u)(hn:x≠"__name__":=by decide)(hd:(x == ("__debug__":Str))=false:=by decide):PE X (.Name x pos) (tC v):=
 λ_ _ _ H _ I h=>X1 I hg hm hv ⟨v,H,I,r,h⟩ hn hd
variable{a b:Expr}{ta tb:TE}{pos:Pos}
def PC(X:Cx)(op:CmpOp)(a b:Expr)(t:TE):Prop:=
 ∀(aS:w1e) (s:Shared) (σ:St) (H:Hp) (Q:VK),j5 X aS σ H s->t σ H Q->
  wpAny (model X.prog X.w) X.A (eval a X.env) (λv s₁=>wpAny (model X.prog X.w) X.A (eval b X.env) (λu s₂=>wpAny (model X.prog X.w) X.A (compareOp op v u) (EP X aS σ Q) X.xe s₂) X.xe s₁) X.xe s
def Sh(b:Expr){op:CmpOp}(h:op≠.In)(h2:op≠.NotIn):behindInMarks op b=false:=by
 have e1:(op == CmpOp.In)=false:=by cases op <;>first | rfl | exact absurd rfl h
 have e2:(op == CmpOp.NotIn)=false:=by cases op <;>first | rfl | exact absurd rfl h2
 cases b <;>simp[behindInMarks,e1,e2]
def tB(t:TE):TT:=λσ H Q=>t σ H λx H1=>∃c,x=.bl c/\Q c H1
def pt_cmp{op:CmpOp}{t:TE}(h:PC X op a b t)(h1:behindInMarks op b=false:=by first | exact Sh _ bD bD | rfl):PT X (.Compare a [op] [b] pos) (tB t):=by intro aS s σ H Q I hw;show wpAny_isTrue_Compare1 (B0 (h aS s σ H _ I hw) λv s1 h1=>B0 h1 λu s2 h2=>B0 h2 λc s3 ⟨x,H1,I1,r1,q1⟩=>?_) h1;obtain⟨d,rfl,q⟩:=q1;cases r1;exact wpAny_truthy_bool ⟨H1,I1,q⟩
def C6{e:Expr}{t:TE}(h:PE X e t)(he:∀fM,isTrue e X.env fM=(do let v <- fM;standAt e.pos;holding [v] (truthy v)):=by intro _;rfl):PT X e (tB t):=by intro aS s σ H Q I hw;show isTrue_plain (B0 (h aS s σ H _ I hw) λv s1 ⟨x,H1,I1,r1,q1⟩=>?_)<|he _;obtain⟨d,rfl,q⟩:=q1;cases r1;exact wpAny_truthy_bool ⟨H1,I1,q⟩
variable{tA kQ:TT}{Y5:List Expr}
def VM(t u:TT):TT:=λσ H Q=>t σ H λc H1=>if c=true then u σ H1 Q else Q false H1
def tOr(t u:TT):TT:=λσ H Q=>t σ H λc H1=>if c=true then Q true H1 else u σ H1 Q
def tNot(t:TT):TT:=λσ H Q=>t σ H λc H1=>Q (!c) H1
def V4(ha:PT X a tA):PW X (.BoolOp .And [a] pos) tA:=by
 intro wh aS s σ H Q I h;show isTrue_and<|B0 (ha aS s σ H Q I h) λc s1 e=>?_;cases c with
 | true=>exact isTrue_and_nil e
 | false=>exact e
def E7(ha:PT X a tA):PW X (.BoolOp .Or [a] pos) tA:=by
 intro wh aS s σ H Q I h;show isTrue_or<|B0 (ha aS s σ H Q I h) λc s1 e=>?_;cases c with
 | false=>exact isTrue_or_nil e
 | true=>exact e
def U0(ha:PT X a tA)(hb:PW X (.BoolOp .And (b::Y5) pos) kQ):PW X (.BoolOp .And (a::b::Y5) pos) (VM tA kQ):=by
 intro wh aS s σ H Q I h;show isTrue_and<|B0 (ha aS s σ H _ I h) λc s1 ⟨H1,I1,q1⟩=>?_;cases c with
 | true=>exact hb wh aS s1 σ H1 Q I1 q1
 | false=>exact⟨H1,I1,q1⟩
def G9(ha:PT X a tA)(hb:PW X (.BoolOp .Or (b::Y5) pos) kQ):PW X (.BoolOp .Or (a::b::Y5) pos) (tOr tA kQ):=by
 intro wh aS s σ H Q I h;show isTrue_or<|B0 (ha aS s σ H _ I h) λc s1 ⟨H1,I1,q1⟩=>?_;cases c with
 | true=>exact⟨H1,I1,q1⟩
 | false=>exact hb wh aS s1 σ H1 Q I1 q1
def D9(ha:PT X a tA):PT X (.UnaryOp .Not a pos) (tNot tA):=by intro aS s σ H Q I h;exact isTrue_not (ha aS s σ H (λc H1=>Q (!c) H1) I h)
def YV(ta tb:TE):TE:=λσ H Q=>ta σ H λx H1=>∃c,x=.bl c/\if c=true then tb σ H1 Q else Q (.bl false) H1
def tOrV(ta tb:TE):TE:=λσ H Q=>ta σ H λx H1=>∃c,x=.bl c/\if c=true then Q (.bl true) H1 else tb σ H1 Q
def YL(ta:TE):TE:=λσ H Q=>ta σ H λx H1=>∃c,x=.bl c/\Q (.bl<|!c) H1
def X0{op}{t:TE}(h:PE X a t):PE X (.BoolOp op [a] pos) t:=λaS s σ H Q I hw=>BoolOp_one (h aS s σ H Q I hw)
def CP(ha:PE X a ta)(hb:PE X (.BoolOp .And (b::Y5) pos) tb):PE X (.BoolOp .And (a::b::Y5) pos) (YV ta tb):=by
 intro aS s σ H Q I h;show BoolOp_and<|B0 (ha aS s σ H _ I h) λv s1 ⟨x,H1,I1,r1,q1⟩=>?_;obtain⟨c,rfl,q1⟩:=q1;cases r1;show wpAny_truthy_bool ?_;cases c with
 | true=>exact hb aS s1 σ H1 Q I1 q1
 | false=>exact⟨.bl false,H1,I1,Y,q1⟩
def RT(ha:PE X a ta)(hb:PE X (.BoolOp .Or (b::Y5) pos) tb):PE X (.BoolOp .Or (a::b::Y5) pos) (tOrV ta tb):=by
 intro aS s σ H Q I h;show BoolOp_or<|B0 (ha aS s σ H _ I h) λv s1 ⟨x,H1,I1,r1,q1⟩=>?_;obtain⟨c,rfl,q1⟩:=q1;cases r1;show wpAny_truthy_bool ?_;cases c with
 | false=>exact hb aS s1 σ H1 Q I1 q1
 | true=>exact⟨.bl true,H1,I1,Y,q1⟩
def WS(ha:PE X a ta):PE X (.UnaryOp .Not a pos) (YL ta):=by intro aS s σ H Q I h;show UnaryOp_<|B0 (ha aS s σ H _ I h) λv s1 ⟨x,H1,I1,r1,q1⟩=>?_;obtain⟨c,rfl,q1⟩:=q1;cases r1;exact not_of (wpAny_truthy_bool ⟨.bl<|!c,H1,I1,Y,q1⟩)
def tIf(t:TT)(ta tb:TE):TE:=λσ H Q=>t σ H λc H1=>if c=true then ta σ H1 Q else tb σ H1 Q
def RU{c:Expr}(hc:PT X c tA)(ha:PE X a ta)(hb:PE X b tb):PE X (.IfExp c a b pos) (tIf tA ta tb):=by
 intro aS s σ H Q I h;show wpAny_IfExp<|B0 (hc aS s σ H _ I h) λd s1 ⟨H1,I1,q1⟩=>?_;cases d with
 | true=>exact ha aS s1 σ H1 Q I1 q1
 | false=>exact hb aS s1 σ H1 Q I1 q1
end
def y7(K:aa)(H:Hp)(a:Addr)(xs:List V):Prop:=
 Rd H a (.lst xs)\/
  ∃(o:Obj) (dw:Array Value) (n:Nat),K.lookup a=some o/\o.cls=.type "list"/\o.dict=none/\o.data=.seq dw n/\dw.size<=sizeLine/\m9 xs dw.toList
def j3(K:aa)(H:Hp)(a:Addr)(xs:List V):Prop:=
 Rd H a (.tup xs)\/
  ∃(o:Obj) (dw:Array Value) (n:Nat),K.lookup a=some o/\o.cls=.type "tuple"/\o.data=.seq dw n/\dw.size<=sizeLine/\m9 xs dw.toList
def absV:Value->Option V
 | .none=>some .non
 | .bool b=>some (.bl b)
 | .int i _=>some (.int i)
 | .str x _=>some (.str x)
 | .bytes b _=>some (.byt b)
 | .float b _=>some (.flt b)
 | .ref a=>some (.ref a)
 | .type n=>some (.ty n)
 | _=>none
def w8.abs{x:V}{u:Value}(r:w8 x u):absV u=some x:=by
 cases x with
 | non=>cases r;rfl
 | bl _=>cases r;rfl
 | int _=>obtain⟨t,rfl⟩:=r;rfl
 | str _=>obtain⟨t,rfl⟩:=r;rfl
 | byt _=>obtain⟨t,rfl⟩:=r;rfl
 | flt _=>obtain⟨t,rfl⟩:=r;rfl
 | ref _=>cases r;rfl
 | ty _=>cases r;rfl
theorem w8.inj{x y:V}{u:Value}(r:w8 x u)(q:w8 y u):x=y:=Option.some.inj (r.abs.symm.trans q.abs)
theorem m9.inj:∀{xs ys:List V} {us:w1j},m9 xs us->m9 ys us->xs=ys
 | _,_,_,.nil,.nil=>rfl
 | _,_,_,.cons r t,.cons r' t'=>by rw[r.inj r',m9.inj t t']
section
variable{X:Cx}{aS:w1e}{σ:St}{H:Hp}{s:Shared}{a:Addr}{xs ys:List V}
def y7.of{K:aa}(h:H a=some (.lst xs)):y7 K H a xs:=.inl (.inl h)
def j3.of{K:aa}(h:H a=some (.tup xs)):j3 K H a xs:=.inl (.inl h)
def j5.list(I:j5 X aS σ H s)(h:y7 X.K H a xs):∃dw:w1j,m9 xs dw/\PlainL s.heap a dw.toArray/\xs.length<=sizeLine:=by
 rcases h with h | ⟨o,dw,n,hk,hc,hd,hs,hz,r⟩
 . obtain⟨z,dw,n,r,e⟩:=h.ok I.hok;exact⟨dw,r,⟨_,n,e,Y,Y,Y⟩,z⟩
 . show⟨dw.toList,r,⟨o,n,I.kIn a o hk,hc,hd,by simpa using hs⟩,?_⟩;have e:=r.length;simp only[Array.length_toList]at e;omega
def j5.tuple(I:j5 X aS σ H s)(h:j3 X.K H a xs):∃dw:w1j,m9 xs dw/\IsTup s.heap a dw.toArray/\xs.length<=sizeLine:=by
 rcases h with h | ⟨o,dw,n,hk,hc,hs,hz,r⟩
 . obtain⟨z,dw,r,p,_⟩:=h.ok I.hok;exact⟨dw,r,p,z⟩
 . show⟨dw.toList,r,⟨o,I.kIn a o hk,hc,n,by simpa using hs⟩,?_⟩;have e:=r.length;simp only[Array.length_toList]at e;omega
def j5.list_inj(I:j5 X aS σ H s)(h:y7 X.K H a xs)(h':y7 X.K H a ys):xs=ys:=by
 obtain⟨dw,r,⟨o,n,e,_,_,d⟩,_⟩:=I.list h;obtain⟨its',r',⟨o',n',e',_,_,d'⟩,_⟩:=I.list h';rw[e]at e';cases e';rw[d]at d';injection d' with d1 _;have:dw=its':=by simpa using congrArg Array.toList d1
 subst this;exact r.inj r'
def j5.tuple_inj(I:j5 X aS σ H s)(h:j3 X.K H a xs)(h':j3 X.K H a ys):xs=ys:=by
 obtain⟨dw,r,⟨o,e,_,n,d⟩,_⟩:=I.tuple h;obtain⟨its',r',⟨o',e',_,n',d'⟩,_⟩:=I.tuple h';rw[e]at e';cases e';rw[d]at d';injection d' with d1 _;have:dw=its':=by simpa using congrArg Array.toList d1
 subst this;exact r.inj r'
end
abbrev Cx.wish(X:Cx)(E:w1f):Cx:={ X with xe:=E }
abbrev Cx.nox(X:Cx):Cx:=X.wish λ_ _=>False
theorem Cx.Ok.wish{X:Cx}(ok:X.Ok)(E:w1f):(X.wish E).Ok:=
 ⟨ok.mod,ok.kind,ok.glob,ok.blt,ok.above,ok.inj,ok.has,ok.cab,ok.hd,ok.frames,ok.stk,ok.exf,ok.bs,ok.bsz,ok.noex,ok.exfs,ok.funs,ok.frf⟩
def Cx.Ok.unwish{X:Cx}{E:w1f}(ok:(X.wish E).Ok):X.Ok:=
 ⟨ok.mod,ok.kind,ok.glob,ok.blt,ok.above,ok.inj,ok.has,ok.cab,ok.hd,ok.frames,ok.stk,ok.exf,ok.bs,ok.bsz,ok.noex,ok.exfs,ok.funs,ok.frf⟩
section
variable{X:Cx}{aS:w1e}{σ:St}{H:Hp}{s:Shared}{E:w1f}
theorem j5.wish(I:j5 X aS σ H s)(E:w1f):j5 (X.wish E) aS σ H s:=⟨I.ok.wish E,I.os,I.bare,I.base,I.loc,I.cell,I.free,I.freeC,I.pin,I.hok,I.len⟩
theorem j5.unwish(I:j5 (X.wish E) aS σ H s):j5 X aS σ H s:=⟨I.ok.unwish,I.os,I.bare,I.base,I.loc,I.cell,I.free,I.freeC,I.pin,I.hok,I.len⟩
theorem SP.unwish{D:BY}{f:Flow}{s':Shared}(h:SP (X.wish E) aS D f s'):SP X aS D f s':=by
 cases f with
 | next=>obtain⟨σ',H',I,q⟩:=h;exact⟨σ',H',I.unwish,q⟩
 | brk=>obtain⟨σ',H',I,q⟩:=h;exact⟨σ',H',I.unwish,q⟩
 | cont=>obtain⟨σ',H',I,q⟩:=h;exact⟨σ',H',I.unwish,q⟩
 | ret u=>obtain⟨v,σ',H',I,r,q⟩:=h;exact⟨v,σ',H',I.unwish,r,q⟩
theorem Kt.nox{st:List Stmt}{t:TS}(h:Kt X.nox st t):Kt X st t:=λaS s σ H D I hw=>
 wpAny_mono (h aS s σ H D (I.wish _) hw) (λ_ _ q=>q.unwish) λ_ _ z=>False.elim z
end
section
variable{X:Cx}{st:Stmt}{Y5:List Stmt}{t u:TS}{e:Expr}{te:TE}{pos:Pos}
def tNext:TS:=λD σ H=>D.nx σ H
def YH(t u:TS):TS:=λD σ H=>t { D with nx:=u D } σ H
def i3:Kt X [] tNext:=λ_ _ σ H _ I h=>wpAny_execs_nil ⟨σ,H,I,h⟩
def a8(h1:PS X st t)(h2:Kt X Y5 u):Kt X (st::Y5) (YH t u):=by
 intro aS s σ H D I h;show wpAny_execs_cons<|B0 (h1 aS s σ H { D with nx:=u D } I h) λf s1 q=>?_;cases f with
 | next=>
  obtain⟨σ',H',I',q⟩:=q;exact h2 aS s1 σ' H' D I' q
 | ret v=>exact q
 | brk=>exact q
 | cont=>exact q
def a9(h1:PS X st t):Kt X [st] t:=by
 intro aS s σ H D I h;show wpAny_execs_cons<|B0 (h1 aS s σ H D I h) λf s1 q=>?_;cases f with
 | next=>exact wpAny_execs_nil q
 | ret v=>exact q
 | brk=>exact q
 | cont=>exact q
def j5.quiet{aS:w1e}{σ:St}{H:Hp}{s:Shared}(I:j5 X aS σ H s):interactive X.env=false:=by simp[interactive,I.ok.kind]
def YR(te:TE):TS:=λD σ H=>te σ H λ_ H1=>D.nx σ H1
def x4(he:PE X e te)(hs:swapsWith e none pos.line X.env=pure false:=by rfl):PS X (.Expr e pos) (YR te):=by intro aS s σ H D I h;exact wpAny_Expr_any (B0 (he aS s σ H _ I h) λv s1 ⟨x,H1,I1,r1,q1⟩=>⟨σ,H1,I1,q1⟩) I.quiet hs
def YJ(te:TE):TS:=λD σ H=>te σ H D.rt
def c6(he:PE X e te):PS X (.Return (some e) pos) (YJ te):=by intro aS s σ H D I h;exact wpAny_Return_some (B0 (he aS s σ H _ I h) λv s1 ⟨x,H1,I1,r1,q1⟩=>⟨x,σ,H1,I1,r1,q1⟩)
def tIfS(c:TT)(t u:TS):TS:=λD σ H=>c σ H λb H1=>if b=true then t D σ H1 else u D σ H1
def j7{c:Expr}{a b:List Stmt}{tc:TT}(hc:PT X c tc)(ha:Kt X a t)(hb:Kt X b u):PS X (.If c a b pos) (tIfS tc t u):=by
 intro aS s σ H D I h;show wpAny_If<|B0 (hc aS s σ H _ I h) λd s1 ⟨H1,I1,q1⟩=>?_;cases d with
 | true=>exact ha aS s1 σ H1 D I1 q1
 | false=>exact hb aS s1 σ H1 D I1 q1
def tNever:TS:=λ_ _ _=>False
def Bd:PS X st tNever:=λ_ _ _ _ _ _ h=>h.elim
def Et{uw:List Stmt}:Kt X uw tNever:=λ_ _ _ _ _ _ h=>h.elim
end
abbrev TG:=V->St->Hp->(St->Hp->Prop)->Prop
abbrev Yg:=List V->St->Hp->(St->Hp->Prop)->Prop
def PG(X:Cx)(bY:Expr)(t:TG):Prop:=
 ∀(aS:w1e) (s:Shared) (σ:St) (H:Hp) (v:V) (u:Value) (Q:St->Hp->Prop),j5 X aS σ H s->w8 v u->t v σ H Q->
  wpAny (model X.prog X.w) X.A (assign bY X.env u) (λ_ s'=>∃σ' H',j5 X aS σ' H' s'/\Q σ' H') X.xe s
def n0d(X:Cx)(ts:List Expr)(t:Yg):Prop:=
 ∀(aS:w1e) (s:Shared) (σ:St) (H:Hp) (vs:List V) (us:w1j) (Q:St->Hp->Prop),j5 X aS σ H s->m9 vs us->t vs σ H Q->
  wpAny (model X.prog X.w) X.A (assignInOrder ((assignEach ts X.env).map (·.2)) us) (λ_ s'=>∃σ' H',j5 X aS σ' H' s'/\Q σ' H') X.xe s
abbrev Ye:=V->V->V->Hp->(Hp->Prop)->Prop
def n0b(X:Cx)(t:Ye):Prop:=
 ∀(aS:w1e) (s:Shared) (σ:St) (H:Hp) (o i v:V) (ov iv u:Value) (Q:Hp->Prop),j5 X aS σ H s->w8 o ov->w8 i iv->w8 v u->t o i v H Q->
  wpAny (model X.prog X.w) X.A (setItem ov iv u) (λ_ s'=>∃H',j5 X aS σ H' s'/\Q H') X.xe s
section
variable{X:Cx}{pos:Pos}
def W3(i:Nat):TG:=λv σ H Q=>Q (σ.set i<|some v) H
def w5{i:Nat}{x:Str}(hN:X.N.Nodup)(hi:X.N[i]? = some x)(hx:Va X.env.scope x)(hf:X.fn x=true\/X.env.scope.names.lookup x=some .local:=by first | exact .inl rfl | exact .inr rfl | assumption):PG X (.Name x pos) (W3 i):=by intro aS s σ H v u Q I r h;exact wpAny_assign_Name (X9 I hN hi hx r (λs' I'=>⟨_,H,I',h⟩) hf)
def gNil:Yg:=λvs σ H Q=>vs=[]/\Q σ H
def m0r(t:TG)(u:Yg):Yg:=λvs σ H Q=>∃v r,vs=v::r/\t v σ H λσ' H'=>u r σ' H' Q
def S6:n0d X [] gNil:=by intro aS s σ H vs us Q I r h;obtain⟨e,h⟩:=h;subst e;cases r;exact assignInOrder_nil ⟨σ,H,I,h⟩
def z8{e:Expr}{es:List Expr}{t:TG}{u:Yg}(h1:PG X e t)(h2:n0d X es u)
    (hs:(assignEach (e::es) X.env).map (·.2)=assign e X.env::(assignEach es X.env).map (·.2):=by rfl):n0d X (e::es) (m0r t u):=by
 intro aS s σ H vs us Q I r h;obtain⟨v,vr,e1,h⟩:=h;subst e1;cases r with
 | cons r rr=>
  rw[hs];show assignInOrder_cons<|B0 (h1 aS s σ H _ _ _ I r h) λ_ s1 ⟨σ1,H1,I1,q1⟩=>?_;exact h2 aS s1 σ1 H1 _ _ Q I1 rr q1
def Qz(K:aa)(n:Nat)(t:Yg):TG:=λv σ H Q=>∃a xs,v=.ref a/\j3 K H a xs/\xs.length=n/\t xs σ H Q
def An{es:List Expr}{k:Nat}{t:Yg}{n:Nat}(hc:X.calm=true)(h:n0d X es t)
    (hn:(assignEach es X.env).length=n:=by rfl) (fK:(assignEach es X.env).findIdx? (·.1)=none:=by rfl):PG X (.Tuple es k pos) (Qz X.K n t):=by
 intro aS s σ H v u Q I r hw;obtain⟨a,xs,e1,hq,hl,hw⟩:=hw;subst e1;cases r;obtain⟨dw,rv,ht,hz⟩:=I.tuple hq;show assign_Tuple_tuple (I.ok.hd hc) ht (by simp[hn,<- hl,rv.length]) fK λh' hx=>?_;have I1:j5 X aS σ H { s with heap:=h' }:=I.kept (t':=s.toks) λb o e=>hx b o (ai<|af e) e;exact h aS _ σ H xs _ Q I1 (by simpa using rv) hw
def gSub(to ti:TE)(t:Ye):TG:=λv σ H Q=>to σ H λo H1=>ti σ H1 λi H2=>t o i v H2 λH3=>Q σ H3
def RR{o i:Expr}{to ti:TE}{t:Ye}(ho:PE X o to)(hi:PE X i ti)(hs:n0b X t)
    (ha:∀v,assign (.Subscript o i pos) X.env v=(do
     let ov <- holding [v] (eval o X.env)
     let iv <- holding [v,ov] (eval i X.env)
     standAt pos
     holding [v,ov,iv] (setItem ov iv v)
     release [v,ov,iv] []):=by intro _;rfl):PG X (.Subscript o i pos) (gSub to ti t):=by
 intro aS s σ H v u Q I r h;rw[ha];show wpAny_bind<|wpAny_holding<|B0 (ho aS s σ H _ I h) λov s1 ⟨x,H1,I1,r1,q1⟩=>?_;show wpAny_bind<|wpAny_holding<|B0 (hi aS s1 σ H1 _ I1 q1) λiv s2 ⟨y,H2,I2,r2,q2⟩=>?_;show wpAny_bind<|wpAny_standAt<|wpAny_bind<|wpAny_holding<|B0 (hs aS s2 σ H2 x y v ov iv u _ I2 r1 r2 r q2) λ_ s3 ⟨H3,I3,q3⟩=>?_;exact wpAny_release ⟨σ,H3,I3,q3⟩
def MC(te:TE)(g:TG):TS:=λD σ H=>te σ H λx H1=>g x σ H1 D.nx
def MT{tg e:Expr}{te:TE}{g:TG}(he:PE X e te)(hg:PG X tg g)(hs:swapsWithSole [tg] e pos.line X.env=pure false:=by rfl)(hw:swappedStores [tg] e X.env=pure none:=by rfl)
    (h1:(assignEach [tg] X.env).map (·.2)=[assign tg X.env]:=by rfl):PS X (.Assign [tg] e pos) (MC te g):=by
 intro aS s σ H D I h;show wpAny_Assign_stores (B0 (he aS s σ H _ I h) λv s1 ⟨x,H1,I1,r1,q1⟩=>?_) hs hw;rw[h1];exact B0 (hg aS s1 σ H1 x v _ I1 r1 q1) λ_ s2 q=>q
def CN{i:Nat}{x:Str}{e:Expr}{te:TE}{dP:Pos}(hN:X.N.Nodup)(hi:X.N[i]? = some x)(hx:Va X.env.scope x)(he:PE X e te)(hs:swapsWith e (some<|.Name x dP) pos.line X.env=pure false:=by rfl)(hf:X.fn x=true\/X.env.scope.names.lookup x=some .local:=by first | exact .inl rfl | exact .inr rfl | assumption) :
    PS X (.Assign [.Name x dP] e pos) (MC te<|W3 i):=by
 intro aS s σ H D I h;show wpAny_Assign_Name (B0 (he aS s σ H _ I h) λv s1 ⟨y,H1,I1,r1,q1⟩=>?_) hs;exact X9 I1 hN hi hx r1 (λs2 I2=>⟨_,H1,I2,q1⟩) hf
def tPar(i j:Nat)(ta:TA):TS:=λD σ H=>ta σ H λvs H1=>∃v w,vs=[v,w]/\D.nx ((σ.set i<|some v).set j<|some w) H1
def WM{i j:Nat}{x y:Str}{a b:Expr}{ta:TA}{px py pt:Pos}{kt k2 pt2}(hc:X.calm=true)(hN:X.N.Nodup)(hi:X.N[i]? = some x)(hj:X.N[j]? = some y)(wU:i≠j)
    (hx:X.env.scope.names.lookup x=some .local) (hy:X.env.scope.names.lookup y=some .local) (ha:PA X [a,b] ta)
    (hw:swappedStores [.Tuple [.Name x px,.Name y py] kt pt] (.Tuple [a,b] k2 pt2) X.env=pure (some [x,y]))
    (hs:swapsWithSole [.Tuple [.Name x px,.Name y py] kt pt] (.Tuple [a,b] k2 pt2) pos.line X.env=pure false:=by rfl) :
    PS X (.Assign [.Tuple [.Name x px,.Name y py] kt pt] (.Tuple [a,b] k2 pt2) pos) (tPar i j ta):=by
 intro aS s σ H D I h;rw[exec_Assign_arm];show wpAny_bind<|wpAny_standAt ?_;rw[hs];show wpAny_bind<|wpAny_pure ?_;rw[if_neg bD];show wpAny_bind<|Tuple_<|B0 (ha _ aS s σ H _ I h) λus s1 ⟨vs,H1,I1,r1,q1⟩=>?_;obtain⟨v,w,e1,q1⟩:=q1;subst e1;obtain⟨u1,u2,rfl,rv,fF⟩:∃u1 u2,us=[u1,u2]/\w8 v u1/\w8 w u2:=by
  cases r1 with
  | cons p q=>
   cases q with
   | cons p' q'=>
    cases q';exact zc ⟨Y,p,p'⟩
 show wpAny_newObj_type ?_ sL;have I2:j5 X aS σ H1 { s1 with heap:=s1.heap.push { cls:=.type "tuple",data:=.seq [u1,u2].toArray } }:=I1.kept (t':=s1.toks) λb o e=>ag _ e;rw[hw];show wpAny_bind<|wpAny_pure ?_;show wpAny (model X.prog X.w) X.A (do rule "assign.swapped-stores";let items <- unpackItems (.ref s1.heap.objs.size) 2 none;assignInOrder [λv=>bindName X.env y v,λv=>bindName X.env x v] items.reverse;pure Flow.next) _ _ _;show wpAny_bind<|wpAny_rule<|wpAny_bind<|unpackItems_tuple (items:=#[u1,u2]) (I.ok.hd hc) (IsTup.new s1.heap _) λh' ny=>?_;have I3:=I2.kept (h':=h') (t':=s1.toks) λb o e=>ny b o (ai<|af e) e;show wpAny _ _ (assignInOrder [λv=>bindName X.env y v,λv=>bindName X.env x v] [u2,u1] >>= λ_=>pure Flow.next) _ _ _;show wpAny_bind<|assignInOrder_cons<|wpAny_bindName<|X9 I3 hN hj (.inl hy) fF (λs2 I4=>?_)<|.inr hy;show assignInOrder_cons<|wpAny_bindName<|X9 I4 hN hi (.inl hx) rv (λs3 I5=>assignInOrder_nil<|wpAny_pure ?_)<|.inr hx;rw[List.set_comm _ _<|Ne.symm wU]at I5;exact⟨_,H1,I5,q1⟩
end
section
variable{X:Cx}{pos:Pos}
def VH(c:TT)(tb:TS):TS:=λD σ H=>∃W:Nat->St->Hp->Prop,(∃m,W m σ H)/\∀m σ H,W m σ H->
 c σ H λb H1=>if b=true then ∃N:St->Hp->Prop,(∀σ' H',N σ' H'->∃m',m' < m/\W m' σ' H')/\tb { D with nx:=N,ct:=N,bk:=D.nx } σ H1 else D.nx σ H1
def Gj{c:Expr}{body:List Stmt}{tc:TT}{tb:TS}(hp:PassesOwn (model X.prog X.w) X.A X.env X.xe)(hc:PT X c tc)(hb:Kt X body tb):PS X (.While c body [] pos) (VH tc tb):=by
 intro aS s σ H D I h;obtain⟨W,⟨m0,w0⟩,ej⟩:=h;show wpAny_While<|codeAny_whileLoop (λn s'=>∃σ' H',j5 X aS σ' H' s'/\W n σ' H') ?_ m0 ⟨σ,H,I,w0⟩;rintro n s1 ⟨σ1,H1,I1,w1⟩;show wpAny_passesOwn hp<|B0 (hc aS s1 σ1 H1 _ I1<|ej n σ1 H1 w1) λb s2 ⟨H2,I2,q2⟩=>?_;cases b with
 | true=>
  obtain⟨N,hN,q2⟩:=q2;rw[if_pos rfl];show wpAny_passesOwn hp<|B0 (hb aS s2 σ1 H2 _ I2 q2) λf s3 q3=>?_;cases f with
  | next=>
   obtain⟨σ3,H3,I3,n3⟩:=q3;obtain⟨m',hm,w3⟩:=hN σ3 H3 n3;exact⟨m',hm,σ3,H3,I3,w3⟩
  | cont=>
   obtain⟨σ3,H3,I3,n3⟩:=q3;obtain⟨m',hm,w3⟩:=hN σ3 H3 n3;exact⟨m',hm,σ3,H3,I3,w3⟩
  | brk=>exact q3
  | ret v=>exact q3
 | false=>
  rw[if_neg ax];exact wpAny_execs_nil ⟨σ1,H2,I2,q2⟩
end
structure It where
 go:Nat->Hp->Prop
 yld:Nat->Hp->V->Hp->Prop
 stop:Nat->Hp->Prop
def R3(X:Cx)(aS:w1e)(H:Hp)(b:Addr):Prop:=
 H b=none/\b≠X.env.locals/\b ∉ X.fs/\(b∈X.ex\/X.s₀.heap.objs.size<=b)/\(∀x c,X.env.cells.lookup x=some c->c≠b)/\∀p∈X.pn++aS,p.1≠b
def j5.fpOk{X:Cx}{aS:w1e}{σ:St}{H H':Hp}{s:Shared}{b:Addr}(I:j5 X aS σ H s)(hb:s.heap.objs.size<=b)(hn:H' b=none):R3 X aS H' b:=by
 show⟨hn,bO<|ao I.lt hb,I.nofs hb,.inr<|ah I.sz hb,λx c e z=>?_,λp hp z=>?_⟩
 . obtain⟨v,q⟩:=I.cell x c e;exact absurd (ao q.lt<|by rw[z];exact hb) (aZ _)
 . exact absurd (ao (af (I.pin p hp).1)<|by rw[z];exact hb) (aZ _)
structure Ij(P:Program)(w:World)(K:aa)(tg:Expr)(J:It)(fp:List Addr)(it:Addr)(tn:Nat->Heap->Prop):Prop where
 mem:it∈fp
 obj:∀i h,tn i h->∀b∈fp,∃o,h.get? b=some o/\∀v,o.data≠.cell v
 keep:∀i h h',tn i h->(∀b∈fp,∀o,h.get? b=some o->h'.get? b=some o)->tn i h'
 item:∀(X:Cx),X.prog=P->X.w=w->X.K=K->X.calm=true->∀(i:Nat) (aS:w1e) (s:Shared) (σ:St) (H:Hp) (E:w1f),j5 X aS σ H s->(∀b∈fp,R3 X aS H b)->tn i s.heap->J.go i H->
  wpAny (model P w) X.A (pyNext<|.ref it) (λr s1=>∃u,r=some u/\
   wpAny (model P w) X.A (letOwnedTupleGo tg (.ref it) u) (λ_ s2=>∃x H',j5 X aS σ H' s2/\w8 x u/\J.yld i H x H'/\tn (i+1) s2.heap/\∀b∈fp,H' b=none) E s1) E s
 done:∀(X:Cx),X.prog=P->X.w=w->X.K=K->X.calm=true->∀(i:Nat) (aS:w1e) (s:Shared) (σ:St) (H:Hp) (E:w1f),j5 X aS σ H s->(∀b∈fp,R3 X aS H b)->tn i s.heap->J.stop i H->
  wpAny (model P w) X.A (pyNext<|.ref it) (λr s1=>r=none/\j5 X aS σ H s1) E s
 self:∀(A:Around) (i:Nat) (s:Shared) (Q:w1f) (E:w1f),tn i s.heap->Q (.ref it) s->wpAny (model P w) A (pyIter<|.ref it) Q E s
abbrev TI:=St->Hp->(It->Hp->Prop)->Prop
def PIE(X:Cx)(aS:w1e)(σ:St)(tg:Expr)(R:It->Hp->Prop)(jJ:Value)(s2:Shared):Prop:=
 ∃(it:Addr) (fp:List Addr) (tn:Nat->Heap->Prop) (J:It) (H':Hp),jJ=.ref it/\j5 X aS σ H' s2/\Ij X.prog X.w X.K tg J fp it tn/\tn 0 s2.heap/\(∀b∈fp,R3 X aS H' b)/\R J H'
def PI(X:Cx)(tg iter:Expr)(wi:TI):Prop:=
 ∀(aS:w1e) (s:Shared) (σ:St) (H:Hp) (R:It->Hp->Prop),j5 X aS σ H s->wi σ H R->
  wpAny (model X.prog X.w) X.A (eval iter X.env) (λv s1=>wpAny (model X.prog X.w) X.A (pyIter v) (PIE X aS σ tg R) X.xe s1) X.xe s
def LP{M:Model}{A:Around}{E:w1f}{s:Shared}{tg:Expr}{it:Addr}{u:Value}{o:Obj}{n:String}{vs:Array Value}{Q:Unit->Shared->Prop}(ho:s.heap.get? it=some o)(hc:o.cls=.type n)(hd:o.data=.fields vs)
    (hn:["enumerate","zip","dict_itemiterator","dict_reverseitemiterator","odict_iterator","itertools.zip_longest","itertools.pairwise"].contains n=false) (hQ:Q () s):wpAny M A (letOwnedTupleGo tg (.ref it) u) Q E s:=by
 unfold letOwnedTupleGo;cases tg <;>first
  | exact wpAny_pure hQ
  | (cases u <;>first
      | exact wpAny_pure hQ
      | (show wpAny_bind (wpAny_load ho ?_)
         rw[hc,hd];show wpAny M A (if(["enumerate","zip","dict_itemiterator","dict_reverseitemiterator","odict_iterator","itertools.zip_longest","itertools.pairwise"].contains n && vs[0]? == some (rawInt _))=true then _ else _) Q E s;rw[if_neg<|by intro h;rw[hn,Bool.false_and]at h;cases h];exact wpAny_pure hQ))
def Yj(K:aa)(a:Addr):It:=
 ⟨λi H=>∃xs x,y7 K H a xs/\xs[i]? = some x,λi H x H'=>H'=H/\∀xs,y7 K H a xs->xs[i]? = some x,λi H=>∃xs,y7 K H a xs/\xs.length<=i⟩
def Itt(K:aa)(a:Addr):It:=
 ⟨λi H=>∃xs x,j3 K H a xs/\xs[i]? = some x,λi H x H'=>H'=H/\∀xs,j3 K H a xs->xs[i]? = some x,λi H=>∃xs,j3 K H a xs/\xs.length<=i⟩
def Vb(lo:Int)(n:Nat):It:=⟨λi _=>i < n,λi H x H'=>H'=H/\x=.int (lo+i),λi _=>n<=i⟩
def OU{P:Program}{w:World}{K:aa}{tg:Expr}(a it:Addr):Ij P w K tg (Yj K a) [it] it (λi h=>h.IsListIter it a i)where
 mem:=by simp
 obj:=λi h st b hb=>by
  have e:b=it:=by simpa using hb
  subst e;obtain⟨o,e,c,d⟩:=st;exact⟨o,e,λv z=>by rw[d]at z;cases z⟩
 keep:=λi h h' st k=>st.at λo e=>k it (by simp) o e
 item:=by
  intro X hP hw hK hc i aS s σ H E I hf st hg;subst hP hw hK;obtain⟨xs,x,hq,hx⟩:=hg;obtain⟨dw,rv,p,hz⟩:=I.list hq;obtain⟨u,hu,ru⟩:=rv.get hx;obtain⟨f0,f1,f2,f3,f4,f5⟩:=hf it (by simp);show wpAny_pyNext_list_item st p.isList (x:=u) (by simpa using hu) λh' fh sb=>?_;have I1:j5 X aS σ H { s with heap:=h' }:=I.turned (t':=s.toks) (λb o hb e=>(sb.2 b hb).trans e) f0 f1 f3 f4 f5;obtain⟨o,e,c,d⟩:=id fh;exact⟨u,Y,LP (s:={ s with heap:=h' }) e c d bD ⟨x,H,I1,ru,⟨Y,λys hy=>by rw[I.list_inj hy hq];exact hx⟩,fh,λb hb=>(hf b hb).1⟩⟩
 done:=by intro X hP hw hK hc i aS s σ H E I hf st hg;subst hP hw hK;obtain⟨xs,hq,hx⟩:=hg;obtain⟨dw,rv,p,hz⟩:=I.list hq;obtain⟨f0,f1,f2,f3,f4,f5⟩:=hf it (by simp);have hl:=rv.length;exact wpAny_pyNext_list_end (I.ok.hd hc) st p.isList (by simp;omega) λh' eb=>⟨Y,I.turned (t':=s.toks) (λb o hb e=>eb b o hb e) f0 f1 f3 f4 f5⟩
 self:=λ_ _ _ _ _ st h=>wpAny_pyIter_listiter st h
def My{P:Program}{w:World}{K:aa}{tg:Expr}(a it:Addr):Ij P w K tg (Itt K a) [it] it (λi h=>h.IsTupleIter it a i)where
 mem:=by simp
 obj:=λi h st b hb=>by
  have e:b=it:=by simpa using hb
  subst e;obtain⟨o,e,c,d⟩:=st;exact⟨o,e,λv z=>by rw[d]at z;cases z⟩
 keep:=λi h h' st k=>st.at λo e=>k it (by simp) o e
 item:=by
  intro X hP hw hK hc i aS s σ H E I hf st hg;subst hP hw hK;obtain⟨xs,x,hq,hx⟩:=hg;obtain⟨dw,rv,p,hz⟩:=I.tuple hq;obtain⟨u,hu,ru⟩:=rv.get hx;obtain⟨f0,f1,f2,f3,f4,f5⟩:=hf it (by simp);show wpAny_pyNext_tuple_item st (show s.heap.IsTuple a dw.toArray from p) (x:=u) (by simpa using hu) λh' fh sb=>?_;have I1:j5 X aS σ H { s with heap:=h' }:=I.turned (t':=s.toks) (λb o hb e=>(sb.2 b hb).trans e) f0 f1 f3 f4 f5;obtain⟨o,e,c,d⟩:=id fh;exact⟨u,Y,LP (s:={ s with heap:=h' }) e c d bD ⟨x,H,I1,ru,⟨Y,λys hy=>by rw[I.tuple_inj hy hq];exact hx⟩,fh,λb hb=>(hf b hb).1⟩⟩
 done:=by intro X hP hw hK hc i aS s σ H E I hf st hg;subst hP hw hK;obtain⟨xs,hq,hx⟩:=hg;obtain⟨dw,rv,p,hz⟩:=I.tuple hq;obtain⟨f0,f1,f2,f3,f4,f5⟩:=hf it (by simp);have hl:=rv.length;exact wpAny_pyNext_tuple_end (I.ok.hd hc) st (show s.heap.IsTuple a dw.toArray from p) (by simp;omega) λh' eb=>⟨Y,I.turned (t':=s.toks) (λb o hb e=>eb b o hb e) f0 f1 f3 f4 f5⟩
 self:=λ_ _ _ _ _ st h=>wpAny_pyIter_tupleiter st h
def Mz{P:Program}{w:World}{K:aa}{tg:Expr}(it:Addr)(lo:Int)(n:Nat):Ij P w K tg (Vb lo n) [it] it (λi h=>IsRangeIter h it (lo+(i:Nat) * 1) ((n:Int) - (i:Nat)) 1)where
 mem:=by simp
 obj:=λi h st b hb=>by
  have e:b=it:=by simpa using hb
  subst e;exact⟨_,st,λv z=>by
   have z':Data.fields _=Data.cell v:=z;cases z'⟩
 keep:=λi h h' st k=>k it (by simp) _ st
 item:=by
  intro X hP hw hK hc i aS s σ H E I hf st hg;subst hP hw hK;obtain⟨f0,f1,f2,f3,f4,f5⟩:=hf it (by simp);have W:=Walks.range (prog:=X.prog) (w:=X.w) (I.ok.hd hc) it lo 1 n;show W.item i s _ _ hg st λv h' tk hv fh kk=>?_;obtain⟨t,rfl⟩:=hv;have I1:j5 X aS σ H { s with heap:=h',toks:=tk }:=I.turned (λb o hb e=>kk b o (by simpa using hb) e) f0 f1 f3 f4 f5;show⟨_,Y,LP (s:={ s with heap:=h',toks:=tk }) (n:="range_iterator") fh Y Y bD ⟨.int<|lo+i,H,I1,⟨t,?_⟩,⟨Y,Y⟩,fh,λb hb=>(hf b hb).1⟩⟩;rw[Int.mul_one]
 done:=by intro X hP hw hK hc i aS s σ H E I hf st hg;subst hP hw hK;obtain⟨f0,f1,f2,f3,f4,f5⟩:=hf it (by simp);exact wpAny_pyNext_range_end (I.ok.hd hc) st (by have:n<=i:=hg;omega) λh' eb=>⟨Y,I.turned (t':=s.toks) (λb o hb e=>eb b o hb e) f0 f1 f3 f4 f5⟩
 self:=λ_ _ _ _ _ st h=>wpAny_pyIter_rangeiter st h
section
variable{X:Cx}{tg:Expr}
def m0n(K:aa)(tl:TE):TI:=λσ H R=>tl σ H λx H1=>∃a,x=.ref a/\(∃xs,y7 K H1 a xs)/\R (Yj K a) H1
def iTup(K:aa)(tl:TE):TI:=λσ H R=>tl σ H λx H1=>∃a,x=.ref a/\(∃xs,j3 K H1 a xs)/\R (Itt K a) H1
def BG{l:Expr}{tl:TE}(hl:PE X l tl):PI X tg l (m0n X.K tl):=by
 intro aS s σ H R I h;show B0 (hl aS s σ H _ I h) λv s1 ⟨x,H1,I1,r1,q1⟩=>?_;obtain⟨a,e,⟨xs,hq⟩,q⟩:=q1;subst e;cases r1;obtain⟨dw,rv,p,hz⟩:=I1.list hq;show wpAny_pyIter_list p.isList ?_;show⟨s1.heap.objs.size,[s1.heap.objs.size],zc ⟨H1,Y,I1.kept (t':=s1.toks) λb o e=>ag _ e,OU a _,⟨_,ak _ Y,Y,Y⟩,λb hb=>?_,q⟩⟩;have e:b=s1.heap.objs.size:=by simpa using hb
 subst e;exact I1.fpOk (ae _) (I1.hok.fresh<|ae _)
def E9{l:Expr}{tl:TE}(hl:PE X l tl):PI X tg l (iTup X.K tl):=by
 intro aS s σ H R I h;show B0 (hl aS s σ H _ I h) λv s1 ⟨x,H1,I1,r1,q1⟩=>?_;obtain⟨a,e,⟨xs,hq⟩,q⟩:=q1;subst e;cases r1;obtain⟨dw,rv,p,hz⟩:=I1.tuple hq;show wpAny_pyIter_tuple (show s1.heap.IsTuple a dw.toArray from p) ?_;show⟨s1.heap.objs.size,[s1.heap.objs.size],zc ⟨H1,Y,I1.kept (t':=s1.toks) λb o e=>ag _ e,My a _,⟨_,ak _ Y,Y,Y⟩,λb hb=>?_,q⟩⟩;have e:b=s1.heap.objs.size:=by simpa using hb
 subst e;exact I1.fpOk (ae _) (I1.hok.fresh<|ae _)
def Lh{aS:w1e}{σ:St}{H:Hp}{s:Shared}{R:It->Hp->Prop}{E:w1f}{lo hi:Int}{t u v:Tok}{tk:Nat}(I:j5 X aS σ H s)(h1:-(2 ^ 62)<=lo)(h2:lo < 2 ^ 62)(h3:-(2 ^ 62)<=hi)(h4:hi < 2 ^ 62)
    (q:R (Vb lo (hi - lo).toNat) H):wpAny (model X.prog X.w) X.A (pyIter<|.ref s.heap.objs.size) (PIE X aS σ tg R) E { s with heap:=s.heap.push { cls:=.type "range",data:=.fields #[.int lo t,.int hi u,.int 1 v] },toks:=tk }:=by
 show wpAny_pyIter_range (IsRange.new ..) (small_one h1 h2 h3 h4) ?_;have I1:j5 X aS σ H { s with heap:=s.heap.push { cls:=.type "range",data:=.fields #[.int lo t,.int hi u,.int 1 v] },toks:=tk }:=I.kept λb o e=>ag _ e;show⟨(s.heap.push { cls:=.type "range",data:=.fields #[.int lo t,.int hi u,.int 1 v] }).objs.size,[(s.heap.push { cls:=.type "range",data:=.fields #[.int lo t,.int hi u,.int 1 v] }).objs.size],zc ⟨H,Y,
  I1.kept (t':=tk) λb o e=>ag _ e,Mz _ lo (hi - lo).toNat,?_,λb hb=>?_,q⟩⟩
 . have e1:lo+((0:Nat):Int) * 1=lo:=by simp
   have e2:(((hi - lo).toNat:Nat):Int) - ((0:Nat):Int)=Builtin.Range.rangeSize lo hi 1:=by rw[rangeSize_one];split <;>omega
   show IsRangeIter _ _ (lo+((0:Nat):Int) * 1) ((((hi - lo).toNat:Nat):Int) - ((0:Nat):Int)) 1;rw[e1,e2];exact ak _ rfl
 . have e:b=(s.heap.push { cls:=.type "range",data:=.fields #[.int lo t,.int hi u,.int 1 v] }).objs.size:=by simpa using hb
   subst e;exact I1.fpOk (ae _) (I1.hok.fresh<|ae _)
def m0m(ta:TA):TI:=λσ H R=>ta σ H λvs H1=>∃j:Int,vs=[.int j]/\-(2 ^ 62)<=j/\j < 2 ^ 62/\R (Vb 0 j.toNat) H1
def m0l(ta:TA):TI:=λσ H R=>ta σ H λvs H1=>∃i j:Int,vs=[.int i,.int j]/\(-(2 ^ 62)<=i/\i < 2 ^ 62/\-(2 ^ 62)<=j/\j < 2 ^ 62)/\R (Vb i (j - i).toNat) H1
def G8{a:Expr}{ta:TA}{p pos:Pos}(hg:Gl X "range")(hm:X.mg "range"=none)(ha:PA X [a] ta)(hs:starEach [a] X.env=[(false,eval a X.env)]:=by rfl):PI X tg (.Call (.Name "range" p) [a] [] pos) (m0m ta):=by
 intro aS s σ H R I h;show Call_<|X1 I hg hm boot_range<|bP (B0 (ha pos aS s σ H _ I h) λus s1 ⟨vs,H1,I1,r1,q1⟩=>?_) hs Y;obtain⟨j,e,q1,q2,q⟩:=q1;subst e;cases r1 with
 | cons r rr=>
  cases rr;obtain⟨t,rfl⟩:=r;exact call_range_1 (Lh I1 Z Z q1 q2<|by simpa using q)
def PD{a b:Expr}{ta:TA}{p pos:Pos}(hg:Gl X "range")(hm:X.mg "range"=none)(ha:PA X [a,b] ta)(hs:starEach [a,b] X.env=[(false,eval a X.env),(false,eval b X.env)]:=by rfl)(iq:starEach [b] X.env=[(false,eval b X.env)]:=by rfl) :
    PI X tg (.Call (.Name "range" p) [a,b] [] pos) (m0l ta):=by
 intro aS s σ H R I h;show Call_ (X1 I hg hm boot_range<|bP (B0 (ha pos aS s σ H _ I h) λus s1 ⟨vs,H1,I1,r1,q1⟩=>?_) (by rw[hs,iq])<|by rw[iq];rfl);obtain⟨i,j,e,⟨q1,q2,q3,q4⟩,q⟩:=q1;subst e;cases r1 with
 | cons r rr=>
  cases rr with
  | cons r' rr=>
   cases rr;obtain⟨t,rfl⟩:=r;obtain⟨t',rfl⟩:=r';exact call_range_2 (Lh I1 q1 q2 q3 q4 q)
def tFor(wi:TI)(g:TG)(tb:TS):TS:=λD σ H=>wi σ H λJ H1=>∃W:Nat->Nat->St->Hp->Prop,(∃m,W 0 m σ H1)/\∀i m σ H,W i m σ H->
 (J.stop i H/\D.nx σ H)\/(J.go i H/\∃N:St->Hp->Prop,(∀σ' H',N σ' H'->∃m',m' < m/\W (i+1) m' σ' H')/\∀x H',J.yld i H x H'->g x σ H' λσ2 H2=>tb { D with nx:=N,ct:=N,bk:=D.nx } σ2 H2)
def Gk(fp:List Addr)(h:Heap):w1e:=fp.filterMap λb=>(h.get? b).map λo=>(b,o)
def P1{fp:List Addr}{h:Heap}{b:Addr}{o:Obj}(hb:b∈fp)(e:h.get? b=some o):(b,o)∈Gk fp h:=List.mem_filterMap.mpr ⟨b,hb,by rw[e];rfl⟩
def PR{fp:List Addr}{h:Heap}{p:Addr × Obj}(hp:p∈Gk fp h):p.1∈fp/\h.get? p.1=some p.2:=by
 obtain⟨b,hb,e⟩:=List.mem_filterMap.mp hp;cases q:h.get? b with
 | none=>rw[q]at e;cases e
 | some o=>
  rw[q]at e;have e':(b,o)=p:=Option.some.inj e;subst e';exact⟨hb,q⟩
def j5.pinned{aS:w1e}{σ:St}{H:Hp}{s:Shared}{fp:List Addr}(I:j5 X aS σ H s)(hf:∀b∈fp,R3 X aS H b)(ho:∀b∈fp,∃o,s.heap.get? b=some o/\∀v,o.data≠.cell v):j5 X (aS++Gk fp s.heap) σ H s:=
 I.pins_of λp hp=>(aJ.mp hp).elim (λz=>I.pin p<|aA _ z) λz=>by
  obtain⟨hb,e⟩:=PR z;obtain⟨f0,f1,f2,_⟩:=hf p.1 hb;obtain⟨o,e',d⟩:=ho p.1 hb;rw[e]at e';cases e';exact⟨e,f0,f1,f2,d⟩
def j5.unpinned{aS pl:w1e}{σ:St}{H:Hp}{s:Shared}(I:j5 X (aS++pl) σ H s):j5 X aS σ H s:=I.pins_of λp hp=>I.pin p (aA _<|bH _ hp)
def E8{iter:Expr}{body:List Stmt}{wi:TI}{g:TG}{tb:TS}{pos:Pos}(hp:PassesOwn (model X.prog X.w) X.A X.env X.xe)(hc:X.calm=true)(hi:PI X tg iter wi)(hg:PG X tg g)(hb:Kt X body tb)
    (hs:∀x,foldedSetIterable iter X.env x=pure x:=by intro _;rfl):PS X (.For tg iter body [] pos) (tFor wi g tb):=by
 intro aS s σ H D I h;show wpAny_For (B0 (hi aS s σ H _ I h) λv s1 h1=>B0 h1 λjJ s2 h2=>?_) hs;obtain⟨it,fp,tn,J,H2,e,I2,T,dy,f2,W,⟨m0,w0⟩,ej⟩:=h2;subst e;have eJ:∀{H':Hp},(∀b∈fp,H' b=none)->∀b∈fp,R3 X aS H' b:=λhn b hb=>⟨hn b hb,(f2 b hb).2⟩;show codeAny_forLoop_any (λn s'=>∃i σ' H',j5 X aS σ' H' s'/\tn i s'.heap/\(∀b∈fp,H' b=none)/\W i n σ' H') ?_ m0 ⟨0,σ,H2,I2,dy,λb hb=>(f2 b hb).1,w0⟩;rintro n s3 ⟨i,σ3,H3,I3,pA,qe,w3⟩;rcases ej i n σ3 H3 w3 with ⟨stop,qn⟩ | ⟨go,N,hN,step⟩
 . show wpAny_passesOwn hp<|B0 (T.done X Y Y Y hc i aS s3 σ3 H3 X.xe I3 (eJ qe) pA stop) λr s4 ⟨hr,I4⟩=>?_;subst hr;exact wpAny_execs_nil ⟨σ3,H3,I4,qn⟩
 . show wpAny_passesOwn hp<|B0 (T.item X Y Y Y hc i aS s3 σ3 H3 X.xe I3 (eJ qe) pA go) λr s4 ⟨u,hr,h4⟩=>?_;subst hr;show wpAny_passesOwn hp<|B0 h4 λ_ s5 ⟨x,H5,I5,r5,y5,fU,fr5⟩=>?_;have kN:=I5.pinned (eJ fr5)<|T.obj _ _ fU;show wpAny_passesOwn hp<|B0 (hg _ s5 σ3 H5 x u _ kN r5<|step x H5 y5) λ_ s6 ⟨σ6,H6,I6,q6⟩=>?_;show wpAny_passesOwn hp<|B0 (hb _ s6 σ6 H6 _ I6 q6) λf s7 q7=>?_;have again:∀{σ7:St} {H7:Hp},j5 X (aS++Gk fp s5.heap) σ7 H7 s7->N σ7 H7->∃m,m < n/\∃i σ' H',j5 X aS σ' H' s7/\tn i s7.heap/\(∀b∈fp,H' b=none)/\W i m σ' H':=λ{σ7 H7} I7 n7=>by
    obtain⟨m',hm,w7⟩:=hN σ7 H7 n7;show⟨m',hm,i+1,σ7,H7,I7.unpinned,T.keep _ _ _ fU λb hb o e=>(I7.pin (b,o)<|aA _<|aA _<|P1 hb e).1,λb hb=>?_,w7⟩;obtain⟨o,e,d⟩:=T.obj _ _ fU b hb;exact(I7.pin (b,o)<|aA _<|aA _<|P1 hb e).2.1
   cases f with
   | next=>obtain⟨σ7,H7,I7,n7⟩:=q7;exact again I7 n7
   | cont=>obtain⟨σ7,H7,I7,n7⟩:=q7;exact again I7 n7
   | brk=>obtain⟨σ7,H7,I7,q7⟩:=q7;exact⟨σ7,H7,I7.unpinned,q7⟩
   | ret v=>obtain⟨x7,σ7,H7,I7,r7,q7⟩:=q7;exact⟨x7,σ7,H7,I7.unpinned,r7,q7⟩
end
def Bo{K:aa}{a:Addr}{xs:List V}{g:TG}{tb:TS}{D:BY}{σ:St}{H:Hp}(Pv:Nat->St->Hp->Prop)(h0:Pv 0 σ H)(hl:∀i σ H,i<=xs.length->Pv i σ H->y7 K H a xs)
    (hs:∀i x σ H,xs[i]? = some x->Pv i σ H->g x σ H λσ2 H2=>tb { D with nx:=Pv<|i+1,ct:=Pv<|i+1,bk:=D.nx } σ2 H2) (hd:∀σ H,Pv xs.length σ H->D.nx σ H) :
    ∃W:Nat->Nat->St->Hp->Prop,(∃m,W 0 m σ H)/\∀i m σ H,W i m σ H->
     ((Yj K a).stop i H/\D.nx σ H)\/((Yj K a).go i H/\∃N:St->Hp->Prop,(∀σ' H',N σ' H'->∃m',m' < m/\W (i+1) m' σ' H')/\∀x H',(Yj K a).yld i H x H'->g x σ H' λσ2 H2=>tb { D with nx:=N,ct:=N,bk:=D.nx } σ2 H2):=by
 show⟨λi m σ H=>m=xs.length - i/\i<=xs.length/\Pv i σ H,⟨xs.length,by simp,bh _,h0⟩,?_⟩;rintro i m σ H ⟨rfl,hi,p⟩;have q:=hl i σ H hi p;by_cases eV:i < xs.length
 . show .inr ⟨⟨xs,xs[i],q,by simp[eV]⟩,Pv<|i+1,λσ' H' p'=>⟨xs.length - (i+1),Z,Y,eV,p'⟩,λx H' y=>?_⟩;obtain⟨e,y⟩:=y;subst e;exact hs i x σ _ (y xs q) p
 . have e:i=xs.length:=by omega
   subst e;exact .inl ⟨⟨xs,q,ae _⟩,hd σ H p⟩
def Y8{lo:Int}{n:Nat}{g:TG}{tb:TS}{D:BY}{σ:St}{H:Hp}(Pv:Nat->St->Hp->Prop)(h0:Pv 0 σ H)
    (hs:∀i σ H,i < n->Pv i σ H->g (.int<|lo+i) σ H λσ2 H2=>tb { D with nx:=Pv<|i+1,ct:=Pv<|i+1,bk:=D.nx } σ2 H2) (hd:∀σ H,Pv n σ H->D.nx σ H) :
    ∃W:Nat->Nat->St->Hp->Prop,(∃m,W 0 m σ H)/\∀i m σ H,W i m σ H->
     ((Vb lo n).stop i H/\D.nx σ H)\/((Vb lo n).go i H/\∃N:St->Hp->Prop,(∀σ' H',N σ' H'->∃m',m' < m/\W (i+1) m' σ' H')/\∀x H',(Vb lo n).yld i H x H'->g x σ H' λσ2 H2=>tb { D with nx:=N,ct:=N,bk:=D.nx } σ2 H2):=by
 show⟨λi m σ H=>m=n - i/\i<=n/\Pv i σ H,⟨n,by simp,bh _,h0⟩,?_⟩;rintro i m σ H ⟨rfl,hi,p⟩;by_cases eV:i < n
 . show .inr ⟨eV,Pv<|i+1,λσ' H' p'=>⟨n - (i+1),Z,Y,eV,p'⟩,λx H' y=>?_⟩;obtain⟨e,y⟩:=y;subst e y;exact hs i σ _ eV p
 . have e:i=n:=by omega
   subst e;exact .inl ⟨ae _,hd σ H p⟩
abbrev R2:=V->V->Hp->VK->Prop
def BK(X:Cx)(f:Value->Value->Sem Value)(r:R2):Prop:=
 ∀(aS:w1e) (s:Shared) (σ:St) (H:Hp) (x y:V) (v u:Value) (Q:VK),j5 X aS σ H s->w8 x v->w8 y u->r x y H Q->
  wpAny (model X.prog X.w) X.A (f v u) (EP X aS σ Q) X.xe s
def UnR(X:Cx)(f:Value->Sem Value)(r:V->Hp->VK->Prop):Prop:=
 ∀(aS:w1e) (s:Shared) (σ:St) (H:Hp) (x:V) (v:Value) (Q:VK),j5 X aS σ H s->w8 x v->r x H Q->
  wpAny (model X.prog X.w) X.A (f v) (EP X aS σ Q) X.xe s
def O2(X:Cx)(f:Value)(r:List V->Hp->VK->Prop):Prop:=
 ∀(aS:w1e) (s:Shared) (σ:St) (H:Hp) (xs:List V) (us:w1j) (Q:VK),j5 X aS σ H s->m9 xs us->r xs H Q->
  wpAny (model X.prog X.w) X.A (call f us) (EP X aS σ Q) X.xe s
def TruR(X:Cx)(r:V->Hp->(Bool->Hp->Prop)->Prop):Prop:=
 ∀(aS:w1e) (s:Shared) (σ:St) (H:Hp) (x:V) (v:Value) (Q:Bool->Hp->Prop),j5 X aS σ H s->w8 x v->r x H Q->
  wpAny (model X.prog X.w) X.A (truthy v) (TP X aS σ Q) X.xe s
def VJ(r:R2)(ta tb:TE):TE:=λσ H Q=>ta σ H λx H1=>tb σ H1 λy H2=>r x y H2 Q
def tUn(r:V->Hp->VK->Prop)(ta:TE):TE:=λσ H Q=>ta σ H λx H1=>r x H1 Q
def rI(C:Int->Int->Prop)(g:Int->Int->V):R2:=λx y H Q=>∃i j,x=.int i/\y=.int j/\C i j/\Q (g i j) H
def Uk(g:Int->Int->V):R2:=λx y H Q=>∃i j,x=.int i/\y=.int j/\Q (g i j) H
def rU(g:Int->V):V->Hp->VK->Prop:=λx H Q=>∃i,x=.int i/\Q (g i) H
section
variable{X:Cx}{a b c:Expr}{ta tb tc:TE}{pos:Pos}
def Yd(ha:PE X a ta)(hb:PE X b tb){aS:w1e}{s:Shared}{σ:St}{H:Hp}{R:V->V->Hp->Prop}(I:j5 X aS σ H s)
    (h:ta σ H λx H1=>tb σ H1 λy H2=>R x y H2) {Q:w1f} {f:Value->Value->Sem Value}
    (hf:∀v u s2 x y H2,j5 X aS σ H2 s2->w8 x v->w8 y u->R x y H2->wpAny (model X.prog X.w) X.A (f v u) Q X.xe s2) :
    wpAny (model X.prog X.w) X.A (eval a X.env) (λv s₁=>wpAny (model X.prog X.w) X.A (eval b X.env) (λu s₂=>wpAny (model X.prog X.w) X.A (f v u) Q X.xe s₂) X.xe s₁) X.xe s:=by
 show B0 (ha aS s σ H _ I h) λv s1 ⟨x,H1,I1,r1,q1⟩=>?_;show B0 (hb aS s1 σ H1 _ I1 q1) λu s2 ⟨y,H2,I2,r2,q2⟩=>?_;exact hf v u s2 x y H2 I2 r1 r2 q2
def j4{op:Operator}{r:R2}(ho:BK X (binaryOp op) r)(ha:PE X a ta)(hb:PE X b tb):PE X (.BinOp a op b pos) (VJ r ta tb):=by intro aS s σ H Q I h;exact wpAny_BinOp (Yd ha hb I h λv u s2 x y H2 I2 rx ry q=>ho aS s2 σ H2 x y v u Q I2 rx ry q)
def Iw{op:UnaryOp}{r:V->Hp->VK->Prop}(ho:UnR X (unaryOp op) r)(ha:PE X a ta):PE X (.UnaryOp op a pos) (tUn r ta):=by intro aS s σ H Q I h;exact UnaryOp_ (B0 (ha aS s σ H _ I h) λv s1 ⟨x,H1,I1,r1,q1⟩=>ho aS s1 σ H1 x v Q I1 r1 q1)
def c0h{f:Value->Value->Sem Value}{C:Int->Int->Prop}{g:Int->Int->Int}
    (rule:∀(i j:Int) (t u:Tok) (s:Shared) (Q:w1f) (E:w1f),C i j->Q (.int (g i j) s.toks) { s with toks:=s.toks+1 }->wpAny (model X.prog X.w) X.A (f (.int i t)<|.int j u) Q E s) :
    BK X f (rI C λi j=>.int<|g i j):=by
 intro aS s σ H x y v u Q I rx ry h;obtain⟨i,j,rfl,rfl,hc,q⟩:=h;obtain⟨t,rfl⟩:=rx;obtain⟨t',rfl⟩:=ry;exact rule i j t t' s _ _ hc ⟨.int<|g i j,H,I.tok _,⟨_,Y⟩,q⟩
def c0g{f:Value->Value->Sem Value}{g:Int->Int->Int}
    (rule:∀(i j:Int) (t u:Tok) (s:Shared) (Q:w1f) (E:w1f),Q (.int (g i j) s.toks) { s with toks:=s.toks+1 }->wpAny (model X.prog X.w) X.A (f (.int i t)<|.int j u) Q E s) :
    BK X f (Uk λi j=>.int<|g i j):=by
 intro aS s σ H x y v u Q I rx ry h;obtain⟨i,j,rfl,rfl,q⟩:=h;obtain⟨t,rfl⟩:=rx;obtain⟨t',rfl⟩:=ry;exact rule i j t t' s _ _ ⟨.int<|g i j,H,I.tok _,⟨_,Y⟩,q⟩
def Uu{f:Value->Value->Sem Value}{g:Int->Int->Bool}
    (rule:∀(i j:Int) (t u:Tok) (s:Shared) (Q:w1f) (E:w1f),Q (.bool<|g i j) s->wpAny (model X.prog X.w) X.A (f (.int i t)<|.int j u) Q E s) :
    BK X f (Uk λi j=>.bl<|g i j):=by
 intro aS s σ H x y v u Q I rx ry h;obtain⟨i,j,rfl,rfl,q⟩:=h;obtain⟨t,rfl⟩:=rx;obtain⟨t',rfl⟩:=ry;exact rule i j t t' s _ _ ⟨.bl<|g i j,H,I,Y,q⟩
def CPow(i j:Int):Prop:=0<=j/\j<=1000000/\i.natAbs < 2 ^ 64
def QO(i j:Int):Prop:=(-(2 ^ 64) < i/\i < 2 ^ 64)\/(-(2 ^ 64) < j/\j < 2 ^ 64)
def QO.ok{i j:Int}(h:QO i j):IntMulOk i j:=by
 rcases h with ⟨h1,h2⟩ | ⟨h1,h2⟩
 . exact .of_left (intBits_le_64 h1 h2)
 . exact .of_right (intBits_le_64 h1 h2)
def z6:BK X (binaryOp .Add) (Uk λi j=>.int<|i+j):=c0g λ_ _ _ _ _ _ _ q=>add_int q
def Ey:BK X (binaryOp .Sub) (Uk λi j=>.int<|i - j):=c0g λ_ _ _ _ _ _ _ q=>sub_int q
def Ao:BK X (binaryOp .Mult) (rI QO λi j=>.int<|i * j):=c0h λ_ _ _ _ _ _ _ hc q=>mul_int q hc.ok
def F1:BK X (binaryOp .Mod) (rI (λ_ j=>j≠0) λi j=>.int<|i.fmod j):=c0h λ_ _ _ _ _ _ _ hc q=>mod_int' hc q
def WZ:BK X (binaryOp .Pow) (rI CPow λi j=>.int<|i ^ j.toNat):=c0h λ_ _ _ _ _ _ _ hc q=>pow_int_small hc.1 hc.2.1 hc.2.2 q
def unI{f:Value->Sem Value}{g:Int->Int}
    (rule:∀(i:Int) (t:Tok) (s:Shared) (Q:w1f) (E:w1f),Q (.int (g i) s.toks) { s with toks:=s.toks+1 }->wpAny (model X.prog X.w) X.A (f<|.int i t) Q E s) :
    UnR X f (rU λi=>.int<|g i):=by
 intro aS s σ H x v Q I rx h;obtain⟨i,rfl,q⟩:=h;obtain⟨t,rfl⟩:=rx;exact rule i t s _ _ ⟨.int<|g i,H,I.tok _,⟨_,Y⟩,q⟩
def Ee:UnR X (unaryOp .USub) (rU λi=>.int<|-i):=unI λ_ _ _ _ _ q=>neg_int q
end
def Ze:V->V->Bool
 | .non,.non=>true | .non,.int _=>true | .int _,.non=>true | .non,.bl _=>true | .bl _,.non=>true | .non,.str _=>true | .str _,.non=>true
 | .int _,.int _=>true | .bl _,.bl _=>true | .str _,.str _=>true | .byt _,.byt _=>true
 | .int _,.str _=>true | .str _,.int _=>true | .bl _,.str _=>true | .str _,.bl _=>true
 | _,_=>false
def rEq:R2:=λx y H Q=>Ze x y=true/\Q (.bl<|decide<|x=y) H
def rNe:R2:=λx y H Q=>Ze x y=true/\Q (.bl<|!decide (x=y)) H
def OJ{i j:Int}:decide (V.int i=V.int j)=(i == j):=by rw[bU];simp
def SZ{i j:Bool}:decide (V.bl i=V.bl j)=(i == j):=by rw[bU];simp
def OI{i j:Str}:decide (V.str i=V.str j)=(i == j):=by rw[bU];simp
def OK{i j:Array UInt8}:decide (V.byt i=V.byt j)=(i.toList == j.toList):=by rw[bU];cases i;cases j;simp
section
variable{X:Cx}{a b c:Expr}{ta tb tc:TE}{pos:Pos}
def w9{aS:w1e}{σ:St}{H:Hp}{s:Shared}{Q:VK}{k k':Bool}(I:j5 X aS σ H s)(q:Q (.bl k) H)(e:k=k'):EP X aS σ Q (.bool k') s:=by subst e;exact⟨.bl k,H,I,Y,q⟩
def o4:BK X (compareOp .Eq) rEq:=by
 intro aS s σ H x y v u Q I rx ry h;obtain⟨hs,q⟩:=h;cases x with
 | non=>
  cases rx;cases y with
  | non=>cases ry;exact PySem.EqNone.eq_none_none (w9 I q<|by simp)
  | bl j=>cases ry;exact PySem.EqNone.eq_none_bool (w9 I q<|by simp)
  | int j=>obtain⟨t',rfl⟩:=ry;exact PySem.EqNone.eq_none_int (w9 I q<|by simp)
  | str j=>obtain⟨t',rfl⟩:=ry;exact PySem.EqNone.eq_none_str (w9 I q<|by simp)
  | _=>exact absurd (show false=true from hs) ax
 | bl i=>
  cases rx;cases y with
  | non=>cases ry;exact PySem.EqNone.eq_bool_none (w9 I q<|by simp)
  | bl j=>cases ry;exact eq_bool (w9 I q SZ)
  | str j=>obtain⟨t',rfl⟩:=ry;exact PySem.EqMixed.eq_bool_str (w9 I q<|by simp)
  | _=>exact absurd (show false=true from hs) ax
 | int i=>
  obtain⟨t,rfl⟩:=rx;cases y with
  | non=>cases ry;exact PySem.EqNone.eq_int_none (w9 I q<|by simp)
  | int j=>obtain⟨t',rfl⟩:=ry;exact eq_int (w9 I q OJ)
  | str j=>obtain⟨t',rfl⟩:=ry;exact PySem.EqMixed.eq_int_str (w9 I q<|by simp)
  | _=>exact absurd (show false=true from hs) ax
 | str i=>
  obtain⟨t,rfl⟩:=rx;cases y with
  | non=>cases ry;exact PySem.EqNone.eq_str_none (w9 I q<|by simp)
  | bl j=>cases ry;exact PySem.EqMixed.eq_str_bool (w9 I q<|by simp)
  | int j=>obtain⟨t',rfl⟩:=ry;exact PySem.EqMixed.eq_str_int (w9 I q<|by simp)
  | str j=>obtain⟨t',rfl⟩:=ry;exact eq_str (w9 I q OI)
  | _=>exact absurd (show false=true from hs) ax
 | byt i=>
  obtain⟨t,rfl⟩:=rx;cases y with
  | byt j=>obtain⟨t',rfl⟩:=ry;exact PySem.W.eq_bytes (w9 I q OK)
  | _=>exact absurd (show false=true from hs) ax
 | _=>cases y <;>exact absurd (show false=true from hs) ax
def Be:BK X (compareOp .NotEq) rNe:=by
 intro aS s σ H x y v u Q I rx ry h;obtain⟨hs,q⟩:=h;cases x with
 | non=>
  cases rx;cases y with
  | non=>cases ry;exact PySem.EqNone.ne_none_none (w9 I q<|by simp)
  | bl j=>cases ry;exact PySem.EqNone.ne_none_bool (w9 I q<|by simp)
  | int j=>obtain⟨t',rfl⟩:=ry;exact PySem.EqNone.ne_none_int (w9 I q<|by simp)
  | str j=>obtain⟨t',rfl⟩:=ry;exact PySem.EqNone.ne_none_str (w9 I q<|by simp)
  | _=>exact absurd (show false=true from hs) ax
 | bl i=>
  cases rx;cases y with
  | non=>cases ry;exact PySem.EqNone.ne_bool_none (w9 I q<|by simp)
  | bl j=>cases ry;exact ne_bool (w9 I q<|congrArg not SZ)
  | str j=>obtain⟨t',rfl⟩:=ry;exact PySem.EqMixed.ne_bool_str (w9 I q<|by simp)
  | _=>exact absurd (show false=true from hs) ax
 | int i=>
  obtain⟨t,rfl⟩:=rx;cases y with
  | non=>cases ry;exact PySem.EqNone.ne_int_none (w9 I q<|by simp)
  | int j=>obtain⟨t',rfl⟩:=ry;exact ne_int (w9 I q<|congrArg not OJ)
  | str j=>obtain⟨t',rfl⟩:=ry;exact PySem.EqMixed.ne_int_str (w9 I q<|by simp)
  | _=>exact absurd (show false=true from hs) ax
 | str i=>
  obtain⟨t,rfl⟩:=rx;cases y with
  | non=>cases ry;exact PySem.EqNone.ne_str_none (w9 I q<|by simp)
  | bl j=>cases ry;exact PySem.EqMixed.ne_str_bool (w9 I q<|by simp)
  | int j=>obtain⟨t',rfl⟩:=ry;exact PySem.EqMixed.ne_str_int (w9 I q<|by simp)
  | str j=>obtain⟨t',rfl⟩:=ry;exact ne_str (w9 I q<|congrArg not OI)
  | _=>exact absurd (show false=true from hs) ax
 | byt i=>
  obtain⟨t,rfl⟩:=rx;cases y with
  | byt j=>obtain⟨t',rfl⟩:=ry;exact PySem.W.ne_bytes (w9 I q<|congrArg not OK)
  | _=>exact absurd (show false=true from hs) ax
 | _=>cases y <;>exact absurd (show false=true from hs) ax
def DM:BK X (compareOp .Lt) (Uk λi j=>.bl<|decide<|i < j):=Uu λ_ _ _ _ _ _ _ q=>lt_int q
def Ot:BK X (compareOp .LtE) (Uk λi j=>.bl<|decide<|i<=j):=Uu λ_ _ _ _ _ _ _ q=>le_int q
def Ay:BK X (compareOp .Gt) (Uk λi j=>.bl<|decide<|j < i):=Uu λ_ _ _ _ _ _ _ q=>gt_int q
def c0f:BK X (compareOp .GtE) (Uk λi j=>.bl<|decide<|j<=i):=Uu λ_ _ _ _ _ _ _ q=>ge_int q
def Iz:BK X (compareOp .In) (λx y H Q=>∃i j,x=.str i/\y=.str j/\Q (.bl<|!(Builtin.Str.occurrences j i 0 j.length 1).isEmpty) H):=by intro aS s σ H x y v u Q I rx ry h;obtain⟨i,j,rfl,rfl,q⟩:=h;obtain⟨t,rfl⟩:=rx;obtain⟨t',rfl⟩:=ry;exact in_str (w9 I q Y)
def Bf:BK X (compareOp .Is) (λx y H Q=>y=.non/\Q (.bl<|decide<|x=.non) H):=by
 intro aS s σ H x y v u Q I rx ry h;obtain⟨rfl,q⟩:=h;cases ry;show is_none_gen<|w9 I q ?_;cases x <;>first
  | (cases rx;rfl)
  | (obtain⟨t,rfl⟩:=rx;rfl)
def Us:BK X (compareOp .IsNot) (λx y H Q=>y=.non/\Q (.bl<|!decide (x=.non)) H):=by
 intro aS s σ H x y v u Q I rx ry h;obtain⟨rfl,q⟩:=h;cases ry;show isnot_none_gen<|w9 I q ?_;cases x <;>first
  | (cases rx;rfl)
  | (obtain⟨t,rfl⟩:=rx;rfl)
def d8(b:Expr){op:CmpOp}(h:op≠.In:=by decide)(h2:op≠.NotIn:=by decide):behindInMarks op b=false:=by
 have e1:(op == CmpOp.In)=false:=by cases op <;>first | rfl | exact absurd rfl h
 have e2:(op == CmpOp.NotIn)=false:=by cases op <;>first | rfl | exact absurd rfl h2
 cases b <;>simp[behindInMarks,e1,e2]
def K3{op:CmpOp}{r:R2}(ho:BK X (compareOp op) r)(ha:PE X a ta)(hb:PE X b tb)(hm:behindInMarks op b=false):PE X (.Compare a [op] [b] pos) (VJ r ta tb):=by intro aS s σ H Q I h;exact wpAny_Compare1 (Yd ha hb I h λv u s2 x y H2 I2 rx ry q=>ho aS s2 σ H2 x y v u Q I2 rx ry q) hm
def Ra(t:TE):TT:=λσ H Q=>t σ H λx H'=>∃k,x=.bl k/\Q k H'
def d7{op:CmpOp}{r:R2}(ho:BK X (compareOp op) r)(ha:PE X a ta)(hb:PE X b tb)(hm:behindInMarks op b=false):PT X (.Compare a [op] [b] pos) (Ra<|VJ r ta tb):=by
 intro aS s σ H Q I h;show wpAny_isTrue_Compare1 (B0 (ha aS s σ H _ I h) λv s1 ⟨x,H1,I1,r1,q1⟩=>B0 (hb aS s1 σ H1 _ I1 q1) λu s2 ⟨y,H2,I2,r2,q2⟩=>
  B0 (ho aS s2 σ H2 x y v u _ I2 r1 r2 q2) λc s3 ⟨z,H3,I3,r3,k,e,q3⟩=>?_) hm
 subst e;cases r3;exact wpAny_truthy_bool ⟨H3,I3,q3⟩
def Rb(r r':R2)(ta tb tc:TE):TE:=λσ H Q=>ta σ H λx H1=>tb σ H1 λy H2=>r x y H2 λz H3=>∃k,z=.bl k/\
 (if k=true then tc σ H3 λw' H4=>r' y w' H4 Q else Q (.bl false) H3)
def RW{op iE:CmpOp}{r r':R2}(ho:BK X (compareOp op) r)(gv:BK X (compareOp iE) r')(ha:PE X a ta)(hb:PE X b tb)(hc:PE X c tc)
    (hm:lastMarks [op,iE] [b,c]=false:=by with_unfolding_all rfl):PE X (.Compare a [op,iE] [b,c] pos) (Rb r r' ta tb tc):=by
 intro aS s σ H Q I h;show Compare_chain (B0 (ha aS s σ H _ I h) λv s1 ⟨x,H1,I1,r1,q1⟩=>chain_link (B0 (hb aS s1 σ H1 _ I1 q1) λu s2 ⟨y,H2,I2,r2,q2⟩=>
  B0 (ho aS s2 σ H2 x y v u _ I2 r1 r2 q2) λd s3 ⟨z,H3,I3,r3,k,e,q3⟩=>?_)) hm
 subst e;cases r3;show wpAny_truthy_bool ?_;cases k with
 | false=>exact ite_ff ⟨.bl false,H3,I3,Y,q3⟩
 | true=>exact ite_tt (chain_last<|B0 (hc aS s3 σ H3 _ I3 q3) λw' s4 ⟨z',H4,I4,r4,q4⟩=>gv aS s4 σ H4 y z' u w' Q I4 r2 r4 q4)
def RN{op iE:CmpOp}{r r':R2}(ho:BK X (compareOp op) r)(gv:BK X (compareOp iE) r')(ha:PE X a ta)(hb:PE X b tb)(hc:PE X c tc)
    (hm:lastMarks [op,iE] [b,c]=false:=by with_unfolding_all rfl):PT X (.Compare a [op,iE] [b,c] pos) (Ra<|Rb r r' ta tb tc):=by
 intro aS s σ H Q I h;show isTrue_chain (B0 (ha aS s σ H _ I h) λv s1 ⟨x,H1,I1,r1,q1⟩=>test_link (B0 (hb aS s1 σ H1 _ I1 q1) λu s2 ⟨y,H2,I2,r2,q2⟩=>
  B0 (ho aS s2 σ H2 x y v u _ I2 r1 r2 q2) λd s3 ⟨z,H3,I3,r3,k,e,q3⟩=>?_)) hm
 subst e;cases r3;show wpAny_truthy_bool ?_;cases k with
 | false=>
  obtain⟨k',e',q'⟩:=q3;cases e';exact ite_ff ⟨H3,I3,q'⟩
 | true=>
  show ite_tt<|test_last<|B0 (hc aS s3 σ H3 _ I3 q3) λw' s4 ⟨z',H4,I4,r4,q4⟩=>B0 (gv aS s4 σ H4 y z' u w' _ I4 r2 r4 q4) λd' s5 ⟨z2,H5,I5,r5,k2,e2,q5⟩=>?_;subst e2;cases r5;exact wpAny_truthy_bool ⟨H5,I5,q5⟩
def TruV(K:aa)(x:V)(H:Hp)(k:Bool):Prop:=
 match x with
 | .non=>k=false
 | .bl b=>k=b
 | .int i=>k=(i != 0)
 | .str y=>y.length<=sizeLine/\k=((y.length:Int) != 0)
 | .byt y=>y.size<=sizeLine/\k=((y.size:Int) != 0)
 | .ref p=>(∃xs,y7 K H p xs/\k = !xs.isEmpty)\/(∃xs,j3 K H p xs/\k = !xs.isEmpty)\/∃aT,H p=some (.dK aT)/\k = !aT.isEmpty
 | _=>False
def Nx{κ:Type}{aT:List (κ × V)}{vs:List (κ × Value)}(r:KV aT vs):(!vs.isEmpty) = !aT.isEmpty:=by
 cases r <;>rfl
def GM{xs:List V}{dw:w1j}(r:m9 xs dw):(!dw.toArray.isEmpty) = !xs.isEmpty:=by
 cases r <;>simp
def Bn:(sizeLine:Nat) < 2 ^ 63:=by rw[sizeLine_eq];decide
def tru_ok:TruR X (λx H Q=>∃k,TruV X.K x H k/\Q k H):=by
 intro aS s σ H x v Q I rx h;obtain⟨k,e,q⟩:=h;have hl:=Bn;have hs:sizeLine=16777216:=sizeLine_eq;cases x with
 | non=>
  cases rx;have e':k=false:=e;subst e';exact truthy_none ⟨H,I,q⟩
 | bl b=>
  cases rx;have e':k=b:=e;subst e';exact wpAny_truthy_bool ⟨H,I,q⟩
 | int i=>
  obtain⟨t,rfl⟩:=rx;have e':k=(i != 0):=e;subst e';exact PySem.P.truthy_int ⟨H,I,q⟩
 | str y=>
  obtain⟨t,rfl⟩:=rx;obtain⟨hy,e'⟩:y.length<=sizeLine/\k=((y.length:Int) != 0):=e;subst e';exact PySem.P.truthy_str Z ⟨H,I.tok _,q⟩
 | byt y=>
  obtain⟨t,rfl⟩:=rx;obtain⟨hy,e'⟩:y.size<=sizeLine/\k=((y.size:Int) != 0):=e;subst e';exact PySem.W.truthy_bytes Z ⟨H,I.tok _,q⟩
 | ref p=>
  cases rx;have e':(∃xs,y7 X.K H p xs/\k = !xs.isEmpty)\/(∃xs,j3 X.K H p xs/\k = !xs.isEmpty)\/∃aT,H p=some (.dK aT)/\k = !aT.isEmpty:=e;rcases e' with ⟨xs,hx,e'⟩ | ⟨xs,hx,e'⟩ | ⟨aT,hx,e'⟩
  . subst e';obtain⟨dw,r,pl,hz⟩:=I.list hx;have dE:=r.length;exact wpAny_truthy_list pl.isList (by simp only[aj];omega) ⟨H,I.tok _,by rw[GM r];exact q⟩
  . subst e';obtain⟨dw,r,pl,hz⟩:=I.tuple hx;have dE:=r.length;exact truthy_tuple pl (by simp only[aj];omega) ⟨H,I.tok _,by rw[GM r];exact q⟩
  . subst e';obtain⟨hz,hS,vs,r,m⟩:aT.length<=sizeLine/\(p == sysModules)=false/\∃vs,KV aT vs/\s.heap.DictOf (C4 X.prog X.w) p vs:=I.hok p _ hx;have dE:aT.length=vs.length:=Paired.length r;exact wpAny_truthy_dict hS m Z ⟨H,I.tok _,by rw[Nx r];exact q⟩
 | _=>exact(show False from e).elim
def CQ:BK X (binaryOp .Add) (λx y H Q=>∃i j,x=.str i/\y=.str j/\i.length+j.length<=sizeLine/\Q (.str<|i++j) H):=by intro aS s σ H x y v u Q I rx ry h;obtain⟨i,j,rfl,rfl,hz,q⟩:=h;obtain⟨t,rfl⟩:=rx;obtain⟨t',rfl⟩:=ry;exact add_str (λt' tk=>⟨.str<|i++j,H,I.tok _,⟨_,Y⟩,q⟩) hz
def KB{x:V}{us:w1j}(r:m9 [x] us):∃u,us=[u]/\w8 x u:=by
 cases r with
 | cons r1 r2=>cases r2;exact⟨_,Y,r1⟩
def YF{x y:V}{us:w1j}(r:m9 [x,y] us):∃u w',us=[u,w']/\w8 x u/\w8 y w':=by
 cases r with
 | cons r1 r2=>
  cases r2 with
  | cons r3 r4=>cases r4;exact zc ⟨Y,r1,r3⟩
def Hc:O2 X (.builtin "abs") (λxs H Q=>∃i,xs=[.int i]/\Q (.int<|if i < 0 then -i else i) H):=by intro aS s σ H xs us Q I r h;obtain⟨i,rfl,q⟩:=h;obtain⟨u,rfl,t,rfl⟩:=KB r;exact call_abs_int λu tk=>⟨.int (if i < 0 then -i else i),H,I.tok _,⟨_,Y⟩,q⟩
def QI(hc:X.calm=true):O2 X (.builtin "min") (λxs H Q=>∃i j,xs=[.int i,.int j]/\Q (.int<|if j < i then j else i) H):=by
 intro aS s σ H xs us Q I r h;obtain⟨i,j,rfl,q⟩:=h;obtain⟨u,w',rfl,⟨t,rfl⟩,⟨t',rfl⟩⟩:=YF r;show min_two_ints (I.ok.hd hc) λh' tk k=>⟨_,H,I.kept k,?_,q⟩;by_cases hj:j < i
 . rw[if_pos hj,if_pos hj];exact⟨_,Y⟩
 . rw[if_neg hj,if_neg hj];exact⟨_,Y⟩
def IS:O2 X (.type "int") (λxs H Q=>(∃i,xs=[.int i]/\Q (.int i) H)\/∃k,xs=[.bl k]/\Q (.int<|if k then 1 else 0) H):=by
 intro aS s σ H xs us Q I r h;rcases h with ⟨i,rfl,q⟩ | ⟨k,rfl,q⟩
 . obtain⟨u,rfl,t,rfl⟩:=KB r;exact call_int_int ⟨.int i,H,I,⟨_,Y⟩,q⟩
 . obtain⟨u,rfl,r1⟩:=KB r;cases r1;exact call_int_bool ⟨.int (if k then 1 else 0),H,I.tok _,⟨_,Y⟩,q⟩
def R1(K:aa)(x:V)(H:Hp)(n:Nat):Prop:=
 match x with
 | .str y=>y.length<=sizeLine/\n=y.length
 | .byt y=>y.size<=sizeLine/\n=y.size
 | .ref p=>(∃xs,y7 K H p xs/\n=xs.length)\/∃xs,j3 K H p xs/\n=xs.length
 | _=>False
def l5:O2 X (.builtin "len") (λxs H Q=>∃x n,xs=[x]/\R1 X.K x H n/\Q (.int n) H):=by
 intro aS s σ H xs us Q I r h;obtain⟨x,n,rfl,e,q⟩:=h;obtain⟨u,rfl,rx⟩:=KB r;have hl:=Bn;have hs:sizeLine=16777216:=sizeLine_eq;cases x with
 | str y=>
  obtain⟨t,rfl⟩:=rx;obtain⟨hy,e'⟩:y.length<=sizeLine/\n=y.length:=e;subst e';exact len_str Z ⟨.int _,H,I.tok _,⟨_,Y⟩,q⟩
 | byt y=>
  obtain⟨t,rfl⟩:=rx;obtain⟨hy,e'⟩:y.size<=sizeLine/\n=y.size:=e;subst e';exact PySem.W.len_bytes Z ⟨.int _,H,I.tok _,⟨_,Y⟩,q⟩
 | ref p=>
  cases rx;have e':(∃xs,y7 X.K H p xs/\n=xs.length)\/∃xs,j3 X.K H p xs/\n=xs.length:=e;rcases e' with ⟨xs,hx,e'⟩ | ⟨xs,hx,e'⟩
  . subst e';obtain⟨dw,r',pl,hz⟩:=I.list hx;have dE:=r'.length;exact Calls.call_len_list pl.isList (by simp only[aj];omega) ⟨.int xs.length,H,I.tok _,⟨_,by simp only[aj];rw[dE]⟩,q⟩
  . subst e';obtain⟨dw,r',pl,hz⟩:=I.tuple hx;have dE:=r'.length;exact len_tuple pl (by simp only[aj];omega) ⟨.int xs.length,H,I.tok _,⟨_,by simp only[aj];rw[dE]⟩,q⟩
 | _=>exact(show False from e).elim
end
structure NR(h:Heap)(x dx C:Addr)(mA:w1g):Prop where
 obj:h.get? x=some (PySem.W.instObj C dx)
 ns:h.Ns1 dx mA
 ne:dx≠x
def Qb{h:Heap}{dx:Addr}{mA:w1g}(n:h.Ns1 dx mA):∃od,h.get? dx=some od/\∀name,PySem.W.lookIn name od=some (mA name):=by
 obtain⟨o,es,ep,ho,hd,hk,_,hm⟩:=n;show⟨o,ho,λname=>?_⟩;have e:=hm name;unfold nsFind findBy at e;rw[<- Array.find?_toList]at e;unfold PySem.W.lookIn;rw[hd];dsimp only;split
 . rename_i y q;rw[q]at e;exact congrArg some e
 . rename_i q;rw[q]at e;have a:es.toList.any (·.refKey)=false:=by rw[List.any_eq_false];intro y hy;obtain⟨z,t,nO⟩:=hk y<|Array.mem_toList_iff.mp hy;simp[DictEntry.refKey,nO]
   have a':¬es.toList.any (·.refKey)=true:=by rw[a];exact ax
   rw[if_neg a'];exact congrArg some e
def NR.look{h:Heap}{x dx C:Addr}{mA:w1g}(I:NR h x dx C mA):∃od,PySem.W.InstAt h x (PySem.W.instObj C dx) C (some od)/\∀name,PySem.W.lookIn name od=some (mA name):=
 let⟨od,ho,hl⟩:=Qb I.ns
 ⟨od,⟨I.obj,Y,Y,ho⟩,hl⟩
section
variable{prog:Program}{w:World}{A:Around}{E:w1f}{s:Shared}{K:aa}{x dx C f:Addr}{mA:w1g}{name:Str}{v:Value}
def UL{oE:Bool}{Q:w1f}(X:K.In s.heap)(I:NR s.heap x dx C mA)(hg:PySem.W.plainGet K C name=true)(hh:PySem.W.hasDictIn K C=true)
    (ha:PySem.W.findIn K (.ref C) name=some none) (hv:mA name=some v) (nE:PySem.W.handedIn v=true) (h:Q v { s with toks:=s.toks+1 }) :
    wpAny (model prog w) A (getAttr (.ref x) name oE) Q E s:=by
 obtain⟨od,J,hl⟩:=I.look;exact PySem.W.get_value X J (PySem.W.plainGet_of hg).1 (PySem.W.findObj_own hh ha Y<|by rw[hl,hv]) nE h
def SO{pl:Sem Bool}{Q:Value × w1j->Shared->Prop}(X:K.In s.heap)(I:NR s.heap x dx C mA)(hg:PySem.W.plainGet K C name=true)
    (hf:PySem.W.findIn K (.ref C) name=some (some<|.ref f)) (ht:PySem.W.isFn K (.ref f)=true) (hv:mA name=none) (h:Q (.ref f,[.ref x]) s) :
    wpAny (model prog w) A (getMethod (.ref x) name pl) Q E s:=by
 obtain⟨od,J,hl⟩:=I.look;exact PySem.W.method_fn X J (PySem.W.plainGet_of hg).1 (PySem.W.plainGet_of hg).2 hf (beq_iff_eq.mp ht) (by show(PySem.W.lookIn name od).map (·.isSome)=some false;rw[hl,hv];rfl) h
def TZ{ns:w1i}{Q:Unit->Shared->Prop}(X:K.In s.heap)(I:NR s.heap x dx C mA)
    (hs:PySem.W.findIn K (.ref C) "__setattr__"=some (some<|.builtin "object.__setattr__")) (hp:PySem.W.plainOver K C=true) (ht:PySem.W.takerIn K C name=some none) (hh:PySem.W.hasDictIn K C=true)
    (hw:PySem.Within mA ns) (hsz:ns.length<=sizeLine)
    (h:∀h',NR h' x dx C (λy=>if y=name then some v else mA y)->Heap.SameBut dx s.heap h'->Q () { s with heap:=h',toks:=s.toks+2 }) :
    wpAny (model prog w) A (setAttr (.ref x) name v) Q E s:=by
 obtain⟨od,J,hl⟩:=I.look;show PySem.W.set_plain X J hs<|PySem.W.osa_open (s:={ s with toks:=s.toks+1 }) (r:=none) X J hp ht λb=>?_;obtain⟨cd,hc,gH⟩:=PySem.W.any_some hh;have hx:s.heap.get? x=some ⟨.ref C,some dx,.plain,#[]⟩:=I.obj;show wpAny_bind<|wpAny_pure<|wpAny_bind<|wpAny_bind<|wpAny_loadPart hx<|wpAny_bind<|PySem.W.Looks.here (s:={ s with toks:=s.toks+1 }) (PySem.W.looks_clsIn X hc) ?_;rw[gH];show wpAny_pure (a:=some dx)<|wpAny_bind<|wpAny_pure<|wpAny_bind ?_;show wpAny_nsSet1 (s:={ s with toks:=s.toks+1 }) I.ns λh' jh iq=>?_;obtain⟨oD,yt,yu,wF,xb,hJ⟩:=jh.count<|PySem.Within.cons name v hw;show wpAny_bind (wpAny_lookBehind wF (by rw[xb];exact pastItsLine_dict<|ah hJ<|by rw[bx];omega) ?_);exact wpAny_pure (h _ ⟨(iq.2 _<|Ne.symm I.ne).trans I.obj,jh,I.ne⟩ iq)
def Sz{R:Result->Shared->Prop}{vs:w1j}{kw:List (Str × Value)}(X:K.In s.heap)(hm:PySem.W.makesIn K C=true)
    (hi:PySem.W.findIn K (.ref C) "__init__"=some (some<|.ref f)) (hf:PySem.W.typeIn K (.ref f)=some (.type "function"))
    (h:codeAny (model prog w) (A.under<|.builtin "type.__call__" ⟨.ref C::vs,kw⟩) (.call (.ref f) ⟨.ref (s.heap.objs.size+1)::vs,kw⟩) (PySem.W.InitBack (s.heap.objs.size+1) R)
     { s with heap:=(s.heap.push PySem.W.emptyDict).push (PySem.W.instObj C s.heap.objs.size) }) :
    codeAny (model prog w) A (.call (.ref C) ⟨vs,kw⟩) R s:=by
 obtain⟨hh,g,d,t,os⟩:=s;exact PySem.W.make_core (PySem.W.makes_of X hm) (PySem.W.looks_findIn X hi) (λself=>PySem.W.bind_fn X self hf) (.inl Y) h
def Qa{R:Result->Shared->Prop}(X:K.In s.heap)(hm:PySem.W.makesIn K C=true)
    (hi:PySem.W.findIn K (.ref C) "__init__"=some (some<|.builtin "object.__init__"))
    (hb:∀self,PySem.W.Looks (model prog w) s.heap (bindSpecial (.builtin "object.__init__") self) (.builtin "object.__init__",[self]))
    (h:codeAny (model prog w) (A.under<|.builtin "type.__call__" ⟨[.ref C],[]⟩) (.call (.builtin "object.__init__") ⟨[.ref<|s.heap.objs.size+1],[]⟩) (PySem.W.InitBack (s.heap.objs.size+1) R)
     { s with heap:=(s.heap.push PySem.W.emptyDict).push (PySem.W.instObj C s.heap.objs.size) }) :
    codeAny (model prog w) A (.call (.ref C) ⟨[],[]⟩) R s:=by
 obtain⟨hh,g,d,t,os⟩:=s;exact PySem.W.make_core (PySem.W.makes_of X hm) (PySem.W.looks_findIn X hi) hb (.inr ⟨Y,Y⟩) h
end
def Bc(f:Str)(v:V):List (Str × V)->List (Str × V)
 | []=>[(f,v)]
 | (g,x)::r=>if g=f then(g,v)::r else(g,x)::Bc f v r
theorem W0(f g:Str)(v:V):∀fs:List (Str × V),(Bc f v fs).lookup g=if g=f then some v else fs.lookup g
 | []=>by
  show List.lookup g [(f,v)]=_;by_cases h:g=f
  . have hb:(g == f)=true:=beq_iff_eq.mpr h;simp only[List.lookup,hb,if_pos h]
  . have hb:(g == f)=false:=beq_eq_false_iff_ne.mpr h;simp only[List.lookup,hb,if_neg h]
 | (k,x)::r=>by
  have ih:=W0 f g v r;rw[show Bc f v ((k,x)::r)=(if k=f then(k,v)::r else(k,x)::Bc f v r)from rfl];by_cases hk:k=f
  . rw[if_pos hk];by_cases h:g=k
    . have hb:(g == k)=true:=beq_iff_eq.mpr h;simp only[List.lookup,hb,if_pos<|h.trans hk]
    . have hb:(g == k)=false:=beq_eq_false_iff_ne.mpr h;simp only[List.lookup,hb,if_neg (λe:g=f=>h<|e.trans hk.symm)]
  . rw[if_neg hk];by_cases h:g=k
    . have hb:(g == k)=true:=beq_iff_eq.mpr h;simp only[List.lookup,hb,if_neg (λe:g=f=>hk<|h.symm.trans e)]
    . have hb:(g == k)=false:=beq_eq_false_iff_ne.mpr h;simp only[List.lookup,hb];exact ih
theorem EJ(f:Str)(v:V):∀fs:List (Str × V),f∈(Bc f v fs).map (·.1)/\∀g,g∈fs.map (·.1)->g∈(Bc f v fs).map (·.1)
 | []=>⟨by simp[Bc],λg h=>by simp at h⟩
 | (k,x)::r=>by
  obtain⟨i1,i2⟩:=EJ f v r;rw[show Bc f v ((k,x)::r)=(if k=f then(k,v)::r else(k,x)::Bc f v r)from rfl];by_cases hk:k=f
  . rw[if_pos hk];subst hk;exact⟨by simp,λg h=>by simpa using h⟩
  . rw[if_neg hk];show⟨?_,λg h=>?_⟩
    . rw[aO];exact aG _ i1
    . rw[aO]at h ⊢;rcases aw.mp h with e | e
      . exact aw.mpr (.inl e)
      . exact aG _ (i2 g e)
theorem EZ(f:Str)(v:V):∀fs:List (Str × V),(Bc f v fs).length<=fs.length+1
 | []=>by simp[Bc]
 | (k,x)::r=>by
  have ih:=EZ f v r;rw[show Bc f v ((k,x)::r)=(if k=f then(k,v)::r else(k,x)::Bc f v r)from rfl];by_cases hk:k=f
  . rw[if_pos hk,bx,bx];omega
  . rw[if_neg hk,bx,bx];omega
def Bu.some_of{v:V}{o:Option Value}(r:Bu (some v) o):∃u,o=some u/\w8 v u:=by
 cases o with
 | none=>exact(show False from r).elim
 | some u=>exact⟨u,Y,r⟩
def Bu.none_of{o:Option Value}(r:Bu none o):o=none:=by
 cases o with
 | none=>rfl
 | some u=>exact(show False from r).elim
def Qx{v:V}{u:Value}(r:w8 v u):PySem.W.handedIn u=true:=by
 cases v with
 | non=>cases (show u=Value.none from r);rfl
 | bl b=>cases (show u=Value.bool b from r);rfl
 | int i=>obtain⟨t,e⟩:=(show ∃t,u=Value.int i t from r);cases e;rfl
 | str x=>obtain⟨t,e⟩:=(show ∃t,u=Value.str x t from r);cases e;rfl
 | byt b=>obtain⟨t,e⟩:=(show ∃t,u=Value.bytes b t from r);cases e;rfl
 | flt b=>obtain⟨t,e⟩:=(show ∃t,u=Value.float b t from r);cases e;rfl
 | ref a=>cases (show u=Value.ref a from r);rfl
 | ty n=>cases (show u=Value.type n from r);rfl
section
variable{P:Program}{w:World}{H H':Hp}{h h':Heap}{a C dx:Addr}{fs ow:List (Str × V)}
def FL(hok:X7 P w H h)(e:H a=some (.ins C dx fs)):∃mA,NR h a dx C mA/\(∀f,Bu (fs.lookup f)<|mA f)/\PySem.Within mA (fs.map (·.1))/\fs.length<=1000/\H dx=some (.own a):=by obtain⟨d,z,ne,ob,mA,n,r,q⟩:=(show D1 P w H h a (.ins C dx fs)from hok a _ e);exact⟨mA,⟨ob,n,ne⟩,r,q,z,d⟩
end
structure Mq(K:aa)(C:Addr):Prop where
 pg:PySem.W.plainGet K C Str.empty=true
 hd:PySem.W.hasDictIn K C=true
 po:PySem.W.plainOver K C=true
 sa:PySem.W.findIn K (.ref C) "__setattr__"=some (some<|.builtin "object.__setattr__")
def Mq.get{K:aa}{C:Addr}(c:Mq K C)(f:Str):PySem.W.plainGet K C f=true:=c.pg
def Dh(K:aa)(C:Addr)(f:Str):Prop:=PySem.W.findIn K (.ref C) f=some none
def Dh.taker{K:aa}{C:Addr}{f:Str}(n:Dh K C f):PySem.W.takerIn K C f=some none:=by unfold PySem.W.takerIn;rw[show PySem.W.findIn K (.ref C) f=some none from n];rfl
structure Con(K:aa)(C:Addr)(f:Str)(v:V)(u:Value):Prop where
 at_:PySem.W.findIn K (.ref C) f=some (some u)
 rel:w8 v u
 get:PySem.W.specialIn K u "__get__"=some none
 cp:PySem.W.copiedNames.contains f=false
structure Ik(K:aa)(C:Addr)(m:Str)(f:Addr):Prop where
 at_:PySem.W.findIn K (.ref C) m=some (some<|.ref f)
 fn:PySem.W.isFn K (.ref f)=true
 kp:PySem.W.keepIn K (.ref f)=true
section
variable{X:Cx}{aS:w1e}{σ:St}{H:Hp}{s:Shared}{a C dx:Addr}{fs:List (Str × V)}{f:Str}{v:V}{A:Around}{E:w1f}
def Nz{b:Bool}{Q:w1f}(I:j5 X aS σ H s)(e:H a=some (.ins C dx fs))(c:Mq X.K C)(n:Dh X.K C f)(l:fs.lookup f=some v)
    (h:∀u s',j5 X aS σ H s'->w8 v u->Q u s'):wpAny (model X.prog X.w) A (getAttr (.ref a) f b) Q E s:=by
 obtain⟨mA,a1c,r,_,_,_⟩:=FL I.hok e;obtain⟨u,hu,ru⟩:=Bu.some_of (v:=v) (o:=mA f) (by rw[<- l];exact r f);exact UL I.kIn a1c (c.get f) c.hd n hu (Qx ru) (h u _ (I.tok _) ru)
def Dd{m:Str}{g:Addr}{pl:Sem Bool}{Q:Value × w1j->Shared->Prop}(I:j5 X aS σ H s)(e:H a=some (.ins C dx fs))(c:Mq X.K C)(k:Ik X.K C m g)(l:fs.lookup m=none)
    (h:Q (.ref g,[.ref a]) s):wpAny (model X.prog X.w) A (getMethod (.ref a) m pl) Q E s:=by
 obtain⟨mA,a1c,r,_,_,_⟩:=FL I.hok e;have hn:mA m=none:=Bu.none_of (by rw[<- l];exact r m);exact SO I.kIn a1c (c.get m) k.at_ k.fn hn h
def MK{y:V}{u:Value}{Q:Unit->Shared->Prop}(I:j5 X aS σ H s)(e:H a=some (.ins C dx fs))(c:Mq X.K C)(n:Dh X.K C f)(hl:fs.length < 1000)(ry:w8 y u)
    (h:∀s',j5 X aS σ (upd H a<|.ins C dx<|Bc f y fs) s'->Q () s'):wpAny (model X.prog X.w) A (setAttr (.ref a) f u) Q E s:=by
 obtain⟨mA,a1c,r,wi,_,ho⟩:=FL I.hok e;have hz:(fs.map (·.1)).length<=sizeLine:=by rw[aD,sizeLine_eq];omega
 show TZ I.kIn a1c c.sa c.po n.taker c.hd wi hz λh' O' sb=>h _ ?_;have hd:∃o,h'.get? dx=some o:=let⟨o,_,_,e',_⟩:=O'.ns;⟨o,e'⟩
 show I.write (x:=a) (e:=dx) (by rw[e];exact True.intro) (.inr ho) (λb q hb z=>(sb.2 b hb).trans z) hd ?_;show⟨by rw[k8 a1c.ne];exact ho,?_,a1c.ne,O'.obj,_,O'.ns,λg=>?_,λg hg=>?_⟩
 . have:=EZ f y fs;omega
 . show Bu ((Bc f y fs).lookup g) (if g=f then some u else mA g);rw[W0];by_cases q:g=f
   . rw[if_pos q,if_pos q];exact ry
   . rw[if_neg q,if_neg q];exact r g
 . by_cases q:g=f
   . rw[q];exact(EJ f y fs).1
   . show(EJ f y fs).2 g<|wi g λz=>hg ?_;show(if g=f then some u else mA g)=none;rw[if_neg q];exact z
def j5.made(I:j5 X aS σ H s):j5 X aS σ (upd (upd H s.heap.objs.size<|.own<|s.heap.objs.size+1) (s.heap.objs.size+1)<|.ins C s.heap.objs.size [])
    { s with heap:=(s.heap.push PySem.W.emptyDict).push (PySem.W.instObj C s.heap.objs.size) }:=by
 have e1:(s.heap.push PySem.W.emptyDict).get? s.heap.objs.size=some PySem.W.emptyDict:=ak s.heap rfl;have e2:((s.heap.push PySem.W.emptyDict).push<|PySem.W.instObj C s.heap.objs.size).get? (s.heap.objs.size+1)=some (PySem.W.instObj C s.heap.objs.size):=by have:=ak (s.heap.push PySem.W.emptyDict) (o:=PySem.W.instObj C s.heap.objs.size) rfl;rwa [aL]at this
 have e3:(s.heap.push PySem.W.emptyDict).Ns s.heap.objs.size (λ_=>none):=⟨PySem.W.emptyDict,#[],_,e1,Y,(λe he=>absurd he<|by simp),λ_=>rfl⟩;have I1:=I.laid (a:=s.heap.objs.size) (o:=.own<|s.heap.objs.size+1) (h':=s.heap.push PySem.W.emptyDict) (t':=s.toks) (λb u q=>ag _ q) (ae _) ⟨_,e1⟩;show I1.laid (a:=s.heap.objs.size+1) (o:=.ins C s.heap.objs.size []) (t':=s.toks) (λb u q=>ag _ q) (Nat.le_of_eq<|aL _ _) ?_;have ne:s.heap.objs.size≠s.heap.objs.size+1:=ai<|bb _;show⟨by rw[k8 ne,c0],bh _,ne,e2,λ_=>none,(Heap.Ns1.of_empty e3).at λo q=>ag _ q,λ_=>True.intro,λy hy=>absurd rfl hy⟩
def UX{prog:Program}{w:World}{env:Env}{e:Expr}{f:Str}{pos:Pos}{s:Shared}{Q:w1f}(hb:attributeBase e f env (eval e env)=eval e env)
    (h:wpAny (model prog w) A (eval e env) (λo s₁=>wpAny (model prog w) A (getAttr o f true) Q E s₁) E s):wpAny (model prog w) A (eval (.Attribute e f pos) env) Q E s:=
 Attribute_any_ h (by rw[arm_eval_Attribute,hb])
end
def tFld(K:aa)(ta:TE)(f:Str):TE:=λσ H Q=>ta σ H λx H1=>∃a C dx fs v,x=.ref a/\H1 a=some (.ins C dx fs)/\Mq K C/\Dh K C f/\fs.lookup f=some v/\Q v H1
def sFld(K:aa)(ta tv:TE)(f:Str):TS:=λD σ H=>tv σ H λy H1=>ta σ H1 λx H2=>∃a C dx fs,x=.ref a/\H2 a=some (.ins C dx fs)/\Mq K C/\Dh K C f/\fs.length < 1000/\
 D.nx σ (upd H2 a<|.ins C dx<|Bc f y fs)
section
variable{X:Cx}{o e value:Expr}{f:Str}{pos dP mI:Pos}{ta tv:TE}
def MW(he:PE X e ta)(hb:attributeBase e f X.env (eval e X.env)=eval e X.env):PE X (.Attribute e f pos) (tFld X.K ta f):=by intro aS s σ H Q I h;show UX hb<|B0 (he aS s σ H _ I h) λu s1 hζ=>?_;obtain⟨x,H1,I1,rx,a,C,dx,fs,v,ex,ea,c,n,l,q⟩:=hζ;subst ex;obtain rfl:u=Value.ref a:=rx;exact Nz I1 ea c n l λu' s2 I2 ru=>⟨v,H1,I2,ru,q⟩
def WN(ha:PE X o ta)(hv:PE X value tv)(hs:swapsWith value (some<|.Attribute o f dP) pos.line X.env=pure false):PS X (.Assign [.Attribute o f dP] value pos) (sFld X.K ta tv f):=by intro aS s σ H D I h;show plainObj_wpAny_Assign_Attribute (B0 (hv aS s σ H _ I h) λu s1 ⟨y,H1,I1,ry,q⟩=>B0 (ha aS s1 σ H1 _ I1 q) λov s2 hζ=>?_) hs;obtain⟨x,H2,I2,rx,a,C,dx,fs,ex,ea,c,n,l,q2⟩:=hζ;subst ex;obtain rfl:ov=Value.ref a:=rx;exact MK I2 ea c n l ry λs3 I3=>⟨σ,_,I3,q2⟩
def Vq{pl:Sem Bool}{m:Str}{dM:Pos}{args:List Expr}{aS:w1e}{s:Shared}{σ:St}{H:Hp}{Q:w1f}{te:TE}(he:PE X e te)(I:j5 X aS σ H s)
    (h:te σ H λx H1=>∃a C dx fs g,x=.ref a/\H1 a=some (.ins C dx fs)/\Mq X.K C/\Ik X.K C m g/\fs.lookup m=none/\
     ∀s1,j5 X aS σ H1 s1->wpAny (model X.prog X.w) X.A (callWith pos (.ref g) [.ref a] (backTo pos<|starEach args X.env)<|backToKw pos<|keywordEach [] X.env) Q X.xe s1)
    (ht:eval (.Call (.Attribute e m dM) args [] pos) X.env=(do
     let ov <- eval e X.env
     standAt dM.atName
     let(f,first) <- holding [ov] (getMethod ov m pl)
     callWith pos f first (backTo pos<|starEach args X.env) (backToKw pos<|keywordEach [] X.env))) :
    wpAny (model X.prog X.w) X.A (eval (.Call (.Attribute e m dM) args [] pos) X.env) Q X.xe s:=by
 show PySem.W.methodCall_KW (pl:=pl) (B0 (he aS s σ H _ I h) λu s1 hζ=>?_) ht;obtain⟨x,H1,I1,rx,a,C,dx,fs,g,ex,ea,c,k,l,q⟩:=hζ;subst ex;obtain rfl:u=Value.ref a:=rx;exact Dd I1 ea c k l (q s1 I1)
end
section
variable{X:Cx}{aS:w1e}{σ:St}{H:Hp}{s:Shared}{A:Around}{E:w1f}{Q:w1f}{c:Value}{b:Bool}
inductive J7(K:aa)(H:Hp):V->Value->Prop where
 | non:J7 K H .non (.type "NoneType")
 | bl (x:Bool):J7 K H (.bl x) (.type "bool")
 | int (i:Int):J7 K H (.int i) (.type "int")
 | str (x:Str):J7 K H (.str x) (.type "str")
 | flt (x:UInt64):J7 K H (.flt x) (.type "float")
 | lst {a:Addr} {xs:List V} (e:H a=some (.lst xs)):J7 K H (.ref a) (.type "list")
 | frz {a:Addr} {o:Obj} {xs:List V} (e:H a=some (.frz o<|.lst xs)):J7 K H (.ref a) (.type "list")
 | tup {a:Addr} {xs:List V} (e:H a=some (.tup xs)):J7 K H (.ref a) (.type "tuple")
 | dK {a:Addr} {aT:List (G6 × V)} (e:H a=some (.dK aT)):J7 K H (.ref a) (.type "dict")
 | dT {a:Addr} {aT:List (List G6 × V)} (e:H a=some (.dT aT)):J7 K H (.ref a) (.type "dict")
 | ins {a C dx:Addr} {fs:List (Str × V)} (e:H a=some (.ins C dx fs)) (cl:Mq K C) (ha:PySem.W.findIn K (.ref C) "__class__"=some (some<|.builtin "object.__class__"))
     (hn:PySem.W.specialIn K (.builtin "object.__class__") "__get__"=some (some<|.builtin "getset_descriptor.__get__")) (pJ:PySem.W.takesIn K (.builtin "object.__class__")=some true)
     (hm:PySem.W.mroIn K C (.type "object")=some true):J7 K H (.ref a) (.ref C)
def Qp{x:V}{u t:Value}(I:j5 X aS σ H s)(rx:w8 x u)(ty:J7 X.K H x t)(e:PySem.W.kitOne X.K t c=some b)(h:∀tk,Q (.bool b) { s with toks:=tk }) :
    wpAny (model X.prog X.w) A (call (.builtin "isinstance") [u,c]) Q E s:=by
 cases ty with
 | non=>cases (show u=Value.none from rx);exact aX PySem.W.kitx_none I.kIn True.intro e (λz=>nomatch z) h
 | bl y=>cases (show u=Value.bool y from rx);exact aX PySem.W.kitx_bool I.kIn True.intro e (λz=>nomatch z) h
 | int i=>obtain⟨t,q⟩:=(show ∃t,u=Value.int i t from rx);cases q;exact aX PySem.W.kitx_int I.kIn True.intro e (λz=>nomatch z) h
 | str y=>obtain⟨t,q⟩:=(show ∃t,u=Value.str y t from rx);cases q;exact aX PySem.W.kitx_str I.kIn True.intro e (λz=>nomatch z) h
 | flt y=>obtain⟨t,q⟩:=(show ∃t,u=Value.float y t from rx);cases q;exact aX PySem.W.kitx_float I.kIn True.intro e (λz=>nomatch z) h
 | @lst a xs ea=>
  cases (show u=Value.ref a from rx);obtain⟨_,_,n,_,h1⟩:=(show D1 X.prog X.w H s.heap a (.lst xs)from I.hok a _ ea);exact aX PySem.W.kitx_list I.kIn ⟨_,h1,Y⟩ e (λz=>nomatch z) h
 | @frz a ob xs ea=>
  cases (show u=Value.ref a from rx);obtain⟨_,_,_,n,_,h1⟩:=(show D1 X.prog X.w H s.heap a (.frz ob<|.lst xs)from I.hok a _ ea);exact aX PySem.W.kitx_list I.kIn ⟨_,h1,Y⟩ e (λz=>nomatch z) h
 | @tup a xs ea=>
  cases (show u=Value.ref a from rx);obtain⟨_,_,_,p,_⟩:=(show D1 X.prog X.w H s.heap a (.tup xs)from I.hok a _ ea);obtain⟨o,h1,h2,_⟩:=p;exact aX PySem.W.kitx_tuple I.kIn ⟨o,h1,h2⟩ e (λz=>nomatch z) h
 | @dK a aT ea=>
  cases (show u=Value.ref a from rx);obtain⟨_,_,vs,_,p⟩:=(show D1 X.prog X.w H s.heap a (.dK aT)from I.hok a _ ea);obtain⟨o,es,ep,h1,h2,_⟩:=p;exact aX PySem.W.kitx_dict I.kIn ⟨o,h1,h2.1⟩ e (λz=>nomatch z) h
 | @dT a aT ea=>
  cases (show u=Value.ref a from rx);obtain⟨_,_,xs,_,o,es,ep,h1,h2,_⟩:=(show D1 X.prog X.w H s.heap a (.dT aT)from I.hok a _ ea);exact aX PySem.W.kitx_dict I.kIn ⟨o,h1,h2.1⟩ e (λz=>nomatch z) h
 | @ins a C dx fs ea cl ha hn pJ hm=>
  cases (show u=Value.ref a from rx);obtain⟨mA,a1c,_⟩:=FL I.hok ea;obtain⟨od,J,_⟩:=a1c.look;exact aX (PySem.W.kitx_own (cl.get _) cl.hd ha hn pJ hm) I.kIn J e (λz=>nomatch z) h
end
structure G5(k:Nat)(A:Around):Prop where
 hd:A.handled=none
 dp:A.depth+3 * k+5 < recursionLimit
 un:A.units+16 * k+200 < cLine
def G5.mono{j k:Nat}{A:Around}(r:G5 k A)(h:j<=k):G5 j A:=⟨r.hd,by have:=r.dp;omega,by have:=r.un;omega⟩
theorem G5.deeper{k:Nat}{A:Around}(r:G5 (k+1) A)(env:Env):G5 k (A.deeper env):=
 ⟨r.hd,by have:=r.dp;show A.depth+1+3 * k+5 < _;omega,by have:=r.un;show A.units+3+16 * k+200 < _;omega⟩
def Nl{A:Around}{C:Addr}{us:w1j}{kw:List (Str × Value)}:(A.under<|.builtin "type.__call__" ⟨.ref C::us,kw⟩).depth=A.depth+1:=by
 first | rfl | simp[Around.under,Code.weight,Code.isCreation,Code.isGuard,Code.isCaller,Code.frames,Code.isFrame,guardIds]
def Nk{A:Around}{C:Addr}{us:w1j}{kw:List (Str × Value)}:(A.under<|.builtin "type.__call__" ⟨.ref C::us,kw⟩).units=A.units+1:=by
 first | rfl | simp[Around.under,Code.cUnits,Code.frames,Code.isFrame]
def G5.make{k:Nat}{A:Around}(r:G5 (k+1) A)(C:Addr)(us:w1j)(kw:List (Str × Value)):G5 k (A.under<|.builtin "type.__call__" ⟨.ref C::us,kw⟩):=
 ⟨r.hd,by have:=r.dp;rw[Nl];omega,by have:=r.un;rw[Nk];omega⟩
theorem G5.depth{k:Nat}{A:Around}(r:G5 k A):A.depth < recursionLimit:=by have:=r.dp;omega
theorem G5.units{k:Nat}{A:Around}(r:G5 k A):A.units+64 < cLine:=by have:=r.un;omega
def tNil:TA:=λ_ H Q=>Q [] H
def Q0(ta:TE)(tr:TA):TA:=λσ H Q=>ta σ H λx H1=>tr σ H1 λxs H2=>Q (x::xs) H2
section
variable{X:Cx}{e:Expr}{es:List Expr}{te:TE}{t:TA}{pos:Pos}
def P0:PA X [] tNil:=λ_ _ _ _ H Q I h=>Calls.spliced_nil ⟨[],H,I,.nil,h⟩
def D4(ha:PE X e te)(hr:PA X es t)(hs:starEach (e::es) X.env=(false,eval e X.env)::starEach es X.env:=by rfl):PA X (e::es) (Q0 te t):=by intro pos aS s σ H Q I h;rw[hs];show wpAny _ _ (spliced ((false,eval e X.env)::backTo pos (starEach es X.env))) _ _ s;show Calls.spliced_cons<|B0 (ha aS s σ H _ I h) λu s1 ⟨x,H1,I1,r1,q1⟩=>?_;exact B0 (hr pos aS s1 σ H1 _ I1 q1) λus s2 ⟨xs,H2,I2,r2,q2⟩=>⟨x::xs,H2,I2,.cons r1 r2,q2⟩
def tTup(t:TA):TE:=λσ H Q=>t σ H λxs H1=>xs.length<=sizeLine/\∀p,H1 p=none->Q (.ref p) (upd H1 p<|.tup xs)
def YN(t:TA):TE:=λσ H Q=>t σ H λxs H1=>xs.length<=sizeLine/\∀p,H1 p=none->Q (.ref p) (upd H1 p<|.lst xs)
def o8{x1}(h:PA X es t):PE X (.Tuple es x1 pos) (tTup t):=by intro aS s σ H Q I hq;show wpAny_Tuple_spliced (B0 (h pos aS s σ H _ I hq) λus s1 ⟨xs,H1,I1,r,z,q⟩=>⟨by rw[<- r.length];exact z,?_⟩);have hf:H1 s1.heap.objs.size=none:=I1.hok.fresh<|ae _;show⟨.ref s1.heap.objs.size,upd H1 s1.heap.objs.size<|.tup xs,I1.laid (t':=s1.toks) (λb u e=>ag _ e) (ae _) ?_,Y,q _ hf⟩;exact⟨z,us,r,⟨_,ak _ Y,Y,_,Y⟩,λ_=>⟨_,ak _ Y,Y⟩⟩
def K8(h:PA X es t):PE X (.List es pos) (YN t):=by intro aS s σ H Q I hq;show wpAny_List_spliced (B0 (h pos aS s σ H _ I hq) λus s1 ⟨xs,H1,I1,r,z,q⟩=>⟨by rw[<- r.length];exact z,?_⟩);have hf:H1 s1.heap.objs.size=none:=I1.hok.fresh<|ae _;show⟨.ref s1.heap.objs.size,upd H1 s1.heap.objs.size<|.lst xs,I1.laid (t':=s1.toks) (λb u e=>ag _ e) (ae _) ?_,Y,q _ hf⟩;exact⟨z,us,0,r,ak _ Y⟩
end
abbrev Sp:=List V->Hp->VK->XK->Prop
abbrev Mi:=List Env->Hp->Shared->XK->Value->Shared->Prop
structure NU(P:Program)(w:World)(K:aa)(mg:w1g)(base:Heap)(A:Around)(outer:List Env)(s:Shared)(H:Hp):Prop where
 frames:A.frames=some outer
 mod:Mod K mg base
 bs:∀b o,base.get? b=some o->s.heap.get? b=some o/\H b=none
 bsz:base.objs.size<=s.heap.objs.size
 funs:s.heap.FunFrames base outer
 frf:∀b∈E2 outer,H b=none
 hok:X7 P w H s.heap
 bare:AllBare s.gens
def CE(outer:List Env)(P:Program)(w:World)(H:Hp)(s:Shared)(Q:VK)(u:Value)(s':Shared):Prop:=
 ∃v H',s'.os=s.os/\AllBare s'.gens/\Un (E2 outer) [] H H' s.heap s'.heap/\X7 P w H' s'.heap/\w8 v u/\Q v H'
def CR(CX:Mi)(outer:List Env)(P:Program)(w:World)(H:Hp)(s:Shared)(Q:VK)(E:XK)(r:Result)(s':Shared):Prop:=
 match r with
 | .ok (.ret u)=>CE outer P w H s Q u s'
 | .ok _=>False
 | .error e=>CX outer H s E e s'
structure j2(P:Program)(w:World)(K:aa)(mg:w1g)(base:Heap)(CX:Mi)(k:Nat)(f:Addr)(fd:FuncData)(ps:w1i)(sp:Sp):Prop where
 len:∀vs H Q E,sp vs H Q E->vs.length=ps.length
 run:∀(A:Around) (outer:List Env) (s:Shared) (H:Hp) (args:Args) (us:w1j) (vs:List V) (Q:VK) (E:XK),G5 k A->NU P w K mg base A outer s H->BindsTo s fd args (ps.zip us)->m9 vs us->sp vs H Q E->
  codeAny (model P w) A (.call (.ref f) args) (CR CX outer P w H s Q E) s
theorem j2.mono{P:Program}{w:World}{K:aa}{mg:w1g}{base:Heap}{CX:Mi}{j k:Nat}{f:Addr}{fd:FuncData}{ps:w1i}{sp:Sp}(F:j2 P w K mg base CX j f fd ps sp)(h:j<=k) :
    j2 P w K mg base CX k f fd ps sp:=⟨F.len,λA outer s H args us vs Q E hr=>F.run A outer s H args us vs Q E<|hr.mono h⟩
def j2.imp{P:Program}{w:World}{K:aa}{mg:w1g}{base:Heap}{CX:Mi}{k:Nat}{f:Addr}{fd:FuncData}{ps:w1i}{sp jv:Sp}(F:j2 P w K mg base CX k f fd ps sp)
    (h:∀vs H Q E,jv vs H Q E->sp vs H Q E):j2 P w K mg base CX k f fd ps jv:=
 ⟨λvs H Q E q=>F.len vs H Q E<|h _ _ _ _ q,λA outer s H args us vs Q E hr he hb hv hs=>F.run A outer s H args us vs Q E hr he hb hv<|h _ _ _ _ hs⟩
def NU.make{P:Program}{w:World}{K:aa}{mg:w1g}{base:Heap}{A:Around}{outer:List Env}{s:Shared}{H:Hp}(e:NU P w K mg base A outer s H)(C:Addr)(us:w1j)(kw:List (Str × Value)) :
    NU P w K mg base (A.under<|.builtin "type.__call__" ⟨.ref C::us,kw⟩) outer s H:=⟨by first | exact e.frames | (simpa [Around.under,Code.envs,Code.isFrame,pushEnvs] using e.frames),e.mod,e.bs,e.bsz,e.funs,e.frf,e.hok,e.bare⟩
section
variable{X:Cx}{aS:w1e}{σ:St}{H:Hp}{s s':Shared}
def j5.env0(I:j5 X aS σ H s):NU X.prog X.w X.K X.mg X.base X.A X.stack s H:=
 ⟨I.ok.frames,I.ok.mod,I.bs,ah I.ok.bsz I.sz,I.stack,I.stkFree,I.hok,I.bare⟩
def j5.after{Q:VK}{u:Value}(I:j5 X aS σ H s)(h:CE X.stack X.prog X.w H s Q u s'):EP X aS σ Q u s':=by obtain⟨v,H',os,bare,un,hok,r,q⟩:=h;obtain⟨hh,g,d,t,mQ⟩:=s';obtain rfl:mQ=s.os:=os;exact⟨v,H',I.call (h':=hh) (g':=g) (d':=d) (t':=t) (ch:=[]) un hok bare (λb z=>absurd z<|by simp),r,q⟩
end
def Rc(sp:Sp)(el:List V)(E:XK)(t:TA):TE:=λσ H Q=>t σ H λvs H1=>sp (vs++el) H1 Q E
def Vd(C:Addr)(m:Str)(sp:Sp)(el:List V)(E:XK)(ta:TE)(t:TA):TE:=λσ H Q=>ta σ H λx H1=>∃a dx fs,x=.ref a/\H1 a=some (.ins C dx fs)/\fs.lookup m=none/\
 t σ H1 λvs H2=>sp (x::(vs++el)) H2 Q E
def YM(C:Addr)(sp:Sp)(el:List V)(E:XK)(t:TA):TE:=λσ H Q=>t σ H λvs H1=>∀x dx,H1 x=none->H1 dx=none->dx≠x->
 sp (.ref x::(vs++el)) (upd (upd H1 dx<|.own x) x<|.ins C dx []) (λv H2=>v=.non/\Q (.ref x) H2) E
def J1(K:aa)(fd:FuncData)(ps:w1i)(ds:w1j):Prop:=
 ∀(s:Shared) (us:w1j),K.In s.heap->(us++ds).length=ps.length->BindsTo s fd ⟨us,[]⟩ (ps.zip<|us++ds)
def J1.all{K:aa}{fd:FuncData}{ps:w1i}(h:∀us:w1j,us.length=ps.length->bindArgs fd ⟨us,[]⟩=pure (ps.zip us)):J1 K fd ps []:=λs us _ hl=>by
 rw[ck]at hl ⊢;exact .of_eq (h us hl)
def Dg(CX:Mi)(X:Cx)(E:XK):Prop:=∀(aS:w1e) (σ:St) (H:Hp) (s:Shared) (e:Value) (s':Shared),j5 X aS σ H s->CX X.stack H s E e s'->X.xe e s'
section
variable{X:Cx}{CX:Mi}{k:Nat}{f C:Addr}{fd:FuncData}{ps:w1i}{sp:Sp}{el:List V}{ds:w1j}{E:XK}{x m:Str}{p pos dM:Pos}{e o:Expr}{es:List Expr}{ta:TE}{t:TA}
def MQ{aS:w1e}{σ:St}{H:Hp}{s:Shared}{Q:VK}{us:w1j}{vs:List V}(F:j2 X.prog X.w X.K X.mg X.base CX k f fd ps sp)(hr:G5 k X.A)(hb:J1 X.K fd ps ds)(hd:m9 el ds)(hx:Dg CX X E)
    (I:j5 X aS σ H s) (r:m9 vs us) (h:sp (vs++el) H Q E):wpAny (model X.prog X.w) X.A (call (.ref f) us) (EP X aS σ Q) X.xe s:=by
 have r2:m9 (vs++el) (us++ds):=r.append hd;have hl:(us++ds).length=ps.length:=by rw[<- r2.length];exact F.len _ _ _ _ h
 show wpAny_call<|codeAny_mono (F.run X.A X.stack s H ⟨us,[]⟩ (us++ds) (vs++el) Q E hr I.env0 (hb s us I.kIn hl) r2 h) λr s' hq=>?_;cases r with
 | error e=>exact hx aS σ H s e s' I hq
 | ok fl=>
  cases fl with
  | ret u=>exact I.after hq
  | next=>exact False.elim hq
  | brk=>exact False.elim hq
  | cont=>exact False.elim hq
def j8(F:j2 X.prog X.w X.K X.mg X.base CX k f fd ps sp)(hr:G5 k X.A)(hg:Gl X x)(hm:X.mg x=some (.ref f))(hk:PySem.W.keepIn X.K (.ref f)=true)(hb:J1 X.K fd ps ds)(hd:m9 el ds)(hx:Dg CX X E)
    (ha:PA X (e::es) t) (fA:(x == ("__debug__":Str))=false:=by decide) (he:starEach (e::es) X.env=(false,eval e X.env)::starEach es X.env:=by rfl) (fb:(backTo pos<|starEach es X.env).any (·.1)=false:=by rfl) :
    PE X (.Call (.Name x p) (e::es) [] pos) (Rc sp el E t):=by
 intro aS s σ H Q I h;show wpAny_Call_Name_kw<|Av I hg hm ?_ fA;show cK (h₀:=X.base) I.ok.mod.kin hk (B0 (ha pos aS s σ H _ I h) λus s1 ⟨vs,H1,I1,r,q⟩=>⟨I1.kIn,?_⟩) he fb;exact MQ F hr hb hd hx I1 r q
def FJ{pl:Sem Bool}(he:PE X o ta)(c:Mq X.K C)(hm:Ik X.K C m f)(F:j2 X.prog X.w X.K X.mg X.base CX k f fd ps sp)(hr:G5 k X.A)(hb:J1 X.K fd ps ds)(hd:m9 el ds)(hx:Dg CX X E)(ha:PA X (e::es) t)
    (fK:starEach (e::es) X.env=(false,eval e X.env)::starEach es X.env:=by rfl) (fb:(backTo pos<|starEach es X.env).any (·.1)=false:=by rfl)
    (ht:eval (.Call (.Attribute o m dM) (e::es) [] pos) X.env=(do
     let ov <- eval o X.env
     standAt dM.atName
     let(f,first) <- holding [ov] (getMethod ov m pl)
     callWith pos f first (backTo pos<|starEach (e::es) X.env) (backToKw pos<|keywordEach [] X.env)):=by rfl) :
    PE X (.Call (.Attribute o m dM) (e::es) [] pos) (Vd C m sp el E ta t):=by
 intro aS s σ H Q I h;show PySem.W.methodCall_KW (pl:=pl) (B0 (he aS s σ H _ I h) λu s1 hζ=>?_) ht;obtain⟨x,H1,I1,rx,a,dx,fs,ex,ea,l,q⟩:=hζ;subst ex;obtain rfl:u=Value.ref a:=rx;show Dd I1 ea c hm l ?_;show cK (first:=[.ref a]) (h₀:=X.base) I.ok.mod.kin hm.kp (B0 (ha pos aS s1 σ H1 _ I1 q) λus s2 ⟨vs,H2,I2,r,q2⟩=>⟨I2.kIn,?_⟩) fK fb;exact MQ (us:=.ref a::us) (vs:=.ref a::vs) F hr hb hd hx I2 (.cons Y r) q2
def Y6{pl:Sem Bool}(he:PE X o ta)(c:Mq X.K C)(hm:Ik X.K C m f)(F:j2 X.prog X.w X.K X.mg X.base CX k f fd ps sp)(hr:G5 k X.A)(hb:J1 X.K fd ps ds)(hd:m9 el ds)(hx:Dg CX X E)
    (ht:eval (.Call (.Attribute o m dM) [] [] pos) X.env=(do
     let ov <- eval o X.env
     standAt dM.atName
     let(f,first) <- holding [ov] (getMethod ov m pl)
     callWith pos f first (backTo pos<|starEach [] X.env) (backToKw pos<|keywordEach [] X.env)):=by rfl) :
    PE X (.Call (.Attribute o m dM) [] [] pos) (Vd C m sp el E ta tNil):=by
 intro aS s σ H Q I h;show PySem.W.methodCall_KW (pl:=pl) (B0 (he aS s σ H _ I h) λu s1 hζ=>?_) ht;obtain⟨x,H1,I1,rx,a,dx,fs,ex,ea,l,q⟩:=hζ;subst ex;obtain rfl:u=Value.ref a:=rx;show Dd I1 ea c hm l ?_;exact PySem.W.callWith_K0 (first:=[.ref a]) I1.kIn hm.kp (MQ (us:=[.ref a]) (vs:=[.ref a]) F hr hb hd hx I1 (.cons Y .nil) q)
structure Mk(K:aa)(C f:Addr):Prop where
 makes:PySem.W.makesIn K C=true
 init:PySem.W.findIn K (.ref C) "__init__"=some (some<|.ref f)
 fn:PySem.W.isFn K (.ref f)=true
 kp:PySem.W.keepIn K (.ref C)=true
def RI{aS:w1e}{σ:St}{H:Hp}{s:Shared}{Q:VK}{us:w1j}{vs:List V}(M:Mk X.K C f)(F:j2 X.prog X.w X.K X.mg X.base CX k f fd ps sp)(hr:G5 (k+1) X.A)(hb:J1 X.K fd ps ds)(hd:m9 el ds)
    (hx:Dg CX X E) (I:j5 X aS σ H s) (r:m9 vs us)
    (h:∀x dx,H x=none->H dx=none->dx≠x->sp (.ref x::(vs++el)) (upd (upd H dx<|.own x) x<|.ins C dx []) (λv H2=>v=.non/\Q (.ref x) H2) E) :
    wpAny (model X.prog X.w) X.A (call (.ref C) us) (EP X aS σ Q) X.xe s:=by
 have hq:=h (s.heap.objs.size+1) s.heap.objs.size (I.hok.fresh<|aY _) (I.hok.fresh<|ae _)<|ai<|bb _;have I2:=j5.made (C:=C) I;have r2:m9 (V.ref (s.heap.objs.size+1)::(vs++el)) (Value.ref (s.heap.objs.size+1)::(us++ds)):=.cons rfl<|r.append hd;have hl:(Value.ref (s.heap.objs.size+1)::us++ds).length=ps.length:=by have e:=r2.length;rw[F.len _ _ _ _ hq]at e;exact e.symm
 show wpAny_call (Sz (f:=f) I.kIn M.makes M.init (beq_iff_eq.mp M.fn) (codeAny_mono (F.run _ X.stack _ _ ⟨Value.ref (s.heap.objs.size+1)::us,[]⟩ (Value.ref (s.heap.objs.size+1)::(us++ds)) _ _ E (hr.make C us [])
  (I2.env0.make C us []) (hb _ (Value.ref (s.heap.objs.size+1)::us) I2.kIn hl) r2 hq) λr s' gc=>?_))
 cases r with
 | error e=>exact hx aS σ _ _ e s' I2 gc
 | ok fl=>
  cases fl with
  | ret u=>
   obtain⟨v,H',I3,rv,ev,q3⟩:=I2.after gc;subst ev;exact⟨rv,⟨V.ref<|s.heap.objs.size+1,H',I3,Y,q3⟩⟩
  | next=>exact False.elim gc
  | brk=>exact False.elim gc
  | cont=>exact False.elim gc
def Uq(M:Mk X.K C f)(F:j2 X.prog X.w X.K X.mg X.base CX k f fd ps sp)(hr:G5 (k+1) X.A)(hg:Gl X x)(hm:X.mg x=some (.ref C))(hb:J1 X.K fd ps ds)(hd:m9 el ds)(hx:Dg CX X E)
    (ha:PA X (e::es) t) (fA:(x == ("__debug__":Str))=false:=by decide) (he:starEach (e::es) X.env=(false,eval e X.env)::starEach es X.env:=by rfl) (fb:(backTo pos<|starEach es X.env).any (·.1)=false:=by rfl) :
    PE X (.Call (.Name x p) (e::es) [] pos) (YM C sp el E t):=by
 intro aS s σ H Q I h;show wpAny_Call_Name_kw<|Av I hg hm ?_ fA;show cK (h₀:=X.base) I.ok.mod.kin M.kp (B0 (ha pos aS s σ H _ I h) λus s1 ⟨vs,H1,I1,r,q⟩=>⟨I1.kIn,?_⟩) he fb;exact RI M F hr hb hd hx I1 r q
end
section
variable{X:Cx}{CX:Mi}{k:Nat}{f C:Addr}{fd:FuncData}{ps ks:w1i}{sp:Sp}{E:XK}{x m:Str}{p pos dM vE:Pos}{e o:Expr}{es:List Expr}{yb:List Keyword}{te ta:TE}{t tk:TA}{nm:Option Str}
structure KBinds(K:aa)(fd:FuncData)(ps ks:w1i)(g:w1j->List Value->List Value)(gV:List V->List V->List V):Prop where
 to:∀(s:Shared) (us ws:w1j),K.In s.heap->(g us ws).length=ps.length->BindsTo s fd ⟨us,ks.zip ws⟩ (ps.zip<|g us ws)
 rel:∀{vs:List V} {us:w1j} {zs:List V} {ws:w1j},m9 vs us->m9 zs ws->m9 (gV vs zs) (g us ws)
variable{g:w1j->List Value->List Value}{gV:List V->List V->List V}
end
structure c8(N P:w1i)(sc:Scope):Prop where
 kind:sc.kind=.function
 co:sc.isCoroutine=false
 gen:sc.isGenerator=false
 nd:N.Nodup
 pre:N.take P.length=P
 par:∀x∈P,sc.names.lookup x=some .local\/sc.names.lookup x=some .cell
 nofree:∀y∈sc.names,y.2≠.free
theorem IT{kindOf:Str->Option NameKind}{x:Str}:∀{binds:List (Str × Value)} {m:w1g},(∀v,(x,v) ∉ binds)->bindL kindOf binds m x=m x
 | [],_,_=>rfl
 | (n,v)::r,m,h=>by
  unfold bindL;rw[IT λw hw=>h w<|aG _ hw];split
  . have:x≠n:=by rintro rfl;exact h v aF
    simp[this]
  . rfl
theorem IV{kindOf:Str->Option NameKind}{x:Str}:∀{binds:List (Str × Value)} {m:w1g},(∀v,(x,v) ∉ binds)->bindC kindOf binds m x=m x
 | [],_,_=>rfl
 | (n,v)::r,m,h=>by
  unfold bindC;rw[IV λw hw=>h w<|aG _ hw];split
  . rfl
  . have:x≠n:=by rintro rfl;exact h v aF
    simp[this]
theorem IU{kindOf:Str->Option NameKind}{x:Str}{v:Value}:∀{P:w1i} {vs:w1j} {i:Nat} {m:w1g},P.Nodup->P[i]? = some x->vs[i]? = some v->kindOf x=some .local->
    bindL kindOf (P.zip vs) m x=some v
 | [],_,_,_,_,h,_,_=>by simp at h
 | _::_,[],_,_,_,_,h,_=>by simp at h
 | p::P,w::vs,0,m,nd,h1,h2,hk=>by
  simp at h1 h2;subst h1;subst h2;show bindL kindOf ((p,w)::P.zip vs) m p=_;unfold bindL;rw[IT λv hv=>(List.nodup_cons.mp nd).1 (List.of_mem_zip hv).1,if_pos hk];simp
 | p::P,w::vs,i+1,m,nd,h1,h2,hk=>by
  show bindL kindOf ((p,w)::P.zip vs) m x=_;unfold bindL;exact IU (i:=i) (List.nodup_cons.mp nd).2 (by simpa using h1) (by simpa using h2) hk
theorem IW{kindOf:Str->Option NameKind}{x:Str}{v:Value}:∀{P:w1i} {vs:w1j} {i:Nat} {m:w1g},P.Nodup->P[i]? = some x->vs[i]? = some v->kindOf x≠some .local->
    bindC kindOf (P.zip vs) m x=some v
 | [],_,_,_,_,h,_,_=>by simp at h
 | _::_,[],_,_,_,_,h,_=>by simp at h
 | p::P,w::vs,0,m,nd,h1,h2,hk=>by
  simp at h1 h2;subst h1;subst h2;show bindC kindOf ((p,w)::P.zip vs) m p=_;unfold bindC;rw[IV λv hv=>(List.nodup_cons.mp nd).1 (List.of_mem_zip hv).1,if_neg hk];simp
 | p::P,w::vs,i+1,m,nd,h1,h2,hk=>by
  show bindC kindOf ((p,w)::P.zip vs) m x=_;unfold bindC;exact IW (i:=i) (List.nodup_cons.mp nd).2 (by simpa using h1) (by simpa using h2) hk
def BZ(N:w1i)(vs:List V):St:=vs.map some++List.replicate (N.length - vs.length) none
def Kf(CX:Mi)(P:Program)(w:World)(K:aa)(mg:w1g)(base:Heap)(N:w1i)(qual:Str)(scope:Scope)(f:Addr)(cd:Value)(A:Around)(outer:List Env)(s:Shared)(H:Hp)(E:XK):Cx where
 prog:=P
 w:=w
 K:=K
 mg:=mg
 base:=base
 A:=A.deeper (envOfC qual scope s.heap.objs.size f cd)
 N:=N
 s₀:=s
 H₀:=H
 env:=envOfC qual scope s.heap.objs.size f cd
 outer:=outer
 stack:=envOfC qual scope s.heap.objs.size f cd::outer
 ex:=[]
 calm:=true
 fn:=λ_=>true
 pn:=[]
 xe:=λe s'=>wpAny (model P w) (A.deeper<|envOfC qual scope s.heap.objs.size f cd) (leaving (envOfC qual scope s.heap.objs.size f cd) e) (λ_ eE=>CX outer H s E e eE) (λe' eE=>CX outer H s E e' eE) s'
def Mc{sc:Scope}{n:Nat}{x:Str}(h:sc.names.lookup x=some .cell):∃c,(cellsFrom n sc.names []).lookup x=some c:=by have q:=PySem.W.cellsFrom_some sc.names n []<|.inl h;exact Option.isSome_iff_exists.mp q
def Qu{CX:Mi}{P:Program}{w:World}{K:aa}{mg:w1g}{base:Heap}{N ps:w1i}{qual:Str}{scope:Scope}{f:Addr}{cd:Value}{A:Around}{outer:List Env}{s s1:Shared}{H:Hp}{E:XK}{us:w1j}{vs:List V}
    (S:c8 N ps scope) (hd:A.handled=none) (e0:NU P w K mg base A outer s H) (hl:vs.length=ps.length) (r:m9 vs us)
    (x:InCallC s s.heap.objs.size (bindL (envOfC qual scope s.heap.objs.size f cd).kindOf (ps.zip us) λ_=>none) (cellsFrom (s.heap.objs.size+1) scope.names []) (bindC (envOfC qual scope s.heap.objs.size f cd).kindOf (ps.zip us) λ_=>none) s1) :
    j5 (Kf CX P w K mg base N qual scope f cd A outer s H E) [] (BZ N vs) H s1:=by
 have fb:ps.length<=N.length:=by have:=congrArg List.length S.pre;rw[aM]at this;omega
 obtain⟨h1,tk,rfl,hk⟩:=x.done;have jB:∀b:Addr,b ∉ (Kf CX P w K mg base N qual scope f cd A outer s H E).ex:=λb z=>absurd (show b∈([]:List Addr)from z) (by simp);show⟨⟨e0.mod,S.kind,Y,Y,ae _,λy z c h1 h2=>?_,λy hy=>?_,λy c _ h=>?_,λ_=>hd,Around.frames_deeper e0.frames,.inr ⟨Y,Y⟩,λb z=>absurd z<|jB b,e0.bs,e0.bsz,λb _ _=>jB b,λb z=>absurd z<|jB b,e0.funs,e0.frf⟩,
  rfl,e0.bare,Un.kept hk,⟨_,x.toInCall.ns,λi y v h1 h2 h3=>?_⟩,λy c h=>⟨_,x.cell y c h⟩,e0.hok.fresh (ae _),λy c h=>?_,λp hp=>absurd (show p∈([]:w1e)from hp) (by simp),e0.hok.kept hk,?_⟩
 . exact name_of_addr x.apart (aU h1) (aU h2)
 . have hy:scope.names.lookup y=some .cell\/scope.names.lookup y=some .free:=hy;rcases hy with hy | hy
   . exact Mc hy
   . exact absurd rfl (S.nofree _<|aU hy)
 . exact bw (x.above y c<|aU h)
 . have hi:i < vs.length:=by
    unfold BZ at h2;by_cases hi:i < vs.length
    . exact hi
    . rw[bc<|by simpa using hi]at h2;rw[cM]at h2;split at h2 <;>cases h2
   have ha:vs[i]? = some v:=by
    unfold BZ at h2;rw[aR (by simpa using hi),bz]at h2;cases e:vs[i]? with
    | none=>rw[e]at h2;cases h2
    | some a=>rw[e]at h2;cases h2;rfl
   obtain⟨u,hu,rv⟩:=r.get ha;have hp:ps[i]? = some y:=by rw[<- S.pre,List.getElem?_take_of_lt Z];exact h1
   have pF:ps.Nodup:=by rw[<- S.pre];exact S.nd.sublist (List.take_sublist _ _)
   show⟨u,rv,?_⟩;rcases S.par y (aI hp)with k | k
   . exact .inl ⟨k,IU pF hp hu k⟩
   . obtain⟨c,e⟩:=Mc (n:=s.heap.objs.size+1) k;show .inr ⟨.inl k,c,e,?_⟩;have q:=x.cell y c e;rw[IW pF hp hu<|by show scope.names.lookup y≠_;rw[k];decide]at q;exact q
 . exact e0.hok.fresh (bw<|x.above y c<|aU h)
 . unfold BZ;show _=N.length;rw[ar,aD,cP];omega
def Vs{CX:Mi}{P:Program}{w:World}{K:aa}{mg:w1g}{base:Heap}{k:Nat}{f:Addr}{name qual:Str}{params:Arguments}{body:List Stmt}{scope:Scope}{dV kV fc pm dR ct oc:Value}{an od:Option Addr}
    {gF:Array (Option Value)} {N ps:w1i} {sp:Sp} (lk:K.lookup f=some ⟨oc,od,.func<|PySem.W.fnOf name qual params body scope dV kV fc pm an dR ct,gF⟩) (fX:PySem.W.codeIn K dR qual=true) (S:c8 N ps scope)
    (len:∀vs H Q E,sp vs H Q E->vs.length=ps.length)
    (eQ:∀(A:Around) (outer:List Env) (s:Shared) (H:Hp) (vs:List V) (Q:VK) (E:XK),G5 k (A.deeper<|envOfC qual scope s.heap.objs.size f dR)->sp vs H Q E->
     ∃t,Kt (Kf CX P w K mg base N qual scope f dR A outer s H E) body t/\t { nx:=λ_ H'=>Q .non H',rt:=Q } (BZ N vs) H) :
    j2 P w K mg base CX (k+1) f (PySem.W.fnOf name qual params body scope dV kV fc pm an dR ct) ps sp:=by
 show⟨len,λA outer s H args us vs Q E hr e0 hb r fB=>?_⟩;have hl:=len _ _ _ _ fB;have KX:K.In s.heap:=e0.mod.kin.keeps λb o e=>(e0.bs b o e).1;have vD:s.heap.NoLimit:=e0.mod.nolimit.keeps λb o e=>(e0.bs b o e).1;have fz:∀y∈ps.zip us,scope.names.lookup y.1=some .local\/(scope.names.lookup y.1=some .cell/\((cellsFrom (s.heap.objs.size+1) scope.names []).lookup y.1).isSome=true):=λ⟨n,v⟩ hy=>by
  rcases S.par n (List.of_mem_zip hy).1 with q | q
  . exact .inl q
  . exact .inr ⟨q,PySem.W.cellsFrom_some _ _ _<|.inl q⟩
 show codeAny_call_function hr.depth (KX _ _ lk) rfl S.co S.gen rfl (PySem.W.codeRec_of KX fX)<|hb _ _ _ _ ?_;show wpAny_newFunctionEnv_cells S.kind fz λenv he s1 x=>?_;subst he;show⟨vD.keeps x.toInCall.keep,codeAny_func ?_⟩;obtain⟨t,ht,hq⟩:=eQ A outer s H vs Q E (hr.deeper _) fB;have I:j5 (Kf CX P w K mg base N qual scope f dR A outer s H E) [] (BZ N vs) H s1:=Qu S hr.hd e0 hl r x;show wpAny_mono (ht [] s1 (BZ N vs) H _ I hq) (λfl s' hs=>?_) λe s' hs=>hs;have dW:∀{σ':St} {H':Hp} {v:V} {u:Value},j5 (Kf CX P w K mg base N qual scope f dR A outer s H E) [] σ' H' s'->w8 v u->Q v H'->CE outer P w H s Q u s':=
  λ{σ' H' v u} J rv q=>⟨v,H',J.os,J.bare,J.base,J.hok,rv,q⟩
 cases fl with
 | ret u=>
  obtain⟨v,σ',H',J,rv,q⟩:=hs;exact dW J rv q
 | next=>
  obtain⟨σ',H',J,q⟩:=hs;exact dW (v:=V.non) (u:=Value.none) J rfl q
 | brk=>
  obtain⟨_,_,_,q⟩:=hs;exact False.elim q
 | cont=>
  obtain⟨_,_,_,q⟩:=hs;exact False.elim q
section
variable{X:Cx}{x:Str}{p pos:Pos}{e:Expr}{es:List Expr}{t:TA}{id T:String}{r:List V->Hp->VK->Prop}
def YU(r:List V->Hp->VK->Prop)(t:TA):TE:=λσ H Q=>t σ H λvs H1=>r vs H1 Q
def i0(hc:O2 X (.builtin id) r)(hg:Gl X x)(hm:X.mg x=none)(hv:bootBuiltins x=some (.builtin id))(ha:PA X (e::es) t)(hn:x≠"__name__":=by decide)(fA:(x == ("__debug__":Str))=false:=by decide)
    (he:starEach (e::es) X.env=(false,eval e X.env)::starEach es X.env:=by rfl) (fb:(backTo pos<|starEach es X.env).any (·.1)=false:=by rfl):PE X (.Call (.Name x p) (e::es) [] pos) (YU r t):=by
 intro aS s σ H Q I h;show wpAny_Call_Name_kw<|X1 I hg hm hv ?_ hn fA;exact PyProof.Rows.callWith_builtin1 (B0 (ha pos aS s σ H _ I h) λus s1 ⟨vs,H1,I1,r1,q1⟩=>hc aS s1 σ H1 vs us Q I1 r1 q1) he fb
def o6(hc:O2 X (.type T) r)(hg:Gl X x)(hm:X.mg x=none)(hv:bootBuiltins x=some (.type T))(ha:PA X (e::es) t)(hn:x≠"__name__":=by decide)(fA:(x == ("__debug__":Str))=false:=by decide)
    (he:starEach (e::es) X.env=(false,eval e X.env)::starEach es X.env:=by rfl) (fb:(backTo pos<|starEach es X.env).any (·.1)=false:=by rfl):PE X (.Call (.Name x p) (e::es) [] pos) (YU r t):=by
 intro aS s σ H Q I h;show wpAny_Call_Name_kw<|X1 I hg hm hv ?_ hn fA;exact bP (B0 (ha pos aS s σ H _ I h) λus s1 ⟨vs,H1,I1,r1,q1⟩=>hc aS s1 σ H1 vs us Q I1 r1 q1) he fb
end
end L2
namespace HT
open PySem PyProof.Rows
section
open PySem.SeqAt
open PySem.AutoSeq1 (wpAny_loadPart')
open PySem.MeetsSeq PySem.MeetsSeq2 PySem.MeetsSeq3
end
section
variable{prog:Program}{w:World}{A:Around}{E:w1f}{s:Shared}
def US{t b:Addr}{vs ws:w1j}{Q:w1f}(ht:IsTup s.heap t vs.toArray)(hb:IsTup s.heap b ws.toArray)(hv:vs≠[])
    (h1:ws=[]->Q (.ref t) s) (h2:ws≠[]->Q (.ref s.heap.objs.size) { s with heap:=s.heap.push { cls:=.type "tuple",data:=.seq (vs++ws).toArray } })
    (hsz:vs.length+ws.length<=sizeLine):wpAny (model prog w) A (binaryOp .Add (.ref t)<|.ref b) Q E s:=by
 obtain⟨⟨cls,dd,data,sl⟩,ho,hc,n,hd⟩:=id ht;obtain⟨⟨oR,jo,data2,jc⟩,iR,ke,n2,gA⟩:=id hb;simp only at hc hd ke gA;subst hc hd ke gA;have e:vs.toArray++ws.toArray=(vs++ws).toArray:=by simp
 by_cases hw:ws=[]
 . exact concat_meets ⟨_,ho,Y⟩ ⟨_,iR,Y⟩ noFill_tuple_add seq_tuple_add dg dh (di _ _)
    (tuple_addW1 t b vs.toArray ws.toArray n n2 dd jo sl jc (by simpa using hv)<|by simp[hw]) ⟨ho,iR,h1 hw⟩
 . show concat_meets ⟨_,ho,Y⟩ ⟨_,iR,Y⟩ noFill_tuple_add seq_tuple_add dg dh (di _ _)
    (tuple_addW2 t b vs.toArray ws.toArray n n2 dd jo sl jc (by simpa using hv) (by simpa using hw)<|by rw[aj,aj];exact hsz) ⟨ho,iR,?_⟩
   rw[e];exact h2 hw
def N8(n d:Nat):Option Int->Nat
 | none=>d
 | some v=>if v < 0 then(v+(n:Int)).toNat else min v.toNat n
def Le(n d:Nat):N8 n d none=d:=rfl
def Om(n d k:Nat):N8 n d (some (k:Int))=min k n:=by show(if(k:Int) < 0 then((k:Int)+(n:Int)).toNat else min (k:Int).toNat n)=min k n;rw[if_neg Z,Int.toNat_natCast]
def VU(n d:Nat)(hd:d<=n)(o:Option Int):N8 n d o<=n:=by
 cases o with
 | none=>exact hd
 | some v=>
  show(if v < 0 then(v+(n:Int)).toNat else min v.toNat n)<=n;by_cases hv:v < 0
  . rw[if_pos hv];omega
  . rw[if_neg hv];exact Nat.min_le_right _ _
def OL(v:Int)(n d:Nat):(if v < 0 then max (v+(n:Int)) 0 else min v (n:Int))=((N8 n d (some v):Nat):Int):=by
 show(if v < 0 then max (v+(n:Int)) 0 else min v (n:Int))=(((if v < 0 then(v+(n:Int)).toNat else min v.toNat n):Nat):Int);by_cases hv:v < 0
 . simp only[if_pos hv];omega
 . simp only[if_neg hv];omega
def NP(lo hi:Option Int)(n:Nat):Builtin.Slice.sliceAdjust lo hi 1 (n:Int)=(((N8 n 0 lo:Nat):Int),((N8 n n hi:Nat):Int)):=by
 have h1:¬((1:Int) < 0):=by omega
 unfold Builtin.Slice.sliceAdjust;simp only[h1,if_false];show Prod.ext ?_ ?_
 . cases lo with
   | none=>rfl
   | some v=>exact OL v n 0
 . cases hi with
   | none=>rfl
   | some v=>exact OL v n n
def MV(i j:Nat):Builtin.Slice.slicePlaces (i:Int) (j:Int) 1=j - i:=by
 unfold Builtin.Slice.slicePlaces;have h1:(1:Int) > 0:=by omega
 simp only[h1,if_true,Int.ediv_one];split <;>omega
def FZ{v:Value}{o:Option Int}{Q:Option Int->Shared->Prop}(p:IsPart v o)(h:Q o s):wpAny (model prog w) A (Builtin.Slice.slicePartIndex v) Q E s:=by
 cases p with
 | none=>exact slicePart_none h
 | int i t=>exact slicePart_int h
def Y3{sl:Addr}{vl vu:Value}{lo hi:Option Int}{n:Nat}{Q:Int × Int × Nat->Shared->Prop}(hs:s.heap.IsSliceOf sl vl vu .none)(pl:IsPart vl lo)(pu:IsPart vu hi)
    (h:Q (((N8 n 0 lo:Nat):Int),1,N8 n n hi - N8 n 0 lo) s):wpAny (model prog w) A (Builtin.Slice.sliceApplied (.ref sl)<|pure (n:Int)) Q E s:=by
 obtain⟨os,iP,jj,jW⟩:=id hs;unfold Builtin.Slice.sliceApplied Builtin.Slice.sliceFields;show wpAny_bind<|wpAny_bind<|wpAny_field iP jW (x:=vl) Y<|wpAny_bind<|wpAny_field iP jW (x:=vu) Y<|wpAny_bind<|wpAny_field iP jW (x:=.none) Y<|wpAny_pure ?_;show wpAny_bind<|slicePart_none ?_;show wpAny _ _ (if((1:Int) == 0)=true then _ else _) _ _ s;rw[if_neg bD];show wpAny_bind<|FZ pl<|wpAny_bind<|FZ pu<|wpAny_bind<|wpAny_pure ?_;show wpAny _ _ (match Builtin.Slice.sliceAdjust lo hi 1 (n:Int)with | (lo,hi)=>pure (lo,(1:Int),Builtin.Slice.slicePlaces lo hi 1)) _ _ s;rw[NP lo hi n];show wpAny _ _ (pure (((N8 n 0 lo:Nat):Int),(1:Int),Builtin.Slice.slicePlaces ((N8 n 0 lo:Nat):Int) ((N8 n n hi:Nat):Int) 1)) _ _ s;rw[MV];exact wpAny_pure h
def RQ(xs:Array Value)(i k:Nat):((List.range k).filterMap λ(m:Nat)=>xs[((i:Int)+(m:Int) * 1).toNat]?).toArray=((xs.toList.drop i).take k).toArray:=by
 have e:(λ(m:Nat)=>xs[((i:Int)+(m:Int) * 1).toNat]?)=λm=>xs[i+m]? := by
  funext m;have:((i:Int)+(m:Int) * 1).toNat=i+m:=by omega
  rw[this]
 rw[e];have:=pick_run xs i k;rw[List.filterMap_map]at this;have e2:((λx=>xs[x]?) ∘ λx=>i+x)=λm=>xs[i+m]? := rfl;rw[e2]at this;rw[this]
def Ea{t sl:Addr}{items:Array Value}{vl vu:Value}{lo hi:Option Int}{Q:w1f}(ht:IsTup s.heap t items)(hs:s.heap.IsSliceOf sl vl vu .none)(pl:IsPart vl lo)(pu:IsPart vu hi)
    (hw:¬(N8 items.size 0 lo=0/\N8 items.size items.size hi=items.size))
    (h:Q (.ref s.heap.objs.size) { s with heap:=s.heap.push { cls:=.type "tuple",data:=.seq ((items.toList.drop<|N8 items.size 0 lo).take<|N8 items.size items.size hi - N8 items.size 0 lo).toArray } })
    (hsz:items.size<=sizeLine):wpAny (model prog w) A (getItem (.ref t)<|.ref sl) Q E s:=by
 have fQ:sizeOk (.seq ((items.toList.drop<|N8 items.size 0 lo).take<|N8 items.size items.size hi - N8 items.size 0 lo).toArray):=by show((items.toList.drop<|N8 items.size 0 lo).take<|N8 items.size items.size hi - N8 items.size 0 lo).toArray.size<=sizeLine;rw[aj,aM,aK,Array.length_toList];omega
 have hj:N8 items.size items.size hi<=items.size:=VU _ _ (ae _) hi;obtain⟨os,iP,jj,jW⟩:=id hs;have oi:s.TypeIs (.ref sl) "slice":=⟨os,iP,jj⟩;unfold getItem
 try with_reducible show wpAny_holding ?_
 first | show wpAny_bind (wpAny_pure ?_) | skip
 show wpAny_bind<|wpAny_sequenceKey ht.typeIs bD ?_;show wpAny_bind (wpAny_callSpecial?_slot (name:=Str.ofString "__getitem__") ht.typeIs cQ
  (wpAny_call_entry cQ ht.typeIs entry_tuple_getitem ?_<|args_tuple_getitem _ _))
 show wpAny _ _ (Builtin.Tuple.tupleItemsOf (.ref t) >>= _) _ _ s;show wpAny_bind<|tupleItemsOf_ ht ?_;show wpAny_bind<|wpAny_typeOf oi ?_;rw[if_pos bD];show wpAny_bind<|Y3 hs pl pu ?_;have wH:¬((((N8 items.size 0 lo:Nat):Int) == 0 && (1:Int) == 1 && (N8 items.size items.size hi - N8 items.size 0 lo) == items.size)=true):=by intro q;rw[cR,cR]at q;have q1:((N8 items.size 0 lo:Nat):Int)=0:=eq_of_beq q.1.1;have q2:N8 items.size items.size hi - N8 items.size 0 lo=items.size:=eq_of_beq q.2;exact hw ⟨Z,Z⟩
 show wpAny _ _ (if(((N8 items.size 0 lo:Nat):Int) == 0 && (1:Int) == 1 && (N8 items.size items.size hi - N8 items.size 0 lo) == items.size)=true then _ else _) _ _ s;rw[if_neg wH,RQ]
 first
  | exact wpAny_bind (m:=Builtin.Tuple.tupleExact _) (wpAny_newObj_type (wpAny_pure ⟨_,rfl,wpAny_pure h⟩) fQ)
  | exact wpAny_bind (m:=Builtin.Tuple.tupleExact _) (wpAny_newObj_type (wpAny_bind<|wpAny_pure<|wpAny_pure ⟨_,rfl,wpAny_pure h⟩) fQ)
  | exact wpAny_bind (wpAny_bind (m:=Builtin.Tuple.tupleExact _)<|wpAny_newObj_type (wpAny_pure<|wpAny_pure ⟨_,rfl,wpAny_pure h⟩) fQ)
  | exact wpAny_bind (wpAny_bind (m:=Builtin.Tuple.tupleExact _)<|wpAny_newObj_type (wpAny_pure ⟨_,rfl,wpAny_pure h⟩) fQ)
end
end HT
namespace L2
open PySem PySem.Spec PyProof.Rows
abbrev TO:=St->Hp->(Option Int->Hp->Prop)->Prop
def PO(X:Cx)(e:Option Expr)(t:TO):Prop:=
 ∀(aS:w1e) (s:Shared) (σ:St) (H:Hp) (Q:Option Int->Hp->Prop),j5 X aS σ H s->t σ H Q->
  wpAny (model X.prog X.w) X.A (evalPart e X.env) (λu s'=>∃o H',j5 X aS σ H' s'/\IsPart u o/\Q o H') X.xe s
def tNoPart:TO:=λ_ H Q=>Q none H
def YK(t:TE):TO:=λσ H Q=>t σ H λx H1=>∃i,x=.int i/\Q (some i) H1
section
variable{X:Cx}{e:Expr}{te:TE}{lo hi:Option Expr}{tl th:TO}{pos p2:Pos}
def S5:PO X none tNoPart:=by intro aS s σ H Q I h;rw[evalPart_none];exact wpAny_pure ⟨none,H,I,.none,h⟩
def S4(h:PE X e te):PO X (some e) (YK te):=by intro aS s σ H Q I hw;rw[evalPart_some];show B0 (h aS s σ H _ I hw) λu s1 ⟨x,H1,I1,r1,q1⟩=>?_;obtain⟨i,rfl,q⟩:=q1;obtain⟨t,rfl⟩:=r1;exact⟨some i,H1,I1,.int i t,q⟩
def n0a(X:Cx)(r:V->Option Int->Option Int->Hp->VK->Prop):Prop:=
 ∀(aS:w1e) (s:Shared) (σ:St) (H:Hp) (x:V) (v vl vu:Value) (lo hi:Option Int) (sl:Addr) (Q:VK),j5 X aS σ H s->w8 x v->s.heap.IsSliceOf sl vl vu .none->IsPart vl lo->IsPart vu hi->r x lo hi H Q->
  ∃T id,typeLookup (.type T) "__getitem__"=pure (some<|.builtin id)/\s.TypeIs v T/\wpAny (model X.prog X.w) X.A (getItem v<|.ref sl) (EP X aS σ Q) X.xe s
def tSl(r:V->Option Int->Option Int->Hp->VK->Prop)(te:TE)(tl th:TO):TE:=λσ H Q=>te σ H λx H1=>tl σ H1 λl H2=>th σ H2 λu H3=>r x l u H3 Q
def M3{r:V->Option Int->Option Int->Hp->VK->Prop}(hr:n0a X r)(he:PE X e te)(hl:PO X lo tl)(hu:PO X hi th):PE X (.Subscript e (.Slice lo hi none p2) pos) (tSl r te tl th):=by
 intro aS s σ H Q I h;show Subscript_<|B0 (he aS s σ H _ I h) λv s1 ⟨x,H1,I1,r1,q1⟩=>?_;show wpAny_Slice<|B0 (hl aS s1 σ H1 _ I1 q1) λvl s2 ⟨l,H2,I2,pl,q2⟩=>B0 (hu aS s2 σ H2 _ I2 q2) λvu s3 ⟨u,H3,I3,pu,q3⟩=>?_;rw[evalPart_none];show wpAny_pure ?_;have I4:j5 X aS σ H3 { s3 with heap:=s3.heap.push { cls:=.type "slice",data:=.fields #[vl,vu,.none] } }:=I3.kept (t':=s3.toks) λb ob q=>ag _ q;obtain⟨T,id,hT,ht,hg⟩:=hr aS { s3 with heap:=s3.heap.push { cls:=.type "slice",data:=.fields #[vl,vu,.none] } } σ H3 x v vl vu l u s3.heap.objs.size Q I4 r1 (Heap.IsSliceOf.new ..) pl pu q3;show wpAny (model X.prog X.w) X.A (subscriptTail e (.Slice lo hi none p2) v<|.ref s3.heap.objs.size) (EP X aS σ Q) X.xe { s3 with heap:=s3.heap.push { cls:=.type "slice",data:=.fields #[vl,vu,.none] } };exact tail_any (ops:=[.ref s3.heap.objs.size,v]) ht hT hg (by with_unfolding_all rfl)
def AE(xs:List V)(lo hi:Option Int):List V:=(xs.drop<|HT.N8 xs.length 0 lo).take (HT.N8 xs.length xs.length hi - HT.N8 xs.length 0 lo)
def Fb(xs:List V)(lo hi:Option Int):(AE xs lo hi).length<=xs.length:=by unfold AE;rw[aM,aK];omega
def rSlT(K:aa):V->Option Int->Option Int->Hp->VK->Prop:=λx lo hi H Q=>∃a xs,x=.ref a/\j3 K H a xs/\
 ¬(HT.N8 xs.length 0 lo=0/\HT.N8 xs.length xs.length hi=xs.length)/\∀p,H p=none->Q (.ref p) (upd H p<|.tup<|AE xs lo hi)
def VS:n0a X (rSlT X.K):=by
 intro aS s σ H x v vl vu lo hi sl Q I rx hs pl pu h;obtain⟨a,xs,rfl,hx,hw,q⟩:=h;cases rx;obtain⟨dw,r,ht,hz⟩:=I.tuple hx;have dE:dw.toArray.size=xs.length:=by rw[aj];exact r.length.symm
 show⟨"tuple",_,PyProof.Rows.slot_tuple_getitem.lookup,ht.typeIs,?_⟩;show HT.Ea ht hs pl pu (by rw[dE];exact hw) ?_ (by rw[dE];exact hz);rw[dE];show⟨.ref s.heap.objs.size,_,I.laid (t':=s.toks) (o:=.tup<|AE xs lo hi) (λb ob q=>ag _ q) (ae _) ?_,Y,q _<|I.hok.fresh<|ae _⟩;exact⟨ah (Fb xs lo hi) hz,_,(r.drop<|HT.N8 xs.length 0 lo).take<|HT.N8 xs.length xs.length hi - HT.N8 xs.length 0 lo,IsTup.new _ _,λ_=>⟨_,ak _ Y,Y⟩⟩
def c0b(K:aa):R2:=λx y H Q=>∃a b xs ys,x=.ref a/\y=.ref b/\j3 K H a xs/\j3 K H b ys/\xs≠[]/\xs.length+ys.length<=sizeLine/\
 (ys=[]->Q (.ref a) H)/\(ys≠[]->∀p,H p=none->Q (.ref p) (upd H p<|.tup<|xs++ys))
def m9.nil_iff{xs:List V}{us:w1j}(r:m9 xs us):us=[]↔xs=[]:=by
 cases r with
 | nil=>simp
 | cons _ _=>simp
def Ut:BK X (binaryOp .Add) (c0b X.K):=by intro aS s σ H x y v u Q I rx ry h;obtain⟨a,b,xs,ys,rfl,rfl,ha,hb,hx,hz,q1,q2⟩:=h;cases rx;cases ry;obtain⟨dw,r1,p1,_⟩:=I.tuple ha;obtain⟨eY,r2,p2,_⟩:=I.tuple hb;show HT.US p1 p2 (λz=>hx<|r1.nil_iff.mp z) (λz=>⟨.ref a,H,I,Y,q1<|r2.nil_iff.mp z⟩) (λz=>?_) (by rw[<- r1.length,<- r2.length];exact hz);show⟨.ref s.heap.objs.size,_,I.laid (t':=s.toks) (o:=.tup<|xs++ys) (λb ob q=>ag _ q) (ae _) ?_,Y,q2 (λw=>z<|r2.nil_iff.mpr w) _<|I.hok.fresh<|ae _⟩;exact⟨by rw[ar];exact hz,_,r1.append r2,IsTup.new _ _,λ_=>⟨_,ak _ Y,Y⟩⟩
end
def XN(n:Nat)(i:Int):Option Nat:=if 0<=i then(if i < n then some i.toNat else none)else if -(n:Int)<=i then some (i+n).toNat else none
def Do{α:Type}(xs:List α)(i:Int):Option α:=(XN xs.length i).bind λj=>xs[j]?
def Oy{n:Nat}{i:Int}{j:Nat}(h:XN n i=some j):seqIndex? i n=some j/\j < n/\-(n:Int)<=i/\i < n:=by
 unfold XN at h;by_cases h0:0<=i
 . rw[if_pos h0]at h;by_cases h1:i < n
   . rw[if_pos h1]at h;have e:i.toNat=j:=Option.some.inj h;exact⟨by rw[seqIndex_of h0 h1,e],Z,Z,h1⟩
   . rw[if_neg h1]at h;cases h
 . rw[if_neg h0]at h;by_cases h1:-(n:Int)<=i
   . rw[if_pos h1]at h;have e:(i+n).toNat=j:=Option.some.inj h;exact⟨by rw[seqIndex_neg Z h1,e],Z,h1,Z⟩
   . rw[if_neg h1]at h;cases h
def Kq{α:Type}{xs:List α}{i:Int}{v:α}(h:Do xs i=some v):∃j,seqIndex? i xs.length=some j/\xs[j]? = some v/\j < xs.length/\-(xs.length:Int)<=i/\i < xs.length:=by
 unfold Do at h;cases e:XN xs.length i with
 | none=>rw[e]at h;cases h
 | some j=>
  rw[e]at h;obtain⟨h1,h2,h3,h4⟩:=Oy e;exact⟨j,h1,h,h2,h3,h4⟩
def y9{α:Type}{xs:List α}{j:Nat}{v:α}(h:xs[j]? = some v):Do xs (j:Int)=some v:=by
 have hj:j < xs.length:=(aH.mp h).1;have e:XN xs.length (j:Int)=some j:=by unfold XN;rw[if_pos Z,if_pos Z];simp
 unfold Do;rw[e];exact h
def OP(b:Expr):Prop:=∀o i,subscripted b false o i=operate [o,i] (getItem o i)
def Vw(X:Cx)(r:R2):Prop:=
 ∀(value slice:Expr) (aS:w1e) (s:Shared) (σ:St) (H:Hp) (x y:V) (v u:Value) (Q:VK),j5 X aS σ H s->w8 x v->w8 y u->r x y H Q->
  subscripted slice false v u=operate [v,u] (getItem v u)->wpAny (model X.prog X.w) X.A (subscriptTail value slice v u) (EP X aS σ Q) X.xe s
def MtR(X:Cx)(id:String)(r:V->List V->Hp->VK->Prop):Prop:=
 ∀(aS:w1e) (s:Shared) (σ:St) (H:Hp) (x:V) (xs:List V) (v:Value) (us:w1j) (Q:VK),j5 X aS σ H s->w8 x v->m9 xs us->r x xs H Q->
  wpAny (model X.prog X.w) X.A (call (.builtin id) (v::us)) (EP X aS σ Q) X.xe s
section
variable{X:Cx}{a b:Expr}{ta tb:TE}{pos:Pos}
def c0c{r:R2}(hr:Vw X r)(ha:PE X a ta)(hb:PE X b tb)(hs:OP b):PE X (.Subscript a b pos) (VJ r ta tb):=by intro aS s σ H Q I h;exact Subscript_ (Yd ha hb I h λv u s2 x y H2 I2 rx ry q=>hr a b aS s2 σ H2 x y v u Q I2 rx ry q<|hs _ _)
def rIxL(K:aa):R2:=λx y H Q=>∃p xs i v,x=.ref p/\y=.int i/\y7 K H p xs/\Do xs i=some v/\Q v H
def RL(K:aa):R2:=λx y H Q=>∃p xs i v,x=.ref p/\y=.int i/\j3 K H p xs/\Do xs i=some v/\Q v H
def rIxS:R2:=λx y H Q=>∃z i c,x=.str z/\y=.int i/\z.length<=sizeLine/\Do z.cps.toList i=some c/\Q (.str ⟨#[c]⟩) H
def l6:Vw X (rIxL X.K):=by
 intro value slice aS s σ H x y v u Q I rx ry h hs;obtain⟨p,xs,i,z,rfl,rfl,hq,he,q⟩:=h;cases rx;obtain⟨t,rfl⟩:=ry;obtain⟨dw,r,pl,hz⟩:=I.list hq;obtain⟨j,h1,h2,h3,h4,h5⟩:=Kq he;obtain⟨w,ew,fF⟩:=r.get h2;have hl:=r.length;have hn:=Bn;have dW:EP X aS σ Q w s:=⟨z,H,I,fF,q⟩;by_cases h0:0<=i
 . have hj:i.toNat=j:=by rw[seqIndex_of h0 h5]at h1;exact Option.some.inj h1
   exact item_listR pl.isList h0 Z (by rw[hj];simpa using ew) dW hs
 . have hj:(i+(dw.toArray.size:Int)).toNat=j:=by rw[seqIndex_neg Z h4]at h1;rw[aj,<- hl];exact Option.some.inj h1
   exact subscriptTail_builtinR (x:=w) pl.isList.typeIs slot_list_getitem.lookup
    (wpAny_getItem_list_neg (Q:=λr s'=>r=w/\EP X aS σ Q r s') pl.isList Z (by rw[aj] <;>omega) Z (by rw[hj];simpa using ew) ⟨Y,dW⟩) hs
def c9:Vw X (RL X.K):=by
 intro value slice aS s σ H x y v u Q I rx ry h hs;obtain⟨p,xs,i,z,rfl,rfl,hq,he,q⟩:=h;cases rx;obtain⟨t,rfl⟩:=ry;obtain⟨dw,r,pl,hz⟩:=I.tuple hq;obtain⟨j,h1,h2,h3,h4,h5⟩:=Kq he;obtain⟨w,ew,fF⟩:=r.get h2;have hl:=r.length;have hn:=Bn;have dW:EP X aS σ Q w s:=⟨z,H,I,fF,q⟩;exact subscriptTail_builtinR (x:=w) pl.typeIs slot_tuple_getitem.lookup
  (getItem_tuple (j:=j) (Q:=λr s'=>r=w/\EP X aS σ Q r s') pl Z Z (by rw[aj,<- hl];exact h1) (by simpa using ew) ⟨Y,dW⟩) hs
def GK:Vw X rIxS:=by
 intro value slice aS s σ H x y v u Q I rx ry h hs;obtain⟨z,i,c,rfl,rfl,hz,he,q⟩:=h;obtain⟨t,rfl⟩:=rx;obtain⟨t',rfl⟩:=ry;obtain⟨j,h1,h2,h3,h4,h5⟩:=Kq he;have hl:z.cps.toList.length=z.length:=by simp[Str.length]
 rw[hl]at h1 h4 h5;have hn:=Bn;exact tail_any (typeIs_str s z t) slot_str_getitem.lookup (getItem_str (c:=c) (by
  have e1:decide (i < -(2 ^ 63:Int))=false:=decide_eq_false Z;have e2:decide (i ≥ 2 ^ 63)=false:=decide_eq_false Z;rw[e1,e2,Bool.or_false]) (by rw[h1];simpa using h2) ⟨.str ⟨#[c]⟩,H,I.tok _,⟨_,Y⟩,q⟩) hs
def Nj(dw:w1j)(n j:Nat)(u:Value):Obj.mapSeq (·.setIfInBounds j u) { cls:=.type "list",data:=.seq dw.toArray n }={ cls:=.type "list",data:=.seq (dw.set j u).toArray n }:=by simp[Obj.mapSeq]
theorem j5.lst{aS:w1e}{σ:St}{H:Hp}{s:Shared}{p:Addr}{xs:List V}(I:j5 X aS σ H s)(h:H p=some (.lst xs)) :
    ∃(dw:w1j) (n:Nat),m9 xs dw/\s.heap.get? p=some { cls:=.type "list",data:=.seq dw.toArray n }/\xs.length<=sizeLine:=by
 obtain⟨z,dw,n,r,e⟩:=I.hok p _ h;exact⟨dw,n,r,e,z⟩
def j5.lstUpd{aS:w1e}{σ:St}{H:Hp}{s:Shared}{p:Addr}{xs ys:List V}{dw its':w1j}{n n':Nat}{f:Obj->Obj}(I:j5 X aS σ H s)(h:H p=some (.lst xs))
    (ho:s.heap.get? p=some { cls:=.type "list",data:=.seq dw.toArray n }) (hf:f { cls:=.type "list",data:=.seq dw.toArray n }={ cls:=.type "list",data:=.seq its'.toArray n' }) (r:m9 ys its') (hz:ys.length<=sizeLine) (t:Nat) :
    j5 X aS σ (upd H p<|.lst ys) { s with heap:=s.heap.update p f,toks:=t }:=by
 have e:(s.heap.update p f).get? p=some { cls:=.type "list",data:=.seq its'.toArray n' }:=by rw[cn f ho (by rw[hf] <;>rfl),hf]
 show I.write (x:=p) (e:=p) (by rw[h];trivial) (.inl Y) (λb u hb q=>(cq _ _<|Ne.symm hb).trans q) ⟨_,e⟩ ?_;exact⟨hz,its',n',r,e⟩
def rSetL:V->V->V->Hp->(Hp->Prop)->Prop:=λo i v H Q=>∃p xs k j,o=.ref p/\i=.int k/\H p=some (.lst xs)/\XN xs.length k=some j/\Q (upd H p<|.lst<|xs.set j v)
def KW:n0b X rSetL:=by
 intro aS s σ H o i v ov iv u Q I ro ri rv h;obtain⟨p,xs,k,j,rfl,rfl,hp,hj,q⟩:=h;cases ro;obtain⟨t,rfl⟩:=ri;obtain⟨dw,n,r,ho,hz⟩:=I.lst hp;obtain⟨h1,h2,h3,h4⟩:=Oy hj;have hl:=r.length;have hn:=Bn;have I':j5 X aS σ (upd H p<|.lst<|xs.set j v) { s with heap:=s.heap.update p (Obj.mapSeq (·.setIfInBounds j u)) }:=
  I.lstUpd hp ho (Nj dw n j u) (r.set rv j) (by rw[List.length_set];exact hz) s.toks
 by_cases h0:0<=k
 . have hk:k.toNat=j:=by rw[seqIndex_of h0 h4]at h1;exact Option.some.inj h1
   exact PySem.W.ki_setAt ho h0 Z (by rw[aj,<- hl];exact h4) (by rw[hk];exact⟨_,I',q⟩)
 . have hk:(k+(dw.toArray.size:Int)).toNat=j:=by rw[seqIndex_neg Z h3]at h1;rw[aj,<- hl];exact Option.some.inj h1
   exact PySem.W.ki_setBack ho Z (by rw[aj,<- hl];exact h3) Z (by rw[hk];exact⟨_,I',q⟩)
def Jl(lo hi:Option Int)(n:Nat):(sliceBounds lo hi none n).1=((HT.N8 n 0 lo:Nat):Int)/\(sliceBounds lo hi none n).2.1=((HT.N8 n n hi:Nat):Int)/\(sliceBounds lo hi none n).2.2=1:=by
 show⟨?_,?_,Y⟩
 . cases lo with
   | none=>simp[sliceBounds,HT.N8]
   | some i=>
    simp only[sliceBounds,HT.N8,Option.getD_none,show(1:Int) > 0 by decide,if_true];by_cases h:i < 0
    . simp only[h,if_true] <;>omega
    . simp only[h,if_false] <;>omega
 . cases hi with
   | none=>simp[sliceBounds,HT.N8]
   | some i=>
    simp only[sliceBounds,HT.N8,Option.getD_none,show(1:Int) > 0 by decide,if_true];by_cases h:i < 0
    . simp only[h,if_true] <;>omega
    . simp only[h,if_false] <;>omega
def Hr(dw:w1j)(lo hi:Option Int):slicePick dw.toArray lo hi none=((dw.drop<|HT.N8 dw.length 0 lo).take<|HT.N8 dw.length dw.length hi - HT.N8 dw.length 0 lo).toArray:=by obtain⟨h1,h2,h3⟩:=Jl lo hi dw.toArray.size;unfold slicePick;rw[h1,h2,h3];simp only[sliceRange_one,pick_run,aj] <;>rfl
def rSlL(K:aa):V->Option Int->Option Int->Hp->VK->Prop:=λx lo hi H Q=>∃a xs,x=.ref a/\y7 K H a xs/\∀p,H p=none->Q (.ref p) (upd H p<|.lst<|AE xs lo hi)
def TY:n0a X (rSlL X.K):=by intro aS s σ H x v vl vu lo hi sl Q I rx hs pl pu h;obtain⟨a,xs,rfl,hx,q⟩:=h;cases rx;obtain⟨dw,r,ht,hz⟩:=I.list hx;have dE:=r.length;show⟨"list",_,slot_list_getitem.lookup,ht.isList.typeIs,?_⟩;show wpAny_getItem_list_slice ht.isList hs pl pu .none (by simp) ?_ (by rw[aj] <;>omega);rw[Hr,<- dE];show⟨.ref s.heap.objs.size,_,I.laid (t':=s.toks) (o:=.lst<|AE xs lo hi) (λb ob q=>ag _ q) (ae _) ?_,Y,q _<|I.hok.fresh<|ae _⟩;exact⟨ah (Fb xs lo hi) hz,_,0,(r.drop<|HT.N8 xs.length 0 lo).take<|HT.N8 xs.length xs.length hi - HT.N8 xs.length 0 lo,ak _ Y⟩
def JA:BK X (compareOp .NotIn) (λx y H Q=>∃i j,x=.str i/\y=.str j/\Q (.bl<|!(!(Builtin.Str.occurrences j i 0 j.length 1).isEmpty)) H):=by intro aS s σ H x y v u Q I rx ry h;obtain⟨i,j,rfl,rfl,q⟩:=h;obtain⟨t,rfl⟩:=rx;obtain⟨t',rfl⟩:=ry;exact notIn_str ⟨.bl _,H,I,Y,q⟩
def j9:O2 X (.type "tuple") (λxs H Q=>∃p ys,xs=[.ref p]/\((y7 X.K H p ys/\∀l,H l=none->Q (.ref l) (upd H l<|.tup ys))\/(j3 X.K H p ys/\Q (.ref p) H))):=by
 intro aS s σ H xs us Q I r h;obtain⟨p,ys,rfl,h⟩:=h;obtain⟨u,rfl,rx⟩:=KB r;cases rx;rcases h with ⟨hq,q⟩ | ⟨hq,q⟩
 . obtain⟨dw,r',pl,hz⟩:=I.list hq;have dE:=r'.length;show call_tuple_list pl.isList (λh' kp=>?_) (by simp only[aj] <;>omega);have I1:j5 X aS σ H { s with heap:=h' }:=I.kept (t':=s.toks) kp;have I2:j5 X aS σ (upd H h'.objs.size<|.tup ys) { s with heap:=h'.push { cls:=.type "tuple",data:=.seq dw.toArray } }:=
    I1.laid (t':=s.toks) (λb o e=>ag _ e) (ae _) (show D1 X.prog X.w _ _ _ (.tup ys)from⟨hz,dw,r',IsTup.new _ _,λ_=>⟨_,ak _ Y,Y⟩⟩)
   exact⟨.ref h'.objs.size,_,I2,Y,q _<|I1.hok.fresh<|ae _⟩
 . obtain⟨dw,r',pl,hz⟩:=I.tuple hq;exact call_tuple_same pl ⟨.ref p,H,I,Y,q⟩
def tyV(K:aa)(T:String)(x:V)(H:Hp):Prop:=match x with
 | .str _=>T="str"
 | .int _=>T="int"
 | .ref p=>(T="list"/\∃xs,y7 K H p xs)\/(T="tuple"/\∃o,K.lookup p=some o/\o.cls=.type "tuple"/\o.dict=none)\/
     (T="dict"/\((∃aT,H p=some (.dK aT))\/∃aT,H p=some (.dT aT)))\/(T="set"/\∃S n,H p=some (.set S n))
 | _=>False
def VE{aS:w1e}{σ:St}{H:Hp}{s:Shared}{T:String}{x:V}{v:Value}(I:j5 X aS σ H s)(r:w8 x v)(ty:tyV X.K T x H) :
    s.TypeIs v T/\∀a,v=.ref a->∃ob,s.heap.get? a=some ob/\ob.dict=none:=by
 cases x with
 | str z=>
  obtain⟨t,rfl⟩:=r;cases (show T="str" from ty);exact⟨typeIs_str s z t,λ_ e=>nomatch e⟩
 | int i=>
  obtain⟨t,rfl⟩:=r;cases (show T="int" from ty);exact⟨typeIs_int s i t,λ_ e=>nomatch e⟩
 | ref p=>
  cases r;rcases ty with ⟨rfl,xs,hq⟩ | ⟨rfl,o,hk,hc,hd⟩ | ⟨rfl,hk⟩ | ⟨rfl,S,n,hk⟩
  . obtain⟨dw,_,pl,_⟩:=I.list hq;show⟨pl.isList.typeIs,λa e=>?_⟩;cases e;obtain⟨o,n,e,c,hd,_⟩:=pl;exact⟨o,e,hd⟩
  . show⟨⟨o,I.kIn p o hk,hc⟩,λa e=>?_⟩;cases e;exact⟨o,I.kIn _ o hk,hd⟩
  . have z:∃o,s.heap.get? p=some o/\o.ExactDict:=by
     rcases hk with ⟨aT,hk⟩ | ⟨aT,hk⟩
     . obtain⟨_,_,_,_,o,_,_,e,ex,_⟩:=I.hok p _ hk;exact⟨o,e,ex⟩
     . obtain⟨_,_,_,_,o,_,_,e,ex,_⟩:=I.hok p _ hk;exact⟨o,e,ex⟩
    obtain⟨o,e,ex⟩:=z;show⟨⟨o,e,ex.1⟩,λa e2=>?_⟩;cases e2;exact⟨o,e,ex.2.1⟩
  . obtain⟨o,_,_,_,e,ex,_⟩:=I.hok p _ hk;show⟨⟨o,e,ex.1⟩,λa e2=>?_⟩;cases e2;exact⟨o,e,ex.2.1⟩
 | _=>exact False.elim ty
def tBM(K:aa)(T:String)(r:V->List V->Hp->VK->Prop)(to:TE)(t:TA):TE:=λσ H Q=>to σ H λx H1=>tyV K T x H1/\t σ H1 λxs H2=>r x xs H2 Q
variable{o e:Expr}{es:List Expr}{to:TE}{t:TA}{name:Str}{dM dD:Pos}{T id:String}{r:V->List V->Hp->VK->Prop}
def DL(pa:PlainAttrs T)(slot:Slot T name id)(wo:typeOf (.builtin id)=pure (.type "method_descriptor"))(hm:MtR X id r)(ho:PE X o to)(ha:PA X (e::es) t)
    (kg:attributeBase o name X.env (eval o X.env)=eval o X.env:=by rfl)
    (nY:((backTo dD<|starEach (e::es) X.env).all (λx=>!x.1) && (backToKw dD<|keywordEach [] X.env).all (λx=>x.1.isSome)
     && decide ((e::es).length+([]:List Keyword).length+(if([]:List Keyword).isEmpty then 0 else 1) < 30))=true:=by rfl)
    (jT:(dM.endLine == dD.line)=true:=by rfl) (hs:starEach (e::es) X.env=(false,eval e X.env)::starEach es X.env:=by rfl) (iN:(backTo dD<|starEach es X.env).any (·.1)=false:=by rfl) :
    PE X (.Call (.Attribute o name dM) (e::es) [] dD) (tBM X.K T r to t):=by
 intro aS s σ H Q I h;show wpAny_Call_method_late kg nY jT rfl<|B0 (ho aS s σ H _ I h) λv s1 ⟨x,H1,I1,r1,ty,q1⟩=>?_;obtain⟨h1,h2⟩:=VE I1 r1 ty;show⟨T,id,pa,slot,wo,h1,h2,?_⟩;have hA:=ha dD aS s1 σ H1 _ I1 q1;rw[hs]at hA ⊢;show Calls.callWith_builtin (by show(false || (backTo dD<|starEach es X.env).any (·.1))=false;rw[iN] <;>rfl)<|Calls.evalArgs_plain ?_;exact B0 hA λus s2 ⟨vs,H2,I2,r2,q2⟩=>hm aS s2 σ H2 x vs v us Q I2 r1 r2 q2
end
def MtM(X:Cx)(id:String)(r:V->List V->Hp->VK->Prop):Prop:=
 ∀(aS:w1e) (s:Shared) (σ:St) (H:Hp) (x:V) (xs:List V) (v:Value) (us:w1j) (Q:VK),j5 X aS σ H s->w8 x v->m9 xs us->r x xs H Q->
  wpAny (model X.prog X.w) X.A (call (.builtin id) (v::us)) (EP X aS σ Q) X.xe s
def m9.one:∀{x:V} {us:w1j},m9 [x] us->∃u,us=[u]/\w8 x u
 | _,_,.cons r .nil=>⟨_,Y,r⟩
def m9.zero:∀{us:w1j},m9 [] us->us=[]
 | _,.nil=>rfl
theorem m9.eraseIdx:∀{xs:List V} {us:w1j} (i:Nat),m9 xs us->m9 (xs.eraseIdx i) (us.eraseIdx i)
 | _,_,_,.nil=>.nil
 | _,_,0,.cons _ t=>t
 | _,_,i+1,.cons r t=>.cons r (m9.eraseIdx i t)
theorem II{α:Type}:∀(l:List α) (i:Nat),(l.eraseIdx i).length<=l.length
 | [],_=>ae _
 | _::_,0=>aY _
 | _::r,i+1=>Nat.succ_le_succ (II r i)
section
variable{X:Cx}{aS:w1e}{σ:St}{H:Hp}{s:Shared}{l b:Addr}{xs ys zs:List V}
def j5.lset{dw its':w1j}{n:Nat}{f:Array Value->Array Value}{t':Nat}(I:j5 X aS σ H s)(hH:H l=some (.lst xs))
    (e:s.heap.get? l=some { cls:=.type "list",data:=.seq dw.toArray n }) (hf:f dw.toArray=its'.toArray) (hv:m9 ys its') (hz:ys.length<=sizeLine) :
    j5 X aS σ (upd H l<|.lst ys) { s with heap:=s.heap.update l<|Obj.mapSeq f,toks:=t' }:=by
 have q:=PySem.IsL.update e f;rw[hf]at q;show I.write (x:=l) (e:=l) (by rw[hH];exact trivial) (.inl Y) (λb' u hb hu=>(cq s.heap (Obj.mapSeq f)<|Ne.symm hb).trans hu) ⟨_,q⟩ ?_;exact⟨hz,its',_,hv,q⟩
def j5.lnew{dw:w1j}{t':Nat}(I:j5 X aS σ H s)(hv:m9 ys dw)(hz:ys.length<=sizeLine) :
    j5 X aS σ (upd H s.heap.objs.size<|.lst ys) { s with heap:=s.heap.push { cls:=.type "list",data:=.seq dw.toArray },toks:=t' }:=
 I.laid (λ_ _ q=>ag _ q) (ae _) ⟨hz,dw,0,hv,ak _ Y⟩
theorem j5.fresh(I:j5 X aS σ H s):H s.heap.objs.size=none:=I.hok.fresh (ae _)
def j5.lstM(I:j5 X aS σ H s)(hH:H l=some (.lst xs)):xs.length<=sizeLine/\∃(dw:w1j) (n:Nat),m9 xs dw/\xs.length=dw.length/\s.heap.get? l=some { cls:=.type "list",data:=.seq dw.toArray n }:=by obtain⟨z,dw,n,r,e⟩:=I.hok l _ hH;exact⟨z,dw,n,r,r.length,e⟩
def Sg{n:Nat}(h:n<=sizeLine):Builtin.List.listTooLong n=false:=by unfold Builtin.List.listTooLong;exact decide_eq_false Z
end
section
variable{X:Cx}
def rAppend:V->List V->Hp->VK->Prop:=λx vs H Q=>∃l xs y,x=.ref l/\vs=[y]/\H l=some (.lst xs)/\xs.length < sizeLine/\Q .non (upd H l<|.lst<|xs++[y])
def IH:MtM X "list.append" rAppend:=by intro aS s σ H x vs v us Q I rx rv h;obtain⟨l,xs,y,rfl,rfl,hH,hz,q⟩:=h;cases rx;obtain⟨u,rfl,ru⟩:=rv.one;obtain⟨z,dw,n,r,hl,e⟩:=I.lstM hH;show call_meets F.slot_list_append ⟨_,e,Y⟩ F.entry_list_append (F.args_list_append_2 _ _) (PySem.list_append l dw.toArray n u<|by rw[aj];omega) ⟨e,?_⟩;show⟨.non,_,I.lset (its':=dw++[u]) hH e (by simp) (r.append<|.cons ru .nil) ?_,Y,q⟩;rw[ar,List.length_singleton];omega
def rExtend:V->List V->Hp->VK->Prop:=λx vs H Q=>∃l b xs zs,x=.ref l/\vs=[.ref b]/\H l=some (.lst xs)/\H b=some (.lst zs)/\xs.length+zs.length<=sizeLine/\Q .non (upd H l<|.lst<|xs++zs)
def EE:MtM X "list.extend" rExtend:=by
 intro aS s σ H x vs v us Q I rx rv h;obtain⟨l,b,xs,zs,rfl,rfl,hH,hB,hz,q⟩:=h;cases rx;obtain⟨u,rfl,ru⟩:=rv.one;cases ru;obtain⟨z,dw,n,r,hl,e⟩:=I.lstM hH;obtain⟨z2,eY,n2,r2,pQ,e2⟩:=I.lstM hB;have hsz:dw.toArray.size+eY.toArray.size<=sizeLine:=by rw[aj,aj];omega
 have jS:¬(!dw.toArray.isEmpty && Builtin.List.listTooLong (dw.toArray.size+eY.toArray.size))=true:=by rw[Sg hsz,Bool.and_false];exact ax
 show call_meets F.slot_list_extend ⟨_,e,Y⟩ F.entry_list_extend (F.args_list_extend_2 _ _)
  (AutoSeq1.list_extend_list_list_0 l dw.toArray n b eY.toArray n2 jS (by rw[aj];omega) Z) ⟨e,e2,?_⟩
 show⟨.non,_,I.lset (its':=dw++eY) hH e (by simp) (r.append r2) ?_,Y,q⟩;rw[ar];omega
def rPopAt:V->List V->Hp->VK->Prop:=λx vs H Q=>∃l xs i k y,x=.ref l/\vs=[.int i]/\H l=some (.lst xs)/\-(2 ^ 63)<=i/\i < 2 ^ 63/\seqIndex? i xs.length=some k/\xs[k]? = some y/\Q y (upd H l<|.lst<|xs.eraseIdx k)
def Sv:MtM X "list.pop" rPopAt:=by
 intro aS s σ H x vs v us Q I rx rv h;obtain⟨l,xs,i,k,y,rfl,rfl,hH,h1,h2,hk,hy,q⟩:=h;cases rx;obtain⟨u,rfl,ru⟩:=rv.one;obtain⟨t,rfl⟩:=ru;obtain⟨z,dw,n,r,hl,e⟩:=I.lstM hH;obtain⟨w,hw,fF⟩:=r.get hy;show call_meets F.slot_list_pop ⟨_,e,Y⟩ F.entry_list_pop (F.args_list_pop_2 _ _)
  (MeetsSeq.list_pop_at l dw.toArray n i t k w (fitsIndex_both h1 h2) (by rw[aj,<- hl];exact hk) (by rw[<- Array.getElem?_toList];exact hw)<|by rw[aj];omega) ⟨e,?_⟩
 show⟨y,_,I.lset (its':=dw.eraseIdx k) hH e ?_ (r.eraseIdx k) ?_,fF,q⟩
 . show dw.toArray.eraseIdxIfInBounds k=(dw.eraseIdx k).toArray;rw[List.eraseIdxIfInBounds_toArray]
 . have:=II xs k;omega
def rCat:R2:=λx y H Q=>∃l b xs zs,x=.ref l/\y=.ref b/\H l=some (.lst xs)/\H b=some (.lst zs)/\xs.length+zs.length<=sizeLine/\∀p,H p=none->Q (.ref p) (upd H p<|.lst<|xs++zs)
def RX:BK X (binaryOp .Add) rCat:=by
 intro aS s σ H x y v u Q I rx ry h;obtain⟨l,b,xs,zs,rfl,rfl,hH,hB,hz,q⟩:=h;cases rx;cases ry;obtain⟨z,dw,n,r,hl,e⟩:=I.lstM hH;obtain⟨z2,eY,n2,r2,pQ,e2⟩:=I.lstM hB;show PySem.P.add_list e e2 ?_ (by rw[aj,aj];omega);have ea:dw.toArray++eY.toArray=(dw++eY).toArray:=by simp
 rw[ea];exact⟨.ref _,_,I.lnew (t':=s.toks) (r.append r2) (by rw[ar];omega),Y,q _ I.fresh⟩
end
section
variable{prog:Program}{w:World}{A:Around}{E:w1f}{s:Shared}
set_option maxRecDepth 100000 in
end
section
variable{X:Cx}
end
end L2
namespace Att
open PySem PySem.W PySem.Calls PyProof.Rows
def FA{P:Params}{h:Heap}:∀(ns:List Int) (vs:w1j),WellAll P h vs (ns.map WData.int)->IntsAre vs ns:=by
 intro ns
 induction ns with
 | nil=>
  intro vs w;rw[List.map_nil]at w;cases w;exact .nil
 | cons n ns ih=>
  intro vs w;rw[aO]at w;cases w with
  | cons a b=>
   cases a;exact .cons _ _ (ih _ b)
def Pp{l:OpenLaw}{n:Nat}(hn:l.most=some n){P:Params}{h:Heap}{args:List WData}{vals:w1j}
    (gW:l.row.toRowW.claim.pre args=true) (nA:WellAll P h vals args) :
    ∃a vs ns,vals=[Value.ref a]/\args=[WData.list<|ns.map WData.int]/\h.get? a=some { cls:=.type "list",data:=.seq vs.toArray }/\IntsAre vs ns/\ns.length<=n:=by
 have wA:WShape.hasAll [] args [.list .int]=true:=(pre_splitW gW).1;have hc:l.pre.holds [] { args:=args }=true:=(pre_splitW gW).2;obtain⟨d,r,rfl,h1,h2⟩:=hasAllW_cons wA;obtain rfl:=hasAllW_nil h2;obtain⟨xs,rfl,h3⟩:=hasW_list h1;obtain⟨ns,rfl⟩:=items_int h3;have dE:ns.length<=n:=by
  unfold OpenLaw.pre at hc;have h4:(WTm.not<|.lt (.lit<|.int (n:Int))<|.len<|.arg 0).holds [] { args:=[.list<|ns.map .int] }=true:=by have h4:=(holds_andW hc).1;rw[hn]at h4;exact h4
  have h5:=condW_of h4<|w_not<|w_lt w_lit<|w_len_list<|w_arg Y;rw[aD]at h5;show Nat.le_of_not_lt λq=>?_;have q':(n:Int) < ((ns.length:Nat):Int):=by omega
  first
   | (rw[decide_eq_true q']at h5;exact absurd h5 bD)
   | (simp at h5;omega)
 cases nA with
 | cons w1 w2=>
  cases w2;cases w1 with
  | list ho iW=>exact zc ⟨ns,Y,Y,ho,FA ns _ iW,dE⟩
def PB(l:OpenLaw)(args:List WData):l.row.toRowW.claim.post args (.bool true) args=true:=
 postW_of (r:=l.row.toRowW) (X:=(true == true))
  (show WShape.has [] (.bool true) .bool=true by first | rfl | decide | simp[WShape.has,WShape.arms,WShape.armsAll])
  (show(WTm.eq .res<|.lit<|.bool true).value [] { args:=args,res:=some<|.bool true,after:=args }=some (.bool<|true == true)from w_eq_bool (w_res Y) w_lit) rfl
def Me{l:OpenLaw}{n:Nat}{q:Program}{loose:w1i}{XP:w1g->Heap->Prop}{YP:World->Heap->Prop}{d:DefRec}
    (hn:l.most=some n) (jX:d.params.defaults=[])
    (call:∀(w:World) (s₀ s₁:Shared) (mg mb:w1g) (fa:Addr) (o:Obj) (pm cd fc:Value) (a:Addr) (vs:w1j) (ns:List Int),
     Ground q loose [] XP w s₀ mg mb s₁.heap->YP w s₁.heap->
     s₁.heap.get? fa=some o->o.data=.func (docDef d.name d.params d.body d.scope pm cd fc)->s₁.heap.CodeRec cd d.name->mg d.name=some (.ref fa)->
     s₁.heap.get? a=some { cls:=.type "list",data:=.seq vs.toArray }->IntsAre vs ns->ns.length<=n->s₁.gens=#[]->
     codeAny (model l.prog w) callerA (.call (.ref fa) ⟨[.ref a],[]⟩) (λr s'=>r=.ok (.ret<|.bool true)/\OldK s₁.heap s'.heap/\s'.os=s₁.os/\AllBare s'.gens) s₁) :
    WalkO q loose XP YP l.row.toRowW d [] (λf vs=>PySem.call f vs):=by
 intro w s₀ s₁ mg mb G a1a fa o pm cd fc dV kV ho hd fX hD jR hg args vals as gW wK yg nA yi;obtain rfl:dV=.none:=Dflts.none hD jX;obtain rfl:kV=.none:=Dflts.noKw hD;obtain⟨a,vs,ns,rfl,rfl,iQ,gz,dE⟩:=Pp hn gW nA;show enter_call<|codeAny_mono (call w s₀ s₁ mg mb fa o pm cd fc a vs ns G a1a ho (fd_plain hd) fX jR iQ gz dE hg) λr s' hq=>?_;obtain⟨rfl,h2,h3,h4⟩:=hq;exact⟨.inl ⟨.bool true,.bool true,[],Y,λ_=>rfl,.bool true,PB l _,λ_=>⟨List.Pairwise.nil,λ_ hm=>(nomatch hm)⟩⟩,h2,h3,h4⟩
section
variable{prog:Program}{w:World}{A:Around}{E:w1f}{s:Shared}{K:Frag}
end
end Att
namespace L2
open PySem PySem.Spec PyProof.Rows
theorem Il:∀{vs:w1j} {ns:List Int},IntsAre vs ns->m9 (ns.map V.int) vs
 | _,_,.nil=>.nil
 | _,_,.cons n t h=>.cons ⟨t,Y⟩ (Il h)
def UZ(H:Hp):Prop:=∀b,H b=none\/∃o xs,H b=some (.frz o<|.lst xs)
def SH{P:Program}{w:World}{K:aa}{mg mb:w1g}{CX:Mi}{k:Nat}{fa a:Addr}{fd:FuncData}{x:Str}{sp:Sp}{s₁:Shared}{vs:w1j}{ns:List Int}
    (KX:K.In s₁.heap) (pN:s₁.heap.Ns mainGlobals mg) (hb:s₁.heap.Ns builtinsNs mb) (xi:∀x:Str,x≠"__name__"->mb x=bootBuiltins x) (nM:s₁.heap.NoLimit) (gT:s₁.heap.NoSeer) (hg:s₁.gens=#[])
    (ha:s₁.heap.get? a=some { cls:=.type "list",data:=.seq vs.toArray }) (hi:IntsAre vs ns) (hl:ns.length<=sizeLine) (hr:G5 k callerA)
    (F:∀base:Heap,K.In base->base.Ns mainGlobals mg->j2 P w K mg base CX k fa fd [x] sp) (kf:∀(s:Shared) (u:Value),BindsTo s fd ⟨[u],[]⟩ [(x,u)])
    (fB:∀H:Hp,UZ H->y7 K H a (ns.map V.int)->sp [.ref a] H (λv _=>v=.bl true) λ_ _ _=>False)
    (ky:∀H e s',CX [] H s₁ (λ_ _ _=>False) e s'->False) :
    codeAny (model P w) callerA (.call (.ref fa) ⟨[.ref a],[]⟩) (λr s'=>r=.ok (.ret<|.bool true)/\OldK s₁.heap s'.heap/\s'.os=s₁.os/\AllBare s'.gens) s₁:=by
 have rv:=Il hi;have ni:=hi.length;have kL:∀H:Hp,UZ H->y7 K H a (ns.map V.int)->X7 P w H s₁.heap->(∀b,H b≠none->b=a)->(H a≠none->K.lookup a=none)->
     codeAny (model P w) callerA (.call (.ref fa) ⟨[.ref a],[]⟩) (λr s'=>r=.ok (.ret<|.bool true)/\OldK s₁.heap s'.heap/\s'.os=s₁.os/\AllBare s'.gens) s₁:=by
  intro H hO hS hok hA hK;have fi:∀{b:Addr} {o:Obj},s₁.heap.get? b=some o->H b=none->(Kb s₁.heap H).get? b=some o:=λe n=>SN e n;have jB:∀{b:Addr} {o:Obj} {es:Array DictEntry} {ep:Nat},s₁.heap.get? b=some o->o.data=.dict es ep->H b=none:=λ{b o es ep} e d=>by
   cases q:H b with
   | none=>rfl
   | some u=>
    have e':b=a:=hA b (by rw[q];simp);subst e';rw[ha]at e;cases e;have d':Data.seq vs.toArray _=Data.dict es ep:=d;cases d'
  have ik:∀{b:Addr} {m:w1g},s₁.heap.Ns b m->(Kb s₁.heap H).Ns b m:=λ{b m} ⟨o,es,ep,e,d,r⟩=>⟨o,es,ep,fi e<|jB e d,d,r⟩;have qd:K.In (Kb s₁.heap H):=λb o e=>fi (KX b o e) (by
   cases q:H b with
   | none=>rfl
   | some u=>
    have e':b=a:=hA b (by rw[q];simp);subst e';rw[hK<|by rw[q];simp]at e;cases e)
  have hM:Mod K mg (Kb s₁.heap H):=⟨qd,ik pN,⟨mb,ik hb,xi⟩,let⟨mc,h1,h2⟩:=nM;⟨mc,ik h1,h2⟩,⟨let⟨mc,h1,h2⟩:=gT.statics;⟨mc,ik h1,h2⟩,let⟨mc,h1,h2⟩:=gT.mods;⟨mc,ik h1,h2⟩,let⟨mc,h1,h2⟩:=gT.imp;⟨mc,ik h1,h2⟩,by
    obtain⟨vz,bm,ob,n1,n2,n3,n4,n5⟩:=gT.main;show⟨vz,bm,ob,ik n1,n2,fi n3 ?_,n4,n5⟩;cases q:H bm with
    | none=>rfl
    | some u=>
     have e':bm=a:=hA bm (by rw[q];simp);subst e';rw[ha]at n3;cases n3;exact absurd (show Value.type "list"=Value.type "module" from n4)<|λz=>by injection z with z;exact absurd z bD⟩⟩
  have e0:NU P w K mg (Kb s₁.heap H) callerA [] s₁ H:=⟨Y,hM,λb o e=>Uv e,Nat.le_of_eq<|Qw _ _,trivial,λb hb=>absurd (show b∈([]:List Addr)from hb) (by simp),hok,.of_eq hg⟩;show codeAny_mono ((F _ qd<|ik pN).run callerA [] s₁ H ⟨[.ref a],[]⟩ [.ref a] [.ref a] _ _ hr e0 (kf s₁<|.ref a) (.cons Y .nil)<|fB H hO hS) λr s' h=>?_;cases r with
  | error e=>exact(ky H e s' h).elim
  | ok fl=>
   cases fl with
   | next=>exact False.elim h
   | brk=>exact False.elim h
   | cont=>exact False.elim h
   | ret u=>
    obtain⟨v,H',os,bare,un,hok',r',q⟩:=h;have q':v=.bl true:=q;subst q';obtain rfl:u=Value.bool true:=r';show⟨Y,OldK.of_keep λb o e=>?_,os,bare⟩;cases q:H b with
    | none=>exact un.keep b o e q (by intro z;exact absurd (show b∈([]:List Addr)from z)<|by simp) (by simp)
    | some u=>
     rcases hO b with z | ⟨ob,xs,z⟩
     . rw[q]at z;cases z
     . have z2:=un.frzs b ob _ z;obtain⟨e1,_⟩:=hok b _ z;obtain⟨e2,_⟩:=hok' b _ z2;rw[e]at e1;cases e1;exact e2
 cases hk:K.lookup a with
 | some o=>
  have e:=KX a o hk;rw[ha]at e;cases e;show kL (λ_=>none) (λ_=>.inl Y) (.inr ⟨_,vs.toArray,_,hk,Y,Y,Y,by rw[aj,ni];exact hl,by simpa using rv⟩) (λb u z=>by have z':(none:Option HO)=some u:=z;cases z') (λb z=>absurd Y z) λz=>absurd rfl z
 | none=>
  show kL (λb=>if b=a then some (.frz { cls:=.type "list",data:=.seq vs.toArray }<|.lst<|ns.map V.int)else none) (λb=>?_) (.inl<|.inr ⟨{ cls:=.type "list",data:=.seq vs.toArray },if_pos Y⟩) (λb u z=>?_) (λb z=>?_) λ_=>hk
  . by_cases hb:b=a
    . exact .inr (zc<|if_pos hb)
    . exact .inl (if_neg hb)
  . by_cases hb:b=a
    . have z':=(if_pos hb).symm.trans z;cases z';subst hb;exact⟨ha,by rw[aD];exact hl,vs,_,rv,ha⟩
    . have z':=(if_neg hb).symm.trans z;cases z'
  . by_cases hb:b=a
    . exact hb
    . exact absurd (if_neg hb) z
abbrev KOf{K:aa}{h:Heap}(_:K.In h):aa:=K
def Tv{l:PySem.W.OpenLaw}{n k:Nat}{q:Program}{loose:w1i}{XP:w1g->Heap->Prop}{YP:World->Heap->Prop}{d:DefRec}{K:Params->aa}{CX:World->Mi}{sp:World->Sp}{x:Str}
    (hn:l.most=some n) (jh:n<=sizeLine) (jX:d.params.defaults=[]) (hr:G5 k callerA) (hq:importsNone q=true)
    (hY:∀(w:World) (h:Heap),YP w h->(K w.params).In h)
    (F:∀(w:World) (mg:w1g) (fa:Addr) (h:Heap),(K w.params).In h->h.Ns mainGlobals mg->mg d.name=some (.ref fa)->
     ∃fd:FuncData,(∀(s:Shared) (u:Value),BindsTo s fd ⟨[u],[]⟩ [(x,u)])/\
      ∀base:Heap,(K w.params).In base->base.Ns mainGlobals mg->j2 l.prog w (K w.params) mg base (CX w) k fa fd [x] (sp w))
    (fB:∀(w:World) (H:Hp) (a:Addr) (ns:List Int),ns.length<=n->UZ H->y7 (K w.params) H a (ns.map V.int)->sp w [.ref a] H (λv _=>v=.bl true) λ_ _ _=>False)
    (ky:∀(w:World) (H:Hp) (s:Shared) (e:Value) (s':Shared),CX w [] H s (λ_ _ _=>False) e s'->False) :
    PySem.W.WalkO q loose XP YP l.row.toRowW d [] (λf vs=>PySem.call f vs):=by
 show Att.Me hn jX λw s₀ s₁ mg mb fa o pm cd fc a vs ns G a1a ho hd fX jR iQ gz dE hg=>?_;have KX:=hY w _ a1a;obtain⟨fd,hb,hF⟩:=F w mg fa _ KX G.T.g jR;exact SH KX G.T.g G.T.b G.T.builtins G.T.nolimit (G.T.seer hq) hg iQ gz (ah dE jh) hr hF hb (λH hO hS=>fB w H a ns dE hO hS) λH e s'=>ky w H s₁ e s'
def QS{l:PySem.W.OpenLaw}{n k:Nat}{q:Program}{loose:w1i}{XP:w1g->Heap->Prop}{YP:World->Heap->Prop}{d:DefRec}{K:Params->aa}{CX:Mi}{sp:aa->Sp}{x:Str}
    (hn:l.most=some n) (jh:n<=sizeLine) (jX:d.params.defaults=[]) (hr:G5 k callerA) (hq:importsNone q=true)
    (hY:∀(w:World) (h:Heap),YP w h->(K w.params).In h)
    (F:∀(w:World) (mg:w1g) (fa:Addr) (h:Heap),(K w.params).In h->h.Ns mainGlobals mg->mg d.name=some (.ref fa)->
     ∃fd:FuncData,(∀(s:Shared) (u:Value),BindsTo s fd ⟨[u],[]⟩ [(x,u)])/\
      ∀base:Heap,(K w.params).In base->base.Ns mainGlobals mg->j2 l.prog w (K w.params) mg base CX k fa fd [x] (sp<|K w.params))
    (fB:∀(K:aa) (H:Hp) (a:Addr) (ns:List Int),ns.length<=n->UZ H->y7 K H a (ns.map V.int)->sp K [.ref a] H (λv _=>v=.bl true) λ_ _ _=>False)
    (ky:∀(H:Hp) (s:Shared) (e:Value) (s':Shared),CX [] H s (λ_ _ _=>False) e s'->False) :
    PySem.W.WalkO q loose XP YP l.row.toRowW d [] (λf vs=>PySem.call f vs):=
 Tv (K:=K) (CX:=λ_=>CX) (sp:=λw=>sp<|K w.params) hn jh jX hr hq hY F (λw H a ns h1 h2 h3=>fB (K w.params) H a ns h1 h2 h3) λ_ H s e s'=>ky H s e s'
abbrev B7:Mi:=λ_ _ _ _ _ _=>False
abbrev E0:XK:=λ_ _ _=>False
def m8{X:Cx}:Dg B7 X E0:=λ_ _ _ _ _ _ _ h=>h.elim
structure Mh(K:aa)(x qual:Str)(st:Stmt)(f:Addr)(fd:FuncData):Prop where
 ex:∃(oc:Value) (od:Option Addr) (kV fc pm:Value) (an:Option Addr) (dR ct:Value) (gF:Array (Option Value)),
  fd=PySem.W.fnOf x qual (C5 st) (B5 st) (b9 st) .none kV fc pm an dR ct/\K.lookup f=some ⟨oc,od,.func fd,gF⟩/\PySem.W.codeIn K dR qual=true
 kp:PySem.W.keepIn K (.ref f)=true
section
variable{P:Program}{w:World}{K:aa}{mg:w1g}{base:Heap}
def Mh.ok{x qual:Str}{st:Stmt}{f:Addr}{fd:FuncData}{N ps:w1i}{k:Nat}{sp:Sp}(F:Mh K x qual st f fd)(S:c8 N ps (b9 st))(len:∀vs H Q E,sp vs H Q E->vs.length=ps.length)
    (eQ:∀(dR:Value) (A:Around) (outer:List Env) (s:Shared) (H:Hp) (vs:List V) (Q:VK) (E:XK),G5 k (A.deeper<|envOfC qual (b9 st) s.heap.objs.size f dR)->sp vs H Q E->
     ∃t,Kt (Kf B7 P w K mg base N qual (b9 st) f dR A outer s H E).nox (B5 st) t/\t { nx:=λ_ H'=>Q .non H',rt:=Q } (BZ N vs) H):j2 P w K mg base B7 (k+1) f fd ps sp:=by
 obtain⟨oc,od,kV,fc,pm,an,dR,ct,gF,rfl,lk,fX⟩:=F.ex;show Vs lk fX S len λA outer s H vs Q E hr fB=>?_;obtain⟨t,h,q⟩:=eQ dR A outer s H vs Q E hr fB;exact⟨t,h.nox,q⟩
def Mh.okA{x qual:Str}{st:Stmt}{f:Addr}{fd:FuncData}{N ps:w1i}{k:Nat}{sp:Sp}(F:Mh K x qual st f fd)(S:c8 N ps (b9 st))
    (eQ:∀(dR:Value) (A:Around) (outer:List Env) (s:Shared) (H:Hp) (vs:List V) (Q:VK) (E:XK),G5 k (A.deeper<|envOfC qual (b9 st) s.heap.objs.size f dR)->sp vs H Q E->
     ∃t,Kt (Kf B7 P w K mg base N qual (b9 st) f dR A outer s H E).nox (B5 st) t/\t { nx:=λ_ H'=>Q .non H',rt:=Q } (BZ N vs) H)(len:∀vs H Q E,sp vs H Q E->vs.length=ps.length:=by intro _ _ _ _ h;repeat first | (obtain⟨rfl,_⟩:=h;rfl) | obtain⟨_,h⟩:=h):j2 P w K mg base B7 (k+1) f fd ps sp:=F.ok S len eQ
def Mh.binds{x qual:Str}{st:Stmt}{f:Addr}{fd:FuncData}{ps:w1i}(F:Mh K x qual st f fd)
    (h:∀(kV fc pm:Value) (an:Option Addr) (dR ct:Value) (us:w1j),us.length=ps.length->bindArgs (PySem.W.fnOf x qual (C5 st) (B5 st) (b9 st) .none kV fc pm an dR ct) ⟨us,[]⟩=pure (ps.zip us)):J1 K fd ps []:=by
 obtain⟨oc,od,kV,fc,pm,an,dR,ct,gF,rfl,lk,fX⟩:=F.ex;exact .all (h kV fc pm an dR ct)
def SQ{x qual:Str}{st:Stmt}{f:Addr}{oc:Value}{od an:Option Addr}{gF:Array (Option Value)}{kV fc pm dR ct:Value}(l:K.lookup f=some ⟨oc,od,.func<|PySem.W.fnOf x qual (C5 st) (B5 st) (b9 st) .none kV fc pm an dR ct,gF⟩)
    (c:PySem.W.codeIn K dR qual=true) (k:PySem.W.keepIn K (.ref f)=true):Mh K x qual st f (PySem.W.fnOf x qual (C5 st) (B5 st) (b9 st) .none kV fc pm an dR ct):=⟨⟨oc,od,kV,fc,pm,an,dR,ct,gF,Y,l,c⟩,k⟩
end
def J0{A:Around}{k:Nat}(hr:G5 k A):A.units+1 < cLine:=Nat.lt_of_le_of_lt (Nat.add_le_add_left (by decide:1<=64) _) hr.units
section
variable{X:Cx}
def O(i:Nat){x:Str}{pos:Pos}(hN:X.N[i]? = some x:=by rfl)(hv:Vis X.env.scope x:=by first | exact Or.inl rfl | exact Or.inr (Or.inl rfl) | exact Or.inr<|Or.inr rfl)(hd:(x == ("__debug__":Str))=false:=by decide)
    (fX:(x == ("__classdict__":Str))=false:=by decide):PE X (.Name x pos) (OW i):=WQ hN hv hd fX
end
def l4{A B:Prop}(h:B):if false=true then A else B:=by rw[if_neg ax];exact h
def C2{A B:Prop}(h:A):if true=true then A else B:=by rw[if_pos rfl];exact h
def g9(H H':Hp):Prop:=∀b o,H b=some o->H' b=some o
def g9.refl(H:Hp):g9 H H:=λ_ _ h=>h
def g9.trans{H H1 H2:Hp}(a:g9 H H1)(b:g9 H1 H2):g9 H H2:=λc o h=>b c o (a c o h)
def g9.free{H H':Hp}(e:g9 H H'){l:Addr}(h:H' l=Option.none):H l=Option.none:=by
 cases q:H l with
 | none=>rfl
 | some o=>
  rw[e l o q]at h;cases h
def g9.seq{K:aa}{H H':Hp}{a:Addr}{xs:List V}(e:g9 H H')(h:y7 K H a xs):y7 K H' a xs:=by
 rcases h with (h | ⟨o,h⟩) | h
 . exact .inl (.inl<|e _ _ h)
 . exact .inl (.inr ⟨o,e _ _ h⟩)
 . exact .inr h
end L2
set_option maxHeartbeats 4000000
namespace L2
open PySem PySem.Spec PyProof.Rows PySem.SeqAt
section
variable{X:Cx}
def Vy(_ j:Int):Prop:=j≠0/\j.natAbs.log2 < 9000
def Gp:BK X (binaryOp .FloorDiv) (rI Vy λi j=>.int<|i.fdiv j):=c0h λ_ _ _ _ _ _ _ hc q=>floordiv_int hc.1 q (Or.inl<|PyProof.noPylong_of_log2 hc.2)
def MS(K:aa):List V->Hp->VK->Prop:=λxs H Q=>∃x n t b,xs=[x,.ty n]/\J7 K H x t/\PySem.W.kitOne K t (.type n)=some b/\Q (.bl b) H
def C3:O2 X (.builtin "isinstance") (MS X.K):=by
 intro aS s σ H xs us Q I r h;obtain⟨x,n,t,b,rfl,ty,e,q⟩:=h;cases r with
 | cons rx r1=>
  cases r1 with
  | cons ry r2=>
   cases r2;cases ry;exact Qp I rx ty e λtk=>⟨.bl b,H,I.tok _,Y,q⟩
structure MkO(K:aa)(C:Addr):Prop where
 makes:PySem.W.makesIn K C=true
 init:PySem.W.findIn K (.ref C) "__init__"=some (some<|.builtin "object.__init__")
 kp:PySem.W.keepIn K (.ref C)=true
def VL(C:Addr):TE:=λ_ H Q=>∀x dx,H x=none->H dx=none->dx≠x->Q (.ref x) (upd (upd H dx<|.own x) x<|.ins C dx [])
def Gn{C:Addr}{x:Str}{p pos:Pos}(M:MkO X.K C)(hg:Gl X x)(hm:X.mg x=some (.ref C))(fA:(x == ("__debug__":Str))=false:=by decide):PE X (.Call (.Name x p) [] [] pos) (VL C):=by
 intro aS s σ H Q I h;show wpAny_Call_Name_kw<|Av I hg hm ?_ fA;show PySem.W.callWith_K0 I.kIn M.kp ?_;have hq:=h (s.heap.objs.size+1) s.heap.objs.size (I.hok.fresh<|aY _) (I.hok.fresh<|ae _)<|ai<|bb _;have I2:=j5.made (C:=C) I;have a1a:=PySem.W.makes_of (M:=model X.prog X.w) I.kIn M.makes;show wpAny_call<|Qa I.kIn M.makes M.init (λself=>PySem.W.Looks.of_pure<|PySem.W.oi_bind self) ?_;have t1:PySem.W.Looks (model X.prog X.w) ((s.heap.push PySem.W.emptyDict).push<|PySem.W.instObj C s.heap.objs.size) (typeOf<|.ref<|s.heap.objs.size+1) (.ref C):=
  (PySem.W.Looks.ld (o:=PySem.W.instObj C s.heap.objs.size) (by have e:((s.heap.push PySem.W.emptyDict).push<|PySem.W.instObj C s.heap.objs.size).get? (s.heap.push PySem.W.emptyDict).objs.size=some (PySem.W.instObj C s.heap.objs.size):=ak _ rfl;rw[aL]at e;exact e)).andThen .now
 have t2:PySem.W.Looks (model X.prog X.w) ((s.heap.push PySem.W.emptyDict).push<|PySem.W.instObj C s.heap.objs.size) (isInstance (.ref<|s.heap.objs.size+1)<|.type "object") true:=
  t1.andThen (a1a.top.keeps λb o e=>ag _<|ag _ e)
 show PySem.codeAny_call_builtin PySem.W.oi_plain PySem.W.entry_oi<|@PySem.W.check_slot (model X.prog X.w) _ _ _ "object.__init__" "object" "__init__" (.ref<|s.heap.objs.size+1) [] [] _ PySem.W.oi_kind PySem.W.oi_split t2 (PySem.W.oi_args<|.ref<|s.heap.objs.size+1) ?_;rw[PySem.W.oi_run];exact wpAny_pure (And.intro rfl ⟨V.ref<|s.heap.objs.size+1,_,I2,rfl,hq⟩)
end
mutual
inductive Is(K:aa)(H:Hp):V->PyData->Prop
 | non:Is K H .non .none
 | bl (b:Bool):Is K H (.bl b) (.bool b)
 | int (i:Int):Is K H (.int i) (.int i)
 | str (x:Str):Is K H (.str x) (.str x)
 | tup {a:Addr} {xs:List V} {ds:List PyData}:j3 K H a xs->R5 K H xs ds->Is K H (.ref a) (.tuple ds)
 | lst {a:Addr} {xs:List V} {ds:List PyData}:y7 K H a xs->R5 K H xs ds->Is K H (.ref a) (.list ds)
inductive R5(K:aa)(H:Hp):List V->List PyData->Prop
 | nil:R5 K H [] []
 | cons {v:V} {vs:List V} {d:PyData} {ds:List PyData}:Is K H v d->R5 K H vs ds->R5 K H (v::vs) (d::ds)
end
def g9.tup{K:aa}{H H':Hp}{a:Addr}{xs:List V}(e:g9 H H')(h:j3 K H a xs):j3 K H' a xs:=by
 rcases h with (h | ⟨o,h⟩) | h
 . exact .inl (.inl<|e _ _ h)
 . exact .inl (.inr ⟨o,e _ _ h⟩)
 . exact .inr h
mutual
theorem Is.same{K:aa}{H H':Hp}(e:g9 H H'):∀{v:V} {d:PyData},Is K H v d->Is K H' v d
 | _,_,.non=>.non
 | _,_,.bl b=>.bl b
 | _,_,.int i=>.int i
 | _,_,.str x=>.str x
 | _,_,.tup h r=>.tup (e.tup h) (R5.same e r)
 | _,_,.lst h r=>.lst (e.seq h) (R5.same e r)
theorem R5.same{K:aa}{H H':Hp}(e:g9 H H'):∀{v:List V} {d:List PyData},R5 K H v d->R5 K H' v d
 | _,_,.nil=>.nil
 | _,_,.cons a r=>.cons (Is.same e a) (R5.same e r)
end
section
variable{X:Cx}{aS:w1e}{σ:St}{H:Hp}{s:Shared}
mutual
theorem Is.reads(I:j5 X aS σ H s):∀{v:V} {d:PyData} {u:Value},Is X.K H v d->w8 v u->∃as,Reads s.heap u d as
 | _,_,_,.non,r=>by cases r;exact⟨_,.none⟩
 | _,_,_,.bl b,r=>by cases r;exact⟨_,.bool b⟩
 | _,_,_,.int i,r=>by obtain⟨t,rfl⟩:=r;exact⟨_,.int i t⟩
 | _,_,_,.str x,r=>by obtain⟨t,rfl⟩:=r;exact⟨_,.str x t⟩
 | _,_,_,.tup h a,r=>by
  cases r;obtain⟨dw,rv,⟨o,ho,hc,n,hd⟩,_⟩:=I.tuple h;obtain⟨as,hr⟩:=R5.reads I a rv;exact⟨as,.tuple ho hc hd<|by simpa using hr⟩
 | _,_,_,.lst h a,r=>by
  cases r;obtain⟨dw,rv,⟨o,n,ho,hc,_,hd⟩,_⟩:=I.list h;obtain⟨as,hr⟩:=R5.reads I a rv;exact⟨_,.list ho hc hd<|by simpa using hr⟩
theorem R5.reads(I:j5 X aS σ H s):∀{vs:List V} {ds:List PyData} {us:w1j},R5 X.K H vs ds->m9 vs us->∃as,ReadsAll s.heap us ds as
 | _,_,_,.nil,.nil=>⟨_,.nil⟩
 | _,_,_,.cons a r,.cons q t=>by
  obtain⟨as,h1⟩:=Is.reads I a q;obtain⟨bs,h2⟩:=R5.reads I r t;exact⟨_,.cons h1 h2⟩
end
def rEqD(K:aa):R2:=λx y H Q=>∃d d',Is K H x d/\Is K H y d'/\shaped d=true/\shaped d'=true/\noMix d d'=true/\Q (.bl<|PySem.Spec.same d d') H
def WH(K:aa):R2:=λx y H Q=>∃d d',Is K H x d/\Is K H y d'/\shaped d=true/\shaped d'=true/\noMix d d'=true/\Q (.bl<|!PySem.Spec.same d d') H
def Xa(hu:X.A.units+64 < cLine):BK X (compareOp .Eq) (rEqD X.K):=by intro aS s σ H x y v u Q I rx ry h;obtain⟨d,d',hx,hy,sx,sy,nm,q⟩:=h;obtain⟨as,ra⟩:=hx.reads I rx;obtain⟨bs,rb⟩:=hy.reads I ry;exact eq_dataH_same ra rb sx sy hu nm ⟨.bl _,H,I,Y,q⟩
def JB(hu:X.A.units+64 < cLine):BK X (compareOp .NotEq) (WH X.K):=by intro aS s σ H x y v u Q I rx ry h;obtain⟨d,d',hx,hy,sx,sy,nm,q⟩:=h;obtain⟨as,ra⟩:=hx.reads I rx;obtain⟨bs,rb⟩:=hy.reads I ry;exact ne_dataH_same ra rb sx sy hu nm ⟨.bl _,H,I,Y,q⟩
end
def Fz{i j:Int}{A B:Prop}(h1:i=j->A)(h2:¬i=j->B):if decide (V.int i=V.int j)=true then A else B:=by
 by_cases h:i=j
 . rw[if_pos<|decide_eq_true<|congrArg V.int h];exact h1 h
 . rw[if_neg<|by simpa using h];exact h2 h
def IL{i j:Int}{A B:Prop}(h1:¬i=j->A)(h2:i=j->B):if(!decide (V.int i=V.int j))=true then A else B:=by
 by_cases h:i=j
 . rw[if_neg<|by simpa using h];exact h2 h
 . rw[if_pos<|by simpa using h];exact h1 h
def R0{p A B:Prop} [Decidable p](h1:p->A)(h2:¬p->B):if decide p=true then A else B:=by
 by_cases h:p
 . rw[if_pos<|decide_eq_true h];exact h1 h
 . rw[if_neg<|by simpa using h];exact h2 h
def c4{H:Hp}{p:Addr}{o:HO}(h:H p=none):g9 H (upd H p o):=λb u e=>by
 rw[k8<|k9 e h];exact e
end L2
namespace L2
open PySem PySem.Spec PyProof.Rows
section
variable{κ:Type} [DecidableEq κ]
def E5(aT:List (κ × V))(k:κ):Option V:=(aT.find? λkv=>decide<|kv.1=k).map (·.2)
def U1(aT:List (κ × V))(k:κ)(v:V):List (κ × V):=
 if(aT.any λkv=>decide<|kv.1=k)=true then aT.map (λkv=>if kv.1=k then(kv.1,v)else kv)else aT++[(k,v)]
def F4{p:κ × V}{r:List (κ × V)}{k:κ}(e:p.1=k):E5 (p::r) k=some p.2:=by simp[E5,bV,e]
def F5{p:κ × V}{r:List (κ × V)}{k:κ}(e:¬p.1=k):E5 (p::r) k=E5 r k:=by simp[E5,bV,e]
theorem Dt(k:κ):∀aT:List (κ × V),(aT.any λkv=>decide<|kv.1=k)=(E5 aT k).isSome
 | []=>rfl
 | p::r=>by
  rw[List.any_cons];by_cases e:p.1=k
  . simp only[F4 e,decide_eq_true e,Bool.true_or,Option.isSome_some]
  . rw[F5 e,decide_eq_false e,Bool.false_or];exact Dt k r
theorem KC(k j:κ)(y:V):∀aT:List (κ × V),E5 (aT.map λkv=>if kv.1=k then(kv.1,y)else kv) j=(E5 aT j).map λx=>if j=k then y else x
 | []=>rfl
 | p::r=>by
  have ih:=KC k j y r;rw[aO];by_cases h:p.1=k
  . rw[if_pos h];by_cases e:p.1=j
    . rw[F4 (p:=(p.1,y)) e,F4 e,Option.map_some,if_pos<|e.symm.trans h]
    . rw[F5 (p:=(p.1,y)) e,F5 e,ih]
  . rw[if_neg h];by_cases e:p.1=j
    . rw[F4 (p:=p) e,F4 e,Option.map_some,if_neg<|λz=>h<|e.trans z]
    . rw[F5 (p:=p) e,F5 e,ih]
theorem Im(k j:κ)(y:V):∀aT:List (κ × V),E5 aT k=none->E5 (aT++[(k,y)]) j=if j=k then some y else E5 aT j
 | [],_=>by
  by_cases e:k=j
  . rw[if_pos e.symm];exact F4 (p:=(k,y)) e
  . rw[if_neg<|λz=>e z.symm];exact F5 (p:=(k,y)) e
 | p::r,hn=>by
  rw[List.cons_append];have hk:¬p.1=k:=λz=>by rw[F4 z]at hn;cases hn
  rw[F5 hk]at hn;have ih:=Im k j y r hn;by_cases e:p.1=j
  . rw[F4 e,F4 e,if_neg<|λz=>hk<|e.trans z]
  . rw[F5 e,F5 e,ih]
def QT(aT:List (κ × V))(k j:κ)(y:V):E5 (U1 aT k y) j=if j=k then some y else E5 aT j:=by
 unfold U1;by_cases a:(aT.any λkv=>decide<|kv.1=k)=true
 . rw[if_pos a,KC];rw[Dt]at a;by_cases e:j=k
   . obtain⟨x,hx⟩:=Option.isSome_iff_exists.mp a;rw[if_pos e,e,hx,Option.map_some,if_pos rfl]
   . rw[if_neg e];cases E5 aT j with
     | none=>rfl
     | some x=>rw[Option.map_some,if_neg e]
 . rw[if_neg a];show Im k j y aT ?_;rw[Dt]at a;cases q:E5 aT k with
   | none=>rfl
   | some x=>rw[q]at a;exact(a Y).elim
def W2(aT:List (κ × V))(k:κ)(v:V):(U1 aT k v).length<=aT.length+1:=by
 unfold U1;split
 . rw[aD];omega
 . rw[ar,bx,bW];omega
def Bu.isSome_eq{o:Option V}{u:Option Value}(r:Bu o u):o.isSome=u.isSome:=by
 cases o with
 | none=>cases u with
  | none=>rfl
  | some _=>exact(show False from r).elim
 | some _=>cases u with
  | none=>exact(show False from r).elim
  | some _=>rfl
def KV.val{aT:List (κ × V)}{vs:List (κ × Value)}(r:KV aT vs)(k:κ):Bu (E5 aT k) (valueAt vs k):=by
 unfold KV at r
 induction r with
 | nil=>exact True.intro
 | @cons p q ps qs h t ih=>
  obtain⟨h1,h2⟩:=h;by_cases e:p.1=k
  . have e':q.1=k:=h1.symm.trans e;have b:valueAt (q::qs) k=some q.2:=by simp[valueAt,bV,e']
    rw[F4 e,b];exact h2
  . have e':¬q.1=k:=λz=>e<|h1.trans z;have b:valueAt (q::qs) k=valueAt qs k:=by simp[valueAt,bV,e']
    rw[F5 e,b];exact ih
theorem KV.any{aT:List (κ × V)}{vs:List (κ × Value)}(r:KV aT vs)(k:κ):(aT.any λkv=>decide<|kv.1=k)=vs.any λkv=>decide (kv.1=k):=by
 unfold KV at r
 induction r with
 | nil=>rfl
 | cons h t ih=>rw[List.any_cons,List.any_cons,ih,h.1]
def KV.repl{aT:List (κ × V)}{vs:List (κ × Value)}(r:KV aT vs)(k:κ){y:V}{u:Value}(ry:w8 y u) :
    KV (aT.map λkv=>if kv.1=k then(kv.1,y)else kv) (vs.map λkv=>if kv.1=k then(kv.1,u)else kv):=by
 unfold KV at r ⊢
 induction r with
 | nil=>exact .nil
 | @cons p q ps qs h t ih=>
  rw[aO,aO];show .cons ?_ ih;obtain⟨h1,h2⟩:=h;by_cases e:p.1=k
  . rw[if_pos e,if_pos<|h1.symm.trans e];exact⟨h1,ry⟩
  . rw[if_neg e,if_neg<|λz=>e<|h1.trans z];exact⟨h1,h2⟩
def KV.put{aT:List (κ × V)}{vs:List (κ × Value)}(r:KV aT vs)(k:κ){y:V}{u:Value}(ry:w8 y u):KV (U1 aT k y) (stored vs k u):=by
 unfold U1 stored;rw[r.any k];by_cases e:(vs.any λkv=>decide<|kv.1=k)=true
 . rw[if_pos e,if_pos e];exact r.repl k ry
 . rw[if_neg e,if_neg e];exact Paired.snoc r ⟨Y,ry⟩
theorem KV.length{aT:List (κ × V)}{vs:List (κ × Value)}(r:KV aT vs):aT.length=vs.length:=Paired.length r
end
def LN{P:Program}{w:World}{k:G6}{u:Value}(r:w8 (kV k) u):(C4 P w).is k u=true:=by
 cases k with
 | inl i=>obtain⟨t,e⟩:=(show ∃t,u=Value.int i t from r);subst e;exact Ly P w i t
 | inr x=>obtain⟨t,e⟩:=(show ∃t,u=Value.str x t from r);subst e;exact Bk P w x t
theorem IK{P:Program}{w:World}:∀{ks:List G6} {us:w1j},m9 (ks.map kV) us->ItemsAre (C4 P w) ks us
 | [],_,r=>by rw[List.map_nil]at r;cases r;exact .nil
 | k::ks,_,r=>by
  rw[aO]at r;cases r with
  | cons h t=>exact .cons (LN h) (IK t)
abbrev KT(H:Hp):List (List G6 × V)->List (List G6 × Addr × Value)->Prop:=Paired λp q=>p.1=q.1/\H q.2.1=some (.tup<|p.1.map kV)/\w8 p.2 q.2.2
def KT.val{H:Hp}{aT:List (List G6 × V)}{xs:List (List G6 × Addr × Value)}(r:KT H aT xs)(k:List G6):Bu (E5 aT k) ((atKey xs k).map (·.2)):=by
 induction r with
 | nil=>exact True.intro
 | @cons p q ps qs h t ih=>
  obtain⟨h1,_,h2⟩:=h;by_cases e:p.1=k
  . have e':q.1=k:=h1.symm.trans e;have b:atKey (q::qs) k=some q.2:=by simp[atKey,bV,e']
    rw[F4 e,b];exact h2
  . have e':¬q.1=k:=λz=>e<|h1.trans z;have b:atKey (q::qs) k=atKey qs k:=by simp[atKey,bV,e']
    rw[F5 e,b];exact ih
def KT.repl{H:Hp}{aT:List (List G6 × V)}{xs:List (List G6 × Addr × Value)}(r:KT H aT xs)(k:List G6){y:V}{u:Value}(ry:w8 y u) :
    KT H (aT.map λkv=>if kv.1=k then(kv.1,y)else kv) (xs.map<|putAt k u):=by
 induction r with
 | nil=>exact .nil
 | @cons p q ps qs h t ih=>
  rw[aO,aO];show .cons ?_ ih;obtain⟨h1,h2,h3⟩:=h;unfold putAt;by_cases e:p.1=k
  . rw[if_pos e,if_pos<|h1.symm.trans e];exact⟨h1,h2,ry⟩
  . rw[if_neg e,if_neg<|λz=>e<|h1.trans z];exact⟨h1,h2,h3⟩
def KT.put{H:Hp}{aT:List (List G6 × V)}{xs:List (List G6 × Addr × Value)}(r:KT H aT xs)(k:List G6){b:Addr}{y:V}{u:Value}(hb:H b=some (.tup<|k.map kV))(ry:w8 y u) :
    KT H (U1 aT k y) (storedH xs k b u):=by
 have e:(aT.any λkv=>decide<|kv.1=k)=(atKey xs k).isSome:=by rw[Dt,(r.val k).isSome_eq,Option.isSome_map]
 unfold U1 storedH;rw[e];by_cases q:(atKey xs k).isSome=true
 . rw[if_pos q,if_pos q];exact r.repl k ry
 . rw[if_neg q,if_neg q];exact Paired.snoc r ⟨Y,hb,ry⟩
def KT.keeps{H H':Hp}{aT:List (List G6 × V)}{xs:List (List G6 × Addr × Value)}(r:KT H aT xs)(ht:∀b ys,H b=some (.tup ys)->H' b=some (.tup ys)):KT H' aT xs:=
 Paired.mapP r λ_ _ z=>⟨z.1,ht _ _ z.2.1,z.2.2⟩
section
variable{P:Program}{w:World}{H:Hp}{h:Heap}{a:Addr}
def Vj{u:HO}(ok:X7 P w H h)(e:Rd H a u):D1 P w H h a u:=e.ok ok
def SX{aT:List (G6 × V)}(ok:X7 P w H h)(e:Rd H a (.dK aT)):aT.length<=sizeLine/\(a == sysModules)=false/\∃vs,KV aT vs/\h.DictOf (C4 P w) a vs:=
 show D1 P w H h a (.dK aT)from Vj ok e
def OH{aT:List (G6 × V)}(ok:X7 P w H h)(e:H a=some (.dK aT)):aT.length<=sizeLine/\(a == sysModules)=false/\∃vs,KV aT vs/\h.DictOf (C4 P w) a vs:=SX ok (.inl e)
def Nu{ks:List G6}(ok:X7 P w H h)(e:H a=some (.tup<|ks.map kV)):(tupleKind<|C4 P w).is h ks a:=by obtain⟨_,dw,r,⟨o,h1,h2,n,h3⟩,_⟩:=(show D1 P w H h a (.tup<|ks.map kV)from ok a _ e);exact⟨o,dw.toArray,n,h1,h2,h3,by simpa using IK r⟩
def SS{aT:List (List G6 × V)}(ok:X7 P w H h)(e:Rd H a (.dT aT)):aT.length<=sizeLine/\(a == sysModules)=false/\
    ∃xs,KT H aT xs/\h.DictOfH (tupleKind<|C4 P w) a xs:=by
 obtain⟨z,y,xs,r,o,es,ep,h1,h2,h3,h4,h5⟩:=(show D1 P w H h a (.dT aT)from Vj ok e);show⟨z,y,xs,r,o,es,ep,h1,h2,h3,h4,λx hx=>?_,h5⟩;have all:∀{l:List (List G6 × V)} {m:List (List G6 × Addr × Value)},KT H l m->∀x∈m,(tupleKind<|C4 P w).is h x.1 x.2.1:=by
  intro l m q
  induction q with
  | nil=>intro x hx;exact nomatch hx
  | @cons p q ps qs hq t ih=>
   intro x hx;rcases aw.mp hx with e | hx
   . subst e;exact Nu ok (by rw[<- hq.1];exact hq.2.1)
   . exact ih x hx
 exact all r x hx
def m0u{aT:List (List G6 × V)}(ok:X7 P w H h)(e:H a=some (.dT aT)):aT.length<=sizeLine/\(a == sysModules)=false/\
    ∃xs,KT H aT xs/\h.DictOfH (tupleKind<|C4 P w) a xs:=SS ok (.inl e)
end
def Aw(H:Hp)(a:Addr)(y:V)(r:Option V):Prop:=
 (∃aT k,Rd H a (.dK aT)/\y=kV k/\r=E5 aT k)\/∃aT k b,Rd H a (.dT aT)/\y=.ref b/\H b=some (.tup<|k.map kV)/\r=E5 aT k
def Dj(H:Hp)(a:Addr)(y v:V)(H':Hp):Prop:=
 (∃aT k,H a=some (.dK aT)/\y=kV k/\aT.length < sizeLine/\H'=upd H a (.dK<|U1 aT k v))\/
 ∃aT k b,H a=some (.dT aT)/\y=.ref b/\H b=some (.tup<|k.map kV)/\aT.length < sizeLine/\H'=upd H a (.dT<|U1 aT k v)
theorem Aw.k{H:Hp}{a:Addr}{aT:List (G6 × V)}{k:G6}(e:H a=some (.dK aT)):Aw H a (kV k) (E5 aT k):=.inl ⟨aT,k,.inl e,Y,Y⟩
def Aw.t{H:Hp}{a b:Addr}{aT:List (List G6 × V)}{k:List G6}(e:H a=some (.dT aT))(eb:H b=some (.tup<|k.map kV)):Aw H a (.ref b) (E5 aT k):=.inr ⟨aT,k,b,.inl e,Y,eb,Y⟩
theorem Dj.k{H:Hp}{a:Addr}{aT:List (G6 × V)}{k:G6}{v:V}(e:H a=some (.dK aT))(hl:aT.length < sizeLine):Dj H a (kV k) v (upd H a<|.dK<|U1 aT k v):=.inl ⟨aT,k,e,Y,hl,Y⟩
def Dj.t{H:Hp}{a b:Addr}{aT:List (List G6 × V)}{k:List G6}{v:V}(e:H a=some (.dT aT))(eb:H b=some (.tup<|k.map kV))(hl:aT.length < sizeLine) :
    Dj H a (.ref b) v (upd H a<|.dT<|U1 aT k v):=.inr ⟨aT,k,b,e,Y,eb,hl,Y⟩
section
variable{X:Cx}{aS:w1e}{σ:St}{H:Hp}{s:Shared}{a:Addr}{y v:V}{u r:Value}{o:Option V}{A:Around}{E:w1f}
def j5.big(I:j5 X aS σ H s):sysModules < s.heap.objs.size:=by have h:mainGlobals < s.heap.objs.size:=(I.mod.glob.keeps I.bk).lt;exact cw bD h
def QG{Q:w1f}(hu:A.units+1 < cLine)(I:j5 X aS σ H s)(g:Aw H a y (some v))(ry:w8 y u)(h:∀w' s',j5 X aS σ H s'->w8 v w'->Q w' s') :
    wpAny (model X.prog X.w) A (getItem (.ref a) u) Q E s:=by
 rcases g with ⟨aT,k,e,ey,l⟩ | ⟨aT,k,b,e,ey,eb,l⟩
 . subst ey;obtain⟨z,hd,vs,rel,dd⟩:=SX I.hok e;obtain⟨w',hw,fF⟩:=Bu.some_of (v:=v) (o:=valueAt vs k) (by rw[l];exact rel.val k);exact wpAny_getItem_of (LN ry) dd.mapOf hw (h w' _ (I.tok _) fF)
 . subst ey;cases (show u=Value.ref b from ry);obtain⟨z,hd,xs,rel,dd⟩:=SS I.hok e;obtain⟨w',hw,fF⟩:=Bu.some_of (v:=v) (o:=(atKey xs k).map (·.2)) (by rw[l];exact rel.val k);obtain⟨p,hp,dU⟩:=cS.mp hw;show wpAny_getItem_heap (tupleKind_room_in1 hu) (Nu I.hok eb) dd hp ?_;rw[dU];exact h w' _ (I.tok _) fF
def Ke{h':Heap}{t':Nat}{ob:HO}(I:j5 X aS σ H s)(mu:n0e (H a))(hs:Heap.SameBut a s.heap h')(he:∃q,h'.get? a=some q)(new:D1 X.prog X.w (upd H a ob) h' a ob) :
    j5 X aS σ (upd H a ob) { s with heap:=h',toks:=t' }:=
 I.write (x:=a) (e:=a) mu (.inl Y) (λb q hb z=>(hs.2 b hb).trans z) he new
def SY{P:Program}{w:World}{H':Hp}{h':Heap}{aT:List (G6 × V)}{vs:List (G6 × Value)}(z:aT.length<=sizeLine)(hd:(a == sysModules)=false)(rel:KV aT vs)(dd:h'.DictOf (C4 P w) a vs) :
    D1 P w H' h' a (.dK aT):=⟨z,hd,vs,rel,dd⟩
def QF{H':Hp}{Q:Unit->Shared->Prop}(hu:A.units+1 < cLine)(I:j5 X aS σ H s)(g:Dj H a y v H')(ry:w8 y u)(rv:w8 v r)(h:∀s',j5 X aS σ H' s'->Q () s') :
    wpAny (model X.prog X.w) A (setItem (.ref a) u r) Q E s:=by
 rcases g with ⟨aT,k,e,ey,l,eH⟩ | ⟨aT,k,b,e,ey,eb,l,eH⟩
 . subst ey eH;obtain⟨z,hd,vs,rel,dd⟩:=OH I.hok e;have hz:vs.length<=sizeLine:=by rw[<- rel.length];exact z
   have hl:(U1 aT k v).length<=sizeLine:=by have:=W2 aT k v;omega
   show wpAny_setItem_pairs (hsz:=hz) (LN ry) dd λh' ja hs=>h _ ?_;have he:∃q,h'.get? a=some q:=let⟨q,_,_,hq,_⟩:=ja;⟨q,hq⟩
   exact Ke I (by rw[e];exact True.intro) hs he (SY hl hd (rel.put k rv) ja)
 . subst ey eH;cases (show u=Value.ref b from ry);obtain⟨z,hd,xs,rel,dd⟩:=m0u I.hok e;have hz:xs.length<=sizeLine:=by rw[<- Paired.length rel];exact z
   have hl:(U1 aT k v).length<=sizeLine:=by have:=W2 aT k v;omega
   show wpAny_setItem_heap (hsz:=hz) (tupleKind_room_in1 hu) (Nu I.hok eb) dd λh' ja hs=>h _ ?_;obtain⟨q,es,ep,hq,h2,h3,h4,_,h5⟩:=ja;show Ke I (by rw[e];exact True.intro) hs ⟨q,hq⟩ ⟨hl,hd,_,(rel.put k eb rv).keeps λc ys ec=>?_,q,es,ep,hq,h2,h3,h4,h5⟩;rw[k8<|l0t ec e<|λz=>nomatch z];exact ec
end
section
variable{X:Cx}{aS:w1e}{σ:St}{H:Hp}{s:Shared}{a:Addr}{aT:List (G6 × V)}{k:G6}{u:Value}{A:Around}{E:w1f}
end
def Yh(i:Expr):Prop:=∀ov iv,subscripted i false ov iv=operate [ov,iv] (getItem ov iv)
def Ob{prog:Program}{w:World}{A:Around}{E:w1f}{s:Shared}{env:Env}{value slice:Expr}{pos:Pos}{T id:String}{Q:w1f}
    (hl:typeLookup (.type T) "__getitem__"=pure (some<|.builtin id)) (hs:Yh slice)
    (h:wpAny (model prog w) A (eval value env) (λo s₁=>wpAny (model prog w) A (eval slice env) (λi s₂=>s₂.TypeIs o T/\wpAny (model prog w) A (getItem o i) Q E s₂) E s₁) E s) :
    wpAny (model prog w) A (eval (.Subscript value slice pos) env) Q E s:=by
 show Subscript_<|wpAny_mono h (λo s₁ h₁=>wpAny_mono h₁ (λi s₂ h₂=>?_) λ_ _ x=>x) λ_ _ x=>x;obtain⟨hT,h₂⟩:=h₂;unfold subscriptTail;show wpAny_bind ?_;rw[getitemInPython_of_ne hT.not_modules];show wpAny_bind<|wpAny_specialOf hT hl ?_;have dW:wpAny (model prog w) A (subscripted slice false o i) (λr s₃=>wpAny (model prog w) A (letTemporaryGo value o r >>= λ_=>pure r) Q E s₃) E s₂:=by rw[hs o i];exact wpAny_operating (wpAny_mono h₂ (λr s₃ h₃=>wpAny_bind<|wpAny_letTemporaryGo<|wpAny_pure h₃) λ_ _ x=>x)
 first
  | exact wpAny_pure (wpAny_bind dW)
  | exact wpAny_bind (wpAny_pure<|wpAny_bind dW)
  | exact wpAny_bind dW
def LX{X:Cx}{aS:w1e}{σ:St}{H:Hp}{s:Shared}{a:Addr}{y:V}{o:Option V}(I:j5 X aS σ H s)(g:Aw H a y o):s.TypeIs (.ref a) "dict":=by
 rcases g with ⟨aT,k,e,_,_⟩ | ⟨aT,k,b,e,_,_,_⟩
 . obtain⟨_,_,vs,_,dd⟩:=SX I.hok e;exact dd.typeIs
 . obtain⟨_,_,xs,_,dd⟩:=SS I.hok e;exact dd.typeIs
def YT(td ty:TE):TE:=λσ H Q=>td σ H λx H1=>ty σ H1 λy H2=>∃a v,x=.ref a/\Aw H2 a y (some v)/\Q v H2
def Zf(td ty tv:TE):TS:=λD σ H=>tv σ H λv H1=>td σ H1 λx H2=>ty σ H2 λy H3=>∃a H4,x=.ref a/\Dj H3 a y v H4/\D.nx σ H4
section
variable{X:Cx}{o i e value:Expr}{pos dP mI:Pos}{td ty tv:TE}
def F0(hu:X.A.units+1 < cLine)(ho:PE X o td)(hi:PE X i ty)(hs:Yh i):PE X (.Subscript o i pos) (YT td ty):=by intro aS s σ H Q I h;show Ob PySem.F.slot_dict_getitem.lookup hs<|B0 (ho aS s σ H _ I h) λu s1 ⟨x,H1,I1,rx,q1⟩=>B0 (hi aS s1 σ H1 _ I1 q1) λiv s2 ⟨y,H2,I2,ry,a,v,ex,g,q2⟩=>?_;subst ex;obtain rfl:u=Value.ref a:=rx;exact⟨LX I2 g,QG hu I2 g ry λw' s3 I3 fF=>⟨v,H2,I3,fF,q2⟩⟩
def V6(hu:X.A.units+1 < cLine)(ho:PE X o td)(hi:PE X i ty)(hv:PE X value tv)(hs:swapsWith value (some<|.Subscript o i dP) pos.line X.env=pure false) :
    PS X (.Assign [.Subscript o i dP] value pos) (Zf td ty tv):=by
 intro aS s σ H D I h;show wpAny_Assign_Subscript (B0 (hv aS s σ H _ I h) λr s1 ⟨v,H1,I1,rv,q1⟩=>B0 (ho aS s1 σ H1 _ I1 q1) λu s2 ⟨x,H2,I2,rx,q2⟩=>B0 (hi aS s2 σ H2 _ I2 q2) λiv s3 ⟨y,H3,I3,ry,a,H4,ex,g,q3⟩=>?_) hs;subst ex;obtain rfl:u=Value.ref a:=rx;exact QF hu I3 g ry rv λs4 I4=>⟨σ,H4,I4,q3⟩
end
def LW{P:Program}{w:World}{H:Hp}(h:Heap)(hb:sysModules < h.objs.size):D1 P w H (h.push { cls:=.type "dict",data:=.dict #[] }) h.objs.size (.dK []):=
 ⟨bh _,beq_eq_false_iff_ne.mpr<|Ne.symm<|ai hb,[],.nil,Heap.DictOf.new h⟩
def tDNewK:TE:=λ_ H Q=>∀p,H p=none->Q (.ref p) (upd H p<|.dK [])
section
variable{X:Cx}{pos:Pos}
def RV:PE X (.Dict [] [] pos) tDNewK:=λaS s σ H Q I h=>
 wpAny_Dict_empty ⟨.ref s.heap.objs.size,_,I.laid (a:=s.heap.objs.size) (o:=.dK []) (t':=s.toks) (λ_ _ q=>ag _ q) (ae _)<|LW s.heap I.big,Y,h _<|I.hok.fresh<|ae _⟩
end
def MB:List (TE × TE)->St->Hp->(List (V × V)->Hp->Prop)->Prop
 | [],_,H,Q=>Q [] H
 | (tk,tv)::r,σ,H,Q=>tk σ H λx H1=>tv σ H1 λy H2=>MB r σ H2 λps H3=>Q ((x,y)::ps) H3
abbrev VV:List (V × V)->List (Value × Value)->Prop:=Paired λp q=>w8 p.1 q.1/\w8 p.2 q.2
def PPs(X:Cx)(pos:Pos)(ft:List (Option Expr))(eI:List Expr)(gK:List (TE × TE)):Prop:=
 ∀(aS:w1e) (s:Shared) (σ:St) (H:Hp) (Q:List (V × V)->Hp->Prop),j5 X aS σ H s->MB gK σ H Q->
  wpAny (model X.prog X.w) X.A (evalPairs<|pairTrees ft eI X.env pos) (λvs s'=>∃ps H',j5 X aS σ H' s'/\VV ps vs/\Q ps H') X.xe s
def Oq{X:Cx}{pos:Pos}:PPs X pos [] [] []:=λaS s σ H Q I h=>pairTrees_nil_walk ⟨[],H,I,.nil,h⟩
def Q1{X:Cx}{pos:Pos}{k v:Expr}{ks:List (Option Expr)}{vs:List Expr}{tk tv:TE}{gK:List (TE × TE)}(hk:PE X k tk)(hv:PE X v tv)(hr:PPs X pos ks vs gK) :
    PPs X pos (some k::ks) (v::vs) ((tk,tv)::gK):=λaS s σ H Q I h=>
 pairTrees_cons_walk (B0 (hk aS s σ H _ I h) λu s1 ⟨x,H1,I1,rx,q1⟩=>B0 (hv aS s1 σ H1 _ I1 q1) λw2 s2 ⟨y,H2,I2,ry,q2⟩=>
  B0 (hr aS s2 σ H2 _ I2 q2) λws s3 ⟨ps,H3,I3,rel,q3⟩=>⟨(x,y)::ps,H3,I3,.cons ⟨rx,ry⟩ rel,q3⟩)
def F9(aT more:List (G6 × V)):List (G6 × V):=more.foldl (λdJ kv=>U1 dJ kv.1 kv.2) aT
def KV.merge:∀{more:List (G6 × V)} {rs:List (G6 × Value)} {aT:List (G6 × V)} {vs:List (G6 × Value)},KV more rs->KV aT vs->KV (F9 aT more) (merged vs rs):=by
 intro more rs aT vs r;unfold KV at r
 induction r generalizing aT vs with
 | nil=>intro q;exact q
 | @cons p q ps qs h t ih=>
  intro r0;have e:KV (U1 aT p.1 p.2) (stored vs q.1 q.2):=by have:=r0.put p.1 h.2;rw[<- h.1];exact this
  exact ih e
theorem Cn:∀(more aT:List (G6 × V)),(F9 aT more).length<=aT.length+more.length
 | [],aT=>by show aT.length<=aT.length+0;omega
 | p::r,aT=>by
  have h1:=Cn r<|U1 aT p.1 p.2;have h2:=W2 aT p.1 p.2;show(F9 (U1 aT p.1 p.2) r).length<=_;rw[bx];omega
theorem GZ{P:Program}{w:World}:∀{aT:List (G6 × V)} {ws:List (Value × Value)},VV (aT.map λkv=>(kV kv.1,kv.2)) ws->∃rs,Carries (C4 P w) ws rs/\KV aT rs
 | [],_,r=>by rw[List.map_nil]at r;cases r;exact⟨[],True.intro,.nil⟩
 | p::aT,_,r=>by
  rw[aO]at r;cases r with
  | @cons a b as bs h t=>
   obtain⟨rs,c,q⟩:=GZ (P:=P) (w:=w) t;obtain⟨b1,b2⟩:=b;exact⟨(p.1,b2)::rs,⟨LN h.1,Y,c⟩,.cons ⟨Y,h.2⟩ q⟩
def YS(gK:List (TE × TE)):TE:=λσ H Q=>∀p,H p=none->MB gK σ (upd H p<|.dK []) λps H2=>H2 p=some (.dK [])/\∃aT:List (G6 × V),ps=aT.map (λkv=>(kV kv.1,kv.2))/\aT.length<=15/\Q (.ref p) (upd H2 p<|.dK<|F9 [] aT)
def Os{X:Cx}{pos:Pos}{ft:List (Option Expr)}{eI:List Expr}{gK:List (TE × TE)}(h:PPs X pos ft eI gK)(iW:ft.all (·.isSome)=true)(hl:ft.length=eI.length)(h0:ft≠[])
    (xu:ft.length<=15):PE X (.Dict ft eI pos) (YS gK):=by
 intro aS s σ H Q I q;have hn:=I.hok.fresh<|ae s.heap.objs.size;have I1:=I.laid (a:=s.heap.objs.size) (o:=.dK []) (h':=s.heap.push { cls:=.type "dict",data:=.dict #[] }) (t':=s.toks) (λ_ _ q=>ag _ q) (ae _)<|LW s.heap I.big;show wpAny_Dict_walk (knd:=C4 X.prog X.w) iW hl h0 xu<|B0 (h aS _ σ _ _ I1<|q _ hn) λws s2 ⟨ps,H2,I2,rel,e,aT,ep,lk,q2⟩=>?_;subst ep;obtain⟨rs,c,rk⟩:=GZ (P:=X.prog) (w:=X.w) rel;obtain⟨z,hd,xP,r0,dd⟩:=OH I2.hok e;cases r0;show⟨rs,c,dd,λh' ja hs=>⟨.ref s.heap.objs.size,_,?_,Y,q2⟩⟩;have hz:(F9 [] aT).length<=sizeLine:=by have h1:=Cn aT [];rw[bW]at h1;rw[sizeLine_eq];omega
 have he:∃q,h'.get? s.heap.objs.size=some q:=let⟨q,_,_,hq,_⟩:=ja;⟨q,hq⟩
 exact Ke I2 (by rw[e];exact True.intro) hs he (SY hz hd (rk.merge .nil) ja)
structure M1(X:Cx)(o:Expr)(m:Str)(dM:Pos)(e:Expr)(dD:Pos):Prop where
 base:attributeBase o m X.env (eval o X.env)=eval o X.env
 few:((backTo dD<|starEach [e] X.env).all (λx=>!x.1) && (backToKw dD<|keywordEach [] X.env).all (λx=>x.1.isSome)
  && decide (([e]:List Expr).length+([]:List Keyword).length+(if([]:List Keyword).isEmpty then 0 else 1) < 30))=true
 line:(dM.endLine == dD.line)=true
 trees:backTo dD (starEach [e] X.env)=[(false,eval e X.env)]
structure M2(X:Cx)(o:Expr)(m:Str)(dM:Pos)(e f:Expr)(dD:Pos):Prop where
 base:attributeBase o m X.env (eval o X.env)=eval o X.env
 few:((backTo dD<|starEach [e,f] X.env).all (λx=>!x.1) && (backToKw dD<|keywordEach [] X.env).all (λx=>x.1.isSome)
  && decide (([e,f]:List Expr).length+([]:List Keyword).length+(if([]:List Keyword).isEmpty then 0 else 1) < 30))=true
 line:(dM.endLine == dD.line)=true
 trees:backTo dD (starEach [e,f] X.env)=[(false,eval e X.env),(false,eval f X.env)]
section
variable{X:Cx}{aS:w1e}{σ:St}{H:Hp}{s:Shared}{a:Addr}{y d:V}{u r:Value}{o:Option V}{A:Around}{E:w1f}
end
section
variable{X:Cx}{o e f:Expr}{dM dD:Pos}{td ty tx:TE}
end
section
variable{X:Cx}{aS:w1e}{σ:St}{H:Hp}{s:Shared}{a:Addr}{aT:List (G6 × V)}{A:Around}{E:w1f}
end
section
variable{X:Cx}{aS:w1e}{σ:St}{H:Hp}{s:Shared}{a:Addr}{y:V}{u:Value}{A:Around}{E:w1f}
end
section
variable{P:Program}{w:World}{H H':Hp}{h h':Heap}
def X7.there(x:X7 P w H h)(e:H a=some o):∃ob,h.get? a=some ob:=by
 have y:=x a o e;clear e x
 induction o with
 | lst xs=>obtain⟨_,dw,n,r,e⟩:=y;exact⟨_,e⟩
 | tup xs=>obtain⟨_,dw,r,⟨ob,e,c⟩,_⟩:=y;exact⟨_,e⟩
 | dK aT=>obtain⟨_,_,vs,r,ob,es,ep,e,c⟩:=y;exact⟨_,e⟩
 | dT aT=>obtain⟨_,_,xs,r,ob,es,ep,e,c⟩:=y;exact⟨_,e⟩
 | set S n=>obtain⟨ob,es,ep,t,e,c⟩:=y;exact⟨_,e⟩
 | ins C dx fs=>obtain⟨d,z,ne,e,_⟩:=y;exact⟨_,e⟩
 | own y'=>exact y
 | xd fs=>obtain⟨mA,⟨od,es,ep,e,c⟩,r⟩:=y;exact⟨_,e⟩
 | rng lo hi=>obtain⟨t,u,v,e⟩:=y;exact⟨_,e⟩
 | frz ob u ih=>exact⟨_,y.1⟩
 | tbl ps=>exact⟨_,y⟩
 | met f y'=>exact⟨_,y⟩
 | ext φ=>exact y.2.1
def X7.nothing(x:X7 P w H h)(n:h.get? a=none):H a=none:=by
 cases q:H a with
 | none=>rfl
 | some o=>obtain⟨ob,e⟩:=x.there q;rw[n]at e;cases e
def X7.loose(x:X7 P w H h)(k:∀b u,H b≠none->h.get? b=some u->h'.get? b=some u):X7 P w H h':=λa o e=>
 (x a o e).stay (λb u hb q=>k b u (by
  rcases hb with z | z
  . rw[z,e];exact nofun
  . rw[z];exact nofun) q) (λ_ q=>q) λ_ _ q=>q
def XT(h:Heap)(a T C:Addr):Prop:=∃oe vs a0 oT ts,h.get? a=some oe/\(oe.cls=.ref C/\vs[0]? = some a0)/\oe.data=.fields vs/\vs[1]? = some (.ref T)/\T≠a/\h.get? T=some oT/\oT.data=.fields ts/\ts[3]? = some .none
structure Ku(P:Program)(w:World)(fs:List Addr)(H H':Hp)(s s':Shared)(a T C:Addr):Prop where
 os:s'.os=s.os
 bare:AllBare s'.gens
 un:Un fs [] H H' s.heap s'.heap
 hok:X7 P w H' s'.heap
 xt:XT s'.heap a T C
 na:s.heap.get? a=none
 nT:s.heap.get? T=none
 ha:H' a=none
 hT:H' T=none
def Hk(P:Program)(w:World):Mi:=λouter H s E e s'=>∃a T C H',e=.ref a/\Ku P w (E2 outer) H H' s s' a T C/\E (.ref C) none H'
theorem Q2:∀{l:List Env},h.FunFrames base l->(∀b∈E2 l,base'.get? b=none)->h.FunFrames base' l
 | [],_,_=>trivial
 | env::r,⟨k,⟨L,o,hf,_,ho,hd⟩,t⟩,hb=>⟨k,⟨L,o,hf,hb L (by unfold E2;rw[bg,hf];exact aF),ho,hd⟩,
     Q2 t λb hm=>hb b<|by unfold E2;rw[bg,hf];exact aG _ hm⟩
abbrev m0q(h:Heap)(a T:Addr)(fs:List Addr):Heap:=PySem.W.hideAll h (a::T::fs)
end
section
variable{P:Program}{w:World}{H H':Hp}{s s':Shared}{a T C:Addr}{l:List Env}{iA:Heap}
def Ku.base(F:Ku P w (E2 l) H H' s s' a T C)(ff:s'.heap.FunFrames iA l):∃a0,Heap.FlyingW (m0q s'.heap a T<|E2 l) l a (.ref C) a0 s'.heap:=by
 obtain⟨oe,vs,a0,oT,ts,e1,e2,e3,e4,e5,e6,e7,e8⟩:=F.xt;exact⟨a0,λb o e=>cJ _ e,ba _ (by simp),Q2 ff λb hb=>ba _ (by simp[hb]),
  oe,vs,T,oT,ts,e1,e2,e3,e4,ba _ (by simp),e5,e6,e7,e8⟩
def Ku.back{l':List Env}{h':Heap}{a0:Value}{tk:Nat}(F:Ku P w (E2 l) H H' s s' a T C)(ff:s'.heap.FunFrames iA l)(fH:∀b∈E2 l,H' b=none)
    (fl:Heap.FlyingW (m0q s'.heap a T<|E2 l) l' a (.ref C) a0 h') (up:s'.heap.UpToSlots h'):∃T',Ku P w (E2 l) H H' s { s' with heap:=h',toks:=tk } a T' C:=by
 obtain⟨k1,_,_,oe,vs,T',oT,ts,e1,e2,e3,e4,e0,e5,e6,e7,e8⟩:=fl;have keep:∀b o,s'.heap.get? b=some o->b≠a->b≠T->b ∉ E2 l->h'.get? b=some o:=λb o e n1 n2 n3=>k1 b o (bT _ e<|by simp[n1,n2,n3]);have slot:∀b o,s'.heap.get? b=some o->b∈E2 l->(∃sl,h'.get? b=some { o with slots:=sl })/\∀vs,o.data≠.fields vs:=λb o e hb=>by
  obtain⟨_,o1,q1,q2⟩:=ff.mem hb;rw[e]at q1;cases q1;exact⟨up b o e q2,q2⟩
 have nf:T' ∉ E2 l:=λhb=>by
  obtain⟨_,o1,q1,q2⟩:=ff.mem hb;obtain⟨sl,q3⟩:=up _ o1 q1 q2;rw[e6]at q3;cases q3;exact q2 _ e7
 have tt:T'=T\/s'.heap.get? T'=none:=by
  by_cases z:T'=T
  . exact .inl z
  . right;cases q:s'.heap.get? T' with
    | none=>rfl
    | some o=>
     have:=bT (a::T::E2 l) q (by simp[e5,z,nf]);rw[e0]at this;cases this
 have om:H' T'=none:=by
  rcases tt with z | z
  . rw[z];exact F.hT
  . exact F.hok.nothing z
 have uZ:s.heap.get? T'=none:=by
  rcases tt with z | z
  . rw[z];exact F.nT
  . cases q:s.heap.get? T' with
    | none=>rfl
    | some o=>
     obtain⟨o',q'⟩:=F.un.there _ o q (by simp);rw[z]at q';cases q'
 have ne:∀b o,s.heap.get? b=some o->b≠a/\b≠T:=λb o e=>⟨(λz=>by rw[z,F.na]at e;cases e),(λz=>by rw[z,F.nT]at e;cases e)⟩;show⟨T',F.os,F.bare,⟨λb o e n hb hx=>?_,λb o e n hb hx=>?_,F.un.free,λb o e hx=>?_,F.un.tups,F.un.frzs,F.un.tbls⟩,F.hok.loose λb u hb e=>?_,⟨oe,vs,a0,oT,ts,e1,e2,e3,e4,e5,e6,e7,e8⟩,F.na,uZ,F.ha,om⟩
 . exact keep b o (F.un.keep b o e n hb hx) (ne b o e).1 (ne b o e).2 hb
 . obtain⟨sl,q⟩:=F.un.slot b o e n hb hx;obtain⟨⟨gM,q'⟩,_⟩:=slot b _ q hb;exact⟨gM,q'⟩
 . obtain⟨o',q⟩:=F.un.there b o e hx;by_cases hb:b∈E2 l
   . obtain⟨⟨sl,q'⟩,_⟩:=slot b o' q hb;exact⟨_,q'⟩
   . exact⟨o',keep b o' q (ne b o e).1 (ne b o e).2 hb⟩
 . exact keep b u e (λz=>hb<|z▸F.ha) (λz=>hb<|z▸F.hT) λz=>hb (fH b z)
def Di(a C:Addr):HO:=.ext λh=>∃o,h.get? a=some o/\o.cls=.ref C
def Ku.un'(F:Ku P w (E2 l) H H' s s' a T C):Un (E2 l) [] H (upd H' a<|Di a C) s.heap s'.heap where
 keep:=F.un.keep
 slot:=F.un.slot
 free:=λb o e n hx=>by rw[k8<|λz=>by rw[z,F.na]at e;cases e];exact F.un.free b o e n hx
 there:=F.un.there
 tups:=λb xs e=>by have:=F.un.tups b xs e;rw[k8<|k9 this F.ha];exact this
 frzs:=λb o u e=>by have:=F.un.frzs b o u e;rw[k8<|k9 this F.ha];exact this
 tbls:=λb ps e=>by obtain⟨m,q⟩:=F.un.tbls b ps e;exact⟨m,by rw[k8<|k9 q F.ha];exact q⟩
def Ku.hok'(F:Ku P w (E2 l) H H' s s' a T C):X7 P w (upd H' a<|Di a C) s'.heap:=λb o e=>by
 by_cases z:b=a
 . subst z;rw[c0]at e;cases e;obtain⟨oe,vs,a0,oT,ts,e1,e2,_⟩:=F.xt;exact⟨⟨oe,e1,e2.1⟩,⟨oe,e1⟩,λh1 h2 ⟨o,q1,q2⟩ k=>⟨o,k o q1,q2⟩⟩
 . rw[k8 z]at e;exact(F.hok b o e).stay (λ_ _ _ q=>q) (λc q=>by rw[k8<|k9 q F.ha];exact q) λc xs q=>by rw[k8<|k9 q F.ha];exact q
end
def XP(X:Cx)(aS:w1e)(σ:St)(E:XK)(e:Value)(s':Shared):Prop:=∃s H,j5 X aS σ H s/\Hk X.prog X.w X.stack H s E e s'
structure Ks(X:Cx)(E:XK):Prop where
 stk:X.stack=X.env::X.outer
 fr:X.env.frame=some X.env.locals
 ex:X.ex=[]
 xe:X.xe=λe s'=>wpAny (model X.prog X.w) X.A (leaving X.env e) (λ_ eE=>Hk X.prog X.w X.outer X.H₀ X.s₀ E e eE) (λe' eE=>Hk X.prog X.w X.outer X.H₀ X.s₀ E e' eE) s'
section
variable{X:Cx}{aS:w1e}{σ:St}{H:Hp}{s s':Shared}{E:XK}{e:Value}
def Ku.inv(I:j5 X aS σ H s)(F:Ku X.prog X.w (E2 X.stack) H H' s s' a T C):j5 X aS σ H' s':=I.call' F.os F.un F.hok F.bare (ch:=[]) (λ_ z=>absurd z<|by simp)
def Ku.inv'(I:j5 X aS σ H s)(F:Ku X.prog X.w (E2 X.stack) H H' s s' a T C):j5 X aS σ (upd H' a<|Di a C) s':=I.call' F.os F.un' F.hok' F.bare (ch:=[]) (λ_ z=>absurd z<|by simp)
def Ku.out(R:Ks X E)(I:j5 X aS σ H s)(F:Ku X.prog X.w (E2 X.stack) H H' s s' a T C)(q:E (.ref C) none H'):Hk X.prog X.w X.outer X.H₀ X.s₀ E (.ref a) s':=by
 have kz:∀b∈E2 X.outer,b∈E2 X.stack:=λb hb=>by rw[R.stk];unfold E2;rw[bg,R.fr];exact aG _ hb
 have u0:Un (E2 X.stack) [] X.H₀ H X.s₀.heap s.heap:=I.base.mono kz (by rw[R.ex];simp);have u1:=u0.trans F.un;have kT:∀b o,X.s₀.heap.get? b=some o->b≠X.env.locals:=λb o e=>ai<|ao (af e) I.ok.above;have uX:∀b o,X.s₀.heap.get? b=some o->b ∉ E2 X.outer->b ∉ E2 X.stack:=λb o e hb hm=>by
  rw[R.stk]at hm;unfold E2 at hm;rw[bg,R.fr]at hm;rcases aw.mp hm with z | z
  . exact kT b o e z
  . exact hb z
 have eZ:∀b,s.heap.get? b=none->X.s₀.heap.get? b=none:=λb n=>by
  cases q:X.s₀.heap.get? b with
  | none=>rfl
  | some o=>
   obtain⟨o',q'⟩:=I.base.there b o q (by rw[R.ex];simp);rw[n]at q';cases q'
 exact⟨a,T,C,H',Y,⟨F.os.trans I.os,F.bare,⟨λb o e n hb hx=>u1.keep b o e n (uX b o e hb) hx,λb o e n hb hx=>u1.slot b o e n (kz b hb) hx,u1.free,u1.there,u1.tups,u1.frzs,u1.tbls⟩,F.hok,F.xt,eZ a F.na,eZ T F.nT,F.ha,F.hT⟩,q⟩
def XP.leave(R:Ks X E)(x:XP X aS σ E e s'):X.xe e s':=by obtain⟨s,H,I,a,T,C,H',rfl,F,q⟩:=x;have J:=F.inv I;obtain⟨a0,fl⟩:=F.base J.stack;rw[R.xe];rw[R.stk]at fl;show wpAny_leaves_onW (J.ok.frames.trans<|by rw[R.stk]) R.fr fl λh' qh up=>?_;rw[<- R.stk]at qh;obtain⟨T',F'⟩:=F.back (tk:=s'.toks) J.stack J.stkFree qh up;exact F'.out R I q
def Nm(R:Ks X E)(I:j5 X aS σ H s)(m:Heap.MadeExcOf s.heap h' a (.ref C) vs)(q:E (.ref C) none H):X.xe (.ref a) { s with heap:=h' }:=by
 have J:j5 X aS σ H { s with heap:=h' }:=I.kept (t':=s.toks) m.keeps;obtain⟨t,he,ye,ht⟩:=m.there;have ha:H a=none:=I.hok.nothing m.new;rw[R.xe];have ff:h'.FunFrames (m0q h' a a<|E2 X.stack) X.stack:=Q2 J.stack λb hb=>ba _ (by simp[hb]);have xA:h'.FunFrames (m0q h' a a<|E2 X.stack) (X.env::X.outer):=by have z:=J.stack;rw[R.stk]at z;exact Q2 z λb hb=>ba _ (by rw[R.stk];simp[hb])
 show wpAny_leaving_firstW (a0:=.ref t) (base:=m0q h' a a<|E2 X.stack) (J.ok.frames.trans<|by rw[R.stk]) xA R.fr he (λb o e=>cJ _ e) (ba _<|by simp) rfl rfl rfl λh2 hL=>?_;obtain⟨k1,_,⟨oe,ws,T',oT,ts,e1,e2,e3,e4,e0,e5,e6,e7,e8⟩,k4⟩:=hL;have oy:∀b∈E2 X.stack,∃o,h'.get? b=some o/\∀vs,o.data≠.fields vs:=λb hb=>(ff.mem hb).2;have keep:∀b o,h'.get? b=some o->b≠a->b ∉ E2 X.stack->h2.get? b=some o:=λb o e n1 n3=>k1 b o (bT _ e<|by simp[n1,n3]);have nf:T' ∉ E2 X.stack:=λhb=>by
  obtain⟨o1,q1,q2⟩:=oy _ hb;obtain⟨sl,q3⟩:=k4 _ o1 q1 q2;rw[e6]at q3;cases q3;exact q2 _ e7
 have nT:h'.get? T'=none:=by
  cases q:h'.get? T' with
  | none=>rfl
  | some o=>
   have:=bT (a::a::E2 X.stack) q (by simp[e5,nf]);rw[e0]at this;cases this
 have ne:∀b o,s.heap.get? b=some o->b≠a:=λb o e z=>by rw[z,m.new]at e;cases e
 have F':Ku X.prog X.w (E2 X.stack) H H s { s with heap:=h2 } a T' C:=by
  show⟨Y,I.bare,⟨λb o e n hb hx=>keep b o (m.keeps b o e) (ne b o e) hb,λb o e n hb hx=>?_,λ_ _ _ n _=>n,λb o e hx=>?_,λ_ _ e=>e,λ_ _ _ e=>e,λb ps e=>⟨#[],by rw[e];simp⟩⟩,J.hok.loose λb u hb e=>keep b u e (λz=>hb<|z▸ha) λz=>hb<|J.stkFree b z,⟨oe,ws,_,oT,ts,e1,e2,e3,e4,e5,e6,e7,e8⟩,m.new,?_,ha,J.hok.nothing nT⟩
  . obtain⟨o1,q1,q2⟩:=oy b hb;have q3:=m.keeps b o e;rw[q1]at q3;cases q3;exact k4 b _ q1 q2
  . by_cases hb:b∈E2 X.stack
    . obtain⟨o1,q1,q2⟩:=oy b hb;obtain⟨sl,q3⟩:=k4 b o1 q1 q2;exact⟨_,q3⟩
    . exact⟨o,keep b o (m.keeps b o e) (ne b o e) hb⟩
  . cases q:s.heap.get? T' with
    | none=>rfl
    | some o=>rw[m.keeps _ o q]at nT;cases nT
 exact F'.out R I q
end
abbrev bmV:w1j:=[.type "ValueError",.type "Exception",.type "BaseException",.type "object"]
def QC{K:aa}{h:Heap}{C:Addr}{rR:w1j}{ip:String}(X:K.In h)(q:PySem.W.excIn K C rR ip=true) :
    ∃bm N nm q bs hdct sn sub ab col dd k0 k1 k2 k3 k5 mN,h.get? C=some (excClassObj nm q C N bs bm hdct sn sub ab col dd k0 k1 k2 k3 k5 ip)/\h.Ns N mN/\mN "__init__"=none/\OwnTail h rR bm:=by
 unfold PySem.W.excIn at q;split at q
 . rename_i dd cd sl ho;split at q
   . rename_i C' bm k0 k1 k2 k3 n k5 hm hs;simp only[cR,beq_iff_eq,Bool.not_eq_true']at q;obtain⟨⟨⟨⟨⟨rfl,rfl⟩,jY⟩,ht⟩,hok⟩,kZ⟩:=q;obtain⟨nm,bs,mro,ns,qn,hd,sn,sub,ab,col,yw⟩:=cd;dsimp only at hm jY hok kZ;subst hm jY;have wx:sl=#[k0,k1,k2,k3,some<|.builtin n,k5]:=by obtain⟨l⟩:=sl;simp only at hs;rw[hs]
     subst wx;exact⟨bm,ns,nm,qn,bs,hd,sn,sub,ab,col,dd,k0,k1,k2,k3,k5,_,X _ _ ho,.of_isNs<|PySem.W.isNs_of_in X hok,PySem.W.nsMap_none_of_in X hok kZ,PySem.W.tail_of_in X ht⟩
   . cases q
 . cases q
def j2.quiet{P:Program}{w:World}{K:aa}{mg:w1g}{base:Heap}{k:Nat}{f:Addr}{fd:FuncData}{ps:w1i}{sp:Sp}(F:j2 P w K mg base (Hk P w) k f fd ps sp) :
    j2 P w K mg base B7 k f fd ps (λvs H Q _=>sp vs H Q E0):=
 ⟨λvs H Q _ h=>F.len vs H Q E0 h,λA outer s H args us vs Q E hr e0 hb r h=>codeAny_mono (F.run A outer s H args us vs Q E0 hr e0 hb r h) λr s' hq=>by
  cases r with
  | error e=>obtain⟨_,_,_,_,_,_,z⟩:=hq;exact z.elim
  | ok fl=>cases fl <;>exact hq⟩
def j2.loud{P:Program}{w:World}{K:aa}{mg:w1g}{base:Heap}{k:Nat}{f:Addr}{fd:FuncData}{ps:w1i}{sp:Sp}(F:j2 P w K mg base B7 k f fd ps sp):j2 P w K mg base (Hk P w) k f fd ps sp:=
 ⟨F.len,λA outer s H args us vs Q E hr e0 hb r h=>codeAny_mono (F.run A outer s H args us vs Q E hr e0 hb r h) λr s' hq=>by
  cases r with
  | error e=>exact hq.elim
  | ok fl=>cases fl <;>exact hq⟩
section
variable{P:Program}{w:World}{K:aa}{mg:w1g}{base:Heap}
def Mh.okx{x qual:Str}{st:Stmt}{f:Addr}{fd:FuncData}{N ps:w1i}{k:Nat}{sp:Sp}(F:Mh K x qual st f fd)(S:c8 N ps (b9 st))(len:∀vs H Q E,sp vs H Q E->vs.length=ps.length)
    (eQ:∀(dR:Value) (A:Around) (outer:List Env) (s:Shared) (H:Hp) (vs:List V) (Q:VK) (E:XK),G5 k (A.deeper<|envOfC qual (b9 st) s.heap.objs.size f dR)->sp vs H Q E->
     ∃t,Kt (Kf (Hk P w) P w K mg base N qual (b9 st) f dR A outer s H E) (B5 st) t/\t { nx:=λ_ H'=>Q .non H',rt:=Q } (BZ N vs) H):j2 P w K mg base (Hk P w) (k+1) f fd ps sp:=by
 obtain⟨oc,od,kV,fc,pm,an,dR,ct,gF,rfl,lk,fX⟩:=F.ex;exact Vs lk fX S len λA outer s H vs Q E hr fB=>eQ dR A outer s H vs Q E hr fB
def K1:Ks (Kf (Hk P w) P w K mg base N qual scope f cd A outer s H E) E:=⟨Y,Y,Y,Y⟩
end
abbrev TX:=St->Hp->VK->XK->Prop
abbrev TSX:=BY->XK->St->Hp->Prop
def NQ(X:Cx)(e:Expr)(t:TX):Prop:=
 ∀(aS:w1e) (s:Shared) (σ:St) (H:Hp) (Q:VK) (E:XK),j5 X aS σ H s->t σ H Q E->wpAny (model X.prog X.w) X.A (eval e X.env) (EP X aS σ Q) (XP X aS σ E) s
def PSX(X:Cx)(st:Stmt)(t:TSX):Prop:=
 ∀(aS:w1e) (s:Shared) (σ:St) (H:Hp) (D:BY) (E:XK),j5 X aS σ H s->t D E σ H->wpAny (model X.prog X.w) X.A (exec st X.env) (SP X aS D) (XP X aS σ E) s
def n0c(X:Cx)(st:List Stmt)(t:TSX):Prop:=
 ∀(aS:w1e) (s:Shared) (σ:St) (H:Hp) (D:BY) (E:XK),j5 X aS σ H s->t D E σ H->wpAny (model X.prog X.w) X.A (execs st X.env) (SP X aS D) (XP X aS σ E) s
section
variable{X:Cx}{k:Nat}{f C:Addr}{fd:FuncData}{ps:w1i}{sp:Sp}{el:List V}{ds:w1j}{E:XK}{x m:Str}{p np dD pos dM:Pos}{e o:Expr}{es:List Expr}{ta:TE}{t:TA}{tx:TX}
def NQ.thru(R:Ks X E)(h:NQ X e tx):PE X e (λσ H Q=>tx σ H Q E):=λaS s σ H Q I q=>wpAny_mono (h aS s σ H Q E I q) (λ_ _ z=>z) λ_ _ z=>z.leave R
def Uj{aS:w1e}{σ:St}{H:Hp}{s:Shared}{Q:VK}{us:w1j}{vs:List V}(F:j2 X.prog X.w X.K X.mg X.base (Hk X.prog X.w) k f fd ps sp)(hr:G5 k X.A)(hb:J1 X.K fd ps ds)(hd:m9 el ds)
    (I:j5 X aS σ H s) (r:m9 vs us) (h:sp (vs++el) H Q E):wpAny (model X.prog X.w) X.A (call (.ref f) us) (EP X aS σ Q) (XP X aS σ E) s:=by
 have r2:m9 (vs++el) (us++ds):=r.append hd;have hl:(us++ds).length=ps.length:=by rw[<- r2.length];exact F.len _ _ _ _ h
 show wpAny_call<|codeAny_mono (F.run X.A X.stack s H ⟨us,[]⟩ (us++ds) (vs++el) Q E hr I.env0 (hb s us I.kIn hl) r2 h) λr s' hq=>?_;cases r with
 | error e=>exact⟨s,H,I,hq⟩
 | ok fl=>
  cases fl with
  | ret u=>exact I.after hq
  | next=>exact False.elim hq
  | brk=>exact False.elim hq
  | cont=>exact False.elim hq
def L9(F:j2 X.prog X.w X.K X.mg X.base (Hk X.prog X.w) k f fd ps sp)(hr:G5 k X.A)(hg:Gl X x)(hm:X.mg x=some (.ref f))(hk:PySem.W.keepIn X.K (.ref f)=true)(hb:J1 X.K fd ps ds)(hd:m9 el ds)
    (ha:PA X.nox (e::es) t) (fA:(x == ("__debug__":Str))=false:=by decide) (he:starEach (e::es) X.env=(false,eval e X.env)::starEach es X.env:=by rfl) (fb:(backTo pos<|starEach es X.env).any (·.1)=false:=by rfl) :
    NQ X (.Call (.Name x p) (e::es) [] pos) (λσ H Q E=>Rc sp el E t σ H Q):=by
 intro aS s σ H Q E I h;show wpAny_Call_Name_kw<|Av I hg hm ?_ fA;exact cK (h₀:=X.base) I.ok.mod.kin hk (wpAny_mono (ha pos aS s σ H _ (I.wish _) h) (λus s1 ⟨vs,H1,I1,r,q⟩=>⟨I1.unwish.kIn,Uj F hr hb hd I1.unwish r q⟩) λ_ _ z=>z.elim) he fb
def VI(E:XK)(C:Addr)(t:TA):TS:=λ_ σ H=>t σ H λvs H1=>vs.length<=sizeLine/\E (.ref C) none H1
def Lj(R:Ks X E)(hc:X.calm=true)(q:PySem.W.excIn X.K C bmV "ValueError.__new__"=true)(hg:Gl X x)(hm:X.mg x=some (.ref C))(ha:PA X.nox (e::es) t)
    (fA:(x == ("__debug__":Str))=false:=by decide) (he:starEach (e::es) X.env=(false,eval e X.env)::starEach es X.env:=by rfl) (fb:(backTo dD<|starEach es X.env).any (·.1)=false:=by rfl) :
    PS X (.Raise (some<|.Call (.Name x np) (e::es) [] dD) none pos) (VI E C t):=by
 intro aS s σ H D I h;obtain⟨bm,N,nm,qn,bs,hdct,sn,sub,ab,col,dd,k0,k1,k2,k3,k5,mN,hC,hN,kZ,T⟩:=QC I.mod.kin q;have hh:X.A.handled=none:=I.ok.hd hc;have ev:=ha dD aS s σ H _ (I.wish _) h;show wpAny_Raise_call_subU (C:=C) (nm:=nm) (q:=qn) (N:=N) (bs:=bs) (bm:=bm) (hdct:=hdct) (sn:=sn) (sub:=sub) (ab:=ab) (col:=col) (dd:=dd) (k0:=k0) (k1:=k1) (k2:=k2) (k3:=k3) (k5:=k5)
  PySem.F.excBase_ValueError bD PySem.F.excBase_ValueError (mN:=mN) (T.hasType PySem.F.excBase_ValueError.hasBase) hh (by rw[he];show(false || (backTo dD<|starEach es X.env).any (·.1))=false;rw[fb];rfl) kZ (Av I hg hm ⟨Y,?_⟩ fA)
 rw[he];change wpAny _ _ (spliced<|backTo dD<|starEach (e::es) X.env) _ _ _ at ev;rw[he]at ev;show Calls.evalArgs_plain<|wpAny_mono ev (λus s2 ⟨vs,H1,I1,r,hl,q2⟩=>?_) λ_ _ z=>z.elim;have J:j5 X aS σ H1 s2:=I1.unwish;exact⟨Y,by rw[<- r.length];exact hl,J.bk _ _ hC,hN.keeps J.bk,T.keeps J.bk,λh' a m=>Nm R J m q2⟩
end
abbrev Cx.caught(X:Cx)(a:Addr):Cx:={ X with A:=X.A.mark<|some<|.ref a,calm:=false,xe:=λ_ _=>False }
section
variable{X:Cx}{aS:w1e}{σ:St}{H:Hp}{s:Shared}{a:Addr}
def j5.catch(I:j5 X aS σ H s)(a:Addr):j5 (X.caught a) aS σ H s:=
 ⟨⟨I.ok.mod,I.ok.kind,I.ok.glob,I.ok.blt,I.ok.above,I.ok.inj,I.ok.has,I.ok.cab,(λz=>by cases z),I.ok.frames,I.ok.stk,I.ok.exf,I.ok.bs,I.ok.bsz,I.ok.noex,I.ok.exfs,I.ok.funs,I.ok.frf⟩,I.os,I.bare,I.base,I.loc,I.cell,I.free,I.freeC,I.pin,I.hok,I.len⟩
def j5.uncatch(ok:X.Ok)(I:j5 (X.caught a) aS σ H s):j5 X aS σ H s:=⟨ok,I.os,I.bare,I.base,I.loc,I.cell,I.free,I.freeC,I.pin,I.hok,I.len⟩
def j5.unset{i:Nat}{n:Str}{m:w1g}{v:Option Value}{h':Heap}{tk:Nat}(I:j5 X aS σ H s)(hN:X.N.Nodup)(hi:X.N[i]? = some n)(hk:X.env.kindOf n=some .local)
    (hl:∀(j:Nat) (x:Str) (v:V),X.N[j]? = some x->σ[j]? = some (some v)->Vis X.env.scope x->∃u,w8 v u/\n0f X.env s.heap m x u)
    (gx:h'.Ns X.env.locals (λx=>if x=n then v else m x)) (hs:Heap.SameBut X.env.locals s.heap h'):j5 X aS (σ.set i none) H { s with heap:=h',toks:=tk }:=by
 have cne:=I.cne;have gY:i < σ.length:=by rw[I.len];exact(aH.mp hi).1
 have nb:∀b o,X.s₀.heap.get? b=some o->b≠X.env.locals:=λb o e=>ai<|ao (af e) I.ok.above;show⟨I.ok,I.os,I.bare,⟨λb o e n hb hx=>?_,λb o e n hb hx=>?_,I.base.free,λb o e hx=>?_,I.base.tups,I.base.frzs,I.base.tbls⟩,⟨_,gx,λj y v' e1 e2 e3=>?_⟩,λy c e=>?_,I.free,I.freeC,λp hp=>?_,I.hok.loose λb u hb e=>?_,by simpa using I.len⟩
 . exact(hs.2 b<|nb b o e).trans (I.base.keep b o e n hb hx)
 . obtain⟨sl,e1⟩:=I.base.slot b o e n hb hx;exact⟨sl,(hs.2 b<|nb b o e).trans e1⟩
 . obtain⟨o',e1⟩:=I.base.there b o e hx;exact⟨o',(hs.2 b<|nb b o e).trans e1⟩
 . by_cases hj:j=i
   . subst hj;rw[df gY]at e2;cases e2
   . rw[List.getElem?_set_ne<|Ne.symm hj]at e2;obtain⟨u',r',q⟩:=hl j y v' e1 e2 e3;show⟨u',r',?_⟩;rcases q with ⟨k,e⟩ | ⟨k,c,e,z⟩
     . show .inl ⟨k,?_⟩;have:y≠n:=λe=>hj<|Gz hN e1<|e▸hi;simp[this,e]
     . exact .inr ⟨k,c,e,z.sameBut hs<|cne y c e⟩
 . obtain⟨w',z⟩:=I.cell y c e;exact⟨w',z.sameBut hs<|cne y c e⟩
 . obtain⟨e,n,ne,nf,d⟩:=I.pin p hp;exact⟨(hs.2 p.1 ne).trans e,n,ne,nf,d⟩
 . exact(hs.2 b λz=>hb<|z▸I.free).trans e
end
abbrev BY.gone(D:BY)(i:Nat):BY:={ nx:=λσ H=>D.nx (σ.set i none) H,rt:=D.rt,bk:=λσ H=>D.bk (σ.set i none) H,ct:=λσ H=>D.ct (σ.set i none) H }
def tTry(K:aa)(Cc:Addr)(i:Nat)(tb:TSX)(ts:TS):TS:=λD σ H=>tb D (λcls _ H'=>∃C,cls=.ref C/\PySem.W.exmOne K (.ref C) (.ref Cc)=some true/\
 ∀a,H' a=none->ts (D.gone i) (σ.set i<|some<|.ref a) (upd H' a<|Di a C)) σ H
section
variable{X:Cx}{e:Expr}{te:TE}{tx:TX}{pos:Pos}{st:Stmt}{t u:TSX}
def Um(h:PSX X st t):n0c X [st] t:=by
 intro aS s σ H D E I q;show wpAny_execs_cons<|B0 (h aS s σ H D E I q) λf s1 q=>?_;cases f with
 | next=>exact wpAny_execs_nil q
 | ret v=>exact q
 | brk=>exact q
 | cont=>exact q
def Ul{i:Nat}{x:Str}{dP:Pos}(hN:X.N.Nodup)(hi:X.N[i]? = some x)(hx:Va X.env.scope x)(he:NQ X e tx)(hs:swapsWith e (some<|.Name x dP) pos.line X.env=pure false:=by rfl)
    (hf:X.fn x=true\/X.env.scope.names.lookup x=some .local:=by first | exact .inl rfl | exact .inr rfl | assumption):PSX X (.Assign [.Name x dP] e pos) (λD E σ H=>tx σ H (λv H1=>D.nx (σ.set i<|some v) H1) E):=by
 intro aS s σ H D E I h;show wpAny_Assign_Name (B0 (he aS s σ H _ E I h) λv s1 ⟨y,H1,I1,r1,q1⟩=>?_) hs;exact X9 I1 hN hi hx r1 (λs2 I2=>⟨_,H1,I2,q1⟩) hf
def WL{body:List Stmt}{c n:Str}{np nH:Pos}{b₀:Stmt}{ie:List Stmt}{Cc:Addr}{i:Nat}{ts:TS}(hb:n0c X body t)(stk:X.stack=X.env::X.outer)(fr:X.env.frame=some X.env.locals)
    (hN:X.N.Nodup) (hi:X.N[i]? = some n) (hk:X.env.kindOf n=some .local) (hg:Gl X c) (hm:X.mg c=some (.ref Cc)) (hs:∀a,Kt (X.caught a) (b₀::ie) ts)
    (fA:(c == ("__debug__":Str))=false:=by decide):PS X (.Try body [.ExceptHandler (some<|.Name c np) (some n) (b₀::ie) nH] [] [] pos) (tTry X.K Cc i t ts):=by
 intro aS s σ H D I h;show wpAny_Try_except (wpAny_mono (hb aS s σ H D _ I h) (λf s1 q=>?_) λe s1 q=>?_)
 . cases f with
   | next=>exact wpAny_execs_nil q
   | ret v=>exact q
   | brk=>exact q
   | cont=>exact q
 . obtain⟨s0,H0,I0,a,T,C,H',rfl,F,C',eC,hx,hq⟩:=q;cases eC;have J:=F.inv I0;obtain⟨a0,fl⟩:=F.base J.stack;have wZ:X.A.frames=some (X.env::X.outer):=J.ok.frames.trans (by rw[stk]);have qg:=fl;rw[stk]at qg;show wpAny_looks_onW wZ fr qg λh1 nZ up1=>?_;show wpAny_landsW nZ λh2 qf ph=>?_;have kC:=qf;rw[<- stk]at kC;obtain⟨T2,F2⟩:=F.back (tk:=s1.toks) J.stack J.stkFree kC<|up1.trans ph;have J2:j5 X aS σ H' { s1 with heap:=h2,toks:=s1.toks }:=F2.inv I0;obtain⟨oe,vs,b0,oT,xS,e1,e2,_⟩:=F2.xt;have LT:PySem.W.Looks (model X.prog X.w) h2 (typeOf<|.ref a) (.ref C):=e2.1▸(PySem.W.Looks.ld e1).andThen .now;show wpAny_handleBy_cons (codeAny_handlers_test<|Av (X:=X.caught a) (s:={ s1 with heap:=h2,toks:=s1.toks }) (J2.catch a) hg hm ?_ fA) (by intro q;cases q);show(PySem.W.exm_one (M:=model X.prog X.w) J2.kIn LT hx).here ?_;show codeAny_handlers_suite_as ?_;show lands_againW qf λh3 xy ug=>?_;have kB:=xy;rw[<- stk]at kB;obtain⟨T3,F3⟩:=F.back (tk:=s1.toks) J.stack J.stkFree kB<|(up1.trans ph).trans ug;have J3:j5 X aS σ (upd H' a<|Di a C) { s1 with heap:=h3,toks:=s1.toks }:=F3.inv' I0;show X9 (X:=X) (v:=.ref a) J3 hN hi (.inl hk) rfl (λs4 J4=>?_)<|.inr hk;show wpAny_mono (hs a aS s4 _ _ (D.gone i) (J4.catch a)<|hq a F.ha) (λfl s5 q=>?_) λ_ _ z=>z.elim;have cl:(X.env.scope.kind == .class || (X.env.scope.kind == .module && X.env.locals != X.env.globals))=false:=by rw[I.ok.kind];rfl
   cases fl with
   | next=>
    obtain⟨σ',H5,I5,q5⟩:=q;have K5:=I5.uncatch I.ok;obtain⟨m,hn,hl⟩:=id K5.loc;exact wpAny_nameGoes_keeps hk hn cl λh' v gx fE=>⟨_,H5,K5.unset hN hi hk hl gx fE,q5⟩
   | brk=>
    obtain⟨σ',H5,I5,q5⟩:=q;have K5:=I5.uncatch I.ok;obtain⟨m,hn,hl⟩:=id K5.loc;exact wpAny_nameGoes_keeps hk hn cl λh' v gx fE=>⟨_,H5,K5.unset hN hi hk hl gx fE,q5⟩
   | cont=>
    obtain⟨σ',H5,I5,q5⟩:=q;have K5:=I5.uncatch I.ok;obtain⟨m,hn,hl⟩:=id K5.loc;exact wpAny_nameGoes_keeps hk hn cl λh' v gx fE=>⟨_,H5,K5.unset hN hi hk hl gx fE,q5⟩
   | ret u=>
    obtain⟨vr,σ',H5,I5,rv,q5⟩:=q;have K5:=I5.uncatch I.ok;obtain⟨m,hn,hl⟩:=id K5.loc;exact wpAny_nameGoes_keeps hk hn cl λh' v gx fE=>⟨vr,_,H5,K5.unset hN hi hk hl gx fE,rv,q5⟩
end
end L2
namespace Mine
open PySem PySem.W PySem.Spec PySem.Calls PyProof.Rows
section
variable{prog:Program}{w:World}{A:Around}{E:w1f}{s:Shared}{K:Frag}{x D:Addr}{o:Obj}{c:Value}
def Tg(X:K.In s.heap)(L0:Looks M s.heap (typeOf<|.ref x) (.ref D))(hb:mroIn K D (.type "BaseException")=some true)(hq:Q () s) :
    wpAny M A (checkBuiltinCall "BaseException.__getattribute__" ⟨[.ref x,nameV],[]⟩) Q E s:=by
 obtain⟨hh,g,d,t,os⟩:=s;have hk:builtinKind "BaseException.__getattribute__"=some .slot:=by decide +kernel
 have iL:splitId "BaseException.__getattribute__"=some ("BaseException","__getattribute__"):=by decide +kernel
 have LB:=looks_mroIn (M:=M) X hb;have ha:=PySem.F.args_bexc_ga (.ref x) nameV;have LI:Looks M hh (isInstance (.ref x)<|.type "BaseException") true:=L0.andThen LB;simp only[checkBuiltinCall,hk,iL];show wpAny_bind (LI.at ?_)
 repeat (any_goals (first | assumption | wp_step))
open Builtin Builtin.Getset_descriptor in
def NI{R:Result->Shared->Prop}{tp:Value}(X:K.In s.heap)(L0:∀M:Model,Looks M s.heap (typeOf<|.ref x)<|.ref D)(hm:mroIn K D (.type "object")=some true)
    (hR:R (.ok<|.ret<|.ref D) s):codeAny (model prog w) A (.call (.builtin "getset_descriptor.__get__") ⟨[.builtin "object.__class__",.ref x,tp],[]⟩) R s:=by
 rcases s with ⟨hp,gn,dn,tk,os⟩;have look:=L0<|model prog w;have above:=looks_mroIn (M:=model prog w) X hm;have jF:=KF.slot_gs.check (model prog w) A.in1;have kind:(⟨hp,gn,dn,tk,os⟩:Shared).TypeIs (.builtin "object.__class__") "getset_descriptor":=KF.type_class;apply codeAny_call_builtin KF.slot_gs.plain KF.entry_gs;apply jF _ _ _ _ _ _ kind (KF.args_gs _ _ _)
 delta Builtin.«getset_descriptor.__get__» descrGet
 rw[dga_obj];apply wpAny_bind;apply wpAny_pure
 delta descrGetter descrCheckInstance descrNameAndClass isInstance
 simp only[KF.owner_class]
 repeat lk
 constructor
 . exact Code.quiet_builtin _ dK
 . apply codeAny_builtin KF.entry_class
   delta Builtin.«object.__class__» shownTypeOf
   repeat lk
   exact hR
def Mb{nm:Tok}{Q:Fin->Shared->Prop}(X:K.In s.heap)(L0:∀M:Model,Looks M s.heap (typeOf<|.ref x)<|.ref D)(ha:findIn K (.ref D) "__class__"=some (some<|.builtin "object.__class__"))
    (hm:mroIn K D (.type "object")=some true) (hq:Q (.done<|.ret<|.ref D) s) :
    wpAny (model prog w) A (Builtin.«object.__getattribute__» ⟨[.ref x,.str "__class__" nm],[]⟩) Q E s:=by
 obtain⟨hh,g,d,t,os⟩:=s;have L1:=L0<|model prog w;have L3:=looks_findIn (M:=model prog w) X ha;have f5:=KF.type_class;have f6:=PySem.F.slot_gs_get.lookup;have f7:=PySem.F.slot_gs_set.lookup
 repeat (any_goals (first | assumption | with_reducible show wpAny_bind (L1.at ?_) | with_reducible show L1.at ?_ | with_reducible show wpAny_bind (L3.at ?_) | with_reducible show L3.at ?_ | wp_step))
 show NI (D:=D) X L0 hm ?_
 repeat (any_goals (first | assumption | wp_step))
def NJ{nm:Tok}{R:Result->Shared->Prop}(X:K.In s.heap)(L0:∀M:Model,Looks M s.heap (typeOf<|.ref x)<|.ref D)(ha:findIn K (.ref D) "__class__"=some (some<|.builtin "object.__class__"))
    (hm:mroIn K D (.type "object")=some true) (hb:mroIn K D (.type "BaseException")=some true) (hq:R (.ok<|.ret<|.ref D) s) :
    codeAny (model prog w) A (.call (.builtin "BaseException.__getattribute__") ⟨[.ref x,.str "__class__" nm],[]⟩) R s:=
 codeAny_call_builtin PySem.F.attr_ValueError.ga.plain PySem.F.entry_bexc_ga (Tg X (L0 _) hb<|Mb X L0 ha hm hq)
def QB{Q:Option Value->Shared->Prop}(X:K.In s.heap)(L0:∀M:Model,Looks M s.heap (typeOf<|.ref x)<|.ref D)
    (nV:findIn K (.ref D) "__getattribute__"=some (some<|.builtin "BaseException.__getattribute__")) (nQ:findIn K (.ref D) "__getattr__"=some none) (ha:findIn K (.ref D) "__class__"=some (some<|.builtin "object.__class__"))
    (hm:mroIn K D (.type "object")=some true) (hb:mroIn K D (.type "BaseException")=some true) (h:Q (some<|.ref D) { s with toks:=s.toks+1 }) :
    wpAny (model prog w) A (getAttr? (.ref x) "__class__") Q E s:=by
 obtain⟨hh,g,d,t,os⟩:=s;have L1:=L0<|model prog w;have L2:=looks_findIn (M:=model prog w) X nV;have L3:=looks_findIn (M:=model prog w) X nQ;have f3:=PySem.F.attr_ValueError.ga.bind<|.ref x;have wg:(Value.builtin "BaseException.__getattribute__" == Value.builtin "object.__getattribute__")=false:=by decide +kernel
 have wj:(onTheHeap (Value.ref D) && Value.builtin "BaseException.__getattribute__" == Value.builtin "object.__getattribute__")=false:=by rw[wg];rfl
 have yc:(false && onTheHeap (Value.builtin "BaseException.__getattribute__"))=false:=rfl;unfold getAttr? getAttrBy? getAttrBy;show wpAny_bind<|wpAny_mkText<|wpAny_bind<|wpAny_attempt<|wpAny_holding<|wpAny_bind<|L1.at<|wpAny_bind<|L2.at ?_;simp only[wj]
 repeat (any_goals (first | assumption | with_reducible show wpAny_bind (L1.at ?_) | with_reducible show L1.at ?_ | with_reducible show wpAny_bind (L3.at ?_) | with_reducible show L3.at ?_ | wp_step))
 show NJ (D:=D) (s:=⟨hh,g,d,t+1,os⟩) X (λM=>L0 M) ha hm hb ?_;show wpAny (model prog w) A (handedOut<|Value.ref D) _ _ _;exact handed_on rfl (wpAny_pure h)
def Vx(x D:Addr)(h:Heap):Prop:=∃o,h.get? x=some o/\o.cls=.ref D
def LS(p:Vx x D h):Looks M h (typeOf<|.ref x) (.ref D):=by obtain⟨o,h1,h2⟩:=p;exact h2▸(Looks.ld h1).andThen .now
def SI
    (nV:findIn K (.ref D) "__getattribute__"=some (some<|.builtin "BaseException.__getattribute__")) (nQ:findIn K (.ref D) "__getattr__"=some none) (ha:findIn K (.ref D) "__class__"=some (some<|.builtin "object.__class__"))
    (hm:mroIn K D (.type "object")=some true) (hb:mroIn K D (.type "BaseException")=some true):KitX K (.ref x) (.ref D) (Vx x D)where
 ty:=λ_ _ _ p=>LS p
 it:=λ_ _ X _=>by
  obtain⟨xG,hJ,_⟩:=Option.bind_eq_some_iff.mp (show(clsIn K D).bind _=some true from hm);unfold clsIn at hJ;split at hJ
  . rename_i c' d' xH gM ho;intro A' Q' E' s' k q;unfold isType loadHead;exact wpAny_bind (wpAny_loadPart (k _ _<|X _ _ ho)<|wpAny_pure q)
  . cases hJ
 ne:=λh tp dd dw n sl X eS=>by
  show Bool.eq_false_iff.mpr λq=>?_;have e:D=tp:=Value.ref.inj<|beq_iff_eq.mp q;subst e;obtain⟨xG,hJ,_⟩:=Option.bind_eq_some_iff.mp (show(clsIn K D).bind _=some true from hm);unfold clsIn at hJ;split at hJ
  . rename_i c' d' xH gM ho;have z:=(X _ _ ho).symm.trans eS;cases z
  . cases hJ
 ca:=λX p k=>QB X (λ_=>LS p) nV nQ ha hm hb k
end
end Mine
namespace L2
open PySem PySem.Spec PyProof.Rows
structure NT(K:aa)(C:Addr):Prop where
 ga:PySem.W.findIn K (.ref C) "__getattribute__"=some (some<|.builtin "BaseException.__getattribute__")
 gt:PySem.W.findIn K (.ref C) "__getattr__"=some none
 cl:PySem.W.findIn K (.ref C) "__class__"=some (some<|.builtin "object.__class__")
 ob:PySem.W.mroIn K C (.type "object")=some true
 be:PySem.W.mroIn K C (.type "BaseException")=some true
 ex:PySem.W.excIn K C bmV "ValueError.__new__"=true
def clsV:V->Option Value
 | .ty n=>some (.type n)
 | .ref D=>some (.ref D)
 | _=>none
section
variable{X:Cx}
def c0a(K:aa):List V->Hp->VK->Prop:=λxs H Q=>∃a C c cv b,xs=[.ref a,c]/\H a=some (Di a C)/\NT K C/\clsV c=some cv/\PySem.W.kitOne K (.ref C) cv=some b/\Q (.bl b) H
def Ti:O2 X (.builtin "isinstance") (c0a X.K):=by
 intro aS s σ H xs us Q I r h;obtain⟨a,C,c,cv,b,rfl,ea,ek,ec,e,q⟩:=h;cases r with
 | cons rx r1=>
  cases r1 with
  | cons ry r2=>
   cases r2;cases (show _=Value.ref a from rx);have hv:∀u,w8 c u->u=cv:=λu ru=>by
    cases c with
    | ty n=>cases ec;exact ru
    | ref D=>cases ec;exact ru
    | _=>cases ec
   cases hv _ ry;obtain⟨p,_,_⟩:=(show D1 X.prog X.w H s.heap a (Di a C)from I.hok a _ ea);exact aX (Mine.SI ek.ga ek.gt ek.cl ek.ob ek.be) I.kIn p e (λz=>nomatch z) λtk=>⟨.bl b,H,I.tok _,Y,q⟩
def IR(K:aa)(h:X.K=K):O2 X (.builtin "isinstance") (c0a K):=h▸Ti
end
section
variable{X:Cx}
end
end L2
namespace Mine
@[irreducible] def dv(a b:Int):Int:=(Int.gcd a b:Int)
def IP(a b:Int):0<=dv a b:=by unfold dv;exact Int.natCast_nonneg _
def OE(a b:Int):dv b (a.fmod b)=dv a b:=by
 unfold dv;have e:a.fmod b=a - a.fdiv b * b:=by rw[Int.fmod_def,aP]
 rw[e,Int.gcd_sub_mul_right_right,Int.gcd_comm]
def OC(a:Int):dv a 0=(a.natAbs:Int):=by unfold dv;rw[Int.gcd_zero_right]
def XU(a b:Int):dv (a.natAbs:Int) (b.natAbs:Int)=dv a b:=by unfold dv Int.gcd;simp
def LQ(a b:Int)(h:b≠0):(a.fmod b).natAbs < b.natAbs:=by
 rcases Int.lt_trichotomy b 0 with hb | hb | hb
 . have e:a.fmod b = -((-a).fmod<|-b):=by simp[Int.neg_fmod_neg]
   have h1:=bA (-a) (show 0 < -b by omega);have h2:=bI (-a) (show 0 < -b by omega);omega
 . exact absurd hb h
 . have h1:=bA a hb;have h2:=bI a hb;omega
def XW(h:dv g r=dv a b)(hr:0 < r):0<=r/\0<=g.fmod r/\dv r (g.fmod r)=dv a b:=
 ⟨Z,bA g hr,by rw[OE,h]⟩
def XX{g r:Int}(hr:0 < r):(g.fmod r).toNat < r.toNat:=by have h1:=bA g hr;have h2:=bI g hr;omega
def m0w(h:dv g r=dv a b)(g0:0<=g)(r0:0<=r)(hr:¬0 < r):g=dv a b:=by
 have e:r=0:=by omega
 rw[<- h,e,OC];omega
def XE(h:dv x y=dv a b):dv y (x.fmod y)=dv a b:=by rw[OE,h]
def m0k(h:dv x y=dv a b)(hy:y=0):(x.natAbs:Int)=dv a b:=by rw[<- h,hy,OC]
def OD(a b:Int):∃q,a=dv a b * q:=by obtain⟨q,hq⟩:=Int.gcd_dvd_left a b;exact⟨q,by unfold dv;exact hq⟩
def LV(a b:Int):∃q,b=dv a b * q:=by obtain⟨q,hq⟩:=Int.gcd_dvd_right a b;exact⟨q,by unfold dv;exact hq⟩
def NB(h:dv a b=0):a=0/\b=0:=by obtain⟨q,hq⟩:=OD a b;obtain⟨r,hr⟩:=LV a b;rw[h]at hq hr;exact⟨Z,Z⟩
def GT(h:b≠0):0 < dv a b:=by
 have:=IP a b;rcases(by omega:dv a b=0\/0 < dv a b)with e | e
 . exact absurd (NB e).2 h
 . exact e
def m0s(a b:Int)(h:b≠0):dv a b<=(b.natAbs:Int):=by
 have:Int.gcd a b<=b.natAbs:=by unfold Int.gcd;exact Nat.gcd_le_right _ Z
 unfold dv;omega
def LR{g q:Int}(hg:g≠0):(g * q).fdiv g=q:=Int.mul_fdiv_cancel_left q hg
@[irreducible] def sg(a b:Int):Int:=if b < 0 then -(dv a b)else dv a b
@[irreducible] def tp(a b:Int):Int:=a.fdiv (sg a b)
@[irreducible] def bt(a b:Int):Int:=b.fdiv (sg a b)
def Rw(h:¬b < 0):sg a b=dv a b:=by unfold sg;rw[if_neg h]
def VT(h:b < 0):sg a b = -(dv a b):=by unfold sg;rw[if_pos h]
def Oj(h:b≠0):sg a b≠0:=by have:=GT (a:=a) h;unfold sg;split <;>omega
def MA{a b:Int}(h:b≠0):sg a b * tp a b=a:=by
 obtain⟨q,hq⟩:=OD a b;have hs:=Oj (a:=a) h;have:∃k,a=sg a b * k:=by
  unfold sg;split
  . exact⟨-q,by rw[Int.neg_mul_neg];exact hq⟩
  . exact⟨q,hq⟩
 obtain⟨k,hk⟩:=this;have e:tp a b=k:=by
  unfold tp
  conv=>lhs;lhs;rw[hk]
  exact LR hs
 rw[e];exact hk.symm
def Kp{a b:Int}(h:b≠0):sg a b * bt a b=b:=by
 obtain⟨q,hq⟩:=LV a b;have hs:=Oj (a:=a) h;have:∃k,b=sg a b * k:=by
  unfold sg;split
  . exact⟨-q,by rw[Int.neg_mul_neg];exact hq⟩
  . exact⟨q,hq⟩
 obtain⟨k,hk⟩:=this;have e:bt a b=k:=by
  unfold bt
  conv=>lhs;lhs;rw[hk]
  exact LR hs
 rw[e];exact hk.symm
def Ko(h:b≠0):0 < bt a b:=by
 have e:=Kp (a:=a) h;have g:=GT (a:=a) h;rcases(by omega:0 < bt a b\/bt a b<=0)with p | p
 . exact p
 . exfalso;by_cases hb:b < 0
   . rw[VT hb,Int.neg_mul]at e;have:=Int.mul_nonpos_of_nonneg_of_nonpos (Int.le_of_lt g) p;omega
   . rw[Rw hb]at e;have:=Int.mul_nonpos_of_nonneg_of_nonpos (Int.le_of_lt g) p;omega
def Te(h:b≠0):tp a b * b=a * bt a b:=by
 have e1:=MA (a:=a) h;have e2:=Kp (a:=a) h
 calc tp a b * b=tp a b * (sg a b * bt a b):=by rw[e2]
  _=(sg a b * tp a b) * bt a b:=by rw[aP (sg a b)<|tp a b,ay]
  _=a * bt a b:=by rw[e1]
def PX(a b:Int):(sg a b).natAbs=Int.gcd a b:=by unfold sg dv;split <;>omega
def Qy(e1:s * t=a)(e2:s * u=b):Int.gcd a b=s.natAbs * Int.gcd t u:=by rw[<- e1,<- e2,Int.gcd_mul_left]
def low(h:b≠0):dv (tp a b) (bt a b)=1:=by
 have e:=Qy (MA (a:=a) h)<|Kp (a:=a) h;rw[PX]at e;have p:=GT (a:=a) h;have q:0 < Int.gcd a b:=by unfold dv at p;omega
 have:Int.gcd a b * Int.gcd (tp a b) (bt a b)=Int.gcd a b * 1:=by rw[<- e,Nat.mul_one]
 have:=Nat.eq_of_mul_eq_mul_left q this;unfold dv;rw[this];rfl
def ND(hb:0 < b)(hd:0 < d)(h1:dv a b=1)(h2:dv c d=1)(e:a * d=c * b):a=c/\b=d:=by
 have g1:Nat.Coprime b.natAbs a.natAbs:=by
  have:Int.gcd a b=1:=by unfold dv at h1;omega
  unfold Int.gcd at this;exact Nat.Coprime.symm this
 have g2:Nat.Coprime d.natAbs c.natAbs:=by
  have:Int.gcd c d=1:=by unfold dv at h2;omega
  unfold Int.gcd at this;exact Nat.Coprime.symm this
 have en:a.natAbs * d.natAbs=c.natAbs * b.natAbs:=by rw[<- bj,<- bj,e]
 have d1:b.natAbs ∣ d.natAbs:=g1.dvd_of_dvd_mul_left ⟨c.natAbs,by rw[en,Nat.mul_comm]⟩;have d2:d.natAbs ∣ b.natAbs:=g2.dvd_of_dvd_mul_left ⟨a.natAbs,by rw[<- en,Nat.mul_comm]⟩;have eb:b.natAbs=d.natAbs:=Nat.dvd_antisymm d1 d2;have rQ:b=d:=by omega
 show⟨?_,rQ⟩;rw[rQ]at e;exact bJ Z e
def Je(h:b≠0)(hy:0 < y)(hl:dv x y=1)(e:a * y=x * b):tp a b=x/\bt a b=y:=by
 show ND (Ko h) hy (low h) hl ?_;have c:=Te (a:=a) h;have:(tp a b * y) * b=(x * bt a b) * b:=by
  calc (tp a b * y) * b=(tp a b * b) * y:=by rw[ay,aP y b,<- ay]
   _=(a * bt a b) * y:=by rw[c]
   _=(a * y) * bt a b:=by rw[ay,aP (bt a b) y,<- ay]
   _=(x * b) * bt a b:=by rw[e]
   _=(x * bt a b) * b:=by rw[ay,aP b,<- ay]
 exact bJ h this
def Bi(a s:Int)(k:Int)(e:s * k=a)(hs:s≠0):k.natAbs<=a.natAbs:=by
 have:a.natAbs=s.natAbs * k.natAbs:=by rw[<- e,bj]
 rw[this];exact dj _ Z
def QY(h:b≠0):(tp a b).natAbs<=a.natAbs:=Bi a _ _ (MA h) (Oj h)
def Tj(h:b≠0):(bt a b).natAbs<=b.natAbs:=Bi b _ _ (Kp h) (Oj h)
def CA(hb:b≠0)(hd:d≠0)(e:a * d=c * b):tp a b=tp c d/\bt a b=bt c d:=by
 show Je hb (Ko hd) (low hd) ?_;have h:=Te (a:=c) hd;have:(a * bt c d) * d=(tp c d * b) * d:=by
  calc (a * bt c d) * d=(a * d) * bt c d:=by rw[ay,aP (bt c d) d,<- ay]
   _=(c * b) * bt c d:=by rw[e]
   _=(c * bt c d) * b:=by rw[ay,aP b,<- ay]
   _=(tp c d * d) * b:=by rw[h]
   _=(tp c d * b) * d:=by rw[ay,aP d b,<- ay]
 exact bJ hd this
def JM(hy:0 < y)(hl:dv x y=1):tp x y=x/\bt x y=y:=Je Z hy hl rfl
def F8{a b:Int}(ha:a≠0)(hb:b≠0):a * b≠0:=Int.mul_ne_zero ha hb
def MU{a b c d e f T B T' B':Int}(hb:b≠0)(hd:d≠0)(hf:f≠0)(hB:B≠0)(ou:B'≠0)
    (h1:T * (b * d)=(a * d+c * b) * B) (h2:T' * (d * f)=(c * f+e * d) * B') :
    tp (T * f+e * B) (B * f)=tp (a * B'+T' * b) (b * B')/\bt (T * f+e * B) (B * f)=bt (a * B'+T' * b) (b * B'):=by
 show CA (F8 hB hf) (F8 hb ou) ?_;have k:((T * f+e * B) * (b * B')) * ((b * d) * (d * f))=((a * B'+T' * b) * (B * f)) * ((b * d) * (d * f)):=by
  grind
 exact bJ (F8 (F8 hb hd)<|F8 hd hf) k
def KJ{a b c d e f T B T' B':Int}(hb:b≠0)(hd:d≠0)(hf:f≠0)(hB:B≠0)(ou:B'≠0)
    (h1:T * (b * d)=(a * c) * B) (h2:T' * (d * f)=(c * e) * B') :
    tp (T * e) (B * f)=tp (a * T') (b * B')/\bt (T * e) (B * f)=bt (a * T') (b * B'):=by
 show CA (F8 hB hf) (F8 hb ou) ?_;have k:((T * e) * (b * B')) * ((b * d) * (d * f))=((a * T') * (B * f)) * ((b * d) * (d * f)):=by
  grind
 exact bJ (F8 (F8 hb hd)<|F8 hd hf) k
def distrib{a b c d e f T B P a1b R V:Int}(hb:b≠0)(hd:d≠0)(hf:f≠0)(hB:B≠0)(hU:a1b≠0)(hV:V≠0)
    (h1:T * (d * f)=(c * f+e * d) * B) (h2:P * (b * d)=(a * c) * a1b) (h3:R * (b * f)=(a * e) * V) :
    tp (a * T) (b * B)=tp (P * V+R * a1b) (a1b * V)/\bt (a * T) (b * B)=bt (P * V+R * a1b) (a1b * V):=by
 show CA (F8 hb hB) (F8 hU hV) ?_;have k:((a * T) * (a1b * V)) * ((d * f) * ((b * d) * (b * f)))=((P * V+R * a1b) * (b * B)) * ((d * f) * ((b * d) * (b * f))):=by
  grind
 exact bJ (F8 (F8 hd hf)<|F8 (F8 hb hd)<|F8 hb hf) k
def Eu:tp (a * d+c * b) (b * d)=tp (c * b+a * d) (d * b)/\bt (a * d+c * b) (b * d)=bt (c * b+a * d) (d * b):=by rw[Int.add_comm,aP b d];exact⟨Y,Y⟩
def Cu:tp (a * c) (b * d)=tp (c * a) (d * b)/\bt (a * c) (b * d)=bt (c * a) (d * b):=by rw[aP a c,aP b d];exact⟨Y,Y⟩
def Iv(hb:0 < b)(hl:dv a b=1):tp (a * 1+0 * b) (b * 1)=a/\bt (a * 1+0 * b) (b * 1)=b:=by
 have e1:a * 1+0 * b=a:=by omega
 have e2:b * 1=b:=by omega
 rw[e1,e2];exact JM hb hl
def OQ(hb:0 < b)(hl:dv a b=1):tp (0 * b+a * 1) (1 * b)=a/\bt (0 * b+a * 1) (1 * b)=b:=by
 have e1:0 * b+a * 1=a:=by omega
 have e2:1 * b=b:=by omega
 rw[e1,e2];exact JM hb hl
def Io(hb:0 < b)(hl:dv a b=1):tp (a * 1) (b * 1)=a/\bt (a * 1) (b * 1)=b:=by rw[Int.mul_one,Int.mul_one];exact JM hb hl
def m0t:dv 0 1=1:=by unfold dv;decide
def dv11:dv 1 1=1:=by unfold dv;decide
def FS(hb:0 < b):tp (a * 0) (b * 1)=0/\bt (a * 0) (b * 1)=1:=
 Je Z Z m0t Z
open PySem
@[irreducible] def num(c:Int):Int:=if c.fmod 3=0 then(c.fdiv 3).fmod 19 - 9 else if c.fmod 3=1 then(c.fdiv 3).fmod 2000003 - 1000001 else(c.fdiv 3).fmod 1999999999999999999999999999999 - 999999999999999999999999999999
def QN(a b:Int):dv (if a < 0 then -a else a) (if b < 0 then -b else b)=dv a b:=by
 have e:∀x:Int,(if x < 0 then -x else x)=(x.natAbs:Int):=λx=>by split <;>omega
 rw[e,e,XU]
def VP(a b:Int):0<=(if a < 0 then -a else a)/\0<=(if b < 0 then -b else b)/\dv (if a < 0 then -a else a) (if b < 0 then -b else b)=dv a b:=
 ⟨by split <;>omega,by split <;>omega,QN a b⟩
def out2(h:dv x y=dv a b)(hy:y=0):(if x < 0 then -x else x)=dv a b:=by rw[<- m0k h hy];split <;>omega
structure S1(x:Int):Prop where
 lo:-10000000000000000000000000000000<=x
 hi:x<=10000000000000000000000000000000
structure S2(x:Int):Prop where
 lo:-1000000000000000000000000000000000000000000000000000000000000000<=x
 hi:x<=1000000000000000000000000000000000000000000000000000000000000000
structure Po(x:Int):Prop where
 lo:0 < x
def S1.zero:S1 0:=⟨by decide,bD⟩
def S1.one:S1 1:=⟨by decide,bD⟩
def Po.one:Po 1:=⟨by decide⟩
def Su(hx:S1 x)(hy:S1 y):-100000000000000000000000000000000000000000000000000000000000000<=x * y/\x * y<=100000000000000000000000000000000000000000000000000000000000000:=by have x0:=hx.lo;have x1:=hx.hi;have y0:=hy.lo;have y1:=hy.hi;have h:(x * y).natAbs=x.natAbs * y.natAbs:=bj x y;have k:x.natAbs * y.natAbs<=10000000000000000000000000000000 * 10000000000000000000000000000000:=bX Z Z;omega
def S2.mul(hx:S1 x)(hy:S1 y):S2 (x * y):=⟨by have:=Su hx hy;omega,by have:=Su hx hy;omega⟩
def Po.mul(hx:Po x)(hy:Po y):Po (x * y):=⟨aN hx.lo hy.lo⟩
def Po.ne(h:Po x):x≠0:=by have:=h.lo;omega
theorem S1.tp(h:S1 a)(p:Po b):S1 (tp a b):=by have l:=QY (a:=a) p.ne;have:=h.lo;have:=h.hi;exact⟨Z,Z⟩
theorem S2.tp(h:S2 a)(p:Po b):S2 (tp a b):=by have l:=QY (a:=a) p.ne;have:=h.lo;have:=h.hi;exact⟨Z,Z⟩
theorem S1.bt(h:S1 b)(p:Po b):S1 (bt a b):=by have l:=Tj (a:=a) p.ne;have:=h.lo;have:=h.hi;exact⟨Z,Z⟩
theorem S2.bt(h:S2 b)(p:Po b):S2 (bt a b):=by have l:=Tj (a:=a) p.ne;have:=h.lo;have:=h.hi;exact⟨Z,Z⟩
theorem Po.bt(p:Po b):Po (bt a b):=⟨Ko p.ne⟩
theorem S2.dv(h:S2 b)(p:Po b):S2 (dv a b):=by have:=m0s a b p.ne;have:=IP a b;have:=h.lo;have:=h.hi;exact⟨Z,Z⟩
structure Low(a b:Int):Prop where
 one:dv a b=1
def zl(p:Po b)(l:Low a b):tp (0 * b+a * 1) (1 * b)=a/\bt (0 * b+a * 1) (1 * b)=b:=OQ p.lo l.one
def cp(_:Low (tp (c * b+a * d)<|d * b) (bt (c * b+a * d)<|d * b)):tp (a * d+c * b) (b * d)=tp (c * b+a * d) (d * b)/\bt (a * d+c * b) (b * d)=bt (c * b+a * d) (d * b):=Eu
def ct(_:Low (tp (c * a)<|d * b) (bt (c * a)<|d * b)):tp (a * c) (b * d)=tp (c * a) (d * b)/\bt (a * c) (b * d)=bt (c * a) (d * b):=Cu
def Pr(p:Nat):Prop:=2<=p/\∀d,2<=d->d * d<=p->¬p % d=0
def Pr.div(h:Pr p)(hd:d ∣ p):d=1\/d=p:=by
 obtain⟨k,hk⟩:=hd;have p2:=h.1;rcases(by omega:d=0\/d=1\/2<=d)with e | e | e
 . rw[e,bB]at hk;omega
 . exact .inl e
 . rcases(by omega:k=0\/k=1\/2<=k)with f | f | f
   . rw[f,Nat.mul_zero]at hk;omega
   . rw[f,Nat.mul_one]at hk;exact .inr hk.symm
   . exfalso;rcases Nat.le_total d k with g | g
     . have:d * d<=p:=by rw[hk];exact Nat.mul_le_mul_left d g
       exact h.2 d e this (by rw[hk];exact Nat.mul_mod_right d k)
     . have:k * k<=p:=by rw[hk];exact bf k g
       exact h.2 k f this (by rw[hk];exact Nat.mul_mod_left d k)
def Pr.cop(h:Pr p)(ha:¬p ∣ a):Nat.Coprime p a:=by
 have d1:=Nat.gcd_dvd_left p a;have d2:=Nat.gcd_dvd_right p a;rcases h.div d1 with e | e
 . exact e
 . rw[e]at d2;exact absurd d2 ha
def Pr.mul(h:Pr p)(hd:p ∣ a * b):p ∣ a\/p ∣ b:=by
 by_cases c:p ∣ a
 . exact .inl c
 . exact .inr ((h.cop c).dvd_of_dvd_mul_left hd)
def small(h0:0 < a)(h1:a < p):¬p ∣ a:=λh=>by
 have:=Nat.le_of_dvd h0 h;omega
theorem m0p:∀(n:Nat) (l:w1h),l.Nodup->(∀a∈l,a < n)->l.length<=n
 | 0,l,_,h=>by
  cases l with
  | nil=>exact ae 0
  | cons a r=>exact absurd (h a<|aF ..) Z
 | n+1,l,nd,h=>by
  by_cases c:n∈l
  . have e:=List.length_erase_of_mem c;have:=m0p n (l.erase n) (nd.erase n) (λa ha=>by
     have m:=(List.Nodup.mem_erase_iff nd).mp ha;have:=h a m.2;have:=m.1;omega)
    omega
  . have:=m0p n l nd (λa ha=>by
     have:=h a ha;have:a≠n:=λe=>c<|e▸ha;omega)
    omega
def fe{a p:Int}(hp:0 < p):a.fmod p=a % p:=Int.fmod_eq_emod_of_nonneg a (Int.le_of_lt hp)
def em1(a b p:Int):(a % p * b) % p=(a * b) % p:=by rw[Int.mul_emod,Int.emod_emod_of_dvd a<|Int.dvd_refl p,<- Int.mul_emod]
def em2(a b p:Int):(a * (b % p)) % p=(a * b) % p:=by rw[aP,em1,aP]
def N9(a p:Int):(-(a % p)) % p=(-a) % p:=by have:=em2 (-1) a p;rw[Int.neg_one_mul,Int.neg_one_mul]at this;exact this
def b0y{a p:Int}(hp:0 < p):0<=a.fmod p/\a.fmod p < p:=⟨bA a hp,bI a hp⟩
def r_pa{x y z p:Int}(hp:0 < p):((x+y).fmod p+z).fmod p=(x+(y+z).fmod p).fmod p:=by simp only[fe hp,Int.emod_add_emod,Int.add_emod_emod,Int.add_assoc]
def r_ta{x y z p:Int}(hp:0 < p):((x * y).fmod p * z).fmod p=(x * (y * z).fmod p).fmod p:=by simp only[fe hp,em1,em2,ay]
def r_d{x y z p:Int}(hp:0 < p):(x * (y+z).fmod p).fmod p=((x * y).fmod p+(x * z).fmod p).fmod p:=by simp only[fe hp,em2,Int.emod_add_emod,Int.add_emod_emod,Int.mul_add]
def MR{x p:Int}(h0:0<=x)(h1:x < p):x.fmod p=x:=by rw[fe Z];exact Int.emod_eq_of_lt h0 h1
def ri(p x:Int):Int:=(x ^ (p.toNat - 2)) % p
def PI(n:Int):Prop:=2<=n/\∀d:Int,2<=d->d * d<=n->¬n.fmod d=0
noncomputable def Nw(n:Int):Bool:=@decide (PI n) (Classical.propDecidable _)
def SJ(h:Nw n=true):PI n:=@of_decide_eq_true _ (Classical.propDecidable _) h
def XO(h:PI n):Nw n=true:=@decide_eq_true _ (Classical.propDecidable _) h
def YY{d f n:Int}(hd:2<=d)(hf:2<=f)(h:d * d<=n)(g:¬f * f<=n):d < f:=by
 rcases Int.lt_or_le d f with e | e
 . exact e
 . have:f * f<=d * d:=Int.mul_le_mul e e Z Z;omega
def YZ{f n:Int}(hf:2<=f)(h:f * f<=n):f+1<=n:=by have:2 * f<=f * f:=Int.mul_le_mul_of_nonneg_right hf Z;omega
def V8(n k:Nat)(h2:2<=n)(hk:n < k * k)(h:(List.range k).all (λd=>d < 2 || n % d != 0)=true):Nw (n:Int)=true:=by
 show XO ⟨Z,λd hd gZ e=>?_⟩;have wQ:¬(k:Int) * (k:Int)<=(n:Int):=by
  have:((n:Nat):Int) < ((k * k:Nat):Int):=by omega
  rw[cy]at this;omega
 have kk:2<=(k:Int):=by
  rcases(by omega:k=0\/k=1\/2<=k)with c | c | c
  . subst c;omega
  . subst c;omega
  . omega
 have lt:=YY hd kk gZ wQ;have dn:(d.toNat:Int)=d:=Int.toNat_of_nonneg Z;have:=bK.mp h d.toNat<|cj.mpr Z;rw[<- dn,fe Z,<- Int.natCast_emod]at e;have e':n % d.toNat=0:=by omega
 simp[e']at this;omega
def Ur:Nw 999983=true:=V8 999983 1000 bD bD dK
def WT:Nw 65537=true:=V8 65537 257 bD bD dK
def p2:Nw 2=true:=V8 2 2 bD bD dK
def p3:Nw 3=true:=V8 3 2 bD bD dK
def p5:Nw 5=true:=V8 5 3 bD bD dK
def p7:Nw 7=true:=V8 7 3 bD bD dK
def p11:Nw 11=true:=V8 11 4 bD bD dK
def p101:Nw 101=true:=V8 101 11 bD bD dK
end Mine
namespace Mine
open PySem PySem.SeqAt
set_option genInjectivity false in
set_option genSizeOfSpec false in
structure SR where
 W:Type
 add:W->W->W
 mul:W->W->W
 zero:W
 one:W
 add_comm:∀x y,add x y=add y x
 add_assoc:∀x y z,add (add x y) z=add x (add y z)
 mul_comm:∀x y,mul x y=mul y x
 mul_assoc:∀x y z,mul (mul x y) z=mul x (mul y z)
 distrib:∀x y z,mul x (add y z)=add (mul x y) (mul x z)
 add_zero:∀x,add x zero=x
 mul_one:∀x,mul x one=x
 mul_zero:∀x,mul x zero=zero
 zo:zero≠one
 sz:Nat->W->Prop
 sz_mono:∀m n x,m<=n->sz m x->sz n x
 sz_add:∀m n x y,sz m x->sz n y->sz (m+n+1) (add x y)
 sz_mul:∀m n x y,sz m x->sz n y->sz (m+n) (mul x y)
 sz_zero:sz 0 zero
 sz_one:sz 0 one
 lv:Nat->Nat->W->Prop
 lv_mono:∀k c c' x,c<=c'->lv k c x->lv k c' x
 lv_add:∀k c c' x y,lv k c x->lv k c' y->lv k (c+c') (add x y)
 lv_mul:∀j k x y,lv j 32 x->lv k 32 y->lv (j+k) 1 (mul x y)
 lv_zero:∀k,lv k 0 zero
 lv_one:lv 1 1 one
 lv_up:∀k c x,lv k c x->lv (k+1) c x
 lv_sz:∀k c x,c<=1024->lv k c x->sz (100 * k) x
 data:W->PyData
 sh:∀x,shaped (data x)=true
 nm:∀x y,noMix (data x) (data y)=true
 eq:∀x,PySem.Spec.same (data x) (data x)=true
 ne:∀x y,x≠y->PySem.Spec.same (data x) (data y)=false
abbrev w1a(S:SR):=Nat->S.W
abbrev w1b(S:SR):=Nat->Nat->S.W
abbrev w1c(S:SR):=Nat->Nat->Nat->S.W
abbrev w1d(S:SR):=List (Nat × (Nat->S.W))
structure Fr where
 t:Int
 b:Int
 p:0 < b
 l:dv t b=1
def Fr.eq_of{x y:Fr}(h1:x.t=y.t)(h2:x.b=y.b):x=y:=by
 cases x;cases y;cases h1;cases h2;rfl
def Fr.nb(x:Fr):x.b≠0:=by have:=x.p;omega
def Fr.of(a b:Int)(h:0 < b):Fr:=⟨tp a b,bt a b,Ko Z,low Z⟩
def Fr.of_cross(a b:Int)(h:0 < b):(Fr.of a b h).t * b=a * (Fr.of a b h).b:=Te Z
def Fr.add(x y:Fr):Fr:=Fr.of (x.t * y.b+y.t * x.b) (x.b * y.b) (aN x.p y.p)
def Fr.mul(x y:Fr):Fr:=Fr.of (x.t * y.t) (x.b * y.b) (aN x.p y.p)
def Fr.zero:Fr:=⟨0,1,bD,m0t⟩
def Fr.one:Fr:=⟨1,1,bD,dv11⟩
def Fr.sz(n:Nat)(x:Fr):Prop:=x.t.natAbs<=2 ^ n/\x.b.natAbs<=2 ^ n
def WJ(m n:Nat):(2:Nat) ^ (m+n)=2 ^ m * 2 ^ n:=Nat.pow_add 2 m n
def GB{a b:Int}{m n:Nat}(h1:a.natAbs<=2 ^ m)(h2:b.natAbs<=2 ^ n):(a * b).natAbs<=2 ^ (m+n):=by rw[bj,WJ];exact bX h1 h2
def VN{a b c d:Int}{m n:Nat}(h1:a.natAbs<=2 ^ m)(h2:b.natAbs<=2 ^ n)(h3:c.natAbs<=2 ^ n)(h4:d.natAbs<=2 ^ m):(a * b+c * d).natAbs<=2 ^ (m+n+1):=by have k1:=GB h1 h2;have k2:=GB h3 h4;rw[bZ n m]at k2;have k3:(a * b+c * d).natAbs<=(a * b).natAbs+(c * d).natAbs:=Int.natAbs_add_le _ _;have k4:(2:Nat) ^ (m+n+1)=2 ^ (m+n) * 2:=cz ..;omega
def Vm(h1:a.natAbs<=2 ^ m)(h2:b.natAbs<=2 ^ m):(Fr.of a b h).sz m:=
 ⟨ah (QY Z) h1,ah (Tj Z) h2⟩
def RM(h:m<=n):(2:Nat) ^ m<=2 ^ n:=cA bD h
def Fr.lv(k c:Nat)(x:Fr):Prop:=∃a:Int,x.t * 12 ^ k=a * x.b/\1024 * a.natAbs<=c * 2 ^ (100 * k)
def Fr.lv_add(h:x.lv k c)(h':y.lv k c'):(Fr.add x y).lv k (c+c'):=by
 obtain⟨a,e,b⟩:=h;obtain⟨a',e',b'⟩:=h';show⟨a+a',?_,?_⟩
 . have hc:=Fr.of_cross (x.t * y.b+y.t * x.b) (x.b * y.b)<|aN x.p y.p;have hn:x.b * y.b≠0:=Int.mul_ne_zero x.nb y.nb;show bJ hn ?_;show(Fr.add x y).t * 12 ^ k * (x.b * y.b)=(a+a') * (Fr.add x y).b * (x.b * y.b);have hc:(Fr.add x y).t * (x.b * y.b)=(x.t * y.b+y.t * x.b) * (Fr.add x y).b:=hc;have e1:(Fr.add x y).t * 12 ^ k * (x.b * y.b)=((Fr.add x y).t * (x.b * y.b)) * 12 ^ k:=by rw[bo]
   rw[e1,hc];have e2:(x.t * y.b+y.t * x.b) * (Fr.add x y).b * 12 ^ k=((x.t * 12 ^ k) * y.b+(y.t * 12 ^ k) * x.b) * (Fr.add x y).b:=by rw[bo,Int.add_mul,bo x.t,bo y.t]
   rw[e2,e,e'];have e3:a * x.b * y.b+a' * y.b * x.b=(a+a') * (x.b * y.b):=by rw[Int.add_mul,ay,ay a',aP y.b x.b]
   rw[e3,bo]
 . have:=Int.natAbs_add_le a a';rw[Nat.add_mul];omega
def Fr.lv_mul(h:x.lv j 32)(h':y.lv k 32):(Fr.mul x y).lv (j+k) 1:=by
 obtain⟨a,e,b⟩:=h;obtain⟨a',e',b'⟩:=h';show⟨a * a',?_,?_⟩
 . have hc:(Fr.mul x y).t * (x.b * y.b)=(x.t * y.t) * (Fr.mul x y).b:=Fr.of_cross (x.t * y.t) (x.b * y.b)<|aN x.p y.p;have hn:x.b * y.b≠0:=Int.mul_ne_zero x.nb y.nb;show bJ hn ?_;rw[bo,hc,Int.pow_add];have e2:x.t * y.t * (Fr.mul x y).b * (12 ^ j * 12 ^ k)=(x.t * 12 ^ j) * (y.t * 12 ^ k) * (Fr.mul x y).b:=by rw[bo];congr 1;rw[ay,ay,Int.mul_left_comm y.t]
   rw[e2,e,e'];have e3:a * x.b * (a' * y.b)=a * a' * (x.b * y.b):=by rw[ay,ay,Int.mul_left_comm x.b]
   rw[e3,bo]
 . rw[bj,Nat.mul_add,Nat.pow_add];have h1:=bX b b';have e1:1024 * a.natAbs * (1024 * a'.natAbs)=1024 * (1024 * (a.natAbs * a'.natAbs)):=by rw[cB,Nat.mul_left_comm a.natAbs]
   have e2:32 * 2 ^ (100 * j) * (32 * 2 ^ (100 * k))=1024 * (2 ^ (100 * j) * 2 ^ (100 * k)):=by rw[cB,Nat.mul_left_comm<|2 ^ (100 * j),<- cB]
   rw[e1,e2]at h1;have:=Nat.le_of_mul_le_mul_left h1 bD;omega
def Fr.lv_up{k c:Nat}{x:Fr}(h:x.lv k c):x.lv (k+1) c:=by
 obtain⟨a,e,b⟩:=h;show⟨a * 12,?_,?_⟩
 . rw[Int.pow_succ,<- ay,e,bo]
 . rw[bj,show 100 * (k+1)=100 * k+100 from by omega,Nat.pow_add];have h1:(1024 * a.natAbs) * 12<=(c * 2 ^ (100 * k)) * 2 ^ 100:=bX b bD;have e1:1024 * (a.natAbs * (12:Int).natAbs)=(1024 * a.natAbs) * 12:=by rw[cB];rfl
   rw[e1,<- cB];exact h1
def Fr.lv_sz{k c:Nat}{x:Fr}(hc:c<=1024)(h:x.lv k c):x.sz (100 * k):=by
 obtain⟨a,e,b⟩:=h;have cop:Nat.Coprime x.t.natAbs x.b.natAbs:=by
  have l:=x.l;unfold dv at l;have:Int.gcd x.t x.b=1:=by omega
  exact this
 have e':x.t.natAbs * 12 ^ k=a.natAbs * x.b.natAbs:=by have:=congrArg Int.natAbs e;rw[bj,bj,Int.natAbs_pow]at this;exact this
 have hb:a.natAbs<=2 ^ (100 * k):=by have h1:1024 * a.natAbs<=1024 * 2 ^ (100 * k):=ah b<|bf _ hc;exact Nat.le_of_mul_le_mul_left h1 bD
 have uO:(12:Nat) ^ k<=2 ^ (100 * k):=by rw[Nat.pow_mul];exact Nat.pow_le_pow_left bD k
 constructor
 . have d:x.t.natAbs ∣ a.natAbs:=cop.dvd_of_dvd_mul_right ⟨12 ^ k,e'.symm⟩;by_cases z:a.natAbs=0
   . have:x.t.natAbs * 12 ^ k=0:=by rw[e',z,bB]
     have:x.t.natAbs=0:=by
      rcases Nat.mul_eq_zero.mp this with h | h
      . exact h
      . exact absurd h (bO<|Nat.pow_pos bD)
     omega
   . exact ah (Nat.le_of_dvd Z d) hb
 . have d:x.b.natAbs ∣ 12 ^ k:=cop.symm.dvd_of_dvd_mul_left ⟨a.natAbs,by rw[e',Nat.mul_comm]⟩;exact ah (Nat.le_of_dvd (Nat.pow_pos bD) d) uO
def Fr.lv_drawn{t b:Int}(h:0 < b)(h4:b<=4)(ht:t.natAbs<=2 ^ 90):(Fr.of t b h).lv 1 32:=by
 have hc:=Fr.of_cross t b h;obtain⟨q,e,q12⟩:∃q:Int,b * q=12/\q.natAbs<=12:=by
  rcases(by omega:b=1\/b=2\/b=3\/b=4)with rfl | rfl | rfl | rfl
  . exact⟨12,bD,bD⟩
  . exact⟨6,bD,bD⟩
  . exact⟨4,bD,bD⟩
  . exact⟨3,bD,bD⟩
 show⟨t * q,?_,?_⟩
 . rw[Int.pow_succ,Int.pow_zero,Int.one_mul,<- e,<- ay,hc,bo]
 . rw[bj];have h1:t.natAbs * q.natAbs<=2 ^ 90 * 12:=bX ht q12;have h2:(2:Nat) ^ 90 * 12 * 1024<=32 * 2 ^ (100 * 1):=by decide
   have e2:(2:Nat) ^ 90=1237940039285380274899124224:=by decide
   have e3:(2:Nat) ^ (100 * 1)=1267650600228229401496703205376:=by decide
   rw[e2]at h1 h2;rw[e3]at h2 ⊢;omega
def QA:SR where
 W:=Fr
 add:=Fr.add
 mul:=Fr.mul
 zero:=Fr.zero
 one:=Fr.one
 add_comm x y:=Fr.eq_of Eu.1 Eu.2
 add_assoc x y z:=
  have h:=MU (f:=z.b) (e:=z.t) x.nb y.nb z.nb (Fr.add x y).nb (Fr.add y z).nb (Fr.of_cross _ _<|aN x.p y.p) (Fr.of_cross _ _<|aN y.p z.p)
  Fr.eq_of h.1 h.2
 mul_comm x y:=Fr.eq_of Cu.1 Cu.2
 mul_assoc x y z:=
  have h:=KJ (f:=z.b) (e:=z.t) x.nb y.nb z.nb (Fr.mul x y).nb (Fr.mul y z).nb (Fr.of_cross _ _<|aN x.p y.p) (Fr.of_cross _ _<|aN y.p z.p)
  Fr.eq_of h.1 h.2
 distrib x y z:=
  have h:=distrib (a:=x.t) (f:=z.b) (e:=z.t) x.nb y.nb z.nb (Fr.add y z).nb (Fr.mul x y).nb (Fr.mul x z).nb (Fr.of_cross _ _<|aN y.p z.p) (Fr.of_cross _ _<|aN x.p y.p) (Fr.of_cross _ _<|aN x.p z.p)
  Fr.eq_of h.1 h.2
 add_zero x:=Fr.eq_of (Iv x.p x.l).1 (Iv x.p x.l).2
 mul_one x:=Fr.eq_of (Io x.p x.l).1 (Io x.p x.l).2
 mul_zero x:=Fr.eq_of (FS x.p).1 (FS x.p).2
 zo h:=by have:(0:Int)=1:=congrArg Fr.t h;omega
 sz:=Fr.sz
 sz_mono m n x h s:=⟨ah s.1<|RM h,ah s.2<|RM h⟩
 sz_add m n x y h1 h2:=Vm (VN h1.1 h2.2 h2.1 h1.2) (ah (GB h1.2 h2.2)<|RM<|aY _)
 sz_mul m n x y h1 h2:=Vm (GB h1.1 h2.1) (GB h1.2 h2.2)
 sz_zero:=⟨by decide,bD⟩
 sz_one:=⟨by decide,bD⟩
 lv:=Fr.lv
 lv_mono k c c' x h:=λ⟨a,e,b⟩=>⟨a,e,ah b<|bf _ h⟩
 lv_add _ _ _ _ _ h h':=Fr.lv_add h h'
 lv_mul _ _ _ _ h h':=Fr.lv_mul h h'
 lv_zero k:=⟨0,by show(0:Int) * 12 ^ k=0 * 1;rw[Int.zero_mul,Int.zero_mul],by show 1024 * 0<=_;omega⟩
 lv_one:=⟨12,bD,bD⟩
 lv_up _ _ _ h:=Fr.lv_up h
 lv_sz _ _ _ hc h:=Fr.lv_sz hc h
 data x:=.tuple [.int x.t,.int x.b]
 sh x:=rfl
 nm x y:=by simp[noMix,noMixAll]
 eq x:=by simp[PySem.Spec.same,PySem.Spec.sameAll]
 ne x y h:=by simp[PySem.Spec.same,PySem.Spec.sameAll];intro h1 h2;exact h (Fr.eq_of h1 h2)
structure Re(p:Int)where
 x:Int
 h0:0<=x
 h1:x < p
def Re.eq_of{p:Int}{a b:Re p}(h:a.x=b.x):a=b:=by cases a;cases b;cases h;rfl
def Re.of(p:Int)(hp:0 < p)(x:Int):Re p:=⟨x.fmod p,(b0y hp).1,(b0y hp).2⟩
def Ci(p:Int)(hp:2<=p):SR where
 W:=Re p
 add a b:=Re.of p Z (a.x+b.x)
 mul a b:=Re.of p Z (a.x * b.x)
 zero:=⟨0,Z,Z⟩
 one:=⟨1,Z,Z⟩
 add_comm a b:=Re.eq_of (by show(a.x+b.x).fmod p=(b.x+a.x).fmod p;rw[Int.add_comm])
 add_assoc a b c:=Re.eq_of (r_pa Z)
 mul_comm a b:=Re.eq_of (by show(a.x * b.x).fmod p=(b.x * a.x).fmod p;rw[aP])
 mul_assoc a b c:=Re.eq_of (r_ta Z)
 distrib a b c:=Re.eq_of (r_d Z)
 add_zero a:=Re.eq_of (by show(a.x+0).fmod p=a.x;rw[cD];exact MR a.h0 a.h1)
 mul_one a:=Re.eq_of (by show(a.x * 1).fmod p=a.x;rw[Int.mul_one];exact MR a.h0 a.h1)
 mul_zero a:=Re.eq_of (by show(a.x * 0).fmod p=0;rw[Int.mul_zero];exact MR Z Z)
 zo h:=by have:(0:Int)=1:=congrArg Re.x h;omega
 sz _ _:=True
 sz_mono _ _ _ _ _:=trivial
 sz_add _ _ _ _ _ _:=trivial
 sz_mul _ _ _ _ _ _:=trivial
 sz_zero:=trivial
 sz_one:=trivial
 lv _ _ _:=True
 lv_mono _ _ _ _ _ _:=trivial
 lv_add _ _ _ _ _ _ _:=trivial
 lv_mul _ _ _ _ _ _:=trivial
 lv_zero _:=trivial
 lv_one:=trivial
 lv_up _ _ _ _:=trivial
 lv_sz _ _ _ _ _:=trivial
 data a:=.int a.x
 sh _:=rfl
 nm _ _:=by simp[noMix]
 eq _:=by simp[PySem.Spec.same]
 ne a b h:=by simp[PySem.Spec.same];intro e;exact h (Re.eq_of e)
def QL:Option Int->Option Int->Option Int
 | none,y=>y
 | x,none=>x
 | some a,some b=>some (if b < a then b else a)
def NM:Option Int->Option Int->Option Int
 | some a,some b=>some (a+b)
 | _,_=>none
def OM:Option Int->PyData
 | none=>.none
 | some i=>.int i
def X2:SR where
 W:=Option Int
 add:=QL
 mul:=NM
 zero:=none
 one:=some 0
 add_comm x y:=by
  cases x <;>cases y <;>simp only[QL];congr 1;split <;>split <;>omega
 add_assoc x y z:=by
  cases x <;>cases y <;>cases z <;>simp only[QL];congr 1;repeat (split <;>try omega)
 mul_comm x y:=by
  cases x <;>cases y <;>simp only[NM];congr 1;omega
 mul_assoc x y z:=by
  cases x <;>cases y <;>cases z <;>simp only[NM];congr 1;omega
 distrib x y z:=by
  cases x <;>cases y <;>cases z <;>simp only[NM,QL];congr 1;repeat (split <;>try omega)
 add_zero x:=by cases x <;>rfl
 mul_one x:=by
  cases x with
  | none=>rfl
  | some a=>simp only[NM];congr 1;omega
 mul_zero x:=by cases x <;>rfl
 zo h:=by cases h
 sz _ _:=True
 sz_mono _ _ _ _ _:=trivial
 sz_add _ _ _ _ _ _:=trivial
 sz_mul _ _ _ _ _ _:=trivial
 sz_zero:=trivial
 sz_one:=trivial
 lv _ _ _:=True
 lv_mono _ _ _ _ _ _:=trivial
 lv_add _ _ _ _ _ _ _:=trivial
 lv_mul _ _ _ _ _ _:=trivial
 lv_zero _:=trivial
 lv_one:=trivial
 lv_up _ _ _ _:=trivial
 lv_sz _ _ _ _ _:=trivial
 data:=OM
 sh x:=by cases x <;>rfl
 nm x y:=by cases x <;>cases y <;>simp[OM,noMix]
 eq x:=by cases x <;>simp[OM,PySem.Spec.same]
 ne x y h:=by cases x <;>cases y <;>simp_all [OM,PySem.Spec.same]
def P2:SR where
 W:=Bool
 add:=λa b=>a || b
 mul:=λa b=>a && b
 zero:=false
 one:=true
 add_comm x y:=by cases x <;>cases y <;>rfl
 add_assoc x y z:=by cases x <;>cases y <;>cases z <;>rfl
 mul_comm x y:=by cases x <;>cases y <;>rfl
 mul_assoc x y z:=by cases x <;>cases y <;>cases z <;>rfl
 distrib x y z:=by cases x <;>cases y <;>cases z <;>rfl
 add_zero x:=by cases x <;>rfl
 mul_one x:=by cases x <;>rfl
 mul_zero x:=by cases x <;>rfl
 zo h:=by cases h
 sz _ _:=True
 sz_mono _ _ _ _ _:=trivial
 sz_add _ _ _ _ _ _:=trivial
 sz_mul _ _ _ _ _ _:=trivial
 sz_zero:=trivial
 sz_one:=trivial
 lv _ _ _:=True
 lv_mono _ _ _ _ _ _:=trivial
 lv_add _ _ _ _ _ _ _:=trivial
 lv_mul _ _ _ _ _ _:=trivial
 lv_zero _:=trivial
 lv_one:=trivial
 lv_up _ _ _ _:=trivial
 lv_sz _ _ _ _ _:=trivial
 data:=.bool
 sh _:=rfl
 nm _ _:=by simp[noMix]
 eq _:=by simp[PySem.Spec.same]
 ne a b h:=by simp_all [PySem.Spec.same]
end Mine
namespace L2
open PySem PySem.Spec PyProof.Rows
class Plain (P:Program):Prop where
 tree:P.given.tree=none
section
variable{X:Cx}
theorem j5.seer{aS:w1e}{σ:St}{H:Hp}{s:Shared}(I:j5 X aS σ H s):s.heap.NoSeer:=I.ok.mod.seer.keeps I.bk
def DN{k:Nat}(hr:G5 k X.A)(hk:34<=k)(hP:X.prog.given.tree=none)(fK:X.stack=X.env::X.outer:=by rfl)(nU:X.env.scope.isGenerator=false:=by rfl)(xg:X.env.scope.isCoroutine=false:=by rfl) :
    BK X (binaryOp .FloorDiv) (rI (λ_ j=>j≠0) λi j=>.int<|i.fdiv j):=by
 intro aS s σ H x y v u Q I rx ry h;obtain⟨i,j,rfl,rfl,hc,q⟩:=h;obtain⟨t,rfl⟩:=rx;obtain⟨t',rfl⟩:=ry;show floordiv_int hc ⟨.int _,H,I.tok _,⟨_,Y⟩,q⟩ (Or.inr<|PylongRoom.of I.nolimit ?_<|SeerAt.of I.seer hP (by rw[I.ok.frames,fK]) nU xg I.ok.blt I.ok.glob);have:=hr.dp;show X.A.depth+100 < recursionLimit;omega
def Fc(i j:Int):Prop:=Builtin.Int.intBits i+Builtin.Int.intBits j<=2 ^ 27
def XB{a b:Int}(hc:Fc a b):IntMulOk a b:=by
 have hc:Builtin.Int.intBits a+Builtin.Int.intBits b<=2 ^ 27:=hc;have e:Builtin.Int.intTooBig (Builtin.Int.intBits a+Builtin.Int.intBits b)=false:=by unfold Builtin.Int.intTooBig bitsLine;exact decide_eq_false Z
 unfold IntMulOk;rw[e];simp
def P7:BK X (binaryOp .Mult) (rI Fc λi j=>.int<|i * j):=c0h λ_ _ _ _ _ _ _ hc q=>mul_int q (XB hc)
end
section
variable{CX:Mi}{P:Program}{w:World}{K:aa}{mg:w1g}{base:Heap}{N:w1i}{qual:Str}{scope:Scope}{f:Addr}{cd:Value}{A:Around}{outer:List Env}{s:Shared}{H:Hp}{E:XK}
end
def O0{t:TS}{D:BY}{σ l:St}{H:Hp}(h:σ=l)(k:t D l H):t D σ H:=h▸k
def Z9(cells:List (Str × Addr)):List (Str × NameKind)->List (Str × Addr)->List (Str × Addr)
 | [],cs=>cs
 | (n,k)::r,cs=>Z9 cells r (if(k == .free)=true then(n,(cells.lookup n).getD 0)::cs else cs)
theorem Kl:∀(names:List (Str × NameKind)) (cs:List (Str × Addr)),(∀n,(n,NameKind.free)∈names->∃c,env.cells.lookup n=some c)->
    (forIn names cs λ(x:Str × NameKind) (r:List (Str × Addr))=>(match x with | (name,kind)=>if(kind == NameKind.free)=true then(do let c <- cellOf env name;pure (ForInStep.yield ((name,c)::r)))else pure (ForInStep.yield r):Sem (ForInStep<|List<|Str × Addr)))=pure (Z9 env.cells names cs)
 | [],cs,_=>rfl
 | (n,k)::r,cs,h=>by
  rw[List.forIn_cons];by_cases hk:k=.free
  . subst hk;obtain⟨c,hc⟩:=h n aF;have ih:=Kl (env:=env) r ((n,c)::cs) λm hm=>h m<|aG _ hm;have e1:cellOf env n=pure c:=by unfold cellOf;rw[hc]
    simp only[beq_self_eq_true,if_true,e1,pure_bind];rw[ih]
    conv=>rhs;unfold Z9
    simp only[beq_self_eq_true,if_true,hc,cU]
  . have hb:(k == NameKind.free)=false:=by simpa using hk
    have ih:=Kl (env:=env) r cs λm hm=>h m<|aG _ hm;simp only[hb,Bool.false_eq_true,if_false,pure_bind];rw[ih]
    conv=>rhs;unfold Z9
    simp only[hb,Bool.false_eq_true,if_false]
def Bq(h:∀n,(n,NameKind.free)∈scope.names->∃c,env.cells.lookup n=some c):closureFor scope env=pure (Z9 env.cells scope.names []):=by have e:=Kl (env:=env) scope.names [] h;unfold closureFor;simp only[bind_pure];exact e
theorem NH:∀{names:List (Str × NameKind)} {cs:List (Str × Addr)},(∀n,(n,NameKind.free)∈names->∃c,cells.lookup n=some c)->∀{y c},(Z9 cells names cs).lookup y=some c->cs.lookup y=some c\/cells.lookup y=some c
 | [],cs,_,y,c,e=>.inl e
 | (n,k)::r,cs,h,y,c,e=>by
  unfold Z9 at e;have h':∀m,(m,NameKind.free)∈r->∃c,cells.lookup m=some c:=λm hm=>h m<|aG _ hm;rcases NH h' e with z | z
  . by_cases hk:k=.free
    . subst hk;obtain⟨d,hd⟩:=h n aF;simp only[beq_self_eq_true,if_true,hd,cU]at z;rw[bL]at z;cases hy:(y == n)with
      | true=>
       rw[hy]at z;have:y=n:=beq_iff_eq.mp hy;subst this;exact .inr (hd.trans z)
      | false=>rw[hy]at z;exact .inl z
    . have hb:(k == NameKind.free)=false:=by simpa using hk
      simp only[hb,Bool.false_eq_true,if_false]at z;exact .inl z
  . exact .inr z
theorem Kk:∀{names:List (Str × NameKind)} {cs:List (Str × Addr)} {y:Str},((∃c,cs.lookup y=some c)\/(y,NameKind.free)∈names)->∃c,(Z9 cells names cs).lookup y=some c
 | [],cs,y,h=>by
  rcases h with h | h
  . exact h
  . cases h
 | (n,k)::r,cs,y,h=>by
  unfold Z9;show Kk ?_;rcases h with ⟨c,h⟩ | h
  . left;split
    . rw[bL];cases hy:(y == n)with
      | true=>exact⟨_,Y⟩
      | false=>exact⟨c,h⟩
    . exact⟨c,h⟩
  . rcases aw.mp h with e | h
    . cases e;left;simp only[beq_self_eq_true,if_true];rw[bL,beq_self_eq_true];exact⟨_,Y⟩
    . exact .inr h
def UR{prog:Program}{w:World}{A:Around}{R:Result->Shared->Prop}{s:Shared}{dF bY iter:Expr}{scope:Scope}{pos:Pos}{it dJ:Value}{env:Env}(I:Nat->Shared->Prop)
    (ej:∀n s,I n s->wpAny (model prog w) A (pyNext it) (λr s₁=>match r with
     | none=>R (.ok .next) s₁
     | some v=>wpAny (model prog w) A (letOwnedTupleGo bY it v) (λ_ fk=>wpAny (model prog w) A (assign bY env v) (λ_ s₂=>wpAny (model prog w) A (eval dF env) (λx s₃=>
         wpAny (model prog w) A (call (.builtin "list.append") [dJ,x]) (λ_ s₄=>∃m,m < n/\I m s₄) (λ_ _=>False) s₃) (λ_ _=>False) s₂) (λ_ _=>False) fk) (λ_ _=>False) s₁) (λ_ _=>False) s)
    (n:Nat) (h:I n s) :
    codeAny (model prog w) A (.compLoop (.ListComp dF [⟨bY,iter,[],0⟩] scope pos) 0 it dJ env) R s:=by
 show codeAny_loop rfl I (λn s hI=>?_) n h;show wpAny _ _ ((compTurn (.ListComp dF [⟨bY,iter,[],0⟩] scope pos) 0 it dJ env).onRaise<|λx=>do noteFrame x env;theTreesLotGoes x) _ _ s;show wpAny_noted ?_;rw[compTurn_list1];show wpAny_bind<|wpAny_standAt<|wpAny_bind<|wpAny_mono (ej n s hI) (λr s₁ h₁=>?_) λ_ _ h'=>h'.elim;cases r with
 | none=>exact wpAny_pure h₁
 | some v=>
  exact wpAny_bind (wpAny_mono h₁ (λ_ eX iZ=>wpAny_bind (wpAny_mono iZ (λ_ s₂ h₂=>wpAny_bind (wpAny_bind (wpAny_mono h₂ (λx s₃ h₃=>wpAny_bind (wpAny_mono h₃
   (λ_ s₄ h₄=>wpAny_pure<|wpAny_pure ⟨Y,h₄⟩) λ_ _ h'=>h'.elim)) λ_ _ h'=>h'.elim))) λ_ _ h'=>h'.elim)) λ_ _ h'=>h'.elim)
def X7.track(x:X7 P w H h)(n:H a=none)(new:D1 P w (upd H a o) h a o):X7 P w (upd H a o) h:=λb u e=>by
 by_cases hb:b=a
 . subst hb;rw[c0]at e;cases e;exact new
 . rw[k8 hb]at e;exact(x b u e).stay (λ_ _ _ q=>q) (λc q=>by rw[k8<|k9 q n];exact q) λc xs q=>by rw[k8<|k9 q n];exact q
def Un.track(u:Un fs ex H H' h h')(hp:h.objs.size<=a)(n:H' a=none):Un fs ex H (upd H' a o) h h' where
 keep:=u.keep
 slot:=u.slot
 free:=λb ob q m hx=>by rw[k8<|ai<|ao (af q) hp];exact u.free b ob q m hx
 there:=u.there
 tups:=λb xs q=>by have z:=u.tups b xs q;rw[k8<|k9 z n];exact z
 frzs:=λb ob xs q=>by have z:=u.frzs b ob xs q;rw[k8<|k9 z n];exact z
 tbls:=λb ps q=>by obtain⟨m,z⟩:=u.tbls b ps q;exact⟨m,by rw[k8<|k9 z n];exact z⟩
theorem C7:∀(names:List (Str × NameKind)) (n:Nat) (dJ:List (Str × Addr)),cellsFrom n names dJ=cellsFrom n names []++dJ
 | [],_,_=>rfl
 | (x,k)::r,n,dJ=>by
  unfold cellsFrom;split
  . rw[C7 r (n+1) ((x,n)::dJ),C7 r (n+1) [(x,n)],List.append_assoc];rfl
  . exact C7 r n dJ
theorem GY:∀(names:List (Str × NameKind)) (n:Nat) (y:Str) (c:Addr),(y,c)∈cellsFrom n names []->(y,NameKind.cell)∈names
 | [],_,_,_,h=>by cases h
 | (x,k)::r,n,y,c,h=>by
  unfold cellsFrom at h;split at h
  . rename_i hk;rw[C7]at h;rcases aJ.mp h with h | h
    . exact aG _ (GY r (n+1) y c h)
    . have e:=aq.mp h;cases e;rw[show k=NameKind.cell by simpa using hk];exact aF
  . exact aG _ (GY r n y c h)
theorem BH:∀(names:List (Str × NameKind)) (n:Nat) (y:Str),(y,NameKind.cell)∈names->∃c,(y,c)∈cellsFrom n names []
 | [],_,_,h=>by cases h
 | (x,k)::r,n,y,h=>by
  unfold cellsFrom;rcases aw.mp h with e | h
  . cases e;rw[if_pos (show(NameKind.cell == NameKind.cell)=true by decide),C7];exact⟨n,aA _ aF⟩
  . split
    . rw[C7];obtain⟨c,hc⟩:=BH r (n+1) y h;exact⟨c,bH _ hc⟩
    . exact BH r n y h
theorem U2:∀(l r:List (Str × α)) (y:Str),(l++r).lookup y=match l.lookup y with | some c=>some c | none=>r.lookup y
 | [],_,_=>rfl
 | (x,c)::l,r,y=>by
  rw[List.cons_append,bL,bL];cases (y == x)with
  | true=>rfl
  | false=>exact U2 l r y
theorem CY:∀{l:List (Str × α)} {y:Str} {c:α},(y,c)∈l->∃c',l.lookup y=some c'
 | (x,d)::l,y,c,h=>by
  rw[bL];cases hb:(y == x)with
  | true=>exact⟨d,Y⟩
  | false=>
   rcases aw.mp h with e | h
   . cases e;rw[beq_self_eq_true]at hb;cases hb
   . exact CY h
abbrev Br(env:Env)(scope:Scope)(C:Addr):List (Str × Addr):=cellsFrom (C+1) scope.names (Z9 env.cells scope.names [])
def QH(h:(Br env scope C).lookup y=some c):(y,c)∈cellsFrom (C+1) scope.names []\/(Z9 env.cells scope.names []).lookup y=some c:=by
 rw[show Br env scope C=_ from C7 _ _ _,U2]at h;split at h
 . rename_i e;cases h;exact .inl (aU e)
 . exact .inr h
def Yb(k:scope.names.lookup y=some .cell)(h:(Br env scope C).lookup y=some c):(y,c)∈cellsFrom (C+1) scope.names []:=by rw[show Br env scope C=_ from C7 _ _ _,U2]at h;obtain⟨d,hd⟩:=BH scope.names (C+1) y<|aU k;obtain⟨d',gH⟩:=CY hd;rw[gH]at h;cases h;exact aU gH
theorem D0:∀(names:List (Str × NameKind)) (n:Nat) (y:Str) (c:Addr),(y,c)∈cellsFrom n names []->n<=c
 | [],_,_,_,h=>by cases h
 | (x,k)::r,n,y,c,h=>by
  unfold cellsFrom at h;split at h
  . rw[C7]at h;rcases aJ.mp h with h | h
    . have:=D0 r (n+1) y c h;omega
    . cases aq.mp h;exact ae _
  . exact D0 r n y c h
theorem EL:∀(names:List (Str × NameKind)) (n:Nat) (x y:Str) (c:Addr),(x,c)∈cellsFrom n names []->(y,c)∈cellsFrom n names []->x=y
 | [],_,_,_,_,h,_=>by cases h
 | (z,k)::r,n,x,y,c,h,g=>by
  unfold cellsFrom at h g;split at h
  . rename_i hk;rw[if_pos hk]at g;rw[C7]at h g;rcases aJ.mp h with h | h <;>rcases aJ.mp g with g | g
    . exact EL r (n+1) x y c h g
    . cases aq.mp g;have:=D0 r (n+1) x _ h;omega
    . cases aq.mp h;have:=D0 r (n+1) y _ g;omega
    . cases aq.mp h;cases aq.mp g;rfl
  . rename_i hk;rw[if_neg hk]at g;exact EL r n x y c h g
def EY{M:Model}{A:Around}{E:w1f}{s:Shared}{scope:Scope}{globals:Addr}{fS:List (Str × Addr)}{qual:Str}{env:Env}{Q:Env->Shared->Prop}
    (hQ:∀h':Heap,h'.Ns s.heap.objs.size (λ_=>none)->(∀b o,s.heap.get? b=some o->h'.get? b=some o)->CellsOk h' (s.heap.objs.size+1) (cellsFrom (s.heap.objs.size+1) scope.names [])->
     Q (newEnv scope s.heap.objs.size globals (cellsFrom (s.heap.objs.size+1) scope.names fS) qual none .none (some env) builtinsNs) { s with heap:=h',toks:=s.toks+([]:List (Str × Value)).length }) :
    wpAny M A (newFunctionEnv scope globals fS [] qual none .none<|some env) Q E s:=by
 simp only[newFunctionEnv,Option.isSome_some,if_true];show wpAny_bind<|wpAny_alloc ?_;show wpAny_bind (wpAny_layCells _ (λname kind cells=>by cases wL:kind == NameKind.cell <;>simp[wL]) _ _ _ _ ?_);have ok:=cellsFrom_ok scope.names (s.heap.push { cls:=.type "dict",data:=.dict #[] }) (s.heap.objs.size+1) [] ⟨λ_ _ hm=>(nomatch hm),List.Pairwise.nil⟩ (by rw[aL];exact ae _);rw[aL]at ok;rw[show({ s with heap:=s.heap.push { cls:=.type "dict",data:=.dict #[] } }:Shared).heap.objs.size=s.heap.objs.size+1 from aL ..];rw[List.forIn_nil];show wpAny_bind<|wpAny_pure<|wpAny_pure ?_;exact hQ _ ((Heap.Ns.new s.heap<|.type "dict").keeps<|pushCells_keeps _ _) (λb o e=>pushCells_keeps _ _ b o<|ag _ e) ok
def o7(X:Cx)(scope:Scope)(xs:w1i)(C:Addr)(s:Shared)(H:Hp)(fp:List Addr)(pn:w1e):Cx:=
 { X with env:=compEnvC scope (Br X.env scope C) C X.env,N:=X.N++xs,s₀:=s,H₀:=H,outer:=X.stack,ex:=fp,fn:=λy=>scope.names.lookup y == some .cell,pn:=pn,xe:=λ_ _=>False }
abbrev Cx.rb(X:Cx)(g:Heap):Cx:={ X with base:=g }
structure Bw(X:Cx)(g:Heap)(H:Hp)(h:Heap)(fp:List Addr):Prop where
 mod:Mod X.K X.mg g
 bs:∀b o,g.get? b=some o->h.get? b=some o/\H b=none
 bsz:g.objs.size<=h.objs.size
 noex:∀b o,g.get? b=some o->b ∉ fp
 nofr:∀b∈E2 X.stack,g.get? b=none
theorem Co{base g h:Heap}:∀{l:List Env},h.FunFrames base l->(∀b∈E2 l,g.get? b=none)->h.FunFrames g l
 | [],_,_=>trivial
 | env::l,⟨hk,⟨L,o,hf,_,ho,hd⟩,hr⟩,n=>by
  have e:E2 (env::l)=L::E2 l:=by unfold E2;rw[bg,hf]
  rw[e]at n;exact⟨hk,⟨L,o,hf,n L aF,ho,hd⟩,Co hr λb hb=>n b<|aG _ hb⟩
def Bw.more(B:Bw X g H h fp)(k:∀b o,h.get? b=some o->h'.get? b=some o)(sz:h.objs.size<=h'.objs.size)(hD:h.objs.size<=D):Bw X g H h' (D::fp):=
 ⟨B.mod,λb o e=>⟨k _ _ (B.bs b o e).1,(B.bs b o e).2⟩,ah B.bsz sz,λb o e hb=>by
  rcases aw.mp hb with rfl | hb
  . exact absurd (ao (af e)<|ah B.bsz hD) (aZ _)
  . exact B.noex b o e hb,B.nofr⟩
def j5.baseAt(I:j5 X aS σ H s)(hf:∀b∈fp,R3 X aS H b):Bw X X.base H s.heap fp:=
 ⟨I.mod,I.bs,ah I.ok.bsz I.sz,λb o e hb=>by
  rcases(hf b hb).2.2.2.1 with z | z
  . exact I.ok.noex b o e z
  . exact absurd (ao (af e)<|ah I.ok.bsz z)<|aZ _,λb hb=>(I.stack.mem hb).1⟩
structure N7(N:w1i)(S T:Scope):Prop where
 kind:T.kind=.function
 cell:∀y∈N,T.names.lookup y≠some .cell
 names:∀y∈T.names,y.2=.local->T.names.lookup y.1=some .local
 uniq:∀y∈T.names,T.names.lookup y.1=some y.2
 free:∀y∈T.names,y.2=.free->S.names.lookup y.1=some .cell\/S.names.lookup y.1=some .free
 vis:∀y∈N,T.names.lookup y≠some .local
def oC(N:w1i)(S:Scope){T:Scope}(a:T.kind=.function:=by rfl)(b:∀y∈N,T.names.lookup y≠some .cell:=by decide +kernel)(c:∀y∈T.names,y.2=.local->T.names.lookup y.1=some .local:=by decide +kernel)(d:∀y∈T.names,T.names.lookup y.1=some y.2:=by decide +kernel)(e:∀y∈T.names,y.2=.free->S.names.lookup y.1=some .cell\/S.names.lookup y.1=some .free:=by decide +kernel)(f:∀y∈N,T.names.lookup y≠some .local:=by decide +kernel):N7 N S T:=⟨a,b,c,d,e,f⟩
def rl(env:Env)(z:Str × NameKind):Str × NameKind:=match z with | (n,k)=>if(k == NameKind.free && env.scope.kind == .function && env.kindOf n == some .cell)then(n,NameKind.cell)else(n,k)
def WD(env:Env)(n:Str)(k:NameKind):(rl env (n,k)).1=n:=by unfold rl;dsimp only;split <;>rfl
def WC(env:Env)(n:Str)(k:NameKind):(rl env (n,k)).2=k\/(k=.free/\(rl env (n,k)).2=.cell):=by
 unfold rl;dsimp only;split
 . rename_i h;simp only[cR]at h;exact .inr ⟨by simpa using h.1.1,Y⟩
 . exact .inl rfl
theorem BF:∀{names:List (Str × NameKind)} {y:Str} {k:NameKind},(names.map<|rl env).lookup y=some k->names.lookup y=some k\/(names.lookup y=some .free/\k=.cell)
 | [],_,_,h=>by cases h
 | (n,j)::r,y,k,h=>by
  have ih:=@BF env r y k;rw[aO,show rl env (n,j)=((rl env (n,j)).1,(rl env (n,j)).2)from rfl,WD,bL]at h;rw[bL];cases hy:(y == n)with
  | true=>
   rw[hy]at h;have h:(rl env (n,j)).2=k:=Option.some.inj h;rcases WC env n j with z | ⟨z1,z2⟩
   . exact .inl (by rw[<- h,z])
   . exact .inr ⟨by rw[z1],by rw[<- h,z2]⟩
  | false=>
   rw[hy]at h;exact ih h
def DK(h:(relabel scope env).names.lookup y=some .cell\/(relabel scope env).names.lookup y=some .free):scope.names.lookup y=some .free\/scope.names.lookup y=some .cell:=by
 have e:(relabel scope env).names=scope.names.map (rl env):=rfl;rw[e]at h;rcases h with h | h
 . rcases BF h with z | ⟨z,_⟩
   . exact .inr z
   . exact .inl z
 . rcases BF h with z | ⟨z,_⟩
   . exact .inl z
   . exact .inl z
def HB(h:(relabel scope env).names.lookup y=some .local):scope.names.lookup y=some .local:=by
 have e:(relabel scope env).names=scope.names.map (rl env):=rfl;rw[e]at h;rcases BF h with z | ⟨_,z⟩
 . exact z
 . cases z
section
variable{X:Cx}{aS:w1e}{σ:St}{H:Hp}{s:Shared}{scope:Scope}{xs:w1i}{fp:List Addr}{C:Addr}
def Z0(I:j5 X aS σ H s)(ok:N7 X.N X.env.scope scope):∀n,(n,NameKind.free)∈scope.names->∃c,X.env.cells.lookup n=some c:=λn hn=>I.ok.has n (ok.free _ hn Y)
def Z3(I:j5 X aS σ H s)(ok:N7 X.N X.env.scope scope)(e:(Br X.env scope C).lookup y=some c):(y,c)∈cellsFrom (C+1) scope.names []\/X.env.cells.lookup y=some c:=by
 rcases QH e with z | z
 . exact .inl z
 . rcases NH (Z0 I ok) z with z | z
   . cases z
   . exact .inr z
def LZ(I:j5 X aS σ H s)(e:X.env.cells.lookup y=some c):c < s.heap.objs.size:=let⟨_,h⟩:=I.cell y c e;h.lt
def Kj(I:j5 X aS σ H s)(B:Bw X g H s.heap fp)(ok:N7 X.N X.env.scope scope)(hf:∀b∈fp,R3 X aS H b)(hx:∀b∈fp,b < s.heap.objs.size)(hC:s.heap.objs.size<=C) :
    (o7 (X.rb g) scope xs C s H fp<|X.pn++aS).Ok where
 mod:=B.mod
 kind:=ok.kind
 glob:=I.ok.glob
 blt:=I.ok.blt
 above:=hC
 inj:=λx y c h1 h2=>by
  rcases Z3 I ok h1 with z1 | z1 <;>rcases Z3 I ok h2 with z2 | z2
  . exact EL _ _ x y c z1 z2
  . exact absurd (ao (LZ I z2)<|ah hC<|bw<|D0 _ _ _ _ z1) (aZ _)
  . exact absurd (ao (LZ I z1)<|ah hC<|bw<|D0 _ _ _ _ z2) (aZ _)
  . exact I.ok.inj x y c z1 z2
 has:=λy hy=>by
  show ∃c,(Br X.env scope C).lookup y=some c;rw[show Br X.env scope C=_ from C7 _ _ _,U2];rcases DK hy with z | z
  . obtain⟨c,hc⟩:=Kk (cells:=X.env.cells) (cs:=[])<|.inr<|aU z;split
    . rename_i c' _;exact⟨c',Y⟩
    . exact⟨c,hc⟩
  . obtain⟨c,hc⟩:=BH scope.names (C+1) y<|aU z;obtain⟨c',iV⟩:=CY hc;rw[iV];exact⟨c',Y⟩
 cab:=λx c h e=>ah hC (bw<|D0 _ _ _ _<|Yb (by have h:(scope.names.lookup x == some NameKind.cell)=true:=h;simpa using h) e)
 hd:=I.ok.hd
 frames:=I.ok.frames
 stk:=.inl rfl
 exf:=λb hb=>⟨ai<|ao (hx b hb) hC,λx c e=>by
  rcases Z3 I ok e with z | z
  . exact bO (ao (hx b hb)<|ah hC<|bw<|D0 _ _ _ _ z)
  . exact(hf b hb).2.2.2.2.1 x c z⟩
 bs:=B.bs
 bsz:=B.bsz
 noex:=B.noex
 exfs:=λb hb z=>by
  rcases aw.mp (I.stkSub b z)with q | q
  . exact(hf b hb).2.1 q
  . exact(hf b hb).2.2.1 q
 funs:=Co I.stack B.nofr
 frf:=I.stkFree
def GW{g:Heap}(I:j5 X aS σ H s)(B:Bw X g H s.heap fp)(ok:N7 X.N X.env.scope scope)(hf:∀b∈fp,R3 X aS H b)(hx:∀b∈fp,b < s.heap.objs.size)(hC:s.heap.objs.size<=C){h':Heap}{t':Nat}{m:w1g}
    (hn:h'.Ns C m) (hk:∀b o,s.heap.get? b=some o->h'.get? b=some o) (jj:CellsOk h' (C+1) (cellsFrom (C+1) scope.names [])) :
    j5 (o7 (X.rb g) scope xs C s H fp<|X.pn++aS) [] (σ++List.replicate xs.length none) H { s with heap:=h',toks:=t' }where
 ok:=Kj I B ok hf hx hC
 os:=rfl
 bare:=I.bare
 base:=Un.kept hk
 loc:=by
  show⟨m,hn,λi x v e1 e2 e3=>?_⟩;have e1:(X.N++xs)[i]? = some x:=e1;have hi:i < σ.length:=by
   by_cases hi:i < σ.length
   . exact hi
   . rw[bc Z,cM]at e2;split at e2 <;>cases e2
  rw[aR hi]at e2;rw[aR<|by rw[<- I.len];exact hi]at e1;have pI:x∈X.N:=aI e1;have e4:(relabel scope X.env).names.lookup x=some .cell\/(relabel scope X.env).names.lookup x=some .free:=by
   rcases e3 with z | z
   . exact absurd (HB z) (ok.vis x pI)
   . exact z
  have e5:scope.names.lookup x=some .free:=by
   rcases DK e4 with z | z
   . exact z
   . exact absurd z (ok.cell x pI)
  have e6:=ok.free _ (aU e5) rfl;obtain⟨m0,_,hl⟩:=I.loc;obtain⟨u,ru,lu⟩:=hl i x v e1 e2<|.inr e6;show⟨u,ru,.inr ⟨e4,?_⟩⟩;rcases lu with ⟨q,_⟩ | ⟨_,c,hc,o,ho,hd⟩
  . have q:X.env.scope.names.lookup x=some .local:=q;rcases e6 with z | z <;>(rw[q]at z;cases z)
  . obtain⟨c',iV⟩:=Kk (cells:=X.env.cells) (cs:=[])<|.inr<|aU e5;have no:(cellsFrom (C+1) scope.names []).lookup x=none:=by
     cases e:(cellsFrom (C+1) scope.names []).lookup x with
     | none=>rfl
     | some d=>
      have:=ok.uniq _<|GY _ _ _ _<|aU e;rw[e5]at this;cases this
    have hb:(Br X.env scope C).lookup x=some c':=by rw[show Br X.env scope C=_ from C7 _ _ _,U2,no];exact iV
    rcases NH (Z0 I ok) iV with z | z
    . cases z
    . rw[hc]at z;cases z;exact⟨c,hb,o,hk _ _ ho,hd⟩
 cell:=λx c e=>by
  rcases Z3 I ok e with z | z
  . exact⟨none,(jj.empty x c z).1⟩
  . obtain⟨v,o,ho,hd⟩:=I.cell x c z;exact⟨v,o,hk _ _ ho,hd⟩
 free:=I.hok.fresh hC
 freeC:=λx c e=>by
  rcases Z3 I ok e with z | z
  . exact I.hok.fresh (by have:=D0 _ _ _ _ z;omega)
  . exact I.freeC x c z
 pin:=λp hp=>by
  rw[ck]at hp;obtain⟨e,n,ne,nf,d⟩:=I.pin p hp;show⟨hk _ _ e,n,ai<|ao (af e) hC,λz=>?_,d⟩;rcases aw.mp (I.stkSub p.1 z)with q | q
  . exact ne q
  . exact nf q
 hok:=I.hok.kept hk
 len:=by show(σ++List.replicate xs.length none).length=(X.N++xs).length;rw[ar,ar,cP,I.len]
end
abbrev Mj(J:It)(k:Nat)(g:TG)(te:TE)(σ:St)(Q:VK)(H1:Hp):Prop:=∃W:Nat->Nat->List V->Hp->Prop,(∃m,W 0 m [] H1)/\∀i m ys H,W i m ys H->
 (J.stop i H/\ys.length<=sizeLine/\∀p,H p=none->Q (.ref p) (upd H p<|.lst ys))\/
 (J.go i H/\ys.length < sizeLine/\∀x H',J.yld i H x H'->g x (σ++List.replicate k none) H' λσ2 H2=>(∃zs,σ2=σ++zs/\zs.length=k)/\te σ2 H2 λv H3=>∃m',m' < m/\W (i+1) m' (ys++[v]) H3)
def NY(k:Nat)(wi:TI)(g:TG)(te:TE):TE:=λσ H Q=>wi σ H λJ H1=>Mj J k g te σ Q H1
abbrev Hl(J:It)(k:Nat)(g:TG)(tc:TT)(te:TE)(σ:St)(Q:VK)(H1:Hp):Prop:=∃W:Nat->Nat->List V->Hp->Prop,(∃m,W 0 m [] H1)/\∀i m ys H,W i m ys H->
 (J.stop i H/\ys.length<=sizeLine/\∀p,H p=none->Q (.ref p) (upd H p<|.lst ys))\/
 (J.go i H/\ys.length < sizeLine/\∀x H',J.yld i H x H'->g x (σ++List.replicate k none) H' λσ2 H2=>(∃zs,σ2=σ++zs/\zs.length=k)/\tc σ2 H2 λb H3=>if b=true then te σ2 H3 λv H4=>∃m',m' < m/\W (i+1) m' (ys++[v]) H4 else ∃m',m' < m/\W (i+1) m' ys H3)
def Dv(k:Nat)(wi:TI)(g:TG)(tc:TT)(te:TE):TE:=λσ H Q=>wi σ H λJ H1=>Hl J k g tc te σ Q H1
def TJ:TT:=λσ H Q=>Q true H
def QZ:Hl J k g TJ te=Mj J k g te:=by
 funext σ Q H1;unfold TJ;simp only[Mj,Hl,if_true]
def LY:Dv k wi g TJ te=NY k wi g te:=by
 funext σ H Q;exact congrArg (wi σ H) (funext λJ=>funext λH1=>congrFun (congrFun (congrFun (QZ (J:=J)) σ) Q) H1)
def Tst(X:Cx)(scope:Scope)(xs:w1i)(eB:List Expr)(tc:TT):Prop:=(eB=[]/\tc=TJ)\/∃c,eB=[c]/\∀C s H fp pn,PT (o7 X scope xs C s H fp pn) c tc
def NG{prog:Program}{w:World}{A:Around}{R:Result->Shared->Prop}{s:Shared}{dF bY iter:Expr}{eB:List Expr}{scope:Scope}{pos:Pos}{it dJ:Value}{env:Env}(I:Nat->Shared->Prop){T:(Bool->Shared->Prop)->Shared->Prop}
    (hT:(eB=[]/\T=λΦ s=>Φ true s)\/∃c,eB=[c]/\T=λΦ s=>wpAny (model prog w) A (isTrue c env<|eval c env) Φ (λ_ _=>False) s)
    (ej:∀n s,I n s->wpAny (model prog w) A (pyNext it) (λr s₁=>match r with
     | none=>R (.ok .next) s₁
     | some v=>wpAny (model prog w) A (letOwnedTupleGo bY it v) (λ_ fk=>wpAny (model prog w) A (assign bY env v) (T (λok ic=>
         if ok=true then wpAny (model prog w) A (eval dF env) (λx s₃=>wpAny (model prog w) A (call (.builtin "list.append") [dJ,x]) (λ_ s₄=>∃m,m < n/\I m s₄) (λ_ _=>False) s₃) (λ_ _=>False) ic
         else ∃m,m < n/\I m ic) |> λf=>λ_=>f) (λ_ _=>False) fk) (λ_ _=>False) s₁) (λ_ _=>False) s)
    (n:Nat) (h:I n s) :
    codeAny (model prog w) A (.compLoop (.ListComp dF [⟨bY,iter,eB,0⟩] scope pos) 0 it dJ env) R s:=by
 show codeAny_loop rfl I (λn s hI=>?_) n h;show wpAny _ _ ((compTurn (.ListComp dF [⟨bY,iter,eB,0⟩] scope pos) 0 it dJ env).onRaise<|λx=>do noteFrame x env;theTreesLotGoes x) _ _ s;show wpAny_noted ?_;rcases hT with ⟨rfl,rfl⟩ | ⟨c,rfl,rfl⟩
 . rw[compTurn_list1];show wpAny_bind<|wpAny_standAt<|wpAny_bind<|wpAny_mono (ej n s hI) (λr s₁ h₁=>?_) λ_ _ h'=>h'.elim;cases r with
   | none=>exact wpAny_pure h₁
   | some v=>
    show wpAny_bind<|wpAny_mono h₁ (λ_ eX iZ=>wpAny_bind<|wpAny_mono iZ (λ_ s₂ h₂=>?_) λ_ _ h'=>h'.elim) λ_ _ h'=>h'.elim;have h₂:wpAny (model prog w) A (eval dF env) (λx s₃=>wpAny (model prog w) A (call (.builtin "list.append") [dJ,x]) (λ_ s₄=>∃m,m < n/\I m s₄) (λ_ _=>False) s₃) (λ_ _=>False) s₂:=h₂;exact wpAny_bind (wpAny_bind<|wpAny_mono h₂ (λx s₃ h₃=>wpAny_bind<|wpAny_mono h₃ (λ_ s₄ h₄=>wpAny_pure<|wpAny_pure ⟨Y,h₄⟩) λ_ _ h'=>h'.elim) λ_ _ h'=>h'.elim)
 . rw[compTurn_list];show wpAny_bind<|wpAny_standAt<|wpAny_bind<|wpAny_mono (ej n s hI) (λr s₁ h₁=>?_) λ_ _ h'=>h'.elim;cases r with
   | none=>exact wpAny_pure h₁
   | some v=>
    show wpAny_bind<|wpAny_mono h₁ (λ_ eX iZ=>wpAny_bind<|wpAny_mono iZ (λ_ s₂ h₂=>wpAny_bind<|wpAny_tests_one<|wpAny_mono h₂ (λok s₃ h₃=>?_) λ_ _ h'=>h'.elim) λ_ _ h'=>h'.elim) λ_ _ h'=>h'.elim;cases ok with
    | false=>exact wpAny_pure ⟨Y,h₃⟩
    | true=>
     exact wpAny_bind (wpAny_bind<|wpAny_mono h₃ (λx s₄ h₄=>wpAny_bind<|wpAny_mono h₄ (λ_ s₅ h₅=>wpAny_pure<|wpAny_pure ⟨Y,h₅⟩) λ_ _ h'=>h'.elim) λ_ _ h'=>h'.elim)
def VG{X:Cx}{dF:Expr}{eB:List Expr}{scope:Scope}{tc:TT}{xs:w1i}(ht:Tst X scope xs eB tc){C:Addr}{s0 s6:Shared}{H0 H6:Hp}{fp:List Addr}{pn pl:w1e}{σ6:St}{G:Bool->Hp->Prop}{Φ:Bool->Shared->Prop}
    (I6:j5 (o7 X scope xs C s0 H0 fp pn) pl σ6 H6 s6) (q6:tc σ6 H6 G) (k:∀ok s H,j5 (o7 X scope xs C s0 H0 fp pn) pl σ6 H s->G ok H->Φ ok s) :
    if eB=[]then Φ true s6 else wpAny (model X.prog X.w) X.A (isTrue (eB.headD dF) (compEnvC scope (Br X.env scope C) C X.env)<|eval (eB.headD dF)<|compEnvC scope (Br X.env scope C) C X.env) Φ (λ_ _=>False) s6:=by
 rcases ht with ⟨rfl,rfl⟩ | ⟨c,rfl,ht⟩
 . rw[if_pos rfl];exact k _ _ _ I6 q6
 . rw[if_neg<|by simp];exact B0 (ht _ _ _ _ _ _ s6 σ6 H6 _ I6 q6) λok mL ⟨kO,jb,kR⟩=>k ok mL kO jb kR
def IQ{X:Cx}{g':Heap}{dF bY iter:Expr}{eB:List Expr}{scope:Scope}{pos:Pos}{g:TG}{tc:TT}{te:TE}{xs:w1i}(hc:X.calm=true)(ok:N7 X.N X.env.scope scope)
    (hg:∀C s H fp pn,PG (o7 (X.rb g') scope xs C s H fp pn) bY g) (ht:Tst (X.rb g') scope xs eB tc) (he:∀C s H fp pn,PE (o7 (X.rb g') scope xs C s H fp pn) dF te)
    {aS:w1e} {σ:St} {Q:VK} {s2:Shared} {it:Addr} {fp:List Addr} {tn:Nat->Heap->Prop} {J:It} {H2:Hp} (I2:j5 X aS σ H2 s2) (T:Ij X.prog X.w X.K bY J fp it tn) (dy:tn 0 s2.heap) (f2:∀b∈fp,R3 X aS H2 b) (B:Bw X g' H2 s2.heap fp) (h:Hl J xs.length g tc te σ Q H2)
    {PO:Value->Addr->Result->Shared->Prop}
    (fL:∀D C s4 H' ys mm,s4.heap.Ns C mm->j5 X aS σ (upd H' D<|.lst ys) s4->R3 X aS H2 C->upd H' D (.lst ys) C=none->Q (.ref D) (upd H' D<|.lst ys)->PO (.ref D) C (.ok .next) s4) :
    wpAny (model X.prog X.w) X.A (newList []) (λdJ s₃=>wpAny (model X.prog X.w) X.A (newFunctionEnv scope X.env.globals (Z9 X.env.cells scope.names []) [] X.env.qual none Value.none<|some X.env) (λcenv s₄=>codeAny (model X.prog X.w) X.A (.compStart (.ListComp dF [⟨bY,iter,eB,0⟩] scope pos) 0 (.ref it) dJ { cenv with scope:=relabel scope X.env }) (PO dJ cenv.locals) s₄) X.xe s₃) X.xe s2:=by
 obtain⟨W,⟨m0,w0⟩,ej⟩:=h;show wpAny_newObj_type<|EY λh₁ dZ dX ee=>?_;dsimp only at dZ dX ee ⊢;generalize hD:s2.heap.objs.size=D;generalize iX:s2.heap.push { cls:=.type "list",dict:=none,data:=.seq ([]:w1j).toArray }=h3 at dZ dX ee ⊢;have gj:∀b o,s2.heap.get? b=some o->h3.get? b=some o:=λb o e=>iX▸ag _ e;have hC:h3.objs.size=D+1:=by rw[<- iX,aL,hD]
 have oN:h3.get? D=some { cls:=.type "list",dict:=none,data:=.seq ([]:w1j).toArray }:=by rw[<- iX,<- hD];exact ak _ rfl
 have I3:j5 X aS σ H2 { s2 with heap:=h3 }:=I2.kept (t':=s2.toks) gj;have fD:R3 X aS H2 D:=I2.fpOk Z<|I2.hok.fresh Z;have iI:∀b∈fp,b < D:=λb hb=>by
  obtain⟨o,e,_⟩:=T.obj 0 _ dy b hb;rw[<- hD];exact af e
 have f3:∀b∈D::fp,R3 X aS H2 b:=λb hb=>by
  rcases aw.mp hb with rfl | hb
  . exact fD
  . exact f2 b hb
 have jK:∀b∈D::fp,b < ({ s2 with heap:=h3 }:Shared).heap.objs.size:=λb hb=>by
  show b < h3.objs.size;rcases aw.mp hb with rfl | hb
  . rw[hC];exact bb _
  . rw[hC];exact bQ (iI b hb)
 have gR:∀b o,h3.get? b=some o->h₁.get? b=some o:=dX;have B3:Bw X g' H2 ({ s2 with heap:=h3 }:Shared).heap (D::fp):=B.more gj (by show s2.heap.objs.size<=h3.objs.size;omega) Z;have gd:=Kj (C:=h3.objs.size) (xs:=xs) I3 B3 ok f3 jK<|ae _;have I4:=GW (C:=h3.objs.size) (xs:=xs) (t':=s2.toks+([]:List (Str × Value)).length) I3 B3 ok f3 jK (ae _) dZ gR ee;have mD:D∈D::fp:=aF;have fq:∀b∈D::fp,b≠h3.objs.size:=λb hb=>(gd.exf b hb).1;have eJ:∀{H':Hp} {pl:w1e},(∀b∈fp,H' b=none)->(∀p∈pl,p.1=D)->∀b∈fp,R3 (o7 (X.rb g') scope xs h3.objs.size { s2 with heap:=h3 } H2 (D::fp)<|X.pn++aS) pl H' b:=λhn fb b hb=>by
  have fR:b∈D::fp:=aG _ hb;show⟨hn b hb,fq b fR,gd.exfs b fR,.inl fR,(gd.exf b fR).2,λp hp=>?_⟩;rcases aJ.mp hp with hp | hp
  . exact(f2 b hb).2.2.2.2.2 p hp
  . rw[fb p hp];exact bO (iI b hb)
 have gi:codeAny (model X.prog X.w) X.A (.compLoop (.ListComp dF [⟨bY,iter,eB,0⟩] scope pos) 0 (.ref it) (.ref D)<|compEnvC scope (Br X.env scope h3.objs.size) h3.objs.size X.env)
     (PO (.ref D) h3.objs.size) { s2 with heap:=h₁,toks:=s2.toks+([]:List (Str × Value)).length }:=by
  show NG (T:=λΦ s=>if eB=[]then Φ true s else wpAny (model X.prog X.w) X.A (isTrue (eB.headD dF) (compEnvC scope (Br X.env scope h3.objs.size) h3.objs.size X.env)<|eval (eB.headD dF)<|compEnvC scope (Br X.env scope h3.objs.size) h3.objs.size X.env) Φ (λ_ _=>False) s) (λn s'=>∃i ys dw k H',j5 (o7 (X.rb g') scope xs h3.objs.size { s2 with heap:=h3 } H2 (D::fp)<|X.pn++aS) [] (σ++List.replicate xs.length none) H' s'/\
   s'.heap.get? D=some { cls:=.type "list",data:=.seq (dw:w1j).toArray k }/\m9 ys dw/\H' D=none/\tn i s'.heap/\(∀b∈fp,H' b=none)/\W i n ys H') ?hT ?_ m0
   ⟨0,[],[],_,H2,I4,gR _ _ oN,.nil,fD.1,T.keep _ _ _ dy<|λb _ o e=>gR b o<|gj b o e,λb hb=>(f2 b hb).1,w0⟩
  case hT=>
   rcases ht with ⟨rfl,_⟩ | ⟨c,rfl,_⟩
   . exact .inl ⟨Y,by funext Φ s;exact if_pos Y⟩
   . exact .inr ⟨c,Y,by funext Φ s;exact if_neg<|by simp⟩
  rintro n s' ⟨i,ys,dw,k,H',I',eD,rv,nD,st,fr,w⟩;have Ip:=I'.pins_of (pins':=[(D,{ cls:=.type "list",data:=.seq dw.toArray k })]) λp hp=>by
   rw[aq]at hp;subst hp;exact⟨eD,nD,fq D mD,gd.exfs D mD,λv z=>by cases z⟩
  have one:∀p∈[(D,({ cls:=.type "list",data:=.seq dw.toArray k }:Obj))],p.1=D:=λp hp=>by rw[aq]at hp;rw[hp]
  rcases ej i n ys H' w with ⟨stop,hz,q⟩ | ⟨go,hz,step⟩
  . show B0 (T.done (o7 (X.rb g') scope xs h3.objs.size { s2 with heap:=h3 } H2 (D::fp)<|X.pn++aS) Y Y Y hc i _ s' _ H' (λ_ _=>False) Ip (eJ fr one) st stop) λr s4 ⟨hr,J4⟩=>?_;subst hr;obtain⟨mm,gw,_⟩:=J4.loc;obtain⟨oK,iH,_⟩:=J4.pin (D,{ cls:=.type "list",data:=.seq dw.toArray k })<|aA _ aF;have u0:Un (E2 X.stack) (D::fp) H2 H' h3 s4.heap:=J4.base;have u:Un (E2 X.stack) (D::fp) H2 H' s2.heap s4.heap:=(Un.kept gj).trans u0;have mP:s4.os=s2.os:=J4.os;have mY:H' h3.objs.size=none:=J4.free;have IX:j5 X aS σ (upd H' D<|.lst ys) s4:=I2.call' (s':=s4) (ch:=D::fp) mP (u.track Z iH) (J4.hok.track iH ⟨hz,dw,k,rv,oK⟩) J4.bare (λb hb=>by
     have z:=f3 b hb;exact⟨z.2.2.2.1,z.2.1,z.2.2.2.2.1,z.2.2.2.2.2⟩)
    have fC:R3 X aS H2 h3.objs.size:=I2.fpOk Z<|I2.hok.fresh Z;have gQ:upd H' D (.lst ys) h3.objs.size=none:=by rw[k8<|Ne.symm<|fq D mD];exact mY
    exact fL _ _ _ _ _ _ gw IX fC gQ (q D iH)
  . show B0 (T.item (o7 (X.rb g') scope xs h3.objs.size { s2 with heap:=h3 } H2 (D::fp)<|X.pn++aS) Y Y Y hc i _ s' _ H' (λ_ _=>False) Ip (eJ fr one) st go) λr s4 ⟨u,hr,h4⟩=>?_;subst hr;show B0 h4 λ_ s5 ⟨x,H5,I5,r5,y5,fU,fr5⟩=>?_;have kN:=I5.pinned (eJ fr5 one)<|T.obj _ _ fU;show B0 (hg _ _ _ _ _ _ s5 _ H5 x u _ kN r5<|step x H5 y5) λ_ s6 ⟨σ6,H6,I6,⟨zs,hz6,hl6⟩,q6⟩=>?_;have fG:∀{s7:Shared} {σ7:St} {H7:Hp},j5 (o7 (X.rb g') scope xs h3.objs.size { s2 with heap:=h3 } H2 (D::fp)<|X.pn++aS) ([(D,{ cls:=.type "list",data:=.seq dw.toArray k })]++Gk fp s5.heap) σ7 H7 s7->∀b∈fp,∀o,s5.heap.get? b=some o->s7.heap.get? b=some o/\H7 b=none:=λI7 b hb o e=>
     ⟨(I7.pin (b,o)<|aA _<|aA _<|P1 hb e).1,(I7.pin (b,o)<|aA _<|aA _<|P1 hb e).2.1⟩
    have back:∀{H7:Hp} {s7:Shared},j5 (o7 (X.rb g') scope xs h3.objs.size { s2 with heap:=h3 } H2 (D::fp)<|X.pn++aS) [] σ6 H7 s7->j5 (o7 (X.rb g') scope xs h3.objs.size { s2 with heap:=h3 } H2 (D::fp)<|X.pn++aS) [] (σ++List.replicate xs.length none) H7 s7:=λI8=>
     I8.weak (by rw[hz6,ar,ar,cP,hl6]) (λj v' e=>by
      have hj:j < σ.length:=by
       by_cases hj:j < σ.length
       . exact hj
       . rw[bc Z,cM]at e;split at e <;>cases e
      rw[aR hj]at e;rw[hz6,aR hj];exact e)
    show VG ht I6 q6 λok mL kO jb kR=>?_;cases ok with
    | false=>
     obtain⟨m',gy,w7⟩:=(show ∃m',m' < n/\W (i+1) m' ys kO from kR);obtain⟨ia,iG,_⟩:=jb.pin (D,{ cls:=.type "list",data:=.seq dw.toArray k })<|aA _<|bH _ aF;show⟨m',gy,i+1,ys,dw,_,kO,back (jb.pins_of (pins':=[]) λp hp=>by cases hp),ia,rv,iG,T.keep _ _ _ fU<|λb hb o e=>(fG jb b hb o e).1,λb hb=>?_,w7⟩;obtain⟨o,e,_⟩:=T.obj _ _ fU b hb;exact(fG jb b hb o e).2
    | true=>
     show B0 (he _ _ _ _ _ _ mL σ6 kO _ jb kR) λxv s7 ⟨v,H7,I7,r7,m',gy,w7⟩=>?_;obtain⟨ia,iG,_⟩:=I7.pin (D,{ cls:=.type "list",data:=.seq dw.toArray k })<|aA _<|bH _ aF;have len:=rv.length;show call_meets F.slot_list_append ⟨_,ia,Y⟩ F.entry_list_append (F.args_list_append_2 _ _) (PySem.list_append D dw.toArray k xv<|by rw[aj];omega) ⟨ia,?_⟩;have q:=PySem.IsL.update ia<|λa=>a.push xv;have dS:∀b o,b≠D->s7.heap.get? b=some o->(s7.heap.update D<|Obj.mapSeq λa=>a.push xv).get? b=some o:=λb o hb e=>(cq s7.heap _<|Ne.symm hb).trans e;have oV:=I7.pins_of (pins':=[]) λp hp=>by cases hp
     have I8:=oV.turned (t':=s7.toks) (it:=D) dS iG (fq D mD) (.inl mD) (gd.exf D mD).2 (λp hp=>by
      rw[ck]at hp;exact fD.2.2.2.2.2 p hp)
     have e9:dw.toArray.push xv=(dw++[xv]).toArray:=by simp
     rw[e9]at q;show⟨m',gy,i+1,ys++[v],dw++[xv],_,H7,back I8,q,rv.append<|.cons r7 .nil,iG,T.keep _ _ _ fU<|λb hb o e=>dS b o (ai<|iI b hb) (fG I7 b hb o e).1,λb hb=>?_,w7⟩;obtain⟨o,e,_⟩:=T.obj _ _ fU b hb;exact(fG I7 b hb o e).2
 exact codeAny_compStart_list gi (T.self _ 0 _ _ _ (T.keep _ _ _ dy λb _ o e=>gR b o<|gj b o e) gi)
def Lk{X:Cx}{dF bY iter:Expr}{eB:List Expr}{scope:Scope}{pos:Pos}{wi:TI}{g:TG}{tc:TT}{te:TE}{xs:w1i}(hc:X.calm=true)(ok:N7 X.N X.env.scope scope)(hi:PI X bY iter wi)
    (hg:∀C s H fp pn,PG (o7 X scope xs C s H fp pn) bY g) (ht:Tst X scope xs eB tc) (he:∀C s H fp pn,PE (o7 X scope xs C s H fp pn) dF te)
    (hs:∀x,foldedSetIterable iter X.env x=pure x):PE X (.ListComp dF [⟨bY,iter,eB,0⟩] scope pos) (Dv xs.length wi g tc te):=by
 intro aS s σ H Q I h;rw[eval_ListComp];show wpAny_comprehension_free (use:=none) rfl hs (Bq<|Z0 I ok) ok.kind ok.names<|B0 (hi aS s σ H _ I h) λv s1 h1=>B0 h1 λjJ s2 h2=>?_;obtain⟨it,fp,tn,J,H2,rfl,I2,T,dy,f2,h⟩:=h2;show IQ hc ok hg ht he I2 T dy f2 (I2.baseAt f2) h (PO:=λdJ C=>compPost (model X.prog X.w) X.A X.xe none (EP X aS σ Q) dJ C) λD C s4 H' ys mm gw IX fC gQ q=>⟨mm,gw,λh' sb=>?_⟩;exact⟨.ref D,_,IX.turned (t':=s4.toks) (it:=C) (λb o hb e=>sb.extBut b o hb e) gQ fC.2.1 fC.2.2.2.1 fC.2.2.2.2.1 fC.2.2.2.2.2,Y,q⟩
def B9{X:Cx}{dF bY iter:Expr}{scope:Scope}{pos:Pos}{wi:TI}{g:TG}{te:TE}{xs:w1i}(hc:X.calm=true)(ok:N7 X.N X.env.scope scope)(hi:PI X bY iter wi)
    (hg:∀{C s H fp pn},PG (o7 X scope xs C s H fp pn) bY g) (he:∀{C s H fp pn},PE (o7 X scope xs C s H fp pn) dF te)
    (hs:∀x,foldedSetIterable iter X.env x=pure x:=by intro _;rfl):PE X (.ListComp dF [⟨bY,iter,[],0⟩] scope pos) (NY xs.length wi g te):=LY▸Lk hc ok hi (λ_ _ _ _ _=>hg) (.inl ⟨Y,Y⟩) (λ_ _ _ _ _=>he) hs
section
variable{X:Cx}{aS:w1e}{σ:St}{H:Hp}{s:Shared}{i:Nat}{y:Str}
end
def PH{X:Cx}{dF bY iter c:Expr}{scope:Scope}{pos:Pos}{wi:TI}{g:TG}{tc:TT}{te:TE}{xs:w1i}(hc:X.calm=true)(ok:N7 X.N X.env.scope scope)(hi:PI X bY iter wi)
    (hg:∀{C s H fp pn},PG (o7 X scope xs C s H fp pn) bY g) (ht:∀{C s H fp pn},PT (o7 X scope xs C s H fp pn) c tc) (he:∀{C s H fp pn},PE (o7 X scope xs C s H fp pn) dF te)
    (hs:∀x,foldedSetIterable iter X.env x=pure x:=by intro _;rfl):PE X (.ListComp dF [⟨bY,iter,[c],0⟩] scope pos) (Dv xs.length wi g tc te):=Lk hc ok hi (λ_ _ _ _ _=>hg) (.inr ⟨c,Y,(λ_ _ _ _ _=>ht)⟩) (λ_ _ _ _ _=>he) hs
def Oo{X:Cx}{i₀:Nat}{x₀:Str}{dC dH:Pos}{dF bY iter:Expr}{eB:List Expr}{scope:Scope}{pos:Pos}{wi:TI}{g:TG}{tc:TT}{te:TE}{xs:w1i}(hN:X.N.Nodup)(eM:X.N[i₀]? = some x₀)(eK:Va X.env.scope x₀)(hc:X.calm=true)(ok:N7 X.N X.env.scope scope)(hi:PI X bY iter wi)
    (hg:∀C s H fp pn,PG (o7 X scope xs C s H fp pn) bY g) (ht:Tst X scope xs eB tc) (he:∀C s H fp pn,PE (o7 X scope xs C s H fp pn) dF te)
    (hs:∀x,foldedSetIterable iter X.env x=pure x) (hw:swapsWith (.ListComp dF [⟨bY,iter,eB,0⟩] scope pos) (some<|.Name x₀ dC) dH.line X.env=pure true)
    (eP:X.fn x₀=true\/X.env.scope.names.lookup x₀=some .local) :
    PS X (.Assign [.Name x₀ dC] (.ListComp dF [⟨bY,iter,eB,0⟩] scope pos) dH) (MC (Dv xs.length wi g tc te)<|W3 i₀):=by
 intro aS s σ H D₀ I h;rw[exec_Assign_Name_used _ _ _ _ hw];show wpAny_bind<|wpAny_standAt<|wpAny_bind ?_;show wpAny _ _ (comprehension _ _ _ _ _ _ _ _ >>= _) _ _ _;show wpAny_bind<|wpAny_comprehension_free (Q:=λ_ s'=>wpAny (model X.prog X.w) X.A (pure ()) (λ_ eE=>wpAny (model X.prog X.w) X.A (pure Flow.next) (SP X aS D₀) X.xe eE) X.xe s') (use:=some<|assign (.Name x₀ dC) X.env) Y hs (Bq<|Z0 I ok) ok.kind ok.names<|B0 (hi aS s σ H _ I h) λv s1 h1=>B0 h1 λjJ s2 h2=>?_;obtain⟨it,fp,tn,J,H2,rfl,I2,T,dy,f2,h⟩:=h2;show IQ hc ok hg ht he I2 T dy f2 (I2.baseAt f2) h (PO:=λdJ C=>compPost (model X.prog X.w) X.A X.xe (some<|assign (.Name x₀ dC) X.env) (λ_ s'=>wpAny (model X.prog X.w) X.A (pure ()) (λ_ eE=>wpAny (model X.prog X.w) X.A (pure Flow.next) (SP X aS D₀) X.xe eE) X.xe s') dJ C) λD C s4 H' ys mm gw IX fC gQ q=>?_;show wpAny_assign_Name (Ef IX hN eM eK (v:=.ref D) Y (λs5 I5 ⟨a5,sb5,oh⟩=>⟨mm,?_,λh' sb=>?_⟩) eP)
 . have:C≠a5:=by
    rcases oh with e | e
    . rw[e];exact fC.2.1
    . exact Ne.symm (fC.2.2.2.2.1 x₀ a5 e)
   obtain⟨o,es,ep,e,r⟩:=gw;exact⟨o,es,ep,sb5.extBut _ _ this e,r⟩
 . exact wpAny_pure (wpAny_pure ⟨_,_,I5.turned (t':=s5.toks) (it:=C) (λb o hb e=>sb.extBut b o hb e) gQ fC.2.1 fC.2.2.2.1 fC.2.2.2.2.1 fC.2.2.2.2.2,q⟩)
def V5{X:Cx}{i₀:Nat}{x₀:Str}{dC dH:Pos}{dF bY iter:Expr}{scope:Scope}{pos:Pos}{wi:TI}{g:TG}{te:TE}{xs:w1i}(hN:X.N.Nodup)(eM:X.N[i₀]? = some x₀)(eK:Va X.env.scope x₀)(hc:X.calm=true)(ok:N7 X.N X.env.scope scope)(hi:PI X bY iter wi)
    (hg:∀{C s H fp pn},PG (o7 X scope xs C s H fp pn) bY g) (he:∀{C s H fp pn},PE (o7 X scope xs C s H fp pn) dF te)
    (hs:∀x,foldedSetIterable iter X.env x=pure x:=by intro _;rfl) (hw:swapsWith (.ListComp dF [⟨bY,iter,[],0⟩] scope pos) (some<|.Name x₀ dC) dH.line X.env=pure true:=by rfl)
    (eP:X.fn x₀=true\/X.env.scope.names.lookup x₀=some .local:=by first | exact .inl rfl | exact .inr rfl | assumption) :
    PS X (.Assign [.Name x₀ dC] (.ListComp dF [⟨bY,iter,[],0⟩] scope pos) dH) (MC (NY xs.length wi g te)<|W3 i₀):=LY▸Oo hN eM eK hc ok hi (λ_ _ _ _ _=>hg) (.inl ⟨Y,Y⟩) (λ_ _ _ _ _=>he) hs hw eP
def Li{X:Cx}{i₀:Nat}{x₀:Str}{dC dH:Pos}{dF bY iter c:Expr}{scope:Scope}{pos:Pos}{wi:TI}{g:TG}{tc:TT}{te:TE}{xs:w1i}(hN:X.N.Nodup)(eM:X.N[i₀]? = some x₀)(eK:Va X.env.scope x₀)(hc:X.calm=true)(ok:N7 X.N X.env.scope scope)(hi:PI X bY iter wi)
    (hg:∀{C s H fp pn},PG (o7 X scope xs C s H fp pn) bY g) (ht:∀{C s H fp pn},PT (o7 X scope xs C s H fp pn) c tc) (he:∀{C s H fp pn},PE (o7 X scope xs C s H fp pn) dF te)
    (hs:∀x,foldedSetIterable iter X.env x=pure x:=by intro _;rfl) (hw:swapsWith (.ListComp dF [⟨bY,iter,[c],0⟩] scope pos) (some<|.Name x₀ dC) dH.line X.env=pure true:=by rfl)
    (eP:X.fn x₀=true\/X.env.scope.names.lookup x₀=some .local:=by first | exact .inl rfl | exact .inr rfl | assumption) :
    PS X (.Assign [.Name x₀ dC] (.ListComp dF [⟨bY,iter,[c],0⟩] scope pos) dH) (MC (Dv xs.length wi g tc te)<|W3 i₀):=Oo hN eM eK hc ok hi (λ_ _ _ _ _=>hg) (.inr ⟨c,Y,(λ_ _ _ _ _=>ht)⟩) (λ_ _ _ _ _=>he) hs hw eP
def JJ{e:Value}{env kD:Env}(h:env.frame=kD.frame):noteFrame e env=noteFrame e kD:=by unfold noteFrame PySem.frameOf;rw[h]
def Ih{prog:Program}{w:World}{A:Around}{R:Result->Shared->Prop}{s:Shared}{dF bY iter:Expr}{scope:Scope}{pos:Pos}{it dJ:Value}{env:Env}(I:Nat->Shared->Prop)(EX:w1f)
    (xn:∀e s',EX e s'->notedBy (model prog w) A env (λx eE=>R (.error x) eE) e s')
    (ej:∀n s,I n s->wpAny (model prog w) A (pyNext it) (λr s₁=>match r with
     | none=>R (.ok .next) s₁
     | some v=>wpAny (model prog w) A (letOwnedTupleGo bY it v) (λ_ fk=>wpAny (model prog w) A (assign bY env v) (λ_ s₂=>wpAny (model prog w) A (eval dF env) (λx s₃=>
         wpAny (model prog w) A (call (.builtin "list.append") [dJ,x]) (λ_ s₄=>∃m,m < n/\I m s₄) (λ_ _=>False) s₃) EX s₂) (λ_ _=>False) fk) (λ_ _=>False) s₁) (λ_ _=>False) s)
    (n:Nat) (h:I n s) :
    codeAny (model prog w) A (.compLoop (.ListComp dF [⟨bY,iter,[],0⟩] scope pos) 0 it dJ env) R s:=by
 show codeAny_loop rfl I (λn s hI=>?_) n h;show wpAny _ _ ((compTurn (.ListComp dF [⟨bY,iter,[],0⟩] scope pos) 0 it dJ env).onRaise<|λx=>do noteFrame x env;theTreesLotGoes x) _ _ s;show wpAny_noted ?_;rw[compTurn_list1];show wpAny_bind<|wpAny_standAt<|wpAny_bind<|wpAny_mono (ej n s hI) (λr s₁ h₁=>?_) λ_ _ h'=>h'.elim;cases r with
 | none=>exact wpAny_pure h₁
 | some v=>
  exact wpAny_bind (wpAny_mono h₁ (λ_ eX iZ=>wpAny_bind (wpAny_mono iZ (λ_ s₂ h₂=>wpAny_bind (wpAny_bind (wpAny_mono h₂ (λx s₃ h₃=>wpAny_bind (wpAny_mono h₃
   (λ_ s₄ h₄=>wpAny_pure<|wpAny_pure ⟨Y,h₄⟩) λ_ _ h'=>h'.elim)) λe s' h'=>xn e s' h'))) λ_ _ h'=>h'.elim)) λ_ _ h'=>h'.elim)
section
variable{M:Model}{A:Around}{E:w1f}{s:Shared}{env:Env}
def Z4(M:Model)(A:Around)(E:w1f)(use:Option (Value->Sem Unit))(Q:w1f)(dJ:Value)(cenv:Env)(r:Result)(s':Shared):Prop:=
 match r,use with
 | .ok _,none=>∃m,s'.heap.Ns cenv.locals m/\∀h',Heap.SameBut cenv.locals s'.heap h'->Q dJ { s' with heap:=h' }
 | .ok _,some u=>wpAny M A (u dJ) (λ_ eE=>∃m,eE.heap.Ns cenv.locals m/\∀h',Heap.SameBut cenv.locals eE.heap h'->Q .none { eE with heap:=h' }) E s'
 | .error x,_=>∃m,s'.heap.Ns cenv.locals m/\∀h' m',h'.Ns cenv.locals m'->Heap.SameBut cenv.locals s'.heap h'->wpAny M A (PySem.passOn "comprehension.variables-let-go" x cenv:Sem Value) (λ_ _=>False) E { s' with heap:=h' }
def AG{e:Expr}{scope:Scope}{pos:Pos}{gg first:Sem Value}{g:Comprehension}{gs:List Comprehension}{cl:List (Str × Addr)}{use:Option (Value->Sem Unit)}{Q:w1f}
    (ix:clausesOf e=g::gs) (hs:∀x,foldedSetIterable g.iter env x=pure x) (kd:closureFor scope env=pure cl)
    (fz:scope.kind=.function) (iS:∀x∈scope.names,x.2=.local->scope.names.lookup x.1=some .local)
    (h:wpAny M A first (λx s₁=>wpAny M A (pyIter x) (λit s₂=>wpAny M A gg (λdJ s₃=>
     wpAny M A (newFunctionEnv scope env.globals cl [] env.qual none .none<|some env) (λcenv s₄=>
      codeAny M A (.compStart e 0 it dJ { cenv with scope:=relabel scope env }) (Z4 M A E use Q dJ { cenv with scope:=relabel scope env }) s₄) E s₃) E s₂) E s₁) E s) :
    wpAny M A (comprehension e scope env pos gg false first use) Q E s:=by
 unfold comprehension;rw[kd,ix];show wpAny_bind (wpAny_mono h (λx s₁ h₁=>wpAny_bind (wpAny_standAt (wpAny_bind (wpAny_of_eq (hs x) (wpAny_bind (wpAny_holding (wpAny_mono h₁ (λit s₂ h₂=>
  wpAny_standIf (wpAny_bind<|wpAny_mono h₂ (λdJ s₃ h₃=>wpAny_bind<|wpAny_pure<|wpAny_bind<|wpAny_mono h₃ (λcenv s₄ h₄=>?_) λ_ _ h'=>h') λ_ _ h'=>h'))
   λ_ _ h'=>h'))))))) λ_ _ h'=>h')
 dsimp only;have hv:∀x∈(scope.names.filter λx=>(x.2 == .local || x.2 == .cell) && x.1 != (".0":Str)).reverse,x.2=.local->
     Env.kindOf { cenv with scope:=relabel scope env } x.1=some .local:=λx hx hl=>lookup_relabel_local (iS x (List.mem_filter.mp<|List.mem_reverse.mp hx).1 hl)
 have nE:∀x∈(scope.names.filter λx=>(x.2 == .local || x.2 == .cell) && x.1 != (".0":Str)).reverse.drop 1++(scope.names.filter λx=>(x.2 == .local || x.2 == .cell) && x.1 != (".0":Str)).reverse.take 1,
     x.2=.local->Env.kindOf { cenv with scope:=relabel scope env } x.1=some .local:=λx hx hl=>by
  rcases aJ.mp hx with h1 | h1
  . exact hv x (cE h1) hl
  . exact hv x (bS h1) hl
 show wpAny_holding<|wpAny_bind<|wpAny_attempt<|wpAny_holding<|wpAny_run<|codeAny_mono h₄ λr s' hr=>?_;cases r with
 | ok f=>
  cases use with
  | none=>
   obtain⟨m,hn,hr⟩:=hr;exact wpAny_bind (wpAny_holding<|wpAny_comp_letGo (cenv:={ cenv with scope:=relabel scope env }) fz _ s' m hv hn λh' m' _ fE=>wpAny_pure<|hr h' fE)
  | some u=>
   show wpAny_bind<|wpAny_rule<|wpAny_bind<|wpAny_holding<|wpAny_mono hr (λ_ eE gU=>?_) λ_ _ h'=>h';obtain⟨m,hn,gU⟩:=gU;exact wpAny_bind (wpAny_comp_letGo (cenv:={ cenv with scope:=relabel scope env }) fz _ eE m nE hn λh' m' _ fE=>wpAny_pure<|gU h' fE)
 | error x=>
  have hr:∃m,s'.heap.Ns cenv.locals m/\∀h' m',h'.Ns cenv.locals m'->Heap.SameBut cenv.locals s'.heap h'->wpAny M A (PySem.passOn "comprehension.variables-let-go" x { cenv with scope:=relabel scope env }:Sem Value) (λ_ _=>False) E { s' with heap:=h' }:=by cases use <;>exact hr
  obtain⟨m,hn,hr⟩:=hr;exact wpAny_bind (wpAny_holding<|wpAny_comp_letGo (cenv:={ cenv with scope:=relabel scope env }) fz _ s' m hv hn λh' m' hm fE=>wpAny_mono (hr h' m' hm fE) (λ_ _ f=>f.elim) λ_ _ y=>y)
def AJ{base:Heap}{l:List Env}{e L:Addr}{cls a0:Value}{Q:Unit->Shared->Prop}(hh:Heap.HeldW base l e cls a0 L s.heap)
    (h:∀h',Heap.HeldW base l e cls a0 L h'->s.heap.UpToSlots h'->Q () { s with heap:=h' }):wpAny M A (setFlight (.ref e)<|some L) Q E s:=by
 obtain⟨wM,xa,hl,oe,vs,T,oT,ts,he,hG,hd,h1,nK,oj,hT,ka,h3⟩:=hh;have jL:3 < ts.size:=(Array.getElem?_eq_some_iff.mp h3).1;have dS:∀b,b≠T->(s.heap.update T (Obj.mapFields (·.setIfInBounds 3 ((some L:Option Addr).elim Value.none λf=>rawInt f)))).get? b=s.heap.get? b:=
  λb hb=>cq _ _ (Ne.symm hb)
 have fm:∀b o,s.heap.get? b=some o->(∀vs,o.data≠.fields vs)->b≠T:=λb o hb jQ q=>by
  rw[q,hT]at hb;injection hb with hb;subst hb;exact jQ ts ka
 unfold setFlight;show wpAny_bind<|wpAny_field he hd h1 ?_;rw[if_pos<|show(Value.ref T != Value.none)=true from by simp];show wpAny_setField hT ka jL (h _ ⟨(λb o oa=>(dS b λq=>by rw[q,nK]at oa;cases oa).trans<|wM b o oa),xa,
  (hl.of_keeps λb o hb jQ=>⟨o,(dS b<|fm b o hb jQ).trans hb,Y⟩),?_⟩ λb o hb jQ=>⟨o.slots,(dS b<|fm b o hb jQ).trans hb⟩)
 exact⟨oe,vs,T,zc ⟨(dS e<|Ne.symm oj).trans he,hG,hd,h1,nK,oj,cn _ hT<|Obj.isFreed_of_fields<|Obj.data_mapFields ka _,Obj.data_mapFields ka _,by simp[jL]⟩⟩
def Ll{α:Type}{mB:String}{cenv:Env}{base:Heap}{l:List Env}{e L:Addr}{cls a0:Value}{Q:α->Shared->Prop}(hf:cenv.frame=some L)(hh:Heap.HeldW base l e cls a0 L s.heap)
    (h:∀h',Heap.HeldW base l e cls a0 L h'->s.heap.UpToSlots h'->E (.ref e) { s with heap:=h' }):wpAny M A (PySem.passOn mB (.ref e) cenv:Sem α) Q E s:=by
 obtain⟨_,_,_,oe,vs,T,oT,ts,he,hG,hd,h1,nK,oj,hT,ka,h3⟩:=id hh;unfold PySem.passOn;show wpAny_bind<|wpAny_field he hd h1 ?_;rw[if_neg<|show ¬((Value.ref T == Value.none)=true)from by simp];rw[hf]
 first
 | exact wpAny_bind (AJ hh λh' k u=>wpAny_throw<|h h' k u)
 | exact wpAny_bind (wpAny_pure<|wpAny_bind<|AJ hh λh' k u=>wpAny_throw<|h h' k u)
end
theorem GP{h h' base:Heap}:∀{l:List Env},h.FunFrames base l->(∀b∈E2 l,∀o,h.get? b=some o->∃o',h'.get? b=some o'/\o'.data=o.data)->h'.FunFrames base l
 | [],_,_=>trivial
 | env::r,⟨k,⟨L,o,hf,hb,ho,hd⟩,t⟩,hm=>by
  obtain⟨o',e1,e2⟩:=hm L (by unfold E2;rw[bg,hf];exact aF) o ho;exact⟨k,⟨L,o',hf,hb,e1,λvs z=>hd vs<|e2▸z⟩,GP t λb fR=>hm b<|by unfold E2;rw[bg,hf];exact aG _ fR⟩
def EW{h:Heap}{a:Addr}{m:w1g}(n:h.Ns a m){o:Obj}(e:h.get? a=some o):∀vs,o.data≠.fields vs:=λvs z=>by
 obtain⟨o',es,ep,e',d',_⟩:=n;rw[e]at e';cases e';rw[d']at z;cases z
def Tf{X:Cx}{aS:w1e}{σ:St}{E:XK}{H2 Hs H':Hp}{s2 s s5:Shared}{a T C Cc:Addr}{ex:List Addr}{cenv:Env}{use:Option (Value->Sem Unit)}{Q:w1f}{dJ:Value}(R:Ks X E)(I2:j5 X aS σ H2 s2)
    (u:Un (E2 X.stack) ex H2 Hs s2.heap s.heap) (os:s.os=s2.os)
    (lh:∀b∈ex,(b∈X.ex\/X.s₀.heap.objs.size<=b)/\b≠X.env.locals/\(∀x c,X.env.cells.lookup x=some c->c≠b)/\∀p∈X.pn++aS,p.1≠b)
    {mC:w1g} (ns:s.heap.Ns Cc mC) (nC:s2.heap.get? Cc=none) (hC:Hs Cc=none) (fC:cenv.frame=X.env.frame) (lC:cenv.locals=Cc) (ff:s.heap.FunFrames X.base X.stack) (jt:∀b∈E2 X.stack,Hs b=none)
    (F:Ku X.prog X.w (E2 X.stack) Hs H' s s5 a T C) (q:E (.ref C) none H') :
    notedBy (model X.prog X.w) X.A cenv (λx eE=>Z4 (model X.prog X.w) X.A X.xe use Q dJ cenv (.error x) eE) (.ref a) s5:=by
 subst lC;have cf:cenv.locals ∉ E2 X.stack:=λhb=>by
  obtain⟨_,o,e,_⟩:=I2.stack.mem hb;rw[nC]at e;cases e
 have oB:s5.heap.FunFrames X.base X.stack:=GP ff λb hb o e=>by
  obtain⟨sl,e'⟩:=F.un.slot b o e (jt b hb) hb (by simp);exact⟨_,e',Y⟩
 have uU:s5.heap.Ns cenv.locals mC:=by obtain⟨o,es,ep,e,d,r⟩:=ns;exact⟨o,es,ep,F.un.keep _ o e hC cf (by simp),d,r⟩
 have xo:H' cenv.locals=none:=by obtain⟨o,es,ep,e,d,r⟩:=ns;exact F.un.free _ o e hC (by simp)
 have js:∀b∈E2 X.stack,H' b=none:=λb hb=>by
  obtain⟨_,o,e,_⟩:=ff.mem hb;exact F.un.free b o e (jt b hb) (by simp)
 have aC:cenv.locals≠a:=λz=>by
  obtain⟨o,es,ep,e,d,r⟩:=ns;rw[z,F.na]at e;cases e
 obtain⟨oe,vs,a0,oT,ts,e1,e2,e3,e4,e5,e6,e7,e8⟩:=F.xt;have fl:Heap.FlyingW (PySem.W.hideAll s5.heap (a::T::cenv.locals::E2 X.stack)) X.stack a (.ref C) a0 s5.heap:=
  ⟨λb o e=>cJ _ e,ba _ (by simp),Q2 oB λb hb=>ba _ (by simp[hb]),
   oe,vs,T,oT,ts,e1,e2,e3,e4,ba _ (by simp),e5,e6,e7,e8⟩
 have bC:(PySem.W.hideAll s5.heap (a::T::cenv.locals::E2 X.stack)).get? cenv.locals=none:=ba _ (by simp);have bG:∀b o,s5.heap.get? b=some o->b≠a->b≠T->b≠cenv.locals->b ∉ E2 X.stack->(PySem.W.hideAll s5.heap (a::T::cenv.locals::E2 X.stack)).get? b=some o:=λb o e n1 n2 n3 n4=>bT _ e (by simp[n1,n2,n3,n4]);revert fl bC bG;generalize PySem.W.hideAll s5.heap (a::T::cenv.locals::E2 X.stack)=B;intro fl bC bG;unfold notedBy;rw[JJ fC];rw[R.stk]at fl;show wpAny_looks_onW (I2.ok.frames.trans<|by rw[R.stk]) R.fr fl λh6 hh pe=>?_;rw[<- R.stk]at hh;have pD:=pe.ns uU;show⟨mC,pD,λh7 m7 uT sb=>?_⟩;have jw:∀b o,b≠cenv.locals->h6.get? b=some o->h7.get? b=some o:=λb o hn e=>sb.extBut b o hn e;have wV:Heap.HeldW B X.stack a (.ref C) a0 X.env.locals h7:=by obtain⟨k1,k2,k3,mR,kP,T',mT,mH,g1,g2,g3,g4,g0,g5,g6,g7,g8⟩:=hh;show⟨λb o e=>jw b o (λz=>by rw[z,bC]at e;cases e)<|k1 b o e,k2,GP k3 λb hb o e=>⟨o,jw b o (λz=>cf<|z▸hb) e,Y⟩,mR,kP,T',mT,mH,jw _ _ (Ne.symm aC) g1,g2,g3,g4,g0,g5,jw _ _ (λz=>?_) g6,g7,g8⟩;rw[z]at g6;exact EW pD g6 _ g7
 show Ll (s:={ s5 with heap:=h7 }) (fC.trans R.fr) wV λh8 pV pd=>?_;rw[R.xe];unfold leaving;show wpAny_bind<|wpAny_noteFrame_againW (s:={ s5 with heap:=h8 }) R.fr pV.2.2.2 ?_;show wpAny_landsW (s:={ s5 with heap:=h8 }) pV λh9 xx oZ=>?_;obtain⟨k1,_,_,mR,kP,T',mT,mH,g1,g2,g3,g4,g0,g5,g6,g7,g8⟩:=xx;have uS:=oZ.ns<|pd.ns uT;have keep:∀b o,s5.heap.get? b=some o->b≠a->b≠T->b≠cenv.locals->b ∉ E2 X.stack->h9.get? b=some o:=λb o e n1 n2 n3 n4=>k1 b o<|bG b o e n1 n2 n3 n4;have slot:∀b o,s5.heap.get? b=some o->b∈E2 X.stack->(∃sl,h9.get? b=some { o with slots:=sl })/\∀vs,o.data≠.fields vs:=λb o e hb=>by
  obtain⟨_,o1,q1,q2⟩:=oB.mem hb;rw[e]at q1;cases q1;obtain⟨xW,x6⟩:=pe b o e q2;have x7:=jw b _ (λz=>cf<|z▸hb) x6;obtain⟨xV,x8⟩:=pd b _ x7 q2;obtain⟨ux,x9⟩:=oZ b _ x8 q2;exact⟨⟨ux,x9⟩,q2⟩
 have TC:T'≠cenv.locals:=λz=>by
  rw[z]at g6;exact EW uS g6 _ g7
 have nf:T' ∉ E2 X.stack:=λhb=>by
  obtain⟨_,o1,q1,q2⟩:=oB.mem hb;obtain⟨⟨sl,q3⟩,_⟩:=slot _ o1 q1 hb;rw[g6]at q3;cases q3;exact q2 _ g7
 have tt:T'=T\/s5.heap.get? T'=none:=by
  by_cases z:T'=T
  . exact .inl z
  . right;cases q:s5.heap.get? T' with
    | none=>rfl
    | some o=>
     have:=bG T' o q g5 z TC nf;rw[g0]at this;cases this
 have om:H' T'=none:=by
  rcases tt with z | z
  . rw[z];exact F.hT
  . exact F.hok.nothing z
 have ne:∀b o,s.heap.get? b=some o->b≠a/\b≠T:=λb o e=>⟨(λz=>by rw[z,F.na]at e;cases e),(λz=>by rw[z,F.nT]at e;cases e)⟩;have fq:∀b o,s2.heap.get? b=some o->b≠cenv.locals:=λb o e z=>by rw[z,nC]at e;cases e
 have u5:Un (E2 X.stack) ex H2 H' s2.heap s5.heap:=u.trans (F.un.mono (λ_ h=>h)<|by simp);have u9:Un (E2 X.stack) ex H2 H' s2.heap h9:=by
  show⟨λb o e n hb hx=>?_,λb o e n hb hx=>?_,u5.free,λb o e hx=>?_,u5.tups,u5.frzs,u5.tbls⟩
  . have e':=u.keep b o e n hb hx;exact keep b o (u5.keep b o e n hb hx) (ne b o e').1 (ne b o e').2 (fq b o e) hb
  . obtain⟨sl,q⟩:=u5.slot b o e n hb hx;obtain⟨⟨gM,q'⟩,_⟩:=slot b _ q hb;exact⟨gM,q'⟩
  . obtain⟨os,qs⟩:=u.there b o e hx;obtain⟨o',q⟩:=u5.there b o e hx;by_cases hb:b∈E2 X.stack
    . obtain⟨⟨sl,q'⟩,_⟩:=slot b o' q hb;exact⟨_,q'⟩
    . exact⟨o',keep b o' q (ne b os qs).1 (ne b os qs).2 (fq b o e) hb⟩
 have jP:X7 X.prog X.w H' h9:=F.hok.loose λb v hb e=>keep b v e (λz=>hb<|z▸F.ha) (λz=>hb<|z▸F.hT) (λz=>hb<|z▸xo) λz=>hb<|js b z;have Ie:j5 X aS σ H' { s5 with heap:=h9 }:=I2.call' (s':={ s5 with heap:=h9 }) (ch:=ex) (F.os.trans os) u9 jP F.bare lh;have eZ:∀b,s.heap.get? b=none->X.s₀.heap.get? b=none:=λb n=>by
  cases q:X.s₀.heap.get? b with
  | none=>rfl
  | some o=>
   obtain⟨o',q'⟩:=I2.base.there b o q (by rw[R.ex];simp);have hx:b ∉ ex:=λhb=>by
    rcases(lh b hb).1 with z | z
    . rw[R.ex]at z;cases z
    . exact absurd (ao (af q) z) (aZ _)
   obtain⟨uR,jz⟩:=u.there b o' q' hx;rw[n]at jz;cases jz
 have uY:X.s₀.heap.get? T'=none:=by
  rcases tt with z | z
  . rw[z];exact eZ T F.nT
  . cases q:X.s₀.heap.get? T' with
    | none=>rfl
    | some o=>
     cases qs:s.heap.get? T' with
     | none=>rw[eZ T' qs]at q;cases q
     | some o'=>
      obtain⟨uR,jz⟩:=F.un.there T' o' qs (by simp);rw[z]at jz;cases jz
 have ub:Un (E2 X.outer) [] X.H₀ H' X.s₀.heap h9:=by have:=Ie.base;rw[R.ex]at this;exact this
 exact⟨a,T',C,H',Y,⟨Ie.os,F.bare,ub,jP,⟨mR,kP,a0,mT,mH,g1,g2,g3,g4,g5,g6,g7,g8⟩,eZ a F.na,uY,F.ha,om⟩,q⟩
def thnX{α:Type}{M:Model}{A:Around}{m:Sem α}{Q Q':α->Shared->Prop}{E E':w1f}{s:Shared}(h:wpAny M A m Q E s)(hE:∀e s',E e s'->E' e s')(k:∀v s',Q v s'->Q' v s'):wpAny M A m Q' E' s:=wpAny_mono h k hE
def NF{X:Cx}{E:XK}{tx:TX}{dF bY iter:Expr}{scope:Scope}{pos:Pos}{g:TG}{xs:w1i}(R:Ks X E)(hc:X.calm=true)(ok:N7 X.N X.env.scope scope)
    (hg:∀C s H fp pn,PG (o7 X scope xs C s H fp pn) bY g) (he:∀C s H fp pn,NQ (o7 X scope xs C s H fp pn) dF tx)
    {aS:w1e} {σ:St} {Q:VK} {s2:Shared} {it:Addr} {fp:List Addr} {tn:Nat->Heap->Prop} {J:It} {H2:Hp} (I2:j5 X aS σ H2 s2) (T:Ij X.prog X.w X.K bY J fp it tn) (dy:tn 0 s2.heap) (f2:∀b∈fp,R3 X aS H2 b)
    (h:Mj J xs.length g (λσ H Q=>tx σ H Q E) σ Q H2) {use:Option (Value->Sem Unit)} {Qv:w1f}
    (fL:∀D (ce:Env) s4 H' ys mm,s4.heap.Ns ce.locals mm->j5 X aS σ (upd H' D<|.lst ys) s4->R3 X aS H2 ce.locals->upd H' D (.lst ys) ce.locals=none->Q (.ref D) (upd H' D<|.lst ys)->Z4 (model X.prog X.w) X.A X.xe use Qv (.ref D) ce (.ok .next) s4) :
    wpAny (model X.prog X.w) X.A (newList []) (λdJ s₃=>wpAny (model X.prog X.w) X.A (newFunctionEnv scope X.env.globals (Z9 X.env.cells scope.names []) [] X.env.qual none Value.none<|some X.env) (λcenv s₄=>codeAny (model X.prog X.w) X.A (.compStart (.ListComp dF [⟨bY,iter,[],0⟩] scope pos) 0 (.ref it) dJ { cenv with scope:=relabel scope X.env }) (Z4 (model X.prog X.w) X.A X.xe use Qv dJ { cenv with scope:=relabel scope X.env }) s₄) X.xe s₃) X.xe s2:=by
 obtain⟨W,⟨m0,w0⟩,ej⟩:=h;show wpAny_newObj_type<|EY λh₁ dZ dX ee=>?_;dsimp only at dZ dX ee ⊢;generalize hD:s2.heap.objs.size=D;generalize iX:s2.heap.push { cls:=.type "list",dict:=none,data:=.seq ([]:w1j).toArray }=h3 at dZ dX ee ⊢;have gj:∀b o,s2.heap.get? b=some o->h3.get? b=some o:=λb o e=>iX▸ag _ e;have hC:h3.objs.size=D+1:=by rw[<- iX,aL,hD]
 have oN:h3.get? D=some { cls:=.type "list",dict:=none,data:=.seq ([]:w1j).toArray }:=by rw[<- iX,<- hD];exact ak _ rfl
 have I3:j5 X aS σ H2 { s2 with heap:=h3 }:=I2.kept (t':=s2.toks) gj;have fD:R3 X aS H2 D:=I2.fpOk Z<|I2.hok.fresh Z;have iI:∀b∈fp,b < D:=λb hb=>by
  obtain⟨o,e,_⟩:=T.obj 0 _ dy b hb;rw[<- hD];exact af e
 have f3:∀b∈D::fp,R3 X aS H2 b:=λb hb=>by
  rcases aw.mp hb with rfl | hb
  . exact fD
  . exact f2 b hb
 have jK:∀b∈D::fp,b < ({ s2 with heap:=h3 }:Shared).heap.objs.size:=λb hb=>by
  show b < h3.objs.size;rcases aw.mp hb with rfl | hb
  . rw[hC];exact bb _
  . rw[hC];exact bQ (iI b hb)
 have gR:∀b o,h3.get? b=some o->h₁.get? b=some o:=dX;have B3:=I3.baseAt f3;have gd:=Kj (C:=h3.objs.size) (xs:=xs) I3 B3 ok f3 jK<|ae _;have I4:=GW (C:=h3.objs.size) (xs:=xs) (t':=s2.toks+([]:List (Str × Value)).length) I3 B3 ok f3 jK (ae _) dZ gR ee;have mD:D∈D::fp:=aF;have fq:∀b∈D::fp,b≠h3.objs.size:=λb hb=>(gd.exf b hb).1;have eJ:∀{H':Hp} {pl:w1e},(∀b∈fp,H' b=none)->(∀p∈pl,p.1=D)->∀b∈fp,R3 (o7 X scope xs h3.objs.size { s2 with heap:=h3 } H2 (D::fp)<|X.pn++aS) pl H' b:=λhn fb b hb=>by
  have fR:b∈D::fp:=aG _ hb;show⟨hn b hb,fq b fR,gd.exfs b fR,.inl fR,(gd.exf b fR).2,λp hp=>?_⟩;rcases aJ.mp hp with hp | hp
  . exact(f2 b hb).2.2.2.2.2 p hp
  . rw[fb p hp];exact bO (iI b hb)
 have gi:codeAny (model X.prog X.w) X.A (.compLoop (.ListComp dF [⟨bY,iter,[],0⟩] scope pos) 0 (.ref it) (.ref D)<|compEnvC scope (Br X.env scope h3.objs.size) h3.objs.size X.env)
     (Z4 (model X.prog X.w) X.A X.xe use Qv (.ref D)<|compEnvC scope (Br X.env scope h3.objs.size) h3.objs.size X.env) { s2 with heap:=h₁,toks:=s2.toks+([]:List (Str × Value)).length }:=by
  show Ih (λn s'=>∃i ys dw k H',j5 (o7 X scope xs h3.objs.size { s2 with heap:=h3 } H2 (D::fp)<|X.pn++aS) [] (σ++List.replicate xs.length none) H' s'/\
   s'.heap.get? D=some { cls:=.type "list",data:=.seq (dw:w1j).toArray k }/\m9 ys dw/\H' D=none/\tn i s'.heap/\(∀b∈fp,H' b=none)/\W i n ys H') (λe s'=>∃pl σ',XP (o7 X scope xs h3.objs.size { s2 with heap:=h3 } H2 (D::fp)<|X.pn++aS) pl σ' E e s') ?_ ?_ m0
   ⟨0,[],[],_,H2,I4,gR _ _ oN,.nil,fD.1,T.keep _ _ _ dy<|λb _ o e=>gR b o<|gj b o e,λb hb=>(f2 b hb).1,w0⟩
  . rintro e s' ⟨pl,σ',sE,HE,IE,aE,yz,CE,yA,rfl,FE,qE⟩;obtain⟨mm,gw,_⟩:=IE.loc;have u0:Un (E2 X.stack) (D::fp) H2 HE h3 sE.heap:=IE.base;show Tf R I2 ((Un.kept gj).trans u0) IE.os (λb hb=>?_) gw ?_ IE.free rfl rfl IE.stack IE.stkFree FE qE
    . have z:=f3 b hb;exact⟨z.2.2.2.1,z.2.1,z.2.2.2.2.1,z.2.2.2.2.2⟩
    . show s2.heap.get? h3.objs.size=none;cases q:s2.heap.get? h3.objs.size with
      | none=>rfl
      | some o=>
       have z:h3.objs.size < s2.heap.objs.size:=af q;rw[hC,hD]at z;exact absurd z (Nat.not_lt.mpr<|aY D)
  rintro n s' ⟨i,ys,dw,k,H',I',eD,rv,nD,st,fr,w⟩;have Ip:=I'.pins_of (pins':=[(D,{ cls:=.type "list",data:=.seq dw.toArray k })]) λp hp=>by
   rw[aq]at hp;subst hp;exact⟨eD,nD,fq D mD,gd.exfs D mD,λv z=>by cases z⟩
  have one:∀p∈[(D,({ cls:=.type "list",data:=.seq dw.toArray k }:Obj))],p.1=D:=λp hp=>by rw[aq]at hp;rw[hp]
  rcases ej i n ys H' w with ⟨stop,hz,q⟩ | ⟨go,hz,step⟩
  . show B0 (T.done (o7 X scope xs h3.objs.size { s2 with heap:=h3 } H2 (D::fp)<|X.pn++aS) Y Y Y hc i _ s' _ H' (λ_ _=>False) Ip (eJ fr one) st stop) λr s4 ⟨hr,J4⟩=>?_;subst hr;obtain⟨mm,gw,_⟩:=J4.loc;obtain⟨oK,iH,_⟩:=J4.pin (D,{ cls:=.type "list",data:=.seq dw.toArray k })<|aA _ aF;have u0:Un (E2 X.stack) (D::fp) H2 H' h3 s4.heap:=J4.base;have u:Un (E2 X.stack) (D::fp) H2 H' s2.heap s4.heap:=(Un.kept gj).trans u0;have mP:s4.os=s2.os:=J4.os;have mY:H' h3.objs.size=none:=J4.free;have IX:j5 X aS σ (upd H' D<|.lst ys) s4:=I2.call' (s':=s4) (ch:=D::fp) mP (u.track Z iH) (J4.hok.track iH ⟨hz,dw,k,rv,oK⟩) J4.bare (λb hb=>by
     have z:=f3 b hb;exact⟨z.2.2.2.1,z.2.1,z.2.2.2.2.1,z.2.2.2.2.2⟩)
    have fC:R3 X aS H2 h3.objs.size:=I2.fpOk Z<|I2.hok.fresh Z;have gQ:upd H' D (.lst ys) h3.objs.size=none:=by rw[k8<|Ne.symm<|fq D mD];exact mY
    exact fL _ _ _ _ _ _ gw IX fC gQ (q D iH)
  . show B0 (T.item (o7 X scope xs h3.objs.size { s2 with heap:=h3 } H2 (D::fp)<|X.pn++aS) Y Y Y hc i _ s' _ H' (λ_ _=>False) Ip (eJ fr one) st go) λr s4 ⟨u,hr,h4⟩=>?_;subst hr;show B0 h4 λ_ s5 ⟨x,H5,I5,r5,y5,fU,fr5⟩=>?_;have kN:=I5.pinned (eJ fr5 one)<|T.obj _ _ fU;show B0 (hg _ _ _ _ _ _ s5 _ H5 x u _ kN r5<|step x H5 y5) λ_ s6 ⟨σ6,H6,I6,⟨zs,hz6,hl6⟩,q6⟩=>?_;show thnX (he _ _ _ _ _ _ s6 σ6 H6 _ _ I6 q6) (λ_ _ z=>zc z) λxv s7 ⟨v,H7,I7,r7,m',gy,w7⟩=>?_;obtain⟨ia,iG,_⟩:=I7.pin (D,{ cls:=.type "list",data:=.seq dw.toArray k })<|aA _<|bH _ aF;have len:=rv.length;show call_meets F.slot_list_append ⟨_,ia,Y⟩ F.entry_list_append (F.args_list_append_2 _ _) (PySem.list_append D dw.toArray k xv<|by rw[aj];omega) ⟨ia,?_⟩;have q:=PySem.IsL.update ia<|λa=>a.push xv;have dS:∀b o,b≠D->s7.heap.get? b=some o->(s7.heap.update D<|Obj.mapSeq λa=>a.push xv).get? b=some o:=λb o hb e=>(cq s7.heap _<|Ne.symm hb).trans e;have fG:∀b∈fp,∀o,s5.heap.get? b=some o->s7.heap.get? b=some o/\H7 b=none:=λb hb o e=>
     ⟨(I7.pin (b,o)<|aA _<|aA _<|P1 hb e).1,(I7.pin (b,o)<|aA _<|aA _<|P1 hb e).2.1⟩
    have oV:=I7.pins_of (pins':=[]) λp hp=>by cases hp
    have I8:=oV.turned (t':=s7.toks) (it:=D) dS iG (fq D mD) (.inl mD) (gd.exf D mD).2 (λp hp=>by
     rw[ck]at hp;exact fD.2.2.2.2.2 p hp)
    have I9:=I8.weak (σ':=σ++List.replicate xs.length none) (by rw[hz6,ar,ar,cP,hl6]) (λj v' e=>by
     have hj:j < σ.length:=by
      by_cases hj:j < σ.length
      . exact hj
      . rw[bc Z,cM]at e;split at e <;>cases e
     rw[aR hj]at e;rw[hz6,aR hj];exact e)
    have e9:dw.toArray.push xv=(dw++[xv]).toArray:=by simp
    rw[e9]at q;show⟨m',gy,i+1,ys++[v],dw++[xv],_,H7,I9,q,rv.append<|.cons r7 .nil,iG,T.keep _ _ _ fU<|λb hb o e=>dS b o (ai<|iI b hb) (fG b hb o e).1,λb hb=>?_,w7⟩;obtain⟨o,e,_⟩:=T.obj _ _ fU b hb;exact(fG b hb o e).2
 exact codeAny_compStart_list gi (T.self _ 0 _ _ _ (T.keep _ _ _ dy λb _ o e=>gR b o<|gj b o e) gi)
def Uo{X:Cx}{E:XK}{tx:TX}{i₀:Nat}{x₀:Str}{dC dH:Pos}{dF bY iter:Expr}{scope:Scope}{pos:Pos}{wi:TI}{g:TG}{xs:w1i}(R:Ks X E)(hN:X.N.Nodup)(eM:X.N[i₀]? = some x₀)(eK:Va X.env.scope x₀)(hc:X.calm=true)(ok:N7 X.N X.env.scope scope)(hi:PI X bY iter wi)
    (hg:∀C s H fp pn,PG (o7 X scope xs C s H fp pn) bY g) (he:∀C s H fp pn,NQ (o7 X scope xs C s H fp pn) dF tx)
    (hs:∀x,foldedSetIterable iter X.env x=pure x:=by intro _;rfl) (hw:swapsWith (.ListComp dF [⟨bY,iter,[],0⟩] scope pos) (some<|.Name x₀ dC) dH.line X.env=pure true:=by rfl)
    (eP:X.fn x₀=true\/X.env.scope.names.lookup x₀=some .local:=by first | exact .inl rfl | exact .inr rfl | assumption) :
    PS X (.Assign [.Name x₀ dC] (.ListComp dF [⟨bY,iter,[],0⟩] scope pos) dH) (MC (NY xs.length wi g λσ H Q=>tx σ H Q E)<|W3 i₀):=by
 intro aS s σ H D₀ I h;rw[exec_Assign_Name_used _ _ _ _ hw];show wpAny_bind<|wpAny_standAt<|wpAny_bind ?_;show wpAny _ _ (comprehension _ _ _ _ _ _ _ _ >>= _) _ _ _;show wpAny_bind<|AG (Q:=λ_ s'=>wpAny (model X.prog X.w) X.A (pure ()) (λ_ eE=>wpAny (model X.prog X.w) X.A (pure Flow.next) (SP X aS D₀) X.xe eE) X.xe s') (use:=some<|assign (.Name x₀ dC) X.env) Y hs (Bq<|Z0 I ok) ok.kind ok.names<|B0 (hi aS s σ H _ I h) λv s1 h1=>B0 h1 λjJ s2 h2=>?_;obtain⟨it,fp,tn,J,H2,rfl,I2,T,dy,f2,h⟩:=h2;show NF R hc ok hg he I2 T dy f2 h λD ce s4 H' ys mm gw IX fC gQ q=>?_;show wpAny_assign_Name (Ef IX hN eM eK (v:=.ref D) Y (λs5 I5 ⟨a5,sb5,oh⟩=>⟨mm,?_,λh' sb=>?_⟩) eP)
 . have:ce.locals≠a5:=by
    rcases oh with e | e
    . rw[e];exact fC.2.1
    . exact Ne.symm (fC.2.2.2.2.1 x₀ a5 e)
   obtain⟨o,es,ep,e,r⟩:=gw;exact⟨o,es,ep,sb5.extBut _ _ this e,r⟩
 . exact wpAny_pure (wpAny_pure ⟨_,_,I5.turned (t':=s5.toks) (it:=ce.locals) (λb o hb e=>sb.extBut b o hb e) gQ fC.2.1 fC.2.2.2.1 fC.2.2.2.2.1 fC.2.2.2.2.2,q⟩)
section
variable{prog:Program}{w:World}{A:Around}{E:w1f}{s:Shared}
def Nd{I t:Addr}{i:Nat}{vs:Array Value}{x:Value}{Q:w1f}(hI:s.heap.IsTupleIter I t i)(ht:s.heap.IsTuple t vs)(e:vs[i]? = some x)
    (q:∀h',h'.IsTupleIter I t (i+1)->Heap.SameBut I s.heap h'->Q x { s with heap:=h' }):wpAny (model prog w) A (Builtin.SmallTypes.nextOf<|.ref I) Q E s:=by
 obtain⟨o,eo,co,fo⟩:=id hI;obtain⟨u,eu,_,n,fu⟩:=ht;unfold Builtin.SmallTypes.nextOf;show wpAny_bind<|wpAny_callSpecial?_slot (name:=Str.ofString "__next__") hI.typeIs F.slot_tuple_iterator_next<|wpAny_call_entry F.slot_tuple_iterator_next hI.typeIs F.entry_tuple_iterator_next ?_<|F.args_tuple_iterator_next_1 _;show wpAny _ _ (field (.ref I) 0 >>= _) _ _ s;show wpAny_bind<|wpAny_field eo fo (x:=.ref t) Y ?_;show wpAny _ _ (if(Value.ref t == Value.none)=true then _ else _) _ _ s;rw[if_neg<|show ¬((Value.ref t == Value.none)=true)from ax];show wpAny _ _ (field (.ref I) 1 >>= _) _ _ s;show wpAny_bind<|wpAny_field eo fo (x:=.int i 0) Y ?_;show wpAny _ _ (seqItems? (.ref t) >>= _) _ _ s;show wpAny_bind<|wpAny_seqItems eu fu ?_;simp only[Int.toNat_natCast,e];show wpAny_bind (wpAny_setField eo fo (by simp)<|wpAny_pure ⟨x,Y,wpAny_pure<|q _ ?_<|Heap.SameBut.update ..⟩);exact⟨_,cn _ eo<|Obj.isFreed_of_fields<|Obj.data_mapFields fo _,(Obj.cls_mapFields ..).trans co,by rw[Obj.data_mapFields fo];simp[rawInt]⟩
def PU{I t:Addr}{i:Nat}{vs:Array Value}{Q:w1f}(hh:A.handled=none)(hI:s.heap.IsTupleIter I t i)(ht:s.heap.IsTuple t vs)(e:vs[i]? = none)
    (q:∀h' x,Heap.ExtBut I s.heap h'->(∃o,h'.get? x=some o/\o.cls=.type "StopIteration")->E (.ref x) { s with heap:=h' }):wpAny (model prog w) A (Builtin.SmallTypes.nextOf<|.ref I) Q E s:=by
 obtain⟨o,eo,co,fo⟩:=id hI;obtain⟨u,eu,_,n,fu⟩:=ht;unfold Builtin.SmallTypes.nextOf;show wpAny_bind<|wpAny_callSpecial?_slot (name:=Str.ofString "__next__") hI.typeIs F.slot_tuple_iterator_next<|wpAny_call_entry F.slot_tuple_iterator_next hI.typeIs F.entry_tuple_iterator_next ?_<|F.args_tuple_iterator_next_1 _;show wpAny _ _ (field (.ref I) 0 >>= _) _ _ s;show wpAny_bind<|wpAny_field eo fo (x:=.ref t) Y ?_;show wpAny _ _ (if(Value.ref t == Value.none)=true then _ else _) _ _ s;rw[if_neg<|show ¬((Value.ref t == Value.none)=true)from ax];show wpAny _ _ (field (.ref I) 1 >>= _) _ _ s;show wpAny_bind<|wpAny_field eo fo (x:=.int i 0) Y ?_;show wpAny _ _ (seqItems? (.ref t) >>= _) _ _ s;show wpAny_bind<|wpAny_seqItems eu fu ?_;simp only[Int.toNat_natCast,e];show wpAny_bind (wpAny_rule<|wpAny_bind<|wpAny_setField eo fo (by simp) ?_);show wpAny _ _ (newExc (.type "StopIteration") [] >>= _) _ _ _;show wpAny_bind ?_;simp only[newExc,newTuple];show wpAny_bind (wpAny_newObj_type ?_<|by size_fits);show wpAny_bind (m:=firstArgMember _ _) (wpAny_of_eq (a:=Value.none) (by first | rfl | (simp only[firstArgMember];rfl)) ?_);show wpAny_newObj_type ?_ (by size_fits);simp only[raiseNew];show wpAny_bind (wpAny_handled ?_)
 first | rw[show A.in1.handled=none from hh] | rw[hh]
 show wpAny_bind<|wpAny_pure<|wpAny_throw ?_;exact q _ _ (((Heap.SameBut.update ..).extBut.push _).push _) ⟨_,ak _ rfl,rfl⟩
end
inductive Sr
 | lst (a:Addr)
 | tup (a:Addr)
 | str (x:Str)
def Sr.it:Sr->Heap->Addr->Nat->Prop
 | .lst a,h,I,i=>h.IsListIter I a i
 | .tup a,h,I,i=>h.IsTupleIter I a i
 | .str x,h,I,i=>∃t,h.IsStrIter I (strIterType x) x t i
def Sr.has:Sr->Heap->Array Value->Prop
 | .lst a,h,vs=>h.IsList a vs
 | .tup a,h,vs=>h.IsTuple a vs
 | .str x,_,vs=>vs.size=x.cps.size
def Sr.is:Sr->Array Value->Nat->Value->Prop
 | .lst _,vs,i,v=>vs[i]? = some v
 | .tup _,vs,i,v=>vs[i]? = some v
 | .str x,_,i,v=>∃c u,x.cps[i]? = some c/\v=.str ⟨#[c]⟩ u
def Sr.fp:Sr->Addr->List Addr
 | .lst a,I=>[I,a]
 | .tup a,I=>[I,a]
 | .str _,I=>[I]
def Sr.off:Sr->Addr->Prop
 | .lst a,I=>a≠I
 | .tup a,I=>a≠I
 | .str _,_=>True
def Sr.fp_off{S:Sr}{I b:Addr}(h:S.off b)(hb:b≠I):b ∉ S.fp I:=by
 cases S <;>simp[Sr.fp,Sr.off]at h ⊢ <;>first | exact⟨hb,Ne.symm h⟩ | exact hb
def Sr.it.mv{S:Sr}{h h':Heap}{I:Addr}{i:Nat}(x:S.it h I i)(k:∀o,h.get? I=some o->h'.get? I=some o):S.it h' I i:=by
 cases S with
 | lst a=>obtain⟨o,e,r⟩:=x;exact⟨o,k o e,r⟩
 | tup a=>obtain⟨o,e,r⟩:=x;exact⟨o,k o e,r⟩
 | str z=>obtain⟨t,o,e,r⟩:=x;exact⟨t,o,k o e,r⟩
def Sr.it.obj{S:Sr}{h:Heap}{I:Addr}{i:Nat}(x:S.it h I i):∃o,h.get? I=some o/\∀v,o.data≠.cell v:=by
 cases S with
 | lst a=>obtain⟨o,e,_,d⟩:=x;exact⟨o,e,λv z=>by rw[d]at z;cases z⟩
 | tup a=>obtain⟨o,e,_,d⟩:=x;exact⟨o,e,λv z=>by rw[d]at z;cases z⟩
 | str z=>obtain⟨t,o,e,_,d⟩:=x;exact⟨o,e,λv z=>by rw[d]at z;cases z⟩
def Sr.has.mv{S:Sr}{h h':Heap}{vs:Array Value}{I:Addr}(x:S.has h vs)(k:∀b o,b≠I->h.get? b=some o->h'.get? b=some o)(off:S.off I):S.has h' vs:=by
 cases S with
 | lst a=>obtain⟨o,e,r⟩:=x;exact⟨o,k a o off e,r⟩
 | tup a=>obtain⟨o,e,r⟩:=x;exact⟨o,k a o off e,r⟩
 | str z=>exact x
def Sr.draws(S:Sr)(hh:A.handled=none)(I:Addr)(off:S.off I)(vs:Array Value) :
    Draws prog w A I (S.fp I) vs.size (S.is vs) (λi h=>S.it h I i/\S.has h vs):=by
 cases S with
 | lst a=>exact Draws.list hh I a off vs
 | tup a=>exact{
     live:=λ_ _ st=>let⟨o,e,_⟩:=st.1;⟨o,e⟩
     frame:=λ_ _ _ st k=>⟨let⟨o,e,r⟩:=st.1;⟨o,k I (by simp[Sr.fp]) o e,r⟩,let⟨o,e,r⟩:=st.2;⟨o,k a (by simp[Sr.fp]) o e,r⟩⟩
     item:=λi s Q E hi st q=>Nd st.1 st.2 (x:=vs[i]) (by simp[hi]) λh' a' b'=>q _ h' s.toks (show vs[i]? = some vs[i] by simp[hi]) ⟨a',Heap.IsTuple.extBut st.2 b'.extBut off⟩ b'
     done:=λs Q E st q=>PU hh st.1 st.2 (by simp) q }
 | str x=>
  cases ha:x.cps.all (· < 128)with
  | true=>
   have e:strIterType x="str_ascii_iterator":=by simp[strIterType,ha]
   exact{
    live:=λ_ _ st=>let⟨_,o,e,_⟩:=st.1;⟨o,e⟩
    frame:=λ_ _ _ st k=>⟨let⟨t,o,e,r⟩:=st.1;⟨t,o,k I (by simp[Sr.fp]) o e,r⟩,st.2⟩
    item:=λi s Q E hi st q=>by
     obtain⟨⟨t,g⟩,z⟩:=st;have hz:vs.size=x.cps.size:=z;rw[e]at g;exact(Draws.strAscii (prog:=prog) (w:=w) hh I x t).item i s Q E Z g λv h' tk p fh sb=>q v h' tk p ⟨⟨t,by rw[e];exact fh⟩,z⟩ sb
    done:=λs Q E st q=>by
     obtain⟨⟨t,g⟩,z⟩:=st;have hz:vs.size=x.cps.size:=z;rw[e,hz]at g;exact(Draws.strAscii (prog:=prog) (w:=w) hh I x t).done s Q E g q }
  | false=>
   have e:strIterType x="str_iterator":=by simp[strIterType,ha]
   exact{
    live:=λ_ _ st=>let⟨_,o,e,_⟩:=st.1;⟨o,e⟩
    frame:=λ_ _ _ st k=>⟨let⟨t,o,e,r⟩:=st.1;⟨t,o,k I (by simp[Sr.fp]) o e,r⟩,st.2⟩
    item:=λi s Q E hi st q=>by
     obtain⟨⟨t,g⟩,z⟩:=st;have hz:vs.size=x.cps.size:=z;rw[e]at g;exact(Draws.strWide (prog:=prog) (w:=w) hh I x t).item i s Q E Z g λv h' tk p fh sb=>q v h' tk p ⟨⟨t,by rw[e];exact fh⟩,z⟩ sb
    done:=λs Q E st q=>by
     obtain⟨⟨t,g⟩,z⟩:=st;have hz:vs.size=x.cps.size:=z;rw[e,hz]at g;exact(Draws.strWide (prog:=prog) (w:=w) hh I x t).done s Q E g q }
structure ZA(S1 S2:Sr)(z TI TO i1 i2:Addr):Prop where
 a:TI≠z
 b:TO≠z
 c:i1≠z
 d:i2≠z
 e:TI≠TO
 f:TI≠i1
 g:TI≠i2
 h:TO≠i1
 i:TO≠i2
 j:i1≠i2
 k:∀x∈[z,TO,i1,i2],S1.off x/\S2.off x
structure ZS(S1 S2:Sr)(v1 v2:Array Value)(z TI TO i1 i2:Addr)(n:Nat)(u:Value)(h:Heap):Prop where
 z:IsZip h z TI TO u
 ti:IsPair h TI (.ref i1) (.ref i2)
 to:∃x y,IsPair h TO x y
 s1:S1.it h i1 n
 s2:S2.it h i2 n
 h1:S1.has h v1
 h2:S2.has h v2
section
variable{prog:Program}{w:World}{A:Around}{E:w1f}{s:Shared}{S1 S2:Sr}{v1 v2:Array Value}{z TI TO i1 i2:Addr}{n:Nat}
def QP(D:ZA S1 S2 z TI TO i1 i2)(hh:A.handled=none)(a1d:ZS S1 S2 v1 v2 z TI TO i1 i2 n .none s.heap)(l1:n < v1.size)(l2:n < v2.size){Q:w1f}
    (q:∀x y h' tk,S1.is v1 n x->S2.is v2 n y->ZS S1 S2 v1 v2 z TI TO i1 i2 (n+1) (rawInt s.heap.objs.size) h'->IsPair h' s.heap.objs.size x y->h'.objs.size=s.heap.objs.size+1->
     (∀c o,c≠z->c≠TO->c≠i1->c≠i2->s.heap.get? c=some o->h'.get? c=some o)->Q (.ref s.heap.objs.size) { s with heap:=h',toks:=tk }) :
    wpAny (model prog w) A (Builtin.«zip.__next__» ⟨[.ref z],[]⟩) (λdW s'=>∃v,dW=.done (.ret v)/\Q v s') E s:=by
 obtain⟨hp,g0,d0,pj,uP⟩:=s;obtain⟨Zz,Zi,⟨x0,y0,Zo⟩,Z1,Z2,Y1,Y2⟩:=a1d;have oz:=D.k z (by simp);have oT:=D.k TO (by simp);have o1:=D.k i1 (by simp);have o2:=D.k i2 (by simp);show wpAny _ _ (field (.ref z) 2 >>= _) _ _ _;show wpAny_bind<|wpAny_field Zz Y (x:=.bool false) Y ?_;show wpAny _ _ (field (.ref z) 3 >>= _) _ _ _;show wpAny_bind<|wpAny_field Zz Y (x:=.ref TI) Y ?_;show wpAny_bind<|wpAny_seqItems Zi Y ?_;show wpAny _ _ (Builtin.SmallTypes.ownedTupleIsFree (.ref z) >>= _) _ _ _;show wpAny_bind ?_;unfold Builtin.SmallTypes.ownedTupleIsFree;show wpAny_bind<|wpAny_field Zz Y (x:=.none) Y<|wpAny_pure ?_;simp only[if_true];show wpAny_bind<|wpAny_rule ?_;show wpAny_bind<|wpAny_field Zz Y (x:=.ref TO) Y ?_;show wpAny_bind (wpAny_setField_rec Zz (by simp) λg1 Za b1=>?_)
 replace Za:IsZip g1 z TI TO .ellipsis:=Za
 replace b1:Heap.SameBut z hp g1:=b1
 show wpAny_bind ?_;simp only[List.zipIdx_cons,List.zipIdx_nil,List.forIn_cons,List.forIn_nil];show wpAny_bind<|wpAny_bind<|wpAny_onRaise ?_;show wpAny _ _ (Builtin.SmallTypes.nextOf (.ref i1) >>= _) _ _ _;show wpAny_bind ((S1.draws hh i1 o1.1 v1).item n _ _ _ l1 ⟨Z1.mv λo e=>b1.extBut _ _ D.c e,Y1.mv (λb o hb e=>b1.extBut _ _ hb e) oz.1⟩ λx g2 k2 px dy b2=>wpAny_pure ?_)
 replace b2:Heap.SameBut i1 g1 g2:=b2
 have kM:IsPair g2 TO x0 y0:=b2.extBut _ _ D.h<|b1.extBut _ _ D.b Zo;show wpAny_bind<|wpAny_seqItems kM Y ?_;show wpAny_bind (wpAny_updateSeq_pair kM λg3 lR b3=>?_)
 replace lR:IsPair g3 TO x y0:=lR
 replace b3:Heap.SameBut TO g2 g3:=b3
 show wpAny_bind<|wpAny_letGo<|wpAny_pure ?_;show wpAny_bind<|wpAny_bind<|wpAny_onRaise ?_;show wpAny _ _ (Builtin.SmallTypes.nextOf (.ref i2) >>= _) _ _ _;show wpAny_bind ((S2.draws hh i2 o2.2 v2).item n _ _ _ l2 ⟨Z2.mv λo e=>b3.extBut _ _ D.i.symm<|b2.extBut _ _ D.j.symm<|b1.extBut _ _ D.d e,
  ((Y2.mv (λb o hb e=>b1.extBut _ _ hb e) oz.2).mv (λb o hb e=>b2.extBut _ _ hb e) o1.2).mv (λb o hb e=>b3.extBut _ _ hb e) oT.2⟩ λy g4 k4 py pw b4=>wpAny_pure ?_)
 replace b4:Heap.SameBut i2 g3 g4:=b4
 have rS:IsPair g4 TO x y0:=b4.extBut _ _ D.i lR;show wpAny_bind<|wpAny_seqItems rS Y ?_;show wpAny_bind (wpAny_updateSeq_pair rS λg5 lQ b5=>?_)
 replace lQ:IsPair g5 TO x y:=lQ
 replace b5:Heap.SameBut TO g4 g5:=b5
 show wpAny_bind<|wpAny_letGo<|wpAny_pure<|wpAny_pure ?_;show wpAny_bind<|wpAny_seqItems lQ Y ?_;show wpAny_bind<|wpAny_newTuple ?_;have sz:g5.objs.size=hp.objs.size:=by rw[b5.1,b4.1,b3.1,b2.1,b1.1]
 have Z5:IsZip g5 z TI TO .ellipsis:=b5.extBut _ _ D.b.symm<|b4.extBut _ _ D.d.symm<|b3.extBut _ _ D.b.symm<|b2.extBut _ _ D.c.symm Za;have pf:∀c o,c≠z->c≠TO->c≠i1->c≠i2->hp.get? c=some o->g5.get? c=some o:=λc o n1 n2 n3 n4 e=>b5.extBut _ _ n2<|b4.extBut _ _ n4<|b3.extBut _ _ n2<|b2.extBut _ _ n3<|b1.extBut _ _ n1 e;have I1:S1.it g5 i1 (n+1):=dy.1.mv λo e=>b5.extBut _ _ D.h.symm<|b4.extBut _ _ D.j<|b3.extBut _ _ D.h.symm e;have I2:S2.it g5 i2 (n+1):=pw.1.mv λo e=>b5.extBut _ _ D.i.symm e;have H1:S1.has g5 v1:=((dy.2.mv (λb o hb e=>b3.extBut _ _ hb e) oT.1).mv (λb o hb e=>b4.extBut _ _ hb e) o2.1).mv (λb o hb e=>b5.extBut _ _ hb e) oT.1;have H2:S2.has g5 v2:=pw.2.mv (λb o hb e=>b5.extBut _ _ hb e) oT.2;have oW:z < g5.objs.size:=af Z5;show wpAny _ _ (Builtin.SmallTypes.ownedTupleHandOut (.ref z) (.ref g5.objs.size) >>= _) _ _ _;show wpAny_bind ?_;unfold Builtin.SmallTypes.ownedTupleHandOut;have Z6:IsZip (g5.push { cls:=.type "tuple",data:=.seq #[x,y] }) z TI TO .ellipsis:=ag _ Z5;show wpAny_bind (wpAny_setField_rec Z6 (by simp) λg7 Z7 b7=>?_)
 replace Z7:IsZip g7 z TI TO (rawInt g5.objs.size):=Z7
 show wpAny_setField_rec Z7 (by simp) λg8 Z8 b8=>?_
 replace Z8:IsZip g8 z TI TO (rawInt g5.objs.size):=Z8
 have up:∀c o,c≠z->g5.get? c=some o->g8.get? c=some o:=λc o n1 e=>b8.extBut _ _ n1<|b7.extBut _ _ n1<|ag _ e;have T8:IsPair g8 g5.objs.size x y:=b8.extBut _ _ (bO oW)<|b7.extBut _ _ (bO oW)<|ak _ Y;have pq:g8.objs.size=g5.objs.size+1:=by rw[b8.1,b7.1,aL]
 rw[sz]at Z8 T8 pq;show wpAny_pure ⟨_,Y,?_⟩;show Q (.ref g5.objs.size) _;rw[sz];exact q x y g8 k4 px py ⟨Z8,up _ _ D.a<|pf _ _ D.a D.e D.f D.g Zi,⟨_,_,up _ _ D.b lQ⟩,I1.mv λo e=>up _ o D.c e,I2.mv λo e=>up _ o D.d e,
  H1.mv (λb o hb e=>up b o hb e) oz.1,H2.mv (λb o hb e=>up b o hb e) oz.2⟩ T8 pq λc o n1 n2 n3 n4 e=>up c o n1 (pf c o n1 n2 n3 n4 e)
def Ts(D:ZA S1 S2 z TI TO i1 i2)(hh:A.handled=none)(a1d:ZS S1 S2 v1 v2 z TI TO i1 i2 n .none s.heap)(l:n=v1.size\/(n < v1.size/\n=v2.size)){Q:Fin->Shared->Prop}
    (q:∀h' x tk,(∀c o,c≠z->c≠TO->c≠i1->c≠i2->s.heap.get? c=some o->h'.get? c=some o)->(∃o,h'.get? x=some o/\o.cls=.type "StopIteration")->E (.ref x) { s with heap:=h',toks:=tk }) :
    wpAny (model prog w) A (Builtin.«zip.__next__» ⟨[.ref z],[]⟩) Q E s:=by
 obtain⟨hp,g0,d0,pj,uP⟩:=s;obtain⟨Zz,Zi,⟨x0,y0,Zo⟩,Z1,Z2,Y1,Y2⟩:=a1d;have oz:=D.k z (by simp);have oT:=D.k TO (by simp);have o1:=D.k i1 (by simp);have o2:=D.k i2 (by simp);show wpAny _ _ (field (.ref z) 2 >>= _) _ _ _;show wpAny_bind<|wpAny_field Zz Y (x:=.bool false) Y ?_;show wpAny _ _ (field (.ref z) 3 >>= _) _ _ _;show wpAny_bind<|wpAny_field Zz Y (x:=.ref TI) Y ?_;show wpAny_bind<|wpAny_seqItems Zi Y ?_;show wpAny _ _ (Builtin.SmallTypes.ownedTupleIsFree (.ref z) >>= _) _ _ _;show wpAny_bind ?_;unfold Builtin.SmallTypes.ownedTupleIsFree;show wpAny_bind<|wpAny_field Zz Y (x:=.none) Y<|wpAny_pure ?_;simp only[if_true];show wpAny_bind<|wpAny_rule ?_;show wpAny_bind<|wpAny_field Zz Y (x:=.ref TO) Y ?_;show wpAny_bind (wpAny_setField_rec Zz (by simp) λg1 Za b1=>?_)
 replace Za:IsZip g1 z TI TO .ellipsis:=Za
 replace b1:Heap.SameBut z hp g1:=b1
 show wpAny_bind ?_;simp only[List.zipIdx_cons,List.zipIdx_nil,List.forIn_cons,List.forIn_nil];have W1:S1.it g1 i1 n/\S1.has g1 v1:=⟨Z1.mv λo e=>b1.extBut _ _ D.c e,Y1.mv (λb o hb e=>b1.extBut _ _ hb e) oz.1⟩;show wpAny_bind<|wpAny_bind<|wpAny_onRaise ?_;show wpAny _ _ (Builtin.SmallTypes.nextOf (.ref i1) >>= _) _ _ _;rcases l with l | ⟨l1,l2⟩
 . show wpAny_bind<|(S1.draws hh i1 o1.1 v1).done _ _ _ (l▸W1) λg2 x b2 ⟨ox,ex,cx⟩=>?_;have Zb:IsZip g2 z TI TO .ellipsis:=b2 _ _ D.c.symm Za;have xz:x≠z:=λe=>by subst e;rw[Zb]at ex;cases ex;simp at cx
   show wpAny_setField_rec Zb (by simp) λg3 _ b3=>q g3 x pj (λc o n1 _ n3 _ e=>b3.extBut _ _ n1<|b2 _ _ n3<|b1.extBut _ _ n1 e) ⟨ox,b3.extBut _ _ xz ex,cx⟩
 . show wpAny_bind ((S1.draws hh i1 o1.1 v1).item n _ _ _ l1 W1 λx g2 k2 px dy b2=>wpAny_pure ?_)
   replace b2:Heap.SameBut i1 g1 g2:=b2
   have kM:IsPair g2 TO x0 y0:=b2.extBut _ _ D.h<|b1.extBut _ _ D.b Zo;show wpAny_bind<|wpAny_seqItems kM Y ?_;show wpAny_bind (wpAny_updateSeq_pair kM λg3 lR b3=>?_)
   replace b3:Heap.SameBut TO g2 g3:=b3
   show wpAny_bind<|wpAny_letGo<|wpAny_pure ?_;show wpAny_bind<|wpAny_bind<|wpAny_onRaise ?_;show wpAny _ _ (Builtin.SmallTypes.nextOf (.ref i2) >>= _) _ _ _;show wpAny_bind ((S2.draws hh i2 o2.2 v2).done _ _ _ (l2▸⟨Z2.mv λo e=>b3.extBut _ _ D.i.symm<|b2.extBut _ _ D.j.symm<|b1.extBut _ _ D.d e,
    ((Y2.mv (λb o hb e=>b1.extBut _ _ hb e) oz.2).mv (λb o hb e=>b2.extBut _ _ hb e) o1.2).mv (λb o hb e=>b3.extBut _ _ hb e) oT.2⟩) λg4 x' b4 ⟨ox,ex,cx⟩=>?_)
   have Zb:IsZip g4 z TI TO .ellipsis:=b4 _ _ D.d.symm<|b3.extBut _ _ D.b.symm<|b2.extBut _ _ D.c.symm Za;have xz:x'≠z:=λe=>by subst e;rw[Zb]at ex;cases ex;simp at cx
   show wpAny_setField_rec Zb (by simp) λg5 _ b5=>q g5 x' k2 (λc o n1 n2 n3 n4 e=>b5.extBut _ _ n1<|b4 _ _ n4<|b3.extBut _ _ n2<|b2.extBut _ _ n3<|b1.extBut _ _ n1 e) ⟨ox,b5.extBut _ _ xz ex,cx⟩
end
def NV(h:Heap)(v:Value)(o:Obj):Prop:=∀(prog:Program) (w:World) (A:Around) (E:w1f) (s:Shared) (Q:w1f),(∀b u,h.get? b=some u->s.heap.get? b=some u)->
 Q (.ref s.heap.objs.size) { s with heap:=s.heap.push o }->wpAny (model prog w) A (pyIter v) Q E s
def Sr.val:Sr->Value->Prop
 | .lst a,v=>v=.ref a
 | .tup a,v=>v=.ref a
 | .str x,v=>∃t,v=.str x t
def Sr.begins{S:Sr}{h:Heap}{v:Value}{vs:Array Value}(e:S.val v)(x:S.has h vs):∃o:Obj,NV h v o/\o.isFreed=false/\∀(h':Heap) (I:Addr),h'.get? I=some o->S.it h' I 0:=by
 cases S with
 | lst a=>
  cases (show v=.ref a from e);exact⟨_,λ_ _ _ _ s Q k q=>wpAny_pyIter_list (let⟨o,e,r⟩:=x;⟨o,k a o e,r⟩) q,Y,λh' I e=>⟨_,e,Y,Y⟩⟩
 | tup a=>
  cases (show v=.ref a from e);exact⟨_,λ_ _ _ _ s Q k q=>wpAny_pyIter_tuple (let⟨o,e,r⟩:=x;⟨o,k a o e,r⟩) q,Y,λh' I e=>⟨_,e,Y,Y⟩⟩
 | str z=>
  obtain⟨t,rfl⟩:=(show ∃t,v=.str z t from e);exact⟨_,λ_ _ _ _ s Q k q=>wpAny_pyIter_strU q,Y,λh' I e=>⟨t,_,e,Y,Y⟩⟩
abbrev zh2(h:Heap)(o1 o2:Obj):Heap:=(h.push o1).push o2
abbrev zh3(h:Heap)(o1 o2:Obj):Heap:=(zh2 h o1 o2).push { cls:=.type "tuple",data:=.seq #[.ref h.objs.size,.ref (h.push o1).objs.size] }
abbrev zh4(h:Heap)(o1 o2:Obj):Heap:=(zh3 h o1 o2).push { cls:=.type "tuple",data:=.seq #[.none,.none] }
abbrev Vc(h:Heap)(o1 o2:Obj):Heap:=(zh4 h o1 o2).push { cls:=.type "zip",data:=.fields #[.none,.bool false,.bool false,.ref (zh2 h o1 o2).objs.size,.ref (zh3 h o1 o2).objs.size] }
def Tr(a b:Value)(o1 o2:Obj):Meets (Builtin.«zip.__new__» ⟨[.type "zip",a,b],[]⟩) (λ_ R s=>NV s.heap a o1/\NV s.heap b o2/\
      R (.ok<|.ret<|.ref (zh4 s.heap o1 o2).objs.size) { s with heap:=Vc s.heap o1 o2 }):=
 .of_wp λprog w A R s h=>by
  obtain⟨hp,g,d,tk,os⟩:=s;obtain⟨h1,h2,h⟩:=h;have gk:=sub_zip;have k1:∀{A':Around} {E':w1f} {Q:w1f},Q (.ref (Shared.heap ⟨hp,g,d,tk,os⟩).objs.size) ⟨hp.push o1,g,d,tk,os⟩->wpAny (model prog w) A' (pyIter a) Q E' ⟨hp,g,d,tk,os⟩:=λq=>h1 _ _ _ _ _ _ (λ_ _ e=>e) q;have k2:∀{A':Around} {E':w1f} {Q:w1f},Q (.ref (Shared.heap ⟨hp.push o1,g,d,tk,os⟩).objs.size) ⟨(hp.push o1).push o2,g,d,tk,os⟩->wpAny (model prog w) A' (pyIter b) Q E' ⟨hp.push o1,g,d,tk,os⟩:=λq=>h2 _ _ _ _ _ _ (λ_ _ e=>ag _ e) q
  wp_walk using k1,k2
  exact⟨_,Y,h⟩
def Th{prog:Program}{w:World}{A:Around}{E:w1f}{s:Shared}{S1 S2:Sr}{v1 v2:Array Value}{a b:Value}{Q:w1f}(e1:S1.val a)(e2:S2.val b)(x1:S1.has s.heap v1)(x2:S2.has s.heap v2)
    (q:∀h',ZS S1 S2 v1 v2 (s.heap.objs.size+4) (s.heap.objs.size+2) (s.heap.objs.size+3) s.heap.objs.size (s.heap.objs.size+1) 0 .none h'->ZA S1 S2 (s.heap.objs.size+4) (s.heap.objs.size+2) (s.heap.objs.size+3) s.heap.objs.size (s.heap.objs.size+1)->
     (∀c o,s.heap.get? c=some o->h'.get? c=some o)->Q (.ref<|s.heap.objs.size+4) { s with heap:=h' }):wpAny (model prog w) A (call (.type "zip") [a,b]) Q E s:=by
 obtain⟨o1,B1,f1,I1⟩:=Sr.begins e1 x1;obtain⟨o2,B2,f2,I2⟩:=Sr.begins e2 x2;show callType_new F.called_zip bD (F.typeCall_zip_2 _ _) (F.newCall_zip_2 _ _) (λobj=>F.args_object_init_3 obj _ _) F.entry_zip_new (Tr a b o1 o2) ⟨B1,B2,?_⟩;have y1:(s.heap.push o1).objs.size=s.heap.objs.size+1:=aL ..;have y2:(zh2 s.heap o1 o2).objs.size=s.heap.objs.size+2:=by rw[aL,y1]
 have y3:(zh3 s.heap o1 o2).objs.size=s.heap.objs.size+3:=by rw[aL,y2]
 have y4:(zh4 s.heap o1 o2).objs.size=s.heap.objs.size+4:=by rw[aL,y3]
 have g5:(Vc s.heap o1 o2).get? (zh4 s.heap o1 o2).objs.size=some _:=ak _ rfl;have g4:(Vc s.heap o1 o2).get? (zh3 s.heap o1 o2).objs.size=some _:=ag _<|ak _ Y;have g3:(Vc s.heap o1 o2).get? (zh2 s.heap o1 o2).objs.size=some _:=ag _<|ag _<|ak _ Y;have g2:(Vc s.heap o1 o2).get? (s.heap.push o1).objs.size=some o2:=ag _<|ag _<|ag _<|ak _ f2;have g1:(Vc s.heap o1 o2).get? s.heap.objs.size=some o1:=ag _<|ag _<|ag _<|ag _<|ak _ f1;have up:∀c o,s.heap.get? c=some o->(Vc s.heap o1 o2).get? c=some o:=λc o x=>ag _<|ag _<|ag _<|ag _<|ag _ x;have off:∀{S:Sr} {vs:Array Value} (k:Nat),S.has s.heap vs->S.off (s.heap.objs.size+k):=λ{S vs} k x=>by
  cases S with
  | lst a=>obtain⟨o,e,_⟩:=x;exact ai (ao (af e)<|cW _ k)
  | tup a=>obtain⟨o,e,_⟩:=x;exact ai (ao (af e)<|cW _ k)
  | str z=>exact trivial
 have keep:∀{S:Sr} {vs:Array Value},S.has s.heap vs->S.has (Vc s.heap o1 o2) vs:=λ{S vs} x=>by
  cases S with
  | lst a=>obtain⟨o,e,r⟩:=x;exact⟨o,up _ _ e,r⟩
  | tup a=>obtain⟨o,e,r⟩:=x;exact⟨o,up _ _ e,r⟩
  | str z=>exact x
 show _/\_;rw[y2,y3,y4]at g5;rw[y1,y2]at g3;rw[y3]at g4;rw[y1]at g2;rw[y4];show⟨⟨_,g5,Y⟩,q _ ⟨g5,g3,⟨_,_,g4⟩,I1 _ _ g1,I2 _ _ g2,keep x1,keep x2⟩ ?_ up⟩;have ne:∀i j:Nat,i≠j->s.heap.objs.size+i≠s.heap.objs.size+j:=λi j hn h=>hn<|Nat.add_left_cancel h;show⟨ne 2 4 bD,ne 3 4 bD,ne 0 4 bD,ne 1 4 bD,ne 2 3 bD,ne 2 0 bD,ne 2 1 bD,ne 3 0 bD,ne 3 1 bD,ne 0 1 bD,λx hx=>?_⟩;simp only[aw,bq,or_false]at hx;rcases hx with rfl | rfl | rfl | rfl
 . exact⟨off 4 x1,off 4 x2⟩
 . exact⟨off 3 x1,off 3 x2⟩
 . exact⟨off 0 x1,off 0 x2⟩
 . exact⟨off 1 x1,off 1 x2⟩
abbrev YQ(l:Addr):Obj:={ cls:=.type "tuple_iterator",data:=.fields #[.ref l,.int 0 0] }
abbrev enO(i:Addr):Obj:={ cls:=.type "enumerate",data:=.fields #[.none,.bool false,.ref i,rawInt 0,.none,.none] }
def QE(l:Addr)(vs:Array Value)(n:Nat)(oQ:Option Addr)(sl:Array (Option Value)) :
    Meets (Builtin.«enumerate.__new__» ⟨[.type "enumerate",.ref l],[]⟩) (λ_ R s=>s.heap.get? l=some { cls:=.type "tuple",dict:=oQ,data:=.seq vs n,slots:=sl }/\
     R (.ok<|.ret<|.ref (s.heap.push<|YQ l).objs.size) { s with heap:=(s.heap.push<|YQ l).push (enO s.heap.objs.size) }):=
 .of_wp λprog w A R s h=>by
  obtain⟨hp,g,d,tk,os⟩:=s;obtain⟨hl,h⟩:=h;have gk:=sub_enumerate;have hL:Heap.IsTuple (Shared.heap ⟨hp,g,d,tk,os⟩) l vs:=⟨_,hl,Y,n,Y⟩
  wp_walk using AutoSeq1.wpAny_loadPart' hl
  show wpAny_stack_any λst=>wpAny_pure ?_;split
  . rename_i c _ _ _ _ _;cases (c == Value.type "enumerate")
    . wp_walk using AutoSeq1.wpAny_loadPart' hl,wpAny_pyIter_tuple hL;exact⟨_,Y,h⟩
    . wp_walk using AutoSeq1.wpAny_loadPart' hl,wpAny_pyIter_tuple hL;exact⟨_,Y,h⟩
  . wp_walk using AutoSeq1.wpAny_loadPart' hl,wpAny_pyIter_tuple hL;exact⟨_,Y,h⟩
def NK{prog:Program}{w:World}{A:Around}{E:w1f}{s:Shared}{l:Addr}{vs:Array Value}{Q:w1f}(hL:s.heap.IsTuple l vs)
    (h:∀h',IsEnum h' (s.heap.objs.size+1) s.heap.objs.size 0 .none->h'.IsTupleIter s.heap.objs.size l 0->(∀b o,s.heap.get? b=some o->h'.get? b=some o)->Q (.ref<|s.heap.objs.size+1) { s with heap:=h' }) :
    wpAny (model prog w) A (call (.type "enumerate") [.ref l]) Q E s:=by
 obtain⟨⟨c,oQ,dt,sl⟩,hl,hc,n,hd⟩:=hL
 replace hc:c=.type "tuple":=hc;replace hd:dt=.seq vs n:=hd;subst hc hd
 show callType_new F.called_enumerate bD (F.typeCall_enumerate_1 _) (F.newCall_enumerate_1 _) (λobj=>F.args_object_init_2 obj _) F.entry_enumerate_new (QE l vs n oQ sl) ⟨hl,?_⟩;have hz:(s.heap.push<|YQ l).objs.size=s.heap.objs.size+1:=aL ..;show _/\_;rw[hz];have he:IsEnum ((s.heap.push<|YQ l).push<|enO s.heap.objs.size) (s.heap.objs.size+1) s.heap.objs.size 0 .none:=by have:=ak (s.heap.push<|YQ l) (o:=enO s.heap.objs.size) rfl;rw[hz]at this;exact this
 exact⟨⟨_,he,Y⟩,h _ he ⟨_,ag _<|ak _ Y,Y,Y⟩ λb o x=>ag _<|ag _ x⟩
def QJ{prog:Program}{w:World}{A:Around}{E:w1f}{s:Shared}{S:Sr}{vs:Array Value}{v:Value}{Q:w1f}(e:S.val v)(x:S.has s.heap vs)
    (h:∀h',IsEnum h' (s.heap.objs.size+1) s.heap.objs.size 0 .none->S.it h' s.heap.objs.size 0->(∀b o,s.heap.get? b=some o->h'.get? b=some o)->Q (.ref<|s.heap.objs.size+1) { s with heap:=h' }) :
    wpAny (model prog w) A (call (.type "enumerate") [v]) Q E s:=by
 cases S with
 | lst a=>cases (show v=.ref a from e);exact call_enumerate_list x λh' a b _ c=>h h' a b c
 | tup a=>cases (show v=.ref a from e);exact NK x h
 | str z=>obtain⟨t,rfl⟩:=(show ∃t,v=.str z t from e);exact call_enumerate_str λh' a b _ c=>h h' a ⟨t,b⟩ c
section
variable{X:Cx}{aS:w1e}{σ:St}{H:Hp}{s:Shared}{h':Heap}
def j5.turneds{t':Nat}{ch:List Addr}(I:j5 X aS σ H s)(k:∀b o,b ∉ ch->s.heap.get? b=some o->h'.get? b=some o)(hf:∀b∈ch,R3 X aS H b):j5 X aS σ H { s with heap:=h',toks:=t' }:=by
 have jC:∀b u,H b=some u->b ∉ ch:=λb u e z=>by rw[(hf b z).1]at e;cases e
 show I.step (g':=s.gens) (d':=s.drawn) (ch:=ch) (λb hb=>?_) (λb o _ _ hc e _=>k b o hc e) (λb o _ _ hc e _=>⟨o.slots,k b o hc e⟩) (λ_ _ _ _ n=>n) (λb o hc e=>⟨o,k b o hc e⟩) (λ_ _ e=>e) (λ_ _ _ e=>e)
  (λb ps e=>⟨#[],by rw[e];simp⟩) (λm hm=>?_) (λb u e=>?_) I.bare
 . obtain⟨f0,f1,f2,f3,f4,f5⟩:=hf b hb;exact⟨f3,f1,f4,f5⟩
 . obtain⟨o,es,ep,ho,r⟩:=hm;exact⟨o,es,ep,k _ o (λz=>(hf _ z).2.1 Y) ho,r⟩
 . show(I.hok b u e).stay (λc v hc q=>k c v ?_ q) (λ_ q=>q) λ_ _ q=>q;rcases hc with z | z
   . rw[z];exact jC b u e
   . exact jC c _ z
theorem j5.track(I:j5 X aS σ H s)(hs:X.s₀.heap.objs.size<=a)(f:R3 X aS H a)(new:D1 X.prog X.w (upd H a o) s.heap a o):j5 X aS σ (upd H a o) s:=
 ⟨I.ok,I.os,I.bare,I.base.track hs f.1,I.loc,I.cell,by rw[k8<|Ne.symm f.2.1];exact I.free,λx c e=>by rw[k8<|f.2.2.2.2.1 x c e];exact I.freeC x c e,λp hp=>by
  obtain⟨e,n,r⟩:=I.pin p hp;exact⟨e,by rw[k8<|f.2.2.2.2.2 p hp];exact n,r⟩,I.hok.track f.1 new,I.len⟩
end
def Cg(x:Str):List V:=x.cps.toList.map λc=>V.str ⟨#[c]⟩
def Sr.vals(K:aa)(H:Hp):Sr->List V->Prop
 | .lst a,xs=>y7 K H a xs
 | .tup a,xs=>j3 K H a xs
 | .str x,xs=>xs=Cg x
def Sr.ofV:Sr->V->Prop
 | .lst a,v=>v=.ref a
 | .tup a,v=>v=.ref a
 | .str x,v=>v=.str x
section
variable{X:Cx}{aS:w1e}{σ:St}{H:Hp}{s:Shared}{S:Sr}{xs ys:List V}
theorem Sr.vals.get(I:j5 X aS σ H s)(h:S.vals X.K H xs):∃vs,S.has s.heap vs/\vs.size=xs.length/\∀i x v,xs[i]? = some x->S.is vs i v->w8 x v:=by
 cases S with
 | lst a=>
  obtain⟨dw,rv,p,hz⟩:=I.list h;show⟨dw.toArray,p.isList,by have:=rv.length;simp;omega,λi x v e1 e2=>?_⟩;obtain⟨u,hu,ru⟩:=rv.get e1;have e2:dw.toArray[i]? = some v:=e2;rw[List.getElem?_toArray,hu]at e2;cases e2;exact ru
 | tup a=>
  obtain⟨dw,rv,p,hz⟩:=I.tuple h;show⟨dw.toArray,(show s.heap.IsTuple a dw.toArray from p),by have:=rv.length;simp;omega,λi x v e1 e2=>?_⟩;obtain⟨u,hu,ru⟩:=rv.get e1;have e2:dw.toArray[i]? = some v:=e2;rw[List.getElem?_toArray,hu]at e2;cases e2;exact ru
 | str z=>
  cases (show xs=Cg z from h);show⟨Array.replicate z.cps.size .none,by show(Array.replicate _ _).size=_;simp,by simp[Cg],λi x v e1 e2=>?_⟩;obtain⟨c,u,ec,rfl⟩:=(show ∃c u,z.cps[i]? = some c/\v=.str ⟨#[c]⟩ u from e2);have:(Cg z)[i]? = some (V.str ⟨#[c]⟩):=by simp[Cg,ec]
  rw[this]at e1;cases e1;exact⟨u,Y⟩
def Sr.vals.inj(I:j5 X aS σ H s)(h:S.vals X.K H xs)(h':S.vals X.K H ys):xs=ys:=by
 cases S with
 | lst a=>exact I.list_inj h h'
 | tup a=>exact I.tuple_inj h h'
 | str z=>exact(show xs=Cg z from h).trans (show ys=Cg z from h').symm
theorem Sr.ofV.val(e:S.ofV x)(r:w8 x u):S.val u:=by
 cases S with
 | lst a=>cases (show x=.ref a from e);exact r
 | tup a=>cases (show x=.ref a from e);exact r
 | str z=>cases (show x=.str z from e);exact r
end
def n0h(K:aa)(S1 S2:Sr):It:=
 ⟨λi H=>∃xs ys x y,S1.vals K H xs/\S2.vals K H ys/\xs[i]? = some x/\ys[i]? = some y,
  λi H v H'=>∃p x y,v=.ref p/\H p=none/\H'=upd H p (.tup [x,y])/\(∀xs,S1.vals K H xs->xs[i]? = some x)/\∀ys,S2.vals K H ys->ys[i]? = some y,
  λi H=>∃xs ys,S1.vals K H xs/\S2.vals K H ys/\(i=xs.length\/(i < xs.length/\i=ys.length))⟩
def QV{P:Program}{w:World}{K:aa}{es:List Expr}{kk:Nat}{tp:Pos}{S1 S2:Sr}{z TI TO i1 i2:Addr}(D:ZA S1 S2 z TI TO i1 i2) :
    Ij P w K (.Tuple es kk tp) (n0h K S1 S2) [z,TI,TO,i1,i2] z (λi h=>IsZip h z TI TO .none/\IsPair h TI (.ref i1) (.ref i2)/\(∃a b,IsPair h TO a b)/\S1.it h i1 i/\S2.it h i2 i)where
 mem:=by simp
 obj:=λi h st b hb=>by
  obtain⟨hz,hi,⟨a,a',ho⟩,h1,h2⟩:=st;simp only[aw,bq,or_false]at hb;rcases hb with rfl | rfl | rfl | rfl | rfl
  . exact⟨_,hz,λv z=>by simp at z⟩
  . exact⟨_,hi,λv z=>by simp at z⟩
  . exact⟨_,ho,λv z=>by simp at z⟩
  . exact h1.obj
  . exact h2.obj
 keep:=λi h h' st k=>by
  obtain⟨hz,hi,⟨a,a',ho⟩,h1,h2⟩:=st;exact⟨k z (by simp) _ hz,k TI (by simp) _ hi,⟨a,a',k TO (by simp) _ ho⟩,h1.mv λo e=>k i1 (by simp) o e,h2.mv λo e=>k i2 (by simp) o e⟩
 item:=by
  intro X hP hw hK hc i aS s σ H E I hf st hg;subst hP hw hK;obtain⟨xs,ys,x,y,hx,hy,ex,ey⟩:=hg;obtain⟨v1,a1,z1,r1⟩:=Sr.vals.get I hx;obtain⟨v2,a2,z2,r2⟩:=Sr.vals.get I hy;obtain⟨hz,hi,ho,h1,h2⟩:=st;have l1:=(aH.mp ex).1;have l2:=(aH.mp ey).1;have hT:s.TypeIs (.ref z) "zip":=⟨_,hz,Y⟩;have lt:∀b∈[z,TI,TO,i1,i2],b≠s.heap.objs.size:=λb hb=>by
   obtain⟨a,a',ho⟩:=ho;simp only[aw,bq,or_false]at hb;rcases hb with rfl | rfl | rfl | rfl | rfl
   . exact ai (af hz)
   . exact ai (af hi)
   . exact ai (af ho)
   . obtain⟨_,e,_⟩:=h1.obj;exact ai (af e)
   . obtain⟨_,e,_⟩:=h2.obj;exact ai (af e)
  unfold pyNext;show wpAny_bind (wpAny_attempt (wpAny_callSpecial?_slot (name:=Str.ofString "__next__") hT F.slot_zip_next (wpAny_call_entry F.slot_zip_next hT F.entry_zip_next
   (QP (A:=X.A.in1) D (show X.A.in1.handled=none from I.ok.hd hc) ⟨hz,hi,ho,h1,h2,a1,a2⟩ Z Z λxv yv h' tk px py a1d hp hs up=>wpAny_pure ?_) (F.args_zip_next_1 _))))
  show⟨_,Y,wpAny_letOwnedTupleGo_zip a1d.z λgJ nr sb=>?_⟩;have sb:Heap.SameBut z h' gJ:=sb;have kk:∀b o,b ∉ [z,TI,TO,i1,i2]->s.heap.get? b=some o->gJ.get? b=some o:=λb o hb e=>by
   simp only[aw,bq,or_false,not_or]at hb;exact sb.extBut _ _ hb.1 (up b o hb.1 hb.2.2.1 hb.2.2.2.1 hb.2.2.2.2 e)
  have I1:j5 X aS σ H { s with heap:=gJ,toks:=tk }:=I.turneds (t':=tk) kk hf;have fT:R3 X aS H s.heap.objs.size:=I.fpOk (ae _)<|I.hok.fresh<|ae _;have zT:s.heap.objs.size≠z:=Ne.symm (lt z<|by simp);have oT:IsPair gJ s.heap.objs.size xv yv:=sb.extBut _ _ zT hp;have I2:j5 X aS σ (upd H s.heap.objs.size<|.tup [x,y]) { s with heap:=gJ,toks:=tk }:=I1.track (ah I.sz<|ae _) fT
   ⟨by show 2<=sizeLine;decide,[xv,yv],.cons (r1 i x xv ex px)<|.cons (r2 i y yv ey py) .nil,⟨_,oT,Y,_,Y⟩,λ_=>⟨_,oT,Y⟩⟩
  show⟨.ref s.heap.objs.size,_,I2,Y,⟨_,x,y,Y,fT.1,Y,λuf h=>by rw[Sr.vals.inj I h hx];exact ex,λxM h=>by rw[Sr.vals.inj I h hy];exact ey⟩,⟨nr,sb.extBut _ _ D.a a1d.ti,?_,a1d.s1.mv λo e=>sb.extBut _ _ D.c e,a1d.s2.mv λo e=>sb.extBut _ _ D.d e⟩,λb hb=>?_⟩
  . obtain⟨a,a',ho⟩:=a1d.to;exact⟨a,a',sb.extBut _ _ D.b ho⟩
  . rw[k8<|lt b hb];exact(hf b hb).1
 done:=by
  intro X hP hw hK hc i aS s σ H E I hf st hg;subst hP hw hK;obtain⟨xs,ys,hx,hy,l⟩:=hg;obtain⟨v1,a1,z1,r1⟩:=Sr.vals.get I hx;obtain⟨v2,a2,z2,r2⟩:=Sr.vals.get I hy;obtain⟨hz,hi,ho,h1,h2⟩:=st;have hT:s.TypeIs (.ref z) "zip":=⟨_,hz,Y⟩;unfold pyNext;show wpAny_bind (wpAny_attempt (wpAny_callSpecial?_slot (name:=Str.ofString "__next__") hT F.slot_zip_next (wpAny_call_entry F.slot_zip_next hT F.entry_zip_next
   (Ts (A:=X.A.in1) D (show X.A.in1.handled=none from I.ok.hd hc) ⟨hz,hi,ho,h1,h2,a1,a2⟩ Z λh' e tk up ⟨o,eo,co⟩=>?_) (F.args_zip_next_1 _))))
  show wpAny_bind<|wpAny_isInstance (T:="StopIteration") (b:=true) ⟨o,eo,co⟩ isSubtype_stop ?_;show wpAny_pure ⟨Y,I.turneds (ch:=[z,TI,TO,i1,i2]) (t':=tk) (λb o hb e=>?_) hf⟩;simp only[aw,bq,or_false,not_or]at hb;exact up b o hb.1 hb.2.2.1 hb.2.2.2.1 hb.2.2.2.2 e
 self:=λ_ _ _ _ _ st h=>wpAny_pyIter_zip st.1 h
def iZip(K:aa)(ta:TA):TI:=λσ H R=>ta σ H λvs H1=>∃S1 S2 x y xs ys,vs=[x,y]/\Sr.ofV S1 x/\Sr.ofV S2 y/\S1.vals K H1 xs/\S2.vals K H1 ys/\R (n0h K S1 S2) H1
def CO{X:Cx}{a b:Expr}{ta:TA}{p pos tp:Pos}{es:List Expr}{kk:Nat}(hg:Gl X "zip")(hm:X.mg "zip"=none)(ha:PA X [a,b] ta)(hs:starEach [a,b] X.env=[(false,eval a X.env),(false,eval b X.env)]:=by rfl)
    (iq:starEach [b] X.env=[(false,eval b X.env)]:=by rfl):PI X (.Tuple es kk tp) (.Call (.Name "zip" p) [a,b] [] pos) (iZip X.K ta):=by
 intro aS s σ H R I h;show Call_ (X1 I hg hm boot_zip<|bP (B0 (ha pos aS s σ H _ I h) λus s1 ⟨vs,H1,I1,r1,q1⟩=>?_) (by rw[hs,iq])<|by rw[iq];rfl);obtain⟨S1,S2,x,y,xs,ys,e,e1,e2,hx,hy,q⟩:=q1;subst e;cases r1 with
 | cons r rr=>
  cases rr with
  | cons r' rr=>
   cases rr;obtain⟨v1,a1,z1,_⟩:=Sr.vals.get I1 hx;obtain⟨v2,a2,z2,_⟩:=Sr.vals.get I1 hy;show Th (e1.val r) (e2.val r') a1 a2 λh' a1d D up=>wpAny_pyIter_zip a1d.z ⟨_,_,_,_,H1,Y,I1.kept (t':=s1.toks) up,QV D,⟨a1d.z,a1d.ti,a1d.to,a1d.s1,a1d.s2⟩,λb hb=>?_,q⟩;simp only[aw,bq,or_false]at hb;have le:s1.heap.objs.size<=b:=by rcases hb with rfl | rfl | rfl | rfl | rfl <;>omega
   exact I1.fpOk le (I1.hok.fresh le)
def Ite(K:aa)(S:Sr):It:=
 ⟨λi H=>∃xs x,S.vals K H xs/\xs[i]? = some x,λi H v H'=>∃p x,v=.ref p/\H p=none/\H'=upd H p (.tup [.int i,x])/\∀xs,S.vals K H xs->xs[i]? = some x,λi H=>∃xs,S.vals K H xs/\i=xs.length⟩
def Sr.fp_it(S:Sr)(I:Addr):I∈S.fp I:=by cases S <;>simp[Sr.fp]
def OV{P:Program}{w:World}{K:aa}{es:List Expr}{kk:Nat}{tp:Pos}{S:Sr}{e it:Addr}(D:e≠it)(o1:S.off e)(o2:S.off it) :
    Ij P w K (.Tuple es kk tp) (Ite K S) [e,it] e (λi h=>(∃gP,IsEnum h e it i gP)/\S.it h it i)where
 mem:=by simp
 obj:=λi h st b hb=>by
  obtain⟨⟨gP,he⟩,h1⟩:=st;simp only[aw,bq,or_false]at hb;rcases hb with rfl | rfl
  . exact⟨_,he,λv z=>by simp at z⟩
  . exact h1.obj
 keep:=λi h h' st k=>by
  obtain⟨⟨gP,he⟩,h1⟩:=st;exact⟨⟨gP,k e (by simp) _ he⟩,h1.mv λo q=>k it (by simp) o q⟩
 item:=by
  intro X hP hw hK hc i aS s σ H E I hf st hg;subst hP hw hK;obtain⟨xs,x,hx,ex⟩:=hg;obtain⟨vs,a1,z1,r1⟩:=Sr.vals.get I hx;obtain⟨⟨gP,he⟩,h1⟩:=st;have l1:=(aH.mp ex).1;have lt:∀b∈[e,it],b < s.heap.objs.size:=λb hb=>by
   simp only[aw,bq,or_false]at hb;rcases hb with rfl | rfl
   . exact af he
   . obtain⟨_,q,_⟩:=h1.obj;exact af q
  have hh:X.A.in1.handled=none:=I.ok.hd hc;have W:=WalksT.enumerateD (prog:=X.prog) (w:=X.w) (A:=X.A) (S.draws hh it o2 vs) e D (Sr.fp_off o1 D)<|S.fp_it it;show W.item i s _ E Z ⟨⟨gP,he⟩,h1,a1⟩ λT vals h' tk hP hT ht hM hk=>⟨_,Y,W.go es kk tp i T _ _ E hM λgJ ju jU=>?_⟩;obtain⟨t,xv,px,rfl⟩:=hP;have kk:∀b o,b ∉ [e,it]->s.heap.get? b=some o->gJ.get? b=some o:=λb o hb q=>jU b o hb<|hk b o hb q;have I1:j5 X aS σ H { s with heap:=gJ,toks:=tk }:=I.turneds (t':=tk) kk hf;have fT:R3 X aS H T:=I.fpOk hT<|I.hok.fresh hT;have nT:T ∉ [e,it]:=W.apart i T _ hM;have oT:gJ.IsTuple T #[.int i t,xv]:=let⟨o,q,r⟩:=ht;⟨o,jU T o nT q,r⟩
  have I2:j5 X aS σ (upd H T<|.tup [.int i,x]) { s with heap:=gJ,toks:=tk }:=I1.track (ah I.sz hT) fT
   ⟨by show 2<=sizeLine;decide,[.int i t,xv],.cons ⟨t,Y⟩<|.cons (r1 i x xv ex px) .nil,oT,λz=>absurd Y<|z i x⟩
  show⟨.ref T,_,I2,Y,⟨_,x,Y,fT.1,Y,λuf h=>by rw[Sr.vals.inj I h hx];exact ex⟩,⟨ju.1,ju.2.1⟩,λb hb=>?_⟩;rw[k8<|ai<|ao (lt b hb) hT];exact(hf b hb).1
 done:=by
  intro X hP hw hK hc i aS s σ H E I hf st hg;subst hP hw hK;obtain⟨xs,hx,l⟩:=hg;obtain⟨vs,a1,z1,r1⟩:=Sr.vals.get I hx;obtain⟨⟨gP,he⟩,h1⟩:=st;have hh:X.A.in1.handled=none:=I.ok.hd hc;have W:=WalksT.enumerateD (prog:=X.prog) (w:=X.w) (A:=X.A) (S.draws hh it o2 vs) e D (Sr.fp_off o1 D)<|S.fp_it it;have ei:i=vs.size:=by omega
  subst ei;exact W.done s _ E ⟨⟨gP,he⟩,h1,a1⟩ λh' tk hk=>⟨Y,I.turneds (t':=tk) hk hf⟩
 self:=λ_ _ _ _ _ st h=>by
  obtain⟨⟨gP,he⟩,_⟩:=st;exact wpAny_pyIter_enum he h
def m0o(K:aa)(ta:TA):TI:=λσ H R=>ta σ H λvs H1=>∃S x xs,vs=[x]/\Sr.ofV S x/\S.vals K H1 xs/\R (Ite K S) H1
def Up{X:Cx}{a:Expr}{ta:TA}{p pos tp:Pos}{es:List Expr}{kk:Nat}(hg:Gl X "enumerate")(hm:X.mg "enumerate"=none)(ha:PA X [a] ta)(hs:starEach [a] X.env=[(false,eval a X.env)]:=by rfl) :
    PI X (.Tuple es kk tp) (.Call (.Name "enumerate" p) [a] [] pos) (m0o X.K ta):=by
 intro aS s σ H R I h;show Call_<|X1 I hg hm boot_enumerate<|bP (B0 (ha pos aS s σ H _ I h) λus s1 ⟨vs,H1,I1,r1,q1⟩=>?_) hs Y;obtain⟨S,x,xs,e,e1,hx,q⟩:=q1;subst e;cases r1 with
 | cons r rr=>
  cases rr;obtain⟨v1,a1,z1,_⟩:=Sr.vals.get I1 hx;have off:∀k:Nat,S.off (s1.heap.objs.size+k):=λk=>by
   cases S with
   | lst a=>obtain⟨o,q,_⟩:=a1;exact ai (ao (af q)<|cW _ k)
   | tup a=>obtain⟨o,q,_⟩:=a1;exact ai (ao (af q)<|cW _ k)
   | str z=>exact trivial
  show QJ (e1.val r) a1 λh' he hi up=>wpAny_pyIter_enum he ⟨_,_,_,_,H1,Y,I1.kept (t':=s1.toks) up,OV (Nat.succ_ne_self _) (off 1)<|off 0,⟨⟨_,he⟩,hi⟩,λb hb=>?_,q⟩;simp only[aw,bq,or_false]at hb;have le:s1.heap.objs.size<=b:=by rcases hb with rfl | rfl <;>omega
  exact I1.fpOk le (I1.hok.fresh le)
def Kc{K:aa}{S1 S2:Sr}{xs ys:List V}{g:TG}{tb:TS}{D:BY}{σ:St}{H:Hp}(Pv:Nat->St->Hp->Prop)(yj:xs.length=ys.length)(h0:Pv 0 σ H)(hl:∀i σ H,i<=xs.length->Pv i σ H->S1.vals K H xs/\S2.vals K H ys)
    (hs:∀i x y p σ H,xs[i]? = some x->ys[i]? = some y->H p=none->Pv i σ H->g (.ref p) σ (upd H p<|.tup [x,y]) λσ2 H2=>tb { D with nx:=Pv<|i+1,ct:=Pv<|i+1,bk:=D.nx } σ2 H2) (hd:∀σ H,Pv xs.length σ H->D.nx σ H) :
    ∃W:Nat->Nat->St->Hp->Prop,(∃m,W 0 m σ H)/\∀i m σ H,W i m σ H->
     ((n0h K S1 S2).stop i H/\D.nx σ H)\/((n0h K S1 S2).go i H/\∃N:St->Hp->Prop,(∀σ' H',N σ' H'->∃m',m' < m/\W (i+1) m' σ' H')/\∀x H',(n0h K S1 S2).yld i H x H'->g x σ H' λσ2 H2=>tb { D with nx:=N,ct:=N,bk:=D.nx } σ2 H2):=by
 show⟨λi m σ H=>m=xs.length - i/\i<=xs.length/\Pv i σ H,⟨xs.length,by simp,bh _,h0⟩,?_⟩;rintro i m σ H ⟨rfl,hi,p⟩;obtain⟨q1,q2⟩:=hl i σ H hi p;by_cases eV:i < xs.length
 . have wJ:i < ys.length:=by omega
   show .inr ⟨⟨xs,ys,xs[i],ys[i],q1,q2,by simp[eV],by simp[wJ]⟩,Pv<|i+1,λσ' H' p'=>⟨xs.length - (i+1),Z,Y,eV,p'⟩,λx H' y=>?_⟩;obtain⟨pp,x',y',rfl,hn,rfl,y1,y2⟩:=y;exact hs i x' y' pp σ H (y1 xs q1) (y2 ys q2) hn p
 . have e:i=xs.length:=by omega
   subst e;exact .inl ⟨⟨xs,ys,q1,q2,.inl Y⟩,hd σ H p⟩
section
variable{X:Cx}
def rSlS:V->Option Int->Option Int->Hp->VK->Prop:=λx lo hi H Q=>∃z,x=.str z/\z.length<=sizeLine/\Q (.str<|Txt.slice z lo hi) H
def Ga:n0a X rSlS:=by
 intro aS s σ H x v vl vu lo hi sl Q I rx hs pl pu h;obtain⟨z,rfl,hz,q⟩:=h;obtain⟨t,rfl⟩:=rx;have dW:∀t' k,EP X aS σ Q (.str (Txt.slice z lo hi) t') { s with toks:=k }:=λt' k=>⟨.str _,H,I.tok _,⟨_,Y⟩,q⟩;show⟨"str",_,F.slot_str_getitem.lookup,typeIs_str _ _ _,?_⟩;cases pl with
 | none=>
  cases pu with
  | none=>exact wpAny_getItem_str_slice (l:=none) (u:=none) (st:=none) hs rfl (post_val_or_str ⟨ah (Txt.slice_le z _ _) hz,dW⟩)
  | int j uj=>exact wpAny_getItem_str_slice (l:=none) (u:=some (j,uj)) (st:=none) hs rfl (post_val_or_str ⟨ah (Txt.slice_le z _ _) hz,dW⟩)
 | int i ui=>
  cases pu with
  | none=>exact wpAny_getItem_str_slice (l:=some (i,ui)) (u:=none) (st:=none) hs rfl (post_val_or_str ⟨ah (Txt.slice_le z _ _) hz,dW⟩)
  | int j uj=>exact wpAny_getItem_str_slice (l:=some (i,ui)) (u:=some (j,uj)) (st:=none) hs rfl (post_val_or_str ⟨ah (Txt.slice_le z _ _) hz,dW⟩)
def rIndexS:V->List V->Hp->VK->Prop:=λx xs H Q=>∃z y i Y5,x=.str z/\xs=[.str y]/\Builtin.Str.occurrences z y 0 z.length 1=i::Y5/\Q (.int (i:Nat)) H
def IG:MtR X "str.index" rIndexS:=by intro aS s σ H x xs v us Q I rx rs h;obtain⟨z,y,i,Y5,rfl,rfl,e,q⟩:=h;obtain⟨t,rfl⟩:=rx;obtain⟨u,rfl,ru⟩:=rs.one;obtain⟨t',rfl⟩:=ru;exact call_gives F.slot_str_index (typeIs_str s z t) F.entry_str_index (F.args_str_index_2 _ _) (PySem.gives_str_index z y t t' i Y5 e) ⟨.int _,H,I.tok _,⟨_,Y⟩,q⟩
def Its(z:Str):It:=⟨λi _=>i < z.cps.size,λi H x H'=>H'=H/\∃c,z.cps[i]? = some c/\x=.str ⟨#[c]⟩,λi _=>z.cps.size<=i⟩
def QW{P:Program}{w:World}{K:aa}{tg:Expr}(z:Str)(t:Tok)(it:Addr):Ij P w K tg (Its z) [it] it (λi h=>h.IsStrIter it "str_ascii_iterator" z t i)where
 mem:=by simp
 obj:=λi h st b hb=>by
  have e:b=it:=by simpa using hb
  subst e;obtain⟨o,e,c,d⟩:=st;exact⟨o,e,λv q=>by rw[d]at q;cases q⟩
 keep:=λi h h' st k=>by
  obtain⟨o,e,r⟩:=st;exact⟨o,k it (by simp) o e,r⟩
 item:=by
  intro X hP hw hK hc i aS s σ H E I hf st hg;subst hP hw hK;have hg:i < z.cps.size:=hg;obtain⟨f0,f1,f2,f3,f4,f5⟩:=hf it (by simp);show wpAny_pyNext_ascii_item st (c:=z.cps[i]) (by simp[hg]) λh' fh sb=>?_;have I1:j5 X aS σ H { s with heap:=h',toks:=s.toks+1 }:=I.turned (t':=s.toks+1) (λb o hb e=>(sb.2 b hb).trans e) f0 f1 f3 f4 f5;obtain⟨o,e,c,d⟩:=id fh;exact⟨_,Y,LP (s:={ s with heap:=h',toks:=s.toks+1 }) e c d bD ⟨.str ⟨#[z.cps[i]]⟩,H,I1,⟨_,Y⟩,⟨Y,_,by simp[hg],Y⟩,fh,λb hb=>(hf b hb).1⟩⟩
 done:=by intro X hP hw hK hc i aS s σ H E I hf st hg;subst hP hw hK;have hg:z.cps.size<=i:=hg;obtain⟨f0,f1,f2,f3,f4,f5⟩:=hf it (by simp);exact wpAny_pyNext_ascii_end (I.ok.hd hc) st (by simp;omega) λh' eb=>⟨Y,I.turned (t':=s.toks) (λb o hb e=>eb b o hb e) f0 f1 f3 f4 f5⟩
 self:=λ_ _ _ _ _ st h=>wpAny_pyIter_striter_ascii st h
def iStr(tl:TE):TI:=λσ H R=>tl σ H λx H1=>∃z,x=.str z/\z.cps.all (· < 128)=true/\R (Its z) H1
def Ew{tg l:Expr}{tl:TE}(hl:PE X l tl):PI X tg l (iStr tl):=by
 intro aS s σ H R I h;show B0 (hl aS s σ H _ I h) λv s1 ⟨x,H1,I1,r1,z,e,ha,q⟩=>?_;subst e;obtain⟨t,rfl⟩:=r1;show wpAny_pyIter_ascii ha ?_;have hf:H1 s1.heap.objs.size=none:=I1.hok.fresh<|ae _;show⟨s1.heap.objs.size,[s1.heap.objs.size],_,Its z,H1,Y,I1.kept (t':=s1.toks)<|λb ob q=>ag _ q,QW z t _,⟨_,ak _ Y,Y,Y⟩,λb hb=>?_,q⟩;have e:b=s1.heap.objs.size:=by simpa using hb
 subst e;exact I1.fpOk (ae _) hf
end
section
variable{X:Cx}
def TF{bs:List Bool}{dw:w1j}(r:m9 (bs.map V.bl) dw){i:Nat}{v:Value}(h:dw[i]? = some v):∃b,bs[i]? = some b/\v=.bool b:=by have len:=r.length;rw[aD]at len;have hi:i < dw.length:=(aH.mp h).1;have hb:bs[i]? = some (bs[i]'Z):=aQ Z;obtain⟨u,hu,ru⟩:=r.get (i:=i) (x:=V.bl<|bs[i]'Z) (by rw[bz,hb];rfl);rw[h]at hu;cases hu;exact⟨_,hb,ru⟩
def QM(bs:List Bool):(List.range bs.length).all (λi=>bs[i]?.getD false)=bs.all id:=by
 rw[bU,bK,bK];constructor
 . intro h b hb;obtain⟨i,hi,e⟩:=List.getElem_of_mem hb;have:=h i<|cj.mpr hi;rw[aQ hi,cU,e]at this;exact this
 . intro h i hi;have hi:=cj.mp hi;rw[aQ hi,cU];exact h _ (cY hi)
def rAll(K:aa)(f:List Bool->Bool):List V->Hp->VK->Prop:=λxs H Q=>∃a bs,xs=[.ref a]/\y7 K H a (bs.map V.bl)/\Q (.bl<|f bs) H
def Bs(hc:X.calm=true):O2 X (.builtin "all") (rAll X.K λbs=>bs.all id):=by
 intro aS s σ H xs us Q I r h;obtain⟨a,bs,rfl,hq,q⟩:=h;obtain⟨u,rfl,ru⟩:=r.one;cases (show u=Value.ref a from ru);obtain⟨dw,rv,p,hz⟩:=I.list hq;have lt:a≠s.heap.objs.size:=by obtain⟨o,n,e,_⟩:=p;exact ai (af e)
 have hh:X.A.in1.handled=none:=I.ok.hd hc;have hl:=p.isList;have len:=rv.length;rw[aD]at len;show call_all_walk (wpAny_pyIter_list hl ⟨_,_,_,_,_,_,λi=>bs[i]?.getD false,Y,Walks.list hh s.heap.objs.size a lt dw.toArray,⟨⟨_,ak _ Y,Y,Y⟩,Heap.IsList.push hl _⟩,λi v s' Q' E' hv q'=>?_,λh' tk k=>?_⟩)
 . have hv:dw.toArray[i]? = some v:=hv;rw[List.getElem?_toArray]at hv;obtain⟨b,eb,rfl⟩:=TF rv hv;have q':Q' (bs[i]?.getD false) s':=q';rw[eb]at q';exact wpAny_truthy_bool q'
 . rw[aj,<- len,QM];show⟨.bl _,H,I.kept (t':=tk) λb o e=>k b o (λz=>?_)<|ag _ e,Y,q⟩;rw[aq]at z;exact absurd (af e) (by rw[z];exact aZ _)
end
def Iy:Manifest.owners.lookup (String.ofList ['d','e','s','r','e','v','e','r'].reverse)=some Manifest.sig_reversed:=by kernel_rfl
def J9:Slot "reversed" "__next__" "reversed.__next__":=
 .of (owner:="reversed") (n:="__next__") (by rw[typeLookup_type,builtinLookup_eq_fast];kernel_rfl) dK dK dK
  (by first | exact .inl dK | exact .inr dK) (by rw[isSubtype_type];kernel_rfl)
def Bp:entryFor table "reversed.__next__"=some Builtin.«reversed.__next__»:=entryFor_of_tree (by kernel_rfl)
def Cr(a:Value):argsOk "reversed.__next__" ⟨[a],[]⟩:=by unfold argsOk;rw[signature?_of (id:="reversed.__next__") (n:=['_','_','t','x','e','n','_','_']) (o:=['d','e','s','r','e','v','e','r']) (by kernel_rfl) Iy];kernel_rfl
def Cf:Slot "reversed" "__iter__" "reversed.__iter__":=
 .of (owner:="reversed") (n:="__iter__") (by rw[typeLookup_type,builtinLookup_eq_fast];kernel_rfl) dK dK dK
  (by first | exact .inl dK | exact .inr dK) (by rw[isSubtype_type];kernel_rfl)
def Ii(a:Value):argsOk "reversed.__iter__" ⟨[a],[]⟩:=by unfold argsOk;rw[signature?_of (id:="reversed.__iter__") (n:=['_','_','r','e','t','i','_','_']) (o:=['d','e','s','r','e','v','e','r']) (by kernel_rfl) Iy];kernel_rfl
def GS:entryFor table "reversed.__iter__"=some Builtin.«dict_keyiterator.__iter__»:=
 entryFor_alias (id':="dict_keyiterator.__iter__") (by kernel_rfl) (by first | rfl | decide +kernel | (unfold String.splitOn;simp +decide [String.splitOnAux])) dK (by kernel_rfl)
def ME:typeLookup (.type "str") "__reversed__"=pure none:=by rw[typeLookup_type,builtinLookup_eq_fast];kernel_rfl
def KM:isSubtype (.type "str") (.type "dict")=pure false:=by rw[isSubtype_type];kernel_rfl
def FC:TypeCalled "reversed" "reversed.__new__" "object.__init__":=
 ⟨dK,dK,⟨_,_,F.mro_reversed⟩,F.made_reversed,dK,by rw[isSubtype_type];kernel_rfl,
  .of (owner:="object") (n:="__init__") (by rw[typeLookup_type,builtinLookup_eq_fast];kernel_rfl) dK dK dK
   (by first | exact .inl dK | exact .inr dK) (by rw[isSubtype_type];kernel_rfl)⟩
def rvO(z:Str)(t:Tok)(i:Int):Obj:={ cls:=.type "reversed",data:=.fields #[.str z t,rawInt i] }
def Hj(h:Heap)(a:Addr)(z:Str)(t:Tok)(i:Int):Prop:=∃o,h.get? a=some o/\o.cls=.type "reversed"/\o.data=.fields #[.str z t,rawInt i]
section
variable{prog:Program}{w:World}{A:Around}{E:w1f}{s:Shared}
def RJ(z:Str)(t:Tok)(hz:z.length<=sizeLine) :
    Meets (Builtin.«reversed.__new__» ⟨[.type "reversed",.str z t],[]⟩) (λ_ R s=>
     R (.ok<|.ret<|.ref s.heap.objs.size) { s with heap:=s.heap.push<|rvO z t<|(z.length:Int) - 1,toks:=s.toks+1+1 }):=
 .of_wp λprog w A R s h=>by
  have hl:=Bn;unfold Builtin.«reversed.__new__»;show wpAny_bind (wpAny_of_eq (newClass_reversed _) ?_)
  try dsimp only
  show wpAny_bind (wpAny_of_eq (a:=()) (by first | rfl | kernel_rfl) ?_);show wpAny_bind (wpAny_of_eq (a:=()) (by first | rfl | kernel_rfl) ?_)
  try dsimp only
  show wpAny_bind<|wpAny_specialOf (T:="str") (v:=.str z t) Y ME ?_;dsimp only;show wpAny_bind ?_;show wpAny _ _ (isInstance (Value.str z t) (.type "dict") >>= _) _ _ s;show wpAny_bind<|wpAny_isInstance (T:="str") (v:=.str z t) Y KM ?_;show wpAny _ _ (specialOf (Value.str z t) "__getitem__" >>= _) _ _ s;show wpAny_bind<|wpAny_specialOf (T:="str") (v:=.str z t) Y F.slot_str_getitem.lookup ?_;show wpAny _ _ (if _ then _ else _) _ _ s;rw[if_pos dK];show wpAny_pure ?_;show wpAny _ _ (call (Value.builtin "len") [Value.str z t] >>= _) _ _ s;show wpAny_bind<|len_str Z ?_;show wpAny_bind<|wpAny_pure ?_;show wpAny _ _ (newObj (.type "reversed") (.fields #[.str z t,rawInt<|(z.length:Int) - 1]) >>= _) _ _ _;exact wpAny_bind (wpAny_newObj_type<|wpAny_pure ⟨_,Y,h⟩)
def Hb{z:Str}{t:Tok}{Q:w1f}(hz:z.length<=sizeLine)
    (h:∀h',Hj h' s.heap.objs.size z t ((z.length:Int) - 1)->(∀b o,s.heap.get? b=some o->h'.get? b=some o)->Q (.ref s.heap.objs.size) { s with heap:=h',toks:=s.toks+1+1 }) :
    wpAny (model prog w) A (call (.type "reversed") [.str z t]) Q E s:=by
 show callType_new FC bD (F.typeCall_reversed_1 _) (F.newCall_reversed_1 _) (λobj=>F.args_object_init_2 obj _) F.entry_reversed_new (RJ z t hz) ?_;have e:(s.heap.push<|rvO z t<|(z.length:Int) - 1).get? s.heap.objs.size=some (rvO z t<|(z.length:Int) - 1):=ak _ rfl;exact⟨⟨_,e,Y⟩,h _ ⟨_,e,Y,Y⟩ λb o x=>ag _ x⟩
def Si{it:Addr}{z:Str}{t:Tok}{i c:Nat}{Q:Option Value->Shared->Prop}(jV:Hj s.heap it z t (i:Int))(hz:z.length<=sizeLine)(hc:z.cps[i]? = some c)
    (hQ:∀h' tk u,Hj h' it z t ((i:Int) - 1)->Heap.SameBut it s.heap h'->Q (some<|.str ⟨#[c]⟩ u) { s with heap:=h',toks:=tk }):wpAny (model prog w) A (pyNext<|.ref it) Q E s:=by
 obtain⟨o,ho,ix,hd⟩:=id jV;have hl:=Bn;have hi:i < z.length:=(Array.getElem?_eq_some_iff.mp hc).1;have ty:s.TypeIs (.ref it) "reversed":=⟨o,ho,ix⟩;unfold pyNext;show wpAny_bind<|wpAny_attempt<|wpAny_callSpecial?_slot (name:=Str.ofString "__next__") ty J9<|wpAny_call_entry J9 ty Bp ?_<|Cr _;unfold Builtin.«reversed.__next__»;show wpAny_bind (wpAny_of_eq (a:=(Value.ref it,[])) Y ?_)
 try dsimp only
 show wpAny_bind<|wpAny_field ho hd (x:=.str z t) Y ?_;show wpAny_bind<|wpAny_field ho hd (x:=rawInt (i:Int)) Y ?_;show wpAny _ _ (if(i:Int) < 0 then _ else _) _ _ s;rw[if_neg Z];show wpAny_bind<|wpAny_specialOf (T:="str") (v:=.str z t) Y F.slot_str_getitem.lookup ?_;show wpAny _ _ (mkInt (i:Int) >>= _) _ _ s;show wpAny_bind<|wpAny_mkInt ?_;have e:seqIndex? (i:Int) z.length=some (i:Int).toNat:=PySem.StrLaws.seqIndex_nonneg Z Z;show wpAny_bind (wpAny_attempt (getItem_str (c:=c) (by
  have e1:decide ((i:Int) < -(2 ^ 63:Int))=false:=decide_eq_false Z;have e2:decide ((i:Int) ≥ 2 ^ 63)=false:=decide_eq_false Z;rw[e1,e2,Bool.or_false]) (by rw[e];simpa using hc) ?_))
 show wpAny _ _ (field (.ref it) 1 >>= _) _ _ _;show wpAny_bind<|wpAny_field (s:={ s with toks:=_ }) ho hd (x:=rawInt (i:Int)) Y ?_;show wpAny _ _ (setField (.ref it) 1 (rawInt<|(i:Int) - 1) >>= _) _ _ _;show wpAny_bind (wpAny_setField (s:={ s with toks:=_ }) ho hd (by simp) ?_);show wpAny_pure ⟨_,Y,wpAny_pure<|hQ _ _ _ ?_<|Heap.SameBut.update ..⟩;exact⟨_,cn _ ho<|Obj.isFreed_of_fields<|Obj.data_mapFields hd _,(Obj.cls_mapFields ..).trans ix,by
  rw[Obj.data_mapFields hd];simp⟩
def UN{it:Addr}{z:Str}{t:Tok}{Q:Option Value->Shared->Prop}(hh:A.handled=none)(jV:Hj s.heap it z t (-1))
    (hQ:∀h',Heap.ExtBut it s.heap h'->Q none { s with heap:=h' }):wpAny (model prog w) A (pyNext<|.ref it) Q E s:=by
 obtain⟨o,ho,ix,hd⟩:=id jV;have ty:s.TypeIs (.ref it) "reversed":=⟨o,ho,ix⟩;unfold pyNext;show wpAny_bind<|wpAny_attempt<|wpAny_callSpecial?_slot (name:=Str.ofString "__next__") ty J9<|wpAny_call_entry J9 ty Bp ?_<|Cr _;unfold Builtin.«reversed.__next__»;show wpAny_bind (wpAny_of_eq (a:=(Value.ref it,[])) Y ?_)
 try dsimp only
 show wpAny_bind<|wpAny_field ho hd (x:=.str z t) Y ?_;show wpAny_bind<|wpAny_field ho hd (x:=rawInt<|-1) Y ?_;show wpAny _ _ (if(-1:Int) < 0 then _ else _) _ _ s;rw[if_pos bD];show wpAny_bind<|wpAny_rule ?_;show wpAny_bind ?_;show wpAny _ _ (setField (.ref it) 1 (rawInt<|-1) >>= λ_=>setField (.ref it) 0 .none) _ _ _;show wpAny_bind (wpAny_setField ho hd (by simp) ?_);have wG:=cn (Obj.mapFields (·.setIfInBounds 1 (rawInt<|-1))) ho<|Obj.isFreed_of_fields<|Obj.data_mapFields hd _;show wpAny_setField wG (Obj.data_mapFields hd _) (by simp) ?_;show wpAny_bind ?_;show wpAny _ _ (newExc (.type "StopIteration") [] >>= _) _ _ _;show wpAny_bind ?_;simp only[newExc,newTuple];show wpAny_bind (wpAny_newObj_type ?_<|by size_fits);show wpAny_bind (m:=firstArgMember _ _) (wpAny_of_eq (a:=Value.none) (by first | rfl | (simp only[firstArgMember];rfl)) ?_);show wpAny_newObj_type ?_ (by size_fits);simp only[raiseNew];show wpAny_bind (wpAny_handled ?_)
 first | rw[show A.in1.handled=none from hh] | rw[hh]
 show wpAny_bind<|wpAny_pure<|wpAny_throw ?_;show wpAny_bind<|wpAny_isInstance (T:="StopIteration") (b:=true) ⟨_,ak _ rfl,rfl⟩ isSubtype_stop ?_;exact wpAny_pure (hQ _<|(((Heap.SameBut.update ..).extBut.trans (Heap.SameBut.update ..).extBut).push _).push _)
def LO(jV:Hj s.heap it z t i)(h:Q (.ref it) s):wpAny (model prog w) A (pyIter<|.ref it) Q E s:=by obtain⟨o,ho,ix,hd⟩:=id jV;have ty:s.TypeIs (.ref it) "reversed":=⟨o,ho,ix⟩;show wpAny_pyIter_slot ty Cf<|wpAny_call_entry Cf ty GS ?_<|Ii _;show wpAny _ _ (ret<|.ref it) _ _ s;exact wpAny_pure ⟨_,rfl,"reversed",_,ty,J9.lookup,h⟩
end
def Yk(z:Str):It:=⟨λi _=>i < z.cps.size,λi H x H'=>H'=H/\∃c,z.cps[z.cps.size - 1 - i]? = some c/\x=.str ⟨#[c]⟩,λi _=>i=z.cps.size⟩
def QX{P:Program}{w:World}{K:aa}{tg:Expr}(z:Str)(t:Tok)(hz:z.length<=sizeLine)(it:Addr):Ij P w K tg (Yk z) [it] it (λi h=>Hj h it z t<|(z.length:Int) - 1 - i)where
 mem:=by simp
 obj:=λi h st b hb=>by
  have e:b=it:=by simpa using hb
  subst e;obtain⟨o,e,c,d⟩:=st;exact⟨o,e,λv q=>by rw[d]at q;cases q⟩
 keep:=λi h h' st k=>by
  obtain⟨o,e,r⟩:=st;exact⟨o,k it (by simp) o e,r⟩
 item:=by
  intro X hP hw hK hc i aS s σ H E I hf st hg;subst hP hw hK;have hg:i < z.length:=hg;obtain⟨f0,f1,f2,f3,f4,f5⟩:=hf it (by simp);have e1:((z.length:Int) - 1 - i)=((z.length - 1 - i:Nat):Int):=by omega
  have lt:z.length - 1 - i < z.cps.size:=by show z.cps.size - 1 - i < z.cps.size;have:i < z.cps.size:=hg;omega
  rw[e1]at st;show Si st hz (c:=z.cps[z.length - 1 - i]) (by simp[lt]) λh' tk u fh sb=>?_;have I1:j5 X aS σ H { s with heap:=h',toks:=tk }:=I.turned (t':=tk) (λb o hb e=>(sb.2 b hb).trans e) f0 f1 f3 f4 f5;obtain⟨o,e,c,d⟩:=id fh;have e2:((z.length - 1 - i:Nat):Int) - 1=(z.length:Int) - 1 - ((i+1:Nat):Int):=by omega
  rw[e2]at fh;exact⟨_,Y,LP (s:={ s with heap:=h',toks:=tk }) e c d bD ⟨.str ⟨#[z.cps[z.length - 1 - i]]⟩,H,I1,⟨_,Y⟩,⟨Y,_,by show z.cps[z.length - 1 - i]? = _;simp[lt],Y⟩,fh,λb hb=>(hf b hb).1⟩⟩
 done:=by
  intro X hP hw hK hc i aS s σ H E I hf st hg;subst hP hw hK;have hg:i=z.length:=hg;obtain⟨f0,f1,f2,f3,f4,f5⟩:=hf it (by simp);have e:(z.length:Int) - 1 - i = -1:=by omega
  rw[e]at st;exact UN (I.ok.hd hc) st λh' eb=>⟨Y,I.turned (t':=s.toks) (λb o hb e=>eb b o hb e) f0 f1 f3 f4 f5⟩
 self:=λ_ _ _ _ _ st h=>LO st h
def iRev(ta:TA):TI:=λσ H R=>ta σ H λvs H1=>∃z,vs=[.str z]/\z.length<=sizeLine/\R (Yk z) H1
def WO{X:Cx}{tg a:Expr}{ta:TA}{p pos:Pos}(hg:Gl X "reversed")(hm:X.mg "reversed"=none)(ha:PA X [a] ta)(hs:starEach [a] X.env=[(false,eval a X.env)]:=by rfl) :
    PI X tg (.Call (.Name "reversed" p) [a] [] pos) (iRev ta):=by
 intro aS s σ H R I h;show Call_<|X1 I hg hm boot_reversed<|bP (B0 (ha pos aS s σ H _ I h) λus s1 ⟨vs,H1,I1,r1,q1⟩=>?_) hs Y;obtain⟨z,e,hz,q⟩:=q1;subst e;cases r1 with
 | cons r rr=>
  cases rr;obtain⟨t,rfl⟩:=r;show Hb hz λh' hi up=>LO hi ⟨_,[s1.heap.objs.size],_,Yk z,H1,Y,I1.kept (t':=s1.toks+1+1) up,QX z t hz _,(by show Hj _ _ _ _ _;simpa using hi),λb hb=>?_,q⟩;have e:b=s1.heap.objs.size:=by simpa using hb
  subst e;exact I1.fpOk (ae _) (I1.hok.fresh<|ae _)
section
variable{prog:Program}{w:World}{A:Around}{E:w1f}{s:Shared}
end
section
variable{prog:Program}{w:World}{A:Around}{E:w1f}{s:Shared}
end
def GQ{J:It}{n:Nat}{g:TG}{tb:TS}{D:BY}{σ:St}{H:Hp}(Pv:Nat->St->Hp->Prop)(h0:Pv 0 σ H)
    (hs:∀i σ H,i < n->Pv i σ H->J.go i H/\∀x H',J.yld i H x H'->g x σ H' λσ2 H2=>tb { D with nx:=Pv<|i+1,ct:=Pv<|i+1,bk:=D.nx } σ2 H2) (hd:∀σ H,Pv n σ H->J.stop n H/\D.nx σ H) :
    ∃W:Nat->Nat->St->Hp->Prop,(∃m,W 0 m σ H)/\∀i m σ H,W i m σ H->
     (J.stop i H/\D.nx σ H)\/(J.go i H/\∃N:St->Hp->Prop,(∀σ' H',N σ' H'->∃m',m' < m/\W (i+1) m' σ' H')/\∀x H',J.yld i H x H'->g x σ H' λσ2 H2=>tb { D with nx:=N,ct:=N,bk:=D.nx } σ2 H2):=by
 show⟨λi m σ H=>m=n - i/\i<=n/\Pv i σ H,⟨n,by simp,bh _,h0⟩,?_⟩;rintro i m σ H ⟨rfl,hi,p⟩;by_cases eV:i < n
 . obtain⟨a,b⟩:=hs i σ H eV p;exact .inr ⟨a,Pv<|i+1,λσ' H' p'=>⟨n - (i+1),Z,Y,eV,p'⟩,b⟩
 . have e:i=n:=by omega
   subst e;exact .inl (hd σ H p)
def KH(l b:Addr)(items iK:Array Value)(n n2:Nat)(dd jo:Option Addr)(sl jc:Array (Option Value))(yo:items.isEmpty=true) :
    Meets (Builtin.«tuple.__add__» ⟨[.ref l,.ref b],[]⟩) (λ_ R s=>s.heap.get? l=some { cls:=.type "tuple",dict:=dd,data:=.seq items n,slots:=sl }/\s.heap.get? b=some { cls:=.type "tuple",dict:=jo,data:=.seq iK n2,slots:=jc }/\R (.ok<|.ret<|Value.ref b) { s with heap:=s.heap,toks:=s.toks }):=
 .of_wp λprog w A R s h=>by obtain⟨hp,g,d,tk,os⟩:=s;obtain⟨hl,hb,h⟩:=h;have f1:=AutoSeq1.idx_int;have f2:=AutoSeq1.sub_tuple_tuple;wp_walk using AutoSeq1.wpAny_loadPart' hl,AutoSeq1.wpAny_loadPart' hb;exact⟨_,Y,h⟩
def rCatA:R2:=λx y H Q=>∃a b xs ys,x=.ref a/\y=.ref b/\H a=some (.tup xs)/\H b=some (.tup ys)/\xs.length+ys.length<=sizeLine/\
 ∀p H',g9 H H'->H' p=some (.tup<|xs++ys)->Q (.ref p) H'
def S7:BK X (binaryOp .Add) rCatA:=by
 intro aS s σ H x y v u Q I rx ry h;obtain⟨a,b,xs,ys,rfl,rfl,ha,hb,hz,q⟩:=h;cases rx;cases ry;by_cases hx:xs=[]
 . obtain⟨dw,r1,p1,_⟩:=I.tuple<|j3.of ha;obtain⟨eY,r2,p2,_⟩:=I.tuple<|j3.of hb;have e0:dw=[]:=r1.nil_iff.mpr hx;obtain⟨⟨cls,dd,data,sl⟩,ho,hc,n,hd⟩:=id p1;obtain⟨⟨oR,jo,data2,jc⟩,iR,ke,n2,gA⟩:=id p2;simp only at hc hd ke gA;subst hc hd ke gA;exact concat_meets ⟨_,ho,Y⟩ ⟨_,iR,Y⟩ noFill_tuple_add seq_tuple_add dg dh (di _ _)
    (KH a b dw.toArray eY.toArray n n2 dd jo sl jc<|by rw[e0];rfl) ⟨ho,iR,⟨.ref b,H,I,Y,q b H (g9.refl _)<|by rw[hx];exact hb⟩⟩
 . exact Ut aS s σ H (.ref a) (.ref b) (.ref a) (.ref b) Q I rfl rfl ⟨a,b,xs,ys,Y,Y,j3.of ha,j3.of hb,hx,hz,λz=>q a H (g9.refl _) (by rw[z,ck];exact ha),λ_ p np=>q p _ (c4 np) c0⟩
def D7(H H':Hp):Prop:=∀p vs,H p=some (.tup vs)->H' p=some (.tup vs)
def D7.refl(H:Hp):D7 H H:=λ_ _ h=>h
def D7.trans(x:D7 H H1)(y:D7 H1 H2):D7 H H2:=λp vs h=>y p vs (x p vs h)
def g9.t(x:g9 H H'):D7 H H':=λp vs h=>x p _ h
def l8(Pd:Nat->V->Hp->Prop)(ys:List V)(n:Nat)(H:Hp):Prop:=ys.length=n/\∀j,j < n->∃u,ys[j]? = some u/\Pd j u H
section
variable{Pd Pe:Nat->V->Hp->Prop}{ys:List V}{n:Nat}{H H':Hp}{v:V}
def l8.nil:l8 Pd [] 0 H:=⟨Y,λj h=>absurd h<|Nat.not_lt_zero j⟩
def l8.mono(h:l8 Pd ys n H)(s:∀j u,j < n->Pd j u H->Pe j u H'):l8 Pe ys n H':=⟨h.1,λj hj=>by
 obtain⟨u,e,p⟩:=h.2 j hj;exact⟨u,e,s j u hj p⟩⟩
def l8.snoc(h:l8 Pd ys n H)(p:Pd n v H):l8 Pd (ys++[v]) (n+1) H:=⟨by rw[ar,h.1];rfl,λj hj=>by
 by_cases hn:j < n
 . obtain⟨u,e,q⟩:=h.2 j hn;exact⟨u,by rw[aR<|by rw[h.1];exact hn];exact e,q⟩
 . have e:j=n:=by omega
   subst e;exact⟨v,by rw[bc (by rw[h.1];exact ae _),h.1,Nat.sub_self];rfl,p⟩⟩
theorem l8.at(h:l8 Pd ys n H)(e:ys[j]? = some u):j < n/\Pd j u H:=by
 have hj:j < n:=by rw[<- h.1];exact(aH.mp e).1
 obtain⟨u',e',p⟩:=h.2 j hj;rw[e]at e';cases e';exact⟨hj,p⟩
end
def Az(Pd:Nat->V->Hp->Prop)(n:Nat)(v:V)(H:Hp):Prop:=∃p vs,v=.ref p/\H p=some (.tup vs)/\l8 Pd vs n H
def Cs(K:aa)(Pd:Nat->V->Hp->Prop)(n:Nat)(v:V)(H:Hp):Prop:=∃S vs,Sr.ofV S v/\S.vals K H vs/\(∀H',g9 H H'->S.vals K H' vs/\R1 K v H' vs.length)/\l8 Pd vs n H
def Az.seq{K:aa}{Pd:Nat->V->Hp->Prop}{n:Nat}{v:V}{H:Hp}(h:Az Pd n v H):Cs K Pd n v H:=by obtain⟨p,vs,rfl,hp,e⟩:=h;exact⟨.tup p,vs,Y,j3.of hp,λH' q=>⟨j3.of<|q _ _ hp,.inr ⟨_,j3.of<|q _ _ hp,Y⟩⟩,e⟩
theorem Az.mono(h:Az Pd n v H)(s:D7 H H')(m:∀j u,j < n->Pd j u H->Pe j u H'):Az Pe n v H':=by obtain⟨p,vs,rfl,hp,e⟩:=h;exact⟨p,vs,Y,s _ _ hp,e.mono m⟩
theorem Cs.mono{K:aa}{Pd Pe:Nat->V->Hp->Prop}{n:Nat}{v:V}{H H':Hp}(h:Cs K Pd n v H)(s:g9 H H')(m:∀j u,j < n->Pd j u H->Pe j u H'):Cs K Pe n v H':=by obtain⟨S,vs,e,hv,hs,he⟩:=h;exact⟨S,vs,e,(hs _ s).1,λH2 q=>hs _<|s.trans q,he.mono m⟩
def Cs.list{K:aa}{Pd:Nat->V->Hp->Prop}{n:Nat}{p:Addr}{vs:List V}{H:Hp}(hp:H p=some (.lst vs))(e:l8 Pd vs n H):Cs K Pd n (.ref p) H:=
 ⟨.lst p,vs,Y,y7.of hp,λH' q=>⟨y7.of<|q _ _ hp,.inl ⟨_,y7.of<|q _ _ hp,Y⟩⟩,e⟩
def Az.len{K:aa}{Pd:Nat->V->Hp->Prop}{n:Nat}{v:V}{H:Hp}(h:Az Pd n v H):R1 K v H n:=by obtain⟨p,vs,rfl,hp,e⟩:=h;have e1:=e.1;subst e1;exact .inr ⟨_,j3.of hp,Y⟩
def u6{J:It}{n k:Nat}{g:TG}{te:TE}{σ:St}{Q:VK}{H1:Hp}(Pv:Nat->List V->Hp->Prop)(hn:n<=1000)(h0:Pv 0 [] H1)(hl:∀i ys H,Pv i ys H->ys.length=i)
    (nR:∀i ys H,i < n->Pv i ys H->J.go i H/\∀x H',J.yld i H x H'->g x (σ++List.replicate k none) H' λσ2 H2=>(∃zs,σ2=σ++zs/\zs.length=k)/\te σ2 H2 λv H3=>Pv (i+1) (ys++[v]) H3)
    (gm:∀ys H,Pv n ys H->J.stop n H) (fL:∀ys H p,Pv n ys H->H p=none->Q (.ref p) (upd H p<|.lst ys)) :
    Mj J k g te σ Q H1:=by
 have z:1000 < sizeLine:=by decide
 show⟨λi m ys H=>m=n - i/\i<=n/\Pv i ys H,⟨n,Y,bh _,h0⟩,?_⟩;rintro i m ys H ⟨rfl,hi,p⟩;have yl:=hl i ys H p;by_cases eV:i < n
 . obtain⟨a,b⟩:=nR i ys H eV p;show .inr ⟨a,Z,λx H' y=>?_⟩;have c:=b x H' y;have e:(λσ2 H2=>(∃zs,σ2=σ++zs/\zs.length=k)/\te σ2 H2 λv H3=>∃m',m' < n - i/\m'=n - (i+1)/\i+1<=n/\Pv (i+1) (ys++[v]) H3)=λσ2 H2=>(∃zs,σ2=σ++zs/\zs.length=k)/\te σ2 H2 λv H3=>Pv (i+1) (ys++[v]) H3:=by
    funext σ2 H2;congr 2;funext v H3;exact propext ⟨λ⟨_,_,_,_,q⟩=>q,λq=>⟨_,Z,Y,eV,q⟩⟩
   rw[e];exact c
 . have e:i=n:=by omega
   subst e;exact .inl ⟨gm ys H p,Z,λq nq=>fL ys H q p nq⟩
end L2
namespace L2
open PySem Mine
def Bv(C:Addr)(fs:List (Str × V))(H:Hp)(k:V):Prop:=∃p dx,k=.ref p/\H p=some (.ins C dx fs)
def Bv.same{C:Addr}{fs:List (Str × V)}{H H':Hp}{k:V}(e:g9 H H')(h:Bv C fs H k):Bv C fs H' k:=by obtain⟨p,dx,rfl,h⟩:=h;exact⟨p,dx,Y,e _ _ h⟩
def Ce(C:Addr)(fs:List (Str × V))(S:SR)(is:Hp->V->S.W->Prop)(f:S.W->S.W->S.W):Sp:=λvs H Q _=>∃k x y a b m n,vs=[k,x,y]/\
 (Bv C fs H k/\is H x a/\is H y b/\S.sz m a/\S.sz n b/\m+n<=60000000)/\∀v H',g9 H H'->is H' v (f a b)->Q v H'
def Cd(C:Addr)(fs:List (Str × V))(S:SR)(is:Hp->V->S.W->Prop)(z:S.W):Sp:=λvs H Q _=>∃k,vs=[k]/\Bv C fs H k/\∀v H',g9 H H'->is H' v z->Q v H'
def KS(C:Addr)(fs:List (Str × V))(S:SR)(is:Hp->V->S.W->Prop):Sp:=λvs H Q _=>∃k x a,vs=[k,x]/\(Bv C fs H k/\is H x a)/\Q (.bl true) H
set_option genInjectivity false in
set_option genSizeOfSpec false in
structure c5(P:Program)(w:World)(K:aa)(mg:w1g)(base:Heap)where
 S:SR
 C:Addr
 fs:List (Str × V)
 cl:Mq K C
 is:Hp->V->S.W->Prop
 same:∀{H H':Hp} {v:V} {x:S.W},D7 H H'->is H v x->is H' v x
 isd:∀{H:Hp} {v:V} {x:S.W},is H v x->Is K H v (S.data x)
 f_plus:Addr
 d_plus:FuncData
 t_plus:Ik K C "plus" f_plus
 b_plus:J1 K d_plus ["self","x","y"] []
 l_plus:fs.lookup ("plus":Str)=none
 G_plus:j2 P w K mg base B7 40 f_plus d_plus ["self","x","y"] (Ce C fs S is S.add)
 f_times:Addr
 d_times:FuncData
 t_times:Ik K C "times" f_times
 b_times:J1 K d_times ["self","x","y"] []
 l_times:fs.lookup ("times":Str)=none
 G_times:j2 P w K mg base B7 40 f_times d_times ["self","x","y"] (Ce C fs S is S.mul)
 f_nought:Addr
 d_nought:FuncData
 t_nought:Ik K C "nought" f_nought
 b_nought:J1 K d_nought ["self"] []
 l_nought:fs.lookup ("nought":Str)=none
 G_nought:j2 P w K mg base B7 40 f_nought d_nought ["self"] (Cd C fs S is S.zero)
 f_is_weight:Addr
 d_is_weight:FuncData
 t_is_weight:Ik K C "is_weight" f_is_weight
 b_is_weight:J1 K d_is_weight ["self","thing"] []
 l_is_weight:fs.lookup ("is_weight":Str)=none
 G_is_weight:j2 P w K mg base B7 40 f_is_weight d_is_weight ["self","thing"] (KS C fs S is)
 f_one:Addr
 d_one:FuncData
 t_one:Ik K C "one" f_one
 b_one:J1 K d_one ["self"] []
 l_one:fs.lookup ("one":Str)=none
 G_one:j2 P w K mg base B7 40 f_one d_one ["self"] (Cd C fs S is S.one)
section
variable{P:Program}{w:World}{K:aa}{mg:w1g}{base:Heap}
def c5.neD(R:c5 P w K mg base){H:Hp}{x y:V}{a b:R.S.W}{Q:VK}(hx:R.is H x a)(hy:R.is H y b)(e:a=b)(q:Q (.bl false) H):WH K x y H Q:=
 ⟨_,_,R.isd hx,R.isd hy,R.S.sh _,R.S.sh _,R.S.nm _ _,by subst e;rw[R.S.eq];exact q⟩
def c5.neT(R:c5 P w K mg base){H:Hp}{x y:V}{a b:R.S.W}{Q:VK}(hx:R.is H x a)(hy:R.is H y b)(e:a≠b)(q:Q (.bl true) H):WH K x y H Q:=
 ⟨_,_,R.isd hx,R.isd hy,R.S.sh _,R.S.sh _,R.S.nm _ _,by rw[R.S.ne _ _ e];exact q⟩
end
def Mp(H:Hp)(v:V)(a b:Int):Prop:=∃p,v=.ref p/\H p=some (.tup [.int a,.int b])
def Mp.same{H H':Hp}{v:V}{a b:Int}(e:D7 H H')(h:Mp H v a b):Mp H' v a b:=by obtain⟨p,rfl,h⟩:=h;exact⟨p,Y,e _ _ h⟩
def Mp.is{K:aa}{H:Hp}{v:V}{a b:Int}(h:Mp H v a b):Is K H v (.tuple [.int a,.int b]):=by obtain⟨p,rfl,h⟩:=h;exact .tup (j3.of h) (.cons (.int _)<|.cons (.int _) .nil)
def Mp.new{H:Hp}{p:Addr}{a b:Int}:Mp (upd H p<|.tup [.int a,.int b]) (.ref p) a b:=⟨p,Y,c0⟩
def Qs(H:Hp)(v:V)(x:Fr):Prop:=Mp H v x.t x.b
def Qr(p:Int)(_:Hp)(v:V)(x:Re p):Prop:=v=.int x.x
def cV:Option Int->V
 | none=>.non
 | some i=>.int i
def Qt(_:Hp)(v:V)(x:Option Int):Prop:=v=cV x
def Qq(_:Hp)(v:V)(x:Bool):Prop:=v=.bl x
def RS(p:Int):List (Str × V):=Bc "prime" (.int p) []
def Ex(p:Int):(RS p).lookup ("prime":Str)=some (.int p):=by unfold RS;rw[W0,if_pos rfl]
def Gm(p:Int){m:Str}(h:¬m="prime"):(RS p).lookup m=none:=by unfold RS;rw[W0,if_neg h];rfl
def BB{H:Hp}{C x dx:Addr}{fs:List (Str × V)}(n:H x=none)(m:H dx=none):g9 H (upd (upd H dx<|.own x) x<|.ins C dx fs):=λb o e=>by
 rw[k8<|k9 e n,k8<|k9 e m];exact e
def Td(xs:List V)(k:Nat):AE xs none (some (k:Int))=xs.take k:=by
 unfold AE;rw[HT.Le,HT.Om,List.drop_zero,Nat.sub_zero];by_cases h:k<=xs.length
 . rw[bN h]
 . rw[Nat.min_eq_right Z,bE,cZ Z]
def m0v{i j:Int}(e:i=j):decide (V.int i=V.int j)=true:=decide_eq_true (congrArg V.int e)
def KL{x:Int}{n:Nat}(h:x.natAbs<=2 ^ n):Builtin.Int.intBits x<=n+1:=intBits_le_iff.mpr (Nat.lt_of_le_of_lt h<|Nat.pow_lt_pow_right bD<|bb _)
def HL{x y:Int}{m n:Nat}(h1:x.natAbs<=2 ^ m)(h2:y.natAbs<=2 ^ n)(h:m+n<=60000000):Fc x y:=by
 have a:=KL h1;have b:=KL h2;show _<=2 ^ 27;have e:(2:Nat) ^ 27=134217728:=by decide
 omega
def c5.Wt{P:Program}{w:World}{K:aa}{mg:w1g}{base:Heap}(R:c5 P w K mg base)(x:w1a R.S)(m:Nat):Nat->V->Hp->Prop:=λj u H=>R.is H u (x j)/\R.S.lv m 32 (x j)
abbrev c5.Row{P:Program}{w:World}{K:aa}{mg:w1g}{base:Heap}(R:c5 P w K mg base)(n:Nat)(x:w1a R.S)(m:Nat):V->Hp->Prop:=Az (R.Wt x m) n
abbrev c5.Seq{P:Program}{w:World}{K:aa}{mg:w1g}{base:Heap}(R:c5 P w K mg base)(n:Nat)(x:w1a R.S)(m:Nat):V->Hp->Prop:=Cs K (R.Wt x m) n
abbrev c5.Tab{P:Program}{w:World}{K:aa}{mg:w1g}{base:Heap}(R:c5 P w K mg base)(h n:Nat)(x:w1b R.S)(m:Nat):V->Hp->Prop:=Az (λj u H=>R.Row n (x j) m u H) h
section
variable{P:Program}{w:World}{K:aa}{mg:w1g}{base:Heap}{R:c5 P w K mg base}{h n m:Nat}{x:w1a R.S}{y:w1b R.S}{v:V}{H H':Hp}
theorem c5.Wt.same(s:D7 H H'){j:Nat}(e:R.Wt x m j v H):R.Wt x m j v H':=⟨R.same s e.1,e.2⟩
theorem c5.Row.same(s:D7 H H')(e:R.Row n x m v H):R.Row n x m v H':=e.mono s λ_ _ _ q=>c5.Wt.same s q
theorem c5.Seq.same(s:g9 H H')(e:R.Seq n x m v H):R.Seq n x m v H':=e.mono s λ_ _ _ q=>c5.Wt.same s.t q
theorem c5.Tab.same(s:D7 H H')(e:R.Tab h n y m v H):R.Tab h n y m v H':=e.mono s λ_ _ _ q=>c5.Row.same s q
end
end L2
namespace Mine
def sm(S:SR)(f:w1a S):w1a S
 | 0=>S.zero
 | n+1=>S.add (sm S f n) (f n)
section
variable{S:SR}
theorem d9:∀{n:Nat},(∀i,i < n->f i=g i)->sm S f n=sm S g n
 | 0,_=>rfl
 | n+1,h=>by
  show S.add _ _=S.add _ _;rw[d9 λi hi=>h i<|bQ hi,h n<|bb n]
theorem Ac:∀n:Nat,sm S (λ_=>S.zero) n=S.zero
 | 0=>rfl
 | n+1=>by show S.add _ _=_;rw[Ac n,S.add_zero]
theorem Eh(f g:w1a S):∀n:Nat,sm S (λi=>S.add (f i)<|g i) n=S.add (sm S f n) (sm S g n)
 | 0=>(S.add_zero S.zero).symm
 | n+1=>by
  show S.add _ _=S.add (S.add _ _) (S.add _ _);rw[Eh f g n,S.add_assoc,S.add_assoc];congr 1;rw[<- S.add_assoc,S.add_comm (sm S g n)<|f n,S.add_assoc]
theorem Q4(c:S.W)(f:w1a S):∀n:Nat,S.mul c (sm S f n)=sm S (λi=>S.mul c<|f i) n
 | 0=>S.mul_zero c
 | n+1=>by
  show S.mul c (S.add _ _)=S.add _ _;rw[S.distrib,Q4 c f n]
def U5(c:S.W)(f:w1a S)(n:Nat):S.mul (sm S f n) c=sm S (λi=>S.mul (f i) c) n:=by rw[S.mul_comm,Q4];exact d9 λi _=>S.mul_comm _ _
theorem Bz(f:w1b S)(k:Nat):∀n:Nat,sm S (λi=>sm S (λj=>f i j) k) n=sm S (λj=>sm S (λi=>f i j) n) k
 | 0=>(Ac k).symm
 | n+1=>by
  show S.add _ _=_;rw[Bz f k n,<- Eh];rfl
def Dx(r:w1a S)(A:w1b S)(b:w1a S)(h w:Nat) :
    sm S (λj=>S.mul (sm S (λi=>S.mul (r i)<|A i j) h)<|b j) w=sm S (λi=>S.mul (r i)<|sm S (λj=>S.mul (A i j)<|b j) w) h:=by
 have e1:∀j,j < w->S.mul (sm S (λi=>S.mul (r i)<|A i j) h) (b j)=sm S (λi=>S.mul (r i)<|S.mul (A i j)<|b j) h:=λj _=>by
  rw[U5];exact d9 λi _=>S.mul_assoc _ _ _
 have e2:∀i,i < h->S.mul (r i) (sm S (λj=>S.mul (A i j)<|b j) w)=sm S (λj=>S.mul (r i)<|S.mul (A i j)<|b j) w:=λi _=>Q4 _ _ _;rw[d9 e1,d9 e2,Bz]
end
def VR(S:SR){α:Type}(f:α->S.W):List α->S.W
 | []=>S.zero
 | a::l=>S.add (f a) (VR S f l)
section
variable{S:SR}{α β:Type}
def zero_add(x:S.W):S.add S.zero x=x:=by rw[S.add_comm,S.add_zero]
def one_mul(x:S.W):S.mul S.one x=x:=by rw[S.mul_comm,S.mul_one]
def zero_mul(x:S.W):S.mul S.zero x=S.zero:=by rw[S.mul_comm,S.mul_zero]
theorem Od(f:α->S.W):∀l l':List α,VR S f (l++l')=S.add (VR S f l) (VR S f l')
 | [],l'=>(zero_add _).symm
 | a::l,l'=>by
  show S.add _ _=S.add (S.add _ _) _;rw[List.append_eq,Od f l l',S.add_assoc]
def Rr(f:α->S.W)(l:List α)(a:α):VR S f (l++[a])=S.add (VR S f l) (f a):=by rw[Od];show S.add _ (S.add _ S.zero)=_;rw[S.add_zero]
theorem Pl(f:w1a S):∀n:Nat,VR S f (List.range n)=sm S f n
 | 0=>rfl
 | n+1=>by rw[List.range_succ,Rr,Pl f n];rfl
theorem Of(c:S.W)(k:Nat):∀n:Nat,sm S (λi=>if k=i then c else S.zero) n=if k < n then c else S.zero
 | 0=>by rw[if_neg<|Nat.not_lt_zero k];rfl
 | n+1=>by
  show S.add _ (if k=n then c else S.zero)=_;rw[Of c k n];by_cases h:k < n
  . rw[if_pos h,if_neg Z,if_pos Z,S.add_zero]
  . by_cases e:k=n
    . rw[if_neg h,if_pos e,if_pos Z,zero_add]
    . rw[if_neg h,if_neg e,if_neg Z,S.add_zero]
def FY(g:w1a S)(k n:Nat)(h:k < n):sm S (λi=>if k=i then g i else S.zero) n=g k:=by
 have e:sm S (λi=>if k=i then g i else S.zero) n=sm S (λi=>if k=i then g k else S.zero) n:=d9 λi _=>by
  by_cases e:k=i
  . rw[if_pos e,if_pos e,e]
  . rw[if_neg e,if_neg e]
 rw[e,Of,if_pos h]
end
def YE(n:Nat)(w:w1h):List w1h:=(List.range n).map λr=>w++[r]
def wys(n:Nat):Nat->List w1h
 | 0=>[[]]
 | k+1=>(wys n k).flatMap (YE n)
def hd(w:w1h):Nat:=w.headD 0
def la(w:w1h):Nat:=w.getLastD 0
section
variable(S:SR)(n:Nat)(st:w1a S)(tb:w1c S)(wd:Nat->Nat)
def K4:w1b S
 | 0=>st
 | k+1=>λj=>sm S (λi=>S.mul (K4 k i)<|tb (wd k) i j) n
def Mn:Nat->(w1a S)->Nat->S.W
 | 0,c=>c
 | k+1,c=>Mn k λi=>sm S (λj=>S.mul (tb (wd k) i j)<|c j) n
variable{S n st tb wd}
end
end Mine
namespace L2
open PySem PySem.Spec PyProof.Rows
def Rx(z:Str)(i:Nat):Str:=⟨#[(z.cps[i]?).getD 0]⟩
def met(z:Str)(i:Nat)(k:Str):Bool:=(List.range i).any λj=>k == Rx z j
def Sx(z:Str)(i:Nat)(k:Str):met z (i+1) k=(met z i k || decide (k=Rx z i)):=by
 unfold met;rw[List.range_succ,List.any_append];have e:(k == Rx z i)=decide (k=Rx z i):=by rw[bU,beq_iff_eq,decide_eq_true_eq]
 simp[List.any_cons,e]
def UE{z:Str}{i:Nat}(nd:z.cps.toList.Nodup)(hi:i < z.cps.size):met z i (Rx z i)=false:=by
 unfold met;rw[List.any_eq_false];intro j hj;have hj:=cj.mp hj;simp only[beq_iff_eq];intro e;have e1:(z.cps[i]?).getD 0=(z.cps[j]?).getD 0:=by have:=congrArg (λs:Str=>s.cps[0]?) e;simpa [Rx] using this
 rw[Array.getElem?_eq_getElem hi,Array.getElem?_eq_getElem Z]at e1;have e2:z.cps.toList[i]'(by simpa using hi)=z.cps.toList[j]'(by simp;omega):=by simpa using e1
 exact(List.pairwise_iff_getElem.mp nd) j i (by simp;omega) (by simpa using hi) hj e2.symm
section
variable{prog:Program}{w:World}{A:Around}{R:Result->Shared->Prop}{I:Addr}{fp wr:List Addr}{G:Array GenState->Array GenState->Prop}{St:Nat->Shared->Prop}
def Pn{z:Str}(W:WalksS prog w A.in1 I fp wr G z.cps.size (SignAt z) St)(S:Addr)(lr:S ∉ fp)(nd:z.cps.toList.Nodup)(hb:z.cps.size+1 < scanBound) :
    ∀(k i:Nat) (s:Shared),z.cps.size - i=k->i<=z.cps.size->St i s->
     s.heap.SetOf (PySem.strKind prog w) S (met z i) i->
     (∀s',Moved (S::wr) G s s'->s'.heap.SetOf (PySem.strKind prog w) S (met z z.cps.size) z.cps.size->R (.ok<|.ret .none) s')->
     codeAny (model prog w) A (.builtin "set.update.loop" ⟨[.ref S,.ref I],[]⟩) R s:=by
 have qa:S ∉ wr:=λh=>lr<|W.sub _ h;have gk:∀b∈wr,b∈S::wr:=λb hb=>aG _ hb;intro k
 induction k with
 | zero=>
  intro i s hk hi fK hS hR;have iu:i=z.cps.size:=by omega
  subst iu;show codeAny_builtin PyProof.Rows.F.entry_set_update_loop ?_;rw[Around.under_plainId dk _];show wpAny _ A.in1 (pyNext (.ref I) >>= _) _ _ s;show wpAny_bind<|W.done s _ _ fK λs' hm=>?_;show wpAny _ A.in1 (ret Value.none) _ _ s';exact wpAny_pure (hR s' (hm.mono gk) (by
   obtain⟨o,es,ep,t,ho,Y5⟩:=hS;exact⟨o,es,ep,t,hm.heap S _ qa ho,Y5⟩))
 | succ k ih=>
  intro i s hk hi fK hS hR;have eV:i < z.cps.size:=by omega
  show codeAny_builtin PyProof.Rows.F.entry_set_update_loop ?_;rw[Around.under_plainId dk _];show wpAny _ A.in1 (pyNext (.ref I) >>= _) _ _ s;show wpAny_bind<|W.item i s _ _ eV fK λv s' hP nF hm=>?_;obtain⟨c,t,hc,rfl⟩:=hP;have ec:(⟨#[c]⟩:Str)=Rx z i:=by unfold Rx;rw[hc];rfl
  rw[ec];have km:s'.heap.SetOf (PySem.strKind prog w) S (met z i) i:=by obtain⟨o,es,ep,tb,ho,Y5⟩:=hS;exact⟨o,es,ep,tb,hm.heap S _ qa ho,Y5⟩
  show wpAny _ A.in1 (holding [Value.str (Rx z i) t] (setAdd S<|.str (Rx z i) t) >>= _) _ _ s';show wpAny_bind<|wpAny_holding ?_;unfold setAdd;show wpAny_holding ?_;show wpAny_bind<|(PySem.strKind prog w).pyHash (k:=Rx z i) (strKind_is _ _ _ _) ?_;show wpAny_setAddHashed_of (knd:=PySem.strKind prog w) (s:={ s' with toks:=s'.toks+1 }) (strKind_is _ _ _ _) rfl km Z λh' pK xk=>?_;have xj:h'.SetOf (PySem.strKind prog w) S (met z<|i+1) (i+1):=
   SetOf_congr xk (λk'=>by rw[Sx]) (by rw[UE nd eV];rfl)
  show wpAny_pure ⟨plainId_quiet dk _,ih (i+1) _ Z eV (W.frame _ s' _ _ nF (aY _) λb hb o e=>?_) xj λeE nL oo=>?_⟩
  . rw[pK.2 b (λh:b=S=>lr<|by rw[<- h];exact hb)];exact e
  . show hR eE (Moved.trans W.gtrans ((hm.mono gk).then_heap (aY _) λb o hb e=>?_) nL) oo;rw[pK.2 b (λh:b=S=>hb<|by rw[h];exact aF)];exact e
end
section
variable{prog:Program}{w:World}{A:Around}{E:w1f}{s:Shared}
set_option maxRecDepth 100000 in
def Km{z:Str}{t:Tok}{Q:w1f}(hh:A.handled=none)(nd:z.cps.toList.Nodup)(hb:z.cps.size+1 < scanBound)
    (h:∀(h':Heap) (tk:Nat),h'.SetOf (PySem.strKind prog w) s.heap.objs.size (met z z.cps.size) z.cps.size->
     (∀b o,b < s.heap.objs.size->s.heap.get? b=some o->h'.get? b=some o)->Q (.ref s.heap.objs.size) { s with heap:=h',toks:=tk }) :
    wpAny (model prog w) A (call (.type "set") [.str z t]) Q E s:=by
 obtain⟨c,tl,wI⟩:=PySem.F.called_set.mro;have pP:=PySem.F.called_set.made;have gk:=PySem.F.called_set.sub;show wpAny_call<|codeAny_of_tree ?_;show wpAny _ _ (callAny (.type "set") _) _ _ _;show wpAny_pure ⟨Code.quiet_builtin _ dK,codeAny_builtin F.entry_type_call ?_⟩;rw[Around.under_plain (weight_type_call_type "set" [.str z t] []) rfl];have h1:=PySem.F.called_set.notType;have h2:=PySem.F.called_set.canCreate;have yn:=PySem.F.typeCall_set_1 (.str z t)
 repeat (any_goals (first | assumption | wp_step))
 show codeAny_mono (code_set_new_1 (.str z t) (E:=E) (Q₁:=λobj s₁=>∃gG:Bool,obj=.ref s.heap.objs.size/\s₁={ s with heap:=s.heap.push { cls:=.type "set",dict:=none,data:=.set #[] 0 (.fresh 0 0 gG) } }) λgG=>⟨gG,Y,Y⟩) λr s₁ hr=>?_;cases r with
 | error e=>exact hr
 | ok fl=>
  cases fl with
  | ret obj=>
   obtain⟨gG,rfl,rfl⟩:=hr;have hS:(s.heap.push { cls:=.type "set",dict:=none,data:=.set #[] 0 (.fresh 0 0 gG) }).get? s.heap.objs.size=some { cls:=.type "set",dict:=none,data:=.set #[] 0 (.fresh 0 0 gG) }:=ak _ rfl;have hT:Shared.TypeIs { s with heap:=s.heap.push { cls:=.type "set",dict:=none,data:=.set #[] 0 (.fresh 0 0 gG) } } (.ref s.heap.objs.size) "set":=⟨_,hS,Y⟩;have yk:=PySem.F.called_set.init.lookup;have yp:=PySem.F.called_set.init.bind (.ref s.heap.objs.size)
   repeat (any_goals (first | assumption | wp_step))
   show codeAny_mono (codeAny_call_builtin (R:=wants (λr s₂=>r=.none/\∃h' tk,s₂={ s with heap:=h',toks:=tk }/\
       h'.SetOf (PySem.strKind prog w) s.heap.objs.size (met z z.cps.size) z.cps.size/\
       (∀b o,b < s.heap.objs.size->s.heap.get? b=some o->h'.get? b=some o)) E) PySem.F.called_set.init.plain PySem.F.entry_set_init<|check_set_init_1 hT ?_) λr₂ s₂ gu=>?_
   . have wt:=PySem.F.sub_str_set;have wu:=PySem.F.sub_str_frozenset;have yh:(Value.type "str" == Value.type "dict")=false:=by decide
     unfold Builtin.«set.__init__» noKeywords Builtin.Frozenset.updateFrom;generalize xm:pyIter=PI
     wp_walk
     subst xm;show wpAny_pyIter_str λo St W fK=>?_;show wpAny_bind<|wpAny_runValue ?_;have wW:A.in1.in1.in1.handled=none:=by simp[hh]
     have lr:s.heap.objs.size ∉ [(s.heap.push { cls:=.type "set",dict:=none,data:=.set #[] 0 (.fresh 0 0 gG) }).objs.size]:=by rw[aL];simp only[aq];exact ai (bb _)
     show Pn ((W _ wW).toS) s.heap.objs.size lr nd hb (z.cps.size - 0) 0 _ Z (bh _) fK ?hS0 ?hR
     case hS0=>
      have nS:=ag o hS;exact PyProof.Rows.SetOf_congr ((PyProof.Rows.setObjOf_fresh (knd:=PySem.strKind prog w) gG).setOf nS<|by unfold scanBound;omega) (λ_=>rfl) rfl
     case hR=>
      intro s' hm km;obtain⟨h',g',d',um,mQ⟩:=s';have eg:g'=s.gens:=hm.gens;have ed:d'=s.drawn:=hm.drawn;have eo:mQ=s.os:=hm.os;subst eg;subst ed;subst eo;show wpAny _ _ _ _ _ _;show wpAny_pure ?_;show wpAny _ _ (ret Value.none) _ _ _;show wpAny_pure ⟨Y,h',um,Y,km,λb o hb e=>?_⟩;have kj:b≠s.heap.objs.size:=ai hb;have ki:b≠(s.heap.push { cls:=.type "set",dict:=none,data:=.set #[] 0 (.fresh 0 0 gG) }).objs.size:=by rw[aL];exact ai (bQ hb)
      exact hm.heap b o (by simp only[aw,aq,bq,or_false,not_or];exact⟨kj,ki⟩) (ag _<|ag _ e)
   . cases r₂ with
     | error e=>exact gu
     | ok kA=>
      cases kA with
      | ret r=>
       obtain⟨rfl,h',tk,rfl,km,wR⟩:=gu
       repeat (any_goals (first | assumption | wp_step))
       exact h _ _ km wR
      | _=>exact gu.elim
  | _=>exact hr.elim
end
def YO(ta:TA):TE:=λσ H Q=>ta σ H λvs H1=>∃z,vs=[.str z]/\z.cps.toList.Nodup/\z.length<=1000/\Q (.int z.length) H1
def PF{X:Cx}{a:Expr}{ta:TA}{p p' pos dP:Pos}(hc:X.calm=true)(hg:Gl X "len")(hm:X.mg "len"=none)(wY:Gl X "set")(gy:X.mg "set"=none)(ha:PA X [a] ta)
    (hs:starEach [a] X.env=[(false,eval a X.env)]:=by rfl) (fE:starEach [.Call (.Name "set" p') [a] [] dP] X.env=[(false,eval (.Call (.Name "set" p') [a] [] dP) X.env)]:=by rfl) :
    PE X (.Call (.Name "len" p) [.Call (.Name "set" p') [a] [] dP] [] pos) (YO ta):=by
 intro aS s σ H Q I h;show wpAny_Call_Name_kw<|X1 I hg hm PySem.boot_len ?_;show PyProof.Rows.callWith_builtin1 ?_ fE rfl;rw[fE];show Calls.spliced_cons ?_;show Call_<|X1 I wY gy boot_set<|bP (B0 (ha dP aS s σ H _ I h) λus s1 ⟨vs,H1,I1,r1,q1⟩=>?_) hs Y;obtain⟨z,e,nd,hz,q⟩:=q1;subst e;cases r1 with
 | cons r rr=>
  cases rr;obtain⟨t,rfl⟩:=r;have fj:z.cps.size<=1000:=hz;show Km (I1.ok.hd hc) nd (by unfold scanBound;omega) λh' tk hS up=>?_;show Calls.spliced_nil ?_;obtain⟨o,es,ep,tb,ho,lh,hd,_,_,_,hf,hsz⟩:=id hS;show call_len_set (s:={ s1 with heap:=h',toks:=tk }) ho lh hd hf Z ?_;show⟨.int _,H1,(I1.kept (t':=tk+1+1) λb ob e=>up b ob (af e) e),⟨_,Y⟩,?_⟩;rw[hsz];exact q
def RK(z:Str):Str:=⟨z.cps.toList.reverse.toArray⟩
def KU(z:Str)(uk:Tok):Txt.sliceBy z none none (-1,uk)=RK z:=by
 unfold Txt.sliceBy;rw[if_neg<|by simp];show(⟨((Builtin.Str.strSliceIndices none none (-1) z.length).filterMap (z.cps[·]?)).toArray⟩:Str)=_;have e:Builtin.Str.strSliceIndices none none (-1) z.length=(List.range z.cps.size).reverse:=by show sliceRange ((z.length:Int) - 1) (-1) (-1)=_;rw[PySem.W.krv_sliceRange,PySem.W.krv_range];rfl
 rw[e,List.filterMap_reverse,PySem.W.krv_all];rfl
def WR{X:Cx}{e st:Expr}{te ts:TE}{p2 pos:Pos}(he:PE X e te)(fK:PE X st ts):PE X (.Subscript e (.Slice none none (some st) p2) pos) (λσ H Q=>te σ H λx H1=>ts σ H1 λy H2=>∃z,x=.str z/\y=.int (-1)/\z.length<=sizeLine/\Q (.str<|RK z) H2):=by
 intro aS s σ H Q I h;show Subscript_<|B0 (he aS s σ H _ I h) λv s1 ⟨x,H1,I1,r1,q1⟩=>?_;show wpAny_Slice ?_;rw[evalPart_none];show wpAny_pure ?_;show wpAny_pure ?_;show wpAny _ _ (eval st X.env) _ _ _;show B0 (fK aS s1 σ H1 _ I1 q1) λvk s2 ⟨y,H2,I2,r2,z,ex,ey,hz,q⟩=>?_;subst ex ey;obtain⟨t,rfl⟩:=r1;obtain⟨uk,rfl⟩:=r2;have I4:j5 X aS σ H2 { s2 with heap:=s2.heap.push { cls:=.type "slice",data:=.fields #[.none,.none,.int (-1) uk] } }:=I2.kept (t':=s2.toks) λb ob q=>ag _ q;show tail_any (T:="str") (ops:=[.ref s2.heap.objs.size,.str z t]) (typeIs_str _ _ _) F.slot_str_getitem.lookup (wpAny_getItem_str_slice (l:=none) (u:=none) (st:=some (-1,uk)) ⟨_,ak _ Y,Y,Y⟩ Y
  (post_val_or_str ⟨ah (Txt.sliceBy_le z none none (-1,uk)<|show(-1:Int)≠0 by decide) hz,λt' c=>?_⟩)) (by with_unfolding_all rfl)
 have e:=KU z uk;unfold Txt.sliceBy at e;rw[e];exact⟨.str<|RK z,H2,I4.tok _,⟨_,Y⟩,q⟩
end L2
namespace HT
open PySem PySem.Spec PyProof.Rows L2
section
variable{prog:Program}{w:World}{A:Around}{E:w1f}{s:Shared}
def Eb{t sl:Addr}{items:Array Value}{vl vu:Value}{lo hi:Option Int}{Q:w1f}(ht:IsTup s.heap t items)(hs:s.heap.IsSliceOf sl vl vu .none)(pl:IsPart vl lo)(pu:IsPart vu hi)
    (hw:N8 items.size 0 lo=0/\N8 items.size items.size hi=items.size) (h:Q (.ref t) s):wpAny (model prog w) A (getItem (.ref t)<|.ref sl) Q E s:=by
 obtain⟨os,iP,jj,jW⟩:=id hs;have oi:s.TypeIs (.ref sl) "slice":=⟨os,iP,jj⟩;unfold getItem
 try with_reducible show wpAny_holding ?_
 first | show wpAny_bind (wpAny_pure ?_) | skip
 show wpAny_bind<|wpAny_sequenceKey ht.typeIs bD ?_;show wpAny_bind (wpAny_callSpecial?_slot (name:=Str.ofString "__getitem__") ht.typeIs cQ
  (wpAny_call_entry cQ ht.typeIs entry_tuple_getitem ?_<|args_tuple_getitem _ _))
 show wpAny _ _ (Builtin.Tuple.tupleItemsOf (.ref t) >>= _) _ _ s;show wpAny_bind<|tupleItemsOf_ ht ?_;show wpAny_bind<|wpAny_typeOf oi ?_;rw[if_pos bD];show wpAny_bind<|Y3 hs pl pu ?_;rw[hw.1,hw.2];have nt:((((0:Nat):Int) == 0 && (1:Int) == 1 && (items.size - 0) == items.size)=true):=by simp
 show wpAny _ _ (if((((0:Nat):Int) == 0 && (1:Int) == 1 && (items.size - 0) == items.size)=true)then _ else _) _ _ s;rw[if_pos nt];show wpAny_bind<|wpAny_bind (m:=typeOf<|.ref t)<|wpAny_typeOf ht.typeIs<|wpAny_pure ?_;rw[if_pos bD];show wpAny_bind<|wpAny_rule ?_;exact wpAny_pure ⟨_,rfl,wpAny_pure h⟩
end
end HT
namespace L2
open PySem PySem.Spec PyProof.Rows
def b0z(K:aa):V->Option Int->Option Int->Hp->VK->Prop:=λx lo hi H Q=>∃a xs,x=.ref a/\j3 K H a xs/\H a=some (.tup xs)/\
 ∀p H',g9 H H'->H' p=some (.tup<|AE xs lo hi)->Q (.ref p) H'
def Jm:n0a X (b0z X.K):=by
 intro aS s σ H x v vl vu lo hi sl Q I rx hs pl pu h;obtain⟨a,xs,rfl,hx,ny,q⟩:=h;by_cases hw:HT.N8 xs.length 0 lo=0/\HT.N8 xs.length xs.length hi=xs.length
 . cases rx;obtain⟨dw,r,ht,hz⟩:=I.tuple hx;have dE:dw.toArray.size=xs.length:=by rw[aj];exact r.length.symm
   show⟨"tuple",_,PyProof.Rows.slot_tuple_getitem.lookup,ht.typeIs,?_⟩;show HT.Eb ht hs pl pu (by rw[dE];exact hw) ?_;show⟨.ref a,H,I,Y,q a H (g9.refl _) ?_⟩;rw[ny];unfold AE;rw[hw.1,hw.2,Nat.sub_zero,List.drop_zero,bE]
 . exact VS aS s σ H _ v vl vu lo hi sl Q I rx hs pl pu ⟨a,xs,Y,hx,hw,λp n=>q p _ (c4 n) c0⟩
end L2
namespace L2
open PySem PySem.Spec PyProof.Rows PySem.W
section
variable{X:Cx}{aS:w1e}{σ:St}{H:Hp}{s:Shared}{a:Addr}{aT:List (G6 × V)}
end
def KV.at{κ:Type}{aT:List (κ × V)}{vs:List (κ × Value)}(r:KV aT vs){i:Nat}{p:κ × V}(h:aT[i]? = some p):∃v,vs[i]? = some (p.1,v):=by
 induction r generalizing i with
 | nil=>cases h
 | cons e _ ih=>
  cases i with
  | zero=>cases h;exact⟨_,by rw[List.getElem?_cons_zero];exact congrArg some<|Prod.ext e.1.symm Y⟩
  | succ i=>exact ih h
section
variable{X:Cx}{tg:Expr}
end
section
variable{X:Cx}
end
structure M0(X:Cx)(o:Expr)(m:Str)(dM dD:Pos):Prop where
 base:attributeBase o m X.env (eval o X.env)=eval o X.env
 few:((backTo dD<|starEach [] X.env).all (λx=>!x.1) && (backToKw dD<|keywordEach [] X.env).all (λx=>x.1.isSome)
  && decide (([]:List Expr).length+([]:List Keyword).length+(if([]:List Keyword).isEmpty then 0 else 1) < 30))=true
 line:(dM.endLine == dD.line)=true
end L2
namespace L2
open PySem PySem.Spec PyProof.Rows
def UH(aT:List (Str × Int)):List (G6 × V):=aT.map λp=>(Sum.inr p.1,V.int p.2)
structure To(P:Program)(w:World)(K:aa)(a:Addr)(aT:List (Str × Int)):Prop where
 ns:(a == sysModules)=false
 of:∃vs,KV (UH aT) vs/\∀h,K.In h->h.DictOf (C4 P w) a vs
def tGK(a:Addr)(aT:List (Str × Int))(td ty:TE):TE:=λσ H Q=>td σ H λx H1=>ty σ H1 λy H2=>∃z v,x=.ref a/\y=.str z/\E5 (UH aT) (.inr z)=some v/\Q v H2
section
variable{X:Cx}{o i:Expr}{pos:Pos}{td ty:TE}{a:Addr}{aT:List (Str × Int)}
def c0d(D:To X.prog X.w X.K a aT)(ho:PE X o td)(hi:PE X i ty)(hs:Yh i):PE X (.Subscript o i pos) (tGK a aT td ty):=by intro aS s σ H Q I h;show Ob PySem.F.slot_dict_getitem.lookup hs<|B0 (ho aS s σ H _ I h) λu s1 ⟨x,H1,I1,rx,q1⟩=>B0 (hi aS s1 σ H1 _ I1 q1) λiv s2 hζ=>?_;obtain⟨y,H2,I2,ry,z,v,ex,ey,l,q2⟩:=hζ;subst ex;subst ey;obtain rfl:u=Value.ref a:=rx;obtain⟨vs,rel,dd⟩:=D.of;have dd:=dd _ I2.kIn;obtain⟨w',hw,fF⟩:=Bu.some_of (v:=v) (o:=valueAt vs<|.inr z) (by rw[<- l];exact rel.val<|.inr z);exact⟨dd.typeIs,wpAny_getItem_of (LN (k:=.inr z) ry) dd.mapOf hw ⟨v,H2,I2.tok _,fF,q2⟩⟩
end
end L2
namespace L2
open PySem PySem.Spec PyProof.Rows PySem.Builtin PySem.Builtin.Str
section
variable{X:Cx}
end
section
variable{X:Cx}
theorem Kz:∀{ls:w1i} {dw:w1j},m9 (ls.map V.str) dw->∃l:List (Str × Tok),dw=strValues l/\l.map (·.1)=ls
 | [],_,.nil=>⟨[],Y,Y⟩
 | x::ls,_,.cons r rs=>by
  obtain⟨t,rfl⟩:=r;obtain⟨l,rfl,e⟩:=Kz rs;exact⟨(x,t)::l,Y,by rw[aO,e]⟩
def Vk(K:aa):V->List V->Hp->VK->Prop:=λx xs H Q=>∃z a ls,x=.str z/\xs=[.ref a]/\y7 K H a (ls.map V.str)/\JoinOk z ls=true/\Q (.str<|Txt.join z ls) H
def UD:MtR X "str.join" (Vk X.K):=by intro aS s σ H x xs v us Q I rx rs h;obtain⟨z,a,ls,rfl,rfl,hq,ok,q⟩:=h;obtain⟨t,rfl⟩:=rx;obtain⟨u,rfl,ru⟩:=rs.one;cases (show u=Value.ref a from ru);obtain⟨dw,rv,p,hz⟩:=I.list hq;obtain⟨l,rfl,e⟩:=Kz rv;exact PySem.SC.join (l:=l) p.isList e ok λt' k=>⟨.str _,H,I.tok _,⟨_,Y⟩,q⟩
end
end L2
namespace HT
open PySem PyProof.Rows
section
open PySem.SeqAt
open PySem.AutoSeq1 (wpAny_loadPart')
open PySem.MeetsSeq PySem.MeetsSeq2 PySem.MeetsSeq3
end
end HT
namespace L2
open PySem PySem.Spec PyProof.Rows PySem.SeqAt
section
variable{X:Cx}
end
end L2
set_option maxHeartbeats 4000000
abbrev J8:PySem.Str:="_law_sort_here"
abbrev z0:PySem.Str:="kind"
abbrev Ct:PySem.Str:="_law_state_here"
abbrev Fe:PySem.Str:="_law_letters_here"
abbrev Ds:PySem.Str:="_law_word_here"
abbrev U4:PySem.Str:="machine"
abbrev E3:PySem.Str:="self"
abbrev Jc:PySem.Str:="_law_saying_here"
abbrev FP:PySem.Str:="_law_one_here"
abbrev U3:PySem.Str:="thing"
abbrev AA:PySem.Str:="tables"
abbrev W4:PySem.Str:="table"
abbrev Jb:PySem.Str:="_law_found"
abbrev Ky:PySem.Str:="_law_script"
abbrev BL:PySem.Str:="other"
abbrev P9:PySem.Str:="row"
abbrev FO:PySem.Str:="second"
abbrev Ja:PySem.Str:="letters"
abbrev Fd:PySem.Str:="first"
abbrev Hm:PySem.Str:="column"
abbrev Dq:PySem.Str:="size"
abbrev OS:PySem.Str:="_law_most"
abbrev VD:PySem.Str:="_law_words_asked"
abbrev Kx:PySem.Str:="saying"
abbrev IZ:PySem.Str:="place"
abbrev IY:PySem.Str:="start"
abbrev TB:PySem.Str:="_law_column"
abbrev Tz:PySem.Str:="_law_letter"
abbrev Tx:PySem.Str:="_law_bottom"
abbrev Dp:PySem.Str:="one"
abbrev VC:PySem.Str:="_law_size_here"
abbrev VB:PySem.Str:="_law_kind_here"
abbrev Mw:PySem.Str:="letter"
abbrev Tw:PySem.Str:="_law_inner"
abbrev Fq:List PySem.Str:=[z0,Dp,BL]
abbrev Cm:List PySem.Str:=[E3,"x","y"]
abbrev l0y:List PySem.Str:=[Ct,J8,Fe,"_law_deep"]
abbrev Uz:List PySem.Str:=[J8,Jc]
abbrev Vo:List PySem.Str:=[J8,"_law_x","_law_y"]
abbrev n5N:List PySem.Str:=[J8,Jc,"_law_form",Tw,"_law_sizes",VC]
abbrev l0u:List PySem.Str:=[J8,Jc,VD]
abbrev Mm:List PySem.Str:=[E3,U3]
abbrev Tq:List PySem.Str:=[z0,Dq,U3]
abbrev n9N:List PySem.Str:=[J8,Jc,VD,"_law_form",Jb,Tw,Ds]
abbrev m0f:List PySem.Str:=[Ct,OS,"_law_some","_law_first",Fe,"_law_k","_law_at","_law_sign"]
abbrev m0e:List PySem.Str:=[J8,Jc,"_law_form",Tw,"_law_sizes",VC,FP]
abbrev m0d:List PySem.Str:=[Fe,OS,Jb,"_law_level","_law_k","_law_more",Ds]
abbrev XA:List PySem.Str:=[J8,FP,"_law_other",Ds]
abbrev Xz:List PySem.Str:=[J8,FP,Jb,Ds]
abbrev m0c:List PySem.Str:=[J8,"_law_machine",Ds,TB,Tz,"_law_table"]
abbrev Nh:List PySem.Str:=[z0,U4,"word"]
abbrev JK:List PySem.Str:=[Ja,U3]
abbrev m0b:List PySem.Str:=[Ct,OS,"_law_some","_law_first",Fe,"_law_k"]
abbrev Xy:List PySem.Str:=[VB,Fe,Jc]
abbrev Xx:List PySem.Str:=[z0,Fd,FO,"step","upper","lower"]
abbrev Xw:List PySem.Str:=[J8,"_law_machine",Ds]
abbrev PZ:List PySem.Str:=[z0,Dq,IZ]
abbrev UC:List PySem.Str:=[Ct,J8]
abbrev Sq:List PySem.Str:=[z0,Ja,Kx]
abbrev UB:List PySem.Str:=[z0,Mw,"word",IZ]
abbrev m0a:List PySem.Str:=[z0,Ja,"word","by",Dq,AA,Mw,IY]
abbrev l0z:List PySem.Str:=[z0,Fd,FO,"step","upper","lower",P9,"extra"]
abbrev Sn:List PySem.Str:=[z0,W4,Hm]
abbrev Xv:List PySem.Str:=[z0,Dp,BL,"no_step",AA]
abbrev Xu:List PySem.Str:=[z0,Ja,Kx,"form","made"]
abbrev Xs:List PySem.Str:=[J8,"_law_row",TB]
abbrev l0x:List PySem.Str:=[z0,U4,W4,"back",Fd,"others","x",P9]
abbrev Ng:List PySem.Str:=[z0,U4]
abbrev l0w:List PySem.Str:=[z0,Dp,BL,"no_step",AA,Fd,FO]
abbrev Sm:List PySem.Str:=[z0,Hm,P9]
abbrev UA:List PySem.Str:=[FP,"_law_other"]
abbrev l0v:List PySem.Str:=[z0,Dp,BL,IY,AA,Fd,FO]
abbrev Sl:List PySem.Str:=[z0,P9,W4]
abbrev Xr:List PySem.Str:=[Ct,Fe]
abbrev Nf:List PySem.Str:=[Dp,BL]
abbrev PY:List PySem.Str:=[W4,IZ]
abbrev Sk:List PySem.Str:=[z0,"by",P9]
abbrev Xq:List PySem.Str:=[z0,Fd,FO,"step"]
abbrev Xp:List PySem.Str:=[Fe,OS]
abbrev Uy:List PySem.Str:=[z0,"by",U4]
abbrev Xo:List PySem.Str:=[z0,Ja,"word","by"]
abbrev Ux:List PySem.Str:=[z0,"empty_weight"]
abbrev Xn:List PySem.Str:=[Ct,"_law_many"]
abbrev Xm:List PySem.Str:=[Ct,OS]
abbrev Uw:List PySem.Str:=[U4,Mw]
abbrev Xl:List PySem.Str:=[z0,U4,W4]
abbrev Sj:List PySem.Str:=[z0,Dq]
namespace L2
open PySem
@[elab_as_elim] def PV{gh:Hp->Prop}{H:Hp}{a:Addr}{o:HO}(n:H a=none)(h:∀G,g9 H G->G a=some o->gh G):gh (upd H a o):=h _ (c4 n) c0
def gL{X:Cx}{x:Str}{pos:Pos}(i:Nat)(L:w1i)(hn:L.Nodup:=by decide +kernel)(hL:X.N=L:=by rfl)(h:X.N[i]? = some x:=by rfl)(hx:X.env.scope.names.lookup x=some .local:=by rfl)(hf:X.fn x=true\/X.env.scope.names.lookup x=some .local:=by first | exact .inl rfl | exact .inr rfl | assumption):PG X (.Name x pos) (W3 i):=w5 (hL ▸ hn) h (Or.inl hx) hf
def o5{X:Cx}{a b:Expr}{ta tb:TE}{pos:Pos}{r:R2}(hr:Vw X r)(ha:PE X a ta)(hb:PE X b tb)(hs:OP b:=by exact λ_ _=>rfl):PE X (.Subscript a b pos) (VJ r ta tb):=c0c hr ha hb hs
abbrev sr(a:Addr):Option V:=some (.ref a)
abbrev si(i:Nat):Option V:=some (.int i)
def gN{X:Cx}{pos:Pos}(i:Nat){x:Str}(hN:X.N.Nodup)(hi:X.N[i]? = some x:=by rfl)(hx:X.env.scope.names.lookup x=some .local:=by rfl)(hf:X.fn x=true\/X.env.scope.names.lookup x=some .local:=by first | exact .inl rfl | exact .inr rfl | assumption):PG X (.Name x pos) (W3 i):=w5 hN hi (Or.inl hx) hf
def sT{X:Cx}{pos dP:Pos}(i:Nat){x:Str}{e:Expr}{te:TE}(hN:X.N.Nodup)(he:PE X e te)(hi:X.N[i]? = some x:=by rfl)(hx:X.env.scope.names.lookup x=some .local:=by rfl)(hs:swapsWith e (some<|.Name x dP) pos.line X.env=pure false:=by rfl)(hf:X.fn x=true\/X.env.scope.names.lookup x=some .local:=by first | exact .inl rfl | exact .inr rfl | assumption):PS X (.Assign [.Name x dP] e pos) (MC te<|W3 i):=CN hN hi (Or.inl hx) he hs hf
end L2
namespace K82
open PySem L2 Mine PyProof.Rows PySem.SeqAt
abbrev Pr:Program:=PySem.Challenge.pw_weighwalk_k82_whole_built_as_said
def NX:Pr.given.tree=none:=rfl
def top(i:Nat):Stmt:=PySem.Challenge.pw_weighwalk_k82_whole_built_as_said.main.body.getD i (.Pass ⟨0,0,0,0⟩)
abbrev CK:Stmt:=top 53
abbrev Es:Stmt:=top 54
abbrev CM:Stmt:=top 55
abbrev CL:Stmt:=top 56
abbrev K7:Stmt:=j0 (top 67) 1
abbrev Q9:Stmt:=j0 (top 67) 2
abbrev O9:Stmt:=j0 (top 67) 3
abbrev L7:Stmt:=j0 (top 67) 4
abbrev E6:Stmt:=j0 (top 67) 7
abbrev J6:Stmt:=j0 (top 68) 0
abbrev L6:Stmt:=j0 (top 68) 2
abbrev T7:Stmt:=j0 (top 68) 3
abbrev Q8:Stmt:=j0 (top 68) 4
abbrev O8:Stmt:=j0 (top 68) 5
abbrev F6:Stmt:=j0 (top 68) 8
abbrev T9:Stmt:=j0 (top 69) 1
abbrev AY:Stmt:=j0 (top 69) 2
abbrev Am:Stmt:=j0 (top 69) 3
abbrev W8:Stmt:=j0 (top 69) 4
abbrev L8:Stmt:=j0 (top 69) 5
abbrev Q7:Stmt:=j0 (top 70) 1
abbrev Al:Stmt:=j0 (top 70) 2
abbrev W7:Stmt:=j0 (top 70) 3
abbrev T6:Stmt:=j0 (top 70) 4
abbrev K6:Stmt:=j0 (top 70) 5
abbrev BC:Stmt:=top 11
abbrev Jv:Stmt:=top 12
abbrev U9:Stmt:=top 13
abbrev V2:Stmt:=top 14
abbrev S3:Stmt:=top 15
abbrev RD:Stmt:=top 16
abbrev DG:Stmt:=top 17
abbrev V3:Stmt:=top 18
abbrev R9:Stmt:=top 23
abbrev BD:Stmt:=top 24
abbrev AQ:Stmt:=top 25
abbrev DH:Stmt:=top 26
abbrev Ak:Stmt:=top 27
abbrev R8:Stmt:=top 28
abbrev Jw:Stmt:=top 29
abbrev CB:Stmt:=top 30
abbrev Jx:Stmt:=top 31
abbrev Gf:Stmt:=top 32
abbrev J5:Stmt:=top 34
abbrev O7:Stmt:=top 35
abbrev Gh:Stmt:=top 36
abbrev AX:Stmt:=top 37
abbrev L4:Stmt:=top 38
abbrev Jy:Stmt:=top 39
abbrev FG:Stmt:=top 40
abbrev Gi:Stmt:=top 41
abbrev AW:Stmt:=top 42
abbrev P6:Stmt:=top 43
abbrev BE:Stmt:=top 44
abbrev Ag:Stmt:=top 45
abbrev Gg:Stmt:=top 46
abbrev L5:Stmt:=top 47
abbrev Q6:Stmt:=top 48
abbrev DI:Stmt:=top 49
abbrev Af:Stmt:=top 50
abbrev DF:Stmt:=top 51
abbrev O6:Stmt:=top 73
abbrev DJ:Stmt:=top 74
abbrev CI:Stmt:=top 76
abbrev AS:Stmt:=top 77
abbrev W6:Stmt:=top 78
abbrev Ep:Stmt:=top 79
abbrev CH:Stmt:=top 80
abbrev AR:Stmt:=top 81
abbrev Aj:Stmt:=top 82
abbrev Eo:Stmt:=top 83
abbrev CG:Stmt:=top 84
abbrev CJ:Stmt:=top 85
abbrev Ah:Stmt:=top 86
abbrev CD:Stmt:=top 87
abbrev CF:Stmt:=top 88
abbrev P4:Stmt:=top 89
abbrev AU:Stmt:=top 90
abbrev V0:Stmt:=top 91
abbrev P5:Stmt:=top 92
abbrev CC:Stmt:=top 93
abbrev Ai:Stmt:=top 94
abbrev T5:Stmt:=top 95
abbrev Er:Stmt:=top 96
abbrev V1:Stmt:=top 97
abbrev AV:Stmt:=top 98
abbrev RC:Stmt:=top 99
def _root_.L2.G5.m{j k:Nat}{A:Around}(r:G5 k A)(h:j<=k:=by decide):G5 j A:=r.mono h
def j6{N P:w1i}{s:Scope}(a:s.kind=.function:=by rfl)(b:s.isCoroutine=false:=by rfl)(c:s.isGenerator=false:=by rfl)(d:N.Nodup:=by decide +kernel)(e:N.take P.length=P:=by rfl)(f:∀x∈P,s.names.lookup x=some .local\/s.names.lookup x=some .cell:=by decide +kernel)(g:∀y∈s.names,y.2≠.free:=by decide +kernel):c8 N P s:=⟨a,b,c,d,e,f,g⟩
def Lb:c8 [U3] [U3] (b9 CK):=j6
def O5:c8 [Dp,BL,"greatest","rest","left"] Nf (b9 Es):=j6
def AN:c8 ["top","bottom","shared"] ["top","bottom"] (b9 CM):=j6
def AM:c8 ["number","factor"] ["number"] (b9 CL):=j6
def BN:c8 [E3] [E3] (b9 K7):=j6
def Em:c8 [E3] [E3] (b9 Q9):=j6
def DE:c8 Cm Cm (b9 O9):=j6
def Cy:c8 Cm Cm (b9 L7):=j6
def Ae:c8 Mm Mm (b9 E6):=j6
def AO:c8 [E3,"prime"] [E3,"prime"] (b9 J6):=j6
def Cw:c8 [E3] [E3] (b9 L6):=j6
def Fh:c8 [E3] [E3] (b9 T7):=j6
def El:c8 Cm Cm (b9 Q8):=j6
def DD:c8 Cm Cm (b9 O8):=j6
def AB:c8 Mm Mm (b9 F6):=j6
def Fi:c8 [E3] [E3] (b9 T9):=j6
def Jt:c8 [E3] [E3] (b9 AY):=j6
def Hz:c8 Cm Cm (b9 Am):=j6
def Ge:c8 Cm Cm (b9 W8):=j6
def Cz:c8 Mm Mm (b9 L8):=j6
def Ek:c8 [E3] [E3] (b9 Q7):=j6
def Hy:c8 [E3] [E3] (b9 Al):=j6
def Gd:c8 Cm Cm (b9 W7):=j6
def Fg:c8 Cm Cm (b9 T6):=j6
def BM:c8 Mm Mm (b9 K6):=j6
def ML:c8 Sj Sj (b9 BC):=j6
def Ua:c8 PZ PZ (b9 Jv):=j6
def Jn:c8 Sk Sk (b9 U9):=j6
def Jr:c8 PY PY (b9 V2):=j6
def Hx:c8 [W4] [W4] (b9 S3):=j6
def Gc:c8 [z0,P9,Hm,"total","x","y"] [z0,P9,Hm] (b9 RD):=j6
def Pw:c8 Sl Sl (b9 DG):=j6
def Js:c8 Sn Sn (b9 V3):=j6
def Hw:c8 [U3] [U3] (b9 R9):=j6
def MO:c8 JK JK (b9 BD):=j6
def Jo:c8 JK JK (b9 AQ):=j6
def Px:c8 Tq Tq (b9 DH):=j6
def Lc:c8 Tq Tq (b9 Ak):=j6
def P3:c8 [z0,U3,IY,AA,Dq] [z0,U3] (b9 R8):=j6
def Ry:c8 [U4] [U4] (b9 Jw):=j6
def KY:c8 Uw Uw (b9 CB):=j6
def DC:c8 [z0,U4,"word",P9,Mw] Nh (b9 Jx):=j6
def Pq:c8 Nh Nh (b9 Gf):=j6
def AK:c8 Nf Nf (b9 J5):=j6
def Dz:c8 ["count"] ["count"] (b9 O7):=j6
def Pu:c8 Uy Uy (b9 Gh):=j6
def Ej:c8 Xx Xq (b9 AX):=j6
def W5:c8 Xv Fq (b9 L4):=j6
def Ld:c8 Fq Fq (b9 Jy):=j6
def Rz:c8 Sm Sm (b9 FG):=j6
def O4:c8 [z0,Dp,BL,IY,AA,Fd,FO,"step"] Fq (b9 Gi):=j6
def R7:c8 [z0,Dp,BL,"told","x"] Fq (b9 AW):=j6
def T4:c8 [z0,Dp,BL,"told",P9] Fq (b9 P6):=j6
def Ad:c8 [z0,Dp,BL,IY,AA] Fq (b9 BE):=j6
def EO:c8 [U4,AA] [U4] (b9 Ag):=j6
def Pt:c8 Ng Ng (b9 Gg):=j6
def K2:c8 [z0,U4,W4,"back",Fd,"others"] Xl (b9 L5):=j6
def Ei:c8 Ux Ux (b9 Q6):=j6
def BA:c8 [z0,U4,Dq,AA,"between"] Ng (b9 DI):=j6
def Ht:c8 UB UB (b9 Af):=j6
def Y4:c8 m0a Xo (b9 DF):=j6
def Dy:c8 [Kx] [Kx] (b9 O6):=j6
def DB:c8 Xu Sq (b9 DJ):=j6
def ES:c8 [Ct,"_law_many",Jb] Xn (b9 CI):=j6
def R6:c8 [Ky,"_law_seed","_law_cell"] [Ky] (b9 AS):=j6
def AL:c8 UA UA (b9 W6):=j6
def Gb:c8 ["_law_top",Tx,"_law_by"] ["_law_top",Tx] (b9 Ep):=j6
def KZ:c8 Vo Vo (b9 CH):=j6
def Jp:c8 Vo Vo (b9 AR):=j6
def Hv:c8 [J8] [J8] (b9 Aj):=j6
def MN:c8 [J8] [J8] (b9 Eo):=j6
def ER:c8 [Ct,"_law_prime"] [Ct] (b9 CG):=j6
def La:c8 [J8] [J8] (b9 CJ):=j6
def Hu:c8 UC UC (b9 Ah):=j6
def U7:c8 [J8,FP,"_law_other",Ds,"_law_total","_law_at"] XA (b9 CD):=j6
def U8:c8 [J8,FP,Jb,Ds,"_law_total","_law_at"] Xz (b9 CF):=j6
def D5:c8 n9N l0u (b9 P4):=j6
def Jq:c8 Uz Uz (b9 AU):=j6
def D8:c8 m0d Xp (b9 V0):=j6
def D6:c8 m0b Xm (b9 P5):=j6
def U6:c8 [Ct,Fe,Ds,"_law_k"] Xr (b9 CC):=j6
def K0:c8 [Ct,J8,Fe,"_law_deep","_law_way",FP] l0y (b9 Ai):=j6
def C8:c8 n5N Uz (b9 T5):=j6
def S9:c8 [J8,"_law_row",TB,"_law_total","_law_x","_law_y"] Xs (b9 Er):=j6
def K9:c8 m0c Xw (b9 V1):=j6
def G7:c8 [VB,Fe,Jc,Jb,Ds,"e"] Xy (b9 AV):=j6
def Q5:c8 [Ky,Ct,J8,VB,Fe,Jc,VC,Jb,"_law_refused","_law_asked_here","_law_due",Ds] [Ky] (b9 RC):=j6
def sp_whole:Sp:=λvs H Q _=>∃i,vs=[.int i]/\Q (.bl true) H
def sp_divisor:Sp:=λvs H Q _=>∃a b,vs=[.int a,.int b]/\Q (.int<|dv a b) H
def sp_fraction:Sp:=λvs H Q _=>∃a b,vs=[.int a,.int b]/\0 < b/\∀v H',g9 H H'->Mp H' v (tp a b) (bt a b)->Q v H'
def sp_prime:Sp:=λvs H Q _=>∃n,vs=[.int n]/\(2<=n/\n<=1000000/\Nw n=true)/\Q (.bl true) H
def TV(C:Addr):Sp:=λvs H Q _=>∃x dx n,vs=[.ref x,.int n]/\(2<=n/\n<=1000000/\Nw n=true)/\H x=some (.ins C dx [])/\Q .non (upd H x<|.ins C dx<|RS n)
set_option genInjectivity false in
set_option genSizeOfSpec false in
structure Vz where
 v0x:Addr
 t0k:FuncData
 x0d:Addr
 u0q:FuncData
 w0a:Addr
 s0z:FuncData
 v0z:Addr
 u0b:FuncData
 o0j:Addr
 n0u:FuncData
 p0n:Addr
 o0u:FuncData
 p0d:Addr
 o0l:FuncData
 o0p:Addr
 o0d:FuncData
 n0m:Addr
 n0i:FuncData
 n0y:Addr
 n0n:FuncData
 o0q:Addr
 n0w:FuncData
 q0e:Addr
 p0i:FuncData
 p0l:Addr
 o0v:FuncData
 p0c:Addr
 o0n:FuncData
 n0s:Addr
 n0k:FuncData
 q0y:Addr
 o0z:FuncData
 u0c:Addr
 r0h:FuncData
 s0s:Addr
 q0b:FuncData
 r0o:Addr
 p0v:FuncData
 o0s:Addr
 o0c:FuncData
 p0w:Addr
 o0w:FuncData
 t0v:Addr
 q0q:FuncData
 s0d:Addr
 p0s:FuncData
 q0k:Addr
 p0j:FuncData
 o0h:Addr
 n0r:FuncData
 w0s:Addr
 u0f:FuncData
 y0c:Addr
 x0j:FuncData
 u0y:Addr
 s0e:FuncData
 v0b:Addr
 r0t:FuncData
 s0x:Addr
 q0m:FuncData
 dot:Addr
 x0w:FuncData
 x0n:Addr
 w0k:FuncData
 u0l:Addr
 r0s:FuncData
 t0y:Addr
 q0p:FuncData
 w0w:Addr
 v0a:FuncData
 u0s:Addr
 r0d:FuncData
 x0l:Addr
 w0o:FuncData
 w0b:Addr
 s0p:FuncData
 t0x:Addr
 q0t:FuncData
 x0u:Addr
 x0f:FuncData
 w0h:Addr
 t0s:FuncData
 y0b:Addr
 x0e:FuncData
 weight:Addr
 w0e:FuncData
 n0z:Addr
 n0q:FuncData
 p0h:Addr
 o0m:FuncData
 x0p:Addr
 v0v:FuncData
 x0s:Addr
 w0g:FuncData
 t0c:Addr
 q0s:FuncData
 x0y:Addr
 w0u:FuncData
 outer:Addr
 w0p:FuncData
 x0q:Addr
 v0i:FuncData
 u0d:Addr
 s0g:FuncData
 s0c:Addr
 p0r:FuncData
 w0q:Addr
 u0u:FuncData
 v0q:Addr
 s0q:FuncData
 turned:Addr
 v0u:FuncData
 q0h:Addr
 p0e:FuncData
 p0p:Addr
 o0r:FuncData
 x0o:Addr
 v0n:FuncData
 s0w:Addr
 q0i:FuncData
 x0k:Addr
 v0w:FuncData
 p0k:Addr
 o0k:FuncData
 x0z:Addr
 w0y:FuncData
 w0n:Addr
 s0v:FuncData
 u0w:Addr
 r0c:FuncData
 s0j:Addr
 p0q:FuncData
 x0i:Addr
 u0o:FuncData
 w0m:Addr
 t0m:FuncData
 u0h:Addr
 s0h:FuncData
 s0r:Addr
 q0l:FuncData
 x0h:Addr
 u0e:FuncData
 w0i:Addr
 t0g:FuncData
 v0m:Addr
 t0f:FuncData
 t0h:Addr
 q0n:FuncData
 w0j:Addr
 s0o:FuncData
 v0j:Addr
 t0u:FuncData
 r0l:Addr
 p0t:FuncData
 v0d:Addr
 r0v:FuncData
 u0x:Addr
 r0i:FuncData
 r0n:Addr
 p0x:FuncData
 v0f:Addr
 t0o:FuncData
 t0n:Addr
 q0f:FuncData
 w0d:Addr
 t0d:FuncData
 x0a:Addr
 u0v:FuncData
 u0p:Addr
 r0z:FuncData
 u0j:Addr
 s0f:FuncData
 law:Addr
 y0a:FuncData
 v0c:Addr
 v0h:Addr
 x0t:Addr
 x0m:Addr
 t0a:Addr
 u0z:Addr
 v0t:Addr
def o9{X:Cx}{e0:Expr}{t0:TE}(h0:PE X e0 t0)(s0:starEach [e0] X.env=(false,eval e0 X.env)::starEach [] X.env:=by rfl):PA X [e0] (Q0 t0 tNil):=(D4 h0 P0 s0)
def B8{X:Cx}{e0:Expr}{t0:TE}{e1:Expr}{t1:TE}(h0:PE X e0 t0)(h1:PE X e1 t1)(s0:starEach [e0,e1] X.env=(false,eval e0 X.env)::starEach [e1] X.env:=by rfl)(s1:starEach [e1] X.env=(false,eval e1 X.env)::starEach [] X.env:=by rfl):PA X [e0,e1] (Q0 t0<|Q0 t1 tNil):=(D4 h0 (D4 h1 P0 s1) s0)
def O1{X:Cx}{e0:Expr}{t0:TE}{e1:Expr}{t1:TE}{e2:Expr}{t2:TE}(h0:PE X e0 t0)(h1:PE X e1 t1)(h2:PE X e2 t2)(s0:starEach [e0,e1,e2] X.env=(false,eval e0 X.env)::starEach [e1,e2] X.env:=by rfl)(s1:starEach [e1,e2] X.env=(false,eval e1 X.env)::starEach [e2] X.env:=by rfl)(s2:starEach [e2] X.env=(false,eval e2 X.env)::starEach [] X.env:=by rfl):PA X [e0,e1,e2] (Q0 t0<|Q0 t1<|Q0 t2 tNil):=(D4 h0 (D4 h1 (D4 h2 P0 s2) s1) s0)
def HC{X:Cx}{e0:Expr}{t0:TE}{e1:Expr}{t1:TE}{e2:Expr}{t2:TE}{e3:Expr}{t3:TE}(h0:PE X e0 t0)(h1:PE X e1 t1)(h2:PE X e2 t2)(h3:PE X e3 t3)(s0:starEach [e0,e1,e2,e3] X.env=(false,eval e0 X.env)::starEach [e1,e2,e3] X.env:=by rfl)(s1:starEach [e1,e2,e3] X.env=(false,eval e1 X.env)::starEach [e2,e3] X.env:=by rfl)(s2:starEach [e2,e3] X.env=(false,eval e2 X.env)::starEach [e3] X.env:=by rfl)(s3:starEach [e3] X.env=(false,eval e3 X.env)::starEach [] X.env:=by rfl):PA X [e0,e1,e2,e3] (Q0 t0<|Q0 t1<|Q0 t2<|Q0 t3 tNil):=(D4 h0 (D4 h1 (D4 h2 (D4 h3 P0 s3) s2) s1) s0)
structure Df(K:aa)(mg:w1g)(n:Str)(s:Stmt)(ps:w1i)(a:Addr)(d:FuncData):Prop where
 F:Mh K n n s a d
 b:J1 K d ps []
 m:mg n=some (.ref a)
structure Dm(K:aa)(C:Addr)(n q:Str)(s:Stmt)(ps:w1i)(a:Addr)(d:FuncData):Prop where
 F:Mh K n q s a d
 b:J1 K d ps []
 t:Ik K C n a
def z7{X:Cx}{x:Str}{p pos:Pos}{k:Nat}{f:Addr}{fd:FuncData}{ps:w1i}{sp:Sp}{s:Stmt}{e:Expr}{es:List Expr}{t:TA}(F:j2 X.prog X.w X.K X.mg X.base B7 k f fd ps sp)(hr:G5 k X.A)(D:Df X.K X.mg x s ps f fd)(ha:PA X (e::es) t)(hg:Gl X x:=by rfl)(fA:(x==("__debug__":Str))=false:=by decide)(he:starEach (e::es) X.env=(false,eval e X.env)::starEach es X.env:=by rfl)(fb:(backTo pos<|starEach es X.env).any (·.1)=false:=by rfl):PE X (.Call (.Name x p) (e::es) [] pos) (Rc sp [] E0 t):=j8 F hr hg D.m D.F.kp D.b .nil m8 ha fA he fb
structure Txt(K:aa)(mg:w1g)(t:Vz):Prop where
 t0z:Df K mg "is_whole" CK [U3] t.v0x t.t0k
 u0k:Df K mg "divisor" Es Nf t.x0d t.u0q
 t0w:Df K mg "fraction" CM ["top","bottom"] t.w0a t.s0z
 s0u:Df K mg "is_prime" CL ["number"] t.v0z t.u0b
 n0t:Dm K t.v0c "nought" "Fractions.nought" K7 [E3] t.o0j t.n0u
 o0x:Dm K t.v0c "one" "Fractions.one" Q9 [E3] t.p0n t.o0u
 o0e:Dm K t.v0c "plus" "Fractions.plus" O9 Cm t.p0d t.o0l
 o0a:Dm K t.v0c "times" "Fractions.times" L7 Cm t.o0p t.o0d
 n0j:Dm K t.v0c "is_weight" "Fractions.is_weight" E6 Mm t.n0m t.n0i
 n0p:Dm K t.v0h "__init__" "Residues.__init__" J6 [E3,"prime"] t.n0y t.n0n
 o0b:Dm K t.v0h "nought" "Residues.nought" L6 [E3] t.o0q t.n0w
 p0a:Dm K t.v0h "one" "Residues.one" T7 [E3] t.q0e t.p0i
 o0t:Dm K t.v0h "plus" "Residues.plus" Q8 Cm t.p0l t.o0v
 o0g:Dm K t.v0h "times" "Residues.times" O8 Cm t.p0c t.o0n
 n0l:Dm K t.v0h "is_weight" "Residues.is_weight" F6 Mm t.n0s t.n0k
 p0f:Dm K t.x0t "nought" "Costs.nought" T9 [E3] t.q0y t.o0z
 r0r:Dm K t.x0t "one" "Costs.one" AY [E3] t.u0c t.r0h
 q0v:Dm K t.x0t "plus" "Costs.plus" Am Cm t.s0s t.q0b
 q0a:Dm K t.x0t "times" "Costs.times" W8 Cm t.r0o t.p0v
 n0x:Dm K t.x0t "is_weight" "Costs.is_weight" L8 Mm t.o0s t.o0c
 o0o:Dm K t.x0m "nought" "Truths.nought" Q7 [E3] t.p0w t.o0w
 q0w:Dm K t.x0m "one" "Truths.one" Al [E3] t.t0v t.q0q
 p0y:Dm K t.x0m "plus" "Truths.plus" W7 Cm t.s0d t.p0s
 p0g:Dm K t.x0m "times" "Truths.times" T6 Cm t.q0k t.p0j
 n0v:Dm K t.x0m "is_weight" "Truths.is_weight" K6 Mm t.o0h t.n0r
 u0g:Df K mg "noughts" BC Sj t.w0s t.u0f
 x0r:Df K mg "unit" Jv PZ t.y0c t.x0j
 r0q:Df K mg "times_row" U9 Sk t.u0y t.s0e
 r0j:Df K mg "column_at" V2 PY t.v0b t.r0t
 q0o:Df K mg "columns_of" S3 [W4] t.s0x t.q0m
 x0v:Df K mg "dot" RD [z0,P9,Hm] t.dot t.x0w
 v0o:Df K mg "row_by" DG Sl t.x0n t.w0k
 r0k:Df K mg "by_column" V3 Sn t.u0l t.r0s
 q0u:Df K mg "is_letters" R9 [U3] t.t0y t.q0p
 u0r:Df K mg "is_word" BD JK t.w0w t.v0a
 r0p:Df K mg "need_word" AQ JK t.u0s t.r0d
 v0k:Df K mg "is_row" DH Tq t.x0l t.w0o
 s0t:Df K mg "is_table" Ak Tq t.w0b t.s0p
 q0z:Df K mg "is_machine" R8 [z0,U3] t.t0x t.q0t
 w0r:Df K mg "rooms" Jw [U4] t.x0u t.x0f
 t0l:Df K mg "table_of" CB Uw t.w0h t.t0s
 x0b:Df K mg "ahead" Jx Nh t.y0b t.x0e
 w0f:Df K mg "weight" Gf Nh t.weight t.w0e
 n0o:Df K mg "need_same_letters" J5 Nf t.n0z t.n0q
 o0f:Df K mg "need_few_rooms" O7 ["count"] t.p0h t.o0m
 v0r:Df K mg "scaled" Gh Uy t.x0p t.v0v
 v0y:Df K mg "beside" AX Xq t.x0s t.w0g
 q0g:Df K mg "put_beside" L4 Fq t.t0c t.q0s
 x0g:Df K mg "added" Jy Fq t.x0y t.w0u
 w0x:Df K mg "outer" FG Sm t.outer t.w0p
 w0c:Df K mg "joined" Gi Fq t.x0q t.v0i
 s0i:Df K mg "cross_row" AW Fq t.u0d t.s0g
 p0o:Df K mg "cross_table" P6 Fq t.s0c t.p0r
 u0t:Df K mg "crossed" BE Fq t.w0q t.u0u
 s0l:Df K mg "mirrored" Ag [U4] t.v0q t.s0q
 v0p:Df K mg "turned" Gg Ng t.turned t.v0u
 p0b:Df K mg "closed_table" L5 Xl t.q0h t.p0e
 o0y:Df K mg "need_closable" Q6 Ux t.p0p t.o0r
 v0e:Df K mg "closed" DI Ng t.x0o t.v0n
 q0d:Df K mg "single_row" Af UB t.s0w t.q0i
 v0g:Df K mg "single" DF Xo t.x0k t.v0w
 o0i:Df K mg "sayings_within" O6 [Kx] t.p0k t.o0k
 w0v:Df K mg "built" DJ Sq t.x0z t.w0y
 t0r:Df K mg "_law_next" CI Xn t.w0n t.s0v
 r0w:Df K mg "_law_state" AS [Ky] t.u0w t.r0c
 p0u:Df K mg "_law_divisor" W6 UA t.s0j t.p0q
 u0i:Df K mg "_law_low" Ep ["_law_top",Tx] t.x0i t.u0o
 t0q:Df K mg "_law_plus" CH Vo t.w0m t.t0m
 r0u:Df K mg "_law_times" AR Vo t.u0h t.s0h
 r0a:Df K mg "_law_nought" Aj [J8] t.s0r t.q0l
 u0m:Df K mg "_law_one" Eo [J8] t.x0h t.u0e
 t0j:Df K mg "_law_sort" CG [Ct] t.w0i t.t0g
 s0y:Df K mg "_law_kind" CJ [J8] t.v0m t.t0f
 q0x:Df K mg "_law_weight" Ah UC t.t0h t.q0n
 t0e:Df K mg "_law_then" CD XA t.w0j t.s0o
 s0k:Df K mg "_law_star" CF Xz t.v0j t.t0u
 p0m:Df K mg "_law_weights" P4 l0u t.r0l t.p0t
 r0y:Df K mg "_law_empty" AU Uz t.v0d t.r0v
 r0g:Df K mg "_law_words" V0 Xp t.u0x t.r0i
 p0z:Df K mg "_law_letters" P5 Xm t.r0n t.p0x
 t0p:Df K mg "_law_word" CC Xr t.v0f t.t0o
 q0r:Df K mg "_law_saying" Ai l0y t.t0n t.q0f
 s0m:Df K mg "_law_size" T5 Uz t.w0d t.t0d
 u0n:Df K mg "_law_dot" Er Xs t.x0a t.u0v
 r0m:Df K mg "_law_weigh" V1 Xw t.u0p t.r0z
 r0x:Df K mg "_law_asked" AV Xy t.u0j t.s0f
 x0x:Df K mg "law" RC [Ky] t.law t.y0a
 r0b:Mq K t.v0c
 r0e:mg "Fractions"=some (.ref t.v0c)
 s0a:MkO K t.v0c
 u0a:Mq K t.v0h
 t0t:mg "Residues"=some (.ref t.v0h)
 s0n:Mk K t.v0h t.n0y
 w0z:Mq K t.x0t
 x0c:mg "Costs"=some (.ref t.x0t)
 w0t:MkO K t.x0t
 v0s:Mq K t.x0m
 v0l:mg "Truths"=some (.ref t.x0m)
 w0l:MkO K t.x0m
 q0j:mg "WeighError"=some (.ref t.t0a)
 q0c:NT K t.t0a
 r0f:mg "NoClosure"=some (.ref t.u0z)
 s0b:NT K t.u0z
 t0i:mg "TooGreat"=some (.ref t.v0t)
 t0b:NT K t.v0t
 z_isinstance:mg "isinstance"=none
 z_int:mg "int"=none
 z_bool:mg "bool"=none
 z_abs:mg "abs"=none
 z_tuple:mg "tuple"=none
 z_len:mg "len"=none
 c_GREATEST_PRIME:∃tk,mg "GREATEST_PRIME"=some (Value.int 1000000 tk)
 z_min:mg "min"=none
 z_range:mg "range"=none
 z_zip:mg "zip"=none
 z_str:mg "str"=none
 c_MOST_LETTERS:∃tk,mg "MOST_LETTERS"=some (Value.int 3 tk)
 z_set:mg "set"=none
 z_all:mg "all"=none
 c_SMALL_LETTERS:∃tk,mg "SMALL_LETTERS"=some (Value.str "abcdefghijklmnopqrstuvwxyz" tk)
 c_MOST_ROOMS:∃tk,mg "MOST_ROOMS"=some (Value.int 20 tk)
 z_enumerate:mg "enumerate"=none
 z_reversed:mg "reversed"=none
 k_ii:PySem.W.kitOne K (.type "int") (.type "int")=some true
 k_ib:PySem.W.kitOne K (.type "int") (.type "bool")=some false
 k_tt:PySem.W.kitOne K (.type "tuple") (.type "tuple")=some true
 k_bb:PySem.W.kitOne K (.type "bool") (.type "bool")=some true
 k_ss:PySem.W.kitOne K (.type "str") (.type "str")=some true
 nP:Dh K t.v0h "prime"
 k_ts:PySem.W.kitOne K (.type "tuple") (.type "str")=some false
 q_nt:PySem.W.kitOne K (.type "NoneType") (.type "tuple")=some false
 q_ni:PySem.W.kitOne K (.type "NoneType") (.type "int")=some false
 q_nb:PySem.W.kitOne K (.type "NoneType") (.type "bool")=some false
 q_ns:PySem.W.kitOne K (.type "NoneType") (.type "str")=some false
 q_it:PySem.W.kitOne K (.type "int") (.type "tuple")=some false
 q_ii:PySem.W.kitOne K (.type "int") (.type "int")=some true
 q_ib:PySem.W.kitOne K (.type "int") (.type "bool")=some false
 q_is:PySem.W.kitOne K (.type "int") (.type "str")=some false
 q_bt:PySem.W.kitOne K (.type "bool") (.type "tuple")=some false
 q_bi:PySem.W.kitOne K (.type "bool") (.type "int")=some true
 q_bb:PySem.W.kitOne K (.type "bool") (.type "bool")=some true
 q_bs:PySem.W.kitOne K (.type "bool") (.type "str")=some false
 q_st:PySem.W.kitOne K (.type "str") (.type "tuple")=some false
 q_si:PySem.W.kitOne K (.type "str") (.type "int")=some false
 q_sb:PySem.W.kitOne K (.type "str") (.type "bool")=some false
 q_ss:PySem.W.kitOne K (.type "str") (.type "str")=some true
 q_tt:PySem.W.kitOne K (.type "tuple") (.type "tuple")=some true
 q_ti:PySem.W.kitOne K (.type "tuple") (.type "int")=some false
 q_tb:PySem.W.kitOne K (.type "tuple") (.type "bool")=some false
 q_ts:PySem.W.kitOne K (.type "tuple") (.type "str")=some false
 q_lt:PySem.W.kitOne K (.type "list") (.type "tuple")=some false
 q_li:PySem.W.kitOne K (.type "list") (.type "int")=some false
 q_lb:PySem.W.kitOne K (.type "list") (.type "bool")=some false
 q_ls:PySem.W.kitOne K (.type "list") (.type "str")=some false
 q_dt:PySem.W.kitOne K (.type "dict") (.type "tuple")=some false
 q_di:PySem.W.kitOne K (.type "dict") (.type "int")=some false
 q_db:PySem.W.kitOne K (.type "dict") (.type "bool")=some false
 q_ds:PySem.W.kitOne K (.type "dict") (.type "str")=some false
 k_ns:PySem.W.kitOne K (.type "NoneType") (.type "str")=some false
 k_ls:PySem.W.kitOne K (.type "list") (.type "str")=some false
 k_is:PySem.W.kitOne K (.type "int") (.type "str")=some false
 eC:PySem.W.exmOne K (.ref t.u0z) (.ref t.t0a)=some true
 vC:PySem.W.kitOne K (.ref t.u0z) (.type "ValueError")=some true
 kCC:PySem.W.kitOne K (.ref t.u0z) (.ref t.u0z)=some true
 kCG:PySem.W.kitOne K (.ref t.u0z) (.ref t.v0t)=some false
 eG:PySem.W.exmOne K (.ref t.v0t) (.ref t.t0a)=some true
 vG:PySem.W.kitOne K (.ref t.v0t) (.type "ValueError")=some true
 kGC:PySem.W.kitOne K (.ref t.v0t) (.ref t.u0z)=some false
 kGG:PySem.W.kitOne K (.ref t.v0t) (.ref t.v0t)=some true
def GL{K:aa}{a:Addr}{xs:List V}{u:V}{i:Nat}{G:Hp}{M:V->Hp->Prop}(h:j3 K G a xs)(e:xs[i]?=some u)(m:M u G):(Itt K a).go i G/\∀x H',(Itt K a).yld i G x H'->M x H':=⟨zc ⟨h,e⟩,λx H' y=>by
 obtain⟨rfl,y⟩:=y;have:=y _ h;rw[e]at this;cases this;exact m⟩
def it_l{K:aa}{a:Addr}{xs:List V}{u:V}{i:Nat}{G:Hp}{M:V->Hp->Prop}(h:y7 K G a xs)(e:xs[i]?=some u)(m:M u G):(Yj K a).go i G/\∀x H',(Yj K a).yld i G x H'->M x H':=⟨zc ⟨h,e⟩,λx H' y=>by
 obtain⟨rfl,y⟩:=y;have:=y _ h;rw[e]at this;cases this;exact m⟩
def UK{lo:Int}{n i:Nat}{G:Hp}{M:V->Hp->Prop}(h:i<n)(m:M (.int<|lo+i) G):(Vb lo n).go i G/\∀x H',(Vb lo n).yld i G x H'->M x H':=⟨h,λx H' y=>by
 obtain⟨rfl,rfl⟩:=y;exact m⟩
seal L2.Kt L2.PS L2.PE L2.PT L2.PW L2.PA L2.PG L2.n0d L2.PI
local macro_rules | `(tactic| fail)=>`(tactic| (first | apply Exists.intro | show And.intro rfl ?_ | show And.intro (by with_reducible assumption) ?_ | show And.intro (j3.of (by assumption)) ?_ | show And.intro (y7.of (by assumption)) ?_ | show And.intro (J7.int _) ?_ | show And.intro (J7.tup (by assumption)) ?_ | show And.intro (‹Txt _ _ _›.k_ii) ?_ | show And.intro (‹Txt _ _ _›.k_ib) ?_ | show And.intro (‹Txt _ _ _›.k_tt) ?_ | show And.intro (‹Txt _ _ _›.k_bb) ?_ | show And.intro (‹Txt _ _ _›.k_ss) ?_ | show And.intro (‹Txt _ _ _›.nP) ?_ | show And.intro (‹Txt _ _ _›.k_ts) ?_ | show And.intro (‹Txt _ _ _›.q_nt) ?_ | show And.intro (‹Txt _ _ _›.q_ni) ?_ | show And.intro (‹Txt _ _ _›.q_nb) ?_ | show And.intro (‹Txt _ _ _›.q_ns) ?_ | show And.intro (‹Txt _ _ _›.q_it) ?_ | show And.intro (‹Txt _ _ _›.q_ii) ?_ | show And.intro (‹Txt _ _ _›.q_ib) ?_ | show And.intro (‹Txt _ _ _›.q_is) ?_ | show And.intro (‹Txt _ _ _›.q_bt) ?_ | show And.intro (‹Txt _ _ _›.q_bi) ?_ | show And.intro (‹Txt _ _ _›.q_bb) ?_ | show And.intro (‹Txt _ _ _›.q_bs) ?_ | show And.intro (‹Txt _ _ _›.q_st) ?_ | show And.intro (‹Txt _ _ _›.q_si) ?_ | show And.intro (‹Txt _ _ _›.q_sb) ?_ | show And.intro (‹Txt _ _ _›.q_ss) ?_ | show And.intro (‹Txt _ _ _›.q_tt) ?_ | show And.intro (‹Txt _ _ _›.q_ti) ?_ | show And.intro (‹Txt _ _ _›.q_tb) ?_ | show And.intro (‹Txt _ _ _›.q_ts) ?_ | show And.intro (‹Txt _ _ _›.q_lt) ?_ | show And.intro (‹Txt _ _ _›.q_li) ?_ | show And.intro (‹Txt _ _ _›.q_lb) ?_ | show And.intro (‹Txt _ _ _›.q_ls) ?_ | show And.intro (‹Txt _ _ _›.q_dt) ?_ | show And.intro (‹Txt _ _ _›.q_di) ?_ | show And.intro (‹Txt _ _ _›.q_db) ?_ | show And.intro (‹Txt _ _ _›.q_ds) ?_ | show And.intro (‹Txt _ _ _›.k_ns) ?_ | show And.intro (‹Txt _ _ _›.k_ls) ?_ | show And.intro (‹Txt _ _ _›.k_is) ?_ | show And.intro (‹Txt _ _ _›.eC) ?_ | show And.intro (‹Txt _ _ _›.vC) ?_ | show And.intro (‹Txt _ _ _›.kCC) ?_ | show And.intro (‹Txt _ _ _›.kCG) ?_ | show And.intro (‹Txt _ _ _›.eG) ?_ | show And.intro (‹Txt _ _ _›.vG) ?_ | show And.intro (‹Txt _ _ _›.kGC) ?_ | show And.intro (‹Txt _ _ _›.kGG) ?_))
section
variable{w:World}{K:aa}{mg:w1g}{base:Heap}{t:Vz}{aW:Addr}
variable(T:Txt K mg t)
def F7:j2 Pr w K mg base B7 1 t.v0x t.t0k [U3] sp_whole:=by
 show T.t0z.F.okA Lb λ_ _ _ _ _ _ _ _ hr h=>?_;obtain⟨i,rfl,k⟩:=h;show⟨_,(a9<|c6<|CP (i0 C3 bR T.z_isinstance boot_isinstance<|B8 (O 0)<|E1 (v:=.ty "int") Y T.z_int boot_int Y)<|X0<|WS<|i0 C3 bR T.z_isinstance boot_isinstance<|B8 (O 0)<|E1 (v:=.ty "bool") Y T.z_bool boot_bool Y),?_⟩
 (repeat fail)
 (try show C2 ?_)
 (repeat fail)
 exact k
def Gv:j2 Pr w K mg base B7 1 t.x0d t.u0q Nf sp_divisor:=by
 show T.u0k.F.okA O5 λ_ _ _ _ H _ _ _ hr h=>?_;obtain⟨a,b,rfl,k⟩:=h;show⟨_,(a8 (sT 2 O5.nd<|i0 Hc bR T.z_abs boot_abs<|o9<|O 0)<|a8 (sT 3 O5.nd<|i0 Hc bR T.z_abs boot_abs<|o9<|O 1)<|a8 (Gj aB (d7 Ay (O 3) a7<|d8 _)<|a8 (sT 4 O5.nd<|j4 F1 (O 2)<|O 3)<|a8 (sT 2 O5.nd<|O 3)<|a9<|sT 3 O5.nd<|O 4)<|a9<|c6<|O 2),?_⟩;show vc Y Y Y<|U Y ?_;show⟨λm σ H'=>∃g r l,σ=[some<|.int a,some<|.int b,some<|.int g,some<|.int r,l]/\m=r.toNat/\(0<=g/\0<=r/\dv g r=dv a b)/\H'=H,ze ⟨Y,Y,VP a b,Y⟩,?_⟩;rintro m σ H' ⟨g,r,l,rfl,rfl,⟨g0,r0,e⟩,rfl⟩
 (repeat fail)
 show R0 (λkX=>?_) (λkX=>?_)
 . show⟨λσ' gC=>∃g' r' l',σ'=[some<|.int a,some<|.int b,some<|.int g',some<|.int r',l']/\r'.toNat < r.toNat/\(0<=g'/\0<=r'/\dv g' r'=dv a b)/\gC=H',λσ' gC ⟨g',r',l',e1,e2,e3,e4⟩=>⟨_,e2,g',r',l',e1,Y,e3,e4⟩,?_⟩;show vb Y Y (zc ⟨Y,Y,(show r≠0 by omega),vb Y Y ?_⟩);exact zd ⟨Y,XX kX,XW e kX,Y⟩
 . show U Y ?_
   (try dsimp only)
   rw[m0w e g0 r0 kX];exact k
def Oz{a b:Int}(pb:0 < b):a.fdiv (dv a b)=tp a b/\b.fdiv (dv a b)=bt a b:=by unfold tp bt;rw[Rw Z];exact⟨Y,Y⟩
def EV:j2 Pr w K mg base B7 36 t.w0a t.s0z ["top","bottom"] sp_fraction:=by
 show T.t0w.F.okA AN λ_ _ _ _ _ _ _ _ hr h=>?_;obtain⟨a,b,rfl,pb,k⟩:=h;have hd:dv a b≠0:=Int.ne_of_gt<|GT Z;show⟨_,(a8 (j7 (PW.pt<|G9 (D9<|C6<|z7 (F7 T) hr.m T.t0z<|o9<|O 0)<|E7<|D9<|C6<|z7 (F7 T) hr.m T.t0z<|o9<|O 1) (a9 Bd) i3)<|a8 (j7 (d7 o4 (O 1) a7<|d8 _) (a9 Bd) i3)<|a8 (sT 2 AN.nd<|z7 (Gv T) hr.m T.u0k<|B8 (O 0)<|O 1)<|a8 (j7 (d7 DM (O 1) a7<|d8 _) (a9<|sT 2 AN.nd<|Iw Ee<|O 2) i3)<|a9<|c6<|o8<|B8 (j4 (DN hr bD NX) (O 0)<|O 2)<|j4 (DN hr bD NX) (O 1)<|O 2),?_⟩
 (repeat fail)
 (try show l4 ?_)
 (repeat fail)
 (try show l4 ?_)
 (repeat fail)
 show Fz (λh0=>absurd h0 Z) (λ_=>?_)
 (repeat fail)
 show R0 (λh0=>absurd h0 Z) (λ_=>?_)
 (repeat fail)
 show⟨sL,λp hp=>?_⟩;show k _ _ (c4 hp) ?_
 (try dsimp only)
 rw[(Oz pb).1,(Oz pb).2];exact Mp.new
def Lx:j2 Pr w K mg base B7 1 t.v0z t.u0b ["number"] sp_prime:=by
 show T.s0u.F.okA AM λ_ _ _ _ H _ _ _ hr h=>?_;obtain⟨n,rfl,⟨n2,n6,hp⟩,k⟩:=h;have PP:=SJ hp;show⟨_,(a8 (j7 (d7 DM (O 0) a7<|d8 _) (a9<|c6 M5) i3)<|a8 (sT 1 AM.nd a7)<|a8 (Gj aB (d7 Ot (j4 Ao (O 1)<|O 1) (O 0)<|d8 _)<|a8 (j7 (d7 o4 (j4 F1 (O 0)<|O 1) a7<|d8 _) (a9<|c6 M5) i3)<|a9<|sT 1 AM.nd<|j4 z6 (O 1) a7)<|a9<|c6 M5),?_⟩;show U Y<|zc ⟨Y,Y,U Y ?_⟩;show R0 (λh0=>absurd h0 Z)<|λ_=>?_;show⟨λm σ H'=>∃f:Int,σ=[some<|.int n,some<|.int f]/\m=(n+2 - f).toNat/\(2<=f/\f<=n+1)/\H'=H,zc ⟨Y,Y,⟨Z,Z⟩,Y⟩,?_⟩;rintro m σ H' ⟨f,rfl,rfl,⟨f2,fn⟩,rfl⟩;have cm:QO f f:=.inl ⟨Z,Z⟩;show vb Y Y<|zc ⟨Y,Y,cm,U Y<|zc ⟨Y,Y,U Y ?_⟩⟩;show R0 (λh0=>?_) (λh0=>?_)
 . show⟨λσ' gC=>∃f':Int,σ'=[some<|.int n,some<|.int f']/\(n+2 - f').toNat < (n+2 - f).toNat/\(2<=f'/\f'<=n+1)/\gC=H',λσ' gC ⟨f',e1,e2,e3,e4⟩=>⟨_,e2,f',e1,Y,e3,e4⟩,?_⟩;show vb Y Y (zc ⟨Y,Y,(show f≠0 by omega),Y,U Y ?_⟩);have hs:=YZ f2 h0;show Fz (λh1=>absurd h1<|PP.2 f f2 h0)<|λ_=>?_;show U Y<|zc ⟨Y,Y,?_⟩;exact U Y ⟨Z,⟨Z,Z⟩,Y⟩
 . exact k
def Bh:j2 Pr w K mg base B7 2 t.n0y t.n0n [E3,"prime"] (TV t.v0h):=by
 show T.n0p.F.okA AO λ_ _ _ _ _ _ _ _ hr h=>?_;obtain⟨x,dx,n,rfl,hn,hx,k⟩:=h;show⟨_,(a8 (j7 (PW.pt<|G9 (D9<|C6<|z7 (F7 T) hr.m T.t0z<|o9<|O 1)<|G9 (d7 Ay (O 1) (V7 (v:=.int 1000000) Y T.c_GREATEST_PRIME.choose_spec ⟨_,Y⟩)<|d8 _)<|E7<|D9<|C6<|z7 (Lx T) hr.m T.s0u<|o9<|O 1) (a9 Bd) i3)<|a9<|WN (O 0) (O 1) Y),?_⟩;show vc Y Y Y ?_
 (try show l4 ?_)
 show U Y<|zc ⟨Y,Y,U Y ?_⟩;show R0 (λh0=>absurd h0 (by have:=hn.2.1;omega))<|λ_=>?_;show vb Y Y ⟨hn,U Y ?_⟩
 (try show l4 ?_)
 show vb Y Y ⟨x,_,dx,U Y ⟨hx,T.u0a,T.nP,(by show 0 < 1000;decide),?_⟩⟩;exact k
def BV:j2 Pr w K mg base B7 1 t.o0j t.n0u [E3] (Cd t.v0c [] QA Qs Fr.zero):=by show T.n0t.F.okA BN λ_ _ _ _ _ _ _ _ hr h=>?_;obtain⟨x,rfl,_,k⟩:=h;show⟨_,(a9<|c6<|o8<|B8 a7 a7),?_⟩;exact⟨sL,λp hp=>k _ _ (c4 hp) Mp.new⟩
def DU:j2 Pr w K mg base B7 38 t.p0d t.o0l Cm (Ce t.v0c [] QA Qs Fr.add):=by
 show T.o0e.F.okA DE λ_ _ _ _ _ _ _ _ hr h=>?_;obtain⟨k0,x,y,a,b,m,n,rfl,⟨_,⟨px,rfl,hx⟩,⟨py,rfl,hy⟩,sa,sb,gX⟩,k⟩:=h;have sa:a.sz m:=sa;have sb:b.sz n:=sb;have m1:Fc a.t b.b:=HL (n:=n) sa.1 sb.2 Z;have m2:Fc b.t a.b:=HL (n:=m) sb.1 sa.2 Z;have m3:Fc a.b b.b:=HL (n:=n) sa.2 sb.2 Z;show⟨_,(a9<|c6<|z7 (EV T) hr.m T.t0w<|B8 (j4 z6 (j4 P7 (o5 c9 (O 1) a7)<|o5 c9 (O 2) a7)<|j4 P7 (o5 c9 (O 2) a7)<|o5 c9 (O 1) a7)<|j4 P7 (o5 c9 (O 1) a7)<|o5 c9 (O 2) a7),?_⟩
 (repeat fail)
 exact⟨aN a.p b.p,k⟩
def CU:j2 Pr w K mg base B7 38 t.o0p t.o0d Cm (Ce t.v0c [] QA Qs Fr.mul):=by
 show T.o0a.F.okA Cy λ_ _ _ _ _ _ _ _ hr h=>?_;obtain⟨k0,x,y,a,b,m,n,rfl,⟨_,⟨px,rfl,hx⟩,⟨py,rfl,hy⟩,sa,sb,gX⟩,k⟩:=h;have sa:a.sz m:=sa;have sb:b.sz n:=sb;have m1:Fc a.t b.t:=HL (n:=n) sa.1 sb.1 Z;have m3:Fc a.b b.b:=HL (n:=n) sa.2 sb.2 Z;show⟨_,(a9<|c6<|z7 (EV T) hr.m T.t0w<|B8 (j4 P7 (o5 c9 (O 1) a7)<|o5 c9 (O 2) a7)<|j4 P7 (o5 c9 (O 1) a7)<|o5 c9 (O 2) a7),?_⟩
 (repeat fail)
 exact⟨aN a.p b.p,k⟩
def CT(p:Int)(hp:2<=p):j2 Pr w K mg base B7 1 t.o0q t.n0w [E3] (Cd t.v0h (RS p) (Ci p hp) (Qr p) (Ci p hp).zero):=by show T.o0b.F.okA Cw λ_ _ _ _ _ _ _ _ hr h=>?_;obtain⟨x,rfl,_,k⟩:=h;show⟨_,(a9<|c6 a7),?_⟩;exact k _ _ (g9.refl _) rfl
def EC(p:Int)(hp:2<=p):j2 Pr w K mg base B7 1 t.p0l t.o0v Cm (Ce t.v0h (RS p) (Ci p hp) (Qr p) (Ci p hp).add):=by show T.o0t.F.okA El λ_ _ _ _ _ _ _ _ hr h=>?_;obtain⟨k0,x,y,a,b,m,n,rfl,⟨⟨q,dx,rfl,hq⟩,rfl,rfl,sa,sb,gX⟩,k⟩:=h;show⟨_,(a9<|c6<|j4 F1 (j4 z6 (O 1)<|O 2)<|MW (O 0) Y),?_⟩;show vb Y Y (zc ⟨Y,Y,U Y ⟨q,_,dx,zc ⟨Y,hq,T.u0a,T.nP,Ex p,zc ⟨Y,Y,(show p≠0 by omega),?_⟩⟩⟩⟩);exact k _ _ (g9.refl _) rfl
def DT(p:Int)(hp:2<=p)(hq:p<=1000000):j2 Pr w K mg base B7 1 t.p0c t.o0n Cm (Ce t.v0h (RS p) (Ci p hp) (Qr p) (Ci p hp).mul):=by show T.o0g.F.okA DD λ_ _ _ _ _ _ _ _ hr h=>?_;obtain⟨k0,x,y,a,b,m,n,rfl,⟨⟨q,dx,rfl,hk⟩,rfl,rfl,sa,sb,gX⟩,k⟩:=h;have cm:QO a.x b.x:=.inl ⟨by have:=a.h0;omega,by have:=a.h1;omega⟩;show⟨_,(a9<|c6<|j4 F1 (j4 Ao (O 1)<|O 2)<|MW (O 0) Y),?_⟩;show vb Y Y (zc ⟨Y,Y,cm,U Y ⟨q,_,dx,zc ⟨Y,hk,T.u0a,T.nP,Ex p,zc ⟨Y,Y,(show p≠0 by omega),?_⟩⟩⟩⟩);exact k _ _ (g9.refl _) rfl
def Fp:j2 Pr w K mg base B7 1 t.q0y t.o0z [E3] (Cd t.x0t [] X2 Qt X2.zero):=by show T.p0f.F.okA Fi λ_ _ _ _ _ _ _ _ hr h=>?_;obtain⟨x,rfl,_,k⟩:=h;show⟨_,(a9<|c6 M4),?_⟩;exact k _ _ (g9.refl _) rfl
def HK:j2 Pr w K mg base B7 1 t.s0s t.q0b Cm (Ce t.x0t [] X2 Qt X2.add):=by
 show T.q0v.F.okA Hz λ_ _ _ _ H _ _ _ hr h=>?_;obtain⟨k0,x,y,a,b,m,n,rfl,⟨_,rfl,rfl,sa,sb,gX⟩,k⟩:=h;show⟨_,(a8 (j7 (d7 Bf (O 1) M4<|d8 _) (a9<|c6<|O 2) i3)<|a8 (j7 (d7 Bf (O 2) M4<|d8 _) (a9<|c6<|O 1) i3)<|a9<|c6<|i0 (QI Y) bR T.z_min boot_min<|B8 (O 1)<|O 2),?_⟩;have k':=k (cV<|QL a b) H (g9.refl _) rfl;cases a with
 | none=>
  show U Y ⟨Y,U Y ?_⟩;show C2 ?_;exact U Y k'
 | some i=>
  show U Y ⟨Y,U Y ?_⟩;show l4 ?_;cases b with
  | none=>
   show U Y ⟨Y,U Y ?_⟩;show C2 ?_;exact U Y k'
  | some j=>
   show U Y ⟨Y,U Y ?_⟩;show l4 ?_;exact vb Y Y (zc ⟨Y,k'⟩)
def Gy:j2 Pr w K mg base B7 1 t.r0o t.p0v Cm (Ce t.x0t [] X2 Qt X2.mul):=by
 show T.q0a.F.okA Ge λ_ _ _ _ H _ _ _ hr h=>?_;obtain⟨k0,x,y,a,b,m,n,rfl,⟨_,rfl,rfl,sa,sb,gX⟩,k⟩:=h;show⟨_,(a8 (j7 (PW.pt<|G9 (d7 Bf (O 1) M4<|d8 _)<|E7<|d7 Bf (O 2) M4<|d8 _) (a9<|c6 M4) i3)<|a9<|c6<|j4 z6 (O 1)<|O 2),?_⟩;have k':=k (cV<|NM a b) H (g9.refl _) rfl;cases a with
 | none=>
  show U Y ⟨Y,U Y ?_⟩;show C2 ?_
  (try show C2 ?_)
  exact k'
 | some i=>
  show U Y ⟨Y,U Y ?_⟩;show l4 ?_;cases b with
  | none=>
   show U Y ⟨Y,U Y ?_⟩
   (try show C2 ?_)
   exact k'
  | some j=>
   show U Y ⟨Y,U Y ?_⟩
   (try show l4 ?_)
   exact vb Y Y (zc ⟨Y,Y,k'⟩)
def EB:j2 Pr w K mg base B7 1 t.p0w t.o0w [E3] (Cd t.x0m [] P2 Qq P2.zero):=by show T.o0o.F.okA Ek λ_ _ _ _ _ _ _ _ hr h=>?_;obtain⟨x,rfl,_,k⟩:=h;show⟨_,(a9<|c6 M5),?_⟩;exact k _ _ (g9.refl _) rfl
def Gx:j2 Pr w K mg base B7 1 t.s0d t.p0s Cm (Ce t.x0m [] P2 Qq P2.add):=by
 show T.p0y.F.okA Gd λ_ _ _ _ H _ _ _ hr h=>?_;obtain⟨k0,x,y,a,b,m,n,rfl,⟨_,rfl,rfl,sa,sb,gX⟩,k⟩:=h;show⟨_,(a9<|c6<|RT (O 1)<|X0<|O 2),?_⟩;have k':=k (.bl<|a || b) H (g9.refl _) rfl;cases a with
 | true=>exact vb Y Y (C2 k')
 | false=>exact vb Y Y (l4<|U Y k')
def Fn:j2 Pr w K mg base B7 1 t.q0k t.p0j Cm (Ce t.x0m [] P2 Qq P2.mul):=by
 show T.p0g.F.okA Fg λ_ _ _ _ H _ _ _ hr h=>?_;obtain⟨k0,x,y,a,b,m,n,rfl,⟨_,rfl,rfl,sa,sb,gX⟩,k⟩:=h;show⟨_,(a9<|c6<|CP (O 1)<|X0<|O 2),?_⟩;have k':=k (.bl<|a && b) H (g9.refl _) rfl;cases a with
 | true=>exact vb Y Y (C2<|U Y k')
 | false=>exact vb Y Y (l4 k')
def Ar:j2 Pr w K mg base B7 2 t.n0m t.n0i Mm (KS t.v0c [] QA Qs):=by
 show T.n0j.F.okA Ae λ_ _ _ _ H _ _ _ hr h=>?_;obtain⟨k0,x,a,rfl,⟨_,⟨px,rfl,hx⟩⟩,k⟩:=h;have hl:R1 K (.ref px) H 2:=.inr ⟨_,j3.of hx,Y⟩;show⟨_,(a8 (j7 (PW.pt<|G9 (D9<|C6<|i0 C3 bR T.z_isinstance boot_isinstance<|B8 (O 1)<|E1 (v:=.ty "tuple") Y T.z_tuple boot_tuple Y)<|E7<|d7 Be (i0 l5 bR T.z_len PySem.boot_len<|o9<|O 1) a7<|d8 _) (a9<|c6 M5) i3)<|a8 (j7 (PW.pt<|G9 (D9<|C6<|z7 (F7 T) hr.m T.t0z<|o9<|o5 c9 (O 1) a7)<|E7<|D9<|C6<|z7 (F7 T) hr.m T.t0z<|o9<|o5 c9 (O 1) a7) (a9<|c6 M5) i3)<|a9<|c6<|CP (K3 c0f (o5 c9 (O 1) a7) a7<|d8 _)<|X0<|K3 o4 (z7 (Gv T) hr.m T.u0k<|B8 (o5 c9 (O 1) a7)<|o5 c9 (O 1) a7) a7<|d8 _),?_⟩;show U Y (ze ⟨Y,J7.tup hx,T.k_tt,U Y ?_⟩)
 (try show l4 ?_)
 show U Y (zc ⟨Y,hl,Y,U Y ?_⟩)
 (try dsimp only)
 show IL (λne=>absurd Y ne)<|λ_=>?_;show U Y (ze ⟨Y,Y,j3.of hx,Y,vb Y Y ?_⟩)
 (try show l4 ?_)
 show U Y (ze ⟨Y,Y,j3.of hx,Y,vb Y Y ?_⟩)
 (try show l4 ?_)
 (try show l4 ?_)
 show U Y<|ze ⟨Y,Y,j3.of hx,Y,zc ⟨Y,Y,U Y ?_⟩⟩;show R0 (λ_=>?_)<|λh0=>absurd a.p Z;show U Y<|ze ⟨Y,Y,j3.of hx,Y,U Y<|ze ⟨Y,Y,j3.of hx,Y,zc ⟨Y,Y,?_⟩⟩⟩;rw[show decide (V.int (dv a.t a.b)=V.int 1)=true from m0v a.l];exact k
def AC(p:Int)(hp:2<=p):j2 Pr w K mg base B7 2 t.n0s t.n0k Mm (KS t.v0h (RS p) (Ci p hp)<|Qr p):=by
 show T.n0l.F.okA AB λ_ _ _ _ H _ Q _ hr h=>?_;obtain⟨k0,x,a,rfl,⟨⟨q,dx,rfl,hq⟩,rfl⟩,k⟩:=h;have a0:=a.h0;have a1:=a.h1;show⟨_,(a9<|c6<|CP (z7 (F7 T) hr.m T.t0z<|o9<|O 1)<|X0<|RW Ot DM a7 (O 1)<|MW (O 0) Y),?_⟩;show vc Y Y Y ?_;show C2 ?_;show U Y<|zc ⟨Y,Y,U Y ?_⟩;show R0 (λ_=>?_)<|λh0=>absurd a0 Z;show U Y ⟨q,_,dx,zc ⟨Y,hq,T.u0a,T.nP,Ex p,zc ⟨Y,Y,?_⟩⟩⟩;have e:Q (V.bl<|decide<|Re.x (p:=p) a < p) H:=by rw[decide_eq_true a1];exact k
 exact e
def CV:j2 Pr w K mg base B7 2 t.o0s t.o0c Mm (KS t.x0t [] X2 Qt):=by
 show T.n0x.F.okA Cz λ_ _ _ _ _ _ _ _ hr h=>?_;obtain⟨k0,x,a,rfl,⟨_,rfl⟩,k⟩:=h;show⟨_,(a9<|c6<|RT (K3 Bf (O 1) M4<|d8 _)<|X0<|z7 (F7 T) hr.m T.t0z<|o9<|O 1),?_⟩;cases a with
 | none=>exact U Y ⟨Y,U Y<|C2 k⟩
 | some i=>exact U Y ⟨Y,U Y<|l4<|vb Y Y k⟩
def BU:j2 Pr w K mg base B7 2 t.o0h t.n0r Mm (KS t.x0m [] P2 Qq):=by show T.n0v.F.okA BM λ_ _ _ _ _ _ _ _ hr h=>?_;obtain⟨k0,x,a,rfl,⟨_,rfl⟩,k⟩:=h;show⟨_,(a9<|c6<|i0 C3 bR T.z_isinstance boot_isinstance<|B8 (O 1)<|E1 (v:=.ty "bool") Y T.z_bool boot_bool Y),?_⟩;exact U Y (ze ⟨Y,J7.bl _,T.k_bb,k⟩)
def ED:j2 Pr w K mg base B7 1 t.p0n t.o0u [E3] (Cd t.v0c [] QA Qs Fr.one):=by show T.o0x.F.okA Em λ_ _ _ _ _ _ _ _ hr h=>?_;obtain⟨x,rfl,_,k⟩:=h;show⟨_,(a9<|c6<|o8<|B8 a7 a7),?_⟩;exact⟨sL,λp hp=>k _ _ (c4 hp) Mp.new⟩
def Fo(p:Int)(hp:2<=p):j2 Pr w K mg base B7 1 t.q0e t.p0i [E3] (Cd t.v0h (RS p) (Ci p hp) (Qr p) (Ci p hp).one):=by show T.p0a.F.okA Fh λ_ _ _ _ _ _ _ _ hr h=>?_;obtain⟨x,rfl,_,k⟩:=h;show⟨_,(a9<|c6 a7),?_⟩;exact k _ _ (g9.refl _) rfl
def JI:j2 Pr w K mg base B7 1 t.u0c t.r0h [E3] (Cd t.x0t [] X2 Qt X2.one):=by show T.r0r.F.okA Jt λ_ _ _ _ _ _ _ _ hr h=>?_;obtain⟨x,rfl,_,k⟩:=h;show⟨_,(a9<|c6 a7),?_⟩;exact k _ _ (g9.refl _) rfl
def HJ:j2 Pr w K mg base B7 1 t.t0v t.q0q [E3] (Cd t.x0m [] P2 Qq P2.one):=by show T.q0w.F.okA Hy λ_ _ _ _ _ _ _ _ hr h=>?_;obtain⟨x,rfl,_,k⟩:=h;show⟨_,(a9<|c6 M5),?_⟩;exact k _ _ (g9.refl _) rfl
def R_fr:c5 Pr w K mg base where
 S:=QA
 C:=t.v0c
 fs:=[]
 cl:=T.r0b
 is:=Qs
 same e h:=Mp.same e h
 isd h:=Mp.is h
 f_plus:=_
 d_plus:=_
 t_plus:=T.o0e.t
 b_plus:=T.o0e.b
 l_plus:=rfl
 G_plus:=(DU T).mono bD
 f_times:=_
 d_times:=_
 t_times:=T.o0a.t
 b_times:=T.o0a.b
 l_times:=rfl
 G_times:=(CU T).mono bD
 f_nought:=_
 d_nought:=_
 t_nought:=T.n0t.t
 b_nought:=T.n0t.b
 l_nought:=rfl
 G_nought:=(BV T).mono bD
 f_is_weight:=_
 d_is_weight:=_
 t_is_weight:=T.n0j.t
 b_is_weight:=T.n0j.b
 l_is_weight:=rfl
 G_is_weight:=(Ar T).mono bD
 f_one:=_
 d_one:=_
 t_one:=T.o0x.t
 b_one:=T.o0x.b
 l_one:=rfl
 G_one:=(ED T).mono bD
def R_re(p:Int)(hp:2<=p)(hq:p<=1000000):c5 Pr w K mg base where
 S:=Ci p hp
 C:=t.v0h
 fs:=RS p
 cl:=T.u0a
 is:=Qr p
 same _ h:=h
 isd {H v x} h:=by cases (show v=.int x.x from h);exact .int _
 f_plus:=_
 d_plus:=_
 t_plus:=T.o0t.t
 b_plus:=T.o0t.b
 l_plus:=Gm p dK
 G_plus:=(EC T p hp).mono bD
 f_times:=_
 d_times:=_
 t_times:=T.o0g.t
 b_times:=T.o0g.b
 l_times:=Gm p dK
 G_times:=(DT T p hp hq).mono bD
 f_nought:=_
 d_nought:=_
 t_nought:=T.o0b.t
 b_nought:=T.o0b.b
 l_nought:=Gm p dK
 G_nought:=(CT T p hp).mono bD
 f_is_weight:=_
 d_is_weight:=_
 t_is_weight:=T.n0l.t
 b_is_weight:=T.n0l.b
 l_is_weight:=Gm p dK
 G_is_weight:=(AC T p hp).mono bD
 f_one:=_
 d_one:=_
 t_one:=T.p0a.t
 b_one:=T.p0a.b
 l_one:=Gm p dK
 G_one:=(Fo T p hp).mono bD
def R_co:c5 Pr w K mg base where
 S:=X2
 C:=t.x0t
 fs:=[]
 cl:=T.w0z
 is:=Qt
 same _ h:=h
 isd {H v x} h:=by
  cases (show v=cV x from h);cases x with
  | none=>exact .non
  | some i=>exact .int i
 f_plus:=_
 d_plus:=_
 t_plus:=T.q0v.t
 b_plus:=T.q0v.b
 l_plus:=rfl
 G_plus:=(HK T).mono bD
 f_times:=_
 d_times:=_
 t_times:=T.q0a.t
 b_times:=T.q0a.b
 l_times:=rfl
 G_times:=(Gy T).mono bD
 f_nought:=_
 d_nought:=_
 t_nought:=T.p0f.t
 b_nought:=T.p0f.b
 l_nought:=rfl
 G_nought:=(Fp T).mono bD
 f_is_weight:=_
 d_is_weight:=_
 t_is_weight:=T.n0x.t
 b_is_weight:=T.n0x.b
 l_is_weight:=rfl
 G_is_weight:=(CV T).mono bD
 f_one:=_
 d_one:=_
 t_one:=T.r0r.t
 b_one:=T.r0r.b
 l_one:=rfl
 G_one:=(JI T).mono bD
def R_tr:c5 Pr w K mg base where
 S:=P2
 C:=t.x0m
 fs:=[]
 cl:=T.v0s
 is:=Qq
 same _ h:=h
 isd {H v x} h:=by cases (show v=.bl x from h);exact .bl x
 f_plus:=_
 d_plus:=_
 t_plus:=T.p0y.t
 b_plus:=T.p0y.b
 l_plus:=rfl
 G_plus:=(Gx T).mono bD
 f_times:=_
 d_times:=_
 t_times:=T.p0g.t
 b_times:=T.p0g.b
 l_times:=rfl
 G_times:=(Fn T).mono bD
 f_nought:=_
 d_nought:=_
 t_nought:=T.o0o.t
 b_nought:=T.o0o.b
 l_nought:=rfl
 G_nought:=(EB T).mono bD
 f_is_weight:=_
 d_is_weight:=_
 t_is_weight:=T.n0v.t
 b_is_weight:=T.n0v.b
 l_is_weight:=rfl
 G_is_weight:=(BU T).mono bD
 f_one:=_
 d_one:=_
 t_one:=T.q0w.t
 b_one:=T.q0w.b
 l_one:=rfl
 G_one:=(HJ T).mono bD
inductive So(T:Txt K mg t):c5 Pr w K mg base->Str->Int->Prop
 | fr:So T (R_fr T) "fractions" 0
 | re (p:Int) (hp:2<=p) (hq:p<=1000000) (hi:Nw p=true):So T (R_re T p hp hq) "residues" p
 | co:So T (R_co T) "costs" 0
 | tr:So T (R_tr T) "truths" 0
def G0(H:Hp)(v:V)(nm:Str)(p:Int):Prop:=∃q,v=.ref q/\H q=some (.tup [.str nm,.int p])
def G0.same{H H':Hp}{v:V}{nm:Str}{p:Int}(s:D7 H H')(h:G0 H v nm p):G0 H' v nm p:=by obtain⟨q,rfl,e⟩:=h;exact⟨q,rfl,s _ _ e⟩
variable(w K mg base)in def Jj:Sp:=λvs H Q _=>∃(R:c5 Pr w K mg base),∃tb,∃(z:Int),∃(i:Nat),∃h n x m,vs=[tb,.int z]/\(R.Tab h n x m tb H/\i < n/\h<=1000/\z=i)/\
 ∀v H',g9 H H'->R.Row h (λj=>x j i) m v H'->Q v H'
def JH:j2 Pr w K mg base B7 1 t.v0b t.r0t PY (Jj w K mg base):=by
 show T.r0j.F.okA Jr λ_ _ _ _ H _ _ _ hr h=>?_;obtain⟨R,tb,z,i,h,n,x,m,rfl,⟨⟨p,iD,rfl,hp,eR⟩,hi,hh,rfl⟩,k⟩:=h;show⟨_,(a9<|c6<|o6 j9 bR T.z_tuple boot_tuple<|o9<|B9 (xs:=[P9]) Y (oC PY<|b9 V2) (E9<|O 0) (w5 (i:=2) (by show List.Nodup ([W4,IZ,P9]:w1i);decide +kernel) Y<|Or.inl Y)<|o5 (show Vw _ (RL K)from c9) (O 2)<|O 1),?_⟩;show U Y ⟨p,Y,⟨_,j3.of hp⟩,u6 (n:=h) (λj ys H2=>l8 (R.Wt (λj=>x j i) m) ys j H/\H2=H) hh ⟨l8.nil,Y⟩ (λj ys H2 q=>q.1.1) ?_ ?_ ?_⟩
 . rintro j ys H2 hj ⟨e,rfl⟩;obtain⟨u,eu,pu⟩:=eR.2 j hj;show GL (j3.of hp) eu ?_;obtain⟨q,cs,rfl,hq,ec⟩:=pu;obtain⟨z,ez,pz⟩:=ec.2 i hi;show⟨⟨[sr q],Y,Y⟩,vb Y Y<|ze ⟨Y,Y,j3.of hq,y9 ez,?_⟩⟩;exact⟨e.snoc pz,Y⟩
 . rintro ys H2 ⟨e,rfl⟩;exact⟨_,j3.of hp,by rw[eR.1];exact ae _⟩
 . rintro ys H2 l ⟨e,rfl⟩ nl;have s1:=c4 (o:=.lst ys) nl;show⟨l,ys,Y,.inl ⟨y7.of c0,λl2 n2=>?_⟩⟩;have s2:=c4 (o:=.tup ys) n2;exact k _ _ (s1.trans s2) ⟨l2,ys,Y,c0,e.mono λ_ _ _ q=>c5.Wt.same (s1.trans s2).t q⟩
variable(w K mg base)in def Hq:Sp:=λvs H Q _=>∃(R:c5 Pr w K mg base),∃tb h n x m,vs=[tb]/\(R.Tab h n x m tb H/\h<=1000/\n<=1000)/\
 ∀v H',g9 H H'->R.Tab (if h=0 then 0 else n) h (λj i=>x i j) m v H'->Q v H'
def Ck:j2 Pr w K mg base B7 2 t.s0x t.q0m [W4] (Hq w K mg base):=by
 show T.q0o.F.okA Hx λ_ _ _ _ H _ _ _ hr h=>?_;obtain⟨R,tb,h,n,x,m,rfl,⟨ht,hh,hn⟩,k⟩:=h;show⟨_,(a8 (j7 (d7 o4 (i0 l5 bR T.z_len PySem.boot_len<|o9<|O 0) a7<|d8 _) (a9<|c6<|o8 P0) i3)<|a9<|c6<|o6 j9 bR T.z_tuple boot_tuple<|o9<|B9 (xs:=[IZ]) Y (oC [W4]<|b9 S3) (G8 Y T.z_range<|o9<|i0 l5 bR T.z_len PySem.boot_len<|o9<|o5 c9 (O 0) a7) (gL 1 PY)<|j8 (JH (w:=w) (base:=base) T) hr.m Y T.r0j.m T.r0j.F.kp T.r0j.b .nil m8<|B8 (O 0)<|O 1),?_⟩;show U Y<|zc ⟨Y,ht.len,Y,U Y ?_⟩;show Fz (λe0=>?_) (λe0=>?_)
 . have e:h=0:=by omega
   subst e;show⟨sL,λp np=>k _ _ (c4 np) ⟨p,[],Y,c0,l8.nil⟩⟩
 . obtain⟨p,iD,rfl,hp,eR⟩:=ht;obtain⟨u,eu,pu⟩:=eR.2 0 Z;have e0:h≠0:=by omega
   rw[if_neg e0]at k;show U Y (ze ⟨Y,Y,j3.of hp,y9 (j:=0) eu,zc ⟨Y,pu.len,U Y ⟨Z,Z,u6 (n:=n) (λj ys H2=>g9 H H2/\l8 (λj u H=>R.Row h (λi=>x i j) m u H) ys j H2) hn ⟨g9.refl _,l8.nil⟩ (λj ys H2 q=>q.2.1) ?_ ?_ ?_⟩⟩⟩)
   . rintro j ys H2 hj ⟨q,e⟩;show UK (by omega) ?_;show⟨⟨[some<|.int<|0+(j:Int)],Y,Y⟩,vb Y Y ⟨R,zt _ _ j h n x m ⟨Y,⟨c5.Tab.same q.t ⟨p,iD,Y,hp,eR⟩,hj,hh,Z⟩,λv H3 s3 r3=>?_⟩⟩⟩;exact⟨q.trans s3,(e.mono λ_ _ _ z=>c5.Row.same s3.t z).snoc r3⟩
   . rintro ys H2 ⟨q,e⟩;show(n:Int).toNat<=n;omega
   . rintro ys H2 l ⟨q,e⟩ nl;have s1:=c4 (o:=.lst ys) nl;show⟨l,ys,Y,.inl ⟨y7.of c0,λl2 n2=>?_⟩⟩;have s2:=c4 (o:=.tup ys) n2;exact k _ _ (q.trans<|s1.trans s2) ⟨l2,ys,Y,c0,e.mono λ_ _ _ z=>c5.Row.same (s1.trans s2).t z⟩
def o3(S:SR)(x y:w1a S)(n:Nat):S.W:=sm S (λi=>S.mul (x i)<|y i) n
theorem Og{S:SR}{f:w1a S}{k:Nat}:∀{n:Nat},(∀i,i < n->S.lv k 1 (f i))->S.lv k n (sm S f n)
 | 0,_=>S.lv_zero k
 | n+1,h=>S.lv_add _ _ _ _ _ (Og λi hi=>h i<|bQ hi) (h n<|bb n)
def Kd{S:SR}{x y:w1a S}{m m' n:Nat}(hx:∀i,i < n->S.lv m 32 (x i))(hy:∀i,i < n->S.lv m' 32 (y i)):S.lv (m+m') n (o3 S x y n):=Og λi hi=>S.lv_mul _ _ _ _ (hx i hi) (hy i hi)
def EN{R:c5 Pr w K mg base}{x:w1a R.S}{m n:Nat}{ys:List V}{H:Hp}(e:l8 (R.Wt x m) ys n H):∀i,i < n->R.S.lv m 32 (x i):=λi hi=>by
 obtain⟨_,_,q⟩:=e.2 i hi;exact q.2
variable(w K mg base)in def VQ:Sp:=λvs H Q _=>∃(R:c5 Pr w K mg base),∃kv row col n x y m m',vs=[kv,row,col]/\(Bv R.C R.fs H kv/\R.Seq n x m row H/\R.Seq n y m' col H/\n<=32/\m+m'<=100000)/\
 ∀v H',g9 H H'->R.is H' v (o3 R.S x y n)->R.S.lv (m+m') 32 (o3 R.S x y n)->Q v H'
def JG:j2 Pr w K mg base B7 41 t.dot t.x0w [z0,P9,Hm] (VQ w K mg base):=by
 show T.x0v.F.okA Gc λ_ _ _ _ H _ _ _ hr h=>?_;obtain⟨R,kv,row,col,n,x,y,m,m',rfl,⟨⟨kp,dx,rfl,hk⟩,⟨S1,xs,o1,v1,w1,e1⟩,⟨S2,ys,o2,v2,w2,e2⟩,hz⟩,k⟩:=h;show⟨_,(a8 (sT 3 Gc.nd<|Y6 (O 0) R.cl R.t_nought R.G_nought hr.m R.b_nought .nil m8)<|a8 (E8 aB Y (CO Y T.z_zip<|B8 (O 1)<|O 2) (An Y<|z8 (gN 4 Gc.nd)<|z8 (gN 5 Gc.nd) S6)<|a9<|sT 3 Gc.nd<|FJ (O 0) R.cl R.t_plus R.G_plus hr.m R.b_plus .nil m8<|B8 (O 3)<|FJ (O 0) R.cl R.t_times R.G_times hr.m R.b_times .nil m8<|B8 (O 4)<|O 5)<|a9<|c6<|O 3),?_⟩;show U Y<|zd ⟨Y,hk,R.l_nought,U Y ⟨zc ⟨Y,hk⟩,λz H1 s1 f1=>?_⟩⟩;show vb Y Y ⟨S1,S2,zc ⟨xs,ys,Y,o1,o2,(w1 _ s1).1,(w2 _ s1).1,Kc (K:=K) (xs:=xs) (ys:=ys) (λi σ H2=>∃eW v4 v5,σ=[sr kp,some row,some col,some eW,v4,v5]/\g9 H H2/\R.is H2 eW (o3 R.S x y i)) (by rw[e1.1,e2.1]) ⟨_,_,U Y ⟨s1,f1⟩⟩ (λi σ H2 _ ⟨_,_,_,_,q,_⟩=>⟨(w1 _ q).1,(w2 _ q).1⟩) ?_ ?_⟩⟩
 . rintro i u v p σ H2 hu hv np ⟨eW,v4,v5,rfl,q,f⟩;obtain⟨hi,pu⟩:=e1.at hu;obtain⟨_,O⟩:=e2.at hv;have sp:=c4 (o:=.tup [u,v]) np;have q2:=q.trans sp;show⟨p,U Y ⟨j3.of c0,Y,zc ⟨Y,zc ⟨Y,Y,?_⟩⟩⟩⟩;show U Y<|zd ⟨Y,q2 _ _ hk,R.l_plus,vb Y Y<|zd ⟨Y,q2 _ _ hk,R.l_times,vb Y Y<|zf ⟨100 * m,100 * m',Y,⟨zc ⟨Y,q2 _ _ hk⟩,R.same q2.t pu.1,R.same q2.t O.1,R.S.lv_sz _ _ _ bD pu.2,R.S.lv_sz _ _ _ bD O.2,Z⟩,λpr H3 s3 f3=>?_⟩⟩⟩;have q3:=q2.trans s3;show zf ⟨100 * (m+m'),100 * (m+m'),Y,⟨zc ⟨Y,q3 _ _ hk⟩,R.same (sp.trans s3).t f,f3,R.S.lv_sz _ _ _ Z<|Kd (λj hj=>EN e1 j<|cw hj hi)<|λj hj=>EN e2 j<|cw hj hi,R.S.lv_sz _ _ _ bD<|R.S.lv_mul _ _ _ _ pu.2 O.2,Z⟩,λtt H4 s4 f4=>?_⟩;exact zd ⟨Y,q3.trans s4,f4⟩
 . rintro σ H2 ⟨eW,v4,v5,rfl,q,f⟩;rw[e1.1]at f;exact U Y (k _ _ q f<|R.S.lv_mono _ _ _ _ hz.1<|Kd (EN e1)<|EN e2)
variable(w K mg base)in def Pf:Sp:=λvs H Q _=>∃(R:c5 Pr w K mg base),∃kv row tb h n x A m m',vs=[kv,row,tb]/\(Bv R.C R.fs H kv/\R.Seq h x m row H/\R.Tab h n A m' tb H/\h<=1000/\n<=1000/\h<=32/\m+m'<=100000)/\
 ∀v H',g9 H H'->R.Row (if h=0 then 0 else n) (λj=>o3 R.S x (λi=>A i j) h) (m+m') v H'->Q v H'
def ID:j2 Pr w K mg base B7 42 t.x0n t.w0k Sl (Pf w K mg base):=by
 show T.v0o.F.okA Pw λ_ _ _ _ _ _ _ _ hr h=>?_;obtain⟨R,kv,row,tb,h,n,x,B,m,m',rfl,⟨hk,hx,ht,hh,hn,hz⟩,k⟩:=h;show⟨_,(a9<|c6<|o6 j9 bR T.z_tuple boot_tuple<|o9<|B9 (xs:=[Hm]) Y (oC Sl<|b9 DG) (E9<|z7 (Ck T) hr.m T.q0o<|o9<|O 2) (w5 (i:=3) (by show List.Nodup ([z0,P9,W4,Hm]:w1i);decide +kernel) Y<|Or.inl Y)<|j8 (JG (w:=w) (base:=base) T) hr.m Y T.x0v.m T.x0v.F.kp T.x0v.b .nil m8<|O1 (O 0) (O 1)<|O 3),?_⟩;show U Y ⟨R,zq _ h n B m' ⟨Y,⟨ht,hh,hn⟩,?_⟩⟩;rintro cv H1 s1 ⟨p,xF,rfl,hp,eR⟩;show⟨p,Y,⟨_,j3.of hp⟩,u6 (n:=if h=0 then 0 else n) (λj ys H2=>g9 H1 H2/\l8 (R.Wt (λj=>o3 R.S x (λi=>B i j) h)<|m+m') ys j H2) (by split <;>omega) ⟨g9.refl _,l8.nil⟩ (λj ys H2 q=>q.2.1) ?_ ?_ ?_⟩
 . rintro j ys H2 hj ⟨q,e⟩;obtain⟨u,eu,pu⟩:=eR.2 j hj;show GL (j3.of<|q _ _ hp) eu ?_;show⟨⟨[some _],Y,Y⟩,vc Y Y Y ⟨R,zu _ _ _ h x (λi=>B i j) m m' ⟨Y,⟨hk.same<|s1.trans q,c5.Seq.same (s1.trans q) hx,(c5.Row.same q.t pu).seq,hz⟩,λv H3 s3 f3 z3=>?_⟩⟩⟩;exact⟨q.trans s3,(e.mono λ_ _ _ z=>c5.Wt.same s3.t z).snoc ⟨f3,z3⟩⟩
 . rintro ys H2 ⟨q,e⟩;exact⟨_,j3.of<|q _ _ hp,by rw[eR.1];exact ae _⟩
 . rintro ys H2 l ⟨q,e⟩ nl;have eX:=c4 (o:=.lst ys) nl;show⟨l,ys,Y,.inl ⟨y7.of c0,λl2 n2=>?_⟩⟩;have s2:=c4 (o:=.tup ys) n2;exact k _ _ ((s1.trans q).trans<|eX.trans s2) ⟨l2,ys,Y,c0,e.mono λ_ _ _ z=>c5.Wt.same (eX.trans s2).t z⟩
variable(w K mg base)in def Jk:Sp:=λvs H Q _=>∃(R:c5 Pr w K mg base),∃kv tb col h n A y m m',vs=[kv,tb,col]/\(Bv R.C R.fs H kv/\R.Tab h n A m tb H/\R.Seq n y m' col H/\h<=1000/\n<=32/\m+m'<=100000)/\
 ∀v H',g9 H H'->R.Row h (λi=>o3 R.S (A i) y n) (m+m') v H'->Q v H'
def DS:j2 Pr w K mg base B7 42 t.u0l t.r0s Sn (Jk w K mg base):=by
 show T.r0k.F.okA Js λ_ _ _ _ H _ _ _ hr h=>?_;obtain⟨R,kv,tb,col,h,n,B,y,m,m',rfl,⟨hk,⟨p,iD,rfl,hp,eR⟩,hy,hh,hz⟩,k⟩:=h;show⟨_,(a9<|c6<|o6 j9 bR T.z_tuple boot_tuple<|o9<|B9 (xs:=[P9]) Y (oC Sn<|b9 V3) (E9<|O 1) (w5 (i:=3) (by show List.Nodup ([z0,W4,Hm,P9]:w1i);decide +kernel) Y<|Or.inl Y)<|j8 (JG (w:=w) (base:=base) T) hr.m Y T.x0v.m T.x0v.F.kp T.x0v.b .nil m8<|O1 (O 0) (O 3)<|O 2),?_⟩;show U Y ⟨p,Y,⟨_,j3.of hp⟩,u6 (n:=h) (λj ys H2=>g9 H H2/\l8 (R.Wt (λi=>o3 R.S (B i) y n)<|m+m') ys j H2) hh ⟨g9.refl _,l8.nil⟩ (λj ys H2 q=>q.2.1) ?_ ?_ ?_⟩
 . rintro j ys H2 hj ⟨q,e⟩;obtain⟨u,eu,pu⟩:=eR.2 j hj;show GL (j3.of<|q _ _ hp) eu ?_;show⟨⟨[some _],Y,Y⟩,vc Y Y Y ⟨R,zu _ _ _ n (B j) y m m' ⟨Y,⟨hk.same q,(c5.Row.same q.t pu).seq,c5.Seq.same q hy,hz⟩,λv H3 s3 f3 z3=>?_⟩⟩⟩;exact⟨q.trans s3,(e.mono λ_ _ _ z=>c5.Wt.same s3.t z).snoc ⟨f3,z3⟩⟩
 . rintro ys H2 ⟨q,e⟩;exact⟨_,j3.of<|q _ _ hp,by rw[eR.1];exact ae _⟩
 . rintro ys H2 l ⟨q,e⟩ nl;have eX:=c4 (o:=.lst ys) nl;show⟨l,ys,Y,.inl ⟨y7.of c0,λl2 n2=>?_⟩⟩;have s2:=c4 (o:=.tup ys) n2;exact k _ _ (q.trans<|eX.trans s2) ⟨l2,ys,Y,c0,e.mono λ_ _ _ z=>c5.Wt.same (eX.trans s2).t z⟩
def Dr(H:Hp)(a:Addr):Prop:=∃x:Int,H a=some (.lst [.int x])\/∃d:Int,H a=some (.lst [.int d,.int x])
def v9(a:Addr)(H H':Hp):Prop:=∀b o,b≠a->H b=some o->H' b=some o
def v9.refl(a:Addr)(H:Hp):v9 a H H:=λ_ _ _ h=>h
def v9.trans{a:Addr}{H H1 H2:Hp}(x:v9 a H H1)(y:v9 a H1 H2):v9 a H H2:=λb o n h=>y b o n (x b o n h)
theorem v9.upd{a:Addr}{H:Hp}{o:HO}:v9 a H (upd H a o):=λb u n h=>by rw[k8 n];exact h
def v9.of{a:Addr}{H H':Hp}(x:g9 H H'):v9 a H H':=λb o _ h=>x b o h
def sp_next:Sp:=λvs H Q _=>∃(a:Addr) (m:Int),vs=[.ref a,.int m]/\(Dr H a/\0 < m/\m<=1000000000000000)/\∀(r:Int) H',v9 a H H'->Dr H' a->0<=r->r < m->Q (.int r) H'
def Rj(K:aa):Sp:=λvs H Q _=>∃(a:Addr) (ns:List Int),vs=[.ref a]/\y7 K H a (ns.map V.int)/\ns.length<=63/\∀b H',H b=none->g9 H H'->Dr H' b->Q (.ref b) H'
def Pm{m:Int}(h:0 < m)(h':m<=1000000000000000)(x:Int):Vy x m:=by
 show⟨Z,?_⟩;have:m.natAbs<=2 ^ 50:=by
  have e:(2:Nat) ^ 50=1125899906842624:=by decide
  omega
 by_cases e:m.natAbs=0
 . rw[e];decide
 . rw[Nat.log2_lt e];exact Nat.lt_of_le_of_lt this (Nat.pow_lt_pow_right bD bD)
def l9:j2 Pr w K mg base B7 1 t.w0n t.s0v Xn sp_next:=by
 show T.t0r.F.okA ES λ_ _ _ _ H _ _ _ hr h=>?_;obtain⟨a,m,rfl,⟨⟨x,hD⟩,m0,m1⟩,k⟩:=h;show⟨_,(a8 (j7 (d7 o4 (i0 l5 bR T.z_len PySem.boot_len<|o9<|O 0) a7<|d8 _) (a8 (sT 2 ES.nd<|j4 F1 (o5 l6 (O 0) a7)<|O 1)<|a8 (MT (j4 Gp (o5 l6 (O 0) a7)<|O 1)<|RR (O 0) a7 KW)<|a8 (j7 (d7 o4 (o5 l6 (O 0) a7) a7<|d8 _) (a9<|x4<|DL cb PySem.F.slot_list_pop PySem.F.type_list_pop Sv (O 0)<|o9 a7) i3)<|a9<|c6<|O 2) i3)<|a8 (MT (j4 F1 (j4 z6 (j4 Ao (o5 l6 (O 0) a7) a7) a7) a7)<|RR (O 0) a7 KW)<|a9<|c6<|j4 F1 (j4 Gp (o5 l6 (O 0) a7) a7)<|O 1),?_⟩;rcases hD with hD | ⟨d,hD⟩
 . have lc:R1 K (.ref a) H 1:=.inl ⟨_,y7.of hD,Y⟩;show U Y<|zc ⟨Y,lc,Y,U Y ?_⟩;show Fz (λh=>absurd h bD)<|λ_=>?_;show U Y (ze ⟨Y,Y,y7.of hD,Y,zc ⟨Y,Y,.inr ⟨by decide,bD⟩,zc ⟨Y,Y,zc ⟨Y,Y,(show(2305843009213693951:Int)≠0 by decide),?_⟩⟩⟩⟩);show U Y<|ze ⟨Y,Y,hD,Y,?_⟩;show U Y (ze ⟨Y,Y,y7.of c0,Y,zc ⟨Y,Y,⟨by decide,bD⟩,U Y<|zc ⟨Y,Y,(show m≠0 by omega),?_⟩⟩⟩);exact k _ _ v9.upd ⟨_,.inl c0⟩ (bA _ m0) (bI _ m0)
 . have lc:R1 K (.ref a) H 2:=.inl ⟨_,y7.of hD,Y⟩;show U Y<|zc ⟨Y,lc,Y,U Y ?_⟩;show Fz (λ_=>?_)<|λh=>absurd Y h;show U Y (ze ⟨Y,Y,y7.of hD,Y,U Y<|zc ⟨Y,Y,(show m≠0 by omega),?_⟩⟩);show U Y<|ze ⟨Y,Y,y7.of hD,Y,U Y<|zc ⟨Y,Y,Pm m0 m1 _,?_⟩⟩;show U Y<|ze ⟨Y,Y,hD,Y,?_⟩;show U Y<|ze ⟨Y,Y,y7.of c0,Y,Y,U Y ?_⟩;show Fz (λ_=>?_) (λ_=>?_)
   . show U Y ⟨.inl ⟨Y,_,y7.of c0⟩,zf ⟨Y,Y,c0,bD,bD,Y,Y,?_⟩⟩;show U Y ?_;exact k _ _ (v9.upd.trans v9.upd) ⟨x,.inl c0⟩ (bA _ m0) (bI _ m0)
   . show U Y ?_;exact k _ _ v9.upd ⟨x,.inr ⟨_,c0⟩⟩ (bA _ m0) (bI _ m0)
def JE:j2 Pr w K mg base B7 1 t.u0w t.r0c [Ky] (Rj K):=by
 show T.r0w.F.okA R6 λ_ _ _ _ H _ Q _ hr h=>?_;obtain⟨a,ns,rfl,hS,dE,k⟩:=h;show⟨_,(a8 (sT 1 R6.nd a7)<|a8 (E8 aB Y (BG<|M3 TY (O 0) S5<|S4 a7) (gN 2 R6.nd)<|a9<|sT 1 R6.nd<|j4 F1 (j4 z6 (j4 z6 (j4 Ao (O 1) a7)<|j4 F1 (O 2)<|j4 WZ a7 a7) a7) a7)<|a8 (j7 (PW.pt<|U0 (d7 Ay (i0 l5 bR T.z_len PySem.boot_len<|o9<|O 0) a7<|d8 _)<|U0 (d7 Ay (o5 l6 (O 0) a7) a7<|d8 _)<|V4<|d7 o4 (j4 F1 (o5 l6 (O 0) a7) a7) a7<|d8 _) (a9<|c6<|K8<|B8 (j4 Gp (o5 l6 (O 0) a7) a7)<|O 1) i3)<|a9<|c6<|K8<|o9<|O 1),?_⟩;show vb Y Y<|zc ⟨Y,hS,λc1 lq=>?_⟩;have ec:AE (ns.map V.int) none (some 200)=(ns.take 200).map V.int:=by rw[show(200:Int)=((200:Nat):Int)from rfl,Td,List.map_take]
 have s1:=c4 (o:=.lst<|AE (ns.map V.int) none<|some 200) lq;have k1:=c0 (H:=H) (a:=c1) (o:=.lst<|AE (ns.map V.int) none<|some 200);have jk:=s1.seq hS;clear lq;revert s1 k1 jk;generalize upd H c1 (.lst<|AE (ns.map V.int) none<|some 200)=H1;intro s1 k1 jk;rw[ec]at k1;show⟨c1,Y,⟨_,y7.of k1⟩,Bo (K:=K) (a:=c1) (xs:=(ns.take 200).map V.int) (λi σ H'=>∃(x:Int) (v:Option V),σ=[sr a,some<|.int x,v]/\H'=H1) ⟨_,U Y Y⟩ (λi σ H' _ ⟨_,_,_,e⟩=>e▸y7.of k1) ?_ ?_⟩
 . rintro i y σ H' hi ⟨x,v,rfl,rfl⟩;obtain⟨z,rfl⟩:∃z,y=V.int z:=by
    rw[bz]at hi;cases e:(ns.take 200)[i]? with
    | none=>rw[e]at hi;cases hi
    | some z=>rw[e]at hi;exact⟨z,(Option.some.inj hi).symm⟩
   show U Y (zc ⟨Y,Y,.inr ⟨by decide,bD⟩,U Y<|zc ⟨Y,Y,⟨by decide,bD,bD⟩,zc ⟨Y,Y,(show((10:Int) ^ (30:Int).toNat)≠0 by decide),zc ⟨Y,Y,zc ⟨Y,Y,zc ⟨Y,Y,(show(2305843009213693951:Int)≠0 by decide),?_⟩⟩⟩⟩⟩⟩);exact zc ⟨Y,Y⟩
 . rintro σ H' ⟨x,v,rfl,rfl⟩;have lc:R1 K (.ref a) H' (ns.map V.int).length:=.inl ⟨_,jk,Y⟩;rw[aD]at lc;have iJ:YH tNext (YJ<|YN<|Q0 (OW 1) tNil) { nx:=λ_ gC=>Q .non gC,rt:=Q } [sr a,some<|.int x,v] H':=by show U Y ⟨sL,λb hb=>?_⟩;exact k b _ (s1.free hb) (s1.trans<|c4 hb) ⟨x,.inl c0⟩
   show U Y<|zc ⟨Y,lc,zc ⟨Y,Y,U Y ?_⟩⟩;show R0 (λh0=>?_) (λ_=>?_)
   . obtain⟨n0,g0⟩:∃n,ns[0]? = some n:=⟨ns[0]'Z,by simp⟩;have a0:Do (ns.map V.int) 0=some (V.int n0):=y9 (j:=0) (by rw[bz,g0];rfl);show U Y<|ze ⟨Y,Y,jk,a0,zc ⟨Y,Y,U Y ?_⟩⟩;show R0 (λ_=>?_) (λ_=>?_)
     . show U Y (ze ⟨Y,Y,jk,a0,zc ⟨Y,Y,(show(2:Int)≠0 by decide),Y,U Y ?_⟩⟩);show Fz (λ_=>?_) (λ_=>?_)
       . show U Y (ze ⟨Y,Y,jk,a0,zc ⟨Y,Y,⟨by decide,bD⟩,U Y ⟨sL,λb hb=>?_⟩⟩⟩);exact k b _ (s1.free hb) (s1.trans<|c4 hb) ⟨x,.inr ⟨_,c0⟩⟩
       . exact iJ
     . exact iJ
   . exact iJ
def Dr.same{H H':Hp}{a:Addr}(e:g9 H H')(h:Dr H a):Dr H' a:=by
 obtain⟨x,h | ⟨d,h⟩⟩:=h
 . exact⟨x,.inl<|e _ _ h⟩
 . exact⟨x,.inr ⟨d,e _ _ h⟩⟩
theorem Dr.lst{H:Hp}{a:Addr}(h:Dr H a):∃xs,H a=some (.lst xs):=by
 obtain⟨x,h | ⟨d,h⟩⟩:=h
 . exact⟨_,h⟩
 . exact⟨_,h⟩
def v9.tt{a:Addr}{H H':Hp}(s:v9 a H H')(d:Dr H a):D7 H H':=λp vs h=>s p _ (by
 rintro rfl;obtain⟨xs,e⟩:=d.lst;rw[h]at e;cases e) h
def v9.tup{a p:Addr}{H:Hp}{o:HO}(n:H p=none)(d:Dr H a):v9 a H (L2.upd H p o)/\Dr (L2.upd H p o) a:=⟨.of<|c4 n,d.same<|c4 n⟩
def Gu:j2 Pr w K mg base B7 1 t.s0j t.p0q UA sp_divisor:=by
 show T.p0u.F.okA AL λ_ _ _ _ H _ _ _ hr h=>?_;obtain⟨a,b,rfl,k⟩:=h;show⟨_,(a8 (Gj aB (d7 Be (O 1) a7<|d8 _)<|a9<|WM (i:=0) (j:=1) Y AL.nd Y Y bD Y Y (B8 (O 1)<|j4 F1 (O 0)<|O 1) Y)<|a9<|c6<|i0 Hc bR T.z_abs boot_abs<|o9<|O 0),?_⟩;show⟨λm σ H'=>∃x y,σ=[some<|.int x,some<|.int y]/\m=y.natAbs/\dv x y=dv a b/\H'=H,zd ⟨Y,Y,Y,Y⟩,?_⟩;rintro m σ H' ⟨x,y,rfl,rfl,e,rfl⟩
 (repeat fail)
 show IL (λh0=>?_) (λh0=>?_)
 . show⟨λσ' gC=>∃x' y',σ'=[some<|.int x',some<|.int y']/\y'.natAbs < y.natAbs/\dv x' y'=dv a b/\gC=H',λσ' gC ⟨x',y',e1,e2,e3,e4⟩=>⟨_,e2,x',y',e1,Y,e3,e4⟩,?_⟩;show vc Y Y Y<|zc ⟨Y,Y,h0,zc ⟨Y,?_⟩⟩;exact zc ⟨Y,LQ _ _ h0,XE e,Y⟩
 . show vb Y Y ?_
   (try dsimp only)
   rw[out2 e h0];exact k
def sp_low:Sp:=λvs H Q _=>∃a b,vs=[.int a,.int b]/\0 < b/\∀v H',g9 H H'->Mp H' v (tp a b) (bt a b)->Q v H'
def CS:j2 Pr w K mg base B7 36 t.x0i t.u0o ["_law_top",Tx] sp_low:=by
 show T.u0i.F.okA Gb λ_ _ _ _ _ _ _ _ hr h=>?_;obtain⟨a,b,rfl,pb,k⟩:=h;have hd:dv a b≠0:=Int.ne_of_gt<|GT Z;show⟨_,(a8 (sT 2 Gb.nd<|z7 (Gu T) hr.m T.p0u<|B8 (O 0)<|O 1)<|a9<|c6<|o8<|B8 (j4 (DN hr bD NX) (O 0)<|O 2)<|j4 (DN hr bD NX) (O 1)<|O 2),?_⟩
 (repeat fail)
 show⟨sL,λp hp=>?_⟩;show k _ _ (c4 hp) ?_
 (try dsimp only)
 rw[(Oz pb).1,(Oz pb).2];exact Mp.new
def Oc(f:∀S:SR,S.W->S.W->S.W):Sp:=λvs H Q _=>∃(R:c5 Pr w K mg base),∃nm p so x y a b m n,So T R nm p/\vs=[so,x,y]/\
 (G0 H so nm p/\R.is H x a/\R.is H y b/\R.S.sz m a/\R.S.sz n b/\m+n<=60000000)/\∀v H',g9 H H'->R.is H' v (f R.S a b)->Q v H'
def V9:j2 Pr w K mg base B7 37 t.w0m t.t0m Vo (Oc (w:=w) (base:=base) T λS=>S.add):=by
 show T.t0q.F.okA KZ λ_ _ _ _ H _ Q _ hr h=>?_;obtain⟨R,nm,p,so,x,y,a,b,m,n,hS,rfl,⟨⟨q,rfl,hq⟩,hx,hy,sa,sb,gX⟩,k⟩:=h;show⟨_,(a8 (j7 (d7 o4 (o5 c9 (O 0) a7) j1<|d8 _) (a9<|c6<|z7 (CS T) hr.m T.u0i<|B8 (j4 z6 (j4 P7 (o5 c9 (O 1) a7)<|o5 c9 (O 2) a7)<|j4 P7 (o5 c9 (O 2) a7)<|o5 c9 (O 1) a7)<|j4 P7 (o5 c9 (O 1) a7)<|o5 c9 (O 2) a7) i3)<|a8 (j7 (d7 o4 (o5 c9 (O 0) a7) j1<|d8 _) (a9<|c6<|j4 F1 (j4 z6 (O 1)<|O 2)<|o5 c9 (O 0) a7) i3)<|a8 (j7 (d7 o4 (o5 c9 (O 0) a7) j1<|d8 _) (a9<|c6<|RT (O 1)<|X0<|O 2) i3)<|a8 (j7 (PW.pt<|G9 (d7 Bf (O 1) M4<|d8 _)<|E7<|PW.pt<|U0 (d7 Us (O 2) M4<|d8 _)<|V4<|d7 DM (O 2) (O 1)<|d8 _) (a9<|c6<|O 2) i3)<|a9<|c6<|O 1),?_⟩;cases hS with
 | fr=>
  obtain⟨px,rfl,hx⟩:=hx;obtain⟨py,rfl,hy⟩:=hy;have sa:a.sz m:=sa;have sb:b.sz n:=sb;show U Y<|ze ⟨Y,Y,j3.of hq,Y,Y,U Y ?_⟩;rw[show decide (V.str ("fractions":Str)=V.str ("fractions":Str))=true by decide +kernel];show C2 ?_;show U Y<|ze ⟨Y,Y,j3.of hx,Y,U Y<|ze ⟨Y,Y,j3.of hy,Y,zc ⟨Y,Y,HL (n:=n) sa.1 sb.2 Z,U Y<|ze ⟨Y,Y,j3.of hy,Y,U Y<|ze ⟨Y,Y,j3.of hx,Y,zc ⟨Y,Y,HL (n:=m) sb.1 sa.2 Z,zc ⟨Y,Y,?_⟩⟩⟩⟩⟩⟩⟩;show U Y (ze ⟨Y,Y,j3.of hx,Y,U Y<|ze ⟨Y,Y,j3.of hy,Y,zc ⟨Y,Y,HL (n:=n) sa.2 sb.2 Z,zc ⟨Y,aN a.p b.p,λv H' s' f'=>k v H' s' f'⟩⟩⟩⟩)
 | re p hp gc hi=>
  cases (show x=.int a.x from hx);cases (show y=.int b.x from hy);show U Y<|ze ⟨Y,Y,j3.of hq,Y,Y,U Y ?_⟩;rw[show decide (V.str ("residues":Str)=V.str ("fractions":Str))=false by decide +kernel];show l4 ?_;show U Y<|ze ⟨Y,Y,j3.of hq,Y,Y,U Y ?_⟩;rw[show decide (V.str ("residues":Str)=V.str ("residues":Str))=true by decide +kernel];show C2 ?_;show vb Y Y (zc ⟨Y,Y,U Y<|ze ⟨Y,Y,j3.of hq,Y,zc ⟨Y,Y,(show p≠0 by omega),?_⟩⟩⟩);exact k _ _ (g9.refl _) rfl
 | tr=>
  cases (show x=.bl a from hx);cases (show y=.bl b from hy);show U Y<|ze ⟨Y,Y,j3.of hq,Y,Y,U Y ?_⟩;rw[show decide (V.str ("truths":Str)=V.str ("fractions":Str))=false by decide +kernel];show l4 ?_;show U Y<|ze ⟨Y,Y,j3.of hq,Y,Y,U Y ?_⟩;rw[show decide (V.str ("truths":Str)=V.str ("residues":Str))=false by decide +kernel];show l4 ?_;show U Y<|ze ⟨Y,Y,j3.of hq,Y,Y,U Y ?_⟩;rw[show decide (V.str ("truths":Str)=V.str ("truths":Str))=true by decide +kernel];show C2 ?_;have k':=k (.bl<|a || b) H (g9.refl _) rfl;cases a with
  | true=>exact vb Y Y (C2 k')
  | false=>exact vb Y Y (l4<|U Y k')
 | co=>
  cases (show x=cV a from hx);cases (show y=cV b from hy);show U Y<|ze ⟨Y,Y,j3.of hq,Y,Y,U Y ?_⟩;rw[show decide (V.str ("costs":Str)=V.str ("fractions":Str))=false by decide +kernel];show l4 ?_;show U Y<|ze ⟨Y,Y,j3.of hq,Y,Y,U Y ?_⟩;rw[show decide (V.str ("costs":Str)=V.str ("residues":Str))=false by decide +kernel];show l4 ?_;show U Y<|ze ⟨Y,Y,j3.of hq,Y,Y,U Y ?_⟩;rw[show decide (V.str ("costs":Str)=V.str ("truths":Str))=false by decide +kernel];show l4 ?_;have k':=k (cV<|QL a b) H (g9.refl _) rfl;cases a with
  | none=>
   show U Y ⟨Y,U Y ?_⟩;show C2 ?_;exact U Y k'
  | some i=>
   show U Y ⟨Y,U Y ?_⟩;show l4 ?_;cases b with
   | none=>
    show U Y ⟨Y,U Y ?_⟩
    (try show l4 ?_)
    (try show l4 ?_)
    exact U Y k'
   | some j=>
    show U Y ⟨Y,U Y ?_⟩
    (try show C2 ?_)
    show vb Y Y<|zc ⟨Y,Y,U Y ?_⟩;have k':Q (.int<|if j < i then j else i) H:=k';show R0 (λh0=>?_) (λh0=>?_)
    . rw[if_pos h0]at k';exact U Y k'
    . rw[if_neg h0]at k';exact U Y k'
def M8:j2 Pr w K mg base B7 37 t.u0h t.s0h Vo (Oc (w:=w) (base:=base) T λS=>S.mul):=by
 show T.r0u.F.okA Jp λ_ _ _ _ H _ _ _ hr h=>?_;obtain⟨R,nm,p,so,x,y,a,b,m,n,hS,rfl,⟨⟨q,rfl,hq⟩,hx,hy,sa,sb,gX⟩,k⟩:=h;show⟨_,(a8 (j7 (d7 o4 (o5 c9 (O 0) a7) j1<|d8 _) (a9<|c6<|z7 (CS T) hr.m T.u0i<|B8 (j4 P7 (o5 c9 (O 1) a7)<|o5 c9 (O 2) a7)<|j4 P7 (o5 c9 (O 1) a7)<|o5 c9 (O 2) a7) i3)<|a8 (j7 (d7 o4 (o5 c9 (O 0) a7) j1<|d8 _) (a9<|c6<|j4 F1 (j4 Ao (O 1)<|O 2)<|o5 c9 (O 0) a7) i3)<|a8 (j7 (d7 o4 (o5 c9 (O 0) a7) j1<|d8 _) (a9<|c6<|CP (O 1)<|X0<|O 2) i3)<|a8 (j7 (PW.pt<|G9 (d7 Bf (O 1) M4<|d8 _)<|E7<|d7 Bf (O 2) M4<|d8 _) (a9<|c6 M4) i3)<|a9<|c6<|j4 z6 (O 1)<|O 2),?_⟩;cases hS with
 | fr=>
  obtain⟨px,rfl,hx⟩:=hx;obtain⟨py,rfl,hy⟩:=hy;have sa:a.sz m:=sa;have sb:b.sz n:=sb;show U Y<|ze ⟨Y,Y,j3.of hq,Y,Y,U Y ?_⟩;rw[show decide (V.str ("fractions":Str)=V.str ("fractions":Str))=true by decide +kernel];show C2 ?_;show U Y<|ze ⟨Y,Y,j3.of hx,Y,U Y<|ze ⟨Y,Y,j3.of hy,Y,zc ⟨Y,Y,HL (n:=n) sa.1 sb.1 Z,?_⟩⟩⟩;show U Y (ze ⟨Y,Y,j3.of hx,Y,U Y<|ze ⟨Y,Y,j3.of hy,Y,zc ⟨Y,Y,HL (n:=n) sa.2 sb.2 Z,zc ⟨Y,aN a.p b.p,λv H' s' f'=>k v H' s' f'⟩⟩⟩⟩)
 | re p hp gc hi=>
  cases (show x=.int a.x from hx);cases (show y=.int b.x from hy);have cm:QO a.x b.x:=.inl ⟨by have:=a.h0;omega,by have:=a.h1;omega⟩;show U Y<|ze ⟨Y,Y,j3.of hq,Y,Y,U Y ?_⟩;rw[show decide (V.str ("residues":Str)=V.str ("fractions":Str))=false by decide +kernel];show l4 ?_;show U Y<|ze ⟨Y,Y,j3.of hq,Y,Y,U Y ?_⟩;rw[show decide (V.str ("residues":Str)=V.str ("residues":Str))=true by decide +kernel];show C2 ?_;show vb Y Y (zc ⟨Y,Y,cm,U Y<|ze ⟨Y,Y,j3.of hq,Y,zc ⟨Y,Y,(show p≠0 by omega),?_⟩⟩⟩);exact k _ _ (g9.refl _) rfl
 | tr=>
  cases (show x=.bl a from hx);cases (show y=.bl b from hy);show U Y<|ze ⟨Y,Y,j3.of hq,Y,Y,U Y ?_⟩;rw[show decide (V.str ("truths":Str)=V.str ("fractions":Str))=false by decide +kernel];show l4 ?_;show U Y<|ze ⟨Y,Y,j3.of hq,Y,Y,U Y ?_⟩;rw[show decide (V.str ("truths":Str)=V.str ("residues":Str))=false by decide +kernel];show l4 ?_;show U Y<|ze ⟨Y,Y,j3.of hq,Y,Y,U Y ?_⟩;rw[show decide (V.str ("truths":Str)=V.str ("truths":Str))=true by decide +kernel];show C2 ?_;have k':=k (.bl<|a && b) H (g9.refl _) rfl;cases a with
  | true=>exact vb Y Y (C2<|U Y k')
  | false=>exact vb Y Y (l4 k')
 | co=>
  cases (show x=cV a from hx);cases (show y=cV b from hy);show U Y<|ze ⟨Y,Y,j3.of hq,Y,Y,U Y ?_⟩;rw[show decide (V.str ("costs":Str)=V.str ("fractions":Str))=false by decide +kernel];show l4 ?_;show U Y<|ze ⟨Y,Y,j3.of hq,Y,Y,U Y ?_⟩;rw[show decide (V.str ("costs":Str)=V.str ("residues":Str))=false by decide +kernel];show l4 ?_;show U Y<|ze ⟨Y,Y,j3.of hq,Y,Y,U Y ?_⟩;rw[show decide (V.str ("costs":Str)=V.str ("truths":Str))=false by decide +kernel];show l4 ?_;have k':=k (cV<|NM a b) H (g9.refl _) rfl;cases a with
  | none=>
   show U Y ⟨Y,U Y ?_⟩
   (try show C2 ?_)
   (try show C2 ?_)
   exact k'
  | some i=>
   show U Y ⟨Y,U Y ?_⟩;show l4 ?_;cases b with
   | none=>
    show U Y ⟨Y,U Y ?_⟩
    (try show C2 ?_)
    exact k'
   | some j=>
    show U Y ⟨Y,U Y ?_⟩
    (try show l4 ?_)
    exact vb Y Y (zc ⟨Y,Y,k'⟩)
def Xj(p1:Addr):List (G6 × V):=[(Sum.inr "fractions",.ref p1),(Sum.inr "residues",.int 0),(Sum.inr "costs",.non),(Sum.inr "truths",.bl false)]
def Xh(p1:Addr):E5 (F9 []<|Xj p1) (Sum.inr "fractions")=some (.ref p1):=by kernel_rfl
def Xg(p1:Addr):E5 (F9 []<|Xj p1) (Sum.inr "residues")=some (.int 0):=by kernel_rfl
def Xi(p1:Addr):E5 (F9 []<|Xj p1) (Sum.inr "costs")=some .non:=by kernel_rfl
def Xf(p1:Addr):E5 (F9 []<|Xj p1) (Sum.inr "truths")=some (.bl false):=by kernel_rfl
def MJ:Sp:=λvs H Q _=>∃(R:c5 Pr w K mg base),∃nm p so,So T R nm p/\vs=[so]/\G0 H so nm p/\∀v H',g9 H H'->R.is H' v R.S.zero->Q v H'
def D3:j2 Pr w K mg base B7 1 t.s0r t.q0l [J8] (MJ (w:=w) (base:=base) T):=by
 show T.r0a.F.okA Hv λ_ _ _ _ H _ _ _ hr h=>?_;obtain⟨R,nm,p,so,hS,rfl,⟨q,rfl,hq⟩,k⟩:=h;show⟨_,(a9<|c6<|F0 (J0 hr) (Os (Q1 j1 (o8<|B8 a7 a7)<|Q1 j1 a7<|Q1 j1 M4<|Q1 j1 M5 Oq) Y Y (λh=>by cases h) bD) (o5 c9 (O 0) a7)<|λ_ _=>rfl),?_⟩;intro d nd;show⟨sL,λp1 n1=>?_⟩;have s1:=c4 (o:=.dK []) nd;have s2:=c4 (o:=.tup [.int 0,.int 1]) n1;have mX:p1≠d:=λe=>by rw[e,c0]at n1;cases n1
 have s3:g9 H (upd (upd (upd H d<|.dK []) p1<|.tup [.int 0,.int 1]) d<|.dK<|F9 []<|Xj p1):=λb o e=>by
  rw[k8<|k9 e nd];exact(s1.trans s2) _ _ e
 show⟨s2 _ _ c0,Xj p1,Y,(by show 4<=15;decide),?_⟩;show U Y<|ze ⟨Y,Y,j3.of<|s3 _ _ hq,Y,?_⟩;have g:=Aw.k (H:=upd (upd (upd H d<|.dK []) p1<|.tup [.int 0,.int 1]) d<|.dK<|F9 []<|Xj p1) (k:=Sum.inr nm) c0;cases hS with
 | fr=>
  rw[Xh]at g;exact zc ⟨Y,g,k _ _ s3 ⟨p1,Y,by rw[k8 mX,c0];rfl⟩⟩
 | re p hp gc hi=>
  rw[Xg]at g;exact zc ⟨Y,g,k _ _ s3 Y⟩
 | co=>
  rw[Xi]at g;exact zc ⟨Y,g,k _ _ s3 Y⟩
 | tr=>
  rw[Xf]at g;exact zc ⟨Y,g,k _ _ s3 Y⟩
def XS{r:Int}(h0:0<=r)(h1:r < 8):∃p:Int,Do ([2,3,5,7,11,101,65537,999983].map V.int) r=some (V.int p)/\2<=p/\p<=1000000/\Nw p=true:=by
 rcases(by omega:r=0\/r=1\/r=2\/r=3\/r=4\/r=5\/r=6\/r=7)with rfl | rfl | rfl | rfl | rfl | rfl | rfl | rfl
 . exact⟨2,Y,bD,bD,p2⟩
 . exact⟨3,Y,bD,bD,p3⟩
 . exact⟨5,Y,bD,bD,p5⟩
 . exact⟨7,Y,bD,bD,p7⟩
 . exact⟨11,Y,bD,bD,p11⟩
 . exact⟨101,Y,bD,bD,p101⟩
 . exact⟨65537,Y,bD,bD,WT⟩
 . exact⟨999983,Y,bD,bD,Ur⟩
def TN:Sp:=λvs H Q _=>∃(a:Addr),vs=[.ref a]/\Dr H a/\∀(R:c5 Pr w K mg base) nm p v H',So T R nm p->G0 H' v nm p->v9 a H H'->Dr H' a->Q v H'
def Lu:j2 Pr w K mg base B7 2 t.w0i t.t0g [Ct] (TN (w:=w) (base:=base) T):=by
 show T.t0j.F.okA ER λ_ _ _ _ H _ _ _ hr h=>?_;obtain⟨a,rfl,hD,k⟩:=h;show⟨_,(a8 (sT 1 ER.nd<|o5 l6 (K8<|D4 a7<|D4 a7<|D4 a7<|D4 a7<|HC a7 a7 a7 a7)<|z7 (l9 T) hr.m T.t0r<|B8 (O 0) a7)<|a9<|c6<|o5 l6 (K8<|HC (o8<|B8 j1 a7) (o8<|B8 j1<|O 1) (o8<|B8 j1 a7)<|o8<|B8 j1 a7)<|z7 (l9 T) hr.m T.t0r<|B8 (O 0) a7),?_⟩;show⟨sL,λl0 h0=>?_⟩;have e0:=c4 (o:=.lst<|[2,3,5,7,11,101,65537,999983].map V.int) h0;have la:l0≠a:=λe=>by obtain⟨xs,z⟩:=hD.lst;rw[<- e,h0]at z;cases z
 show U Y ⟨a,8,Y,⟨hD.same e0,bD,bD⟩,λr H1 s1 d1 r0 r1=>?_⟩;obtain⟨p,ap,hp⟩:=XS r0 r1;show ze ⟨Y,Y,y7.of<|s1 _ _ la c0,ap,?_⟩;have q1:v9 a H H1:=(v9.of e0).trans s1;show⟨sL,λp1 n1=>(U Y ⟨sL,λp2 n2=>⟨sL,λp3 n3=>⟨sL,λp4 n4=>⟨sL,λl nl=>?_⟩⟩⟩⟩)⟩;have t1:=c4 (o:=.tup [.str "fractions",.int 0]) n1;have t2:=c4 (o:=.tup [.str "residues",.int p]) n2;have t3:=c4 (o:=.tup [.str "costs",.int 0]) n3;have t4:=c4 (o:=.tup [.str "truths",.int 0]) n4;have t5:=c4 (o:=.lst [V.ref p1,.ref p2,.ref p3,.ref p4]) nl;have tt:=(((t1.trans t2).trans t3).trans t4).trans t5;have q2:=q1.trans<|.of tt;have d2:=d1.same tt;have f1:=(((t2.trans t3).trans t4).trans t5) _ _<|c0 (H:=H1) (a:=p1) (o:=.tup [.str "fractions",.int 0]);have f2:=((t3.trans t4).trans t5) _ _<|c0 (a:=p2) (o:=.tup [.str "residues",.int p]);have f3:=(t4.trans t5) _ _<|c0 (a:=p3) (o:=.tup [.str "costs",.int 0]);have f4:=t5 _ _<|c0 (a:=p4) (o:=.tup [.str "truths",.int 0]);have f5:=c0 (H:=upd (upd (upd (upd H1 p1<|.tup [.str "fractions",.int 0]) p2<|.tup [.str "residues",.int p]) p3<|.tup [.str "costs",.int 0]) p4<|.tup [.str "truths",.int 0]) (a:=l) (o:=.lst [V.ref p1,.ref p2,.ref p3,.ref p4]);have ll:l≠a:=λe=>by obtain⟨xs,z⟩:=(d1.same<|((t1.trans t2).trans t3).trans t4).lst;rw[<- e,nl]at z;cases z
 show U Y ⟨a,4,Y,⟨d2,bD,bD⟩,λwy H3 s3 d3 w0 w4=>?_⟩;have u3:=s3.tt d2;have q3:=q2.trans s3;have lx:=s3 _ _ ll f5;rcases(by omega:wy=0\/wy=1\/wy=2\/wy=3)with rfl | rfl | rfl | rfl
 . exact ze ⟨Y,Y,y7.of lx,Y,k _ _ _ _ _ .fr ⟨p1,Y,u3 _ _ f1⟩ q3 d3⟩
 . exact ze ⟨Y,Y,y7.of lx,Y,k _ _ _ _ _ (.re p hp.1 hp.2.1 hp.2.2) ⟨p2,Y,u3 _ _ f2⟩ q3 d3⟩
 . exact ze ⟨Y,Y,y7.of lx,Y,k _ _ _ _ _ .co ⟨p3,Y,u3 _ _ f3⟩ q3 d3⟩
 . exact ze ⟨Y,Y,y7.of lx,Y,k _ _ _ _ _ .tr ⟨p4,Y,u3 _ _ f4⟩ q3 d3⟩
def TU:Sp:=λvs H Q _=>∃(R:c5 Pr w K mg base),∃nm p so,So T R nm p/\vs=[so]/\G0 H so nm p/\∀v H',g9 H H'->Bv R.C R.fs H' v->Q v H'
def Lv:j2 Pr w K mg base B7 4 t.v0m t.t0f [J8] (TU (w:=w) (base:=base) T):=by
 show T.s0y.F.okA La λ_ _ _ _ _ _ _ _ hr h=>?_;obtain⟨R,nm,p,so,hS,rfl,⟨q,rfl,hq⟩,k⟩:=h;show⟨_,(a8 (j7 (d7 o4 (o5 c9 (O 0) a7) j1<|d8 _) (a9<|c6<|Gn T.s0a Y T.r0e) i3)<|a8 (j7 (d7 o4 (o5 c9 (O 0) a7) j1<|d8 _) (a9<|c6<|Uq T.s0n (Bh T) hr.m Y T.t0t T.n0p.b .nil m8<|o9<|o5 c9 (O 0) a7) i3)<|a8 (j7 (d7 o4 (o5 c9 (O 0) a7) j1<|d8 _) (a9<|c6<|Gn T.w0t Y T.x0c) i3)<|a9<|c6<|Gn T.w0l Y T.v0l),?_⟩;cases hS with
 | fr=>
  show U Y<|ze ⟨Y,Y,j3.of hq,Y,Y,U Y ?_⟩;rw[show decide (V.str ("fractions":Str)=V.str ("fractions":Str))=true by decide +kernel];show C2 ?_;intro x dx nx iF mW;exact k _ _ (BB nx iF) ⟨_,U Y c0⟩
 | re p hp gc hi=>
  show U Y<|ze ⟨Y,Y,j3.of hq,Y,Y,U Y ?_⟩;rw[show decide (V.str ("residues":Str)=V.str ("fractions":Str))=false by decide +kernel];show l4 ?_;show U Y<|ze ⟨Y,Y,j3.of hq,Y,Y,U Y ?_⟩;rw[show decide (V.str ("residues":Str)=V.str ("residues":Str))=true by decide +kernel];show C2 ?_;show U Y<|ze ⟨Y,Y,j3.of hq,Y,λx dx nx iF mW=>⟨x,dx,U Y ⟨⟨hp,gc,hi⟩,c0,Y,?_⟩⟩⟩;rw[TH];exact k _ _ (BB nx iF) ⟨_,U Y c0⟩
 | co=>
  show U Y<|ze ⟨Y,Y,j3.of hq,Y,Y,U Y ?_⟩;rw[show decide (V.str ("costs":Str)=V.str ("fractions":Str))=false by decide +kernel];show l4 ?_;show U Y<|ze ⟨Y,Y,j3.of hq,Y,Y,U Y ?_⟩;rw[show decide (V.str ("costs":Str)=V.str ("residues":Str))=false by decide +kernel];show l4 ?_;show U Y<|ze ⟨Y,Y,j3.of hq,Y,Y,U Y ?_⟩;rw[show decide (V.str ("costs":Str)=V.str ("costs":Str))=true by decide +kernel];show C2 ?_;intro x dx nx iF mW;exact k _ _ (BB nx iF) ⟨_,U Y c0⟩
 | tr=>
  show U Y<|ze ⟨Y,Y,j3.of hq,Y,Y,U Y ?_⟩;rw[show decide (V.str ("truths":Str)=V.str ("fractions":Str))=false by decide +kernel];show l4 ?_;show U Y<|ze ⟨Y,Y,j3.of hq,Y,Y,U Y ?_⟩;rw[show decide (V.str ("truths":Str)=V.str ("residues":Str))=false by decide +kernel];show l4 ?_;show U Y<|ze ⟨Y,Y,j3.of hq,Y,Y,U Y ?_⟩;rw[show decide (V.str ("truths":Str)=V.str ("costs":Str))=false by decide +kernel];show l4 ?_;intro x dx nx iF mW;exact k _ _ (BB nx iF) ⟨_,U Y c0⟩
def WY(p1:Addr):List (G6 × V):=[(Sum.inr "fractions",.ref p1),(Sum.inr "residues",.int 1),(Sum.inr "costs",.int 0),(Sum.inr "truths",.bl true)]
def WW(p1:Addr):E5 (F9 []<|WY p1) (Sum.inr "fractions")=some (.ref p1):=by kernel_rfl
def WV(p1:Addr):E5 (F9 []<|WY p1) (Sum.inr "residues")=some (.int 1):=by kernel_rfl
def WX(p1:Addr):E5 (F9 []<|WY p1) (Sum.inr "costs")=some (.int 0):=by kernel_rfl
def WU(p1:Addr):E5 (F9 []<|WY p1) (Sum.inr "truths")=some (.bl true):=by kernel_rfl
def TQ:Sp:=λvs H Q _=>∃(R:c5 Pr w K mg base),∃nm p so,So T R nm p/\vs=[so]/\G0 H so nm p/\∀v H',g9 H H'->R.is H' v R.S.one->Q v H'
def Gq:j2 Pr w K mg base B7 1 t.x0h t.u0e [J8] (TQ (w:=w) (base:=base) T):=by
 show T.u0m.F.okA MN λ_ _ _ _ H _ _ _ hr h=>?_;obtain⟨R,nm,p,so,hS,rfl,⟨q,rfl,hq⟩,k⟩:=h;show⟨_,(a9<|c6<|F0 (J0 hr) (Os (Q1 j1 (o8<|B8 a7 a7)<|Q1 j1 a7<|Q1 j1 a7<|Q1 j1 M5 Oq) Y Y (λh=>by cases h) bD) (o5 c9 (O 0) a7)<|λ_ _=>rfl),?_⟩;intro d nd;show⟨sL,λp1 n1=>?_⟩;have s1:=c4 (o:=.dK []) nd;have s2:=c4 (o:=.tup [.int 1,.int 1]) n1;have mX:p1≠d:=λe=>by rw[e,c0]at n1;cases n1
 have s3:g9 H (upd (upd (upd H d<|.dK []) p1<|.tup [.int 1,.int 1]) d<|.dK<|F9 []<|WY p1):=λb o e=>by
  rw[k8<|k9 e nd];exact(s1.trans s2) _ _ e
 show⟨s2 _ _ c0,WY p1,Y,(by show 4<=15;decide),?_⟩;show U Y<|ze ⟨Y,Y,j3.of<|s3 _ _ hq,Y,?_⟩;have g:=Aw.k (H:=upd (upd (upd H d<|.dK []) p1<|.tup [.int 1,.int 1]) d<|.dK<|F9 []<|WY p1) (k:=Sum.inr nm) c0;cases hS with
 | fr=>
  rw[WW]at g;exact zc ⟨Y,g,k _ _ s3 ⟨p1,Y,by rw[k8 mX,c0];rfl⟩⟩
 | re p hp gc hi=>
  rw[WV]at g;exact zc ⟨Y,g,k _ _ s3 Y⟩
 | co=>
  rw[WX]at g;exact zc ⟨Y,g,k _ _ s3 Y⟩
 | tr=>
  rw[WU]at g;exact zc ⟨Y,g,k _ _ s3 Y⟩
def TR:Sp:=λvs H Q _=>∃(R:c5 Pr w K mg base),∃nm p so row col n x y m m',So T R nm p/\vs=[so,row,col]/\(G0 H so nm p/\R.Seq n x m row H/\R.Seq n y m' col H/\n<=32/\m+m'<=100000)/\
 ∀v H',g9 H H'->R.is H' v (o3 R.S x y n)->R.S.lv (m+m') 32 (o3 R.S x y n)->Q v H'
def Gs:j2 Pr w K mg base B7 41 t.x0a t.u0v Xs (TR (w:=w) (base:=base) T):=by
 show T.u0n.F.okA S9 λ_ _ _ _ H _ _ _ hr h=>?_;obtain⟨R,nm,pp,so,row,col,n,x,y,m,m',hS,rfl,⟨eh,⟨S1,xs,o1,v1,w1,e1⟩,⟨S2,ys,o2,v2,w2,e2⟩,hz⟩,k⟩:=h;show⟨_,(a8 (sT 3 S9.nd<|z7 (D3 T) hr.m T.r0a<|o9<|O 0)<|a8 (E8 aB Y (CO Y T.z_zip<|B8 (O 1)<|O 2) (An Y<|z8 (gN 4 S9.nd)<|z8 (gN 5 S9.nd) S6)<|a9<|sT 3 S9.nd<|z7 (V9 T) hr.m T.t0q<|O1 (O 0) (O 3)<|z7 (M8 T) hr.m T.r0u<|O1 (O 0) (O 4)<|O 5)<|a9<|c6<|O 3),?_⟩;show U Y ⟨R,zj nm pp _ ⟨hS,Y,eh,λz H1 s1 f1=>?_⟩⟩;show vb Y Y ⟨S1,S2,zc ⟨xs,ys,Y,o1,o2,(w1 _ s1).1,(w2 _ s1).1,Kc (K:=K) (xs:=xs) (ys:=ys) (λi σ H2=>∃eW v4 v5,σ=[some so,some row,some col,some eW,v4,v5]/\g9 H H2/\R.is H2 eW (o3 R.S x y i)) (by rw[e1.1,e2.1]) ⟨_,_,U Y ⟨s1,f1⟩⟩ (λi σ H2 _ ⟨_,_,_,_,q,_⟩=>⟨(w1 _ q).1,(w2 _ q).1⟩) ?_ ?_⟩⟩
 . rintro i u v p σ H2 hu hv np ⟨eW,v4,v5,rfl,q,f⟩;obtain⟨hi,pu⟩:=e1.at hu;obtain⟨_,O⟩:=e2.at hv;have sp:=c4 (o:=.tup [u,v]) np;have q2:=q.trans sp;show⟨p,U Y ⟨j3.of c0,Y,zc ⟨Y,zc ⟨Y,Y,?_⟩⟩⟩⟩;show vc Y Y Y<|vb Y Y ⟨R,zv nm pp _ _ _ _ _ (100 * m) (100 * m') ⟨hS,Y,⟨eh.same q2.t,R.same q2.t pu.1,R.same q2.t O.1,R.S.lv_sz _ _ _ bD pu.2,R.S.lv_sz _ _ _ bD O.2,Z⟩,λpr H3 s3 f3=>?_⟩⟩;have q3:=q2.trans s3;show⟨R,zv nm pp _ _ _ _ _ (100 * (m+m')) (100 * (m+m')) ⟨hS,Y,⟨eh.same q3.t,R.same (sp.trans s3).t f,f3,R.S.lv_sz _ _ _ Z<|Kd (λj hj=>EN e1 j<|cw hj hi)<|λj hj=>EN e2 j<|cw hj hi,R.S.lv_sz _ _ _ bD<|R.S.lv_mul _ _ _ _ pu.2 O.2,Z⟩,λtt H4 s4 f4=>?_⟩⟩;exact zd ⟨Y,q3.trans s4,f4⟩
 . rintro σ H2 ⟨eW,v4,v5,rfl,q,f⟩;rw[e1.1]at f;exact U Y (k _ _ q f<|R.S.lv_mono _ _ _ _ hz.1<|Kd (EN e1)<|EN e2)
def tx(l:w1h):Str:=⟨l.toArray⟩
def vT(l:w1h):V:=.str (tx l)
def Mx(a b:w1h):tx a++tx b=tx (a++b):=by show(⟨a.toArray++b.toArray⟩:Str)=⟨(a++b).toArray⟩;simp
def l7(a:w1h):(tx a).length=a.length:=by show a.toArray.size=a.length;simp
def YG{l:w1h}(h1:1<=l.length)(h3:l.length<=3):(∃a,l=[a])\/(∃a b,l=[a,b])\/∃a b c,l=[a,b,c]:=by
 match l,h1,h3 with
 | [a],_,_=>exact .inl ⟨a,Y⟩
 | [a,b],_,_=>exact .inr (.inl ⟨a,b,Y⟩)
 | [a,b,c],_,_=>exact .inr (.inr ⟨a,b,c,Y⟩)
def occ1(a x:Nat)(h:x=a):Builtin.Str.occurrences (tx [a]) (tx [x]) 0 (tx [a]).length 1=[0]:=by subst h;simp[Builtin.Str.occurrences,Builtin.Str.subAt,tx,Str.length,List.range']
def occ2(a b x:Nat)(n:a≠b)(h:x=a\/x=b):Builtin.Str.occurrences (tx [a,b]) (tx [x]) 0 (tx [a,b]).length 1=[List.idxOf x [a,b]]:=by
 rcases h with rfl | rfl
 . simp[Builtin.Str.occurrences,Builtin.Str.subAt,tx,Str.length,List.range',cF]
 . simp[Builtin.Str.occurrences,Builtin.Str.subAt,tx,Str.length,List.range',cF,n,beq_false_of_ne n]
def occ3(a b c x:Nat)(n:(a≠b/\a≠c)/\b≠c)(h:x=a\/x=b\/x=c):Builtin.Str.occurrences (tx [a,b,c]) (tx [x]) 0 (tx [a,b,c]).length 1=[List.idxOf x [a,b,c]]:=by
 rcases h with rfl | rfl | rfl
 . simp[Builtin.Str.occurrences,Builtin.Str.subAt,tx,Str.length,List.range',cF]
 . simp[Builtin.Str.occurrences,Builtin.Str.subAt,tx,Str.length,List.range',cF,n.1.1,beq_false_of_ne n.1.1]
 . simp[Builtin.Str.occurrences,Builtin.Str.subAt,tx,Str.length,List.range',cF,n.1.2,n.2,beq_false_of_ne n.1.2,beq_false_of_ne n.2]
structure FM(l:w1h):Prop where
 h1:1<=l.length
 h3:l.length<=3
 nd:l.Nodup
 as:∀c∈l,c < 128
def Nc{l:w1h}(h:FM l){x:Nat}(hx:x∈l):Builtin.Str.occurrences (tx l) (tx [x]) 0 (tx l).length 1=[l.idxOf x]:=by
 have nd:=h.nd;rcases YG h.h1 h.h3 with ⟨a,rfl⟩ | ⟨a,b,rfl⟩ | ⟨a,b,c,rfl⟩
 . have:x=a:=by simpa using hx
   rw[occ1 a x this,this];simp
 . exact occ2 a b x (by simpa using nd) (by simpa using hx)
 . exact occ3 a b c x (by simpa [not_or] using nd) (by simpa using hx)
def Cp:(Str.ofString "")=tx []:=by decide +kernel
def O3{α:Type}{l:List α}{i:Nat}{x:α}(h:l[i]? = some x):l.take (i+1)=l.take i++[x]:=by rw[da,h];rfl
def GX{J:It}{n k:Nat}{g:TG}{tc:TT}{te:TE}{σ:L2.St}{Q:VK}{H1:Hp}(Pv:Nat->List V->Hp->Prop)(hn:n<=10000)(h0:Pv 0 [] H1)(hl:∀i ys H,Pv i ys H->ys.length<=i)
    (nR:∀i ys H,i < n->Pv i ys H->J.go i H/\∀x H',J.yld i H x H'->g x (σ++List.replicate k none) H' λσ2 H2=>(∃zs,σ2=σ++zs/\zs.length=k)/\tc σ2 H2 λb H3=>if b=true then te σ2 H3 λv H4=>Pv (i+1) (ys++[v]) H4 else Pv (i+1) ys H3)
    (gm:∀ys H,Pv n ys H->J.stop n H) (fL:∀ys H p,Pv n ys H->H p=none->Q (.ref p) (upd H p<|.lst ys)) :
    Hl J k g tc te σ Q H1:=by
 have z:=sZ;show⟨λi m ys H=>m=n - i/\i<=n/\Pv i ys H,⟨n,Y,bh _,h0⟩,?_⟩;rintro i m ys H ⟨rfl,hi,p⟩;have yl:=hl i ys H p;by_cases eV:i < n
 . obtain⟨a,b⟩:=nR i ys H eV p;show .inr ⟨a,Z,λx H' y=>?_⟩;have c:=b x H' y;have e1:∀ys H3,(∃m',m' < n - i/\m'=n - (i+1)/\i+1<=n/\Pv (i+1) ys H3)=Pv (i+1) ys H3:=λys H3=>propext ⟨λ⟨_,_,_,_,q⟩=>q,λq=>⟨_,Z,Y,eV,q⟩⟩;simp only[e1];exact c
 . have e:i=n:=by omega
   subst e;exact .inl ⟨gm ys H p,Z,λq nq=>fL ys H q p nq⟩
def jn(sep:w1h):List w1h->List Nat
 | []=>[]
 | [p]=>p
 | p::q::r=>p++sep++jn sep (q::r)
theorem IM(sep:w1h):∀(ls:List w1h) (dJ:w1h),(ls.map tx).foldl (λa p=>a++(tx sep).cps++p.cps) dJ.toArray=(ls.foldl (λa p=>a++sep++p) dJ).toArray
 | [],dJ=>rfl
 | p::ls,dJ=>by
  rw[aO,List.foldl_cons,List.foldl_cons];have:dJ.toArray++(tx sep).cps++(tx p).cps=(dJ++sep++p).toArray:=by simp[tx]
  rw[this];exact IM sep ls _
theorem Ox(sep:w1h):∀(ls:List w1h) (p:w1h),ls.foldl (λa p=>a++sep++p) p=jn sep (p::ls)
 | [],p=>rfl
 | q::ls,p=>by
  rw[List.foldl_cons,Ox sep ls];cases ls with
  | nil=>rfl
  | cons r ls=>simp[jn]
def UI(sep:w1h):∀ls:List w1h,Txt.join (tx sep) (ls.map tx)=tx (jn sep ls)
 | []=>rfl
 | p::ls=>by
  show(⟨_⟩:Str)=⟨_⟩;rw[aO,List.drop_succ_cons,List.drop_zero,List.headD_cons];have:=IM sep ls p;rw[show(tx p).cps=p.toArray from rfl,this,Ox]
def Rv{p:w1h}{q:Int}(h0:0<=q)(h1:q<=p.length):Txt.slice (tx p) none (some q)=tx (p.take q.toNat):=by have e:=PyProof.Rows.slice_closes_toL (x:=tx p) (j:=q) h0 (by rw[l7];exact h1);rw[beq_iff_eq]at e;rw[e];show(⟨_⟩:Str)=⟨_⟩;simp[tx]
def Oi{p:w1h}{q:Int}(h0:0<=q):Txt.slice (tx p) (some q) none=tx (p.drop q.toNat):=by
 by_cases h1:q<=p.length
 . rw[PyProof.Rows.slice_from_eq (x:=tx p) (b:=p.length) h0 (by rw[l7];exact h1)<|by rw[l7]];show(⟨_⟩:Str)=⟨_⟩;have e:((p.drop q.toNat).take ((p.length:Int) - q).toNat)=p.drop q.toNat:=cZ (by rw[aK];omega);simp only[tx,List.toList_toArray,e]
 . rw[PyProof.Rows.slice_beyond (x:=tx p) (by rw[l7];omega),List.drop_of_length_le Z];rfl
theorem OA{sep:Str}{k:Nat}:∀{ls:w1i} {a:Nat},(∀p∈ls,p.length<=k)->ls.foldl (λx y=>x+y.length+sep.length) a<=a+ls.length * (k+sep.length)
 | [],a,_=>by simp
 | p::ls,a,h=>by
  have h1:=h p (by simp);have h2:=OA (sep:=sep) (k:=k) (ls:=ls) (a:=a+p.length+sep.length)<|λx hx=>h x<|aG _ hx;rw[List.foldl_cons,bx,aV];omega
def WG{sep:w1h}{sz:Str}(hz:sz=tx sep){a:Addr}{ls:List w1h}{k:Nat}{H:Hp}{Q:VK}(hk:∀p∈ls,p.length<=k)(hl:ls.length * (k+sep.length)<=16777216)(hq:y7 K H a (ls.map vT))(q:Q (vT<|jn sep ls) H) :
    Vk K (.str sz) [.ref a] H Q:=by
 subst hz;show⟨tx sep,a,ls.map tx,Y,Y,by rw[List.map_map];exact hq,?_,by rw[UI];exact q⟩;unfold PySem.JoinOk Builtin.Str.tooLong;have:=OA (sep:=tx sep) (k:=k) (ls:=ls.map tx) (a:=0) (λp hp=>by
  obtain⟨x,hx,rfl⟩:=cG.mp hp;rw[l7];exact hk x hx)
 have pS:ls.length * (k+(tx sep).length)<=16777216:=by rw[l7];exact hl
 rw[aD]at this;have z:sizeLine=16777216:=by decide
 rw[List.foldl_toArray];simp only[Bool.not_eq_true',decide_eq_false_iff_not];omega
def in_l(l:w1h)(c:Nat):(!(Builtin.Str.occurrences (tx l) (tx [c]) 0 (tx l).length 1).isEmpty)=decide (c∈l):=by
 have:=PySem.StrLaws.found_one (tx l) c;have e:(tx l).cps.toList=l:=by simp[tx]
 rw[e]at this;exact this
def UJ{sep p:w1h}{ls:List w1h}(h:ls≠[]):jn sep (p::ls)=p++sep++jn sep ls:=by
 cases ls with
 | nil=>exact absurd rfl h
 | cons q ls=>simp[jn]
def Xk:(Str.ofString "")=tx []:=Cp
def Nv{b:Bool}{A B:Prop}(h:b=false)(q:B):if b=true then A else B:=by subst h;exact l4 q
def Qo{b:Bool}{A B:Prop}(h:b=true)(q:A):if b=true then A else B:=by subst h;exact C2 q
def azs:w1h:=[97,98,99,100,101,102,103,104,105,106,107,108,109,110,111,112,113,114,115,116,117,118,119,120,121,122]
def m0z:(Str.ofString "abcdefghijklmnopqrstuvwxyz")=tx azs:=by decide +kernel
def Vt{r:Int}(h0:0<=r)(h1:r < 26):∃c,Do (tx azs).cps.toList r=some c/\97<=c/\c<=122:=by
 obtain⟨i,rfl⟩:∃i:Nat,r=(i:Int):=⟨r.toNat,Z⟩;have hi:i < azs.length:=by show i < 26;omega
 have hc:azs[i]? = some azs[i]:=aQ hi;have all:∀c∈azs,97<=c/\c<=122:=by decide
 show⟨azs[i],?_,all _<|cY hi⟩;have e:(tx azs).cps.toList=azs:=by simp[tx]
 rw[e];exact y9 hc
theorem Ow:∀ls:w1h,jn [] (ls.map λc=>[c])=ls
 | []=>rfl
 | [a]=>rfl
 | a::b::ls=>by
  have:=Ow (b::ls);rw[aO,UJ (by simp),this];rfl
def sp_lletters:Sp:=λvs H Q _=>∃(a:Addr),∃(m:Int),vs=[.ref a,.int m]/\(Dr H a/\1<=m/\m<=3)/\∀l H',v9 a H H'->Dr H' a->FM l->(∀c∈l,97<=c/\c<=122)->(l.length:Int)<=m->Q (vT l) H'
def Gr:j2 Pr w K mg base B7 2 t.r0n t.p0x Xm sp_lletters:=by
 show T.p0z.F.okA D6 λ_ _ _ _ H _ _ _ hr h=>?_;obtain⟨a,m,rfl,⟨hD,m1,m3⟩,k⟩:=h;have zl:=sZ;show⟨_,(a8 (sT 2 D6.nd j1)<|a8 (sT 3 D6.nd<|z7 (l9 T) hr.m T.t0r<|B8 (O 0) a7)<|a8 (CN (i:=4) D6.nd Y (Or.inr Y)<|o5 GK (O 2)<|O 3)<|a8 (E8 aB Y (G8 Y T.z_range<|o9<|z7 (l9 T) hr.m T.t0r<|B8 (O 0)<|O 1) (gN 5 D6.nd)<|a9<|CN (i:=4) D6.nd Y (Or.inr Y)<|j4 CQ (O 4)<|o5 GK (O 2)<|j4 F1 (j4 z6 (j4 z6 (O 3) a7)<|j4 Ao (O 5)<|j4 z6 a7<|z7 (l9 T) hr.m T.t0r<|B8 (O 0) a7) a7)<|a9<|c6<|DL dm PySem.F.slot_str_join PySem.F.type_str_join UD j1<|o9<|PH (xs:=["_law_at","_law_sign"]) Y (oC m0b<|b9 P5) (Up Y T.z_enumerate<|o9<|O 4) (show PG _ _ (Qz K 2 _)from(An Y<|z8 (gL 6 m0f)<|z8 (gL 7 m0f) S6)) (d7 JA (O 7) (M3 Ga (O 4) S5<|S4<|O 6)<|by with_unfolding_all rfl)<|O 7),?_⟩;rw[m0z];show U Y ⟨a,26,Y,⟨hD,bD,bD⟩,λr1 H1 s1 d1 a1 b1=>?_⟩;obtain⟨c1,xJ,lq⟩:=Vt a1 b1;show vb Y Y (zd ⟨Y,Y,(by rw[l7];show 26<=_;omega),xJ,?_⟩);show vb Y Y ⟨a,m,Y,⟨d1,Z,Z⟩,λr2 H2 s2 d2 a2 b2=>?_⟩;have ht:r2.toNat<=2:=by omega
 have t1:(⟨#[c1]⟩:Str)=tx [c1]:=rfl;show U Y ⟨Z,Z,Y8 (lo:=0) (n:=r2.toNat) (λi σ G=>∃(l:w1h) (v5:Option V),σ=[sr a,some<|.int m,some<|.str<|tx azs,some<|.int r1,some<|vT l,v5]/\v9 a H G/\Dr G a/\l.length=1+i/\∀c∈l,97<=c/\c<=122) ⟨[c1],U Y ⟨s1.trans s2,d2,Y,λc hc=>by rw[aq.mp hc];exact lq⟩⟩ ?_ ?_⟩
 . rintro i σ G hi ⟨l,v5,rfl,sG,dG,ll,hl⟩;show vc Y Y Y<|zc ⟨Y,Y,vb Y Y ⟨a,11,Y,⟨dG,bD,bD⟩,λr3 G3 s3 d3 a3 b3=>?_⟩⟩;have m0:0<=(r1+1+(0+(i:Int)) * (1+r3)).fmod 26:=bA _ bD;have m1:(r1+1+(0+(i:Int)) * (1+r3)).fmod 26 < 26:=bI _ bD;obtain⟨c3,xI,xh⟩:=Vt m0 m1;show zc ⟨Y,Y,zc ⟨Y,Y,.inl ⟨Z,Z⟩,zc ⟨Y,Y,zc ⟨Y,Y,(by show(26:Int)≠0;decide),zd ⟨Y,Y,(by rw[l7];show 26<=_;omega),xI,zc ⟨Y,Y,(by rw[l7];show _+1<=_;omega),?_⟩⟩⟩⟩⟩⟩;have ea:tx l++(⟨#[c3]⟩:Str)=tx (l++[c3]):=Mx l [c3];rw[ea];show⟨l++[c3],some<|.int<|0+(i:Int),Y,sG.trans s3,d3,by rw[ar,ll];show _+1=_;omega,λc hc=>?_⟩
   . rcases aJ.mp hc with hc | hc
     . exact hl c hc
     . rw[aq.mp hc];exact xh
 . rintro σ G ⟨l,v5,rfl,sG,dG,ll,hl⟩;show⟨Y,U Y ⟨.str<|tx l,zc ⟨Y,Y,Y,GX (n:=l.length) (λj ys G2=>v9 a G G2/\Dr G2 a/\∃ls:w1h,ys=(ls.map λc=>[c]).map vT/\ls.length<=j/\(0 < j->ls≠[])/\ls.Nodup/\∀c,c∈ls↔c∈l.take j) Z ⟨v9.refl _ _,dG,[],Y,ae _,(λz=>absurd z bD),.nil,λc=>by simp⟩ (λj ys G2 ⟨_,_,ls,e,hj,_⟩=>by rw[e,aD,aD];exact hj) ?_ ?_ ?_⟩⟩⟩
   . rintro j ys G2 hj ⟨gO,kK,ls,rfl,lj,l0,nd,lm⟩;have ec:l[j]? = some l[j]:=aQ hj;have es:(L2.Cg<|tx l)[j]? = some (vT [l[j]]):=by simp only[L2.Cg,tx,bz];rw[ec];rfl
     show⟨zc ⟨Y,es⟩,λx G3 hy=>?_⟩;obtain⟨p,x2,rfl,np,rfl,hx⟩:=hy;have:=hx _ rfl;rw[es]at this;cases this;have e3:=c4 (o:=.tup [V.int j,vT [l[j]]]) np;show⟨p,U Y ⟨j3.of c0,Y,zc ⟨Y,zc ⟨Y,Y,⟨[some _,some _],Y,Y⟩,?_⟩⟩⟩⟩;show vc Y Y Y ?_;show vb Y Y ⟨(by rw[l7];omega),zc ⟨Y,Y,U Y ?_⟩⟩;dsimp only;rw[Rv (p:=l) (q:=(j:Int)) Z Z,show((j:Int)).toNat=j by omega,in_l];by_cases h:l[j]∈l.take j;rotate_left
     . show Qo (by rw[decide_eq_false h];rfl) ?_;show U Y ⟨gO.trans<|.of e3,kK.same e3,ls++[l[j]],by simp,by rw[ar];show _+1<=_;omega,λ_=>by simp,?_,λc=>?_⟩
       . rw[List.nodup_append];exact⟨nd,by simp,λx hx y hy z=>h<|(lm _).mp<|by rw[<- aq.mp hy,<- z];exact hx⟩
       . rw[O3 ec,aJ,aJ,lm]
     . show Nv (by rw[decide_eq_true h];rfl) ?_;show⟨gO.trans<|.of e3,kK.same e3,ls,Y,Z,λ_=>?_,nd,λc=>?_⟩;rotate_left
       . rw[O3 ec,aJ,lm,aq];exact⟨.inl,λz=>z.elim id λz=>by rw[z];exact h⟩
       show l0<|Nat.pos_of_ne_zero λz=>?_;subst z;exact nomatch h
   . rintro ys G2 ⟨gO,kK,ls,rfl,lj,l0,nd,lm⟩;exact Exists.intro _ (And.intro rfl<|by simp[L2.Cg,tx])
   . rintro ys G2 p ⟨gO,kK,ls,rfl,lj,l0,nd,lm⟩ np;have e2:=c4 (o:=.lst<|(ls.map λc=>[c]).map vT) np;show WG (sep:=[]) (k:=1) Xk ?_ ?_ (y7.of c0) ?_
     . intro x hx;obtain⟨c,_,rfl⟩:=cG.mp hx;exact ae _
     . rw[aD];show ls.length * (1+0)<=_;omega
     . rw[Ow];have l1:1<=ls.length:=List.length_pos_iff.mpr<|l0 Z;exact k _ _ (sG.trans<|gO.trans<|.of e2) (kK.same e2) ⟨l1,Z,nd,λc hc=>by have:=hl c<|bS<|(lm c).mp hc;omega⟩ (λc hc=>hl c<|bS<|(lm c).mp hc) Z
def Tn(R:c5 Pr w K mg base)(l:w1h)(n:Nat)(st:w1a R.S)(tb:w1c R.S)(en:w1a R.S)(m:Nat)(v:V)(H:Hp):Prop:=
 ∃p sv tv ev,v=.ref p/\H p=some (.tup [vT l,sv,tv,ev])/\R.Row n st m sv H/\Az (λj u H=>R.Tab n n (tb j) m u H) l.length tv H/\R.Row n en m ev H
theorem Tn.same{R:c5 Pr w K mg base}{l:w1h}{n:Nat}{st:w1a R.S}{tb:w1c R.S}{en:w1a R.S}{m:Nat}{v:V}{H H':Hp}(s:D7 H H')(h:Tn R l n st tb en m v H):Tn R l n st tb en m v H':=by obtain⟨p,sv,tv,ev,rfl,hp,h1,h2,h3⟩:=h;exact⟨p,sv,tv,ev,Y,s _ _ hp,c5.Row.same s h1,h2.mono s λ_ _ _ q=>c5.Tab.same s q,c5.Row.same s h3⟩
def X8(l ws:w1h)(k:Nat):Nat:=l.idxOf (ws.getD k 0)
def Mv{l ws:w1h}{k c:Nat}(h:ws[k]? = some c):X8 l ws k=l.idxOf c:=by unfold X8;rw[bF,h];rfl
structure Vu(l ws:w1h)(z:Nat):Prop where
 lo:FM l
 al:∀c∈ws,c∈l
 le:ws.length<=z
def Vu.asc{l ws:w1h}{z:Nat}(W:Vu l ws z):(tx ws).cps.all (· < 128)=true:=by show ws.toArray.all (· < 128)=true;simp only[List.all_toArray,bK,decide_eq_true_eq];exact λc hc=>W.lo.as c (W.al c hc)
def Vu.mem{l ws:w1h}{z k c:Nat}(W:Vu l ws z)(h:ws[k]? = some c):c∈l:=W.al c (aI h)
def FR{ws:w1h}{k c:Nat}(h:(tx ws).cps[k]? = some c):ws[k]? = some c:=by have:ws.toArray[k]? = some c:=h;simpa using this
def SK{l:w1h}{c:Nat}(h:c∈l):l.idxOf c < l.length:=List.idxOf_lt_length_iff.mpr h
def En{H:Hp}{a:Addr}{xs:List V}{o:HO}(h:H a=some (.lst xs)):D7 H (upd H a o):=λb vs hb=>by
 rw[k8<|by rintro rfl;rw[h]at hb;cases hb];exact hb
def Ju{H H1:Hp}{a:Addr}{o:HO}(s:g9 H H1)(n:H a=none):g9 H (upd H1 a o):=λb u hb=>by
 rw[k8<|k9 hb n];exact s _ _ hb
def sp_is_word:Sp:=λvs H Q _=>∃l ws z,vs=[vT l,vT ws]/\(Vu l ws z/\z<=1000)/\∀H',g9 H H'->Q (.bl true) H'
def Na:j2 Pr w K mg base B7 1 t.w0w t.v0a JK sp_is_word:=by
 show T.u0r.F.okA MO λ_ _ _ _ H _ Q _ hr h=>?_;obtain⟨l,ws,z,rfl,⟨W,hz⟩,k⟩:=h;have wz:=W.le;show⟨_,(a9<|c6<|CP (i0 C3 bR T.z_isinstance boot_isinstance<|B8 (O 1)<|E1 (v:=.ty "str") Y T.z_str boot_str Y)<|X0<|i0 (Bs Y) bR T.z_all boot_all<|o9<|B9 (xs:=["sign"]) Y (oC JK<|b9 BD) (Ew<|O 1) (w5 (i:=2) (by show List.Nodup ([Ja,U3,"sign"]:w1i);decide +kernel) Y<|Or.inl Y)<|K3 Iz (O 2) (O 0)<|by with_unfolding_all rfl),?_⟩;show U Y<|ze ⟨Y,J7.str _,T.k_ss,U Y ?_⟩;show C2 ?_;show vb Y Y ⟨W.asc,u6 (n:=ws.length) (λj ys H2=>ys=(List.replicate j true).map V.bl/\H2=H) Z ⟨Y,Y⟩ (λj ys H2 q=>by rw[q.1];simp) ?_ ?_ ?_⟩
 . rintro j ys H2 hj ⟨rfl,rfl⟩;show⟨(by show j < ws.toArray.size;simpa using hj),λy H' hy=>?_⟩;obtain⟨rfl,c,hc,rfl⟩:=hy;have o:=Nc W.lo<|W.mem<|FR hc;show⟨⟨[some _],Y,Y⟩,vb Y Y<|zc ⟨Y,Y,?_,Y⟩⟩;have e:(!(Builtin.Str.occurrences (tx l) (tx [c]) 0 (tx l).length 1).isEmpty)=true:=by rw[o];rfl
   show _++[V.bl<|!(Builtin.Str.occurrences (tx l) (tx [c]) 0 (tx l).length 1).isEmpty]=_;rw[e,cH,br];rfl
 . rintro ys H2 ⟨rfl,rfl⟩;show ws.toArray.size<=_;simp
 . rintro ys H2 p ⟨rfl,rfl⟩ np;show⟨p,List.replicate ws.length true,Y,y7.of c0,?_⟩;have e:(List.replicate ws.length true).all id=true:=by rw[bK];exact λb hb=>(List.mem_replicate.mp hb).2
   show Q (.bl<|(List.replicate ws.length true).all id) _;rw[e];exact k _ (c4 np)
def sp_need_word:Sp:=λvs H Q _=>∃l ws z,vs=[vT l,vT ws]/\(Vu l ws z/\z<=1000)/\∀H',g9 H H'->Q .non H'
def DQ:j2 Pr w K mg base B7 2 t.u0s t.r0d JK sp_need_word:=by
 show T.r0p.F.okA Jo λ_ _ _ _ _ _ _ _ hr h=>?_;obtain⟨l,ws,z,rfl,W,k⟩:=h;show⟨_,(a9<|j7 (D9<|C6<|z7 (Na T) hr.m T.u0r<|B8 (O 0)<|O 1) (a9 Bd) i3),?_⟩;show vb Y Y ⟨l,ws,z,Y,W,λH' s'=>(U Y ?_)⟩
 (try show l4 ?_)
 exact k _ s'
def Rt{c:Nat}(h:97<=c/\c<=122):(!(Builtin.Str.occurrences (Str.ofString "abcdefghijklmnopqrstuvwxyz") (tx [c]) 0 (Str.ofString "abcdefghijklmnopqrstuvwxyz").length 1).isEmpty)=true:=by
 obtain⟨k,rfl⟩:∃k,c=97+k:=⟨c - 97,Z⟩;have hk:k < 26:=by omega
 have:∀k:Fin 26,(!(Builtin.Str.occurrences (Str.ofString "abcdefghijklmnopqrstuvwxyz") (tx [97+k.val]) 0 (Str.ofString "abcdefghijklmnopqrstuvwxyz").length 1).isEmpty)=true:=by decide +kernel
 exact this ⟨k,hk⟩
def FM.asc'{l:w1h}(L:FM l):(tx l).cps.all (· < 128)=true:=by show l.toArray.all (· < 128)=true;simp only[List.all_toArray,bK,decide_eq_true_eq];exact λc hc=>L.as c hc
structure AZ(l:w1h):Prop where
 lo:FM l
 az:∀c∈l,97<=c/\c<=122
def sp_is_letters:Sp:=λvs H Q _=>∃l,vs=[vT l]/\AZ l/\∀H',g9 H H'->Q (.bl true) H'
def HI:j2 Pr w K mg base B7 1 t.t0y t.q0p [U3] sp_is_letters:=by
 show T.q0u.F.okA Hw λ_ _ _ _ H _ Q _ hr h=>?_;obtain⟨l,rfl,a1d,k⟩:=h;have L:=a1d.lo;have l1:=L.h1;have l3:=L.h3;have sl:1000 < sizeLine:=by decide
 have ll:∀H,R1 K (vT l) H l.length:=λH=>⟨by rw[l7];omega,(l7 l).symm⟩;show⟨_,(a8 (j7 (PW.pt<|G9 (D9<|C6<|i0 C3 bR T.z_isinstance boot_isinstance<|B8 (O 0)<|E1 (v:=.ty "str") Y T.z_str boot_str Y)<|E7<|D9<|RN Ot Ot a7 (i0 l5 bR T.z_len PySem.boot_len<|o9<|O 0)<|V7 (v:=.int 3) Y T.c_MOST_LETTERS.choose_spec ⟨_,Y⟩) (a9<|c6 M5) i3)<|a9<|c6<|CP (K3 o4 (PF Y Y T.z_len Y T.z_set<|o9<|O 0) (i0 l5 bR T.z_len PySem.boot_len<|o9<|O 0)<|d8 _)<|X0<|i0 (Bs Y) bR T.z_all boot_all<|o9<|B9 (xs:=["sign"]) Y (oC [U3]<|b9 R9) (Ew<|O 0) (w5 (i:=1) (by show List.Nodup ([U3,"sign"]:w1i);decide +kernel) Y<|Or.inl Y)<|K3 Iz (O 1) (V7 (v:=.str "abcdefghijklmnopqrstuvwxyz") Y T.c_SMALL_LETTERS.choose_spec ⟨_,Y⟩)<|by with_unfolding_all rfl),?_⟩;show U Y (ze ⟨Y,J7.str _,T.k_ss,U Y ?_⟩)
 (try show l4 ?_)
 show U Y<|zc ⟨Y,ll _,zc ⟨Y,Y,U Y ?_⟩⟩;show R0 (λ_=>?_)<|λh0=>absurd h0 Z;show zc ⟨Y,Y,U Y ?_⟩;rw[show decide ((l.length:Int)<=3)=true from decide_eq_true Z]
 (try show l4 ?_)
 (try show l4 ?_)
 show vb Y Y ⟨(show(tx l).cps.toList.Nodup by show l.toArray.toList.Nodup;simpa using L.nd),(by rw[l7];omega),U Y<|zc ⟨Y,ll _,Y,U Y ?_⟩⟩;rw[show decide (V.int (((tx l).length:Nat):Int)=V.int ((l.length:Nat):Int))=true from m0v<|by rw[l7]];show C2 ?_;show vb Y Y ⟨L.asc',u6 (n:=l.length) (λj ys H2=>ys=(List.replicate j true).map V.bl/\H2=H) Z ⟨Y,Y⟩ (λj ys H2 q=>by rw[q.1];simp) ?_ ?_ ?_⟩
 . rintro j ys H2 hj ⟨rfl,rfl⟩;show⟨(by show j < l.toArray.size;simpa using hj),λy H' hy=>?_⟩;obtain⟨rfl,c,hc,rfl⟩:=hy;have hc:l.toArray[j]? = some c:=hc;have hc:l[j]? = some c:=by simpa using hc
   have e:=Rt<|a1d.az c<|aI hc;show⟨⟨[some _],Y,Y⟩,U Y<|zc ⟨Y,Y,?_,Y⟩⟩;show _++[V.bl<|!(Builtin.Str.occurrences (Str.ofString "abcdefghijklmnopqrstuvwxyz") (tx [c]) 0 (Str.ofString "abcdefghijklmnopqrstuvwxyz").length 1).isEmpty]=_;rw[e,cH,br];rfl
 . rintro ys H2 ⟨rfl,rfl⟩;show l.toArray.size<=_;simp
 . rintro ys H2 p ⟨rfl,rfl⟩ np;show⟨p,List.replicate l.length true,Y,y7.of c0,?_⟩;have e:(List.replicate l.length true).all id=true:=by rw[bK];exact λb hb=>(List.mem_replicate.mp hb).2
   show Q (.bl<|(List.replicate l.length true).all id) _;rw[e];exact k _ (c4 np)
def He(n:Nat):(List.replicate n true).all id=true:=by rw[bK];exact λb hb=>(List.mem_replicate.mp hb).2
variable(w K mg base)in def Pj:Sp:=λvs H Q _=>∃(R:c5 Pr w K mg base),∃kv v n,∃(z:Int),∃x m,vs=[kv,.int z,v]/\(Bv R.C R.fs H kv/\R.Row n x m v H/\n<=1000/\z=n)/\∀H',g9 H H'->Q (.bl true) H'
def EA:j2 Pr w K mg base B7 41 t.x0l t.w0o Tq (Pj w K mg base):=by
 show T.v0k.F.okA Px λ_ _ _ _ H _ Q _ hr h=>?_;obtain⟨R,kv,v,n,z,x,m,rfl,⟨⟨kp,dx,rfl,hk⟩,gU,hn,rfl⟩,k⟩:=h;have hl:=gU.len (K:=K);obtain⟨p,us,rfl,hp,e⟩:=gU;show⟨_,(a8 (j7 (PW.pt<|G9 (D9<|C6<|i0 C3 bR T.z_isinstance boot_isinstance<|B8 (O 2)<|E1 (v:=.ty "tuple") Y T.z_tuple boot_tuple Y)<|E7<|d7 Be (i0 l5 bR T.z_len PySem.boot_len<|o9<|O 2) (O 1)<|d8 _) (a9<|c6 M5) i3)<|a9<|c6<|i0 (Bs Y) bR T.z_all boot_all<|o9<|B9 (xs:=["x"]) Y (oC Tq<|b9 DH) (E9<|O 2) (w5 (i:=3) (by show List.Nodup ([z0,Dq,U3,"x"]:w1i);decide +kernel) Y<|Or.inl Y)<|FJ (O 0) R.cl R.t_is_weight R.G_is_weight hr.m R.b_is_weight .nil m8<|o9<|O 3),?_⟩;show U Y (ze ⟨Y,J7.tup hp,T.k_tt,U Y ?_⟩)
 (try show l4 ?_)
 show U Y (zc ⟨Y,hl,U Y ⟨Y,U Y ?_⟩⟩)
 (try dsimp only)
 show IL (λne=>absurd Y ne)<|λ_=>?_;show U Y ⟨p,Y,⟨_,j3.of hp⟩,u6 (n:=n) (λj ys H2=>ys=(List.replicate j true).map V.bl/\H2=H) hn ⟨Y,Y⟩ (λj ys H2 q=>by rw[q.1];simp) ?_ ?_ ?_⟩
 . rintro j ys H2 hj ⟨rfl,rfl⟩;obtain⟨u,eu,pu⟩:=e.2 j hj;show GL (j3.of hp) eu ?_;show⟨⟨[some _],Y,Y⟩,U Y<|zd ⟨Y,hk,R.l_is_weight,U Y<|zd ⟨Y,⟨zc ⟨Y,hk⟩,pu.1⟩,?_,Y⟩⟩⟩;rw[cH,br];rfl
 . rintro ys H2 ⟨rfl,rfl⟩;exact⟨_,j3.of hp,by rw[e.1];exact ae _⟩
 . rintro ys H2 q ⟨rfl,rfl⟩ nq;show⟨q,List.replicate n true,Y,y7.of c0,?_⟩;show Q (.bl<|(List.replicate n true).all id) _;rw[He];exact k _ (c4 nq)
variable(w K mg base)in def KQ:Sp:=λvs H Q _=>∃(R:c5 Pr w K mg base),∃kv v n,∃(z:Int),∃x m,vs=[kv,.int z,v]/\(Bv R.C R.fs H kv/\R.Tab n n x m v H/\n<=1000/\z=n)/\∀H',g9 H H'->Q (.bl true) H'
def Lw:j2 Pr w K mg base B7 42 t.w0b t.s0p Tq (KQ w K mg base):=by
 show T.s0t.F.okA Lc λ_ _ _ _ H _ Q _ hr h=>?_;obtain⟨R,kv,v,n,z,x,m,rfl,⟨hk,gU,hn,rfl⟩,k⟩:=h;have hl:=gU.len (K:=K);obtain⟨p,us,rfl,hp,e⟩:=gU;show⟨_,(a8 (j7 (PW.pt<|G9 (D9<|C6<|i0 C3 bR T.z_isinstance boot_isinstance<|B8 (O 2)<|E1 (v:=.ty "tuple") Y T.z_tuple boot_tuple Y)<|E7<|d7 Be (i0 l5 bR T.z_len PySem.boot_len<|o9<|O 2) (O 1)<|d8 _) (a9<|c6 M5) i3)<|a9<|c6<|i0 (Bs Y) bR T.z_all boot_all<|o9<|B9 (xs:=[P9]) Y (oC Tq<|b9 Ak) (E9<|O 2) (w5 (i:=3) (by show List.Nodup ([z0,Dq,U3,P9]:w1i);decide +kernel) Y<|Or.inl Y)<|j8 (EA (w:=w) (base:=base) T) hr.m Y T.v0k.m T.v0k.F.kp T.v0k.b .nil m8<|O1 (O 0) (O 1)<|O 3),?_⟩;show U Y (ze ⟨Y,J7.tup hp,T.k_tt,U Y ?_⟩)
 (try show l4 ?_)
 show U Y (zc ⟨Y,hl,U Y ⟨Y,U Y ?_⟩⟩)
 (try dsimp only)
 show IL (λne=>absurd Y ne)<|λ_=>?_;show U Y ⟨p,Y,⟨_,j3.of hp⟩,u6 (n:=n) (λj ys H2=>ys=(List.replicate j true).map V.bl/\g9 H H2) hn ⟨Y,g9.refl _⟩ (λj ys H2 q=>by rw[q.1];simp) ?_ ?_ ?_⟩
 . rintro j ys H2 hj ⟨rfl,q⟩;obtain⟨u,eu,pu⟩:=e.2 j hj;show GL (j3.of<|q _ _ hp) eu ?_;show⟨⟨[some _],Y,Y⟩,vc Y Y Y ⟨R,zr _ _ n _ _ m ⟨Y,⟨hk.same q,c5.Row.same q.t pu,hn,Y⟩,λH3 s3=>⟨?_,q.trans s3⟩⟩⟩⟩;rw[cH,br];rfl
 . rintro ys H2 ⟨rfl,q⟩;exact⟨_,j3.of<|q _ _ hp,by rw[e.1];exact ae _⟩
 . rintro ys H2 l ⟨rfl,q⟩ nq;show⟨l,List.replicate n true,Y,y7.of c0,?_⟩;show Q (.bl<|(List.replicate n true).all id) _;rw[He];exact k _ (q.trans<|c4 nq)
def Vv(R:c5 Pr w K mg base)(l:w1h)(n:Nat)(st:w1a R.S)(tb:w1c R.S)(en:w1a R.S)(_:Nat)(v:V)(H:Hp):Prop:=
 ∃p sv tv ev m1 m2 m3,v=.ref p/\H p=some (.tup [vT l,sv,tv,ev])/\R.Row n st m1 sv H/\Az (λj u H=>R.Tab n n (tb j) m2 u H) l.length tv H/\R.Row n en m3 ev H
variable(w K mg base)in def Ho:Sp:=λvs H Q _=>∃(R:c5 Pr w K mg base),∃kv v l n st tb en m,vs=[kv,v]/\(Bv R.C R.fs H kv/\Vv R l n st tb en m v H/\AZ l/\n<=20)/\∀H',g9 H H'->Q (.bl true) H'
def HH:j2 Pr w K mg base B7 43 t.t0x t.q0t [z0,U3] (Ho w K mg base):=by
 show T.q0z.F.okA P3 λ_ _ _ _ H _ Q _ hr h=>?_;obtain⟨R,kv,v,l,n,st,tb,en,m,rfl,⟨hk,⟨p,sv,tv,ev,m1,m2,m3,rfl,hp,h1,h2,h3⟩,a1d,hn⟩,k⟩:=h;have l3:=a1d.lo.h3;have sl:1000 < sizeLine:=by decide
 have hl:R1 K (.ref p) H 4:=.inr ⟨_,j3.of hp,Y⟩;show⟨_,(a8 (j7 (PW.pt<|G9 (D9<|C6<|i0 C3 bR T.z_isinstance boot_isinstance<|B8 (O 1)<|E1 (v:=.ty "tuple") Y T.z_tuple boot_tuple Y)<|G9 (d7 Be (i0 l5 bR T.z_len PySem.boot_len<|o9<|O 1) a7<|d8 _)<|E7<|D9<|C6<|z7 (HI T) hr.m T.q0u<|o9<|o5 c9 (O 1) a7) (a9<|c6 M5) i3)<|a8 (sT 2 P3.nd<|o5 c9 (O 1) a7)<|a8 (sT 3 P3.nd<|o5 c9 (O 1) a7)<|a8 (j7 (PW.pt<|G9 (D9<|C6<|i0 C3 bR T.z_isinstance boot_isinstance<|B8 (O 2)<|E1 (v:=.ty "tuple") Y T.z_tuple boot_tuple Y)<|E7<|d7 Ay (i0 l5 bR T.z_len PySem.boot_len<|o9<|O 2) (V7 (v:=.int 20) Y T.c_MOST_ROOMS.choose_spec ⟨_,Y⟩)<|d8 _) (a9<|c6 M5) i3)<|a8 (j7 (PW.pt<|G9 (D9<|C6<|i0 C3 bR T.z_isinstance boot_isinstance<|B8 (O 3)<|E1 (v:=.ty "tuple") Y T.z_tuple boot_tuple Y)<|E7<|d7 Be (i0 l5 bR T.z_len PySem.boot_len<|o9<|O 3) (i0 l5 bR T.z_len PySem.boot_len<|o9<|o5 c9 (O 1) a7)<|d8 _) (a9<|c6 M5) i3)<|a8 (CN (i:=4) P3.nd Y (Or.inr Y)<|i0 l5 bR T.z_len PySem.boot_len<|o9<|O 2)<|a8 (j7 (PW.pt<|G9 (D9<|C6<|z7 (EA T) hr.m T.v0k<|O1 (O 0) (O 4)<|O 2)<|E7<|D9<|C6<|z7 (EA T) hr.m T.v0k<|O1 (O 0) (O 4)<|o5 c9 (O 1) a7) (a9<|c6 M5) i3)<|a9<|c6<|i0 (Bs Y) bR T.z_all boot_all<|o9<|B9 (xs:=[W4]) Y (oC [z0,U3,IY,AA,Dq]<|b9 R8) (E9<|O 3) (w5 (i:=5) (by show List.Nodup ([z0,U3,IY,AA,Dq,W4]:w1i);decide +kernel) Y<|Or.inl Y)<|j8 (Lw (w:=w) (base:=base) T) hr.m Y T.s0t.m T.s0t.F.kp T.s0t.b .nil m8<|O1 (O 0) (O 4)<|O 5),?_⟩;show U Y (ze ⟨Y,J7.tup hp,T.k_tt,U Y ?_⟩)
 (try show l4 ?_)
 show U Y (zc ⟨Y,hl,Y,U Y ?_⟩)
 (try dsimp only)
 show IL (λne=>absurd Y ne)<|λ_=>?_;show U Y (ze ⟨Y,Y,j3.of hp,Y,l,Y,a1d,λH1 s1=>(U Y ?_)⟩)
 (try show l4 ?_)
 (try show l4 ?_)
 show U Y<|ze ⟨Y,Y,j3.of<|s1 _ _ hp,Y,?_⟩;show U Y<|ze ⟨Y,Y,j3.of<|s1 _ _ hp,Y,?_⟩;have ls:=(c5.Row.same s1.t h1).len (K:=K);obtain⟨sp,ss,rfl,fB,es⟩:=id h1;obtain⟨tp,ts,rfl,eS,et⟩:=id h2;have lt:R1 K (.ref tp) H1 l.length:=.inr ⟨_,j3.of<|s1 _ _ eS,et.1.symm⟩;show U Y (ze ⟨Y,J7.tup<|s1 _ _ fB,T.k_tt,U Y ?_⟩)
 (try show l4 ?_)
 show U Y<|zc ⟨Y,ls,zc ⟨Y,Y,U Y ?_⟩⟩;show R0 (λh0=>absurd h0 Z)<|λ_=>?_;show U Y (ze ⟨Y,J7.tup<|s1 _ _ eS,T.k_tt,U Y ?_⟩)
 (try show l4 ?_)
 show U Y (zc ⟨Y,lt,U Y<|ze ⟨Y,Y,j3.of<|s1 _ _ hp,Y,zc ⟨Y,(show R1 K (vT l) H1 l.length from⟨by rw[l7];omega,(l7 l).symm⟩),Y,U Y ?_⟩⟩⟩)
 (try dsimp only)
 show IL (λne=>absurd Y ne)<|λ_=>?_;show U Y<|zc ⟨Y,ls,?_⟩;show vc Y Y Y ⟨R,zr _ _ n _ _ m1 ⟨Y,⟨hk.same s1,c5.Row.same s1.t h1,Z,Y⟩,λH2 s2=>(U Y ?_)⟩⟩;have iC:=s1.trans s2
 (try show l4 ?_)
 show vc Y Y Y<|ze ⟨Y,Y,j3.of<|iC _ _ hp,Y,R,zr _ _ n _ _ m3 ⟨Y,⟨hk.same iC,c5.Row.same iC.t h3,Z,Y⟩,λH3 s3=>(U Y ?_)⟩⟩;have ij:=iC.trans s3
 (try show l4 ?_)
 (try show l4 ?_)
 show U Y ⟨tp,Y,⟨_,j3.of<|ij _ _ eS⟩,u6 (n:=l.length) (λj ys H4=>ys=(List.replicate j true).map V.bl/\g9 H H4) Z ⟨Y,ij⟩ (λj ys H2 q=>by rw[q.1];simp) ?_ ?_ ?_⟩
 . rintro j ys H4 hj ⟨rfl,q⟩;obtain⟨u,eu,pu⟩:=et.2 j hj;show GL (j3.of<|q _ _ eS) eu ?_;show⟨⟨[some _],Y,Y⟩,vc Y Y Y ⟨R,zr _ _ n _ _ m2 ⟨Y,⟨hk.same q,c5.Tab.same q.t pu,Z,Y⟩,λH5 s5=>⟨?_,q.trans s5⟩⟩⟩⟩;rw[cH,br];rfl
 . rintro ys H4 ⟨rfl,q⟩;exact⟨_,j3.of<|q _ _ eS,by rw[et.1];exact ae _⟩
 . rintro ys H4 q ⟨rfl,qs⟩ nq;show⟨q,List.replicate l.length true,Y,y7.of c0,?_⟩;show Q (.bl<|(List.replicate l.length true).all id) _;rw[He];exact k _ (qs.trans<|c4 nq)
def l8.app{Pd:Nat->V->Hp->Prop}{xs ys:List V}{n k:Nat}{H:Hp}(h1:l8 Pd xs n H)(h2:l8 (λj=>Pd<|n+j) ys k H):l8 Pd (xs++ys) (n+k) H:=
 ⟨by rw[ar,h1.1,h2.1],λj hj=>by
  by_cases hn:j < n
  . obtain⟨u,e,q⟩:=h1.2 j hn;exact⟨u,by rw[aR<|by rw[h1.1];exact hn];exact e,q⟩
  . obtain⟨u,e,q⟩:=h2.2 (j - n) Z;rw[show n+(j - n)=j by omega]at q;exact⟨u,by rw[bc (by rw[h1.1];omega),h1.1];exact e,q⟩⟩
theorem CW{S:SR}{c:Nat}{x:S.W}{k:Nat}:∀{d:Nat},S.lv k c x->S.lv (k+d) c x
 | 0,h=>h
 | d+1,h=>S.lv_up _ _ _ (CW h)
def Row.up{R:c5 Pr w K mg base}{n m m':Nat}{x:w1a R.S}{v:V}{H:Hp}(h:m<=m')(r:R.Row n x m v H):R.Row n x m' v H:=by obtain⟨d,rfl⟩:∃d,m'=m+d:=⟨m' - m,Z⟩;exact r.mono (D7.refl _) λ_ _ _ q=>⟨q.1,CW q.2⟩
theorem Tab.up{R:c5 Pr w K mg base}{k n m m':Nat}{x:w1b R.S}{v:V}{H:Hp}(h:m<=m')(r:R.Tab k n x m v H):R.Tab k n x m' v H:=r.mono (D7.refl _) λ_ _ _ q=>Row.up h q
def Row.congr{R:c5 Pr w K mg base}{n m:Nat}{x y:w1a R.S}{v:V}{H:Hp}(h:∀i,i < n->x i=y i)(r:R.Row n x m v H):R.Row n y m v H:=
 r.mono (D7.refl _) λj _ hj q=>⟨by rw[<- h j hj];exact q.1,by rw[<- h j hj];exact q.2⟩
variable(w K mg base)in def MH:Sp:=λvs H Q _=>∃(R:c5 Pr w K mg base),∃kv,∃(z:Int),∃(n m:Nat),vs=[kv,.int z]/\(Bv R.C R.fs H kv/\n<=1000/\z=n)/\
 ∀v H',g9 H H'->R.Row n (λ_=>R.S.zero) m v H'->Q v H'
def Ap:j2 Pr w K mg base B7 41 t.w0s t.u0f Sj (MH w K mg base):=by
 show T.u0g.F.okA ML λ_ _ _ _ H _ _ _ hr h=>?_;obtain⟨R,kv,z,n,m,rfl,⟨⟨kp,dx,rfl,hk⟩,hn,rfl⟩,k⟩:=h;show⟨_,(a9<|c6<|o6 j9 bR T.z_tuple boot_tuple<|o9<|B9 (xs:=[IZ]) Y (oC Sj<|b9 BC) (G8 Y T.z_range<|o9<|O 1) (gL 2 PZ)<|Y6 (O 0) R.cl R.t_nought R.G_nought hr.m R.b_nought .nil m8),?_⟩;show vb Y Y ⟨Z,Z,u6 (n:=n) (λj ys H2=>g9 H H2/\l8 (R.Wt (λ_=>R.S.zero) m) ys j H2) hn ⟨g9.refl _,l8.nil⟩ (λj ys H2 q=>q.2.1) ?_ ?_ ?_⟩
 . rintro j ys H2 hj ⟨q,e⟩;show UK (by omega) ?_;show⟨⟨[some _],Y,Y⟩,U Y<|zd ⟨Y,q _ _ hk,R.l_nought,U Y ⟨zc ⟨Y,q _ _ hk⟩,λv H3 s3 f3=>?_⟩⟩⟩;exact⟨q.trans s3,(e.mono λ_ _ _ z=>c5.Wt.same s3.t z).snoc ⟨f3,R.S.lv_mono _ _ _ _ bD<|R.S.lv_zero _⟩⟩
 . rintro ys H2 ⟨q,e⟩;show(n:Int).toNat<=n;omega
 . rintro ys H2 l ⟨q,e⟩ nl;have eX:=c4 (o:=.lst ys) nl;show⟨l,ys,Y,.inl ⟨y7.of c0,λl2 n2=>?_⟩⟩;have s2:=c4 (o:=.tup ys) n2;exact k _ _ (q.trans<|eX.trans s2) ⟨l2,ys,Y,c0,e.mono λ_ _ _ z=>c5.Wt.same (eX.trans s2).t z⟩
variable(w K mg base)in def Jh:Sp:=λvs H Q _=>∃(R:c5 Pr w K mg base),∃kv bv row n b x j m,vs=[kv,bv,row]/\(Bv R.C R.fs H kv/\R.is H bv b/\R.S.lv j 32 b/\R.Row n x m row H/\n<=1000/\j+m<=100000)/\
 ∀v H',g9 H H'->R.Row n (λi=>R.S.mul b<|x i) (j+m) v H'->Q v H'
def M6:j2 Pr w K mg base B7 41 t.u0y t.s0e Sk (Jh w K mg base):=by
 show T.r0q.F.okA Jn λ_ _ _ _ H _ _ _ hr h=>?_;obtain⟨R,kv,bv,row,n,b,x,jl,m,rfl,⟨⟨kp,dx,rfl,hk⟩,hb,lb,⟨p,us,rfl,hp,eR⟩,hn,hz⟩,k⟩:=h;show⟨_,(a9<|c6<|o6 j9 bR T.z_tuple boot_tuple<|o9<|B9 (xs:=["x"]) Y (oC Sk<|b9 U9) (E9<|O 2) (w5 (i:=3) (by show List.Nodup ([z0,"by",P9,"x"]:w1i);decide +kernel) Y<|Or.inl Y)<|FJ (O 0) R.cl R.t_times R.G_times hr.m R.b_times .nil m8<|B8 (O 1)<|O 3),?_⟩;show U Y ⟨p,Y,⟨_,j3.of hp⟩,u6 (n:=n) (λj ys H2=>g9 H H2/\l8 (R.Wt (λi=>R.S.mul b<|x i)<|jl+m) ys j H2) hn ⟨g9.refl _,l8.nil⟩ (λj ys H2 q=>q.2.1) ?_ ?_ ?_⟩
 . rintro j ys H2 hj ⟨q,e⟩;obtain⟨u,eu,pu⟩:=eR.2 j hj;show GL (j3.of<|q _ _ hp) eu ?_;show⟨⟨[some _],Y,Y⟩,U Y<|zd ⟨Y,q _ _ hk,R.l_times,vb Y Y<|zf ⟨100 * jl,100 * m,Y,⟨zc ⟨Y,q _ _ hk⟩,R.same q.t hb,R.same q.t pu.1,R.S.lv_sz _ _ _ bD lb,R.S.lv_sz _ _ _ bD pu.2,Z⟩,λv H3 s3 f3=>?_⟩⟩⟩;exact⟨q.trans s3,(e.mono λ_ _ _ z=>c5.Wt.same s3.t z).snoc ⟨f3,R.S.lv_mono _ _ _ _ bD<|R.S.lv_mul _ _ _ _ lb pu.2⟩⟩
 . rintro ys H2 ⟨q,e⟩;exact⟨_,j3.of<|q _ _ hp,by rw[eR.1];exact ae _⟩
 . rintro ys H2 l ⟨q,e⟩ nl;have eX:=c4 (o:=.lst ys) nl;show⟨l,ys,Y,.inl ⟨y7.of c0,λl2 n2=>?_⟩⟩;have s2:=c4 (o:=.tup ys) n2;exact k _ _ (q.trans<|eX.trans s2) ⟨l2,ys,Y,c0,e.mono λ_ _ _ z=>c5.Wt.same (eX.trans s2).t z⟩
def y6(R:c5 Pr w K mg base)(l:w1h)(n:Nat)(st:w1a R.S)(tb:w1c R.S)(en:w1a R.S)(m1 m2 m3:Nat)(v:V)(H:Hp):Prop:=
 ∃p sv tv ev,v=.ref p/\H p=some (.tup [vT l,sv,tv,ev])/\R.Row n st m1 sv H/\Az (λj u H=>R.Tab n n (tb j) m2 u H) l.length tv H/\R.Row n en m3 ev H
theorem y6.same{R:c5 Pr w K mg base}{l:w1h}{n:Nat}{st:w1a R.S}{tb:w1c R.S}{en:w1a R.S}{m1 m2 m3:Nat}{v:V}{H H':Hp}(s:D7 H H')(h:y6 R l n st tb en m1 m2 m3 v H):y6 R l n st tb en m1 m2 m3 v H':=by obtain⟨p,sv,tv,ev,rfl,hp,h1,h2,h3⟩:=h;exact⟨p,sv,tv,ev,Y,s _ _ hp,c5.Row.same s h1,h2.mono s λ_ _ _ q=>c5.Tab.same s q,c5.Row.same s h3⟩
def y6.m{R:c5 Pr w K mg base}{l:w1h}{n:Nat}{st:w1a R.S}{tb:w1c R.S}{en:w1a R.S}{m1 m2 m3:Nat}{v:V}{H:Hp}(h:y6 R l n st tb en m1 m2 m3 v H):Vv R l n st tb en 0 v H:=by obtain⟨p,sv,tv,ev,a,b,c,d,e⟩:=h;exact⟨p,sv,tv,ev,m1,m2,m3,a,b,c,d,e⟩
def Tn.g{R:c5 Pr w K mg base}{l:w1h}{n:Nat}{st:w1a R.S}{tb:w1c R.S}{en:w1a R.S}{m:Nat}{v:V}{H:Hp}(h:Tn R l n st tb en m v H):y6 R l n st tb en m m m v H:=h
def Aa(S:SR)(l:w1h)(n:Nat)(st:w1a S)(tb:w1c S)(en:w1a S)(ws:w1h):S.W:=o3 S (K4 S n st tb (X8 l ws) ws.length) en n
def if0(n:Nat):(if n=0 then 0 else n)=n:=by split <;>omega
structure MOk(n:Nat)(l ws:w1h):Prop where
 W:Vu l ws 100
 nn:n<=32
def UF{i m1 m2:Nat}:m1+i * m2+m2=m1+(i+1) * m2:=by rw[aV,Nat.add_assoc]
variable(w K mg base)in def Rl:Sp:=λvs H Q _=>∃(R:c5 Pr w K mg base),∃mv l n st tb en m1 m2 m3,vs=[mv]/\y6 R l n st tb en m1 m2 m3 mv H/\Q (.int n) H
def z9:j2 Pr w K mg base B7 1 t.x0u t.x0f [U4] (Rl w K mg base):=by show T.w0r.F.okA Ry λ_ _ _ _ _ _ _ _ hr h=>?_;obtain⟨R,mv,l,n,st,tb,en,m1,m2,m3,rfl,⟨p,sv,tv,ev,rfl,hp,h1,h2,h3⟩,k⟩:=h;show⟨_,(a9<|c6<|i0 l5 bR T.z_len PySem.boot_len<|o9<|o5 c9 (O 0) a7),?_⟩;exact U Y (ze ⟨Y,Y,j3.of hp,Y,zc ⟨Y,h1.len,k⟩⟩)
variable(w K mg base)in def KO:Sp:=λvs H Q _=>∃(R:c5 Pr w K mg base),∃mv l n st tb en m1 m2 m3 c,vs=[mv,vT [c]]/\(y6 R l n st tb en m1 m2 m3 mv H/\FM l/\c∈l)/\∀v,R.Tab n n (tb<|l.idxOf c) m2 v H->Q v H
def Lo:j2 Pr w K mg base B7 1 t.w0h t.t0s Uw (KO w K mg base):=by show T.t0l.F.okA KY λ_ _ _ _ _ _ _ _ hr h=>?_;obtain⟨R,mv,l,n,st,tb,en,m1,m2,m3,c,rfl,⟨⟨p,sv,tv,ev,rfl,hp,h1,⟨q,ts,rfl,hq,et⟩,h3⟩,L,hc⟩,k⟩:=h;obtain⟨u,eu,pu⟩:=et.2 _<|SK hc;show⟨_,(a9<|c6<|o5 c9 (o5 c9 (O 0) a7)<|DL dm PySem.F.slot_str_index PySem.F.type_str_index IG (o5 c9 (O 0) a7)<|o9<|O 1),?_⟩;exact U Y (ze ⟨Y,Y,j3.of hp,Y,U Y<|ze ⟨Y,Y,j3.of hp,Y,Y,U Y<|ze ⟨Y,Y,Nc L hc,ze ⟨Y,Y,j3.of hq,y9 eu,k _ pu⟩⟩⟩⟩)
variable(w K mg base)in def Rq:Sp:=λvs H Q _=>∃(R:c5 Pr w K mg base),∃kv mv l n st tb en ws m1 m2 m3,vs=[kv,mv,vT ws]/\(Bv R.C R.fs H kv/\y6 R l n st tb en m1 m2 m3 mv H/\MOk n l ws/\m1+ws.length * m2+m3<=100000)/\
 ∀v H',g9 H H'->R.Row n (K4 R.S n st tb (X8 l ws) ws.length) (m1+ws.length * m2) v H'->Q v H'
def Sd:j2 Pr w K mg base B7 43 t.y0b t.x0e Nh (Rq w K mg base):=by
 show T.x0b.F.okA DC λ_ _ _ _ H _ _ _ hr h=>?_;obtain⟨R,kv,mv,l,n,st,tb,en,ws,m1,m2,m3,rfl,⟨hk,hm,M,hz⟩,k⟩:=h;have W:=M.W;have wz:=W.le;have hn:=M.nn;obtain⟨p,sv,tv,ev,rfl,hp,h1,h2,h3⟩:=id hm;show⟨_,(a8 (x4<|z7 (DQ T) hr.m T.r0p<|B8 (o5 c9 (O 1) a7)<|O 2)<|a8 (sT 3 DC.nd<|o5 c9 (O 1) a7)<|a8 (E8 aB Y (Ew<|O 2) (gN 4 DC.nd)<|a9<|sT 3 DC.nd<|z7 (ID T) hr.m T.v0o<|O1 (O 0) (O 3)<|z7 (Lo T) hr.m T.t0l<|B8 (O 1)<|O 4)<|a9<|c6<|O 3),?_⟩;show U Y<|ze ⟨Y,Y,j3.of hp,Y,U Y ⟨l,ws,100,Y,⟨W,bD⟩,λH1 s1=>?_⟩⟩;show U Y<|ze ⟨Y,Y,j3.of<|s1 _ _ hp,Y,?_⟩;show vb Y Y ⟨W.asc,GQ (n:=ws.length) (λi σ H2=>∃rv v4,σ=[some kv,sr p,some<|vT ws,some rv,v4]/\g9 H H2/\R.Row n (K4 R.S n st tb (X8 l ws) i) (m1+i * m2) rv H2) ⟨_,U Y ⟨s1,by rw[bB];exact c5.Row.same s1.t h1⟩⟩ ?_ ?_⟩
 . rintro i σ H2 hi ⟨rv,v4,rfl,q,iM⟩;show⟨(by show i < ws.toArray.size;simpa using hi),λx H' hy=>?_⟩;obtain⟨rfl,c,hc,rfl⟩:=hy;have hc:=FR hc;have li:(i+1) * m2<=ws.length * m2:=bf m2 hi;have ya:(i+1) * m2=i * m2+m2:=aV i m2;show vc Y Y Y<|U Y ⟨R,zw _ l n st tb en m1 m2 m3 c ⟨Y,⟨hm.same q.t,W.lo,W.mem hc⟩,λxT wq=>?_⟩⟩;show⟨R,zv _ _ _ n n _ _ (m1+i * m2) m2 ⟨Y,⟨hk.same q,iM.seq,wq,Z,Z,Z,Z⟩,λv H3 s3 r3=>?_⟩⟩;rw[if0]at r3;show zc ⟨Y,q.trans s3,?_⟩;have r4:=r3;rw[UF,<- Mv hc]at r4;exact r4
 . rintro σ H2 ⟨rv,v4,rfl,q,iM⟩;exact⟨(by show ws.toArray.size<=_;simp),U Y<|k _ _ q iM⟩
variable(w K mg base)in def OZ:Sp:=λvs H Q _=>∃(R:c5 Pr w K mg base),∃kv mv l n st tb en ws m1 m2 m3,vs=[kv,mv,vT ws]/\(Bv R.C R.fs H kv/\y6 R l n st tb en m1 m2 m3 mv H/\MOk n l ws/\m1+ws.length * m2+m3<=100000)/\
 ∀v H',g9 H H'->R.is H' v (Aa R.S l n st tb en ws)->R.S.lv (m1+ws.length * m2+m3) 32 (Aa R.S l n st tb en ws)->Q v H'
def IC:j2 Pr w K mg base B7 44 t.weight t.w0e Nh (OZ w K mg base):=by show T.w0f.F.okA Pq λ_ _ _ _ _ _ _ _ hr h=>?_;obtain⟨R,kv,mv,l,n,st,tb,en,ws,m1,m2,m3,rfl,⟨hk,hm,M,hz⟩,k⟩:=h;obtain⟨p,sv,tv,ev,rfl,hp,h1,h2,h3⟩:=id hm;have wz:=M.W.le;have hn:=M.nn;show⟨_,(a9<|c6<|z7 (JG T) hr.m T.x0v<|O1 (O 0) (z7 (Sd T) hr.m T.x0b<|O1 (O 0) (O 1)<|O 2)<|o5 c9 (O 1) a7),?_⟩;show vc Y Y Y<|U Y ⟨R,zz _ _ l n st tb en ws m1 m2 m3 ⟨Y,⟨hk,hm,M,hz⟩,λv H1 s1 r1=>?_⟩⟩;show U Y<|ze ⟨Y,Y,j3.of<|s1 _ _ hp,Y,R,zu _ _ _ n _ en (m1+ws.length * m2) m3 ⟨Y,⟨hk.same s1,r1.seq,(c5.Row.same s1.t h3).seq,Z,Z⟩,λv2 H2 s2 f2 z2=>?_⟩⟩;exact k _ _ (s1.trans s2) f2 z2
def j2.or{P:Program}{w:World}{K:aa}{mg:w1g}{base:Heap}{CX:Mi}{k:Nat}{f:Addr}{fd:FuncData}{ps:w1i}{sp jv:Sp}(F:j2 P w K mg base CX k f fd ps sp)(G:j2 P w K mg base CX k f fd ps jv) :
    j2 P w K mg base CX k f fd ps (λvs H Q E=>sp vs H Q E\/jv vs H Q E):=
 ⟨λvs H Q E h=>h.elim (F.len vs H Q E)<|G.len vs H Q E,λA outer s H args us vs Q E hr e0 hb r h=>h.elim (F.run A outer s H args us vs Q E hr e0 hb r)<|G.run A outer s H args us vs Q E hr e0 hb r⟩
def TL(t:Vz):Sp:=λvs H Q E=>∃(z:Int),vs=[.int z]/\(z<=20->Q .non H)/\(20 < z->E (.ref t.v0t) none H)
def C1:j2 Pr w K mg base (Hk Pr w) 1 t.p0h t.o0m ["count"] (TL t):=by show T.o0f.F.okx Dz (by rintro _ _ _ _ ⟨_,rfl,_⟩;rfl) λ_ _ _ _ _ _ _ _ hr h=>?_;obtain⟨z,rfl,k0,k1⟩:=h;show⟨_,(a9<|j7 (d7 Ay (O 0) (V7 (v:=.int 20) Y T.c_MOST_ROOMS.choose_spec ⟨_,Y⟩)<|d8 _) (a9<|Lj K1 Y T.t0b.ex Y T.t0i<|o9 j1) i3),?_⟩;show U Y<|zc ⟨Y,Y,U Y ?_⟩;show R0 (λh0=>⟨sL,k1 Z⟩)<|λh0=>?_;exact k0 Z
def sp_few:Sp:=λvs H Q _=>∃(z:Int),vs=[.int z]/\z<=20/\Q .non H
def B6:j2 Pr w K mg base B7 1 t.p0h t.o0m ["count"] sp_few:=
 (C1 T).quiet.imp λvs H Q E h=>by
  obtain⟨z,rfl,hz,k⟩:=h;exact⟨z,Y,λ_=>k,λz'=>absurd z' Z⟩
def Rk(w:World)(K:aa)(mg:w1g)(base:Heap):Sp:=λvs H Q _=>∃(l:w1h),∃p q s1 t1 e1 s2 t2 e2,vs=[.ref p,.ref q]/\(H p=some (.tup [vT l,s1,t1,e1])/\H q=some (.tup [vT l,s2,t2,e2]))/\Q .non H
def y8:j2 Pr w K mg base B7 1 t.n0z t.n0q Nf (Rk w K mg base):=by
 show T.n0o.F.okA AK λ_ _ _ _ _ _ _ _ hr h=>?_;obtain⟨l,p,q,s1,t1,e1,s2,t2,e2,rfl,⟨hp,hq⟩,k⟩:=h;show⟨_,(a9<|j7 (d7 Be (o5 c9 (O 0) a7) (o5 c9 (O 1) a7)<|d8 _) (a9 Bd) i3),?_⟩;show U Y<|ze ⟨Y,Y,j3.of hp,Y,U Y<|ze ⟨Y,Y,j3.of hq,Y,Y,U Y ?_⟩⟩;rw[show(!decide (vT l=vT l))=false by rw[decide_eq_true rfl];rfl]
 (try show l4 ?_)
 exact k
variable(w K mg base)in def Pc:Sp:=λvs H Q _=>∃(R:c5 Pr w K mg base),∃kv bv mv l n st tb en b j m1 m2 m3,vs=[kv,bv,mv]/\(Bv R.C R.fs H kv/\R.is H bv b/\R.S.lv j 32 b/\y6 R l n st tb en m1 m2 m3 mv H/\n<=20/\j+m1<=100000)/\
 ∀v H',g9 H H'->y6 R l n (λi=>R.S.mul b<|st i) tb en (j+m1) m2 m3 v H'->Q v H'
def PN:j2 Pr w K mg base B7 43 t.x0p t.v0v Uy (Pc w K mg base):=by show T.v0r.F.okA Pu λ_ _ _ _ _ _ _ _ hr h=>?_;obtain⟨R,kv,bv,mv,l,n,st,tb,en,b,j,m1,m2,m3,rfl,⟨hk,hb,lb,hm,hn,hz⟩,k⟩:=h;show⟨_,(a8 (x4<|z7 (B6 T) hr.m T.o0f<|o9<|z7 (z9 T) hr.m T.w0r<|o9<|O 2)<|a9<|c6<|o8<|HC (o5 c9 (O 2) a7) (z7 (M6 T) hr.m T.r0q<|O1 (O 0) (O 1)<|o5 c9 (O 2) a7) (o5 c9 (O 2) a7)<|o5 c9 (O 2) a7),?_⟩;show U Y ⟨R,zv _ l n st tb en m1 m2 m3 ⟨Y,hm,U Y ⟨Z,?_⟩⟩⟩;obtain⟨p,sv,tv,ev,rfl,hp,h1,h2,h3⟩:=hm;show U Y<|ze ⟨Y,Y,j3.of hp,Y,vc Y Y Y<|ze ⟨Y,Y,j3.of hp,Y,R,zu _ _ _ n b st j m1 ⟨Y,⟨hk,hb,lb,h1,Z,hz⟩,λv H1 s1 r1=>?_⟩⟩⟩;show U Y<|ze ⟨Y,Y,j3.of<|s1 _ _ hp,Y,U Y<|ze ⟨Y,Y,j3.of<|s1 _ _ hp,Y,sL,λp6 n6=>?_⟩⟩;have t6:=c4 (o:=.tup [vT l,v,tv,ev]) n6;have s6:=s1.trans t6;exact k _ _ s6 ⟨p6,_,_,U Y ⟨c0,c5.Row.same t6.t r1,h2.mono s6.t λ_ _ _ q=>c5.Tab.same s6.t q,c5.Row.same s6.t h3⟩⟩
def Ab(S:SR)(n:Nat)(x y:w1a S):w1a S:=λi=>if i < n then x i else y (i - n)
def De{S:SR}{n i:Nat}{x y:w1a S}(h:i < n):Ab S n x y i=x i:=if_pos h
def X3{S:SR}{n i:Nat}{x y:w1a S}:Ab S n x y (n+i)=y i:=by unfold Ab;rw[if_neg Z,dc]
def Hd(S:SR)(n:Nat)(A C B:w1b S):w1b S:=λi=>if i < n then Ab S n (A i) (C i)else Ab S n (λ_=>S.zero) (B<|i - n)
def NN{S:SR}{n i:Nat}{A C B:w1b S}(h:i < n):Hd S n A C B i=Ab S n (A i) (C i):=if_pos h
def NO{S:SR}{n i:Nat}{A C B:w1b S}:Hd S n A C B (n+i)=Ab S n (λ_=>S.zero) (B i):=by unfold Hd;rw[if_neg Z,dc]
def Q3{R:c5 Pr w K mg base}{n l m:Nat}{x y:w1a R.S}{xs ys:List V}{H:Hp}(a:l8 (R.Wt x m) xs n H)(b:l8 (R.Wt y m) ys l H):l8 (R.Wt (Ab R.S n x y) m) (xs++ys) (n+l) H:=
 l8.app (a.mono λj _ hj q=>by show R.is _ _ (Ab R.S n x y j)/\R.S.lv m 32 (Ab R.S n x y j);rw[De hj];exact q) (b.mono λj _ _ q=>by show R.is _ _ (Ab R.S n x y<|n+j)/\R.S.lv m 32 (Ab R.S n x y<|n+j);rw[X3];exact q)
variable(w K mg base)in def Pk:Sp:=λvs H Q _=>∃(R:c5 Pr w K mg base),∃kv fv sv tv n l A B C m,vs=[kv,fv,sv,tv]/\(Bv R.C R.fs H kv/\R.Tab n n A m fv H/\R.Tab l l B m sv H/\Cs K (λj u H=>R.Row l (C j) m u H) n tv H/\n<=500/\l<=500)/\
 ∀v H',g9 H H'->R.Tab (n+l) (n+l) (Hd R.S n A C B) m v H'->Q v H'
def IF:j2 Pr w K mg base B7 43 t.x0s t.w0g Xq (Pk w K mg base):=by
 show T.v0y.F.okA Ej λ_ _ _ _ H _ Q _ hr h=>?_;obtain⟨R,kv,fv,sv,tv,n,l,A0,B,C,m,rfl,⟨hk,⟨fp,fs,rfl,hf,ef⟩,⟨sp,ss,rfl,hs,es⟩,⟨S2,ts,o2,v2,w2,et⟩,hn,hl⟩,k⟩:=h;have sl:1000 < sizeLine:=by decide
 have dE:∀H',g9 H H'->R1 K (.ref fp) H' n:=λH' s'=>.inr ⟨_,j3.of<|s' _ _ hf,ef.1.symm⟩;show⟨_,(a8 (V5 (i₀:=4) (xs:=[P9,"extra"]) Ej.nd Y (Or.inl Y) Y (oC Xx<|b9 AX) (CO Y T.z_zip<|B8 (O 1)<|O 3) (show PG _ _ (Qz K 2 _)from(An Y<|z8 (gL 6 l0z)<|z8 (gL 7 l0z) S6))<|j4 S7 (O 6)<|O 7)<|a8 (V5 (i₀:=5) (xs:=[P9]) Ej.nd Y (Or.inl Y) Y (oC Xx<|b9 AX) (E9<|O 2) (w5 (i:=6) (by show List.Nodup ([z0,Fd,FO,"step","upper","lower",P9]:w1i);decide +kernel) Y<|Or.inl Y)<|j4 S7 (j8 (Ap (w:=w) (base:=base) T) hr.m Y T.u0g.m T.u0g.F.kp T.u0g.b .nil m8<|B8 (O 0)<|i0 (show O2 _ (.builtin "len") (λxs H Q=>∃x n,xs=[x]/\R1 K x H n/\Q (V.int (n:Nat)) H)from l5) bR T.z_len PySem.boot_len<|o9<|O 1)<|O 6)<|a9<|c6<|o6 j9 bR T.z_tuple boot_tuple<|o9<|j4 RX (O 4)<|O 5),?_⟩;show vb Y Y ⟨.tup fp,S2,zc ⟨fs,ts,Y,Y,o2,j3.of hf,v2,u6 (n:=n) (λj ys H2=>g9 H H2/\l8 (λi u H=>R.Row (n+l) (Ab R.S n (A0 i)<|C i) m u H) ys j H2) Z ⟨g9.refl _,l8.nil⟩ (λj ys H2 q=>q.2.1) ?_ ?_ ?_⟩⟩
 . rintro j ys H2 hj ⟨q,e⟩;obtain⟨u,eu,pu⟩:=ef.2 j hj;obtain⟨v,ev,O⟩:=et.2 j hj;show⟨⟨fs,ts,u,v,j3.of<|q _ _ hf,(w2 _ q).1,eu,ev⟩,λy H' hy=>?_⟩;obtain⟨pp,x',y',rfl,np,rfl,f1,f2⟩:=hy;have e1:=f1 _<|j3.of<|q _ _ hf;rw[eu]at e1;cases e1;have e2:=f2 _ (w2 _ q).1;rw[ev]at e2;cases e2;have s3:=c4 (o:=.tup [u,v]) np;have q3:=q.trans s3;obtain⟨a,as,rfl,ha,ea⟩:=c5.Row.same q3.t pu;obtain⟨b,bs,rfl,hb,eb⟩:=c5.Row.same q3.t O;show⟨pp,U Y ⟨j3.of c0,Y,zc ⟨Y,zc ⟨Y,Y,⟨[some _,some _],Y,Y⟩,vb Y Y<|zc ⟨as,bs,Y,Y,ha,hb,(by rw[ea.1,eb.1];omega),λp4 H4 s4 h4=>?_⟩⟩⟩⟩⟩;exact⟨q3.trans s4,(e.mono λ_ _ _ z=>c5.Row.same (s3.trans s4).t z).snoc ⟨p4,U Y ⟨h4,(Q3 ea eb).mono λ_ _ _ z=>c5.Wt.same s4.t z⟩⟩⟩
 . rintro ys H2 ⟨q,e⟩;exact⟨fs,ts,j3.of<|q _ _ hf,(w2 _ q).1,.inl ef.1.symm⟩
 . rintro us H2 up ⟨q,eU⟩ nu;have s3:=c4 (o:=.lst us) nu;have q3:=q.trans s3;have hu:upd H2 up (.lst us) up=some (.lst us):=c0;have eU:=eU.mono λ_ _ _ z=>c5.Row.same s3.t z;revert hu q3 eU;clear s3 nu q;generalize upd H2 up (.lst us)=H3;intro q3 hu eU;show U Y ⟨sp,Y,⟨_,j3.of<|q3 _ _ hs⟩,u6 (n:=l) (λj ys H2=>g9 H3 H2/\l8 (λi u H=>R.Row (n+l) (Ab R.S n (λ_=>R.S.zero)<|B i) m u H) ys j H2) Z ⟨g9.refl _,l8.nil⟩ (λj ys H2 q=>q.2.1) ?_ ?_ ?_⟩
   . rintro j ys H4 hj ⟨q,e⟩;have q4:=q3.trans q;obtain⟨u,eu,pu⟩:=es.2 j hj;show GL (j3.of<|q4 _ _ hs) eu ?_;show⟨⟨[some _],Y,Y⟩,vb Y Y ⟨_,n,Y,dE _ q4,R,zk _ _ n m ⟨Y,⟨hk.same q4,Z,Y⟩,λv H5 s5 r5=>?_⟩⟩⟩;have q5:=q4.trans s5;obtain⟨a,as,rfl,ha,ea⟩:=r5;obtain⟨b,bs,rfl,hb,eb⟩:=c5.Row.same q5.t pu;show U Y (zc ⟨as,bs,Y,Y,ha,hb,(by rw[ea.1,eb.1];omega),λp6 H6 s6 h6=>?_⟩);exact⟨q.trans<|s5.trans s6,(e.mono λ_ _ _ z=>c5.Row.same (s5.trans s6).t z).snoc ⟨p6,U Y ⟨h6,(Q3 ea eb).mono λ_ _ _ z=>c5.Wt.same s6.t z⟩⟩⟩
   . rintro ys H4 ⟨q,e⟩;exact⟨_,j3.of<|q3.trans q _ _ hs,by rw[es.1];exact ae _⟩
   . rintro ls H4 lp ⟨q,eL⟩ nl;have s5:=c4 (o:=.lst ls) nl;have q5:=q.trans s5;show vb Y Y (zc ⟨us,ls,Y,Y,q5 _ _ hu,c0,(by rw[eU.1,eL.1];omega),λcp nc=>?_⟩);have s6:=c4 (o:=.lst<|us++ls) nc;show⟨cp,us++ls,Y,.inl ⟨y7.of c0,λl2 n2=>?_⟩⟩;have s7:=c4 (o:=.tup<|us++ls) n2;have Vf:=s6.trans s7;have Vg:=s5.trans Vf;have Vi:=q.trans Vg;show k _ _ (q3.trans Vi) ⟨l2,us++ls,Y,c0,l8.app (eU.mono λi _ hi z=>?_)<|eL.mono λi _ hi z=>?_⟩
     . show R.Row (n+l) (Hd R.S n A0 C B i) m _ _;rw[NN hi];exact c5.Row.same Vi.t z
     . show R.Row (n+l) (Hd R.S n A0 C B<|n+i) m _ _;rw[NO];exact c5.Row.same Vg.t z
variable(w K mg base)in def Cb:Sp:=λvs H Q _=>∃(R:c5 Pr w K mg base),∃kv ov hv l n k dB dz N9 dy dA dQ m1 m2 m3,vs=[kv,ov,hv]/\(Bv R.C R.fs H kv/\y6 R l n dB dz N9 m1 m2 m3 ov H/\y6 R l k dy dA dQ m1 m2 m3 hv H/\FM l/\n+k<=20)/\
 ∀v H',g9 H H'->y6 R l (n+k) (Ab R.S n dB dy) (λc=>Hd R.S n (dz c) (λ_ _=>R.S.zero)<|dA c) (Ab R.S n N9 dQ) m1 m2 m3 v H'->Q v H'
def HF:j2 Pr w K mg base B7 44 t.t0c t.q0s Fq (Cb w K mg base):=by
 show T.q0g.F.okA W5 λ_ _ _ _ H _ _ _ hr h=>?_;obtain⟨R,kv,ov,hv,l,n,j,dB,dz,N9,dy,dA,dQ,m1,m2,m3,rfl,⟨hk,ho,hh,L,hz⟩,k⟩:=h;have sl:1000 < sizeLine:=by decide
 have l3:=L.h3;show⟨_,(a8 (CN (i:=3) W5.nd Y (Or.inr Y)<|B9 (xs:=["room"]) Y (oC Xv<|b9 L4) (G8 Y T.z_range<|o9<|z7 (z9 T) hr.m T.w0r<|o9<|O 1) (w5 (i:=5) (by show List.Nodup ([z0,Dp,BL,"no_step",AA,"room"]:w1i);decide +kernel) Y<|Or.inl Y)<|j8 (Ap (w:=w) (base:=base) T) hr.m Y T.u0g.m T.u0g.F.kp T.u0g.b .nil m8<|B8 (O 0)<|j8 (z9 (w:=w) (base:=base) T) hr.m Y T.w0r.m T.w0r.F.kp T.w0r.b .nil m8<|o9<|O 2)<|a8 (V5 (i₀:=4) (xs:=[Fd,FO]) W5.nd Y (Or.inl Y) Y (oC Xv<|b9 L4) (CO Y T.z_zip<|B8 (o5 c9 (O 1) a7)<|o5 c9 (O 2) a7) (show PG _ _ (Qz K 2 _)from(An Y<|z8 (gL 5 l0w)<|z8 (gL 6 l0w) S6))<|j8 (IF (w:=w) (base:=base) T) hr.m Y T.v0y.m T.v0y.F.kp T.v0y.b .nil m8<|HC (O 0) (O 5) (O 6)<|O 3)<|a9<|c6<|o8<|HC (o5 c9 (O 1) a7) (j4 S7 (o5 c9 (O 1) a7)<|o5 c9 (O 2) a7) (o6 j9 bR T.z_tuple boot_tuple<|o9<|O 4)<|j4 S7 (o5 c9 (O 1) a7)<|o5 c9 (O 2) a7),?_⟩;show U Y ⟨R,zv _ l n dB dz N9 m1 m2 m3 ⟨Y,ho,U Y ⟨Z,Z,u6 (n:=n) (λi ys H2=>g9 H H2/\l8 (λ_ u H=>R.Row j (λ_=>R.S.zero) m2 u H) ys i H2) Z ⟨g9.refl _,l8.nil⟩ (λj ys H2 q=>q.2.1) ?_ ?_ ?_⟩⟩⟩
 . rintro i ys H2 hi ⟨q,e⟩;show UK (by omega) ?_;show⟨⟨[some _],Y,Y⟩,vb Y Y ⟨R,zv _ l j dy dA dQ m1 m2 m3 ⟨Y,hh.same q.t,R,zk _ _ j m2 ⟨Y,⟨hk.same q,Z,Y⟩,λv H3 s3 r3=>?_⟩⟩⟩⟩;exact⟨q.trans s3,(e.mono λ_ _ _ z=>c5.Row.same s3.t z).snoc r3⟩
 . rintro ys H2 ⟨q,e⟩;show(n:Int).toNat<=n;omega
 . rintro ns H2 np ⟨q,eN⟩ nn;have s3:=c4 (o:=.lst ns) nn;have q3:=q.trans s3;have hN:upd H2 np (.lst ns) np=some (.lst ns):=c0;have eN:=eN.mono λ_ _ _ z=>c5.Row.same s3.t z;revert q3 hN eN;clear s3 nn q;generalize upd H2 np (.lst ns)=H3;intro q3 hN eN;show W3 3 (.ref np) [some kv,some ov,some hv,none,none] H3 _;obtain⟨p1,mJ,mG,oG,rfl,eF,a1,⟨t1,gE,rfl,gb,hX⟩,c1⟩:=ho.same q3.t;obtain⟨p2,fZ,mF,oF,rfl,dU,a2,⟨t2,gD,rfl,fV,jm⟩,c2⟩:=hh.same q3.t;show U Y (ze ⟨Y,Y,j3.of eF,Y,U Y<|ze ⟨Y,Y,j3.of dU,Y,.tup t1,.tup t2,zc ⟨gE,gD,Y,Y,Y,j3.of gb,j3.of fV,u6 (n:=l.length) (λi ys H2=>g9 H3 H2/\l8 (λc u H=>R.Tab (n+j) (n+j) (Hd R.S n (dz c) (λ_ _=>R.S.zero)<|dA c) m2 u H) ys i H2) Z ⟨g9.refl _,l8.nil⟩ (λj ys H2 q=>q.2.1) ?_ ?_ ?_⟩⟩⟩)
   . rintro i ys H4 hi ⟨q,e⟩;obtain⟨u,eu,pu⟩:=hX.2 i hi;obtain⟨v,ev,O⟩:=jm.2 i hi;show⟨⟨gE,gD,u,v,j3.of<|q _ _ gb,j3.of<|q _ _ fV,eu,ev⟩,λy H' hy=>?_⟩;obtain⟨pp,x',y',rfl,mV,rfl,f1,f2⟩:=hy;have e1:=f1 _<|j3.of<|q _ _ gb;rw[eu]at e1;cases e1;have e2:=f2 _<|j3.of<|q _ _ fV;rw[ev]at e2;cases e2;have s5:=c4 (o:=.tup [u,v]) mV;have q5:=q.trans s5;show⟨pp,U Y ⟨j3.of c0,Y,zc ⟨Y,zc ⟨Y,Y,⟨[some _,some _],Y,Y⟩,vc Y Y Y<|U Y ⟨R,zw _ _ _ _ n j (dz i) (dA i) (λ_ _=>R.S.zero) m2 ⟨Y,⟨(hk.same q3).same q5,c5.Tab.same q5.t pu,c5.Tab.same q5.t O,Cs.list (q5 _ _ hN)<|eN.mono λ_ _ _ z=>c5.Row.same q5.t z,Z,Z⟩,λw6 H6 s6 r6=>?_⟩⟩⟩⟩⟩⟩;exact⟨q5.trans s6,(e.mono λ_ _ _ z=>c5.Tab.same (s5.trans s6).t z).snoc r6⟩
   . rintro ys H4 ⟨q,e⟩;exact⟨gE,gD,j3.of<|q _ _ gb,j3.of<|q _ _ fV,.inl hX.1.symm⟩
   . rintro us H4 up ⟨q,eU⟩ nu;have s5:=c4 (o:=.lst us) nu;have q5:=q.trans s5;have hU:upd H4 up (.lst us) up=some (.lst us):=c0;have eU:=eU.mono λ_ _ _ z=>c5.Tab.same s5.t z;revert q5 hU eU;clear s5 nu q;generalize upd H4 up (.lst us)=H5;intro q5 hU eU;show W3 4 (.ref up) [some kv,sr p1,sr p2,sr np,none] H5 _;obtain⟨b1,oU,rfl,kj,kI⟩:=c5.Row.same q5.t a1;obtain⟨b2,oS,rfl,ki,kH⟩:=c5.Row.same q5.t a2;show U Y (ze ⟨Y,Y,j3.of<|q5 _ _ eF,Y,U Y<|ze ⟨Y,Y,j3.of<|q5 _ _ eF,Y,U Y<|ze ⟨Y,Y,j3.of<|q5 _ _ dU,Y,zc ⟨oU,oS,Y,Y,kj,ki,(by rw[kI.1,kH.1];omega),λp6 H6 s6 h6=>?_⟩⟩⟩⟩);show U Y ⟨up,us,Y,.inl ⟨y7.of<|s6 _ _ hU,λp7 n7=>?_⟩⟩;have s7:=c4 (o:=.tup us) n7;have Vf:=s6.trans s7;have q7:=q5.trans Vf;obtain⟨d1,oP,rfl,kc,hZ⟩:=c5.Row.same q7.t c1;obtain⟨d2,oO,rfl,gA,kG⟩:=c5.Row.same q7.t c2;show U Y (ze ⟨Y,Y,j3.of<|q7 _ _ eF,Y,U Y<|ze ⟨Y,Y,j3.of<|q7 _ _ dU,Y,zc ⟨oP,oO,Y,Y,kc,gA,(by rw[hZ.1,kG.1];omega),λp8 H8 s8 h8=>?_⟩⟩⟩);show⟨sL,λp9 n9=>?_⟩;have s9:=c4 (o:=.tup [vT l,V.ref p6,V.ref p7,V.ref p8]) n9;have Ml:=s8.trans s9;have HA:=s7.trans Ml;have iO:upd H6 p7 (.tup us) p7=some (.tup us):=c0;exact k _ _ (q3.trans<|q7.trans Ml) ⟨p9,_,_,U Y ⟨c0,
      ⟨p6,U Y ⟨HA _ _ h6,(Q3 kI kH).mono λ_ _ _ z=>c5.Wt.same (s6.trans HA).t z⟩⟩,
      ⟨p7,us,Y,Ml _ _ iO,eU.mono λ_ _ _ z=>c5.Tab.same (Vf.trans Ml).t z⟩,
      ⟨p8,U Y ⟨s9 _ _ h8,(Q3 hZ kG).mono λ_ _ _ z=>c5.Wt.same Ml.t z⟩⟩⟩⟩
variable(w K mg base)in def KR:Sp:=Cb w K mg base
def Se:j2 Pr w K mg base B7 45 t.x0y t.w0u Fq (KR w K mg base):=by show T.x0g.F.okA Ld λ_ _ _ _ _ _ _ _ hr h=>?_;obtain⟨R,kv,ov,hv,l,n,j,dB,dz,N9,dy,dA,dQ,m1,m2,m3,rfl,⟨hk,ho,hh,L,hz⟩,k⟩:=h;obtain⟨p1,mJ,mG,oG,rfl,eF,_⟩:=id ho;obtain⟨p2,fZ,mF,oF,rfl,dU,_⟩:=id hh;show⟨_,(a8 (x4<|z7 (y8 T) hr.m T.n0o<|B8 (O 1)<|O 2)<|a8 (x4<|z7 (B6 T) hr.m T.o0f<|o9<|j4 z6 (z7 (z9 T) hr.m T.w0r<|o9<|O 1)<|z7 (z9 T) hr.m T.w0r<|o9<|O 2)<|a9<|c6<|z7 (HF T) hr.m T.q0g<|O1 (O 0) (O 1)<|O 2),?_⟩;show vb Y Y ⟨l,p1,p2,zg ⟨Y,⟨eF,dU⟩,?_⟩⟩;show U Y ⟨R,zv _ l n dB dz N9 m1 m2 m3 ⟨Y,ho,U Y ⟨R,zv _ l j dy dA dQ m1 m2 m3 ⟨Y,hh,zc ⟨Y,Y,U Y ⟨Z,?_⟩⟩⟩⟩⟩⟩;exact vc Y Y Y ⟨R,zd ⟨l,n,j,dB,dz,N9,dy,dA,dQ,m1,m2,m3,Y,⟨hk,ho,hh,L,hz⟩,k⟩⟩
def z5(S:SR)(p:Nat):w1a S:=λi=>if i=p then S.one else S.zero
def QU{S:SR}{p i:Nat}:S.lv 1 32 (z5 S p i):=by
 unfold z5;split
 . exact S.lv_mono _ _ _ _ bD S.lv_one
 . exact S.lv_mono _ _ _ _ bD (S.lv_zero _)
variable(w K mg base)in def TM:Sp:=λvs H Q _=>∃(R:c5 Pr w K mg base),∃kv,∃(z zp:Int),∃(n p:Nat),vs=[kv,.int z,.int zp]/\(Bv R.C R.fs H kv/\n<=1000/\z=n/\zp=p)/\
 ∀v H',g9 H H'->R.Row n (z5 R.S p) 1 v H'->Q v H'
def FK:j2 Pr w K mg base B7 41 t.y0c t.x0j PZ (TM w K mg base):=by
 show T.x0r.F.okA Ua λ_ _ _ _ H _ _ _ hr h=>?_;obtain⟨R,kv,z,zp,n,p,rfl,⟨⟨kp,dx,rfl,hk⟩,hn,rfl,rfl⟩,k⟩:=h;show⟨_,(a9<|c6<|o6 j9 bR T.z_tuple boot_tuple<|o9<|B9 (xs:=[BL]) Y (oC PZ<|b9 Jv) (G8 Y T.z_range<|o9<|O 1) (w5 (i:=3) (by show List.Nodup ([z0,Dq,IZ,BL]:w1i);decide +kernel) Y<|Or.inl Y)<|RU (d7 o4 (O 3) (O 2)<|d8 _) (Y6 (O 0) R.cl R.t_one R.G_one hr.m R.b_one .nil m8)<|Y6 (O 0) R.cl R.t_nought R.G_nought hr.m R.b_nought .nil m8),?_⟩;show vb Y Y ⟨Z,Z,u6 (n:=n) (λj ys H2=>g9 H H2/\l8 (R.Wt (z5 R.S p) 1) ys j H2) hn ⟨g9.refl _,l8.nil⟩ (λj ys H2 q=>q.2.1) ?_ ?_ ?_⟩
 . rintro j ys H2 hj ⟨q,e⟩;show UK (by omega) ?_;have lv:R.S.lv 1 32 (z5 R.S p j):=QU;show⟨⟨[some _],Y,Y⟩,vb Y Y ⟨Y,U Y ?_⟩⟩;show Fz (λe0=>?_) (λe0=>?_)
   . have e1:z5 R.S p j=R.S.one:=if_pos Z;show U Y<|zd ⟨Y,q _ _ hk,R.l_one,U Y ⟨zc ⟨Y,q _ _ hk⟩,λv H3 s3 f3=>?_⟩⟩;exact⟨q.trans s3,(e.mono λ_ _ _ z=>c5.Wt.same s3.t z).snoc ⟨by rw[e1];exact f3,lv⟩⟩
   . have e1:z5 R.S p j=R.S.zero:=if_neg Z;show U Y<|zd ⟨Y,q _ _ hk,R.l_nought,U Y ⟨zc ⟨Y,q _ _ hk⟩,λv H3 s3 f3=>?_⟩⟩;exact⟨q.trans s3,(e.mono λ_ _ _ z=>c5.Wt.same s3.t z).snoc ⟨by rw[e1];exact f3,lv⟩⟩
 . rintro ys H2 ⟨q,e⟩;show(n:Int).toNat<=n;omega
 . rintro ys H2 l ⟨q,e⟩ nl;have eX:=c4 (o:=.lst ys) nl;show⟨l,ys,Y,.inl ⟨y7.of c0,λl2 n2=>?_⟩⟩;have s2:=c4 (o:=.tup ys) n2;exact k _ _ (q.trans<|eX.trans s2) ⟨l2,ys,Y,c0,e.mono λ_ _ _ z=>c5.Wt.same (eX.trans s2).t z⟩
theorem Y0{S:SR}(f:w1a S)(n:Nat):∀k,sm S f (n+k)=S.add (sm S f n) (sm S (λi=>f<|n+i) k)
 | 0=>by show sm S f n=S.add _ S.zero;rw[S.add_zero]
 | k+1=>by
  show S.add (sm S f<|n+k) (f<|n+k)=S.add _ (S.add (sm S (λi=>f<|n+i) k)<|f<|n+k);rw[Y0 f n k,S.add_assoc]
theorem Kr{S:SR}{n k:Nat}{dB dy:w1a S}{dz C dA:w1c S}{wd:Nat->Nat}:∀i j,j < n->K4 S (n+k) (Ab S n dB dy) (λc=>Hd S n (dz c) (C c)<|dA c) wd i j=K4 S n dB dz wd i j
 | 0,j,h=>De h
 | i+1,j,h=>by
  show sm S (λa=>S.mul (K4 S (n+k) (Ab S n dB dy) (λc=>Hd S n (dz c) (C c)<|dA c) wd i a)<|Hd S n (dz<|wd i) (C<|wd i) (dA<|wd i) a j) (n+k)=sm S (λa=>S.mul (K4 S n dB dz wd i a)<|dz (wd i) a j) n;rw[Y0,d9 (g:=λa=>S.mul (K4 S n dB dz wd i a)<|dz (wd i) a j) (λa ha=>by rw[Kr i a ha,NN ha,De h]),d9 (n:=k) (g:=λ_=>S.zero) (λa _=>by rw[NO,De h,S.mul_zero]),Ac,S.add_zero]
def ON{S:SR}{n k:Nat}{dB dy:w1a S}{dz C dA:w1c S}{wd:Nat->Nat}(i j:Nat):K4 S (n+k) (Ab S n dB dy) (λc=>Hd S n (dz c) (C c)<|dA c) wd (i+1) (n+j) =
    S.add (sm S (λa=>S.mul (K4 S n dB dz wd i a)<|C (wd i) a j) n) (sm S (λa=>S.mul (K4 S (n+k) (Ab S n dB dy) (λc=>Hd S n (dz c) (C c)<|dA c) wd i<|n+a)<|dA (wd i) a j) k):=by
 show sm S (λa=>S.mul (K4 S (n+k) (Ab S n dB dy) (λc=>Hd S n (dz c) (C c)<|dA c) wd i a)<|Hd S n (dz<|wd i) (C<|wd i) (dA<|wd i) a<|n+j) (n+k)=_;rw[Y0];congr 1
 . exact d9 λa ha=>by rw[Kr i a ha,NN ha,X3]
 . exact d9 λa _=>by rw[NO,X3]
def OG{S:SR}{n k:Nat}{x:w1a S}{y1 y2:w1a S}:o3 S x (Ab S n y1 y2) (n+k)=S.add (o3 S x y1 n) (o3 S (λi=>x<|n+i) y2 k):=by
 unfold o3;rw[Y0];congr 1
 . exact d9 λa ha=>by rw[De ha]
 . exact d9 λa _=>by rw[X3]
def EK{S:SR}{n:Nat}{x x' y:w1a S}(h:∀i,i < n->x i=x' i):o3 S x y n=o3 S x' y n:=d9 λi hi=>by rw[h i hi]
theorem BJ{S:SR}{n:Nat}{st:w1a S}{tb:w1c S}{wd wd':Nat->Nat}:∀{k:Nat},(∀i,i < k->wd i=wd' i)->K4 S n st tb wd k=K4 S n st tb wd' k
 | 0,_=>rfl
 | k+1,h=>by
  show(λj=>sm S (λi=>S.mul (K4 S n st tb wd k i)<|tb (wd k) i j) n)=λj=>sm S (λi=>S.mul (K4 S n st tb wd' k i)<|tb (wd' k) i j) n;rw[BJ λi hi=>h i<|bQ hi,h k<|bb k]
def Kw{l ws:w1h}{i k:Nat}(h:k < i):X8 l (ws.take i) k=X8 l ws k:=by unfold X8;rw[bF,bF,List.getElem?_take_of_lt h]
def QR{l ws:w1h}{i k:Nat}:X8 l (ws.drop i) k=X8 l ws (i+k):=by unfold X8;rw[bF,bF,List.getElem?_drop]
def QQ{S:SR}{l ws:w1h}{n i:Nat}{st en:w1a S}{tb:w1c S}(h:i<=ws.length):Aa S l n st tb en (ws.take i)=o3 S (K4 S n st tb (X8 l ws) i) en n:=by unfold Aa;rw[aM,bN h,BJ λk hk=>Kw hk]
def Kv{S:SR}{l ws:w1h}{n i:Nat}{st en:w1a S}{tb:w1c S}:Aa S l n st tb en (ws.drop i)=o3 S (K4 S n st tb (λq=>X8 l ws<|i+q)<|ws.length - i) en n:=by unfold Aa;rw[aK,BJ (wd':=λq=>X8 l ws<|i+q) λk _=>QR]
variable(w K mg base)in def Rm:Sp:=λvs H Q _=>∃(R:c5 Pr w K mg base),∃kv col row h n x y m m',vs=[kv,col,row]/\(Bv R.C R.fs H kv/\R.Row h x m col H/\R.Row n y m' row H/\h<=1000/\n<=1000/\m+m'<=100000)/\
 ∀v H',g9 H H'->R.Tab h n (λi j=>R.S.mul (x i)<|y j) (m+m') v H'->Q v H'
def RZ:j2 Pr w K mg base B7 42 t.outer t.w0p Sm (Rm w K mg base):=by
 show T.w0x.F.okA Rz λ_ _ _ _ H _ _ _ hr h=>?_;obtain⟨R,kv,col,row,h,n,x,y,m,m',rfl,⟨hk,⟨p,us,rfl,hp,eR⟩,hy,hh,hn,hz⟩,k⟩:=h;show⟨_,(a9<|c6<|o6 j9 bR T.z_tuple boot_tuple<|o9<|B9 (xs:=["x"]) Y (oC Sm<|b9 FG) (E9<|O 1) (w5 (i:=3) (by show List.Nodup ([z0,Hm,P9,"x"]:w1i);decide +kernel) Y<|Or.inl Y)<|j8 (M6 (w:=w) (base:=base) T) hr.m Y T.r0q.m T.r0q.F.kp T.r0q.b .nil m8<|O1 (O 0) (O 3)<|O 2),?_⟩;show U Y ⟨p,Y,⟨_,j3.of hp⟩,u6 (n:=h) (λj ys H2=>g9 H H2/\l8 (λi u H=>R.Row n (λj=>R.S.mul (x i)<|y j) (m+m') u H) ys j H2) hh ⟨g9.refl _,l8.nil⟩ (λj ys H2 q=>q.2.1) ?_ ?_ ?_⟩
 . rintro j ys H2 hj ⟨q,e⟩;obtain⟨u,eu,pu⟩:=eR.2 j hj;show⟨zc ⟨j3.of<|q _ _ hp,eu⟩,λz H' fj=>?_⟩;obtain⟨rfl,fj⟩:=fj;have:=fj _<|j3.of<|q _ _ hp;rw[eu]at this;cases this;show⟨⟨[some _],Y,Y⟩,vc Y Y Y ⟨R,zu _ _ _ n (x j) y m m' ⟨Y,⟨hk.same q,R.same q.t pu.1,pu.2,c5.Row.same q.t hy,hn,hz⟩,λv H3 s3 r3=>?_⟩⟩⟩;exact⟨q.trans s3,(e.mono λ_ _ _ z=>c5.Row.same s3.t z).snoc r3⟩
 . rintro ys H2 ⟨q,e⟩;exact⟨_,j3.of<|q _ _ hp,by rw[eR.1];exact ae _⟩
 . rintro ys H2 l ⟨q,e⟩ nl;have eX:=c4 (o:=.lst ys) nl;show⟨l,ys,Y,.inl ⟨y7.of c0,λl2 n2=>?_⟩⟩;have s2:=c4 (o:=.tup ys) n2;exact k _ _ (q.trans<|eX.trans s2) ⟨l2,ys,Y,c0,e.mono λ_ _ _ z=>c5.Row.same (eX.trans s2).t z⟩
variable(w K mg base)in def Ir:Sp:=λvs H Q _=>∃(R:c5 Pr w K mg base),∃kv ov hv l n k dB dz N9 dy dA dQ m,vs=[kv,ov,hv]/\(Bv R.C R.fs H kv/\y6 R l n dB dz N9 m m m ov H/\y6 R l k dy dA dQ m m m hv H/\FM l/\n+k<=20/\m<=30000)/\
 ∀v H',g9 H H'->y6 R l (n+k) (Ab R.S n dB λj=>R.S.mul (o3 R.S dB N9 n)<|dy j) (λc=>Hd R.S n (dz c) (λi j=>R.S.mul (o3 R.S (dz c i) N9 n)<|dy j)<|dA c) (Ab R.S n (λ_=>R.S.zero) dQ) (2 * m+m) (m+m+m) m v H'->Q v H'
def PQ:j2 Pr w K mg base B7 45 t.x0q t.v0i Fq (Ir w K mg base):=by
 show T.w0c.F.okA O4 λ_ _ _ _ H _ _ _ hr h=>?_;obtain⟨R,kv,ov,hv,l,n,j,dB,dz,N9,dy,dA,dQ,m,rfl,⟨hk,ho,hh,L,hz,hm⟩,k⟩:=h;have sl:1000 < sizeLine:=by decide
 have l3:=L.h3;obtain⟨p1,mJ,mG,oG,rfl,eF,a1,⟨t1,gE,rfl,gb,hX⟩,c1⟩:=id ho;obtain⟨p2,fZ,mF,oF,rfl,dU,a2,⟨t2,gD,rfl,fV,jm⟩,c2⟩:=id hh;have M0:MOk n l []:=⟨⟨L,by simp,by simp⟩,Z⟩;have em:V.str (Str.ofString "")=vT []:=by rw[Cp];rfl
 show⟨_,(a8 (x4<|z7 (y8 T) hr.m T.n0o<|B8 (O 1)<|O 2)<|a8 (x4<|z7 (B6 T) hr.m T.o0f<|o9<|j4 z6 (z7 (z9 T) hr.m T.w0r<|o9<|O 1)<|z7 (z9 T) hr.m T.w0r<|o9<|O 2)<|a8 (sT 3 O4.nd<|j4 S7 (o5 c9 (O 1) a7)<|z7 (M6 T) hr.m T.r0q<|O1 (O 0) (z7 (IC T) hr.m T.w0f<|O1 (O 0) (O 1) j1)<|o5 c9 (O 2) a7)<|a8 (sT 4 O4.nd<|K8 P0)<|a8 (E8 aB Y (CO Y T.z_zip<|B8 (o5 c9 (O 1) a7)<|o5 c9 (O 2) a7) (An Y<|z8 (gN 5 O4.nd)<|z8 (gN 6 O4.nd) S6)<|a8 (sT 7 O4.nd<|z7 (RZ T) hr.m T.w0x<|O1 (O 0) (z7 (DS T) hr.m T.r0k<|O1 (O 0) (O 5)<|o5 c9 (O 1) a7)<|o5 c9 (O 2) a7)<|a9<|x4<|DL cb PySem.F.slot_list_append PySem.F.type_list_append IH (O 4)<|o9<|z7 (IF T) hr.m T.v0y<|HC (O 0) (O 5) (O 6)<|O 7)<|a9<|c6<|o8<|HC (o5 c9 (O 1) a7) (O 3) (o6 j9 bR T.z_tuple boot_tuple<|o9<|O 4)<|j4 S7 (z7 (Ap T) hr.m T.u0g<|B8 (O 0)<|z7 (z9 T) hr.m T.w0r<|o9<|O 1)<|o5 c9 (O 2) a7),?_⟩;show vb Y Y ⟨l,p1,p2,zg ⟨Y,⟨eF,dU⟩,?_⟩⟩;show U Y ⟨R,zv _ l n dB dz N9 m m m ⟨Y,ho,U Y ⟨R,zv _ l j dy dA dQ m m m ⟨Y,hh,zc ⟨Y,Y,U Y ⟨Z,?_⟩⟩⟩⟩⟩⟩;show U Y<|ze ⟨Y,Y,j3.of eF,Y,vc Y Y Y ?_⟩;rw[em];show⟨R,zz _ _ l n dB dz N9 [] m m m ⟨Y,⟨hk,ho,M0,by rw[bW,bB];omega⟩,λwv H1 s1 f1 z1=>?_⟩⟩;rw[bW,bB,Nat.add_zero,show m+m=2 * m by omega]at z1;show U Y<|ze ⟨Y,Y,j3.of<|s1 _ _ dU,Y,R,zu _ _ _ j _ dy (2 * m) m ⟨Y,⟨hk.same s1,f1,z1,c5.Row.same s1.t a2,Z,Z⟩,λrv H2 s2 r2=>?_⟩⟩;have iC:=s1.trans s2;obtain⟨b1,oU,rfl,kj,kI⟩:=Row.up (m':=2 * m+m) Z<|c5.Row.same iC.t a1;obtain⟨b2,oS,rfl,ki,kH⟩:=r2;show zc ⟨oU,oS,Y,Y,kj,ki,(by rw[kI.1,kH.1];omega),λp3 H3 s3 h3=>?_⟩;have ij:=iC.trans s3;have fK:R.Row (n+j) (Ab R.S n dB λi=>R.S.mul (o3 R.S dB N9 n)<|dy i) (2 * m+m) (.ref p3) H3:=⟨p3,U Y ⟨h3,(Q3 kI kH).mono λ_ _ _ z=>c5.Wt.same s3.t z⟩⟩;show⟨sL,λfl nf=>?_⟩;have s4:=c4 (o:=.lst []) nf;have ig:=ij.trans s4;show U Y (ze ⟨Y,Y,j3.of<|ig _ _ eF,Y,U Y<|ze ⟨Y,Y,j3.of<|ig _ _ dU,Y,.tup t1,.tup t2,zc ⟨gE,gD,Y,Y,Y,j3.of<|ig _ _ gb,j3.of<|ig _ _ fV,Kc (K:=K) (xs:=gE) (ys:=gD) (λi σ H2=>∃v5 v6 v7 ys,σ=[some kv,sr p1,sr p2,sr p3,sr fl,v5,v6,v7]/\g9 H3 H2/\H2 fl=some (.lst ys)/\l8 (λc u H=>R.Tab (n+j) (n+j) (Hd R.S n (dz c) (λi j=>R.S.mul (o3 R.S (dz c i) N9 n)<|dy j)<|dA c) (m+m+m) u H) ys i H2) (by rw[hX.1,jm.1]) ⟨_,_,_,[],Y,s4,c0,l8.nil⟩ (λi σ H2 _ ⟨_,_,_,_,_,q,_⟩=>⟨j3.of<|(ij.trans q) _ _ gb,j3.of<|(ij.trans q) _ _ fV⟩) ?_ ?_⟩⟩⟩)
 . rintro i u v pp σ H5 hu hv np ⟨v5,v6,v7,ys,rfl,q,hf,e⟩;obtain⟨hi,pu⟩:=hX.at hu;obtain⟨_,O⟩:=jm.at hv;have s6:=c4 (o:=.tup [u,v]) np;have q6:=(ij.trans q).trans s6;show⟨pp,U Y ⟨j3.of c0,Y,zc ⟨Y,zc ⟨Y,Y,?_⟩⟩⟩⟩;show vc Y Y Y<|U Y<|ze ⟨Y,Y,j3.of<|q6 _ _ eF,Y,R,zv _ _ _ n n (dz i) N9 m m ⟨Y,⟨hk.same q6,c5.Tab.same q6.t pu,(c5.Row.same q6.t c1).seq,Z,Z,Z⟩,λcv H7 s7 r7=>?_⟩⟩;have q7:=q6.trans s7;show U Y<|ze ⟨Y,Y,j3.of<|q7 _ _ dU,Y,R,zv _ _ _ n j _ dy (m+m) m ⟨Y,⟨hk.same q7,r7,c5.Row.same q7.t a2,Z,Z,Z⟩,λov H8 s8 r8=>?_⟩⟩;have q8:=q7.trans s8;have RE:=s6.trans<|s7.trans s8;show U Y ⟨.inl ⟨Y,_,y7.of<|RE _ _ hf⟩,vc Y Y Y<|U Y ⟨R,zw _ _ _ _ n j (dz i) (dA i) _ (m+m+m) ⟨Y,⟨hk.same q8,Tab.up Z<|c5.Tab.same q8.t pu,Tab.up Z<|c5.Tab.same q8.t O,r8.seq,Z,Z⟩,λbv H9 s9 r9=>?_⟩⟩⟩;have Ud:=RE.trans s9;have pX:=Ud _ _ hf;show zd ⟨Y,Y,pX,(by rw[e.1];omega),?_⟩;have st:=En (o:=.lst<|ys++[bv]) pX;exact ze ⟨Y,Ju (q.trans Ud) nf,c0,((e.mono λ_ _ _ w'=>c5.Tab.same Ud.t w').snoc r9).mono λ_ _ _ w'=>c5.Tab.same st w'⟩
 . rintro σ H5 ⟨v5,v6,v7,ys,rfl,q,hf,e⟩;rw[hX.1]at e;have q5:=ij.trans q;show U Y<|ze ⟨Y,Y,j3.of<|q5 _ _ eF,Y,vb Y Y ⟨fl,ys,Y,.inl ⟨y7.of hf,λp6 n6=>?_⟩⟩⟩;have s6:=c4 (o:=.tup ys) n6;have q6:=q5.trans s6;show vb Y Y ⟨R,zv _ l n dB dz N9 m m m ⟨Y,ho.same q6.t,R,zk _ _ n m ⟨Y,⟨hk.same q6,Z,Y⟩,λnv H7 s7 r7=>?_⟩⟩⟩;have q7:=q6.trans s7;obtain⟨d1,oP,rfl,kc,hZ⟩:=r7;obtain⟨d2,oO,rfl,gA,kG⟩:=c5.Row.same q7.t c2;show U Y (ze ⟨Y,Y,j3.of<|q7 _ _ dU,Y,zc ⟨oP,oO,Y,Y,kc,gA,(by rw[hZ.1,kG.1];omega),λp8 H8 s8 h8=>?_⟩⟩);show⟨sL,λp9 n9=>?_⟩;have s9:=c4 (o:=.tup [vT l,V.ref p3,V.ref p6,V.ref p8]) n9;have Ml:=s8.trans s9;have HA:=s7.trans Ml;have wB:upd H5 p6 (.tup ys) p6=some (.tup ys):=c0;exact k _ _ (q7.trans Ml) ⟨p9,_,_,U Y ⟨c0,c5.Row.same (q.trans<|s6.trans HA).t fK,
    ⟨p6,ys,Y,HA _ _ wB,e.mono λ_ _ _ z=>c5.Tab.same (s6.trans HA).t z⟩,
    ⟨p8,U Y ⟨s9 _ _ h8,(Q3 hZ kG).mono λ_ _ _ z=>c5.Wt.same Ml.t z⟩⟩⟩⟩
def Ig(S:SR)(k:Nat)(x y:w1a S):w1a S:=λa=>S.mul (x<|a / k) (y<|a % k)
def GV(S:SR)(k:Nat)(A B:w1b S):w1b S:=λa=>Ig S k (A<|a / k) (B<|a % k)
def NC{i j k:Nat}(h:j < k):(i * k+j) / k=i:=by rw[bZ,Nat.add_mul_div_right _ _ Z,Nat.div_eq_of_lt h,cI]
def Ni{i j k:Nat}(h:j < k):(i * k+j) % k=j:=by rw[bZ,Nat.add_mul_mod_self_right,Nat.mod_eq_of_lt h]
def XZ{S:SR}{i j k:Nat}{x y:w1a S}(h:j < k):Ig S k x y (i * k+j)=S.mul (x i) (y j):=by unfold Ig;rw[NC h,Ni h]
def UQ{S:SR}{i j k:Nat}{A B:w1b S}(h:j < k):GV S k A B (i * k+j)=Ig S k (A i) (B j):=by unfold GV;rw[NC h,Ni h]
def Ss{i n k:Nat}(h:i < n):i * k+k<=n * k:=by rw[<- aV];exact bf k h
variable(w K mg base)in def Ji:Sp:=λvs H Q _=>∃(R:c5 Pr w K mg base),∃kv ov hv n k x y m m',vs=[kv,ov,hv]/\(Bv R.C R.fs H kv/\R.Row n x m ov H/\R.Row k y m' hv H/\n<=500/\k<=500/\n * k<=500/\m+m'<=100000)/\
 ∀v H',g9 H H'->R.Row (n * k) (Ig R.S k x y) (m+m') v H'->Q v H'
def Aq:j2 Pr w K mg base B7 42 t.u0d t.s0g Fq (Ji w K mg base):=by
 show T.s0i.F.okA R7 λ_ _ _ _ H _ _ _ hr h=>?_;obtain⟨R,kv,ov,hv,n,j,x,y,m,m',rfl,⟨hk,⟨p,us,rfl,hp,eR⟩,hy,hn,hj,hz,hm⟩,k⟩:=h;have sl:1000 < sizeLine:=by decide
 show⟨_,(a8 (sT 3 R7.nd<|o8 P0)<|a8 (E8 aB Y (E9<|O 1) (gN 4 R7.nd)<|a9<|sT 3 R7.nd<|j4 S7 (O 3)<|z7 (M6 T) hr.m T.r0q<|O1 (O 0) (O 4)<|O 2)<|a9<|c6<|O 3),?_⟩;show⟨sL,λp0 n0=>?_⟩;have s0:=c4 (o:=.tup []) n0;show U Y ⟨p,Y,⟨_,j3.of<|s0 _ _ hp⟩,GQ (n:=n) (λi σ H2=>∃tv v4,σ=[some kv,sr p,some hv,some tv,v4]/\g9 H H2/\R.Row (i * j) (Ig R.S j x y) (m+m') tv H2) ⟨_,U Y ⟨s0,⟨p0,[],Y,c0,by rw[bB];exact l8.nil⟩⟩⟩ ?_ ?_⟩
 . rintro i σ H2 hi ⟨tv,v4,rfl,q,⟨tp,as,rfl,ha,ea⟩⟩;obtain⟨u,eu,pu⟩:=eR.2 i hi;show⟨zc ⟨j3.of<|q _ _ hp,eu⟩,λz H' fj=>?_⟩;obtain⟨rfl,fj⟩:=fj;have:=fj _<|j3.of<|q _ _ hp;rw[eu]at this;cases this;have ml:=Ss (k:=j) hi;show vc Y Y Y<|U Y ⟨R,zu _ _ _ j (x i) y m m' ⟨Y,⟨hk.same q,R.same q.t pu.1,pu.2,c5.Row.same q.t hy,Z,hm⟩,λv H3 s3 r3=>?_⟩⟩;obtain⟨b,bs,rfl,hb,eb⟩:=r3;show zc ⟨as,bs,Y,Y,s3 _ _ ha,hb,(by rw[ea.1,eb.1];omega),λp4 H4 s4 h4=>?_⟩;show zc ⟨Y,q.trans<|s3.trans s4,⟨p4,U Y ⟨h4,?_⟩⟩⟩;rw[aV];show l8.app (ea.mono λ_ _ _ z=>c5.Wt.same (s3.trans s4).t z)<|eb.mono λb _ fR z=>?_;show R.is _ _ (Ig R.S j x y<|i * j+b)/\R.S.lv (m+m') 32 (Ig R.S j x y<|i * j+b);rw[XZ fR];exact c5.Wt.same s4.t z
 . rintro σ H2 ⟨tv,v4,rfl,q,r⟩;exact⟨⟨_,j3.of<|q _ _ hp,by rw[eR.1];exact ae _⟩,U Y<|k _ _ q r⟩
variable(w K mg base)in def FW:Sp:=λvs H Q _=>∃(R:c5 Pr w K mg base),∃kv ov hv n k A B m m',vs=[kv,ov,hv]/\(Bv R.C R.fs H kv/\R.Tab n n A m ov H/\R.Tab k k B m' hv H/\n<=500/\k<=500/\n * k<=500/\m+m'<=100000)/\
 ∀v H',g9 H H'->R.Tab (n * k) (n * k) (GV R.S k A B) (m+m') v H'->Q v H'
def Gw:j2 Pr w K mg base B7 43 t.s0c t.p0r Fq (FW w K mg base):=by
 show T.p0o.F.okA T4 λ_ _ _ _ H _ _ _ hr h=>?_;obtain⟨R,kv,ov,hv,n,j,A0,B,m,m',rfl,⟨hk,⟨p,us,rfl,hp,eR⟩,⟨p',xQ,rfl,ir,kF⟩,hn,hj,hz,hm⟩,k⟩:=h;have sl:1000 < sizeLine:=by decide
 show⟨_,(a8 (sT 3 T4.nd<|K8 P0)<|a8 (E8 aB Y (E9<|O 1) (w5 (i:=4) T4.nd Y<|Or.inr Y)<|a9<|x4<|DL cb dq dr EE (O 3)<|o9<|B9 (xs:=[FO]) Y (oC [z0,Dp,BL,"told",P9]<|b9 P6) (E9<|O 2) (w5 (i:=5) (by show List.Nodup ([z0,Dp,BL,"told",P9,FO]:w1i);decide +kernel) Y<|Or.inl Y)<|j8 (Aq (w:=w) (base:=base) T) hr.m Y T.s0i.m T.s0i.F.kp T.s0i.b .nil m8<|O1 (O 0) (O 4)<|O 5)<|a9<|c6<|o6 j9 bR T.z_tuple boot_tuple<|o9<|O 3),?_⟩;show⟨sL,λfl nf=>?_⟩;have s0:=c4 (o:=.lst []) nf;show U Y ⟨p,Y,⟨_,j3.of<|s0 _ _ hp⟩,GQ (n:=n) (λi σ H2=>∃v4 ys,σ=[some kv,sr p,some<|.ref p',sr fl,v4]/\g9 H H2/\H2 fl=some (.lst ys)/\l8 (λa u H=>R.Row (n * j) (GV R.S j A0 B a) (m+m') u H) ys (i * j) H2) ⟨_,[],Y,s0,c0,by rw[bB];exact l8.nil⟩ ?_ ?_⟩
 . rintro i σ H2 hi ⟨v4,ys,rfl,q,hf,e⟩;obtain⟨u,eu,pu⟩:=eR.2 i hi;show⟨zc ⟨j3.of<|q _ _ hp,eu⟩,λz H' fj=>?_⟩;obtain⟨rfl,fj⟩:=fj;have:=fj _<|j3.of<|q _ _ hp;rw[eu]at this;cases this;have ml:=Ss (k:=j) hi;show U Y ⟨.inl ⟨Y,_,y7.of hf⟩,U Y ⟨p',Y,⟨_,j3.of<|q _ _ ir⟩,u6 (n:=j) (λb zs H3=>g9 H' H3/\l8 (λb u H=>R.Row (n * j) (Ig R.S j (A0 i)<|B b) (m+m') u H) zs b H3) Z ⟨g9.refl _,l8.nil⟩ (λb zs H3 c=>c.2.1) ?_ ?_ ?_⟩⟩
   . rintro b zs H3 hb ⟨q3,c⟩;have q':=q.trans q3;obtain⟨v,ev,O⟩:=kF.2 b hb;show⟨zc ⟨j3.of<|q' _ _ ir,ev⟩,λz H' fj=>?_⟩;obtain⟨rfl,fj⟩:=fj;have:=fj _<|j3.of<|q' _ _ ir;rw[ev]at this;cases this;show⟨⟨[some _],Y,Y⟩,vc Y Y Y ⟨R,zv _ _ _ n j (A0 i) (B b) m m' ⟨Y,⟨hk.same q',c5.Row.same q'.t pu,c5.Row.same q'.t O,hn,hj,hz,hm⟩,λw4 H4 s4 r4=>?_⟩⟩⟩;exact⟨q3.trans s4,(c.mono λ_ _ _ z=>c5.Row.same s4.t z).snoc r4⟩
   . rintro zs H3 ⟨q3,c⟩;exact⟨_,j3.of<|(q.trans q3) _ _ ir,by rw[kF.1];exact ae _⟩
   . rintro zs H3 lp ⟨q3,c⟩ nl;have s4:=c4 (o:=.lst zs) nl;have q4:=q3.trans s4;have lg:=q4 _ _ hf;show zc ⟨ys,zs,Y,Y,lg,c0,(by rw[e.1,c.1];omega),?_⟩;have st:=En (o:=.lst<|ys++zs) lg;show zc ⟨Y,Ju (q.trans q4) nf,c0,?_⟩;rw[aV];show l8.app (e.mono λ_ _ _ z=>c5.Row.same (q4.t.trans st) z)<|c.mono λb _ hb z=>?_;show R.Row (n * j) (GV R.S j A0 B<|i * j+b) (m+m') _ _;rw[UQ hb];exact c5.Row.same (s4.t.trans st) z
 . rintro σ H2 ⟨v4,ys,rfl,q,hf,e⟩;show⟨⟨_,j3.of<|q _ _ hp,by rw[eR.1];exact ae _⟩,U Y ⟨fl,ys,Y,.inl ⟨y7.of hf,λl2 n2=>?_⟩⟩⟩;have s2:=c4 (o:=.tup ys) n2;exact k _ _ (q.trans s2) ⟨l2,ys,Y,c0,e.mono λ_ _ _ z=>c5.Row.same s2.t z⟩
variable(w K mg base)in def FV:Sp:=λvs H Q _=>∃(R:c5 Pr w K mg base),∃kv ov hv l n k dB dz N9 dy dA dQ m m',vs=[kv,ov,hv]/\(Bv R.C R.fs H kv/\y6 R l n dB dz N9 m m m ov H/\y6 R l k dy dA dQ m' m' m' hv H/\FM l/\n<=100/\k<=100/\n * k<=20/\m+m'<=100000)/\
 ∀v H',g9 H H'->y6 R l (n * k) (Ig R.S k dB dy) (λc=>GV R.S k (dz c)<|dA c) (Ig R.S k N9 dQ) (m+m') (m+m') (m+m') v H'->Q v H'
def Nb:j2 Pr w K mg base B7 45 t.w0q t.u0u Fq (FV w K mg base):=by
 show T.u0t.F.okA Ad λ_ _ _ _ H _ _ _ hr h=>?_;obtain⟨R,kv,ov,hv,l,n,j,dB,dz,N9,dy,dA,dQ,m,m',rfl,⟨hk,ho,hh,L,hn,hj,hz,hm⟩,k⟩:=h;have sl:1000 < sizeLine:=by decide
 have l3:=L.h3;obtain⟨p1,mJ,mG,oG,rfl,eF,a1,⟨t1,gE,rfl,gb,hX⟩,c1⟩:=id ho;obtain⟨p2,fZ,mF,oF,rfl,dU,a2,⟨t2,gD,rfl,fV,jm⟩,c2⟩:=id hh;have ez:(n:Int) * j=((n * j:Nat):Int):=(cy n j).symm;show⟨_,(a8 (x4<|z7 (y8 T) hr.m T.n0o<|B8 (O 1)<|O 2)<|a8 (x4<|z7 (B6 T) hr.m T.o0f<|o9<|j4 Ao (z7 (z9 T) hr.m T.w0r<|o9<|O 1)<|z7 (z9 T) hr.m T.w0r<|o9<|O 2)<|a8 (sT 3 Ad.nd<|z7 (Aq T) hr.m T.s0i<|O1 (O 0) (o5 c9 (O 1) a7)<|o5 c9 (O 2) a7)<|a8 (V5 (i₀:=4) (xs:=[Fd,FO]) Ad.nd Y (Or.inl Y) Y (oC [z0,Dp,BL,IY,AA]<|b9 BE) (CO Y T.z_zip<|B8 (o5 c9 (O 1) a7)<|o5 c9 (O 2) a7) (show PG _ _ (Qz K 2 _)from(An Y<|z8 (gL 5 l0v)<|z8 (gL 6 l0v) S6))<|j8 (Gw (w:=w) (base:=base) T) hr.m Y T.p0o.m T.p0o.F.kp T.p0o.b .nil m8<|O1 (O 0) (O 5)<|O 6)<|a9<|c6<|o8<|HC (o5 c9 (O 1) a7) (O 3) (o6 j9 bR T.z_tuple boot_tuple<|o9<|O 4)<|z7 (Aq T) hr.m T.s0i<|O1 (O 0) (o5 c9 (O 1) a7)<|o5 c9 (O 2) a7),?_⟩;show vb Y Y ⟨l,p1,p2,zg ⟨Y,⟨eF,dU⟩,?_⟩⟩;show U Y ⟨R,zv _ l n dB dz N9 m m m ⟨Y,ho,U Y ⟨R,zv _ l j dy dA dQ m' m' m' ⟨Y,hh,zc ⟨Y,Y,.inl ⟨Z,Z⟩,U Y ⟨(by rw[ez];omega),?_⟩⟩⟩⟩⟩⟩;show vb Y Y<|ze ⟨Y,Y,j3.of eF,Y,U Y<|ze ⟨Y,Y,j3.of dU,Y,R,zv _ _ _ n j dB dy m m' ⟨Y,⟨hk,a1,a2,Z,Z,Z,hm⟩,λsv H1 s1 r1=>?_⟩⟩⟩;show U Y (ze ⟨Y,Y,j3.of<|s1 _ _ eF,Y,U Y<|ze ⟨Y,Y,j3.of<|s1 _ _ dU,Y,.tup t1,.tup t2,zc ⟨gE,gD,Y,Y,Y,j3.of<|s1 _ _ gb,j3.of<|s1 _ _ fV,u6 (n:=l.length) (λi ys H2=>g9 H1 H2/\l8 (λc u H=>R.Tab (n * j) (n * j) (GV R.S j (dz c)<|dA c) (m+m') u H) ys i H2) Z ⟨g9.refl _,l8.nil⟩ (λj ys H2 q=>q.2.1) ?_ ?_ ?_⟩⟩⟩)
 . rintro i ys H4 hi ⟨q,e⟩;have q1:=s1.trans q;obtain⟨u,eu,pu⟩:=hX.2 i hi;obtain⟨v,ev,O⟩:=jm.2 i hi;show⟨⟨gE,gD,u,v,j3.of<|q1 _ _ gb,j3.of<|q1 _ _ fV,eu,ev⟩,λy H' hy=>?_⟩;obtain⟨pp,x',y',rfl,mV,rfl,f1,f2⟩:=hy;have e1:=f1 _<|j3.of<|q1 _ _ gb;rw[eu]at e1;cases e1;have e2:=f2 _<|j3.of<|q1 _ _ fV;rw[ev]at e2;cases e2;have s5:=c4 (o:=.tup [u,v]) mV;have q5:=q1.trans s5;show⟨pp,U Y ⟨j3.of c0,Y,zc ⟨Y,zc ⟨Y,Y,⟨[some _,some _],Y,Y⟩,vc Y Y Y ⟨R,zv _ _ _ n j (dz i) (dA i) m m' ⟨Y,⟨hk.same q5,c5.Tab.same q5.t pu,c5.Tab.same q5.t O,Z,Z,Z,hm⟩,λw6 H6 s6 r6=>?_⟩⟩⟩⟩⟩⟩;exact⟨q.trans<|s5.trans s6,(e.mono λ_ _ _ z=>c5.Tab.same (s5.trans s6).t z).snoc r6⟩
 . rintro ys H4 ⟨q,e⟩;exact⟨gE,gD,j3.of<|(s1.trans q) _ _ gb,j3.of<|(s1.trans q) _ _ fV,.inl hX.1.symm⟩
 . rintro us H4 up ⟨q,eU⟩ nu;have s5:=c4 (o:=.lst us) nu;have q5:=q.trans s5;have hU:upd H4 up (.lst us) up=some (.lst us):=c0;have eU:=eU.mono λ_ _ _ z=>c5.Tab.same s5.t z;revert q5 hU eU;clear s5 nu q;generalize upd H4 up (.lst us)=H5;intro q5 hU eU;have pB:=s1.trans q5;show U Y<|ze ⟨Y,Y,j3.of<|pB _ _ eF,Y,vb Y Y ⟨up,us,Y,.inl ⟨y7.of hU,λp7 n7=>?_⟩⟩⟩;have s7:=c4 (o:=.tup us) n7;have q7:=pB.trans s7;have iO:upd H5 p7 (.tup us) p7=some (.tup us):=c0;show vb Y Y<|ze ⟨Y,Y,j3.of<|q7 _ _ eF,Y,U Y<|ze ⟨Y,Y,j3.of<|q7 _ _ dU,Y,R,zv _ _ _ n j N9 dQ m m' ⟨Y,⟨hk.same q7,c5.Row.same q7.t c1,c5.Row.same q7.t c2,Z,Z,Z,hm⟩,λev H8 s8 r8=>?_⟩⟩⟩;show⟨sL,λp9 n9=>?_⟩;have s9:=c4 (o:=.tup [vT l,sv,V.ref p7,ev]) n9;have Ml:=s8.trans s9;have HA:=s7.trans Ml;exact k _ _ (q7.trans Ml) ⟨p9,_,_,U Y ⟨c0,c5.Row.same (q5.trans HA).t r1,
    ⟨p7,us,Y,Ml _ _ iO,eU.mono λ_ _ _ z=>c5.Tab.same HA.t z⟩,c5.Row.same s9.t r8⟩⟩
theorem BI{S:SR}{n:Nat}{tb:w1c S}{wd wd':Nat->Nat}:∀{k:Nat} (c:w1a S),(∀i,i < k->wd i=wd' i)->Mn S n tb wd k c=Mn S n tb wd' k c
 | 0,_,_=>rfl
 | k+1,c,h=>by
  show Mn S n tb wd k _=Mn S n tb wd' k _;rw[BI _ λi hi=>h i<|bQ hi,h k<|bb k]
theorem Kg{S:SR}{n:Nat}{st:w1a S}{tb:w1c S}{wd:Nat->Nat}(i:Nat):∀(k:Nat) (c:w1a S),o3 S (K4 S n st tb wd i) (Mn S n tb (λj=>wd<|i+j) k c) n=o3 S (K4 S n st tb wd<|i+k) c n
 | 0,_=>rfl
 | k+1,c=>by
  show o3 S _ (Mn S n tb (λj=>wd<|i+j) k λa=>sm S (λj=>S.mul (tb (wd<|i+k) a j)<|c j) n) n=_;rw[Kg i k];exact(Dx (K4 S n st tb wd<|i+k) (tb<|wd<|i+k) c n n).symm
theorem EM{S:SR}{n:Nat}{tb:w1c S}{wd:Nat->Nat}:∀(k:Nat) (c:w1a S),Mn S n tb wd (k+1) c=λa=>sm S (λj=>S.mul (tb (wd 0) a j)<|Mn S n tb (λi=>wd<|i+1) k c j) n
 | 0,_=>rfl
 | k+1,c=>by
  show Mn S n tb wd (k+1) _=_;rw[EM k];rfl
variable(w K mg base)in def KP:Sp:=λvs H Q _=>∃(R:c5 Pr w K mg base),∃mv l n st tb en m1 m2 m3,vs=[mv]/\(y6 R l n st tb en m1 m2 m3 mv H/\FM l/\n<=500)/\
 ∀v H',g9 H H'->y6 R l n en (λc i j=>tb c j i) st m3 m2 m1 v H'->Q v H'
def Lp:j2 Pr w K mg base B7 43 t.v0q t.s0q [U4] (KP w K mg base):=by
 show T.s0l.F.okA EO λ_ _ _ _ H _ _ _ hr h=>?_;obtain⟨R,mv,l,n,st,tb,en,m1,m2,m3,rfl,⟨⟨p,sv,tv,ev,rfl,hp,h1,⟨tp,ts,rfl,eS,et⟩,h3⟩,L,hn⟩,k⟩:=h;have l3:=L.h3;show⟨_,(a8 (V5 (i₀:=1) (xs:=[W4]) EO.nd Y (Or.inl Y) Y (oC [U4,AA]<|b9 Ag) (E9<|o5 c9 (O 0) a7) (w5 (i:=2) (by show List.Nodup ([U4,AA,W4]:w1i);decide +kernel) Y<|Or.inl Y)<|j8 (Ck (w:=w) (base:=base) T) hr.m Y T.q0o.m T.q0o.F.kp T.q0o.b .nil m8<|o9<|O 2)<|a9<|c6<|o8<|HC (o5 c9 (O 0) a7) (o5 c9 (O 0) a7) (o6 j9 bR T.z_tuple boot_tuple<|o9<|O 1)<|o5 c9 (O 0) a7),?_⟩;show U Y (ze ⟨Y,Y,j3.of hp,Y,tp,Y,⟨_,j3.of eS⟩,u6 (n:=l.length) (λi ys H2=>g9 H H2/\l8 (λc u H=>R.Tab n n (λi j=>tb c j i) m2 u H) ys i H2) Z ⟨g9.refl _,l8.nil⟩ (λj ys H2 q=>q.2.1) ?_ ?_ ?_⟩)
 . rintro j ys H2 hj ⟨q,e⟩;obtain⟨u,eu,pu⟩:=et.2 j hj;show GL (j3.of<|q _ _ eS) eu ?_;show⟨⟨[some _],Y,Y⟩,U Y ⟨R,zq _ n n (tb j) m2 ⟨Y,⟨c5.Tab.same q.t pu,Z,Z⟩,λv H3 s3 r3=>?_⟩⟩⟩;rw[if0]at r3;exact⟨q.trans s3,(e.mono λ_ _ _ z=>c5.Tab.same s3.t z).snoc r3⟩
 . rintro ys H2 ⟨q,e⟩;exact⟨_,j3.of<|q _ _ eS,by rw[et.1];exact ae _⟩
 . rintro us H4 up ⟨q,eU⟩ nu;have s5:=c4 (o:=.lst us) nu;have q5:=q.trans s5;have hU:upd H4 up (.lst us) up=some (.lst us):=c0;have eU:=eU.mono λ_ _ _ z=>c5.Tab.same s5.t z;revert q5 hU eU;clear s5 nu q;generalize upd H4 up (.lst us)=H5;intro q5 hU eU;show U Y<|ze ⟨Y,Y,j3.of<|q5 _ _ hp,Y,U Y<|ze ⟨Y,Y,j3.of<|q5 _ _ hp,Y,U Y ⟨up,us,Y,.inl ⟨y7.of hU,λp7 n7=>?_⟩⟩⟩⟩;have s7:=c4 (o:=.tup us) n7;have q7:=q5.trans s7;have iO:upd H5 p7 (.tup us) p7=some (.tup us):=c0;show U Y<|ze ⟨Y,Y,j3.of<|q7 _ _ hp,Y,sL,λp9 n9=>?_⟩;have s9:=c4 (o:=.tup [vT l,ev,V.ref p7,sv]) n9;have q9:=q7.trans s9;exact k _ _ q9 ⟨p9,_,_,U Y ⟨c0,c5.Row.same q9.t h3,⟨p7,us,Y,s9 _ _ iO,eU.mono λ_ _ _ z=>c5.Tab.same (s7.trans s9).t z⟩,c5.Row.same q9.t h1⟩⟩
variable(w K mg base)in def Pa:Sp:=λvs H Q _=>∃(R:c5 Pr w K mg base),∃kv mv l n st tb en m1 m2 m3,vs=[kv,mv]/\(y6 R l n st tb en m1 m2 m3 mv H/\FM l/\n<=20)/\
 ∀v H',g9 H H'->y6 R l n en (λc i j=>tb c j i) st m3 m2 m1 v H'->Q v H'
def PL:j2 Pr w K mg base B7 44 t.turned t.v0u Ng (Pa w K mg base):=by show T.v0p.F.okA Pt λ_ _ _ _ _ _ _ _ hr h=>?_;obtain⟨R,kv,mv,l,n,st,tb,en,m1,m2,m3,rfl,⟨hm,L,hn⟩,k⟩:=h;show⟨_,(a8 (x4<|z7 (B6 T) hr.m T.o0f<|o9<|z7 (z9 T) hr.m T.w0r<|o9<|O 1)<|a9<|c6<|z7 (Lp T) hr.m T.s0l<|o9<|O 1),?_⟩;show U Y ⟨R,zv _ l n st tb en m1 m2 m3 ⟨Y,hm,U Y ⟨Z,?_⟩⟩⟩;exact U Y ⟨R,zv _ l n st tb en m1 m2 m3 ⟨Y,⟨hm,L,Z⟩,k⟩⟩
def SW{S:SR}{x y:w1a S}{n:Nat}:o3 S x y n=o3 S y x n:=d9 λ_ _=>S.mul_comm _ _
theorem Hg{S:SR}{n:Nat}{en:w1a S}{tb:w1c S}{wd:Nat->Nat}:∀k,K4 S n en (λc i j=>tb c j i) wd k=Mn S n tb (λi=>wd<|k - 1 - i) k en
 | 0=>rfl
 | k+1=>by
  rw[EM];funext j;show sm S (λi=>S.mul (K4 S n en (λc i j=>tb c j i) wd k i)<|tb (wd k) j i) n=sm S (λi=>S.mul (tb (wd<|k+1 - 1 - 0) j i)<|Mn S n tb (λi=>wd<|k+1 - 1 - (i+1)) k en i) n;rw[Hg k,BI (wd:=λi=>wd<|k+1 - 1 - (i+1)) (wd':=λi=>wd<|k - 1 - i) en λi _=>by congr 1;omega];exact d9 λi _=>S.mul_comm _ _
def Tu{l ws:w1h}{i:Nat}(h:i < ws.length):X8 l ws.reverse i=X8 l ws (ws.length - 1 - i):=by unfold X8;rw[bF,bF,List.getElem?_reverse h]
def Mr{S:SR}{l ws:w1h}{n:Nat}{st en:w1a S}{tb:w1c S}:Aa S l n en (λc i j=>tb c j i) st ws=Aa S l n st tb en ws.reverse:=by unfold Aa;rw[SW,Hg,de];have c:=Kg (S:=S) (n:=n) (st:=st) (tb:=tb) (wd:=X8 l ws.reverse) 0 ws.length en;rw[cI]at c;rw[<- c];show o3 S st _ n=o3 S st _ n;rw[BI (wd:=λj=>X8 l ws.reverse<|0+j) (wd':=λi=>X8 l ws<|ws.length - 1 - i) en λi hi=>by rw[cI];exact Tu hi]
def Y9(S:SR)(n:Nat)(st:w1a S)(A:w1b S)(en:w1a S):w1b S:=λi=>if i < 1 then Ab S 1 (λ_=>o3 S st (λa=>o3 S (A a) en n) n) (λj=>o3 S st (λa=>A a j) n)else Ab S 1 (λ_=>o3 S (A<|i - 1) en n) (A<|i - 1)
def Ki{S:SR}{n:Nat}{st:w1a S}{A:w1b S}{en:w1a S}:Y9 S n st A en 0=Ab S 1 (λ_=>o3 S st (λa=>o3 S (A a) en n) n) (λj=>o3 S st (λa=>A a j) n):=if_pos bD
def Kh{S:SR}{n i:Nat}{st:w1a S}{A:w1b S}{en:w1a S}:Y9 S n st A en (1+i)=Ab S 1 (λ_=>o3 S (A i) en n) (A i):=by unfold Y9;rw[if_neg Z,dc]
section
variable{S:SR}{n:Nat}{st en:w1a S}{tb:w1c S}{wd:Nat->Nat}
def cX(S:SR)(n:Nat)(st:w1a S)(tb:w1c S)(en:w1a S)(wd:Nat->Nat)(k:Nat):w1a S:=K4 S (1+n) (z5 S 0) (λc=>Y9 S n st (tb c) en) wd k
def Kn(k j:Nat):cX S n st tb en wd (k+1) j=S.add (S.mul (cX S n st tb en wd k 0)<|Y9 S n st (tb<|wd k) en 0 j) (sm S (λi=>S.mul (cX S n st tb en wd k<|1+i)<|Y9 S n st (tb<|wd k) en (1+i) j) n):=by show sm S (λi=>S.mul (cX S n st tb en wd k i)<|Y9 S n st (tb<|wd k) en i j) (1+n)=_;rw[Y0];congr 1;show S.add S.zero _=_;rw[zero_add]
theorem Md:∀k j,cX S n st tb en wd k (1+j)=sm S (λq=>S.mul (cX S n st tb en wd q 0)<|K4 S n st tb (λr=>wd<|q+r) (k - q) j) k
 | 0,j=>by
  show z5 S 0 (1+j)=S.zero;exact if_neg Z
 | k+1,j=>by
  rw[Kn,Ki,X3];show _=S.add (sm S (λq=>S.mul (cX S n st tb en wd q 0)<|K4 S n st tb (λr=>wd<|q+r) (k+1 - q) j) k) (S.mul (cX S n st tb en wd k 0)<|K4 S n st tb (λr=>wd<|k+r) (k+1 - k) j);rw[S.add_comm];congr 1
  . rw[d9 (n:=n) (g:=λi=>sm S (λq=>S.mul (S.mul (cX S n st tb en wd q 0)<|K4 S n st tb (λr=>wd<|q+r) (k - q) i)<|tb (wd k) i j) k) (λi _=>by rw[Kh,X3,Md k i,U5]),Bz];show d9 λq hq=>?_;rw[show k+1 - q=(k - q)+1 by omega];show _=S.mul _ (sm S (λa=>S.mul (K4 S n st tb (λr=>wd<|q+r) (k - q) a)<|tb (wd<|q+(k - q)) a j) n);rw[Q4,show q+(k - q)=k by omega];exact d9 λa _=>S.mul_assoc _ _ _
  . rw[show k+1 - k=0+1 by omega];rfl
def NL(k:Nat):cX S n st tb en wd (k+1) 0=o3 S (λj=>cX S n st tb en wd (k+1)<|1+j) en n:=by
 have e0:∀j,cX S n st tb en wd (k+1) (1+j)=S.add (S.mul (cX S n st tb en wd k 0)<|o3 S st (λa=>tb (wd k) a j) n) (sm S (λi=>S.mul (cX S n st tb en wd k<|1+i)<|tb (wd k) i j) n):=λj=>by
  rw[Kn,Ki,X3];congr 1;exact d9 λi _=>by rw[Kh,X3]
 rw[Kn,Ki,De bD,d9 (n:=n) (g:=λi=>S.mul (cX S n st tb en wd k<|1+i)<|o3 S (tb (wd k) i) en n)<|λi _=>by rw[Kh,De bD]];unfold o3;rw[d9 (f:=λj=>S.mul (cX S n st tb en wd (k+1)<|1+j)<|en j) (g:=λj=>S.add (S.mul (S.mul (cX S n st tb en wd k 0)<|sm S (λa=>S.mul (st a)<|tb (wd k) a j) n)<|en j)<|S.mul (sm S (λi=>S.mul (cX S n st tb en wd k<|1+i)<|tb (wd k) i j) n)<|en j) (λj _=>by rw[e0];rw[S.mul_comm,S.distrib,S.mul_comm<|en j,S.mul_comm<|en j];rfl),Eh];congr 1
 . rw[d9 (n:=n) (f:=λi=>S.mul (S.mul (cX S n st tb en wd k 0)<|sm S (λa=>S.mul (st a)<|tb (wd k) a i) n)<|en i) (g:=λj=>S.mul (cX S n st tb en wd k 0)<|S.mul (sm S (λa=>S.mul (st a)<|tb (wd k) a j) n)<|en j)<|λj _=>S.mul_assoc _ _ _,<- Q4,Dx st (tb<|wd k) en n n]
 . exact(Dx (λi=>cX S n st tb en wd k<|1+i) (tb<|wd k) en n n).symm
def QK(k:Nat):cX S n st tb en wd (k+1) 0=sm S (λq=>S.mul (cX S n st tb en wd q 0)<|o3 S (K4 S n st tb (λr=>wd<|q+r)<|k+1 - q) en n) (k+1):=by rw[NL];unfold o3;rw[d9 (n:=n) (g:=λj=>sm S (λq=>S.mul (S.mul (cX S n st tb en wd q 0)<|K4 S n st tb (λr=>wd<|q+r) (k+1 - q) j)<|en j)<|k+1) (λj _=>by show S.mul (cX S n st tb en wd (k+1)<|1+j) (en j)=_;rw[Md,U5]),Bz];show d9 λq _=>?_;rw[Q4];exact d9 λj _=>S.mul_assoc _ _ _
def UT:cX S n st tb en wd 0 0=S.one:=by show(if(0:Nat)=0 then S.one else S.zero)=S.one;exact if_pos rfl
end
def FN{S:SR}{l ws:w1h}{n:Nat}{st en:w1a S}{tb:w1c S}:Aa S l (1+n) (z5 S 0) (λc=>Y9 S n st (tb c) en) (z5 S 0) ws=cX S n st tb en (X8 l ws) ws.length 0:=by
 unfold Aa o3;rw[d9 (g:=λi=>if 0=i then cX S n st tb en (X8 l ws) ws.length i else S.zero) λi _=>by
  unfold z5;by_cases h:i=0
  . rw[if_pos h,if_pos h.symm,S.mul_one];rfl
  . rw[if_neg h,if_neg<|λz=>h z.symm,S.mul_zero],FY _ _ _ Z]
def LU{R:c5 Pr w K mg base}{m:Nat}{v:V}{x:R.S.W}{H:Hp}(h:R.is H v x)(z:R.S.lv m 32 x):l8 (R.Wt (λ_=>x) m) [v] 1 H:=l8.nil.snoc ⟨h,z⟩
def l8.up{R:c5 Pr w K mg base}{n m m':Nat}{x:w1a R.S}{vs:List V}{H:Hp}(h:m<=m')(r:l8 (R.Wt x m) vs n H):l8 (R.Wt x m') vs n H:=by obtain⟨d,rfl⟩:∃d,m'=m+d:=⟨m' - m,Z⟩;exact r.mono λ_ _ _ q=>⟨q.1,CW q.2⟩
variable(w K mg base)in def Ff:Sp:=λvs H Q _=>∃(R:c5 Pr w K mg base),∃kv mv tv l n st tb en A m,vs=[kv,mv,tv]/\(Bv R.C R.fs H kv/\y6 R l n st tb en m m m mv H/\R.Tab n n A m tv H/\n<=30/\m<=30000)/\
 ∀v H',g9 H H'->R.Tab (1+n) (1+n) (Y9 R.S n st A en) (m+m+m) v H'->Q v H'
def Fm:j2 Pr w K mg base B7 43 t.q0h t.p0e Xl (Ff w K mg base):=by
 show T.p0b.F.okA K2 λ_ _ _ _ H _ _ _ hr h=>?_;obtain⟨R,kv,mv,tv,l,n,st,tb,en,A0,m,rfl,⟨hk,⟨p,sv,xR,ev,rfl,hp,h1,h2,h3⟩,ht,hn,hm⟩,k⟩:=h;have sl:1000 < sizeLine:=by decide
 show⟨_,(a8 (sT 3 K2.nd<|z7 (DS T) hr.m T.r0k<|O1 (O 0) (O 2)<|o5 c9 (O 1) a7)<|a8 (sT 4 K2.nd<|j4 S7 (o8<|o9<|z7 (JG T) hr.m T.x0v<|O1 (O 0) (o5 c9 (O 1) a7)<|O 3)<|z7 (ID T) hr.m T.v0o<|O1 (O 0) (o5 c9 (O 1) a7)<|O 2)<|a8 (V5 (i₀:=5) (xs:=["x",P9]) K2.nd Y (Or.inl Y) Y (oC [z0,U4,W4,"back",Fd,"others"]<|b9 L5) (CO Y T.z_zip<|B8 (O 3)<|O 2) (show PG _ _ (Qz K 2 _)from(An Y<|z8 (gL 6 l0x)<|z8 (gL 7 l0x) S6))<|j4 S7 (o8<|o9<|O 6)<|O 7)<|a9<|c6<|o6 j9 bR T.z_tuple boot_tuple<|o9<|j4 RX (K8<|o9<|O 4)<|O 5),?_⟩;show vc Y Y Y<|ze ⟨Y,Y,j3.of hp,Y,R,zv _ _ _ n n A0 en m m ⟨Y,⟨hk,ht,h3.seq,Z,Z,Z⟩,λbv H1 s1 r1=>?_⟩⟩;show vb Y Y<|ze ⟨Y,Y,j3.of<|s1 _ _ hp,Y,U Y ⟨R,zu _ _ _ n st _ m (m+m) ⟨Y,⟨hk.same s1,(c5.Row.same s1.t h1).seq,r1.seq,Z,Z⟩,λkJ H2 s2 f2 z2=>?_⟩⟩⟩;rw[<- Nat.add_assoc]at z2;show⟨sL,λp3 n3=>?_⟩;have s3:=c4 (o:=.tup [kJ]) n3;have jO:upd H2 p3 (.tup [kJ]) p3=some (.tup [kJ]):=c0;have f3:=R.same s3.t f2;revert s3 jO f3;generalize upd H2 p3 (.tup [kJ])=H3;intro s3 jO f3;have q3:=s1.trans<|s2.trans s3;show vb Y Y<|ze ⟨Y,Y,j3.of<|q3 _ _ hp,Y,U Y ⟨R,zv _ _ _ n n st A0 m m ⟨Y,⟨hk.same q3,(c5.Row.same q3.t h1).seq,c5.Tab.same q3.t ht,Z,Z,Z,Z⟩,λrv H4 s4 r4=>?_⟩⟩⟩;rw[if0]at r4;obtain⟨p4,rs,rfl,h4,e4⟩:=r4;show zc ⟨[kJ],rs,Y,Y,s4 _ _ jO,h4,(by rw[e4.1];show 1+_<=_;omega),λp5 H5 s5 h5=>?_⟩;have kS:=s4.trans s5;have q5:=q3.trans kS;have iU:R.Row (1+n) (Y9 R.S n st A0 en 0) (m+m+m) (.ref p5) H5:=by rw[Ki];exact⟨p5,U Y ⟨h5,Q3 (LU (R.same kS.t f3) z2)<|l8.up Z<|e4.mono λ_ _ _ z=>c5.Wt.same s5.t z⟩⟩
 have r1:=c5.Row.same ((s2.trans s3).trans kS).t r1;obtain⟨bp,bs,rfl,hb,eb⟩:=r1;obtain⟨tp,ts,rfl,eS,et⟩:=c5.Tab.same q5.t ht;clear h4 e4 f2 f3 jO s2 s3 s4 s5 kS h5;show vb Y Y ⟨.tup bp,.tup tp,zc ⟨bs,ts,Y,Y,Y,j3.of hb,j3.of eS,u6 (n:=n) (λj ys H2=>g9 H5 H2/\l8 (λi u H=>R.Row (1+n) (Y9 R.S n st A0 en<|1+i) (m+m+m) u H) ys j H2) Z ⟨g9.refl _,l8.nil⟩ (λj ys H2 q=>q.2.1) ?_ ?_ ?_⟩⟩
 . rintro j ys H6 hj ⟨q,e⟩;obtain⟨u,eu,pu⟩:=eb.2 j hj;obtain⟨v,rP,O⟩:=et.2 j hj;show⟨⟨bs,ts,u,v,j3.of<|q _ _ hb,j3.of<|q _ _ eS,eu,rP⟩,λy H' hy=>?_⟩;obtain⟨pp,x',y',rfl,np,rfl,f1,f2⟩:=hy;have e1:=f1 _<|j3.of<|q _ _ hb;rw[eu]at e1;cases e1;have e2:=f2 _<|j3.of<|q _ _ eS;rw[rP]at e2;cases e2;have s7:=c4 (o:=.tup [u,v]) np;show⟨pp,U Y ⟨j3.of c0,Y,zc ⟨Y,zc ⟨Y,Y,⟨[some _,some _],Y,Y⟩,U Y ⟨sL,λp8 n8=>?_⟩⟩⟩⟩⟩;have s8:=c4 (o:=.tup [u]) n8;have nI:upd (upd H6 pp<|.tup [u,v]) p8 (.tup [u]) p8=some (.tup [u]):=c0;have Jz:=s7.trans s8;revert Jz nI;generalize upd (upd H6 pp<|.tup [u,v]) p8 (.tup [u])=H8;intro nI Jz;have q8:=q.trans Jz;obtain⟨a,as,rfl,ha,ea⟩:=c5.Row.same q8.t O;show U Y (zc ⟨[u],as,Y,Y,nI,ha,(by rw[ea.1];show 1+_<=_;omega),λp9 H9 s9 h9=>?_⟩);show⟨q8.trans s9,(e.mono λ_ _ _ z=>c5.Row.same (Jz.trans s9).t z).snoc ?_⟩;rw[Kh];exact⟨p9,U Y ⟨h9,Q3 (LU (R.same (q8.trans s9).t pu.1)<|CW (d:=m) pu.2)<|l8.up Z<|ea.mono λ_ _ _ z=>c5.Wt.same s9.t z⟩⟩
 . rintro ys H6 ⟨q,e⟩;exact⟨bs,ts,j3.of<|q _ _ hb,j3.of<|q _ _ eS,.inl eb.1.symm⟩
 . rintro us H6 up ⟨q,eU⟩ nu;have s7:=c4 (o:=.lst us) nu;have q7:=q.trans s7;have hU:upd H6 up (.lst us) up=some (.lst us):=c0;have eU:=eU.mono λ_ _ _ z=>c5.Row.same s7.t z;revert q7 hU eU;clear s7 nu q;generalize upd H6 up (.lst us)=H7;intro q7 hU eU;show U Y ⟨sL,λfp nf=>?_⟩;have s8:=c4 (o:=.lst [.ref p5]) nf;show U Y (zc ⟨[.ref p5],us,Y,Y,c0,s8 _ _ hU,(by rw[eU.1];show 1+_<=_;omega),λcp nc=>?_⟩);have s9:=c4 (o:=.lst<|[.ref p5]++us) nc;show⟨cp,[.ref p5]++us,Y,.inl ⟨y7.of c0,λl2 n2=>?_⟩⟩;have b0x:=c4 (o:=.tup<|[.ref p5]++us) n2;have jx:=s8.trans<|s9.trans b0x;have jy:=q7.trans jx;show k _ _ (q5.trans jy) ⟨l2,U Y ⟨c0,l8.app ?_<|eU.mono λi _ hi z=>c5.Row.same jx.t z⟩⟩;exact l8.nil.snoc (c5.Row.same jy.t iU)
variable(w K mg base)in def Jg(t:Vz):Sp:=λvs H Q E=>∃(R:c5 Pr w K mg base),∃kv v x,vs=[kv,v]/\(Bv R.C R.fs H kv/\R.is H v x)/\(x=R.S.zero->∀H',g9 H H'->Q .non H')/\(x≠R.S.zero->∀H',g9 H H'->E (.ref t.u0z) none H')
def DO:j2 Pr w K mg base (Hk Pr w) 41 t.p0p t.o0r Ux (Jg w K mg base t):=by
 show T.o0y.F.okx Ei (by rintro _ _ _ _ ⟨_,_,_,_,rfl,_⟩;rfl) λ_ _ _ _ _ _ _ _ hr h=>?_;obtain⟨R,kv,v,x,rfl,⟨⟨kp,dx,rfl,hk⟩,hv⟩,k0,k1⟩:=h;show⟨_,(a9<|j7 (d7 (JB hr.units) (O 1) (Y6 (O 0) R.cl R.t_nought R.G_nought hr.m R.b_nought .nil m8)<|d8 _) (a9<|Lj K1 Y T.s0b.ex Y T.r0f<|o9 j1) i3),?_⟩;show vb Y Y<|zd ⟨Y,hk,R.l_nought,U Y ⟨zc ⟨Y,hk⟩,λz H1 s1 f1=>?_⟩⟩;by_cases e:x=R.S.zero
 . show R.neD (R.same s1.t hv) f1 e (U Y ?_)
   (try show l4 ?_)
   exact k0 e _ s1
 . show R.neT (R.same s1.t hv) f1 e<|U Y ?_;show C2 ?_;exact⟨sL,k1 e _ s1⟩
variable(w K mg base)in def MG(t:Vz):Sp:=λvs H Q E=>∃(R:c5 Pr w K mg base),∃kv mv l n st tb en m,vs=[kv,mv]/\(Bv R.C R.fs H kv/\y6 R l n st tb en m m m mv H/\FM l/\n<=20/\m<=30000)/\
 (o3 R.S st en n=R.S.zero->n<=19->∀v H',g9 H H'->y6 R l (1+n) (z5 R.S 0) (λc=>Y9 R.S n st (tb c) en) (z5 R.S 0) 1 (m+m+m) 1 v H'->Q v H')/\(o3 R.S st en n=R.S.zero->19 < n->∀H',g9 H H'->E (.ref t.v0t) none H')/\(o3 R.S st en n≠R.S.zero->∀H',g9 H H'->E (.ref t.u0z) none H')
def MY:j2 Pr w K mg base (Hk Pr w) 45 t.x0o t.v0n Ng (MG w K mg base t):=by
 show T.v0e.F.okx BA (by rintro _ _ _ _ ⟨_,_,_,_,_,_,_,_,_,rfl,_⟩;rfl) λ_ _ _ _ H _ _ _ hr h=>?_;obtain⟨R,kv,mv,l,n,st,tb,en,m,rfl,⟨hk,hm,L,hn,hl⟩,k0,k2,k1⟩:=h;have sl:1000 < sizeLine:=by decide
 have l3:=L.h3;have M0:MOk n l []:=⟨⟨L,by simp,by simp⟩,Z⟩;have em:V.str (Str.ofString "")=vT []:=by rw[Cp];rfl
 show⟨_,(a8 (x4<|NQ.thru K1<|L9 (DO T) hr.m Y T.o0y.m T.o0y.F.kp T.o0y.b .nil<|B8 (O 0)<|z7 (IC T) hr.m T.w0f<|O1 (O 0) (O 1) j1)<|a8 (sT 2 BA.nd<|j4 z6 (z7 (z9 T) hr.m T.w0r<|o9<|O 1) a7)<|a8 (x4<|NQ.thru K1<|L9 (C1 T) hr.m Y T.o0f.m T.o0f.F.kp T.o0f.b .nil<|o9<|O 2)<|a8 (V5 (i₀:=3) (xs:=[W4]) BA.nd Y (Or.inl Y) Y (oC [z0,U4,Dq,AA,"between"]<|b9 DI) (E9<|o5 c9 (O 1) a7) (w5 (i:=5) (by show List.Nodup ([z0,U4,Dq,AA,"between",W4]:w1i);decide +kernel) Y<|Or.inl Y)<|j8 (Fm (w:=w) (base:=base) T) hr.m Y T.p0b.m T.p0b.F.kp T.p0b.b .nil m8<|O1 (O 0) (O 1)<|O 5)<|a8 (sT 4 BA.nd<|z7 (FK T) hr.m T.x0r<|O1 (O 0) (O 2) a7)<|a9<|c6<|o8<|HC (o5 c9 (O 1) a7) (O 4) (o6 j9 bR T.z_tuple boot_tuple<|o9<|O 3)<|O 4),?_⟩;show vc Y Y Y ?_;rw[em];show⟨R,zz _ _ l n st tb en [] m m m ⟨Y,⟨hk,hm,M0,by rw[bW,bB];omega⟩,λwv H1 s1 f1 z1=>?_⟩⟩;show⟨R,zj _ _ _ ⟨Y,⟨hk.same s1,f1⟩,λe H2 s2=>?_,λe H2 s2=>k1 e _<|s1.trans s2⟩⟩;have q2:=s1.trans s2;have k0:=k0 e;show U Y ⟨R,zv _ l n st tb en m m m ⟨Y,hm.same q2.t,zc ⟨Y,Y,?_⟩⟩⟩;show W3 2 (.int<|(n:Int)+1) [some kv,some mv,none,none,none] H2 _;by_cases nh:n<=19
 case neg=>exact vb Y Y ⟨λz=>absurd z Z,λ_=>k2 e Z _ q2⟩
 have k0:=k0 nh;show vb Y Y ⟨λ_=>?_,λz=>absurd z Z⟩;obtain⟨p,sv,tv,ev,rfl,hp,h1,⟨tp,ts,rfl,eS,et⟩,h3⟩:=id<|hm.same q2.t;show U Y (ze ⟨Y,Y,j3.of hp,Y,tp,Y,⟨_,j3.of eS⟩,u6 (n:=l.length) (λi ys H3=>g9 H2 H3/\l8 (λc u H=>R.Tab (1+n) (1+n) (Y9 R.S n st (tb c) en) (m+m+m) u H) ys i H3) Z ⟨g9.refl _,l8.nil⟩ (λj ys H2 q=>q.2.1) ?_ ?_ ?_⟩)
 . rintro j ys H3 hj ⟨q,e⟩;obtain⟨u,eu,pu⟩:=et.2 j hj;show GL (j3.of<|q _ _ eS) eu ?_;show⟨⟨[some _],Y,Y⟩,vc Y Y Y ⟨R,zw _ _ _ l n st tb en (tb j) m ⟨Y,⟨hk.same<|q2.trans q,hm.same (q2.trans q).t,c5.Tab.same q.t pu,Z,hl⟩,λv H4 s4 r4=>?_⟩⟩⟩;exact⟨q.trans s4,(e.mono λ_ _ _ z=>c5.Tab.same s4.t z).snoc r4⟩
 . rintro ys H3 ⟨q,e⟩;exact⟨_,j3.of<|q _ _ eS,by rw[et.1];exact ae _⟩
 . rintro us H4 up ⟨q,eU⟩ nu;have s5:=c4 (o:=.lst us) nu;have q5:=q.trans s5;have hU:upd H4 up (.lst us) up=some (.lst us):=c0;have eU:=eU.mono λ_ _ _ z=>c5.Tab.same s5.t z;revert q5 hU eU;clear s5 nu q;generalize upd H4 up (.lst us)=H5;intro q5 hU eU;show vb Y Y ⟨R,zq _ _ _ (1+n) 0 ⟨Y,⟨hk.same<|q2.trans q5,Z,Z,Y⟩,λbv H6 s6 r6=>?_⟩⟩;have q6:=q5.trans s6;show U Y<|ze ⟨Y,Y,j3.of<|q6 _ _ hp,Y,vb Y Y ⟨up,us,Y,.inl ⟨y7.of<|s6 _ _ hU,λp7 n7=>?_⟩⟩⟩;have s7:=c4 (o:=.tup us) n7;have iO:upd H6 p7 (.tup us) p7=some (.tup us):=c0;show U Y ⟨sL,λp9 n9=>?_⟩;have s9:=c4 (o:=.tup [vT l,bv,V.ref p7,bv]) n9;have HA:=s7.trans s9;exact k0 _ _ (q2.trans<|q6.trans HA) ⟨p9,_,_,U Y ⟨c0,c5.Row.same HA.t r6,⟨p7,us,Y,s9 _ _ iO,eU.mono λ_ _ _ z=>c5.Tab.same (s6.trans HA).t z⟩,c5.Row.same HA.t r6⟩⟩
def FM.asc{l:w1h}(L:FM l):(tx l).cps.all (· < 128)=true:=L.asc'
def Dw(S:SR)(W:w1h)(c i:Nat):w1a S:=λj=>if W[i]? = some c/\j=i+1 then S.one else S.zero
variable(w K mg base)in def Hn:Sp:=λvs H Q _=>∃(R:c5 Pr w K mg base),∃kv c W,∃(z:Int),∃(i:Nat),vs=[kv,vT [c],vT W,.int z]/\(Bv R.C R.fs H kv/\W.length<=100/\z=i)/\
 ∀v H',g9 H H'->R.Row (W.length+1) (Dw R.S W c i) 1 v H'->Q v H'
def HD:j2 Pr w K mg base B7 42 t.s0w t.q0i UB (Hn w K mg base):=by
 show T.q0d.F.okA Ht λ_ _ _ s H _ Q _ hr h=>?_;obtain⟨R,kv,c,W,z,i,rfl,⟨hk,hW,rfl⟩,k⟩:=h;have sl:1000 < sizeLine:=by decide
 have lw:∀H,R1 K (vT W) H W.length:=λH=>⟨by rw[l7];omega,(l7 W).symm⟩;show⟨_,(a8 (j7 (PW.pt<|U0 (d7 DM (O 3) (i0 l5 bR T.z_len PySem.boot_len<|o9<|O 2)<|d8 _)<|V4<|d7 o4 (o5 GK (O 2)<|O 3) (O 1)<|d8 _) (a9<|c6<|z7 (FK T) hr.m T.x0r<|O1 (O 0) (j4 z6 (i0 l5 bR T.z_len PySem.boot_len<|o9<|O 2) a7)<|j4 z6 (O 3) a7) i3)<|a9<|c6<|z7 (Ap T) hr.m T.u0g<|B8 (O 0)<|j4 z6 (i0 l5 bR T.z_len PySem.boot_len<|o9<|O 2) a7),?_⟩;have il:W[i]?≠some c->∀v H',g9 H H'->R.Row (W.length+1) (λ_=>R.S.zero) 1 v H'->Q v H':=λh v H' s' r=>k v H' s' (Row.congr (λj _=>by unfold Dw;rw[if_neg<|λz=>h z.1]) r);show vb Y Y<|zc ⟨Y,lw _,zc ⟨Y,Y,U Y ?_⟩⟩;show R0 (λh0=>?_) (λh0=>?_)
 . have hi:i < W.length:=by omega
   obtain⟨c',hc⟩:∃c',W[i]? = some c':=⟨W[i],by simp[hi]⟩;have ac:Do (tx W).cps.toList (i:Int)=some c':=y9 (by show W.toArray.toList[_]? = _;simpa using hc);show vb Y Y (zd ⟨Y,Y,(by rw[l7];omega),ac,U Y ⟨Y,U Y ?_⟩⟩);by_cases ecc:c'=c
   . subst ecc;rw[show decide (V.str (⟨#[c']⟩:Str)=vT [c'])=true from decide_eq_true rfl];show C2 ?_;show vb Y Y<|zc ⟨Y,lw _,zc ⟨Y,Y,U Y<|zc ⟨Y,Y,R,zq _ _ _ (W.length+1) (i+1) ⟨Y,⟨hk,Z,Z,Z⟩,λv H' s' r=>k v H' s'<|Row.congr (λj _=>?_) r⟩⟩⟩⟩;unfold z5 Dw;by_cases hj:j=i+1
     . rw[if_pos hj,if_pos ⟨hc,hj⟩]
     . rw[if_neg hj,if_neg λz=>hj z.2]
   . rw[show decide (V.str (⟨#[c']⟩:Str)=vT [c])=false from decide_eq_false λz=>ecc (by have:=congrArg (λv=>match v with | V.str s=>s.cps.toList | _=>[]) z;simpa [tx,vT] using this)];show l4 ?_;show vb Y Y (zc ⟨Y,lw _,zc ⟨Y,Y,R,zk _ _ (W.length+1) 1 ⟨Y,⟨hk,Z,Z⟩,il λz=>ecc<|by rw[hc]at z;exact Option.some.inj z⟩⟩⟩)
 . show vb Y Y<|zc ⟨Y,lw _,zc ⟨Y,Y,R,zk _ _ (W.length+1) 1 ⟨Y,⟨hk,Z,Z⟩,il λz=>?_⟩⟩⟩;have:=(aH.mp z).1;omega
variable(w K mg base)in def Pb:Sp:=λvs H Q _=>∃(R:c5 Pr w K mg base),∃kv l W bv b j,vs=[kv,vT l,vT W,bv]/\(Bv R.C R.fs H kv/\Vu l W 100/\W.length<=19/\R.is H bv b/\R.S.lv j 32 b/\j<=1000)/\
 ∀v H',g9 H H'->y6 R l (W.length+1) (λi=>R.S.mul b<|z5 R.S 0 i) (λc i=>Dw R.S W (l.getD c 0) i) (z5 R.S W.length) (j+1) 1 1 v H'->Q v H'
def PM:j2 Pr w K mg base B7 44 t.x0k t.v0w Xo (Pb w K mg base):=by
 show T.v0g.F.okA Y4 λ_ _ _ _ H _ _ _ hr h=>?_;obtain⟨R,kv,l,W,bv,b,jl,rfl,⟨hk,a1c,yr,hb,lb,hj⟩,k⟩:=h;have L:=a1c.lo;have l3:=L.h3;have sl:1000 < sizeLine:=by decide
 have lw:∀H,R1 K (vT W) H W.length:=λH=>⟨by rw[l7];omega,(l7 W).symm⟩;show⟨_,(a8 (x4<|z7 (DQ T) hr.m T.r0p<|B8 (O 1)<|O 2)<|a8 (sT 4 Y4.nd<|j4 z6 (i0 l5 bR T.z_len PySem.boot_len<|o9<|O 2) a7)<|a8 (x4<|z7 (B6 T) hr.m T.o0f<|o9<|O 4)<|a8 (sT 5 Y4.nd<|K8 P0)<|a8 (E8 aB Y (Ew<|O 1) (w5 (i:=6) Y4.nd Y<|Or.inr Y)<|a9<|x4<|DL cb PySem.F.slot_list_append PySem.F.type_list_append IH (O 5)<|o9<|o6 j9 bR T.z_tuple boot_tuple<|o9<|B9 (xs:=[IZ]) Y (oC m0a<|b9 DF) (G8 Y T.z_range<|o9<|O 4) (w5 (i:=8) (by show List.Nodup ([z0,Ja,"word","by",Dq,AA,Mw,IY,IZ]:w1i);decide +kernel) Y<|Or.inl Y)<|j8 (HD (w:=w) (base:=base) T) hr.m Y T.q0d.m T.q0d.F.kp T.q0d.b .nil m8<|HC (O 0) (O 6) (O 2)<|O 8)<|a8 (sT 7 Y4.nd<|z7 (M6 T) hr.m T.r0q<|O1 (O 0) (O 3)<|z7 (FK T) hr.m T.x0r<|O1 (O 0) (O 4) a7)<|a9<|c6<|o8<|HC (O 1) (O 7) (o6 j9 bR T.z_tuple boot_tuple<|o9<|O 5)<|z7 (FK T) hr.m T.x0r<|O1 (O 0) (O 4)<|i0 l5 bR T.z_len PySem.boot_len<|o9<|O 2),?_⟩;show vb Y Y ⟨l,W,100,Y,⟨a1c,bD⟩,λH1 s1=>?_⟩;show U Y<|zc ⟨Y,lw _,zc ⟨Y,Y,?_⟩⟩;show vb Y Y ⟨Z,?_⟩;show⟨sL,λfl nf=>?_⟩;have s2:=c4 (o:=.lst []) nf;show vb Y Y ⟨L.asc,GQ (n:=l.length) (λi σ H2=>∃v6 ys,σ=[some kv,some<|vT l,some<|vT W,some bv,some<|.int<|(W.length:Int)+1,sr fl,v6,none]/\g9 H1 H2/\H2 fl=some (.lst ys)/\l8 (λc u H=>R.Tab (W.length+1) (W.length+1) (λi=>Dw R.S W (l.getD c 0) i) 1 u H) ys i H2) ⟨_,[],Y,s2,c0,l8.nil⟩ ?_ ?_⟩
 . rintro i σ H2 hi ⟨v6,ys,rfl,q,hf,e⟩;show⟨(by show i < l.toArray.size;simpa using hi),λx H' hy=>?_⟩;obtain⟨rfl,c,hc,rfl⟩:=hy;have hc:=FR hc;have ec:l.getD i 0=c:=by rw[bF,hc];rfl
   have q1:=s1.trans q;show U Y ⟨.inl ⟨Y,_,y7.of hf⟩,vb Y Y ⟨Z,Z,u6 (n:=W.length+1) (λb zs H3=>g9 H' H3/\l8 (λb u H=>R.Row (W.length+1) (Dw R.S W c b) 1 u H) zs b H3) Z ⟨g9.refl _,l8.nil⟩ (λb zs H3 c=>c.2.1) ?_ ?_ ?_⟩⟩
   . rintro b' zs H3 fR ⟨q3,cc⟩;show⟨(show b' < ((W.length:Int)+1).toNat by omega),λy gC hy=>?_⟩;obtain⟨rfl,rfl⟩:=hy;show⟨⟨[some _],Y,Y⟩,vc Y Y Y<|U Y ⟨R,zq _ c W _ b' ⟨Y,⟨hk.same<|q1.trans q3,Z,Z⟩,λv H4 s4 r4=>?_⟩⟩⟩;exact⟨q3.trans s4,(cc.mono λ_ _ _ z=>c5.Row.same s4.t z).snoc r4⟩
   . rintro zs H3 ⟨q3,cc⟩;show((W.length:Int)+1).toNat<=W.length+1;omega
   . rintro zs H3 lp ⟨q3,cc⟩ nl;have s4:=c4 (o:=.lst zs) nl;show⟨lp,zs,Y,.inl ⟨y7.of c0,λl2 n2=>?_⟩⟩;have s5:=c4 (o:=.tup zs) n2;have Vh:=s4.trans s5;have q5:=q3.trans Vh;have pY:=q5 _ _ hf;show zd ⟨Y,Y,pY,(by rw[e.1];omega),?_⟩;have st:=En (o:=.lst<|ys++[.ref l2]) pY;show zc ⟨Y,Ju (q.trans q5) nf,c0,((e.mono λ_ _ _ w'=>c5.Tab.same q5.t w').snoc ?_).mono λ_ _ _ w'=>c5.Tab.same st w'⟩;rw[ec];exact⟨l2,zs,Y,c0,cc.mono λ_ _ _ z=>c5.Row.same Vh.t z⟩
 . rintro σ H2 ⟨v6,ys,rfl,q,hf,e⟩;have q1:=s1.trans q;show⟨(by show l.toArray.size<=_;simp),vc Y Y Y<|U Y ⟨R,zq _ _ _ (W.length+1) 0 ⟨Y,⟨hk.same q1,Z,Z,Y⟩,λuv H3 s3 r3=>?_⟩⟩⟩;have q3:=q1.trans s3;show⟨R,zu _ _ _ (W.length+1) b _ jl 1 ⟨Y,⟨hk.same q3,R.same q3.t hb,lb,r3,Z,Z⟩,λsv H4 s4 r4=>?_⟩⟩;have q4:=q3.trans s4;have lg:=(s3.trans s4) _ _ hf;show vc Y Y Y ⟨fl,ys,Y,.inl ⟨y7.of lg,λp5 n5=>?_⟩⟩;have s5:=c4 (o:=.tup ys) n5;have wC:upd H4 p5 (.tup ys) p5=some (.tup ys):=c0;have q5:=q4.trans s5;show vc Y Y Y<|zc ⟨Y,lw _,R,zq _ _ _ (W.length+1) W.length ⟨Y,⟨hk.same q5,Z,Z,Y⟩,λev H6 s6 r6=>?_⟩⟩;show⟨sL,λp9 n9=>?_⟩;have s9:=c4 (o:=.tup [vT l,sv,V.ref p5,ev]) n9;have Ve:=s6.trans s9;exact k _ _ (q5.trans Ve) ⟨p9,_,_,U Y ⟨c0,c5.Row.same (s5.trans Ve).t r4,⟨p5,ys,Y,Ve _ _ wC,e.mono λ_ _ _ z=>c5.Tab.same ((s3.trans s4).trans<|s5.trans Ve).t z⟩,c5.Row.same s9.t r6⟩⟩
theorem Hh{S:SR}{l ws W:w1h}{b:S.W}(L:FM l)(hw:∀c∈ws,c∈l):∀k,k<=ws.length->∀j,K4 S (W.length+1) (λi=>S.mul b<|z5 S 0 i) (λc i=>Dw S W (l.getD c 0) i) (X8 l ws) k j=if j=k/\ws.take k=W.take k/\k<=W.length then b else S.zero
 | 0,_,j=>by
  show S.mul b (if j=0 then S.one else S.zero)=_;by_cases h:j=0
  . rw[if_pos h,if_pos ⟨h,by simp,Z⟩,S.mul_one]
  . rw[if_neg h,if_neg λz=>h z.1,S.mul_zero]
 | k+1,hk,j=>by
  have ih:=Hh (W:=W) (b:=b) L hw k Z;obtain⟨c,hc⟩:∃c,ws[k]? = some c:=⟨ws[k],by simp⟩;have cl:=hw c<|aI hc;have ec:l.getD (X8 l ws k) 0=c:=by rw[Mv hc,bF,aQ<|SK cl,List.getElem_idxOf];rfl
  show sm S (λi=>S.mul (K4 S (W.length+1) (λi=>S.mul b<|z5 S 0 i) (λc i=>Dw S W (l.getD c 0) i) (X8 l ws) k i)<|Dw S W (l.getD (X8 l ws k) 0) i j) (W.length+1)=_;rw[ec];have tk:ws.take (k+1)=ws.take k++[c]:=by rw[da,hc];rfl
  by_cases hA:ws.take k=W.take k/\k<=W.length
  . rw[d9 (g:=λi=>if k=i then S.mul b (Dw S W c i j)else S.zero) λi _=>by
     rw[ih i];by_cases h:i=k
     . rw[if_pos ⟨h,hA⟩,if_pos h.symm]
     . rw[if_neg λz=>h z.1,if_neg<|λz=>h z.symm,zero_mul],FY _ _ _ Z]
    unfold Dw;by_cases h:W[k]? = some c/\j=k+1
    . rw[if_pos h,if_pos ⟨h.2,by rw[tk,da,h.1,hA.1];rfl,(aH.mp h.1).1⟩,S.mul_one]
    . rw[if_neg h,if_neg,S.mul_zero];rintro⟨h1,h2,h3⟩;show h ⟨?_,h1⟩;obtain⟨d,hd⟩:∃d,W[k]? = some d:=⟨W[k],by simp⟩;rw[tk,da,hd,hA.1]at h2;have:=List.append_cancel_left h2;rw[hd];have e:[c]=[d]:=this;cases e;rfl
  . rw[d9 (g:=λ_=>S.zero) λi _=>by rw[ih i,if_neg λz=>hA z.2,zero_mul],Ac,if_neg];rintro⟨h1,h2,h3⟩;show hA ⟨?_,Z⟩;have:=congrArg (List.take k) h2;rw[List.take_take,List.take_take,bN Z]at this;exact this
def Ms{S:SR}{l ws W:w1h}{b:S.W}(L:FM l)(hw:∀c∈ws,c∈l):Aa S l (W.length+1) (λi=>S.mul b<|z5 S 0 i) (λc i=>Dw S W (l.getD c 0) i) (z5 S W.length) ws=if ws=W then b else S.zero:=by
 unfold Aa o3;rw[d9 (g:=λi=>if W.length=i then K4 S (W.length+1) (λi=>S.mul b<|z5 S 0 i) (λc i=>Dw S W (l.getD c 0) i) (X8 l ws) ws.length i else S.zero) λi _=>by
  unfold z5;by_cases h:i=W.length
  . rw[if_pos h,if_pos h.symm,S.mul_one]
  . rw[if_neg h,if_neg<|λz=>h z.symm,S.mul_zero],FY _ _ _ Z,Hh L hw _ (ae _)]
 by_cases h:ws=W
 . subst h;rw[if_pos ⟨Y,Y,ae _⟩,if_pos rfl]
 . rw[if_neg h,if_neg];rintro⟨h1,h2,h3⟩;rw[bE,<- h1,bE]at h2;exact h h2
variable(w K mg base)in def By(t:Vz)(f:Nat->Nat->Nat):Sp:=λvs H _ E=>∃(R:c5 Pr w K mg base),∃kv ov hv l n k dB dz N9 dy dA dQ m,vs=[kv,ov,hv]/\(y6 R l n dB dz N9 m m m ov H/\y6 R l k dy dA dQ m m m hv H/\n<=100/\k<=100/\20 < f n k)/\E (.ref t.v0t) none H
def PK:j2 Pr w K mg base (Hk Pr w) 45 t.x0y t.w0u Fq (By w K mg base t λn k=>n+k):=by show T.x0g.F.okx Ld (by rintro _ _ _ _ ⟨_,_,_,_,_,_,_,_,_,_,_,_,_,_,rfl,_⟩;rfl) λ_ _ _ _ _ _ _ _ hr h=>?_;obtain⟨R,kv,ov,hv,l,n,k,dB,dz,N9,dy,dA,dQ,m,rfl,⟨h1,h2,n1,k1,hl⟩,kE⟩:=h;obtain⟨p1,a1,b1,c1,rfl,eF,_⟩:=id h1;obtain⟨p2,a2,b2,c2,rfl,dU,_⟩:=id h2;show⟨_,(a8 (x4<|z7 (y8 T) hr.m T.n0o<|B8 (O 1)<|O 2)<|a8 (x4<|NQ.thru K1<|L9 (C1 T) hr.m Y T.o0f.m T.o0f.F.kp T.o0f.b .nil<|o9<|j4 z6 (z7 (z9 T) hr.m T.w0r<|o9<|O 1)<|z7 (z9 T) hr.m T.w0r<|o9<|O 2) Et),?_⟩;show vb Y Y ⟨l,p1,p2,a1,b1,c1,a2,b2,c2,Y,⟨eF,dU⟩,?_⟩;show U Y ⟨R,zv _ l n dB dz N9 m m m ⟨Y,h1,U Y ⟨R,zv _ l k dy dA dQ m m m ⟨Y,h2,zc ⟨Y,Y,?_⟩⟩⟩⟩⟩;exact U Y ⟨λz=>absurd z (by have:20 < n+k:=hl;omega),λ_=>kE⟩
def MZ:j2 Pr w K mg base (Hk Pr w) 45 t.x0q t.v0i Fq (By w K mg base t λn k=>n+k):=by show T.w0c.F.okx O4 (by rintro _ _ _ _ ⟨_,_,_,_,_,_,_,_,_,_,_,_,_,_,rfl,_⟩;rfl) λ_ _ _ _ _ _ _ _ hr h=>?_;obtain⟨R,kv,ov,hv,l,n,k,dB,dz,N9,dy,dA,dQ,m,rfl,⟨h1,h2,n1,k1,hl⟩,kE⟩:=h;obtain⟨p1,a1,b1,c1,rfl,eF,_⟩:=id h1;obtain⟨p2,a2,b2,c2,rfl,dU,_⟩:=id h2;show⟨_,(a8 (x4<|z7 (y8 T) hr.m T.n0o<|B8 (O 1)<|O 2)<|a8 (x4<|NQ.thru K1<|L9 (C1 T) hr.m Y T.o0f.m T.o0f.F.kp T.o0f.b .nil<|o9<|j4 z6 (z7 (z9 T) hr.m T.w0r<|o9<|O 1)<|z7 (z9 T) hr.m T.w0r<|o9<|O 2) Et),?_⟩;show vb Y Y ⟨l,p1,p2,a1,b1,c1,a2,b2,c2,Y,⟨eF,dU⟩,?_⟩;show U Y ⟨R,zv _ l n dB dz N9 m m m ⟨Y,h1,U Y ⟨R,zv _ l k dy dA dQ m m m ⟨Y,h2,zc ⟨Y,Y,?_⟩⟩⟩⟩⟩;exact U Y ⟨λz=>absurd z (by have:20 < n+k:=hl;omega),λ_=>kE⟩
def Ln:j2 Pr w K mg base (Hk Pr w) 45 t.w0q t.u0u Fq (By w K mg base t λn k=>n * k):=by show T.u0t.F.okx Ad (by rintro _ _ _ _ ⟨_,_,_,_,_,_,_,_,_,_,_,_,_,_,rfl,_⟩;rfl) λ_ _ _ _ _ _ _ _ hr h=>?_;obtain⟨R,kv,ov,hv,l,n,k,dB,dz,N9,dy,dA,dQ,m,rfl,⟨h1,h2,n1,k1,hl⟩,kE⟩:=h;obtain⟨p1,a1,b1,c1,rfl,eF,_⟩:=id h1;obtain⟨p2,a2,b2,c2,rfl,dU,_⟩:=id h2;show⟨_,(a8 (x4<|z7 (y8 T) hr.m T.n0o<|B8 (O 1)<|O 2)<|a8 (x4<|NQ.thru K1<|L9 (C1 T) hr.m Y T.o0f.m T.o0f.F.kp T.o0f.b .nil<|o9<|j4 Ao (z7 (z9 T) hr.m T.w0r<|o9<|O 1)<|z7 (z9 T) hr.m T.w0r<|o9<|O 2) Et),?_⟩;show vb Y Y ⟨l,p1,p2,a1,b1,c1,a2,b2,c2,Y,⟨eF,dU⟩,?_⟩;show U Y ⟨R,zv _ l n dB dz N9 m m m ⟨Y,h1,U Y ⟨R,zv _ l k dy dA dQ m m m ⟨Y,h2,zc ⟨Y,Y,.inl ⟨Z,Z⟩,?_⟩⟩⟩⟩⟩;have hl:((20:Nat):Int) < ((n * k:Nat):Int):=Int.ofNat_lt.mpr hl;rw[cy]at hl;exact U Y ⟨λz=>absurd z Z,λ_=>kE⟩
def PJ:j2 Pr w K mg base (Hk Pr w) 45 t.x0y t.w0u Fq (λvs H Q E=>KR w K mg base vs H Q E\/By w K mg base t (λn k=>n+k) vs H Q E):=j2.or (Se T).loud (PK T)
def MX:j2 Pr w K mg base (Hk Pr w) 45 t.x0q t.v0i Fq (λvs H Q E=>Ir w K mg base vs H Q E\/By w K mg base t (λn k=>n+k) vs H Q E):=j2.or (PQ T).loud (MZ T)
def Lm:j2 Pr w K mg base (Hk Pr w) 45 t.w0q t.u0u Fq (λvs H Q E=>FV w K mg base vs H Q E\/By w K mg base t (λn k=>n * k) vs H Q E):=j2.or (Nb T).loud (Ln T)
theorem Mf{S:SR}{n k:Nat}{dB dy:w1a S}{dz dA:w1c S}{wd:Nat->Nat}:∀i j,K4 S (n+k) (Ab S n dB dy) (λc=>Hd S n (dz c) (λ_ _=>S.zero)<|dA c) wd i (n+j)=K4 S k dy dA wd i j
 | 0,j=>X3
 | i+1,j=>by
  rw[ON (C:=λ_ _ _=>S.zero),d9 (n:=n) (g:=λ_=>S.zero)<|λa _=>S.mul_zero _,Ac,zero_add];show _=sm S (λa=>S.mul (K4 S k dy dA wd i a)<|dA (wd i) a j) k;exact d9 λa _=>by rw[Mf i a]
def OR{S:SR}{l:w1h}{n k:Nat}{dB dy N9 dQ:w1a S}{dz dA:w1c S}{ws:w1h} :
    Aa S l (n+k) (Ab S n dB dy) (λc=>Hd S n (dz c) (λ_ _=>S.zero)<|dA c) (Ab S n N9 dQ) ws=S.add (Aa S l n dB dz N9 ws) (Aa S l k dy dA dQ ws):=by
 unfold Aa;rw[OG,EK (n:=n) λi hi=>Kr (C:=λ_ _ _=>S.zero) _ i hi,EK (n:=k) λi _=>Mf _ i]
theorem Hi{S:SR}{n:Nat}{b:S.W}{st:w1a S}{tb:w1c S}{wd:Nat->Nat}:∀i j,K4 S n (λa=>S.mul b<|st a) tb wd i j=S.mul b (K4 S n st tb wd i j)
 | 0,_=>rfl
 | i+1,j=>by
  show sm S (λa=>S.mul (K4 S n (λa=>S.mul b<|st a) tb wd i a)<|tb (wd i) a j) n=S.mul b (sm S (λa=>S.mul (K4 S n st tb wd i a)<|tb (wd i) a j) n);rw[Q4];exact d9 λa _=>by rw[Hi i a,S.mul_assoc]
def Mt{S:SR}{l:w1h}{n:Nat}{b:S.W}{st en:w1a S}{tb:w1c S}{ws:w1h}:Aa S l n (λa=>S.mul b<|st a) tb en ws=S.mul b (Aa S l n st tb en ws):=by unfold Aa o3;rw[Q4];exact d9 λa _=>by rw[Hi,S.mul_assoc]
theorem Mg{S:SR}{n k:Nat}{dB dy N9:w1a S}{dz dA:w1c S}{wd:Nat->Nat}:∀i j,K4 S (n+k) (Ab S n dB λa=>S.mul (o3 S dB N9 n)<|dy a) (λc=>Hd S n (dz c) (λa b=>S.mul (o3 S (dz c a) N9 n)<|dy b)<|dA c) wd i (n+j) =
    sm S (λq=>S.mul (o3 S (K4 S n dB dz wd q) N9 n)<|K4 S k dy dA (λr=>wd<|q+r) (i - q) j) (i+1)
 | 0,j=>by
  show Ab S n _ _ (n+j)=S.add S.zero (S.mul (o3 S dB N9 n)<|dy j);rw[X3,zero_add]
 | i+1,j=>by
  rw[ON (C:=λc a b=>S.mul (o3 S (dz c a) N9 n)<|dy b)];show _=S.add (sm S (λq=>S.mul (o3 S (K4 S n dB dz wd q) N9 n)<|K4 S k dy dA (λr=>wd<|q+r) (i+1 - q) j)<|i+1) (S.mul (o3 S (K4 S n dB dz wd<|i+1) N9 n)<|K4 S k dy dA (λr=>wd<|i+1+r) (i+1 - (i+1)) j);rw[S.add_comm];congr 1
  . rw[d9 (n:=k) (g:=λa=>sm S (λq=>S.mul (S.mul (o3 S (K4 S n dB dz wd q) N9 n)<|K4 S k dy dA (λr=>wd<|q+r) (i - q) a)<|dA (wd i) a j)<|i+1) (λa _=>by rw[Mg i a,U5]),Bz];show d9 λq hq=>?_;rw[show i+1 - q=(i - q)+1 by omega];show _=S.mul _ (sm S (λa=>S.mul (K4 S k dy dA (λr=>wd<|q+r) (i - q) a)<|dA (wd<|q+(i - q)) a j) k);rw[Q4,show q+(i - q)=i by omega];exact d9 λa _=>S.mul_assoc _ _ _
  . rw[Nat.sub_self];show sm S (λa=>S.mul (K4 S n dB dz wd i a)<|S.mul (o3 S (dz (wd i) a) N9 n)<|dy j) n=S.mul (sm S (λb=>S.mul (sm S (λa=>S.mul (K4 S n dB dz wd i a)<|dz (wd i) a b) n)<|N9 b) n) (dy j);have e:=Dx (K4 S n dB dz wd i) (dz<|wd i) N9 n n;rw[e,U5];exact d9 λa _=>(S.mul_assoc _ _ _).symm
def SU{S:SR}{n:Nat}{x:w1a S}:o3 S x (λ_=>S.zero) n=S.zero:=by unfold o3;rw[d9 (g:=λ_=>S.zero) λi _=>S.mul_zero _,Ac]
def Mu{S:SR}{l ws:w1h}{n k:Nat}{dB dy N9 dQ:w1a S}{dz dA:w1c S} :
    Aa S l (n+k) (Ab S n dB λa=>S.mul (o3 S dB N9 n)<|dy a) (λc=>Hd S n (dz c) (λa b=>S.mul (o3 S (dz c a) N9 n)<|dy b)<|dA c) (Ab S n (λ_=>S.zero) dQ) ws =
    sm S (λq=>S.mul (Aa S l n dB dz N9<|ws.take q)<|Aa S l k dy dA dQ<|ws.drop q) (ws.length+1):=by
 rw[d9 (g:=λq=>S.mul (o3 S (K4 S n dB dz (X8 l ws) q) N9 n)<|o3 S (K4 S k dy dA (λr=>X8 l ws<|q+r)<|ws.length - q) dQ k) λq hq=>by rw[QQ Z,Kv]];show o3 S _ _ _=_;rw[OG,SU,zero_add,EK (n:=k) λi _=>Mg _ i];unfold o3;rw[d9 (n:=k) (g:=λa=>sm S (λq=>S.mul (S.mul (sm S (λi=>S.mul (K4 S n dB dz (X8 l ws) q i)<|N9 i) n)<|K4 S k dy dA (λr=>X8 l ws<|q+r) (ws.length - q) a)<|dQ a)<|ws.length+1) (λa _=>by rw[U5]),Bz];show d9 λq _=>?_;rw[Q4];exact d9 λa _=>S.mul_assoc _ _ _
theorem Oe{S:SR}(f:w1b S)(k:Nat):∀n,sm S (λa=>f (a / k)<|a % k) (n * k)=sm S (λi=>sm S (f i) k) n
 | 0=>by rw[bB];rfl
 | n+1=>by
  rw[aV,Y0,Oe f k n];show S.add _ _=S.add _ (sm S (f n) k);congr 1;exact d9 λj hj=>by rw[NC hj,Ni hj]
def Zc{S:SR}(p q:w1a S)(n k:Nat):sm S (λi=>sm S (λj=>S.mul (p i)<|q j) k) n=S.mul (sm S p n) (sm S q k):=by rw[U5];exact d9 λi _=>(Q4 _ _ _).symm
def mul4{S:SR}(a b c d:S.W):S.mul (S.mul a b) (S.mul c d)=S.mul (S.mul a c) (S.mul b d):=by rw[S.mul_assoc,S.mul_assoc,<- S.mul_assoc b c d,S.mul_comm b c,S.mul_assoc c b d]
def OF{S:SR}{n k:Nat}{x1 x2 y1 y2:w1a S}:o3 S (Ig S k x1 x2) (Ig S k y1 y2) (n * k)=S.mul (o3 S x1 y1 n) (o3 S x2 y2 k):=by unfold o3;rw[<- Zc,<- Oe (λi j=>S.mul (S.mul (x1 i)<|y1 i)<|S.mul (x2 j)<|y2 j)];exact d9 λa _=>mul4 _ _ _ _
theorem OO{S:SR}{n k:Nat}{dB dy:w1a S}{dz dA:w1c S}{wd:Nat->Nat}:∀i,K4 S (n * k) (Ig S k dB dy) (λc=>GV S k (dz c)<|dA c) wd i=Ig S k (K4 S n dB dz wd i) (K4 S k dy dA wd i)
 | 0=>rfl
 | i+1=>by
  funext j;show sm S (λa=>S.mul (K4 S (n * k) (Ig S k dB dy) (λc=>GV S k (dz c)<|dA c) wd i a)<|Ig S k (λb=>dz (wd i) b<|j / k) (λb=>dA (wd i) b<|j % k) a) (n * k)=_;rw[OO i];exact OF
def Tt{S:SR}{l ws:w1h}{n k:Nat}{dB dy N9 dQ:w1a S}{dz dA:w1c S} :
    Aa S l (n * k) (Ig S k dB dy) (λc=>GV S k (dz c)<|dA c) (Ig S k N9 dQ) ws=S.mul (Aa S l n dB dz N9 ws) (Aa S l k dy dA dQ ws):=by
 unfold Aa;rw[OO,OF]
def cv(S:SR)(f g:w1h->S.W)(ws:w1h):S.W:=sm S (λq=>S.mul (f<|ws.take q)<|g<|ws.drop q) (ws.length+1)
theorem FF{S:SR}(f:w1a S):∀n,sm S f (n+1)=S.add (f 0) (sm S (λi=>f<|i+1) n)
 | 0=>by show S.add S.zero (f 0)=S.add (f 0) S.zero;rw[S.add_comm]
 | n+1=>by
  show S.add (sm S f<|n+1) (f<|n+1)=S.add (f 0) (S.add (sm S (λi=>f<|i+1) n)<|f<|n+1);rw[FF f n,S.add_assoc]
theorem Oh{S:SR}:∀(n:Nat) (f:w1a S),sm S (λq=>f<|n - q) (n+1)=sm S f (n+1)
 | 0,_=>rfl
 | n+1,f=>by
  rw[FF,d9 (g:=λq=>f<|n - q) (λq _=>by rw[Nat.add_sub_add_right]),Oh n f];show S.add (f<|n+1 - 0) (sm S f<|n+1)=S.add (sm S f<|n+1) (f<|n+1);rw[S.add_comm];rfl
def XY{S:SR}(f g:w1h->S.W)(ws:w1h):cv S f g ws.reverse=cv S (λu=>g u.reverse) (λu=>f u.reverse) ws:=by
 unfold cv;rw[de,<- Oh];show d9 λq hq=>?_;have e1:ws.reverse.take (ws.length - q)=(ws.drop q).reverse:=by rw[List.take_reverse];congr 1;congr 1;omega
 have e2:ws.reverse.drop (ws.length - q)=(ws.take q).reverse:=by rw[List.drop_reverse];congr 1;congr 1;omega
 rw[e1,e2,S.mul_comm]
def Ta{S:SR}{f f' g g':w1h->S.W}{ws:w1h}(h1:∀q,q<=ws.length->f (ws.take q)=f' (ws.take q))(h2:∀q,q<=ws.length->g (ws.drop q)=g' (ws.drop q)):cv S f g ws=cv S f' g' ws:=
 d9 λq hq=>by rw[h1 q Z,h2 q Z]
def UO{S:SR}(f g h:w1h->S.W)(ws:w1h):cv S f (λu=>S.add (g u)<|h u) ws=S.add (cv S f g ws) (cv S f h ws):=by unfold cv;rw[<- Eh];exact d9 λq _=>S.distrib _ _ _
def UP{S:SR}(f g h:w1h->S.W)(ws:w1h):cv S (λu=>S.add (f u)<|g u) h ws=S.add (cv S f h ws) (cv S g h ws):=by unfold cv;rw[<- Eh];show d9 λq _=>?_;rw[S.mul_comm,S.distrib,S.mul_comm,S.mul_comm<|h _]
theorem Ru{S:SR}(F:w1b S):∀n,sm S (λp=>sm S (λq=>F q p)<|p+1) n=sm S (λq=>sm S (λr=>F q<|q+r)<|n - q) n
 | 0=>rfl
 | n+1=>by
  show S.add (sm S (λp=>sm S (λq=>F q p)<|p+1) n) (sm S (λq=>F q n)<|n+1)=S.add (sm S (λq=>sm S (λr=>F q<|q+r)<|n+1 - q) n) (sm S (λr=>F n<|n+r)<|n+1 - n);have e1:sm S (λq=>sm S (λr=>F q<|q+r)<|n+1 - q) n=S.add (sm S (λq=>sm S (λr=>F q<|q+r)<|n - q) n) (sm S (λq=>F q n) n):=by rw[<- Eh];show d9 λq hq=>?_;rw[show n+1 - q=(n - q)+1 by omega];show S.add _ (F q<|q+(n - q))=_;rw[show q+(n - q)=n by omega]
  have e2:sm S (λr=>F n<|n+r) (n+1 - n)=F n n:=by rw[show n+1 - n=1 by omega];show S.add S.zero (F n<|n+0)=_;rw[S.add_comm,S.add_zero];rfl
  rw[e1,e2,Ru F n,S.add_assoc];rfl
def Tc{S:SR}(f g h:w1h->S.W)(ws:w1h):cv S (cv S f g) h ws=cv S f (cv S g h) ws:=by
 unfold cv;have e1:∀p,p < ws.length+1->S.mul (sm S (λq=>S.mul (f<|(ws.take p).take q)<|g<|(ws.take p).drop q)<|(ws.take p).length+1) (h<|ws.drop p)=sm S (λq=>S.mul (S.mul (f<|ws.take q)<|g<|(ws.take p).drop q)<|h<|ws.drop p) (p+1):=λp hp=>by
  rw[U5,aM,bN Z];show d9 λq hq=>?_;rw[List.take_take,bN Z]
 rw[d9 e1,Ru<|λq p=>S.mul (S.mul (f<|ws.take q)<|g<|(ws.take p).drop q)<|h<|ws.drop p];show d9 λq hq=>?_;rw[Q4,aK,show ws.length+1 - q=ws.length - q+1 by omega];show d9 λr hr=>?_;rw[S.mul_assoc,List.drop_drop,List.take_drop]
def e0(S:SR)(ws:w1h):S.W:=if ws=[]then S.one else S.zero
def Ed{S:SR}(x:S.W):S.mul S.zero x=S.zero:=by rw[S.mul_comm,S.mul_zero]
def m0y{S:SR}(f:w1h->S.W)(ws:w1h):cv S (e0 S) f ws=f ws:=by
 unfold cv;rw[FF,d9 (g:=λ_=>S.zero),Ac,S.add_zero]
 . show S.mul (e0 S<|ws.take 0) (f<|ws.drop 0)=_;rw[List.take_zero,List.drop_zero,show e0 S []=S.one from if_pos Y,S.mul_comm,S.mul_one]
 . intro q hq;rw[show e0 S (ws.take<|q+1)=S.zero from if_neg (by
    intro z;have:=congrArg List.length z;rw[aM,bW]at this;omega),Ed]
def m0x{S:SR}(f:w1h->S.W)(ws:w1h):cv S f (e0 S) ws=f ws:=by
 have:=XY f (e0 S) ws.reverse;rw[List.reverse_reverse]at this;rw[this];have e:(λu:w1h=>e0 S u.reverse)=e0 S:=by
  funext u;unfold e0;by_cases z:u=[]
  . subst z;rfl
  . rw[if_neg z,if_neg<|λh=>z<|List.reverse_eq_nil_iff.mp h]
 rw[e,m0y,List.reverse_reverse]
def Rg{S:SR}{a x y:w1h->S.W}(ha:a []=S.zero)(hx:∀ws,x ws=S.add (e0 S ws) (cv S x a ws))(hy:∀ws,y ws=S.add (e0 S ws) (cv S y a ws)):∀(n:Nat) (ws:w1h),ws.length=n->x ws=y ws:=by
 intro n
 induction n using Nat.strongRecOn with
 | _ n ih=>
  intro ws hw;rw[hx,hy];congr 1;unfold cv;show S.add (sm S (λq=>S.mul (x<|ws.take q)<|a<|ws.drop q) ws.length) (S.mul (x<|ws.take ws.length)<|a<|ws.drop ws.length)=S.add (sm S (λq=>S.mul (y<|ws.take q)<|a<|ws.drop q) ws.length) (S.mul (y<|ws.take ws.length)<|a<|ws.drop ws.length);rw[List.drop_length,ha,S.mul_zero,S.mul_zero,d9 (n:=ws.length)];intro q hq;rw[ih q Z (ws.take q)<|by rw[aM];omega]
def OX{S:SR}{a x:w1h->S.W}(ha:a []=S.zero)(hx:∀ws,x ws=S.add (e0 S ws) (cv S x a ws))(ws:w1h):x ws=S.add (e0 S ws) (cv S a x ws):=by
 show Rg ha hx (y:=λu=>S.add (e0 S u)<|cv S a x u) (λu=>?_) ws.length ws rfl;rw[UP,m0y,Tc];have e:cv S a x u=S.add (a u) (cv S a (cv S x a) u):=by rw[show x=λu=>S.add (e0 S u) (cv S x a u)from funext hx,UO,m0x];congr 2;funext v;rw[<- show x=λu=>S.add (e0 S u) (cv S x a u)from funext hx]
 rw[e]
def TK{S:SR}{l:w1h}{n:Nat}{st en:w1a S}{tb:w1c S}(h0:o3 S st en n=S.zero)(ws:w1h) :
    Aa S l (1+n) (z5 S 0) (λc=>Y9 S n st (tb c) en) (z5 S 0) ws=S.add (e0 S ws) (cv S (Aa S l (1+n) (z5 S 0) (λc=>Y9 S n st (tb c) en)<|z5 S 0) (Aa S l n st tb en) ws):=by
 have a0:Aa S l n st tb en []=S.zero:=h0;have xq:∀q,q<=ws.length->Aa S l (1+n) (z5 S 0) (λc=>Y9 S n st (tb c) en) (z5 S 0) (ws.take q)=cX S n st tb en (X8 l ws) q 0:=λq hq=>by
  rw[FN,aM,bN hq];unfold cX;rw[BJ λi hi=>Kw hi]
 unfold cv;show _=S.add (e0 S ws) (S.add (sm S (λq=>S.mul (Aa S l (1+n) (z5 S 0) (λc=>Y9 S n st (tb c) en) (z5 S 0)<|ws.take q)<|Aa S l n st tb en<|ws.drop q) ws.length)<|S.mul (Aa S l (1+n) (z5 S 0) (λc=>Y9 S n st (tb c) en) (z5 S 0)<|ws.take ws.length)<|Aa S l n st tb en<|ws.drop ws.length);rw[List.drop_length,a0,S.mul_zero,S.add_zero,d9 (g:=λq=>S.mul (cX S n st tb en (X8 l ws) q 0)<|o3 S (K4 S n st tb (λr=>X8 l ws<|q+r)<|ws.length - q) en n) λq hq=>by rw[xq q Z,Kv]];rw[FN];cases hl:ws.length with
 | zero=>
  have:ws=[]:=bu.mp hl;rw[UT,show e0 S ws=S.one from if_pos this];show S.one=S.add S.one S.zero;rw[S.add_zero]
 | succ k=>
  rw[QK,show e0 S ws=S.zero from if_neg (λz=>by rw[z]at hl;cases hl),S.add_comm,S.add_zero]
inductive Sy(W:Type)where
 | nil
 | word (x:w1h)
 | times (c:W) (a:Sy W)
 | one (f:Bool) (a:Sy W)
 | two (f:Nat) (a b:Sy W)
section
variable{S:SR}{l:w1h}
def Ri(S:SR)(D:w1h->S.W):Nat->List Nat->S.W
 | 0,_=>S.one
 | n+1,u=>if u=[]then S.one else sm S (λi=>S.mul (D<|u.take<|i+1)<|Ri S D n<|u.drop<|i+1) u.length
abbrev Ca(S:SR)(D:w1h->S.W)(u:w1h):S.W:=Ri S D u.length u
def FD{D:w1h->S.W}:∀n,Ri S D n []=S.one
 | 0=>rfl
 | n+1=>if_pos rfl
theorem MF{D:w1h->S.W}:∀n m u,u.length<=n->u.length<=m->Ri S D n u=Ri S D m u
 | 0,m,u,h,_=>by rw[bu.mp<|Nat.le_zero.mp h,FD,FD]
 | n+1,0,u,_,h=>by rw[bu.mp<|Nat.le_zero.mp h,FD,FD]
 | n+1,m+1,u,h,h'=>by
  show(if u=[]then S.one else _)=(if u=[]then S.one else _);by_cases e:u=[]
  . rw[if_pos e,if_pos e]
  . rw[if_neg e,if_neg e];exact d9 λi hi=>by rw[MF n m _ (by rw[aK];omega)<|by rw[aK];omega]
def KN{D:w1h->S.W}{u:w1h}(e:u≠[]):Ca S D u=sm S (λi=>S.mul (D<|u.take<|i+1)<|Ca S D<|u.drop<|i+1) u.length:=by have hl:=List.length_pos_iff.mpr e;have h:Ca S D u=Ri S D (u.length+1) u:=MF _ _ u (ae _)<|aY _;rw[h];show(if u=[]then S.one else _)=_;rw[if_neg e];exact d9 λi hi=>by rw[MF u.length (u.drop<|i+1).length _ (by rw[aK];omega)<|ae _]
def wS(S:SR):Sy S.W->List Nat->S.W
 | .nil,_=>S.zero
 | .word x,u=>if u=x then S.one else S.zero
 | .times c a,u=>S.mul c (wS S a u)
 | .one f a,u=>if f=true then Ca S (wS S a) u else wS S a u.reverse
 | .two f a b,u=>if f=0 then S.add (wS S a u) (wS S b u)else if f=1 then cv S (wS S a) (wS S b) u else S.mul (wS S a u) (wS S b u)
def GC(z:Int):Int:=if 20 < z then -2 else z
open Classical in
noncomputable def B4(S:SR):Sy S.W->Int
 | .nil=>0
 | .word x=>x.length+1
 | .times _ a=>B4 S a
 | .one f a=>if B4 S a < 0 then B4 S a else if f=true/\wS S a []≠S.zero then -1 else GC (B4 S a+if f=true then 1 else 0)
 | .two f a b=>if B4 S a < 0 then B4 S a else if B4 S b < 0 then B4 S b else GC (if f=2 then B4 S a * B4 S b else B4 S a+B4 S b)
structure MD(S:SR)where
 n:Nat
 st:w1a S
 tb:w1c S
 en:w1a S
def bM(S:SR)(l:w1h):Sy S.W->MD S
 | .nil=>⟨0,λ_=>S.zero,λ_ _ _=>S.zero,λ_=>S.zero⟩
 | .word x=>⟨x.length+1,λi=>S.mul S.one<|z5 S 0 i,λc i=>Dw S x (l.getD c 0) i,z5 S x.length⟩
 | .times c a=>let m:=bM S l a;⟨m.n,λi=>S.mul c<|m.st i,m.tb,m.en⟩
 | .one f a=>let m:=bM S l a;if f=true then⟨1+m.n,z5 S 0,λc=>Y9 S m.n m.st (m.tb c) m.en,z5 S 0⟩else⟨m.n,m.en,λc i j=>m.tb c j i,m.st⟩
 | .two f a b=>let m:=bM S l a;let k:=bM S l b;if f=0 then⟨m.n+k.n,Ab S m.n m.st k.st,λc=>Hd S m.n (m.tb c) (λ_ _=>S.zero)<|k.tb c,Ab S m.n m.en k.en⟩else if f=1 then⟨m.n+k.n,Ab S m.n m.st λj=>S.mul (o3 S m.st m.en m.n)<|k.st j,λc=>Hd S m.n (m.tb c) (λi j=>S.mul (o3 S (m.tb c i) m.en m.n)<|k.st j)<|k.tb c,Ab S m.n (λ_=>S.zero) k.en⟩else⟨m.n * k.n,Ig S k.n m.st k.st,λc=>GV S k.n (m.tb c)<|k.tb c,Ig S k.n m.en k.en⟩
abbrev MD.g(m:MD S)(l u:w1h):S.W:=Aa S l m.n m.st m.tb m.en u
def Mo(S:SR)(l:w1h):Sy S.W->Prop
 | .nil=>True
 | .word x=>x.length<=3/\∀c∈x,c∈l
 | .times c a=>S.lv 1 32 c/\Mo S l a
 | .one _ a=>Mo S l a
 | .two f a b=>f < 3/\Mo S l a/\Mo S l b
def Ma{m:MD S}(h0:m.g l []=S.zero):∀(n:Nat) (u:w1h),u.length=n->Aa S l (1+m.n) (z5 S 0) (λc=>Y9 S m.n m.st (m.tb c) m.en) (z5 S 0) u=Ca S (m.g l) u:=by
 intro n
 induction n using Nat.strongRecOn with
 | _ n ih=>
  intro u hu;have h:=OX (a:=m.g l) h0 (λws=>TK (st:=m.st) (en:=m.en) (tb:=m.tb) h0 ws) u;rw[h];by_cases e:u=[]
  . rw[e];show S.add (if []=[]then S.one else S.zero) (S.add S.zero<|S.mul (m.g l []) _)=S.one;rw[if_pos Y,h0,Ed,S.add_zero,S.add_zero]
  . rw[KN e,show e0 S u=S.zero from if_neg e,zero_add];show sm S _ (u.length+1)=_;rw[FF];show S.add (S.mul (m.g l []) _) _=_;rw[h0,Ed,zero_add];exact d9 λi hi=>congrArg (S.mul _) (ih _ (by rw[aK];omega) _ Y)
def Vp{z:Int}(h:0<=z):0<=GC z\/GC z = -1\/GC z = -2:=by unfold GC;split <;>omega
theorem AH:∀s:Sy S.W,0<=B4 S s\/B4 S s = -1\/B4 S s = -2
 | .nil=>.inl (Int.le_refl _)
 | .word x=>.inl (by show(0:Int)<=x.length+1;omega)
 | .times _ a=>AH a
 | .one f a=>by
  have:=AH a;rw[B4];split
  . omega
  split
  . exact .inr (.inl Y)
  . exact Vp (by split <;>omega)
 | .two f a b=>by
  have:=AH a;have:=AH b;rw[B4];split
  . omega
  split
  . omega
  . show Vp ?_;split
    . exact Int.mul_nonneg Z Z
    . omega
def Ou{z:Int}(h:0<=GC z):GC z=z/\z<=20:=by
 unfold GC at h ⊢;split at h
 . omega
 . rename_i e;rw[if_neg e];omega
theorem Cq(L:FM l):∀s:Sy S.W,Mo S l s->0<=B4 S s->((bM S l s).n:Int)=B4 S s/\B4 S s<=20/\∀u,(∀c∈u,c∈l)->(bM S l s).g l u=wS S s u
 | .nil,_,_=>⟨Y,by show(0:Int)<=20;decide,λu _=>rfl⟩
 | .word x,o,_=>⟨by show((x.length+1:Nat):Int)=x.length+1;omega,by have:=o.1;show(x.length:Int)+1<=20;omega,λu hu=>Ms L hu⟩
 | .times c a,o,h=>by
  obtain⟨h1,h2,h3⟩:=Cq L a o.2 h;exact⟨h1,h2,λu hu=>Mt.trans<|congrArg (S.mul c)<|h3 u hu⟩
 | .one f a,o,h=>by
  have h':0<=B4 S (.one f a):=h;unfold B4 at h';split at h'
  . omega
  rename_i hz;obtain⟨h1,h2,h3⟩:=Cq L a o Z;split at h'
  . omega
  rename_i hn;obtain⟨e1,e2⟩:=Ou h';have e:B4 S (.one f a)=B4 S a+if f=true then 1 else 0:=by rw[B4,if_neg hz,if_neg hn];exact e1
  rw[e];cases f with
  | false=>exact⟨by show((bM S l a).n:Int)=_+0;rw[h1,cD],e2,λu hu=>Mr.trans<|h3 _ λc hc=>hu c<|List.mem_reverse.mp hc⟩
  | true=>
   have h0:(bM S l a).g l []=S.zero:=(h3 []<|λc hc=>nomatch hc).trans<|Classical.byContradiction λz=>hn ⟨Y,z⟩;show⟨by show((1+(bM S l a).n:Nat):Int)=_+1;omega,e2,λu hu=>(Ma h0 _ u Y).trans ?_⟩;show Ri S _ u.length u=Ri S _ u.length u;have je:∀(n:Nat) (v:w1h),(∀c∈v,c∈l)->Ri S ((bM S l a).g l) n v=Ri S (wS S a) n v:=λn=>by
    induction n with
    | zero=>exact λ_ _=>rfl
    | succ n ih=>
     intro v hv;show(if v=[]then S.one else _)=(if v=[]then S.one else _);split
     . rfl
     . exact d9 λi hi=>by rw[ih _<|λc hc=>hv c<|cE hc,h3 _<|λc hc=>hv c<|bS hc]
   exact je _ u hu
 | .two f a b,o,h=>by
  have h':0<=B4 S (.two f a b):=h;unfold B4 at h';split at h'
  . omega
  rename_i hz;split at h'
  . omega
  rename_i fj;obtain⟨a1,a2,a3⟩:=Cq L a o.2.1 Z;obtain⟨b1,b2,b3⟩:=Cq L b o.2.2 Z;obtain⟨e1,e2⟩:=Ou h';have e:B4 S (.two f a b)=if f=2 then B4 S a * B4 S b else B4 S a+B4 S b:=by rw[B4,if_neg hz,if_neg fj];exact e1
  rw[e];have f3:=o.1;rcases(by omega:f=0\/f=1\/f=2)with rfl | rfl | rfl
  . show⟨?_,e2,λu hu=>OR.trans ?_⟩
    . show(((bM S l a).n+(bM S l b).n:Nat):Int)=_+_;omega
    . show S.add ((bM S l a).g l u) ((bM S l b).g l u)=_;rw[a3 u hu,b3 u hu];rfl
  . show⟨?_,e2,λu hu=>Mu.trans ?_⟩
    . show(((bM S l a).n+(bM S l b).n:Nat):Int)=_+_;omega
    . exact Ta (λq _=>a3 _ λc hc=>hu c<|bS hc) λq _=>b3 _ λc hc=>hu c (cE hc)
  . show⟨?_,e2,λu hu=>Tt.trans ?_⟩
    . show(((bM S l a).n * (bM S l b).n:Nat):Int)=_ * _;rw[cy,a1,b1]
    . show S.mul ((bM S l a).g l u) ((bM S l b).g l u)=_;rw[a3 u hu,b3 u hu];rfl
def mS{W:Type}:Sy W->Nat
 | .nil=>1
 | .word _=>2
 | .times _ a=>mS a+1
 | .one f a=>if f=true then mS a+mS a+mS a else mS a
 | .two f a b=>if f=0 then max (mS a) (mS b)else if f=1 then max (mS a) (mS b)+max (mS a) (mS b)+max (mS a) (mS b)else mS a+mS b
def vS{W:Type}:Sy W->Nat
 | .nil=>1
 | .word _=>1
 | .times _ a=>vS a+1
 | .one f a=>if f=true then 5 * vS a else vS a
 | .two f a b=>if f=0 then max (vS a) (vS b)+1 else vS a+vS b
def GN{W:Type}:Sy W->Nat
 | .nil=>1
 | .word _=>1
 | .times _ a=>GN a+1
 | .one _ a=>GN a+1
 | .two _ a b=>max (GN a) (GN b)+1
theorem GD{W:Type}:∀s:Sy W,1<=mS s
 | .nil=>ae _
 | .word _=>by show 1<=2;decide
 | .times _ a=>by show 1<=mS a+1;omega
 | .one f a=>by have:=GD a;unfold mS;split <;>omega
 | .two f a b=>by have:=GD a;have:=GD b;unfold mS;split <;>(try split) <;>omega
theorem FQ{W:Type}:∀s:Sy W,1<=vS s
 | .nil=>ae _
 | .word _=>ae _
 | .times _ a=>by show 1<=vS a+1;omega
 | .one f a=>by have:=FQ a;unfold vS;split <;>omega
 | .two f a b=>by have:=FQ a;have:=FQ b;unfold vS;split <;>omega
def LA{j k c:Nat}{x:S.W}(h:S.lv j c x)(hc:c<=32)(e:j<=k):S.lv k 32 x:=by obtain⟨d,rfl⟩:∃d,k=j+d:=⟨k - j,Z⟩;exact S.lv_mono _ _ _ _ hc (CW h)
def Ov{j:Nat}{x:S.W}(h:S.lv j 32 x):S.lv (j+1) 1 x:=by have:=S.lv_mul _ _ _ _ h<|S.lv_mono _ _ 32 _ bD S.lv_one;rwa [S.mul_one]at this
theorem Rh{D:w1h->S.W}{v m:Nat}(v1:1<=v)(hD:∀u,u.length<=m->S.lv v 32 (D u))(hm:m<=30):∀(n:Nat) (u:w1h),u.length<=n->u.length<=m->S.lv ((u.length+1) * v) 32 (Ri S D n u)
 | 0,u,_,_=>LA S.lv_one bD (ah v1<|dj _<|Nat.succ_pos _)
 | n+1,u,h,h'=>by
  show S.lv _ 32 (if u=[]then S.one else _);split
  . exact LA S.lv_one bD (ah v1<|dj _<|Nat.succ_pos _)
  . show S.lv_mono _ _ _ _ Z<|Og (n:=u.length) λi hi=>?_;have hd:(u.drop<|i+1).length=u.length - (i+1):=aK;have ht:(u.take<|i+1).length<=m:=by rw[aM];omega
    have z:=S.lv_mul _ _ _ _ (hD _ ht)<|Rh v1 hD hm n (u.drop<|i+1) Z Z;have le:v+((u.drop<|i+1).length+1) * v<=(u.length+1) * v:=by rw[hd,bZ,<- aV];exact bf _ Z
    obtain⟨d,e⟩:∃d,(u.length+1) * v=v+((u.drop<|i+1).length+1) * v+d:=⟨_,(Nat.add_sub_cancel' le).symm⟩;rw[e];exact CW z
theorem S8:∀(s:Sy S.W),Mo S l s->∀u:w1h,u.length<=4->S.lv (vS s) 32 (wS S s u)
 | .nil,_,_,_=>S.lv_mono _ _ _ _ bD (S.lv_zero 1)
 | .word x,_,u,_=>by
  show S.lv 1 32 (if u=x then S.one else S.zero);split
  . exact S.lv_mono _ _ _ _ bD S.lv_one
  . exact S.lv_mono _ _ _ _ bD (S.lv_zero 1)
 | .times c a,o,u,hu=>by
  have:=S.lv_mul _ _ _ _ (S8 a o.2 u hu) o.1;rw[S.mul_comm]at this;exact S.lv_mono _ _ _ _ bD this
 | .one f a,o,u,hu=>by
  cases f with
  | false=>exact S8 a o u.reverse (by rw[de];exact hu)
  | true=>
   have:=Rh (m:=4) (FQ a) (λv hv=>S8 a o v hv) bD u.length u (ae _) hu;exact LA this (ae _) (bf _ Z)
 | .two f a b,o,u,hu=>by
  have f3:=o.1;rcases(by omega:f=0\/f=1\/f=2)with rfl | rfl | rfl
  . have x:=Ov<|LA (S8 a o.2.1 u hu) (ae _)<|Nat.le_max_left (vS a)<|vS b;have y:=Ov<|LA (S8 b o.2.2 u hu) (ae _)<|Nat.le_max_right (vS a)<|vS b;exact S.lv_mono _ _ _ _ bD (S.lv_add _ _ _ _ _ x y)
  . exact S.lv_mono _ _ _ _ Z (Og (n:=u.length+1) λq _=>S.lv_mul _ _ _ _ (S8 a o.2.1 (u.take q)<|by rw[aM];omega)<|S8 b o.2.2 (u.drop q)<|by rw[aK];omega)
  . exact S.lv_mono _ _ _ _ bD (S.lv_mul _ _ _ _ (S8 a o.2.1 u hu)<|S8 b o.2.2 u hu)
end
def nN:w1h:=[110,105,108]
def nW:w1h:=[119,111,114,100]
def nT:w1h:=[116,105,109,101,115]
def n1(f:Bool):w1h:=if f=true then [115,116,97,114]else [98,97,99,107]
def n2:Nat->List Nat
 | 0=>[115,117,109]
 | 1=>[116,104,101,110]
 | _=>[98,111,116,104]
def M9:Str.ofString "nil"=tx nN:=by decide +kernel
def E4:Str.ofString "word"=tx nW:=by decide +kernel
def Y7:Str.ofString "times"=tx nT:=by decide +kernel
def O0:Str.ofString "star"=tx (n1 true):=by decide +kernel
def Ec:Str.ofString "back"=tx (n1 false):=by decide +kernel
def R4:Str.ofString "sum"=tx (n2 0):=by decide +kernel
def Ax:Str.ofString "then"=tx (n2 1):=by decide +kernel
def Bt:Str.ofString "both"=tx (n2 2):=by decide +kernel
def GA(f:Nat):n2 f=n2 0\/n2 f=n2 1\/n2 f=n2 2:=by
 match f with
 | 0=>exact .inl rfl
 | 1=>exact .inr (.inl Y)
 | (n+2)=>exact .inr (.inr Y)
section
variable{W:Type}
def AF:Sy W->List Nat
 | .nil=>nN
 | .word _=>nW
 | .times _ _=>nT
 | .one f _=>n1 f
 | .two f _ _=>n2 f
def exN:Sy W->Nat
 | .word _=>1
 | .times _ _=>1
 | _=>0
def Cj:Sy W->List (Sy W)
 | .times _ a=>[a]
 | .one _ a=>[a]
 | .two _ a b=>[a,b]
 | _=>[]
def Ny(s:Sy W):1<=GN s:=by cases s <;>simp[GN]
def SM{s a:Sy W}(h:a∈Cj s):GN a+1<=GN s:=by
 cases s <;>simp[Cj]at h
 . subst h;exact ae _
 . subst h;exact ae _
 . rcases h with rfl | rfl
   . show _<=max _ _+1;omega
   . show _<=max _ _+1;omega
def m0g{s a:Sy W}(h:a∈Cj s):mS a<=mS s:=by
 cases s with
 | nil=>cases h
 | word x=>cases h
 | times c x=>
  cases aq.mp h;exact aY _
 | one f x=>
  cases aq.mp h;show mS a<=if f=true then mS a+mS a+mS a else mS a
  split <;>omega
 | two f x y=>
  have e:a=x\/a=y:=by simpa [Cj] using h
  show mS a<=if f=0 then max (mS x) (mS y)else if f=1 then max (mS x) (mS y)+max (mS x) (mS y)+max (mS x) (mS y)else mS x+mS y
  rcases e with rfl | rfl <;>(split <;>(try split) <;>omega)
def NW{s a:Sy W}(h:a∈Cj s):vS a<=vS s:=by
 cases s with
 | nil=>cases h
 | word x=>cases h
 | times c x=>
  cases aq.mp h;exact aY _
 | one f x=>
  cases aq.mp h;show vS a<=if f=true then 5 * vS a else vS a
  split <;>omega
 | two f x y=>
  have e:a=x\/a=y:=by simpa [Cj] using h
  show vS a<=if f=0 then max (vS x) (vS y)+1 else vS x+vS y
  rcases e with rfl | rfl <;>(split <;>omega)
end
def RY{S:SR}{l:w1h}{s a:Sy S.W}(o:Mo S l s)(h:a∈Cj s):Mo S l a:=by
 cases s <;>simp[Cj]at h
 . subst h;exact o.2
 . subst h;exact o
 . rcases h with rfl | rfl
   . exact o.2.1
   . exact o.2.2
def SV(R:c5 Pr w K mg base):Sy R.S.W->V->Hp->Prop
 | .nil,v,H=>∃p,v=.ref p/\H p=some (.tup [vT nN])
 | .word x,v,H=>∃p,v=.ref p/\H p=some (.tup [vT nW,vT x])
 | .times d a,v,H=>∃p u y,v=.ref p/\H p=some (.tup [vT nT,u,y])/\R.is H u d/\SV R a y H
 | .one f a,v,H=>∃p y,v=.ref p/\H p=some (.tup [vT<|n1 f,y])/\SV R a y H
 | .two f a b,v,H=>∃p y z,v=.ref p/\H p=some (.tup [vT<|n2 f,y,z])/\SV R a y H/\SV R b z H
section
variable{R:c5 Pr w K mg base}
theorem SV.same{H H':Hp}(e:D7 H H'):∀{s:Sy R.S.W} {v:V},SV R s v H->SV R s v H'
 | .nil,_,⟨p,rfl,h⟩=>⟨p,Y,e _ _ h⟩
 | .word _,_,⟨p,rfl,h⟩=>⟨p,Y,e _ _ h⟩
 | .times _ _,_,⟨p,u,y,rfl,h,h1,h2⟩=>⟨p,u,y,Y,e _ _ h,R.same e h1,SV.same e h2⟩
 | .one _ _,_,⟨p,y,rfl,h,h2⟩=>⟨p,y,Y,e _ _ h,SV.same e h2⟩
 | .two _ _ _,_,⟨p,y,z,rfl,h,h1,h2⟩=>⟨p,y,z,Y,e _ _ h,SV.same e h1,SV.same e h2⟩
def SV.look:∀{s:Sy R.S.W} {v:V} {H:Hp},SV R s v H->∃p es vs,v=.ref p/\H p=some (.tup<|(vT (AF s)::es)++vs)/\es.length=exN s/\vs.length=(Cj s).length/\∀(i:Nat) u,vs[i]? = some u->∃a,(Cj s)[i]? = some a/\SV R a u H
 | .nil,_,_,⟨p,rfl,h⟩=>⟨p,[],[],Y,h,Y,Y,λi u e=>by simp at e⟩
 | .word _,_,_,⟨p,rfl,h⟩=>⟨p,[_],[],Y,h,Y,Y,λi u e=>by simp at e⟩
 | .times _ a,_,_,⟨p,u,y,rfl,h,h1,h2⟩=>⟨p,[u],[y],Y,h,Y,Y,λi z e=>by
  cases i with
  | zero=>cases e;exact⟨a,Y,h2⟩
  | succ i=>simp at e⟩
 | .one _ a,_,_,⟨p,y,rfl,h,h2⟩=>⟨p,[],[y],Y,h,Y,Y,λi z e=>by
  cases i with
  | zero=>cases e;exact⟨a,Y,h2⟩
  | succ i=>simp at e⟩
 | .two _ a b,_,_,⟨p,y,z,rfl,h,h1,h2⟩=>⟨p,[],[y,z],Y,h,Y,Y,λi u e=>by
  match i,e with
  | 0,e=>cases e;exact⟨a,Y,h1⟩
  | 1,e=>cases e;exact⟨b,Y,h2⟩
  | (i+2),e=>simp at e⟩
end
def GR{W:Type}(s:Sy W):exN s<=1/\(Cj s).length<=2:=by cases s <;>simp[exN,Cj]
def Jd{a b:w1h}(h:tx a=tx b):a=b:=by have:=congrArg (λz:Str=>z.cps.toList) h;simpa [tx] using this
def VA:List (Str × Int):=[(Str.ofString "nil",0),(Str.ofString "word",0),(Str.ofString "times",1),(Str.ofString "sum",2),(Str.ofString "then",2),(Str.ofString "both",2),(Str.ofString "back",1),(Str.ofString "star",1)]
def YD{W:Type}(s:Sy W):E5 (UH VA) (.inr<|tx<|AF s)=some (.int ((Cj s).length:Nat)):=by
 cases s with
 | nil=>show E5 (UH VA) (.inr<|tx nN)=some (.int (0:Nat));decide +kernel
 | word x=>show E5 (UH VA) (.inr<|tx nW)=some (.int (0:Nat));decide +kernel
 | times d a=>show E5 (UH VA) (.inr<|tx nT)=some (.int (1:Nat));decide +kernel
 | one f a=>cases f <;>(show E5 (UH VA) (.inr<|tx<|n1 _)=some (.int (1:Nat));decide +kernel)
 | two f a b=>
  show E5 (UH VA) (.inr<|tx<|n2 f)=some (.int (2:Nat));rcases GA f with e | e | e <;>rw[e] <;>decide +kernel
structure WK(w:World)(K:aa)(mg:w1g)(a:Addr):Prop where
 m:mg (Str.ofString "WITHIN")=some (.ref a)
 d:To Pr w K a VA
def GU{xs:List V}{k:Nat}(h:k<=xs.length):AE xs (some (k:Int)) none=xs.drop k:=by unfold AE;rw[HT.Le,HT.Om,bN h];exact cZ (by rw[aK];exact ae _)
variable(w K mg base)in def OY:Sp:=λvs H Q _=>∃(R:c5 Pr w K mg base),∃s v,vs=[v]/\SV R s v H/\∀q us H',g9 H H'->H' q=some (.tup us)->us.length=(Cj s).length->(∀(i:Nat) u,us[i]? = some u->∃a,(Cj s)[i]? = some a/\SV R a u H')->Q (.ref q) H'
def DP(hW:WK w K mg aW):j2 Pr w K mg base B7 1 t.p0k t.o0k [Kx] (OY w K mg base):=by
 show T.o0i.F.okA Dy λ_ _ _ s H _ _ _ hr h=>?_;obtain⟨R,s,v,rfl,hv,k⟩:=h;obtain⟨p,es,us,rfl,hp,le,lu,hu⟩:=hv.look;obtain⟨x1,x2⟩:=GR s;show⟨_,(a9<|c6<|M3 Jm (O 0) (S4<|j4 Ey (i0 l5 bR T.z_len PySem.boot_len<|o9<|O 0)<|c0d hW.d (V7 (v:=.ref aW) Y hW.m Y) (o5 c9 (O 0) a7)<|λ_ _=>rfl) S5),?_⟩;have ln:R1 K (.ref p) H (1+es.length+us.length):=.inr ⟨_,j3.of hp,by simp;omega⟩;show vb Y Y<|zc ⟨Y,ln,?_⟩;have e0:Do ((vT (AF s)::es)++us) 0=some (vT<|AF s):=y9 (show((vT (AF s)::es)++us)[0]? = some (vT<|AF s)from rfl);show U Y<|ze ⟨Y,Y,j3.of hp,e0,zc ⟨Y,Y,YD s,zc ⟨Y,Y,U Y ?_⟩⟩⟩;have ei:((1+es.length+us.length:Nat):Int) - ((Cj s).length:Nat)=((1+es.length:Nat):Int):=by omega
 dsimp only;rw[ei];show⟨p,U Y ⟨j3.of hp,hp,λq H' s' hq=>k q us _ s' ?_ lu λi u e=>let⟨a,e1,e2⟩:=hu i u e;⟨a,e1,e2.same s'.t⟩⟩⟩;rw[hq,GU<|by simp;omega];rw[List.drop_append_of_le_length (by simp;omega),List.drop_eq_nil_of_le (by simp;omega),List.nil_append]
def fN{x y:w1h}{z:Str}{A B:Prop}(hz:z=tx y)(ne:x≠y)(q:B):if decide (V.str (tx x)=V.str z)=true then A else B:=Nv (decide_eq_false λe=>ne<|Jd<|(V.str.inj e).trans hz) q
def fY{x:w1h}{z:Str}{A B:Prop}(hz:z=tx x)(q:A):if decide (V.str (tx x)=V.str z)=true then A else B:=Qo (decide_eq_true<|congrArg V.str hz.symm) q
theorem y6.up{R:c5 Pr w K mg base}{l:w1h}{n:Nat}{st:w1a R.S}{tb:w1c R.S}{en:w1a R.S}{a b c m:Nat}{v:V}{H:Hp}(h:y6 R l n st tb en a b c v H)(ha:a<=m)(hb:b<=m)(hc:c<=m):y6 R l n st tb en m m m v H:=by obtain⟨p,sv,tv,ev,rfl,hp,h1,h2,h3⟩:=h;exact⟨p,sv,tv,ev,Y,hp,Row.up ha h1,h2.mono (D7.refl _) λ_ _ _ q=>Tab.up hb q,Row.up hc h3⟩
abbrev MM(R:c5 Pr w K mg base)(l:w1h)(m:MD R.S)(k:Nat)(v:V)(H:Hp):Prop:=y6 R l m.n m.st m.tb m.en k k k v H
section
variable{S:SR}
def FT{s:Sy S.W}{j:Nat}{a:Sy S.W}(e:(Cj s)[j]? = some a)(h:∀i b,i < j->(Cj s)[i]? = some b->0<=B4 S b)(n:B4 S a < 0):B4 S s=B4 S a:=by
 cases s with
 | nil=>cases e
 | word x=>cases e
 | times c x=>
  cases j with
  | zero=>cases e;rfl
  | succ j=>cases e
 | one f x=>
  cases j with
  | zero=>cases e;rw[B4,if_pos n]
  | succ j=>cases e
 | two f x y=>
  match j,e with
  | 0,e=>cases e;rw[B4,if_pos n]
  | 1,e=>
   cases e;have:=h 0 x bD rfl;rw[B4,if_neg Z,if_pos n]
def Jf{a:Sy S.W}(h:0<=B4 S a)(e:wS S a []=S.zero):B4 S (.one true a)=GC (B4 S a+1):=by rw[B4,if_neg Z,if_neg λz=>z.2 e];exact congrArg (λz=>GC<|B4 S a+z) (if_pos Y)
def NZ{a:Sy S.W}(h:0<=B4 S a)(e:wS S a []≠S.zero):B4 S (.one true a) = -1:=by rw[B4,if_neg Z,if_pos ⟨Y,e⟩]
def As{z:Int}(h:z<=20):GC z=z:=if_neg Z
def Bj{z:Int}(h:20 < z):GC z = -2:=if_pos h
def Oa{a:Sy S.W}(h:0<=B4 S a)(iY:B4 S a<=20):B4 S (.one false a)=B4 S a:=by rw[B4,if_neg Z,if_neg λz=>nomatch z.1];show GC (B4 S a+0)=_;rw[cD];exact As iY
def Rf{f:Nat}{a b:Sy S.W}(h:0<=B4 S a)(h':0<=B4 S b):B4 S (.two f a b)=GC (if f=2 then B4 S a * B4 S b else B4 S a+B4 S b):=by rw[B4,if_neg Z,if_neg Z]
end
variable(w K mg base)in def Eg(t:Vz)(N:Nat):Sp:=λvs H Q E=>∃(R:c5 Pr w K mg base),∃kv l v s,vs=[kv,vT l,v]/\(Bv R.C R.fs H kv/\SV R s v H/\FM l/\Mo R.S l s/\GN s<=N/\mS s<=30000)/\
 (0<=B4 R.S s->∀v' H',g9 H H'->MM R l (bM R.S l s) (mS s) v' H'->Q v' H')/\(B4 R.S s = -1->∀H',g9 H H'->E (.ref t.u0z) none H')/\(B4 R.S s = -2->∀H',g9 H H'->E (.ref t.v0t) none H')
theorem IB(T:Txt K mg t):∀(N:Nat) {w:World} {base:Heap} (_:WK w K mg aW),j2 Pr w K mg base (Hk Pr w) (N+46) t.x0z t.w0y Sq (Eg w K mg base t N)
 | 0,w,base,hW=>by
  show T.w0v.F.okx DB (λvs H Q E h=>?_) (λdR A outer s H vs Q E hr h=>?_)
  . obtain⟨R,kv,l,v,s,rfl,_⟩:=h;rfl
  . obtain⟨R,kv,l,v,s,rfl,⟨_,_,_,_,h0,_⟩,_⟩:=h;have:=Ny s;omega
 | N+1,w,base,hW=>by
  have Ez:∀{w:World} {base:Heap} (T:Txt K mg t) (_:WK w K mg aW),j2 Pr w K mg base (Hk Pr w) (N+46) t.x0z t.w0y Sq (Eg w K mg base t N):=λT hW=>IB T N hW;show T.w0v.F.okx DB (λvs H Q E h=>?_) (λ_ _ _ s H _ _ _ hr h=>?_)
  . obtain⟨R,kv,l,v,s,rfl,_⟩:=h;rfl
  . obtain⟨R,kv,l,v,sy,rfl,⟨hk,hv,L,o,hh,hm⟩,k0,k1,k2⟩:=h;have zl:=sZ;show⟨_,(a8 (sT 3 DB.nd<|o5 c9 (O 2) a7)<|a8 (Uo K1 (i₀:=4) (xs:=["part"]) DB.nd Y (Or.inl Y) Y (oC Xu<|b9 DJ) (E9<|j8 (DP T hW) (hr.mono Z) Y T.o0i.m T.o0i.F.kp T.o0i.b .nil m8<|o9<|O 2) (λ_ _ _ _ _=>(w5 (i:=5) (by show List.Nodup ([z0,Ja,Kx,"form","made","part"]:w1i);decide +kernel) Y<|Or.inl Y))<|λ_ _ _ _ _=>(L9 (Ez (w:=w) (base:=base) T hW) (hr.mono Z) Y T.w0v.m T.w0v.F.kp T.w0v.b .nil<|O1 (O 0) (O 1)<|O 5))<|a8 (j7 (d7 o4 (O 3) j1<|d8 _) (a9<|c6<|o8<|HC (O 1) (o8 P0) (o6 j9 bR T.z_tuple boot_tuple<|o9<|B9 (xs:=[Mw]) Y (oC Xu<|b9 DJ) (Ew<|O 1) (w5 (i:=5) (by show List.Nodup ([z0,Ja,Kx,"form","made",Mw]:w1i);decide +kernel) Y<|Or.inl Y)<|o8 P0)<|o8 P0) i3)<|a8 (j7 (d7 o4 (O 3) j1<|d8 _) (a9<|c6<|j8 (PM T) (hr.mono Z) Y T.v0g.m T.v0g.F.kp T.v0g.b .nil m8<|HC (O 0) (O 1) (o5 c9 (O 2) a7)<|Y6 (O 0) R.cl R.t_one R.G_one (hr.mono Z) R.b_one .nil m8) i3)<|a8 (j7 (d7 o4 (O 3) j1<|d8 _) (a9<|c6<|j8 (PN T) (hr.mono Z) Y T.v0r.m T.v0r.F.kp T.v0r.b .nil m8<|O1 (O 0) (o5 c9 (O 2) a7)<|o5 l6 (O 4) a7) i3)<|a8 (j7 (d7 o4 (O 3) j1<|d8 _) (a9<|c6<|j8 (PL T) (hr.mono Z) Y T.v0p.m T.v0p.F.kp T.v0p.b .nil m8<|B8 (O 0)<|o5 l6 (O 4) a7) i3)<|a8 (j7 (d7 o4 (O 3) j1<|d8 _) (a9<|c6<|NQ.thru K1<|L9 (MY T) (hr.mono Z) Y T.v0e.m T.v0e.F.kp T.v0e.b .nil<|B8 (O 0)<|o5 l6 (O 4) a7) i3)<|a8 (j7 (d7 o4 (O 3) j1<|d8 _) (a9<|c6<|NQ.thru K1<|L9 (PJ T) (hr.mono Z) Y T.x0g.m T.x0g.F.kp T.x0g.b .nil<|O1 (O 0) (o5 l6 (O 4) a7)<|o5 l6 (O 4) a7) i3)<|a8 (j7 (d7 o4 (O 3) j1<|d8 _) (a9<|c6<|NQ.thru K1<|L9 (MX T) (hr.mono Z) Y T.w0c.m T.w0c.F.kp T.w0c.b .nil<|O1 (O 0) (o5 l6 (O 4) a7)<|o5 l6 (O 4) a7) i3)<|a9<|c6<|NQ.thru K1<|L9 (Lm T) (hr.mono Z) Y T.u0t.m T.u0t.F.kp T.u0t.b .nil<|O1 (O 0) (o5 l6 (O 4) a7)<|o5 l6 (O 4) a7),?_⟩;obtain⟨p,es,us,rfl,hp,le,lu,hu⟩:=hv.look;have e0:Do ((vT (AF sy)::es)++us) 0=some (vT<|AF sy):=y9 (show((vT (AF sy)::es)++us)[0]? = some (vT<|AF sy)from rfl);show U Y<|ze ⟨Y,Y,j3.of hp,e0,?_⟩;show W3 3 (vT<|AF sy) [some kv,some<|vT l,sr p,none,none] H _;obtain⟨_,x2⟩:=GR sy;show U Y ⟨R,zi sy _ ⟨Y,hv,λq ws H1 s1 hq lw hw=>?_⟩⟩;show⟨q,Y,⟨_,j3.of hq⟩,u6 (n:=(Cj sy).length) (λj ys G=>g9 H1 G/\ys.length=j/\(∀i b,i < j->(Cj sy)[i]? = some b->0<=B4 R.S b)/\∀(i:Nat) u,ys[i]? = some u->∃b,(Cj sy)[i]? = some b/\MM R l (bM R.S l b) (mS b) u G) Z ⟨g9.refl _,Y,λi b h=>absurd h<|Nat.not_lt_zero _,λi u e=>by simp at e⟩ (λj ys G z=>z.2.1) ?_ ?_ ?_⟩
    . rintro j ys G hj ⟨s2,ly,hz,hy⟩;obtain⟨x,ex⟩:∃x,ws[j]? = some x:=⟨_,aQ Z⟩;obtain⟨a,ea,sx⟩:=hw j x ex;show⟨zc ⟨j3.of<|s2 _ _ hq,ex⟩,λy H' fJ=>?_⟩;obtain⟨rfl,fJ⟩:=fJ;have:=fJ _<|j3.of<|s2 _ _ hq;rw[ex]at this;cases this;have ma:=aI ea;have h1:=SM ma;have h2:=m0g ma;have FI:=s1.trans s2;show⟨⟨[some _],Y,Y⟩,vc Y Y Y ⟨R,zk kv l x a ⟨Y,⟨hk.same FI,sx.same s2.t,L,RY o ma,Z,Z⟩,λza v' H5 s5 hM=>⟨s2.trans s5,by rw[ar,ly];rfl,λi b hi eb=>?_,λi u eu=>?_⟩,λza H5 s5=>k1 ((FT ea hz Z).trans za) _<|FI.trans s5,λza H5 s5=>k2 ((FT ea hz Z).trans za) _<|FI.trans s5⟩⟩⟩
      . by_cases e:i=j
        . rw[e,ea]at eb;cases eb;exact za
        . exact hz i b Z eb
      . by_cases e:i < ys.length
        . rw[aR e]at eu;obtain⟨b,e1,e2⟩:=hy i u eu;exact⟨b,e1,e2.same s5.t⟩
        . rw[bc Z]at eu;have e0:i - ys.length=0:=by
           rcases h:i - ys.length with _ | n
           . rfl
           . rw[h]at eu;cases eu
          rw[e0]at eu;cases eu;rw[show i=j by omega];exact⟨a,ea,hM⟩
    . rintro ys G ⟨s2,_⟩;exact⟨_,j3.of<|s2 _ _ hq,by rw[lw];exact ae _⟩
    . rintro ys G lp ⟨s2,ly,hz,hy⟩ fI;have t3:=c4 (o:=.lst ys) fI;have k3:=c0 (H:=G) (a:=lp) (o:=.lst ys);have s3:=(s1.trans s2).trans t3;have jf:∀(i:Nat) b,(Cj sy)[i]? = some b->∃u,ys[i]? = some u/\0<=B4 R.S b/\MM R l (bM R.S l b) (mS b) u (upd G lp<|.lst ys):=λi b eb=>by
       have hi:=(aH.mp eb).1;have eu:=aQ (l:=ys) (i:=i) Z;obtain⟨b',e1,e2⟩:=hy i _ eu;rw[eb]at e1;cases e1;exact⟨_,eu,hz i b hi eb,e2.same t3.t⟩
      revert s3 k3 jf;clear t3 fI hy hz s2;generalize upd G lp (.lst ys)=H2;intro k3 s3 jf;have iT:=hk.same s3;have jO:=s3 _ _ hp;have l3:=L.h3;have B:=Cq L sy o;cases sy with
      | nil=>
       show U Y ⟨Y,U Y<|fY (x:=nN) M9 ?_⟩;show U Y ⟨sL,λp1 n1=>?_⟩;show PV (o:=.tup []) n1 λH4 t4 k4=>?_;show vb Y Y ⟨L.asc,u6 (n:=l.length) (λj ys G=>g9 H4 G/\l8 (λ_ u H=>R.Tab 0 0 (λ_ _=>R.S.zero) 1 u H) ys j G) Z ⟨g9.refl _,l8.nil⟩ (λj ys G z=>z.2.1) ?_ ?_ ?_⟩
       . rintro j ys G hj ⟨s5,e5⟩;show⟨(by show j < l.toArray.size;simpa using hj),λx H' hy=>?_⟩;obtain⟨rfl,c,hc,rfl⟩:=hy;show⟨⟨[some _],Y,Y⟩,sL,λp5 n5=>?_⟩;have t6:=c4 (o:=.tup []) n5;exact⟨s5.trans t6,(e5.mono λ_ _ _ z=>c5.Tab.same t6.t z).snoc ⟨p5,[],Y,c0,l8.nil⟩⟩
       . rintro ys G ⟨s5,e5⟩;show l.toArray.size<=_;simp
       . rintro ys G vB ⟨s5,e5⟩ nl;have t6:=c4 (o:=.lst ys) nl;show⟨vB,ys,Y,.inl ⟨y7.of c0,λl2 n2=>?_⟩⟩;have t7:=c4 (o:=.tup ys) n2;show⟨sL,λp8 n8=>?_⟩;have t8:=c4 (o:=.tup []) n8;show⟨sL,λp9 n9=>?_⟩;have t9:=c4 (o:=.tup [vT l,V.ref p1,V.ref l2,V.ref p8]) n9;have u7:=s5.trans<|t6.trans<|t7.trans<|t8.trans t9;exact k0 (Int.le_refl _) _ _ (s3.trans<|t4.trans u7) ⟨p9,_,_,U Y ⟨c0,⟨p1,[],Y,u7 _ _ k4,l8.nil⟩,⟨l2,ys,Y,(t8.trans t9) _ _ c0,e5.mono λ_ _ _ z=>c5.Tab.same (t6.trans<|t7.trans<|t8.trans t9).t z⟩,⟨p8,[],Y,t9 _ _ c0,l8.nil⟩⟩⟩
      | word x=>
       show U Y ⟨Y,U Y<|fN (x:=nW) M9 bD ?_⟩;show U Y ⟨Y,U Y<|fY (x:=nW) E4 ?_⟩;obtain⟨p',e,ir⟩:=id hv;cases e;obtain⟨kp,dx,rfl,pT⟩:=id iT;show vc Y Y Y<|ze ⟨Y,Y,j3.of<|s3 _ _ ir,Y,U Y<|zd ⟨Y,pT,R.l_one,U Y ⟨zc ⟨Y,pT⟩,λbv H4 s4 f4=>?_⟩⟩⟩;have o1:=o.1;show⟨R,zr _ l x bv R.S.one 1 ⟨Y,⟨iT.same s4,⟨L,o.2,Z⟩,Z,f4,R.S.lv_mono _ _ _ _ bD R.S.lv_one,bD⟩,λv' H5 s5 hM=>?_⟩⟩;exact k0 (by show(0:Int)<=x.length+1;omega) _ _ (s3.trans<|s4.trans s5) (y6.up hM (ae _) (show 1<=2 by decide)<|show 1<=2 by decide)
      | times c a=>
       obtain⟨u,eu,za,hM⟩:=jf 0 a rfl;obtain⟨a1,a2,a3⟩:=Cq L a o.2 za;show U Y ⟨Y,U Y<|fN (x:=nT) M9 bD ?_⟩;show U Y ⟨Y,U Y<|fN (x:=nT) E4 bD ?_⟩;show U Y ⟨Y,U Y<|fY (x:=nT) Y7 ?_⟩;obtain⟨p',cu,y,e,ir,hc,_⟩:=id hv;cases e;have gy:mS a+1<=30000:=hm;show vb Y Y<|ze ⟨Y,Y,j3.of<|s3 _ _ ir,Y,U Y<|ze ⟨Y,Y,y7.of k3,y9 eu,R,kv,cu,u,l,ze ⟨c,1,mS a,mS a,mS a,Y,⟨iT,R.same s3.t hc,o.1,hM,Z,Z⟩,λv' H5 s5 h5=>?_⟩⟩⟩;exact k0 za _ _ (s3.trans s5) (y6.up h5 (by show 1+mS a<=mS a+1;omega) (aY _)<|aY _)
      | one f a=>
       obtain⟨u,eu,za,hM⟩:=jf 0 a rfl;obtain⟨a1,a2,a3⟩:=Cq L a o za;cases f with
       | false=>
        show U Y ⟨Y,U Y<|fN (x:=n1 false) M9 bD ?_⟩;show U Y ⟨Y,U Y<|fN (x:=n1 false) E4 bD ?_⟩;show U Y ⟨Y,U Y<|fN (x:=n1 false) Y7 bD ?_⟩;show U Y ⟨Y,U Y<|fY (x:=n1 false) Ec ?_⟩;show vb Y Y<|ze ⟨Y,Y,y7.of k3,y9 eu,R,zw kv u l _ _ _ _ (mS a) (mS a) (mS a) ⟨Y,⟨hM,L,Z⟩,λv' H5 s5 h5=>?_⟩⟩;exact k0 (by rw[Oa za a2];exact za) _ _ (s3.trans s5) h5
       | true=>
        have gy:mS a+mS a+mS a<=30000:=hm;have m1:=GD a;show U Y ⟨Y,U Y<|fN (x:=n1 true) M9 bD ?_⟩;show U Y ⟨Y,U Y<|fN (x:=n1 true) E4 bD ?_⟩;show U Y ⟨Y,U Y<|fN (x:=n1 true) Y7 bD ?_⟩;show U Y ⟨Y,U Y<|fN (x:=n1 true) Ec bD ?_⟩;show U Y ⟨Y,U Y<|fY (x:=n1 true) O0 ?_⟩;have w0:o3 R.S (bM R.S l a).st (bM R.S l a).en (bM R.S l a).n=wS R.S a []:=a3 [] λc hc=>nomatch hc;show vb Y Y (ze ⟨Y,Y,y7.of k3,y9 eu,R,zu kv u l _ _ _ _ (mS a) ⟨Y,⟨iT,hM,L,Z,Z⟩,λe hn v' H5 s5 h5=>?_,λe hn H5 s5=>?_,λe H5 s5=>?_⟩⟩)
        . show k0 ?_ _ _ (s3.trans s5) (y6.up h5 (by show 1<=mS a+mS a+mS a;omega) (ae _)<|by show 1<=mS a+mS a+mS a;omega);rw[Jf za<|w0.symm.trans e,As Z];omega
        . exact k2 (by rw[Jf za<|w0.symm.trans e,Bj Z]) _ (s3.trans s5)
        . exact k1 (NZ za λz=>e<|w0.trans z) _ (s3.trans s5)
      | two f a b=>
       obtain⟨u,eu,za,hM⟩:=jf 0 a rfl;obtain⟨u',xB,oX,qc⟩:=jf 1 b rfl;obtain⟨a1,a2,a3⟩:=Cq L a o.2.1 za;obtain⟨b1,b2,b3⟩:=Cq L b o.2.2 oX;have e1:Do ys 0=some u:=y9 eu;have e2:Do ys 1=some u':=y9 xB;have f3:=o.1;have sz:=Rf (f:=f) za oX;have m1:=Nat.le_max_left (mS a)<|mS b;have m2:=Nat.le_max_right (mS a)<|mS b;have ko:=y6.up hM m1 m1 m1;have kn:=y6.up qc m2 m2 m2;rcases(by omega:f=0\/f=1\/f=2)with rfl | rfl | rfl
       . show U Y ⟨Y,U Y<|fN (x:=n2 0) M9 bD ?_⟩;show U Y ⟨Y,U Y<|fN (x:=n2 0) E4 bD ?_⟩;show U Y ⟨Y,U Y<|fN (x:=n2 0) Y7 bD ?_⟩;show U Y ⟨Y,U Y<|fN (x:=n2 0) Ec bD ?_⟩;show U Y ⟨Y,U Y<|fN (x:=n2 0) O0 bD ?_⟩;show U Y ⟨Y,U Y<|fY (x:=n2 0) R4 ?_⟩;show vb Y Y<|ze ⟨Y,Y,y7.of k3,e1,U Y<|ze ⟨Y,Y,y7.of k3,e2,?_⟩⟩;have sz:B4 R.S (.two 0 a b)=GC (B4 R.S a+B4 R.S b):=sz;by_cases iY:B4 R.S a+B4 R.S b<=20
         . show .inl ⟨R,kv,u,u',l,zh ⟨max (mS a)<|mS b,zc ⟨Y,⟨iT,ko,kn,L,Z⟩,λv' H5 s5 h5=>k0 (by rw[sz,As iY];omega) _ _ (s3.trans s5) h5⟩⟩⟩
         . exact .inr ⟨R,kv,u,u',l,zh ⟨max (mS a)<|mS b,Y,⟨ko,kn,Z,Z,by show 20 < (bM R.S l a).n+(bM R.S l b).n;omega⟩,k2 (by rw[sz,Bj Z]) _ s3⟩⟩
       . show U Y ⟨Y,U Y<|fN (x:=n2 1) M9 bD ?_⟩;show U Y ⟨Y,U Y<|fN (x:=n2 1) E4 bD ?_⟩;show U Y ⟨Y,U Y<|fN (x:=n2 1) Y7 bD ?_⟩;show U Y ⟨Y,U Y<|fN (x:=n2 1) Ec bD ?_⟩;show U Y ⟨Y,U Y<|fN (x:=n2 1) O0 bD ?_⟩;show U Y ⟨Y,U Y<|fN (x:=n2 1) R4 bD ?_⟩;show U Y ⟨Y,U Y<|fY (x:=n2 1) Ax ?_⟩;show vb Y Y<|ze ⟨Y,Y,y7.of k3,e1,U Y<|ze ⟨Y,Y,y7.of k3,e2,?_⟩⟩;have sz:B4 R.S (.two 1 a b)=GC (B4 R.S a+B4 R.S b):=sz;have gy:max (mS a) (mS b)+max (mS a) (mS b)+max (mS a) (mS b)<=30000:=hm;by_cases iY:B4 R.S a+B4 R.S b<=20
         . show .inl ⟨R,kv,u,u',l,zh ⟨max (mS a)<|mS b,Y,⟨iT,ko,kn,L,Z,Z⟩,λv' H5 s5 h5=>k0 (by rw[sz,As iY];omega) _ _ (s3.trans s5)<|y6.up h5 (by show _<=max (mS a) (mS b)+max (mS a) (mS b)+max (mS a) (mS b);omega) (ae _)<|by show _<=max (mS a) (mS b)+max (mS a) (mS b)+max (mS a) (mS b);omega⟩⟩
         . exact .inr ⟨R,kv,u,u',l,zh ⟨max (mS a)<|mS b,Y,⟨ko,kn,Z,Z,by show 20 < (bM R.S l a).n+(bM R.S l b).n;omega⟩,k2 (by rw[sz,Bj Z]) _ s3⟩⟩
       . show U Y ⟨Y,U Y<|fN (x:=n2 2) M9 bD ?_⟩;show U Y ⟨Y,U Y<|fN (x:=n2 2) E4 bD ?_⟩;show U Y ⟨Y,U Y<|fN (x:=n2 2) Y7 bD ?_⟩;show U Y ⟨Y,U Y<|fN (x:=n2 2) Ec bD ?_⟩;show U Y ⟨Y,U Y<|fN (x:=n2 2) O0 bD ?_⟩;show U Y ⟨Y,U Y<|fN (x:=n2 2) R4 bD ?_⟩;show U Y ⟨Y,U Y<|fN (x:=n2 2) Ax bD ?_⟩;show vb Y Y<|ze ⟨Y,Y,y7.of k3,e1,U Y<|ze ⟨Y,Y,y7.of k3,e2,?_⟩⟩;have sz:B4 R.S (.two 2 a b)=GC (B4 R.S a * B4 R.S b):=sz;have gy:mS a+mS b<=30000:=hm;have en:(((bM R.S l a).n * (bM R.S l b).n:Nat):Int)=B4 R.S a * B4 R.S b:=by rw[cy,a1,b1]
         by_cases iY:B4 R.S a * B4 R.S b<=20
         . show .inl ⟨R,kv,u,u',l,zh ⟨mS a,mS b,Y,⟨iT,hM,qc,L,Z,Z,Z,Z⟩,λv' H5 s5 h5=>k0 (by rw[sz,As iY,<- en];omega) _ _ (s3.trans s5) h5⟩⟩
         . exact .inr ⟨R,kv,u,u',l,zh ⟨max (mS a)<|mS b,Y,⟨ko,kn,Z,Z,by show 20 < (bM R.S l a).n * (bM R.S l b).n;omega⟩,k2 (by rw[sz,Bj Z]) _ s3⟩⟩
def Ez(hW:WK w K mg aW):j2 Pr w K mg base (Hk Pr w) 56 t.x0z t.w0y Sq (Eg w K mg base t 10):=IB T 10 hW
def gB(l:w1h)(ws:List w1h):List w1h:=ws.flatMap λu=>l.map λc=>u++[c]
def HM(l:w1h):Nat->List w1h
 | 0=>[[]]
 | i+1=>gB l (HM l i)
def C0(l:w1h):Nat->List w1h
 | 0=>[[]]
 | i+1=>C0 l i++HM l (i+1)
theorem NA{l:w1h}:∀{ws:List w1h},(gB l ws).length=ws.length * l.length
 | []=>by simp[gB]
 | u::ws=>by
  show((l.map λc=>u++[c])++gB l ws).length=_;rw[ar,aD,NA,bx,aV];omega
def UM{l:w1h}{ws:List w1h}{j:Nat}{u:w1h}(h:ws[j]? = some u):gB l (ws.take<|j+1)=gB l (ws.take j)++l.map λc=>u++[c]:=by rw[O3 h];unfold gB;rw[List.flatMap_append,List.flatMap_singleton]
theorem JL{l:w1h}:∀i,(HM l i).length=l.length ^ i
 | 0=>rfl
 | i+1=>by
  show(gB l<|HM l i).length=_;rw[NA,JL i,cz]
theorem Nn{l:w1h}:∀i,∀u∈HM l i,u.length=i/\∀c∈u,c∈l
 | 0,u,h=>by rw[aq.mp h];exact⟨Y,by simp⟩
 | i+1,u,h=>by
  obtain⟨v,hv,h⟩:=List.mem_flatMap.mp h;obtain⟨c,hc,rfl⟩:=cG.mp h;obtain⟨e,a⟩:=Nn i v hv;show⟨by rw[ar,e];rfl,λd hd=>?_⟩;rcases aJ.mp hd with hd | hd
  . exact a d hd
  . rw[aq.mp hd];exact hc
def Lz{l:w1h}(i:Nat)(u:w1h)(h:u∈HM l i):u.length=i:=(Nn i u h).1
def OT{l:w1h}{i j:Nat}(h:i<=j):(C0 l i).length<=(C0 l j).length:=by
 induction h with
 | refl=>exact ae _
 | step _ ih=>show _<=(C0 l _++HM l _).length;rw[ar];omega
def RP{a i j:Nat}(h:i<=j)(h0:0 < i):a ^ i<=a ^ j:=by
 cases a with
 | zero=>rw[Nat.zero_pow h0];exact bh _
 | succ a=>exact cA (Nat.succ_pos a) h
theorem Du{l:w1h}:∀n,∀u∈C0 l n,u.length<=n/\∀c∈u,c∈l
 | 0,u,h=>by rw[aq.mp h];exact⟨ae _,by simp⟩
 | n+1,u,h=>by
  rcases aJ.mp h with h | h
  . have:=Du n u h;exact⟨Z,this.2⟩
  . have:=Nn (n+1) u h;exact⟨Z,this.2⟩
theorem SA{l:w1h}:∀(n:Nat) (u:w1h),u.length=n->(∀c∈u,c∈l)->u∈HM l n
 | 0,u,e,_=>by rw[bu.mp e];exact du _
 | n+1,u,e,h=>by
  have ne:u≠[]:=λz=>by rw[z]at e;cases e
  rw[<- List.dropLast_concat_getLast ne];have:=SA n u.dropLast (by rw[List.length_dropLast];omega) λc hc=>h c<|List.dropLast_subset u hc;exact List.mem_flatMap.mpr ⟨_,this,cG.mpr ⟨_,h _<|List.getLast_mem ne,Y⟩⟩
theorem Bx{l:w1h}:∀(n:Nat) (u:w1h),u.length<=n->(∀c∈u,c∈l)->u∈C0 l n
 | 0,u,e,_=>by rw[bu.mp<|show u.length=0 by omega];exact du _
 | n+1,u,e,h=>by
  by_cases z:u.length=n+1
  . exact aA _ (SA _ u z h)
  . exact bH _ (Bx n u Z h)
theorem KD{l:w1h}:∀(m i:Nat) (u:w1h),(C0 l m)[i]? = some u->∀v:w1h,(∀c∈v,c∈l)->v.length < u.length->v∈(C0 l m).take i
 | 0,i,u,e,v,_,h=>by
  have:=Du 0 u<|aI e;omega
 | m+1,i,u,e,v,av,h=>by
  have e':(C0 l m++HM l (m+1))[i]? = some u:=e;show v∈(C0 l m++HM l (m+1)).take i;by_cases hi:i < (C0 l m).length
  . rw[aR hi]at e';rw[List.take_append_of_le_length<|bw hi];exact KD m i u e' v av h
  . rw[bc Z]at e';have hu:=Lz (m+1) u<|aI e';rw[List.take_append];show bH _ ?_;rw[cZ Z];exact Bx m v Z av
def KG{l:w1h}(h2:l.length<=2){m:Nat}(hm:m<=4):(C0 l m).length<=31/\l.length ^ m<=16:=by
 have p:∀k,l.length ^ k<=2 ^ k:=λk=>Nat.pow_le_pow_left h2 k;have e:∀k,(C0 l<|k+1).length=(C0 l k).length+l.length ^ (k+1):=λk=>by
  show(C0 l k++HM l (k+1)).length=_;rw[ar,JL]
 have h0:(C0 l 0).length=1:=rfl;have a1:=e 0;have a2:=e 1;have a3:=e 2;have a4:=e 3;have p1:l.length ^ (0+1)<=2:=p 1;have p2:l.length ^ (1+1)<=4:=p 2;have p3:l.length ^ (2+1)<=8:=p 3;have p4:l.length ^ (3+1)<=16:=p 4;have p0:l.length ^ 0<=1:=p 0;rcases(by omega:m=0\/m=1\/m=2\/m=3\/m=4)with rfl | rfl | rfl | rfl | rfl
 . exact⟨Z,Z⟩
 . have:(C0 l 1).length=(C0 l 0).length+l.length ^ (0+1):=a1;have mO:l.length ^ 1<=2:=p 1;exact⟨Z,Z⟩
 . have:(C0 l 2).length=(C0 l<|0+1).length+l.length ^ (1+1):=a2;have mO:l.length ^ 2<=4:=p 2;exact⟨Z,Z⟩
 . have:(C0 l 3).length=(C0 l<|1+1).length+l.length ^ (2+1):=a3;have:(C0 l<|1+1).length=(C0 l<|0+1).length+l.length ^ (1+1):=a2;have mO:l.length ^ 3<=8:=p 3;exact⟨Z,Z⟩
 . have:(C0 l 4).length=(C0 l<|2+1).length+l.length ^ (3+1):=a4;have:(C0 l<|2+1).length=(C0 l<|1+1).length+l.length ^ (2+1):=a3;have:(C0 l<|1+1).length=(C0 l<|0+1).length+l.length ^ (1+1):=a2;have mO:l.length ^ 4<=16:=p 4;exact⟨Z,Z⟩
def sp_lwords:Sp:=λvs H Q _=>∃l,∃(z:Int),∃(q:Nat),vs=[vT l,.int z]/\(FM l/\(q=z.toNat/\-1<=z)/\l.length ^ q<=10000/\(C0 l q).length<=10000/\q<=100)/\∀b H',g9 H H'->H b=none->H' b=some (.lst<|(C0 l q).map vT)->Q (.ref b) H'
def JC:j2 Pr w K mg base B7 1 t.u0x t.r0i Xp sp_lwords:=by
 show T.r0g.F.okA D8 λ_ _ _ _ H _ _ _ hr h=>?_;obtain⟨l,z,q,rfl,⟨L,⟨rfl,hz⟩,pR,pQ,hq⟩,k⟩:=h;have sl:100000 < sizeLine:=by decide
 have l3:=L.h3;show⟨_,(a8 (sT 2 D8.nd<|K8<|o9 j1)<|a8 (sT 3 D8.nd<|K8<|o9 j1)<|a8 (E8 aB Y (G8 Y T.z_range<|o9<|O 1) (gN 4 D8.nd)<|a8 (sT 5 D8.nd<|K8 P0)<|a8 (E8 aB Y (BG<|O 3) (w5 (i:=6) D8.nd Y<|Or.inr Y)<|a9<|x4<|DL cb dq dr EE (O 5)<|o9<|B9 (xs:=[Tz]) Y (oC m0d<|b9 V0) (Ew<|O 0) (w5 (i:=7) (by show List.Nodup ([Fe,OS,Jb,"_law_level","_law_k","_law_more",Ds,Tz]:w1i);decide +kernel) Y<|Or.inl Y)<|j4 CQ (O 6)<|O 7)<|a8 (x4<|DL cb dq dr EE (O 2)<|o9<|O 5)<|a9<|sT 3 D8.nd<|O 5)<|a9<|c6<|O 2),?_⟩;have em:V.str (Str.ofString "")=vT []:=by rw[Cp];rfl
 show⟨sL,λf0 nf=>?_⟩;rw[em];show PV (o:=.lst [vT []]) nf λH0 s0 h0=>?_;show⟨sL,λg0 ng=>?_⟩;have s1:=c4 (o:=.lst [vT []]) ng;have h1:=c0 (H:=H0) (a:=g0) (o:=.lst [vT []]);have fg:g0≠f0:=λe=>by rw[e,h0]at ng;cases ng
 revert s1 h1;generalize upd H0 g0 (.lst [vT []])=H1;intro s1 h1;have pE:H f0=none:=nf;show vb Y Y ⟨Z,Z,Y8 (lo:=0) (n:=z.toNat) (λi σ G=>∃lp v4 v5 v6,σ=[some<|vT l,some<|.int z,sr f0,sr lp,v4,v5,v6]/\g9 H G/\G f0=some (.lst<|(C0 l i).map vT)/\G lp=some (.lst<|(HM l i).map vT)/\lp≠f0) ⟨g0,_,_,U Y ⟨s0.trans s1,s1 _ _ h0,h1,fg⟩⟩ ?_ ?_⟩
 . rintro i σ G hi ⟨lp,v4,v5,v6,rfl,q,hf,hl,uW⟩;have pl:l.length ^ (i+1)<=l.length ^ z.toNat:=RP Z Z;have ul:=OT (l:=l) (show i+1<=z.toNat by omega);show⟨sL,λgp ng=>?_⟩;have s3:=c4 (o:=.lst ([]:List V)) ng;have k3:=c0 (H:=G) (a:=gp) (o:=.lst []);have gf:gp≠f0:=λe=>by rw[e,hf]at ng;cases ng
   revert s3 k3;generalize upd G gp (.lst [])=G1;intro s3 k3;have pR:=s3 _ _ hl;have gl:gp≠lp:=λe=>by rw[e,hl]at ng;cases ng
   show U Y ⟨lp,Y,⟨_,y7.of pR⟩,Bo (K:=K) (a:=lp) (xs:=(HM l i).map vT) (λj σ G2=>∃v6,σ=[some<|vT l,some<|.int z,sr f0,sr lp,some<|.int<|0+(i:Int),sr gp,v6]/\g9 G G2/\G2 gp=some (.lst<|(gB l<|(HM l i).take j).map vT)) (U Y ⟨s3,k3⟩) (λj σ G2 _ ⟨_,_,x,_⟩=>y7.of<|x _ _ hl) ?_ ?_⟩
   . rintro j y σ G2 hj ⟨v6,rfl,q2,hg⟩;rw[bz]at hj;obtain⟨u,eu,rfl⟩:=cS.mp hj;have jl:=(aH.mp eu).1;have bl:(gB l<|(HM l i).take j).length+l.length<=10000:=by rw[NA,aM,bN<|bw jl,<- aV];have:(j+1) * l.length<=(HM l i).length * l.length:=bf _ jl;rw[JL,<- cz]at this;exact ah this (ah pl<|by assumption)
     have uu:u.length=i:=Lz i u<|aI eu;show U Y ⟨.inl ⟨Y,_,y7.of hg⟩,vb Y Y ⟨L.asc,u6 (n:=l.length) (λm ys G3=>ys.length=m/\ys=((l.take m).map λc=>u++[c]).map vT/\G3=G2) Z ⟨Y,Y,Y⟩ (λj ys H2 q=>q.1) ?_ ?_ ?_⟩⟩
     . rintro m ys G3 hm ⟨e0,e1,rfl⟩;show⟨(by show m < l.toArray.size;simpa using hm),λx H' hy=>?_⟩;obtain⟨rfl,c,hc,rfl⟩:=hy;have hc:=FR hc;show⟨⟨[some _],Y,Y⟩,vb Y Y<|zc ⟨Y,Y,(by show(tx u).length+(tx [c]).length<=_;rw[l7,l7];simp;omega),?_,?_,Y⟩⟩
       . rw[ar,e0];rfl
       . rw[O3 hc,br,br,<- e1];show _++[V.str<|tx u++tx [c]]=_;rw[Mx];rfl
     . rintro ys G3 ⟨e0,e1,rfl⟩;show l.toArray.size<=_;simp
     . rintro ys G3 zp ⟨e0,e1,rfl⟩ nz;rw[bE]at e1;subst e1;show PV (o:=.lst<|(l.map λc=>u++[c]).map vT) nz λG4 t1 k1=>?_;have wX:=t1 _ _ hg;show⟨gp,zp,zc ⟨Y,Y,wX,k1,(by rw[aD,aD,aD];omega),?_⟩⟩;have sx:v9 gp G4 (upd G4 gp<|.lst<|(gB l<|(HM l i).take j).map vT++(l.map λc=>u++[c]).map vT):=v9.upd;show U Y ⟨λb o e=>sx b o (k9 e ng)<|(q2.trans t1) b o e,?_⟩;rw[c0,UM eu,br]
   . rintro σ G2 ⟨v6,rfl,q2,hg⟩;rw[aD,bE]at hg;have pZ:=q2 _ _ hf;have e1:(C0 l<|i+1).length=(C0 l i).length+(HM l<|i+1).length:=ar;show U Y ⟨.inl ⟨Y,_,y7.of pZ⟩,U Y ⟨f0,gp,zc ⟨Y,Y,pZ,hg,(by rw[aD,aD];show _+(HM l<|i+1).length<=_;omega),?_⟩⟩⟩;have sx:v9 f0 G2 (upd G2 f0<|.lst<|(C0 l i).map vT++(gB l<|HM l i).map vT):=v9.upd;show U Y ⟨gp,zd ⟨Y,λb o e=>sx b o (k9 e pE)<|(q.trans q2) b o e,?_,sx _ _ gf hg,gf⟩⟩;rw[c0];show _=some (HO.lst<|(C0 l i++HM l (i+1)).map vT);rw[br];rfl
 . rintro σ G ⟨lp,v4,v5,v6,rfl,q,hf,hl,uW⟩;exact U Y (k _ _ q pE hf)
def YC{r:Int}(h0:0<=r)(h1:r < 9):(r - 4).natAbs<=2 ^ 90:=ah (show(r - 4).natAbs<=8 by omega) bD
def MI:Sp:=λvs H Q _=>∃(R:c5 Pr w K mg base),∃nm p,∃(a:Addr),∃so,So T R nm p/\vs=[.ref a,so]/\(Dr H a/\G0 H so nm p)/\∀v H' x,v9 a H H'->Dr H' a->R.is H' v x->R.S.lv 1 32 x->Q v H'
def HG:j2 Pr w K mg base B7 37 t.t0h t.q0n UC (MI (w:=w) (base:=base) T):=by
 show T.q0x.F.okA Hu λ_ _ _ _ _ _ _ _ hr h=>?_;obtain⟨R,nm,p,a,so,hS,rfl,⟨hD,eh⟩,k⟩:=h;show⟨_,(a8 (j7 (d7 o4 (z7 (l9 T) hr.m T.t0r<|B8 (O 0) a7) a7<|d8 _) (a9<|c6<|z7 (D3 T) hr.m T.r0a<|o9<|O 1) i3)<|a8 (j7 (d7 o4 (o5 c9 (O 1) a7) j1<|d8 _) (a9<|c6<|z7 (CS T) hr.m T.u0i<|B8 (j4 Ey (z7 (l9 T) hr.m T.t0r<|B8 (O 0) a7) a7)<|j4 z6 a7<|z7 (l9 T) hr.m T.t0r<|B8 (O 0) a7) i3)<|a8 (j7 (d7 o4 (o5 c9 (O 1) a7) j1<|d8 _) (a9<|c6<|z7 (l9 T) hr.m T.t0r<|B8 (O 0)<|o5 c9 (O 1) a7) i3)<|a8 (j7 (d7 o4 (o5 c9 (O 1) a7) j1<|d8 _) (a9<|c6<|j4 Ey (z7 (l9 T) hr.m T.t0r<|B8 (O 0) a7) a7) i3)<|a9<|c6<|K3 Ay (z7 (l9 T) hr.m T.t0r<|B8 (O 0) a7) a7<|d8 _),?_⟩;show U Y ⟨a,6,Y,⟨hD,bD,bD⟩,λr1 H1 s1 d1 a1 b1=>⟨Y,U Y ?_⟩⟩;have u1:=s1.tt hD;have gr:=eh.same u1;show Fz (λ_=>?_) (λ_=>?_)
 . exact U Y ⟨R,zj nm p so ⟨hS,Y,gr,λv H2 s2 f2=>k v H2 _ (s1.trans<|.of s2) (d1.same s2) f2<|R.S.lv_mono _ 0 _ _ bD<|R.S.lv_zero 1⟩⟩
 . obtain⟨q,rfl,hq⟩:=gr;show U Y<|ze ⟨Y,Y,j3.of hq,Y,Y,U Y ?_⟩;cases hS with
   | fr=>
    rw[show decide (V.str ("fractions":Str)=V.str ("fractions":Str))=true by decide +kernel];show C2 ?_;show U Y ⟨a,9,Y,⟨d1,bD,bD⟩,λr2 H2 s2 d2 a2 b2=>?_⟩;show zc ⟨Y,Y,U Y ⟨a,3,Y,⟨d2,bD,bD⟩,λr3 H3 s3 d3 a3 b3=>?_⟩⟩;show zc ⟨Y,Y,zc ⟨Y,(show(0:Int) < 1+r3 by omega),λv H4 s4 f4=>?_⟩⟩;exact k v H4 (Fr.of _ _<|show(0:Int) < 1+r3 by omega) (((s1.trans s2).trans s3).trans<|.of s4) (d3.same s4) f4 (Fr.lv_drawn _ Z<|YC a2 b2)
   | re p hp gc hi=>
    rw[show decide (V.str ("residues":Str)=V.str ("fractions":Str))=false by decide +kernel];show l4 ?_;show U Y<|ze ⟨Y,Y,j3.of hq,Y,Y,U Y ?_⟩;rw[show decide (V.str ("residues":Str)=V.str ("residues":Str))=true by decide +kernel];show C2 ?_;show vb Y Y<|ze ⟨Y,Y,j3.of hq,Y,a,p,Y,⟨d1,Z,Z⟩,λr2 H2 s2 d2 a2 b2=>?_⟩;exact k _ _ ⟨r2,a2,b2⟩ (s1.trans s2) d2 rfl trivial
   | co=>
    rw[show decide (V.str ("costs":Str)=V.str ("fractions":Str))=false by decide +kernel];show l4 ?_;show U Y<|ze ⟨Y,Y,j3.of hq,Y,Y,U Y ?_⟩;rw[show decide (V.str ("costs":Str)=V.str ("residues":Str))=false by decide +kernel];show l4 ?_;show U Y<|ze ⟨Y,Y,j3.of hq,Y,Y,U Y ?_⟩;rw[show decide (V.str ("costs":Str)=V.str ("costs":Str))=true by decide +kernel];show C2 ?_;show U Y ⟨a,9,Y,⟨d1,bD,bD⟩,λr2 H2 s2 d2 a2 b2=>zc ⟨Y,Y,?_⟩⟩;exact k _ _ (some<|r2 - 2) (s1.trans s2) d2 rfl trivial
   | tr=>
    rw[show decide (V.str ("truths":Str)=V.str ("fractions":Str))=false by decide +kernel];show l4 ?_;show U Y<|ze ⟨Y,Y,j3.of hq,Y,Y,U Y ?_⟩;rw[show decide (V.str ("truths":Str)=V.str ("residues":Str))=false by decide +kernel];show l4 ?_;show U Y<|ze ⟨Y,Y,j3.of hq,Y,Y,U Y ?_⟩;rw[show decide (V.str ("truths":Str)=V.str ("costs":Str))=false by decide +kernel];show l4 ?_;show U Y ⟨a,4,Y,⟨d1,bD,bD⟩,λr2 H2 s2 d2 a2 b2=>zc ⟨Y,Y,?_⟩⟩;exact k _ _ (decide<|(0:Int) < r2) (s1.trans s2) d2 rfl trivial
def kW(u:w1h):G6:=.inr (tx u)
def XM{u v:w1h}(h:kW u=kW v):u=v:=Jd (Sum.inr.inj h)
def RB{H:Hp}{a:Addr}{aT:List (G6 × V)}{o:HO}(h:H a=some (.dK aT)):D7 H (upd H a o):=λp vs e=>by
 rw[k8<|λz=>by rw[z,h]at e;cases e];exact e
def DA(R:c5 Pr w K mg base)(D:w1h->R.S.W)(us:List w1h)(aT:List (G6 × V))(G:Hp):Prop:=∀u∈us,∃v,E5 aT (kW u)=some v/\R.is G v (D u)
section
variable{R:c5 Pr w K mg base}{D:w1h->R.S.W}{us:List w1h}{aT:List (G6 × V)}{G:Hp}
theorem DA.same{G':Hp}(s:D7 G G')(h:DA R D us aT G):DA R D us aT G':=λu hu=>let⟨v,a,b⟩:=h u hu;⟨v,a,R.same s b⟩
def DA.put{u:w1h}{v:V}{i:Nat}(h:DA R D (us.take i) aT G)(e:us[i]? = some u)(hv:R.is G v (D u)):DA R D (us.take<|i+1) (U1 aT (kW u) v) G:=λx hx=>by
 rw[QT];by_cases z:x=u
 . rw[if_pos (by rw[z]),z];exact⟨v,Y,hv⟩
 . rw[if_neg λe=>z<|XM e];rw[O3 e]at hx;rcases aJ.mp hx with hx | hx
   . exact h x hx
   . exact absurd (aq.mp hx) z
end
def Rn:Sp:=λvs H Q _=>∃(R:c5 Pr w K mg base),∃nm p so,∃(d d':Addr),∃aT er D E us u,∃(a b:Nat),So T R nm p/\vs=[so,.ref d,.ref d',vT u]/\(G0 H so nm p/\H d=some (.dK aT)/\H d'=some (.dK er)/\DA R D us aT H/\DA R E us er H/\(∀q,u.take q∈us/\u.drop q∈us)/\u.length<=4/\(∀v∈us,R.S.lv a 32 (D v)/\R.S.lv b 32 (E v))/\a+b<=100000)/\
 ∀v H',g9 H H'->R.is H' v (cv R.S D E u)->Q v H'
def Lr:j2 Pr w K mg base B7 38 t.w0j t.s0o XA (Rn (w:=w) (base:=base) T):=by
 show T.t0e.F.okA U7 λ_ _ _ _ H _ _ _ hr h=>?_;obtain⟨R,nm,p,so,d,d',aT,er,D,F,us,u,a,b,hS,rfl,⟨eh,hd,gH,hD,hF,hu,u4,hl,yq⟩,k⟩:=h;have sl:=sZ;show⟨_,(a8 (sT 4 U7.nd<|z7 (D3 T) hr.m T.r0a<|o9<|O 0)<|a8 (E8 aB Y (G8 Y T.z_range<|o9<|j4 z6 (i0 l5 bR T.z_len PySem.boot_len<|o9<|O 3) a7) (gN 5 U7.nd)<|a9<|sT 4 U7.nd<|z7 (V9 T) hr.m T.t0q<|O1 (O 0) (O 4)<|z7 (M8 T) hr.m T.r0u<|O1 (O 0) (F0 (J0 hr) (O 1) (M3 Ga (O 3) S5<|S4<|O 5)<|λ_ _=>rfl)<|F0 (J0 hr) (O 2) (M3 Ga (O 3) (S4<|O 5) S5)<|λ_ _=>rfl)<|a9<|c6<|O 4),?_⟩;show U Y ⟨R,zj nm p so ⟨hS,Y,eh,λz H1 s1 f1=>?_⟩⟩;show U Y (zc ⟨Y,(show R1 K (vT u) H1 u.length from⟨by rw[l7];omega,(l7 u).symm⟩),zc ⟨Y,Y,U Y ⟨Z,Z,Y8 (lo:=0) (n:=((u.length:Int)+1).toNat) (λi σ G=>∃eW v5,σ=[some so,sr d,some<|.ref d',some<|vT u,some eW,v5]/\g9 H G/\R.is G eW (sm R.S (λq=>R.S.mul (D<|u.take q)<|F<|u.drop q) i)/\R.S.lv (a+b) i (sm R.S (λq=>R.S.mul (D<|u.take q)<|F<|u.drop q) i)) ⟨_,U Y ⟨s1,f1,R.S.lv_zero _⟩⟩ ?_ ?_⟩⟩⟩)
 . rintro i σ G hi ⟨eW,v5,rfl,q,f,z⟩;have hi:i<=u.length:=by omega
   obtain⟨m1,m2⟩:=hu i;obtain⟨x,ex,fx⟩:=hD _ m1;obtain⟨y,ey,fy⟩:=hF _ m2;have g1:=Aw.k (k:=kW<|u.take i)<|q _ _ hd;rw[ex]at g1;have g2:=Aw.k (k:=kW<|u.drop i)<|q _ _ gH;rw[ey]at g2;show vc Y Y Y (vc Y Y Y<|vb Y Y ⟨(by rw[l7];omega),?_⟩);rw[Rv Z Z,show((0:Int)+(i:Int)).toNat=i by omega];show⟨d,U Y ⟨g1,?_⟩⟩;show vc Y Y Y (vb Y Y ⟨(by rw[l7];omega),?_⟩);rw[Oi Z,show((0:Int)+(i:Int)).toNat=i by omega];show⟨d',U Y ⟨g2,?_⟩⟩;have zm:=R.S.lv_mul _ _ _ _ (hl _ m1).1 (hl _ m2).2;show⟨R,zv nm p so x y _ _ (100 * a) (100 * b) ⟨hS,Y,⟨eh.same q.t,R.same q.t fx,R.same q.t fy,R.S.lv_sz _ _ _ bD (hl _ m1).1,R.S.lv_sz _ _ _ bD (hl _ m2).2,Z⟩,λmv H5 s5 f5=>?_⟩⟩;have q5:=q.trans s5;show⟨R,zv nm p so eW mv _ _ (100 * (a+b)) (100 * (a+b)) ⟨hS,Y,⟨eh.same q5.t,R.same s5.t f,f5,R.S.lv_sz _ _ _ Z z,R.S.lv_sz _ _ _ bD zm,Z⟩,λtv H6 s6 f6=>?_⟩⟩;exact zc ⟨Y,q5.trans s6,f6,R.S.lv_add _ _ _ _ _ z zm⟩
 . rintro σ G ⟨eW,v5,rfl,q,f,_⟩;rw[show((u.length:Int)+1).toNat=u.length+1 by omega]at f;exact U Y (k _ _ q f)
def Ro:Sp:=λvs H Q _=>∃(R:c5 Pr w K mg base),∃nm p so,∃(d d':Addr),∃aT er D us ws u,∃(a:Nat),So T R nm p/\vs=[so,.ref d,.ref d',vT u]/\(G0 H so nm p/\H d=some (.dK aT)/\H d'=some (.dK er)/\DA R D us aT H/\DA R (Ca R.S D) ws er H/\(∀q,u.take q∈us)/\(u≠[]->∀q,u.drop (q+1)∈ws)/\u.length<=4/\(∀v:w1h,v.length<=4->R.S.lv a 32 (D v))/\1<=a/\5 * a<=100000)/\
 ∀v H',g9 H H'->R.is H' v (Ca R.S D u)->Q v H'
def Ls:j2 Pr w K mg base B7 38 t.v0j t.t0u Xz (Ro (w:=w) (base:=base) T):=by
 show T.s0k.F.okA U8 λ_ _ _ _ H _ _ _ hr h=>?_;obtain⟨R,nm,p,so,d,d',aT,er,D,us,ws,u,a,hS,rfl,⟨eh,hd,gH,hD,hF,hu,hw,u4,hl,a1,a5⟩,k⟩:=h;have sl:=sZ;show⟨_,(a8 (sT 4 U8.nd<|z7 (D3 T) hr.m T.r0a<|o9<|O 0)<|a8 (j7 (d7 o4 (O 3) j1<|d8 _) (a9<|c6<|z7 (Gq T) hr.m T.u0m<|o9<|O 0) i3)<|a8 (E8 aB Y (PD Y T.z_range<|B8 a7<|j4 z6 (i0 l5 bR T.z_len PySem.boot_len<|o9<|O 3) a7) (gN 5 U8.nd)<|a9<|sT 4 U8.nd<|z7 (V9 T) hr.m T.t0q<|O1 (O 0) (O 4)<|z7 (M8 T) hr.m T.r0u<|O1 (O 0) (F0 (J0 hr) (O 1) (M3 Ga (O 3) S5<|S4<|O 5)<|λ_ _=>rfl)<|F0 (J0 hr) (O 2) (M3 Ga (O 3) (S4<|O 5) S5)<|λ_ _=>rfl)<|a9<|c6<|O 4),?_⟩;show U Y ⟨R,zj nm p so ⟨hS,Y,eh,λz H1 s1 f1=>?_⟩⟩;show U Y ⟨Y,U Y ?_⟩;by_cases e0:u=[]
 . subst e0;show fY (x:=[]) Cp ?_;exact U Y ⟨R,zj nm p so ⟨hS,Y,eh.same s1.t,λv H2 s2 f2=>k v H2 (s1.trans s2) f2⟩⟩
 show fN (x:=u) Cp e0 ?_;have st:=λv hv h4=>Rh (S:=R.S) (D:=D) (v:=a) (m:=4) a1 (λv h=>hl v h) bD (List.length v) v hv h4;have zp:∀i,i < u.length->R.S.lv (5 * a) 1 (R.S.mul (D<|u.take<|i+1)<|Ca R.S D<|u.drop<|i+1):=λi hi=>by
  have hd:(u.drop<|i+1).length=u.length - (i+1):=aK;have z:=R.S.lv_mul _ _ _ _ (hl (u.take<|i+1)<|by rw[aM];omega)<|st (u.drop<|i+1) (ae _) Z;have le:a+((u.drop<|i+1).length+1) * a<=5 * a:=by rw[hd,bZ,<- aV];exact bf _ Z
  obtain⟨q,e⟩:∃q,5 * a=a+((u.drop<|i+1).length+1) * a+q:=⟨_,(Nat.add_sub_cancel' le).symm⟩;rw[e];exact CW z
 show U Y (zc ⟨Y,(show R1 K (vT u) H1 u.length from⟨by rw[l7];omega,(l7 u).symm⟩),zc ⟨Y,Y,zc ⟨Y,Z,Y8 (lo:=1) (n:=((u.length:Int)+1 - 1).toNat) (λi σ G=>∃eW v5,σ=[some so,sr d,some<|.ref d',some<|vT u,some eW,v5]/\g9 H G/\R.is G eW (sm R.S (λi=>R.S.mul (D<|u.take<|i+1)<|Ca R.S D<|u.drop<|i+1) i)/\R.S.lv (5 * a) i (sm R.S (λi=>R.S.mul (D<|u.take<|i+1)<|Ca R.S D<|u.drop<|i+1) i)) ⟨_,U Y ⟨s1,f1,R.S.lv_zero _⟩⟩ ?_ ?_⟩⟩⟩)
 . rintro i σ G hi ⟨eW,v5,rfl,q,f,z⟩;have hi:i < u.length:=by omega
   obtain⟨x,ex,fx⟩:=hD _<|hu<|i+1;obtain⟨y,ey,fy⟩:=hF _<|hw e0 i;have g1:=Aw.k (k:=kW<|u.take<|i+1)<|q _ _ hd;rw[ex]at g1;have g2:=Aw.k (k:=kW<|u.drop<|i+1)<|q _ _ gH;rw[ey]at g2;show vc Y Y Y (vc Y Y Y<|vb Y Y ⟨(by rw[l7];omega),?_⟩);rw[Rv Z Z,show((1:Int)+(i:Int)).toNat=i+1 by omega];show⟨d,U Y ⟨g1,?_⟩⟩;show vc Y Y Y (vb Y Y ⟨(by rw[l7];omega),?_⟩);rw[Oi Z,show((1:Int)+(i:Int)).toNat=i+1 by omega];show⟨d',U Y ⟨g2,?_⟩⟩;have zx:=hl (u.take<|i+1) (by rw[aM];omega);have ym:((u.drop<|i+1).length+1) * a<=4 * a:=bf _ (by rw[aK];omega);have zy:=st (u.drop<|i+1) (ae _) (by rw[aK];omega);show⟨R,zv nm p so x y _ _ (100 * a) (100 * (((u.drop<|i+1).length+1) * a)) ⟨hS,Y,⟨eh.same q.t,R.same q.t fx,R.same q.t fy,R.S.lv_sz _ _ _ bD zx,R.S.lv_sz _ _ _ bD zy,Z⟩,λmv H5 s5 f5=>?_⟩⟩;have q5:=q.trans s5;show⟨R,zv nm p so eW mv _ _ (100 * (5 * a)) (100 * (5 * a)) ⟨hS,Y,⟨eh.same q5.t,R.same s5.t f,f5,R.S.lv_sz _ _ _ Z z,R.S.lv_sz _ _ _ bD<|zp i hi,Z⟩,λtv H6 s6 f6=>?_⟩⟩;exact zc ⟨Y,q5.trans s6,f6,R.S.lv_add _ _ _ _ _ z<|zp i hi⟩
 . rintro σ G ⟨eW,v5,rfl,q,f,_⟩;rw[show((u.length:Int)+1 - 1).toNat=u.length by omega,<- KN e0]at f;exact U Y (k _ _ q f)
def SV.ext{R:c5 Pr w K mg base}{s:Sy R.S.W}{p:Addr}{es us:List V}{H:Hp}(h:SV R s (.ref p) H)(hp:H p=some (.tup<|(vT (AF s)::es)++us))(le:es.length=exN s):∀u∈es,(∃x,u=vT x)\/∃c,R.is H u c:=λu hu=>by
 cases s with
 | word x=>
  obtain⟨p',e,h'⟩:=h;cases e;rw[h']at hp
  match es,le,hu,hp with
  | [y],_,hu,hp=>
   cases hp;exact .inl ⟨x,aq.mp hu⟩
 | times c a=>
  obtain⟨p',cu,y,e,h',hc,_⟩:=h;cases e;rw[h']at hp
  match es,le,hu,hp with
  | [z],_,hu,hp=>
   cases hp;cases aq.mp hu;exact .inr ⟨c,hc⟩
 | nil=>rw[bu.mp le]at hu;cases hu
 | one f a=>rw[bu.mp le]at hu;cases hu
 | two f a b=>rw[bu.mp le]at hu;cases hu
def WE(l:w1h):RK (tx l)=tx l.reverse:=by simp[tx,RK]
abbrev YI(K:aa)(i:Nat):TT:=VM (tB<|YU (MS K)<|Q0 (OW i)<|Q0 (tC<|V.ty "tuple") tNil) (VM (Ra<|VJ (Uk λi j=>V.bl<|decide<|j < i) (YU (λxs H Q=>∃x n,xs=[x]/\R1 K x H n/\Q (V.int (n:Nat)) H)<|Q0 (OW i) tNil)<|tC<|V.int 0)<|tB<|YU (MS K)<|Q0 (VJ (RL K) (OW i)<|tC<|V.int 0)<|Q0 (tC<|V.ty "str") tNil)
def Ol{R:c5 Pr w K mg base}{s:Sy R.S.W}{σ:L2.St}{i:Nat}{x:V}{G:Hp}{Φ:Bool->Hp->Prop}(e:σ[i]? = some (some x))(h:SV R s x G)(q:Φ true G):YI K i σ G Φ:=by obtain⟨p,es,us,rfl,hp,le,lu,hu⟩:=h.look;obtain⟨x1,x2⟩:=GR s;have zl:=sZ;have e0:Do ((vT (AF s)::es)++us) 0=some (vT<|AF s):=y9 (show((vT (AF s)::es)++us)[0]? = some (vT<|AF s)from rfl);show⟨_,e,ze ⟨Y,J7.tup hp,T.k_tt,U Y<|C2 ?_⟩⟩;show⟨_,e,zc ⟨Y,.inr ⟨_,j3.of hp,Y⟩,zc ⟨Y,Y,U Y<|Qo (decide_eq_true<|by simp;omega) ?_⟩⟩⟩;exact⟨_,e,ze ⟨Y,Y,j3.of hp,e0,ze ⟨Y,J7.str _,T.k_ss,U Y q⟩⟩⟩
def RA{R:c5 Pr w K mg base}{nm:Str}{p:Int}(hS:So T R nm p){σ:L2.St}{i:Nat}{x:V}{G:Hp}{Φ:Bool->Hp->Prop}(e:σ[i]? = some (some x))(h:(∃y,x=vT y)\/∃c,R.is G x c)(q:Φ false G):YI K i σ G Φ:=by
 rcases h with ⟨y,rfl⟩ | ⟨c,h⟩
 . exact⟨_,e,ze ⟨Y,J7.str _,T.q_st,U Y<|l4 q⟩⟩
 cases hS with
 | fr=>
  obtain⟨px,rfl,hx⟩:=h;show⟨_,e,ze ⟨Y,J7.tup hx,T.k_tt,U Y<|C2 ?_⟩⟩;show⟨_,e,zc ⟨Y,.inr ⟨_,j3.of hx,Y⟩,zc ⟨Y,Y,U Y<|Qo (decide_eq_true<|show(0:Int) < 2 by decide) ?_⟩⟩⟩;exact⟨_,e,ze ⟨Y,Y,j3.of hx,Y,ze ⟨Y,J7.int _,T.q_is,U Y q⟩⟩⟩
 | re p hp hq hi=>
  cases (show x=.int c.x from h);exact⟨_,e,ze ⟨Y,J7.int _,T.q_it,U Y<|l4 q⟩⟩
 | co=>
  cases c with
  | none=>
   cases (show x=.non from h);exact⟨_,e,ze ⟨Y,J7.non,T.q_nt,U Y<|l4 q⟩⟩
  | some z=>
   cases (show x=.int z from h);exact⟨_,e,ze ⟨Y,J7.int _,T.q_it,U Y<|l4 q⟩⟩
 | tr=>
  cases (show x=.bl c from h);exact⟨_,e,ze ⟨Y,J7.bl _,T.q_bt,U Y<|l4 q⟩⟩
def AI(N:Nat):Sp:=λvs H Q _=>∃(R:c5 Pr w K mg base),∃nm p so v s l,∃(m:Nat),∃(a:Addr),So T R nm p/\vs=[so,v,.ref a]/\(G0 H so nm p/\SV R s v H/\Mo R.S l s/\l.length<=2/\GN s<=N/\vS s<=50000/\H a=some (.lst<|(C0 l m).map vT)/\m<=4)/\
 ∀d aT H',g9 H H'->H d=none->H' d=some (.dK aT)->DA R (wS R.S s) (C0 l m) aT H'->Q (.ref d) H'
theorem ET(T:Txt K mg t):∀(N:Nat) {w:World} {base:Heap},j2 Pr w K mg base B7 (N+39) t.r0l t.p0t l0u (AI (w:=w) (base:=base) T N)
 | 0,w,base=>by
  show T.p0m.F.ok D5 (λvs H Q E h=>?_) (λdR A outer s H vs Q E hr h=>?_)
  . obtain⟨R,nm,p,so,v,s,l,m,a,_,rfl,_⟩:=h;rfl
  . obtain⟨R,nm,p,so,v,s,l,m,a,_,rfl,⟨_,_,_,_,h0,_⟩,_⟩:=h;have:=Ny s;omega
 | N+1,w,base=>by
  have M7:∀{w:World} {base:Heap} (T:Txt K mg t),j2 Pr w K mg base B7 (N+39) t.r0l t.p0t l0u (AI (w:=w) (base:=base) T N):=λT=>ET T N;show T.p0m.F.ok D5 (λvs H Q E h=>?_) (λ_ _ _ s H _ Q _ hr h=>?_)
  . obtain⟨R,nm,p,so,v,s,l,m,a,_,rfl,_⟩:=h;rfl
  . obtain⟨R,nm,p,so,v,sy,l,m,a,hS,rfl,⟨eh,hv,o,l2,hh,jg,ha,hm⟩,k⟩:=h;have zl:=sZ;show⟨_,(a8 (sT 3 D5.nd<|o5 c9 (O 1) a7)<|a8 (sT 4 D5.nd RV)<|a8 (Li (i₀:=5) (xs:=[FP]) D5.nd Y (Or.inl Y) Y (oC n9N<|b9 P4) (E9<|M3 Jm (O 1) (S4 a7) S5) (w5 (i:=7) (by show List.Nodup ([J8,Jc,VD,"_law_form",Jb,Tw,Ds,FP]:w1i);decide +kernel) Y<|Or.inl Y) (PW.pt<|U0 (C6<|i0 (show O2 _ (.builtin "isinstance") (MS K)from C3) bR T.z_isinstance boot_isinstance<|B8 (O 7)<|E1 (v:=.ty "tuple") Y T.z_tuple boot_tuple Y)<|U0 (d7 Ay (i0 (show O2 _ (.builtin "len") (λxs H Q=>∃x n,xs=[x]/\R1 K x H n/\Q (V.int (n:Nat)) H)from l5) bR T.z_len PySem.boot_len<|o9<|O 7) a7<|d8 _)<|V4<|C6<|i0 (show O2 _ (.builtin "isinstance") (MS K)from C3) bR T.z_isinstance boot_isinstance<|B8 (o5 (show Vw _ (RL K)from c9) (O 7) a7)<|E1 (v:=.ty "str") Y T.z_str boot_str Y)<|j8 (M7 (w:=w) (base:=base) T) (hr.mono Z) Y T.p0m.m T.p0m.F.kp T.p0m.b .nil m8<|O1 (O 0) (O 7)<|O 2)<|a8 (E8 aB Y (BG<|O 2) (gN 6 D5.nd)<|a9<|j7 (PW.pt<|G9 (d7 o4 (O 3) j1<|d8 _)<|E7<|PW.pt<|U0 (d7 o4 (O 3) j1<|d8 _)<|V4<|d7 Be (O 6) (o5 c9 (O 1) a7)<|d8 _) (a9<|V6 (J0 hr) (O 4) (O 6) (j8 (D3 T) (hr.mono Z) Y T.r0a.m T.r0a.F.kp T.r0a.b .nil m8<|o9<|O 0) Y)<|a9<|j7 (d7 o4 (O 3) j1<|d8 _) (a9<|V6 (J0 hr) (O 4) (O 6) (j8 (Gq T) (hr.mono Z) Y T.u0m.m T.u0m.F.kp T.u0m.b .nil m8<|o9<|O 0) Y)<|a9<|j7 (d7 o4 (O 3) j1<|d8 _) (a9<|V6 (J0 hr) (O 4) (O 6) (j8 (M8 T) (hr.mono Z) Y T.r0u.m T.r0u.F.kp T.r0u.b .nil m8<|O1 (O 0) (o5 c9 (O 1) a7)<|F0 (J0 hr) (o5 l6 (O 5) a7) (O 6)<|λ_ _=>rfl) Y)<|a9<|j7 (d7 o4 (O 3) j1<|d8 _) (a9<|V6 (J0 hr) (O 4) (O 6) (j8 (V9 T) (hr.mono Z) Y T.t0q.m T.t0q.F.kp T.t0q.b .nil m8<|O1 (O 0) (F0 (J0 hr) (o5 l6 (O 5) a7) (O 6)<|λ_ _=>rfl)<|F0 (J0 hr) (o5 l6 (O 5) a7) (O 6)<|λ_ _=>rfl) Y)<|a9<|j7 (d7 o4 (O 3) j1<|d8 _) (a9<|V6 (J0 hr) (O 4) (O 6) (j8 (M8 T) (hr.mono Z) Y T.r0u.m T.r0u.F.kp T.r0u.b .nil m8<|O1 (O 0) (F0 (J0 hr) (o5 l6 (O 5) a7) (O 6)<|λ_ _=>rfl)<|F0 (J0 hr) (o5 l6 (O 5) a7) (O 6)<|λ_ _=>rfl) Y)<|a9<|j7 (d7 o4 (O 3) j1<|d8 _) (a9<|V6 (J0 hr) (O 4) (O 6) (F0 (J0 hr) (o5 l6 (O 5) a7) (WR (O 6)<|Iw Ee a7)<|λ_ _=>rfl) Y)<|a9<|j7 (d7 o4 (O 3) j1<|d8 _) (a9<|V6 (J0 hr) (O 4) (O 6) (j8 (Lr T) (hr.mono Z) Y T.t0e.m T.t0e.F.kp T.t0e.b .nil m8<|HC (O 0) (o5 l6 (O 5) a7) (o5 l6 (O 5) a7)<|O 6) Y)<|a9<|V6 (J0 hr) (O 4) (O 6) (j8 (Ls T) (hr.mono Z) Y T.s0k.m T.s0k.F.kp T.s0k.b .nil m8<|HC (O 0) (o5 l6 (O 5) a7) (O 4)<|O 6) Y)<|a9<|c6<|O 4),?_⟩;obtain⟨p',es,us,rfl,hp,le,lu,hu⟩:=hv.look;obtain⟨x1,x2⟩:=GR sy;have e0:Do ((vT (AF sy)::es)++us) 0=some (vT<|AF sy):=y9 (show((vT (AF sy)::es)++us)[0]? = some (vT<|AF sy)from rfl);show U Y<|ze ⟨Y,Y,j3.of hp,e0,?_⟩;show λdl jD=>?_;show PV (o:=.dK []) jD λH1 t1 k1=>?_;show vb Y Y ⟨p',U Y ⟨j3.of<|t1 _ _ hp,t1 _ _ hp,λp3 H2 s2 h2=>?_⟩⟩;have ec:AE ((vT (AF sy)::es)++us) (some (1:Int)) none=es++us:=GU (k:=1) (xs:=(vT (AF sy)::es)++us) (by simp);rw[ec]at h2;have FI:=t1.trans s2;show⟨p3,Y,⟨_,j3.of h2⟩,GX (n:=(es++us).length) (λj ys G=>g9 H2 G/\ys.length=j - es.length/\∀(i:Nat) u,ys[i]? = some u->∃b d aT,(Cj sy)[i]? = some b/\u=.ref d/\H2 d=none/\G d=some (.dK aT)/\DA R (wS R.S b) (C0 l m) aT G) (by simp;omega) ⟨g9.refl _,by simp,λi u e=>by simp at e⟩ (λj ys G z=>by rw[z.2.1];omega) ?_ ?_ ?_⟩
    . rintro j ys G hj ⟨s3,ly,hy⟩;obtain⟨x,ex⟩:∃x,(es++us)[j]? = some x:=⟨_,aQ hj⟩;show⟨zc ⟨j3.of<|s3 _ _ h2,ex⟩,λy H' fJ=>?_⟩;obtain⟨rfl,fJ⟩:=fJ;have:=fJ _<|j3.of<|s3 _ _ h2;rw[ex]at this;cases this;show⟨⟨[some _],Y,Y⟩,?_⟩;have On:=FI.trans s3;by_cases hje:j < es.length
      . rw[aR hje]at ex;have nx:=(hv.ext hp le x<|aI ex).imp id<|Exists.imp λc h=>R.same On.t h;show RA T hS rfl nx<|l4 ?_;exact⟨s3,Z,hy⟩
      . rw[bc Z]at ex;obtain⟨b,eb,sb⟩:=hu _ x ex;have mb:=aI eb;have h1:=SM mb;have xr:=NW mb;show Ol T rfl (sb.same On.t) ?_;show C2 ?_
        (try dsimp only)
        show vc Y Y Y ⟨R,zu nm p so x b l m a ⟨hS,Y,⟨eh.same On.t,sb.same On.t,RY o mb,l2,Z,Z,On _ _ ha,hm⟩,λd aT H5 s5 nd hd hD=>?_⟩⟩;show⟨s3.trans s5,by rw[ar,ly];show _+1=_;omega,λi u eu=>?_⟩;by_cases e:i < ys.length
        . rw[aR e]at eu;obtain⟨b',d',er,e1,e2,e3,e4,e5⟩:=hy i u eu;exact⟨b',d',er,e1,e2,e3,s5 _ _ e4,e5.same s5.t⟩
        . rw[bc Z]at eu;have e0:i - ys.length=0:=by
           rcases h:i - ys.length with _ | n
           . rfl
           . rw[h]at eu;cases eu
          rw[e0]at eu;cases eu;show⟨b,d,aT,by rw[show i=j - es.length by omega];exact eb,Y,?_,hd,hD⟩;cases z:H2 d with
          | none=>rfl
          | some o=>rw[s3 _ _ z]at nd;cases nd
    . rintro ys G ⟨s3,_⟩;exact⟨_,j3.of<|s3 _ _ h2,ae _⟩
    . rintro ys G lp ⟨s3,ly,hy⟩ fI;have t4:=c4 (o:=.lst ys) fI;have k4:=c0 (H:=G) (a:=lp) (o:=.lst ys);have iu:∀(i:Nat) b,(Cj sy)[i]? = some b->∃d aT,Do ys (i:Int)=some (.ref d)/\upd G lp (.lst ys) d=some (.dK aT)/\d≠dl/\DA R (wS R.S b) (C0 l m) aT (upd G lp<|.lst ys):=λi b eb=>by
       have hi:=(aH.mp eb).1;have eu:=aQ (l:=ys) (i:=i) (by rw[ly,ar];omega);obtain⟨b',d,aT,e1,e2,e3,e4,e5⟩:=hy i _ eu;rw[eb]at e1;cases e1;rw[e2]at eu;exact⟨d,aT,y9 eu,t4 _ _ e4,(λz=>by rw[z,s2 _ _ k1]at e3;cases e3),e5.same t4.t⟩
      have s4:=FI.trans<|s3.trans t4;have jH:=(s2.trans<|s3.trans t4) _ _ k1;revert s4 k4 jH iu;clear t4 fI hy ly s3 h2 FI s2;generalize upd G lp (.lst ys)=H4;intro k4 iu s4 jH;have na:a≠dl:=λz=>by rw[z,jD]at ha;cases ha
      have nl:lp≠dl:=λz=>by rw[z,jH]at k4;cases k4
      have np:p'≠dl:=λz=>by rw[z,jD]at hp;cases hp
      obtain⟨ul,_⟩:=KG l2 hm;have gq:=eh.same s4.t;have uh:∀{G},v9 dl H4 G->D7 H4 G:=λs b ts e=>s _ _ (λz=>by rw[z,jH]at e;cases e) e;show U Y ⟨a,Y,⟨_,y7.of<|s4 _ _ ha⟩,Bo (K:=K) (a:=a) (xs:=(C0 l m).map vT) (λj σ G=>∃v6,σ=[some so,some<|.ref p',sr a,some<|vT<|AF sy,sr dl,sr lp,v6]/\v9 dl H4 G/\∃aT,G dl=some (.dK aT)/\aT.length<=j/\DA R (wS R.S sy) ((C0 l m).take j) aT G) (U Y ⟨v9.refl _ _,[],jH,ae _,λu hu=>by simp at hu⟩) (λj σ G _ ⟨_,_,x,_⟩=>y7.of<|x _ _ na<|s4 _ _ ha) ?_ ?_⟩
      . rintro j y σ G hj ⟨v6,rfl,sX,aT,hd,ln,hD⟩;rw[bz]at hj;obtain⟨u,eu,rfl⟩:=cS.mp hj;have jl:=(aH.mp eu).1;obtain⟨u4,au⟩:=Du m u<|aI eu;have uG:=uh sX;have fw:=gq.same uG;have dW:∀v G',g9 G G'->R.is G' v (wS R.S sy u)->∃v6,([some so,some<|.ref p',sr a,some<|vT<|AF sy,sr dl,sr lp,some<|vT u]:L2.St)=[some so,some<|.ref p',sr a,some<|vT<|AF sy,sr dl,sr lp,v6]/\v9 dl H4 (upd G' dl<|.dK<|U1 aT (kW u) v)/\∃er,upd G' dl (.dK<|U1 aT (kW u) v) dl=some (.dK er)/\er.length<=j+1/\DA R (wS R.S sy) ((C0 l m).take<|j+1) er (upd G' dl<|.dK<|U1 aT (kW u) v):=λv G' s' f'=>by
         have sx:=RB (o:=.dK<|U1 aT (kW u) v)<|s' _ _ hd;have lk:=W2 aT (kW u) v;show U Y ⟨λb o nb e=>v9.upd b o nb<|s' b o<|sX b o nb e,_,c0,Z,?_⟩;exact((hD.same s'.t).put eu f').same sx
        have wl:aT.length < 1000:=by omega
        cases sy with
        | nil=>
         show U Y ⟨Y,U Y<|fY (x:=nN) M9 ?_⟩;show C2 ?_;exact U Y ⟨R,zj nm p so ⟨hS,Y,fw,λv G' s' f'=>(vb Y Y ⟨dl,U Y ⟨Dj.k (k:=kW u) (s' _ _ hd) Z,dW v G' s' f'⟩⟩)⟩⟩
        | word x=>
         obtain⟨p2,e,dU⟩:=id hv;cases e;have kY:=(uG _ _<|s4 _ _ dU);show U Y ⟨Y,U Y<|fN (x:=nW) M9 bD ?_⟩;show U Y ⟨Y,U Y<|fY (x:=nW) E4 ?_⟩;show vb Y Y<|ze ⟨Y,Y,j3.of kY,Y,Y,U Y ?_⟩;by_cases hux:u=x
         . subst hux;show Nv (by rw[decide_eq_true rfl];rfl) ?_
           (try show l4 ?_)
           show U Y ⟨Y,U Y<|fY (x:=nW) E4 ?_⟩;show U Y ⟨R,zj nm p so ⟨hS,Y,fw,λv G' s' f'=>(vb Y Y ⟨dl,U Y ⟨Dj.k (k:=kW u) (s' _ _ hd) Z,dW v G' s' ?_⟩⟩)⟩⟩;rw[show wS R.S (.word u) u=R.S.one from if_pos rfl];exact f'
         . show Qo (by rw[decide_eq_false<|show ¬vT u=vT x from λe=>hux<|Jd<|V.str.inj e];rfl) ?_
           (try show C2 ?_)
           show U Y ⟨R,zj nm p so ⟨hS,Y,fw,λv G' s' f'=>(vb Y Y ⟨dl,U Y ⟨Dj.k (k:=kW u) (s' _ _ hd) Z,dW v G' s' ?_⟩⟩)⟩⟩;rw[show wS R.S (.word x) u=R.S.zero from if_neg hux];exact f'
        | times c b=>
         obtain⟨p2,cu,y,e,dU,hc,_⟩:=id hv;cases e;obtain⟨d,kU,ed,gZ,nd,kr⟩:=iu 0 b rfl;have kY:=uG _ _<|s4 _ _ dU;obtain⟨x,ex,fx⟩:=(kr.same uG) u<|aI eu;have g1:=Aw.k (k:=kW u)<|sX _ _ nd gZ;rw[ex]at g1;have nB:vS b+1<=50000:=jg;show U Y ⟨Y,U Y<|fN (x:=nT) M9 bD ?_⟩;show U Y ⟨Y,U Y<|fN (x:=nT) E4 bD ?_⟩;show l4 ?_;show U Y ⟨Y,U Y<|fN (x:=nT) E4 bD ?_⟩;show U Y ⟨Y,U Y<|fY (x:=nT) Y7 ?_⟩;show vb Y Y<|ze ⟨Y,Y,j3.of kY,Y,U Y<|ze ⟨Y,Y,y7.of<|sX _ _ nl k4,ed,U Y ⟨d,U Y ⟨g1,?_⟩⟩⟩⟩;exact⟨R,zv nm p so cu x _ _ (100 * 1) (100 * vS b) ⟨hS,Y,⟨fw,R.same (s4.t.trans uG) hc,fx,R.S.lv_sz _ _ _ bD o.1,R.S.lv_sz _ _ _ bD<|S8 b o.2 u Z,Z⟩,λv G' s' f'=>(vb Y Y ⟨dl,U Y ⟨Dj.k (k:=kW u) (s' _ _ hd) Z,dW v G' s' f'⟩⟩)⟩⟩
        | one f b=>
         obtain⟨d,kU,ed,gZ,nd,kr⟩:=iu 0 b rfl;have kx:=kr.same uG;cases f with
         | false=>
          obtain⟨x,ex,fx⟩:=kx u.reverse (Bx m _ (by rw[de];exact u4) λc hc=>au c<|List.mem_reverse.mp hc);have g1:=Aw.k (k:=kW u.reverse)<|sX _ _ nd gZ;rw[ex]at g1;show U Y ⟨Y,U Y<|fN (x:=n1 false) M9 bD ?_⟩;show U Y ⟨Y,U Y<|fN (x:=n1 false) E4 bD ?_⟩;show l4 ?_;show U Y ⟨Y,U Y<|fN (x:=n1 false) E4 bD ?_⟩;show U Y ⟨Y,U Y<|fN (x:=n1 false) Y7 bD ?_⟩;show U Y ⟨Y,U Y<|fN (x:=n1 false) R4 bD ?_⟩;show U Y ⟨Y,U Y<|fN (x:=n1 false) Bt bD ?_⟩;show U Y ⟨Y,U Y<|fY (x:=n1 false) Ec ?_⟩;show U Y (ze ⟨Y,Y,y7.of<|sX _ _ nl k4,ed,vc Y Y Y ⟨Y,(by rw[l7];omega),?_⟩⟩);rw[WE];exact⟨d,U Y ⟨g1,vb Y Y ⟨dl,U Y ⟨Dj.k (k:=kW u) hd Z,dW x _ (g9.refl _) fx⟩⟩⟩⟩
         | true=>
          have nB:5 * vS b<=50000:=jg;have v1:=FQ b;show U Y ⟨Y,U Y<|fN (x:=n1 true) M9 bD ?_⟩;show U Y ⟨Y,U Y<|fN (x:=n1 true) E4 bD ?_⟩;show l4 ?_;show U Y ⟨Y,U Y<|fN (x:=n1 true) E4 bD ?_⟩;show U Y ⟨Y,U Y<|fN (x:=n1 true) Y7 bD ?_⟩;show U Y ⟨Y,U Y<|fN (x:=n1 true) R4 bD ?_⟩;show U Y ⟨Y,U Y<|fN (x:=n1 true) Bt bD ?_⟩;show U Y ⟨Y,U Y<|fN (x:=n1 true) Ec bD ?_⟩;show U Y ⟨Y,U Y<|fN (x:=n1 true) Ax bD ?_⟩;show vb Y Y<|ze ⟨Y,Y,y7.of<|sX _ _ nl k4,ed,vb Y Y ?_⟩;exact⟨R,zA nm p so d dl kU aT (wS R.S b) (C0 l m) ((C0 l m).take j) u (vS b) ⟨hS,Y,⟨fw,sX _ _ nd gZ,hd,kx,hD,λq=>Bx m _ (by rw[aM];omega) λc hc=>au c<|bS hc,λne q=>KD m j u eu _ (λc hc=>au c<|cE hc) (by rw[aK];have:=List.length_pos_iff.mpr ne;omega),Z,λv wm=>S8 b o v wm,v1,Z⟩,λv G' s' f'=>(vb Y Y ⟨dl,U Y ⟨Dj.k (k:=kW u) (s' _ _ hd) Z,dW v G' s' f'⟩⟩)⟩⟩
        | two f b c=>
         obtain⟨d,kU,ed,gZ,nd,kr⟩:=iu 0 b rfl;obtain⟨d',nj,xE,jZ,pG,ot⟩:=iu 1 c rfl;have kx:=kr.same uG;have ku:=ot.same uG;have mu:=aI eu;obtain⟨x,ex,fx⟩:=kx u mu;obtain⟨y,ey,fy⟩:=ku u mu;have g1:=Aw.k (k:=kW u)<|sX _ _ nd gZ;rw[ex]at g1;have g2:=Aw.k (k:=kW u)<|sX _ _ pG jZ;rw[ey]at g2;have z1:=S8 b o.2.1 u Z;have z2:=S8 c o.2.2 u Z;have f3:=o.1;have m1:=NW (s:=.two f b c) (a:=b) (by simp[Cj]);have m2:=NW (s:=.two f b c) (a:=c) (by simp[Cj]);have oJ:Do ys 0=some (.ref d):=ed;have hZ:Do ys 1=some (.ref d'):=xE;rcases(by omega:f=0\/f=1\/f=2)with rfl | rfl | rfl
         . show U Y ⟨Y,U Y<|fN (x:=n2 0) M9 bD ?_⟩;show U Y ⟨Y,U Y<|fN (x:=n2 0) E4 bD ?_⟩;show l4 ?_;show U Y ⟨Y,U Y<|fN (x:=n2 0) E4 bD ?_⟩;show U Y ⟨Y,U Y<|fN (x:=n2 0) Y7 bD ?_⟩;show U Y ⟨Y,U Y<|fY (x:=n2 0) R4 ?_⟩;show vb Y Y<|ze ⟨Y,Y,y7.of<|sX _ _ nl k4,oJ,U Y ⟨d,U Y ⟨g1,U Y<|ze ⟨Y,Y,y7.of<|sX _ _ nl k4,hZ,U Y ⟨d',U Y ⟨g2,?_⟩⟩⟩⟩⟩⟩;exact⟨R,zv nm p so x y _ _ (100 * vS b) (100 * vS c) ⟨hS,Y,⟨fw,fx,fy,R.S.lv_sz _ _ _ bD z1,R.S.lv_sz _ _ _ bD z2,Z⟩,λv G' s' f'=>(vb Y Y ⟨dl,U Y ⟨Dj.k (k:=kW u) (s' _ _ hd) Z,dW v G' s' f'⟩⟩)⟩⟩
         . show U Y ⟨Y,U Y<|fN (x:=n2 1) M9 bD ?_⟩;show U Y ⟨Y,U Y<|fN (x:=n2 1) E4 bD ?_⟩;show l4 ?_;show U Y ⟨Y,U Y<|fN (x:=n2 1) E4 bD ?_⟩;show U Y ⟨Y,U Y<|fN (x:=n2 1) Y7 bD ?_⟩;show U Y ⟨Y,U Y<|fN (x:=n2 1) R4 bD ?_⟩;show U Y ⟨Y,U Y<|fN (x:=n2 1) Bt bD ?_⟩;show U Y ⟨Y,U Y<|fN (x:=n2 1) Ec bD ?_⟩;show U Y ⟨Y,U Y<|fY (x:=n2 1) Ax ?_⟩;show vb Y Y<|ze ⟨Y,Y,y7.of<|sX _ _ nl k4,oJ,U Y<|ze ⟨Y,Y,y7.of<|sX _ _ nl k4,hZ,U Y ?_⟩⟩;exact⟨R,nm,p,so,d,d',kU,nj,wS R.S b,wS R.S c,C0 l m,u,vS b,vS c,hS,Y,⟨fw,sX _ _ nd gZ,sX _ _ pG jZ,kx,ku,λq=>⟨Bx m _ (by rw[aM];omega) λc hc=>au c<|bS hc,Bx m _ (by rw[aK];omega) λc hc=>au c<|cE hc⟩,Z,λv hv=>by have:=(Du m v hv).1;exact⟨S8 b o.2.1 v Z,S8 c o.2.2 v Z⟩,Z⟩,λv G' s' f'=>(vb Y Y ⟨dl,U Y ⟨Dj.k (k:=kW u) (s' _ _ hd) Z,dW v G' s' f'⟩⟩)⟩
         . show U Y ⟨Y,U Y<|fN (x:=n2 2) M9 bD ?_⟩;show U Y ⟨Y,U Y<|fN (x:=n2 2) E4 bD ?_⟩;show l4 ?_;show U Y ⟨Y,U Y<|fN (x:=n2 2) E4 bD ?_⟩;show U Y ⟨Y,U Y<|fN (x:=n2 2) Y7 bD ?_⟩;show U Y ⟨Y,U Y<|fN (x:=n2 2) R4 bD ?_⟩;show U Y ⟨Y,U Y<|fY (x:=n2 2) Bt ?_⟩;show vb Y Y<|ze ⟨Y,Y,y7.of<|sX _ _ nl k4,oJ,U Y ⟨d,U Y ⟨g1,U Y<|ze ⟨Y,Y,y7.of<|sX _ _ nl k4,hZ,U Y ⟨d',U Y ⟨g2,?_⟩⟩⟩⟩⟩⟩;exact⟨R,zv nm p so x y _ _ (100 * vS b) (100 * vS c) ⟨hS,Y,⟨fw,fx,fy,R.S.lv_sz _ _ _ bD z1,R.S.lv_sz _ _ _ bD z2,Z⟩,λv G' s' f'=>(vb Y Y ⟨dl,U Y ⟨Dj.k (k:=kW u) (s' _ _ hd) Z,dW v G' s' f'⟩⟩)⟩⟩
      . rintro σ G ⟨v6,rfl,sX,aT,hd,ln,hD⟩;rw[aD,bE]at hD;exact U Y (k dl aT G (λb o e=>sX b o (k9 e jD)<|s4 b o e) jD hd hD)
def M7:j2 Pr w K mg base B7 49 t.r0l t.p0t l0u (AI (w:=w) (base:=base) T 10):=ET T 10
def Ph:Sp:=λvs H Q _=>∃(R:c5 Pr w K mg base),∃nm p so v s l,So T R nm p/\vs=[so,v]/\(G0 H so nm p/\SV R s v H/\Mo R.S l s/\l.length<=2/\GN s<=10/\vS s<=50000)/\∀v' H',g9 H H'->R.is H' v' (wS R.S s [])->Q v' H'
def DR:j2 Pr w K mg base B7 50 t.v0d t.r0v Uz (Ph (w:=w) (base:=base) T):=by
 show T.r0y.F.okA Jq λ_ _ _ _ _ _ _ _ hr h=>?_;obtain⟨R,nm,p,so,v,sy,l,hS,rfl,⟨eh,hv,o,l2,hh,jg⟩,k⟩:=h;have em:V.str (Str.ofString "")=vT []:=by rw[Cp];rfl
 show⟨_,(a9<|c6<|F0 (J0 hr) (z7 (M7 T) hr.m T.p0m<|O1 (O 0) (O 1)<|K8<|o9 j1) j1<|λ_ _=>rfl),?_⟩;show vb Y Y ⟨sL,λa na=>?_⟩;rw[em];have t1:=c4 (o:=.lst [vT []]) na;show⟨R,zu nm p so v sy l 0 a ⟨hS,Y,⟨eh.same t1.t,hv.same t1.t,o,l2,hh,jg,c0,bD⟩,λd aT H2 s2 nd hd hD=>?_⟩⟩;obtain⟨x,ex,fx⟩:=hD []<|du _;have g1:=Aw.k (k:=kW []) hd;rw[ex]at g1;exact⟨d,U Y ⟨g1,k x _ (t1.trans s2) fx⟩⟩
def Dr.ne{H:Hp}{a p:Addr}(d:Dr H a)(n:H p=none):p≠a:=λe=>by
 obtain⟨xs,z⟩:=d.lst;rw[<- e,n]at z;cases z
def sp_lword:Sp:=λvs H Q _=>∃(a:Addr),∃l,vs=[.ref a,vT l]/\(Dr H a/\FM l)/\∀(x:w1h) H',v9 a H H'->Dr H' a->x.length<=3->(∀c∈x,c∈l)->Q (vT x) H'
def Lq:j2 Pr w K mg base B7 2 t.v0f t.t0o Xr sp_lword:=by
 show T.t0p.F.okA U6 λ_ _ _ _ H _ _ _ hr h=>?_;obtain⟨a,l,rfl,⟨hD,L⟩,k⟩:=h;have zl:=sZ;have l3:=L.h3;have l1:=L.h1;have em:V.str (Str.ofString "")=vT []:=by rw[Cp];rfl
 show⟨_,(a8 (sT 2 U6.nd j1)<|a8 (E8 aB Y (G8 Y T.z_range<|o9<|o5 l6 (K8<|D4 a7<|HC a7 a7 a7 a7)<|z7 (l9 T) hr.m T.t0r<|B8 (O 0) a7) (gN 3 U6.nd)<|a9<|sT 2 U6.nd<|j4 CQ (O 2)<|o5 GK (O 1)<|z7 (l9 T) hr.m T.t0r<|B8 (O 0)<|i0 l5 bR T.z_len PySem.boot_len<|o9<|O 1)<|a9<|c6<|O 2),?_⟩;rw[em];show⟨sL,λlp fI=>?_⟩;have t1:=c4 (o:=.lst [V.int 0,V.int 1,V.int 1,V.int 2,V.int 3]) fI;have k1:=c0 (H:=H) (a:=lp) (o:=.lst [V.int 0,V.int 1,V.int 1,V.int 2,V.int 3]);have d1:=hD.same t1;have na:lp≠a:=hD.ne fI;revert t1 k1 d1;generalize upd H lp (.lst [V.int 0,V.int 1,V.int 1,V.int 2,V.int 3])=H1;intro t1 k1 d1;show U Y ⟨a,5,Y,⟨d1,bD,bD⟩,λr H2 s2 d2 a2 b2=>?_⟩;obtain⟨n,hn,n3⟩:∃n:Nat,Do [V.int 0,V.int 1,V.int 1,V.int 2,V.int 3] r=some (V.int (n:Nat))/\n<=3:=by
  rcases(by omega:r=0\/r=1\/r=2\/r=3\/r=4)with rfl | rfl | rfl | rfl | rfl
  . exact⟨0,Y,bD⟩
  . exact⟨1,Y,bD⟩
  . exact⟨1,Y,bD⟩
  . exact⟨2,Y,bD⟩
  . exact⟨3,Y,bD⟩
 show ze ⟨Y,Y,y7.of<|s2 _ _ na k1,hn,U Y ⟨Z,Z,Y8 (lo:=0) (n:=((n:Nat):Int).toNat) (λi σ G=>∃(x:w1h) (v3:Option V),σ=[sr a,some<|vT l,some<|vT x,v3]/\v9 a H G/\Dr G a/\x.length=i/\∀c∈x,c∈l) ⟨[],U Y ⟨(v9.of t1).trans s2,d2,Y,λc hc=>nomatch hc⟩⟩ ?_ ?_⟩⟩
 . rintro i σ G hi ⟨x,v3,rfl,sG,dG,xl,hx⟩;have ln:R1 K (vT l) G l.length:=⟨by rw[l7];omega,(l7 l).symm⟩;show vc Y Y Y<|U Y<|zc ⟨Y,ln,a,U Y ⟨⟨dG,Z,Z⟩,λr4 G4 s4 d4 a4 b4=>?_⟩⟩;obtain⟨j,rfl⟩:∃j:Nat,r4=(j:Int):=⟨r4.toNat,Z⟩;have hj:j < l.length:=by omega
   have ec:l[j]? = some l[j]:=aQ hj;have ac:Do (tx l).cps.toList (j:Int)=some l[j]:=by rw[show(tx l).cps.toList=l by simp[tx]];exact y9 ec
   show zd ⟨Y,Y,(by rw[l7];omega),ac,zc ⟨Y,Y,(by rw[l7];show _+1<=_;omega),?_⟩⟩;have ea:tx x++(⟨#[l[j]]⟩:Str)=tx (x++[l[j]]):=Mx x [l[j]];rw[ea];show⟨x++[l[j]],U Y ⟨sG.trans s4,d4,by rw[ar,xl];rfl,λc hc=>?_⟩⟩;rcases aJ.mp hc with hc | hc
   . exact hx c hc
   . rw[aq.mp hc];exact cY hj
 . rintro σ G ⟨x,v3,rfl,sG,dG,xl,hx⟩;exact U Y (k x G sG dG Z hx)
def p9(m:Nat):2<=2 * 9 ^ m/\2 * 9 ^ (m+1)=9 * (2 * 9 ^ m):=by show⟨?_,by rw[cz];omega⟩;have:=Nat.pow_pos (n:=m) (show 0 < 9 by decide);omega
def p10(m:Nat):1<=10 ^ m/\10 ^ (m+1)=10 * 10 ^ m:=⟨Nat.pow_pos bD,by rw[cz];omega⟩
def Cv(N:Nat):Sp:=λvs H Q _=>∃(R:c5 Pr w K mg base),∃nm p,∃(a:Addr),∃so l,∃(m:Nat),So T R nm p/\vs=[.ref a,so,vT l,.int (m:Nat)]/\(Dr H a/\G0 H so nm p/\FM l/\l.length<=2/\m < N/\m<=4)/\∀s v H',v9 a H H'->Dr H' a->SV R s v H'->Mo R.S l s->GN s<=2 * m+1->mS s<=2 * 9 ^ m->vS s<=10 ^ m->Q v H'
theorem EU(T:Txt K mg t):∀(N:Nat) {w:World} {base:Heap},j2 Pr w K mg base B7 (N+51) t.t0n t.q0f l0y (Cv (w:=w) (base:=base) T N)
 | 0,w,base=>by
  show T.q0r.F.ok K0 (λvs H Q E h=>?_) (λdR A outer s H vs Q E hr h=>?_)
  . obtain⟨R,nm,p,a,so,l,m,_,rfl,_⟩:=h;rfl
  . obtain⟨R,nm,p,a,so,l,m,_,rfl,⟨_,_,_,_,h0,_⟩,_⟩:=h;omega
 | N+1,w,base=>by
  have P8:∀{w:World} {base:Heap} (T:Txt K mg t),j2 Pr w K mg base B7 (N+51) t.t0n t.q0f l0y (Cv (w:=w) (base:=base) T N):=λT=>EU T N;show T.q0r.F.ok K0 (λvs H Q E h=>?_) (λ_ _ _ _ H vs _ _ hr h=>?_)
  . obtain⟨R,nm,p,a,so,l,m,_,rfl,_⟩:=h;rfl
  . obtain⟨R,nm,p,a,so,l,m,hS,rfl,⟨hD,eh,L,l2,hm,h4⟩,k⟩:=h;show⟨_,(a8 (sT 4 K0.nd<|j8 (l9 T) (hr.mono Z) Y T.t0r.m T.t0r.F.kp T.t0r.b .nil m8<|B8 (O 0) a7)<|a8 (j7 (PW.pt<|G9 (d7 o4 (O 3) a7<|d8 _)<|E7<|d7 DM (O 4) a7<|d8 _) (a8 (j7 (d7 o4 (j8 (l9 T) (hr.mono Z) Y T.t0r.m T.t0r.F.kp T.t0r.b .nil m8<|B8 (O 0) a7) a7<|d8 _) (a9<|c6<|o8<|o9 j1) i3)<|a9<|c6<|o8<|B8 j1<|j8 (Lq T) (hr.mono Z) Y T.t0p.m T.t0p.F.kp T.t0p.b .nil m8<|B8 (O 0)<|O 2) i3)<|a8 (sT 5 K0.nd<|j8 (P8 T) (hr.mono Z) Y T.q0r.m T.q0r.F.kp T.q0r.b .nil m8<|HC (O 0) (O 1) (O 2)<|j4 Ey (O 3) a7)<|a8 (j7 (d7 o4 (O 4) a7<|d8 _) (a9<|c6<|o8<|O1 j1 (j8 (HG T) (hr.mono Z) Y T.q0x.m T.q0x.F.kp T.q0x.b .nil m8<|B8 (O 0)<|O 1)<|O 5) i3)<|a8 (j7 (d7 o4 (O 4) a7<|d8 _) (a9<|c6<|o8<|B8 j1<|O 5) i3)<|a8 (j7 (d7 DM (O 4) a7<|d8 _) (a8 (j7 (PW.pt<|U0 (d7 (JB hr.units) (j8 (DR T) (hr.mono Z) Y T.r0y.m T.r0y.F.kp T.r0y.b .nil m8<|B8 (O 1)<|O 5) (j8 (D3 T) (hr.mono Z) Y T.r0a.m T.r0a.F.kp T.r0a.b .nil m8<|o9<|O 1)<|d8 _)<|V4<|d7 Ay (j8 (l9 T) (hr.mono Z) Y T.t0r.m T.t0r.F.kp T.t0r.b .nil m8<|B8 (O 0) a7) a7<|d8 _) (a9<|sT 5 K0.nd<|o8<|O1 j1 (o8<|B8 j1<|o5 GK (O 2)<|j8 (l9 T) (hr.mono Z) Y T.t0r.m T.t0r.F.kp T.t0r.b .nil m8<|B8 (O 0)<|i0 l5 bR T.z_len PySem.boot_len<|o9<|O 2)<|O 5) i3)<|a9<|c6<|o8<|B8 j1<|O 5) i3)<|a9<|c6<|o8<|O1 (o5 l6 (K8<|D4 j1<|HC j1 j1 j1 j1)<|j4 Ey (O 4) a7) (O 5)<|j8 (P8 T) (hr.mono Z) Y T.q0r.m T.q0r.F.kp T.q0r.b .nil m8<|HC (O 0) (O 1) (O 2)<|j4 Ey (O 3) a7),?_⟩;have zl:=sZ;show U Y ⟨a,12,Y,⟨hD,bD,bD⟩,λr1 H1 s1 d1 a1 b1=>?_⟩;have gr:=eh.same<|s1.tt hD;have l1:=L.h1;have l3:=L.h3;obtain⟨q1,q2⟩:=p9 m;obtain⟨mM,_⟩:=p10 m;show(λ(jG:(?F:L2.St->Hp->Prop) [sr a,some so,some<|vT l,si m,some<|.int r1,none] H1) (nk:0 < m->(?G:L2.St->Hp->Prop) [sr a,some so,some<|vT l,si m,some<|.int r1,none] H1)=>?main) ?r1 ?r2
    case main=>
     show U Y ⟨Y,U Y ?_⟩;dsimp only;by_cases z:m=0
     . show Qo (by subst z;rfl) ?_
       (try show C2 ?_)
       exact jG
     . show Nv (decide_eq_false λe=>z (by have:=V.int.inj e;omega)) ?_;show U Y<|zc ⟨Y,Y,U Y ?_⟩;dsimp only;show R0 (λh=>?_) (λh=>?_)
       . (try show C2 ?_)
         exact jG
       . (try show l4 ?_)
         exact nk Z
    case r1=>
     show U Y ⟨a,9,Y,⟨d1,bD,bD⟩,λr2 H2 s2 d2 a2 b2=>?_⟩;show⟨Y,U Y ?_⟩;dsimp only;have FI:=s1.trans s2;show Fz (λz=>?_) (λz=>?_)
     . show⟨(by show 1<=sizeLine;omega),λq nq=>?_⟩;rw[M9];have e:=c4 (o:=.tup [V.str<|tx nN]) nq;exact k .nil _ _ (FI.trans<|.of e) (d2.same e) ⟨q,Y,c0⟩ trivial (by show 1<=_;omega) (by show 1<=_;omega) mM
     . show vb Y Y ⟨a,l,Y,⟨d2,L⟩,λx G sG dG xl hx=>?_⟩;show⟨(by show 2<=sizeLine;omega),λq nq=>?_⟩;rw[E4];have e:=c4 (o:=.tup [V.str<|tx nW,vT x]) nq;exact k (.word x) _ _ (FI.trans<|sG.trans<|.of e) (dG.same e) ⟨q,Y,c0⟩ ⟨xl,hx⟩ (by show 1<=_;omega) q1 mM
    case r2=>
     intro m0;obtain⟨m,rfl⟩:∃m',m=m'+1:=⟨m - 1,Z⟩;obtain⟨q1,q2⟩:=p9 m;obtain⟨mM,xX⟩:=p10 m;have em:(((m+1:Nat):Int) - 1)=(m:Int):=by omega
     have pm:10 ^ m<=10 ^ 4:=cA bD Z;have e4:(10:Nat) ^ 4=10000:=by decide
     show vc Y Y Y (U Y<|zc ⟨Y,Y,R,nm,p,a,so,l,m,hS,(by show [_,_,_,V.int<|((m+1:Nat):Int) - 1]=_;rw[em]),⟨d1,gr,L,l2,Z,Z⟩,λx2 v2 H2 s2 d2 fZ jd fV xZ xO=>?_⟩);have gS:=gr.same<|s2.tt d1;have FI:=s1.trans s2;have mp:=GD x2;show U Y ⟨Y,U Y ?_⟩;show Fz (λh3=>?_) (λh3=>?_)
     . show vb Y Y ⟨R,zk nm p a so ⟨hS,Y,⟨d2,gS⟩,λv3 H3 c s3 d3 f3 z3=>?_⟩⟩;show U Y ⟨(by show 3<=sizeLine;omega),λq nq=>?_⟩;rw[Y7];have e:=c4 (o:=.tup [V.str<|tx nT,v3,v2]) nq;exact k (.times c x2) _ _ (FI.trans<|s3.trans<|.of e) (d3.same e) ⟨q,_,U Y ⟨c0,R.same e.t f3,fZ.same<|(s3.tt d2).trans e.t⟩⟩ ⟨z3,jd⟩ (by show GN x2+1<=_;omega) (by show mS x2+1<=_;omega) (by show vS x2+1<=_;omega)
     show U Y ⟨Y,U Y ?_⟩;show Fz (λxp=>?_) (λxp=>?_)
     . show U Y ⟨(by show 2<=sizeLine;omega),λq nq=>?_⟩;rw[Ec];have e:=c4 (o:=.tup [V.str<|tx<|n1 false,v2]) nq;exact k (.one false x2) _ _ (FI.trans<|.of e) (d2.same e) ⟨q,U Y ⟨c0,fZ.same e.t⟩⟩ jd (by show GN x2+1<=_;omega) (by show mS x2<=_;omega) (by show vS x2<=_;omega)
     show U Y<|zc ⟨Y,Y,U Y ?_⟩;show R0 (λh7=>?_) (λh7=>?_)
     . have wk:vS x2<=50000:=by omega
       show(λ(je:∀(x:Sy R.S.W) (v:V) (G:Hp),v9 a H G->Dr G a->SV R x v G->Mo R.S l x->GN x<=2 * m+2->3 * mS x<=2 * 9 ^ (m+1)->5 * vS x<=10 ^ (m+1)->(?K:L2.St->Hp->Prop) [sr a,some so,some<|vT l,some<|.int ((m+1:Nat):Int),some<|.int r1,some v] G)=>?mn) ?rs
       case mn=>
        show vb Y Y ⟨R,zr nm p so v2 x2 l ⟨hS,Y,⟨gS,fZ,jd,l2,Z,wk⟩,λv3 H3 s3 f3=>?_⟩⟩;show U Y ⟨R,zj nm p so ⟨hS,Y,gS.same s3.t,λv4 H4 ig f4=>?_⟩⟩;have RF:=s3.trans ig;have d4:=d2.same RF;have k0:=λG (sG:v9 a H4 G) (dG:Dr G a)=>je x2 v2 G (FI.trans<|(v9.of RF).trans sG) dG (fZ.same<|RF.t.trans<|sG.tt d4) jd Z Z Z;by_cases e:wS R.S x2 []=R.S.zero
        . show R.neD (R.same ig.t f3) f4 e (U Y ?_)
          (try show l4 ?_)
          (try show l4 ?_)
          exact k0 H4 (v9.refl _ _) d4
        . show R.neT (R.same ig.t f3) f4 e<|U Y ?_;show C2 ?_;show U Y ⟨a,4,Y,⟨d4,bD,bD⟩,λr5 H5 s5 d5 a5 b5=>zc ⟨Y,Y,U Y ?_⟩⟩;show R0 (λh5=>?_) (λh5=>?_)
          . have ln:R1 K (vT l) H5 l.length:=⟨by rw[l7];omega,(l7 l).symm⟩;show vc Y Y Y<|zc ⟨Y,ln,a,U Y ⟨⟨d5,Z,Z⟩,λr6 H6 s6 d6 a6 b6=>?_⟩⟩;obtain⟨j,rfl⟩:∃j:Nat,r6=(j:Int):=⟨r6.toNat,Z⟩;have hj:j < l.length:=by omega
            have ec:l[j]? = some l[j]:=aQ hj;have ac:Do (tx l).cps.toList (j:Int)=some l[j]:=by rw[show(tx l).cps.toList=l by simp[tx]];exact y9 ec
            show zd ⟨Y,Y,(by rw[l7];omega),ac,(by show 2<=sizeLine;omega),λq nq=>(U Y ⟨(by show 3<=sizeLine;omega),λq' uV=>?_⟩)⟩;rw[E4,Ax];have e7:=c4 (o:=.tup [V.str<|tx nW,V.str (⟨#[l[j]]⟩:Str)]) nq;have k7:=c0 (H:=H6) (a:=q) (o:=.tup [V.str<|tx nW,vT [l[j]]]);have e8:=c4 (o:=.tup [V.str<|tx<|n2 1,V.ref q,v2]) uV;have RE:=(s5.trans s6).trans<|.of<|e7.trans e8;have uq:=fZ.same<|RF.t.trans<|RE.tt d4;show je (.two 1 (.word [l[j]]) x2) _ _ (FI.trans<|(v9.of RF).trans RE) (d6.same<|e7.trans e8) ⟨q',_,U Y ⟨c0,⟨q,Y,e8 _ _ k7⟩,uq⟩⟩ ⟨by decide,⟨by show 1<=3;decide,λc hc=>by rw[aq.mp hc];exact cY hj⟩,jd⟩ ?_ ?_ ?_
            . show max 1 (GN x2)+1<=_;omega
            . show 3 * (max 2 (mS x2)+max 2 (mS x2)+max 2 (mS x2))<=_;omega
            . show 5 * (1+vS x2)<=_;omega
          . (try show l4 ?_)
            exact k0 H5 s5 d5
       case rs=>
        intro x v G sG dG sv ok ht ms vs;show U Y ⟨(by show 2<=sizeLine;omega),λq nq=>?_⟩;rw[O0];have e:=c4 (o:=.tup [V.str<|tx<|n1 true,v]) nq;exact k (.one true x) _ _ (sG.trans<|.of e) (dG.same e) ⟨q,U Y ⟨c0,sv.same e.t⟩⟩ ok (by show GN x+1<=_;omega) (by show mS x+mS x+mS x<=_;omega) (by show 5 * vS x<=_;omega)
     . show⟨(by show 5<=sizeLine;omega),λlp fI=>?_⟩;have t3:=c4 (o:=.lst [V.str<|Str.ofString "sum",V.str<|Str.ofString "then",V.str<|Str.ofString "both",V.str<|Str.ofString "sum",V.str<|Str.ofString "then"]) fI;have d3:=d2.same t3;obtain⟨f,hf,f3⟩:∃f,Do [V.str<|Str.ofString "sum",V.str<|Str.ofString "then",V.str<|Str.ofString "both",V.str<|Str.ofString "sum",V.str<|Str.ofString "then"] (r1 - 7)=some (vT<|n2 f)/\f < 3:=by
        rcases(by omega:r1=7\/r1=8\/r1=9\/r1=10\/r1=11)with rfl | rfl | rfl | rfl | rfl
        . exact⟨0,by rw[R4];rfl,bD⟩
        . exact⟨1,by rw[Ax];rfl,bD⟩
        . exact⟨2,by rw[Bt];rfl,bD⟩
        . exact⟨0,by rw[R4];rfl,bD⟩
        . exact⟨1,by rw[Ax];rfl,bD⟩
       show U Y<|zc ⟨Y,Y,ze ⟨Y,Y,y7.of c0,hf,U Y ?_⟩⟩;show vc Y Y Y (U Y<|zc ⟨Y,Y,R,nm,p,a,so,l,m,hS,(by show [_,_,_,V.int<|((m+1:Nat):Int) - 1]=_;rw[em]),⟨d3,gS.same t3.t,L,l2,Z,Z⟩,λx5 v5 H5 s5 d5 ur uQ yf xY xN=>?_⟩);show⟨(by show 3<=sizeLine;omega),λq nq=>?_⟩;have e:=c4 (o:=.tup [vT<|n2 f,v2,v5]) nq;show k (.two f x2 x5) _ _ (FI.trans<|(v9.of t3).trans<|s5.trans<|.of e) (d5.same e) ⟨q,_,U Y ⟨c0,fZ.same<|t3.t.trans<|(s5.tt d3).trans e.t,ur.same e.t⟩⟩ ⟨f3,jd,uQ⟩ (by show max (GN x2) (GN x5)+1<=_;omega) ?_ ?_
       . show(if f=0 then max (mS x2) (mS x5)else if f=1 then max (mS x2) (mS x5)+max (mS x2) (mS x5)+max (mS x2) (mS x5)else mS x2+mS x5)<=_;split
         . omega
         split <;>omega
       . show(if f=0 then max (vS x2) (vS x5)+1 else vS x2+vS x5)<=_;split <;>omega
def P8:j2 Pr w K mg base B7 56 t.t0n t.q0f l0y (Cv (w:=w) (base:=base) T 5):=EU T 5
section
variable{W:Type}{s:Sy W}
def hd_n(h:AF s=nN):s=.nil:=by
 cases s with
 | nil=>rfl
 | word x=>exact absurd (show nW=nN from h) bD
 | times d a=>exact absurd (show nT=nN from h) bD
 | one f a=>cases f <;>exact absurd (show n1 _=nN from h) bD
 | two f a b=>rcases GA f with e | e | e <;>exact absurd (e.symm.trans<|show n2 f=nN from h) bD
def hd_w(h:AF s=nW):∃x,s=.word x:=by
 cases s with
 | word x=>exact⟨x,Y⟩
 | nil=>exact absurd (show nN=nW from h) bD
 | times d a=>exact absurd (show nT=nW from h) bD
 | one f a=>cases f <;>exact absurd (show n1 _=nW from h) bD
 | two f a b=>rcases GA f with e | e | e <;>exact absurd (e.symm.trans<|show n2 f=nW from h) bD
end
def dN{x y:w1h}{z:Str}(hz:z=tx y)(ne:x≠y):decide (V.str (tx x)=V.str z)=false:=decide_eq_false λe=>ne (Jd<|(V.str.inj e).trans hz)
def dY{x:w1h}{z:Str}(hz:z=tx x):decide (V.str (tx x)=V.str z)=true:=decide_eq_true (congrArg V.str hz.symm)
def Sw(z:Int):GC z<=20:=by unfold GC;split <;>omega
theorem Iq{S:SR}{l:w1h}:∀{s:Sy S.W},Mo S l s->B4 S s<=20
 | .nil,_=>by show(0:Int)<=20;decide
 | .word x,o=>by have:=o.1;show(x.length:Int)+1<=20;omega
 | .times _ a,o=>Iq (s:=a) o.2
 | .one f a,o=>by
  have:=Iq (s:=a) o;rw[B4];split
  . omega
  split
  . omega
  . exact Sw _
 | .two f a b,o=>by
  rw[B4];split
  . omega
  split
  . omega
  . exact Sw _
def FU(N:Nat):Sp:=λvs H Q _=>∃(R:c5 Pr w K mg base),∃nm p so v s l,So T R nm p/\vs=[so,v]/\(G0 H so nm p/\SV R s v H/\Mo R.S l s/\l.length<=2/\GN s<=N/\GN s<=10/\vS s<=50000)/\∀H',g9 H H'->Q (.int<|B4 R.S s) H'
theorem IA(T:Txt K mg t):∀(N:Nat) {w:World} {base:Heap},j2 Pr w K mg base B7 (N+51) t.w0d t.t0d Uz (FU (w:=w) (base:=base) T N)
 | 0,w,base=>by
  show T.s0m.F.ok C8 (λvs H Q E h=>?_) (λdR A outer s H vs Q E hr h=>?_)
  . obtain⟨R,nm,p,so,v,s,l,_,rfl,_⟩:=h;rfl
  . obtain⟨R,nm,p,so,v,s,l,_,rfl,⟨_,_,_,_,h0,_⟩,_⟩:=h;have:=Ny s;omega
 | N+1,w,base=>by
  have Bg:∀{w:World} {base:Heap} (T:Txt K mg t),j2 Pr w K mg base B7 (N+51) t.w0d t.t0d Uz (FU (w:=w) (base:=base) T N):=λT=>IA T N;show T.s0m.F.ok C8 (λvs H Q E h=>?_) (λ_ _ _ s H _ Q _ hr h=>?_)
  . obtain⟨R,nm,p,so,v,s,l,_,rfl,_⟩:=h;rfl
  . obtain⟨R,nm,p,so,v,sy,l,hS,rfl,⟨eh,hv,o,l2,hh,xw,jg⟩,k⟩:=h;have zl:=sZ;show⟨_,(a8 (sT 2 C8.nd<|o5 c9 (O 1) a7)<|a8 (j7 (d7 o4 (O 2) j1<|d8 _) (a9<|c6 a7) i3)<|a8 (j7 (d7 o4 (O 2) j1<|d8 _) (a9<|c6<|j4 z6 (i0 l5 bR T.z_len PySem.boot_len<|o9<|o5 c9 (O 1) a7) a7) i3)<|a8 (Li (i₀:=3) (xs:=[FP]) C8.nd Y (Or.inl Y) Y (oC n5N<|b9 T5) (E9<|M3 Jm (O 1) (S4 a7) S5) (gL 6 m0e) (PW.pt<|U0 (C6<|i0 (show O2 _ (.builtin "isinstance") (MS K)from C3) bR T.z_isinstance boot_isinstance<|B8 (O 6)<|E1 (v:=.ty "tuple") Y T.z_tuple boot_tuple Y)<|U0 (d7 Ay (i0 (show O2 _ (.builtin "len") (λxs H Q=>∃x n,xs=[x]/\R1 K x H n/\Q (V.int (n:Nat)) H)from l5) bR T.z_len PySem.boot_len<|o9<|O 6) a7<|d8 _)<|V4<|C6<|i0 (show O2 _ (.builtin "isinstance") (MS K)from C3) bR T.z_isinstance boot_isinstance<|B8 (o5 (show Vw _ (RL K)from c9) (O 6) a7)<|E1 (v:=.ty "str") Y T.z_str boot_str Y)<|O 6)<|a8 (V5 (i₀:=4) (xs:=[FP]) C8.nd Y (Or.inl Y) Y (oC n5N<|b9 T5) (BG<|O 3) (gL 6 m0e)<|j8 (Bg (w:=w) (base:=base) T) (hr.mono Z) Y T.s0m.m T.s0m.F.kp T.s0m.b .nil m8<|B8 (O 0)<|O 6)<|a8 (E8 aB Y (BG<|O 4) (gN 5 C8.nd)<|a9<|j7 (d7 DM (O 5) a7<|d8 _) (a9<|c6<|O 5) i3)<|a8 (j7 (PW.pt<|U0 (d7 o4 (O 2) j1<|d8 _)<|V4<|d7 (JB hr.units) (j8 (DR T) (hr.mono Z) Y T.r0y.m T.r0y.F.kp T.r0y.b .nil m8<|B8 (O 0)<|o5 c9 (O 1) a7) (j8 (D3 T) (hr.mono Z) Y T.r0a.m T.r0a.F.kp T.r0a.b .nil m8<|o9<|O 0)<|d8 _) (a9<|c6<|Iw Ee a7) i3)<|a8 (sT 5 C8.nd<|j4 z6 (o5 l6 (O 4) a7)<|o6 IS bR T.z_int boot_int<|o9<|K3 o4 (O 2) j1<|d8 _)<|a8 (j7 (PW.pt<|G9 (d7 o4 (O 2) j1<|d8 _)<|E7<|d7 o4 (O 2) j1<|d8 _) (a9<|sT 5 C8.nd<|j4 z6 (o5 l6 (O 4) a7)<|o5 l6 (O 4) a7) i3)<|a8 (j7 (d7 o4 (O 2) j1<|d8 _) (a9<|sT 5 C8.nd<|j4 Ao (o5 l6 (O 4) a7)<|o5 l6 (O 4) a7) i3)<|a8 (j7 (d7 Ay (O 5) a7<|d8 _) (a9<|c6<|Iw Ee a7) i3)<|a9<|c6<|O 5),?_⟩;obtain⟨p',es,us,rfl,hp,le,lu,hu⟩:=hv.look;obtain⟨x1,x2⟩:=GR sy;have e0:Do ((vT (AF sy)::es)++us) 0=some (vT<|AF sy):=y9 (show((vT (AF sy)::es)++us)[0]? = some (vT<|AF sy)from rfl);show U Y<|ze ⟨Y,Y,j3.of hp,e0,?_⟩;show U Y ⟨Y,U Y ?_⟩;by_cases hn:AF sy=nN
    . cases hd_n hn;exact fY (x:=nN) M9 (k H<|g9.refl _)
    show fN M9 hn ?_;show U Y ⟨Y,U Y ?_⟩;by_cases hw:AF sy=nW
    . obtain⟨x,rfl⟩:=hd_w hw;obtain⟨p2,e,dU⟩:=id hv;cases e;have o1:=o.1;show fY (x:=nW) E4 ?_;exact U Y (ze ⟨Y,Y,j3.of dU,Y,zc ⟨Y,(show R1 K (vT x) H x.length from⟨by rw[l7];omega,(l7 x).symm⟩),zc ⟨Y,Y,k H<|g9.refl _⟩⟩⟩)
    show fN E4 hw ?_;show vb Y Y ⟨p',U Y ⟨j3.of hp,hp,λp3 H2 s2 h2=>?_⟩⟩;have ec:AE ((vT (AF sy)::es)++us) (some (1:Int)) none=es++us:=GU (k:=1) (xs:=(vT (AF sy)::es)++us) (by simp);rw[ec]at h2;show⟨p3,Y,⟨_,j3.of h2⟩,GX (n:=(es++us).length) (λj ys G=>g9 H2 G/\ys=us.take (j - es.length)) (by simp;omega) ⟨g9.refl _,by simp⟩ (λj ys G z=>by rw[z.2,aM];omega) ?_ ?_ ?_⟩
    . rintro j ys G hj ⟨s3,rfl⟩;obtain⟨x,ex⟩:∃x,(es++us)[j]? = some x:=⟨_,aQ hj⟩;show⟨zc ⟨j3.of<|s3 _ _ h2,ex⟩,λy H' fJ=>?_⟩;obtain⟨rfl,fJ⟩:=fJ;have:=fJ _<|j3.of<|s3 _ _ h2;rw[ex]at this;cases this;show⟨⟨[some _],Y,Y⟩,?_⟩;have On:=s2.trans s3;by_cases hje:j < es.length
      . rw[aR hje]at ex;have nx:=(hv.ext hp le x<|aI ex).imp id<|Exists.imp λc h=>R.same On.t h;show RA T hS rfl nx<|l4 ?_;exact⟨s3,by rw[show j+1 - es.length=j - es.length by omega]⟩
      . rw[bc Z]at ex;obtain⟨b,eb,sb⟩:=hu _ x ex;show Ol T rfl (sb.same On.t) ?_;show C2 ?_
        (try dsimp only)
        exact U Y ⟨s3,by rw[show j+1 - es.length=(j - es.length)+1 by omega,O3 ex]⟩
    . rintro ys G ⟨s3,_⟩;exact⟨_,j3.of<|s3 _ _ h2,ae _⟩
    . rintro ys G lp ⟨s3,e3⟩ fI;rw[ar,dc,bE]at e3;rw[e3];clear e3;have t4:=c4 (o:=.lst us) fI;have k4:=c0 (H:=G) (a:=lp) (o:=.lst us);have s4:=s2.trans<|s3.trans t4;revert s4 k4;clear t4 fI h2 s2 s3;generalize upd G lp (.lst us)=H4;intro k4 s4;have gq:=eh.same s4.t;show U Y ⟨lp,Y,⟨_,y7.of k4⟩,u6 (n:=us.length) (λj ys G=>g9 H4 G/\ys.length=j/\ys=((Cj sy).take j).map λb=>V.int<|B4 R.S b) Z ⟨g9.refl _,Y,Y⟩ (λj ys G z=>z.2.1) ?_ ?_ ?_⟩
      . rintro j ys G hj ⟨s5,ly,e5⟩;obtain⟨x,ex⟩:∃x,us[j]? = some x:=⟨_,aQ hj⟩;obtain⟨b,eb,sb⟩:=hu _ x ex;show⟨zc ⟨y7.of<|s5 _ _ k4,ex⟩,λy H' fJ=>?_⟩;obtain⟨rfl,fJ⟩:=fJ;have:=fJ _<|y7.of<|s5 _ _ k4;rw[ex]at this;cases this;have mb:=aI eb;have h1:=SM mb;have xr:=NW mb;show⟨⟨[some _],Y,Y⟩,vb Y Y ⟨R,zr nm p so x b l ⟨hS,Y,⟨gq.same s5.t,sb.same (s4.trans s5).t,RY o mb,l2,Z,Z,Z⟩,λH5 uC=>⟨s5.trans uC,by rw[ar,ly];rfl,?_⟩⟩⟩⟩;rw[O3 eb,br,<- e5];rfl
      . rintro ys G ⟨s5,_⟩;exact⟨_,y7.of<|s5 _ _ k4,ae _⟩
      . rintro ys G zp ⟨s5,ly,e5⟩ pC;rw[show us.length=(Cj sy).length from lu,bE]at e5;have t6:=c4 (o:=.lst ys) pC;have k6:=c0 (H:=G) (a:=zp) (o:=.lst ys);have s6:=s4.trans<|s5.trans t6;revert s6 k6;clear t6 pC s5;generalize upd G zp (.lst ys)=H6;intro k6 s6;have fW:=eh.same s6.t;have kl:∀(i:Nat) b,(Cj sy)[i]? = some b->ys[i]? = some (V.int<|B4 R.S b):=λi b eb=>by rw[e5,bz,eb];rfl
        show U Y ⟨zp,Y,⟨_,y7.of k6⟩,Bo (K:=K) (a:=zp) (xs:=ys) (λj σ G=>∃v5,σ=[some so,some<|.ref p',some<|vT<|AF sy,sr lp,sr zp,v5]/\G=H6/\∀i b,i < j->(Cj sy)[i]? = some b->0<=B4 R.S b) (U Y ⟨Y,λi b h=>absurd h<|Nat.not_lt_zero _⟩) (λj σ G _ ⟨_,_,x,_⟩=>by rw[x];exact y7.of k6) ?_ ?_⟩
        . rintro j y σ G hj ⟨v5,rfl,rfl,hz⟩;have jl:=(aH.mp hj).1;have jp:j < (Cj sy).length:=by omega
          have eb:=aQ jp;rw[kl j _ eb]at hj;cases hj;show U Y<|zc ⟨Y,Y,U Y ?_⟩;show R0 (λh=>?_) (λh=>?_)
          . show U Y ?_;rw[<- FT eb hz h];exact k _ s6
          . show U Y ⟨Y,λi b hi e=>?_⟩;by_cases z:i=j
            . rw[z,eb]at e;cases e;omega
            . exact hz i b Z e
        . rintro σ G ⟨v5,rfl,rfl,hz⟩;have hz:∀i b,(Cj sy)[i]? = some b->0<=B4 R.S b:=λi b e=>hz i b (by have:=(aH.mp e).1;omega) e;have kY:=s6 _ _ hp;cases sy with
          | nil=>exact absurd rfl hn
          | word x=>exact absurd rfl hw
          | times c a=>
           have za:=hz 0 a rfl;have oY:=Iq (s:=a) o.2;have e1:Do ys 0=some (V.int<|B4 R.S a):=y9<|kl 0 a Y;show U Y ⟨Y,U Y<|fN (x:=nT) O0 bD ?_⟩
           (try show l4 ?_)
           show U Y<|ze ⟨Y,Y,y7.of k6,e1,U Y ⟨Y,.inr<|U Y<|zc ⟨Y,Y,?_⟩⟩⟩;generalize hq:(@ite Int (_=true) (instDecidableEqBool _ true) 1 0)=q;obtain rfl:q=0:=hq.symm.trans<|if_neg λz=>ax<|(dN (x:=nT) O0 bD).symm.trans z;dsimp only;rw[cD];show U Y ⟨Y,U Y<|fN (x:=nT) R4 bD ?_⟩;show U Y ⟨Y,U Y<|fN (x:=nT) Ax bD ?_⟩
           (try show l4 ?_)
           show U Y ⟨Y,U Y<|fN (x:=nT) Bt bD ?_⟩;show U Y<|zc ⟨Y,Y,U Y<|R0 (λh=>absurd h Z)<|λ_=>?_⟩;exact U Y (k _ s6)
          | one f a=>
           have za:=hz 0 a rfl;have oY:=Iq (s:=a) o;have e1:Do ys 0=some (V.int<|B4 R.S a):=y9<|kl 0 a Y;obtain⟨p2,y,e,dU,fZ⟩:=id hv;cases e;cases f with
           | false=>
            show U Y ⟨Y,U Y<|fN (x:=n1 false) O0 bD ?_⟩
            (try show l4 ?_)
            show U Y<|ze ⟨Y,Y,y7.of k6,e1,U Y ⟨Y,.inr<|U Y<|zc ⟨Y,Y,?_⟩⟩⟩;generalize hq:(@ite Int (_=true) (instDecidableEqBool _ true) 1 0)=q;obtain rfl:q=0:=hq.symm.trans<|if_neg λz=>ax<|(dN (x:=n1 false) O0 bD).symm.trans z;dsimp only;rw[cD];show U Y ⟨Y,U Y<|fN (x:=n1 false) R4 bD ?_⟩;show U Y ⟨Y,U Y<|fN (x:=n1 false) Ax bD ?_⟩
            (try show l4 ?_)
            show U Y ⟨Y,U Y<|fN (x:=n1 false) Bt bD ?_⟩;show U Y<|zc ⟨Y,Y,U Y<|R0 (λh=>absurd h Z)<|λ_=>?_⟩;rw[<- Oa za oY];exact U Y (k _ s6)
           | true=>
            have h1:GN a+1<=10:=xw;have h2:5 * vS a<=50000:=jg;show U Y ⟨Y,U Y<|fY (x:=n1 true) O0 ?_⟩;show vb Y Y<|ze ⟨Y,Y,j3.of<|s6 _ _ dU,Y,R,zr nm p so y a l ⟨hS,Y,⟨fW,fZ.same s6.t,o,l2,Z,Z⟩,λv7 H7 s7 f7=>?_⟩⟩;show U Y ⟨R,zj nm p so ⟨hS,Y,fW.same s7.t,λv8 H8 s8 f8=>?_⟩⟩;have Jz:=s7.trans s8;by_cases e:wS R.S a []=R.S.zero
            . show R.neD (R.same s8.t f7) f8 e (U Y ?_)
              (try show l4 ?_)
              (try show l4 ?_)
              show U Y<|ze ⟨Y,Y,y7.of<|Jz _ _ k6,e1,U Y ⟨Y,.inr<|U Y<|zc ⟨Y,Y,?_⟩⟩⟩;generalize hq:(@ite Int (_=true) (instDecidableEqBool _ true) 1 0)=q;obtain rfl:q=1:=hq.symm.trans<|if_pos<|dY (x:=n1 true) O0;show U Y ⟨Y,U Y<|fN (x:=n1 true) R4 bD ?_⟩;show U Y ⟨Y,U Y<|fN (x:=n1 true) Ax bD ?_⟩
              (try show l4 ?_)
              show U Y ⟨Y,U Y<|fN (x:=n1 true) Bt bD ?_⟩;have sz:=Jf za e;show U Y (zc ⟨Y,Y,U Y<|R0 (λh=>?_)<|λh=>?_⟩)
              . rw[Bj h]at sz;have kk:=k _<|s6.trans Jz;rw[sz]at kk;exact U Y kk
              . rw[As Z]at sz;have kk:=k _<|s6.trans Jz;rw[sz]at kk;exact U Y kk
            . show R.neT (R.same s8.t f7) f8 e (U Y ?_)
              (try show C2 ?_)
              (try show C2 ?_)
              have kk:=k _<|s6.trans Jz;rw[NZ za e]at kk;exact U Y kk
          | two f a b=>
           have za:=hz 0 a rfl;have zb:=hz 1 b rfl;have e1:Do ys 0=some (V.int<|B4 R.S a):=y9<|kl 0 a Y;have e2:Do ys 1=some (V.int<|B4 R.S b):=y9<|kl 1 b Y;have yy:=Iq (s:=a) o.2.1;have yx:=Iq (s:=b) o.2.2;have f3:=o.1;have sz:=Rf (f:=f) za zb;rcases(by omega:f=0\/f=1\/f=2)with rfl | rfl | rfl
           . show U Y ⟨Y,U Y<|fN (x:=n2 0) O0 bD ?_⟩
             (try show l4 ?_)
             show U Y<|ze ⟨Y,Y,y7.of k6,e1,U Y ⟨Y,.inr<|U Y<|zc ⟨Y,Y,?_⟩⟩⟩;generalize hq:(@ite Int (_=true) (instDecidableEqBool _ true) 1 0)=q;obtain rfl:q=0:=hq.symm.trans<|if_neg λz=>ax<|(dN (x:=n2 0) O0 bD).symm.trans z;show U Y ⟨Y,U Y<|fY (x:=n2 0) R4 ?_⟩
             (try show C2 ?_)
             show U Y<|ze ⟨Y,Y,y7.of k6,e1,U Y<|ze ⟨Y,Y,y7.of k6,e2,zc ⟨Y,Y,?_⟩⟩⟩;show U Y ⟨Y,U Y<|fN (x:=n2 0) Bt bD ?_⟩;have sz:B4 R.S (.two 0 a b)=GC (B4 R.S a+B4 R.S b):=sz;show U Y (zc ⟨Y,Y,U Y<|R0 (λh=>?_)<|λh=>?_⟩)
             . rw[Bj h]at sz;have kk:=k _ s6;rw[sz]at kk;exact U Y kk
             . rw[As Z]at sz;have kk:=k _ s6;rw[sz]at kk;exact U Y kk
           . show U Y ⟨Y,U Y<|fN (x:=n2 1) O0 bD ?_⟩
             (try show l4 ?_)
             show U Y<|ze ⟨Y,Y,y7.of k6,e1,U Y ⟨Y,.inr<|U Y<|zc ⟨Y,Y,?_⟩⟩⟩;generalize hq:(@ite Int (_=true) (instDecidableEqBool _ true) 1 0)=q;obtain rfl:q=0:=hq.symm.trans<|if_neg λz=>ax<|(dN (x:=n2 1) O0 bD).symm.trans z;show U Y ⟨Y,U Y<|fN (x:=n2 1) R4 bD ?_⟩;show U Y ⟨Y,U Y<|fY (x:=n2 1) Ax ?_⟩
             (try show C2 ?_)
             show U Y<|ze ⟨Y,Y,y7.of k6,e1,U Y<|ze ⟨Y,Y,y7.of k6,e2,zc ⟨Y,Y,?_⟩⟩⟩;show U Y ⟨Y,U Y<|fN (x:=n2 1) Bt bD ?_⟩;have sz:B4 R.S (.two 1 a b)=GC (B4 R.S a+B4 R.S b):=sz;show U Y (zc ⟨Y,Y,U Y<|R0 (λh=>?_)<|λh=>?_⟩)
             . rw[Bj h]at sz;have kk:=k _ s6;rw[sz]at kk;exact U Y kk
             . rw[As Z]at sz;have kk:=k _ s6;rw[sz]at kk;exact U Y kk
           . show U Y ⟨Y,U Y<|fN (x:=n2 2) O0 bD ?_⟩
             (try show l4 ?_)
             show U Y<|ze ⟨Y,Y,y7.of k6,e1,U Y ⟨Y,.inr<|U Y<|zc ⟨Y,Y,?_⟩⟩⟩;generalize hq:(@ite Int (_=true) (instDecidableEqBool _ true) 1 0)=q;obtain rfl:q=0:=hq.symm.trans<|if_neg λz=>ax<|(dN (x:=n2 2) O0 bD).symm.trans z;show U Y ⟨Y,U Y<|fN (x:=n2 2) R4 bD ?_⟩;show U Y ⟨Y,U Y<|fN (x:=n2 2) Ax bD ?_⟩
             (try show l4 ?_)
             show U Y ⟨Y,U Y<|fY (x:=n2 2) Bt ?_⟩;show U Y<|ze ⟨Y,Y,y7.of k6,e1,U Y<|ze ⟨Y,Y,y7.of k6,e2,zc ⟨Y,Y,.inl ⟨Z,Z⟩,?_⟩⟩⟩;have sz:B4 R.S (.two 2 a b)=GC (B4 R.S a * B4 R.S b):=sz;show U Y (zc ⟨Y,Y,U Y<|R0 (λh=>?_)<|λh=>?_⟩)
             . rw[Bj h]at sz;have kk:=k _ s6;rw[sz]at kk;exact U Y kk
             . rw[As Z]at sz;have kk:=k _ s6;rw[sz]at kk;exact U Y kk
def Bg:j2 Pr w K mg base B7 61 t.w0d t.t0d Uz (FU (w:=w) (base:=base) T 10):=IA T 10
def Pg:Sp:=λvs H Q _=>∃(R:c5 Pr w K mg base),∃nm p so mv l n st tb en u m,So T R nm p/\vs=[so,mv,vT u]/\(G0 H so nm p/\y6 R l n st tb en m m m mv H/\FM l/\(∀c∈u,c∈l)/\n<=32/\u.length<=100/\(u.length+2) * m<=100000)/\
 ∀v H',g9 H H'->R.is H' v (Aa R.S l n st tb en u)->Q v H'
def JD:j2 Pr w K mg base B7 42 t.u0p t.r0z Xw (Pg (w:=w) (base:=base) T):=by
 show T.r0m.F.okA K9 λ_ _ _ _ H _ _ _ hr h=>?_;obtain⟨R,nm,p,so,mv,l,n,st,tb,en,u,m,hS,rfl,⟨eh,hM,L,hu,hn,yd,hz⟩,k⟩:=h;obtain⟨mp,sv,tv,ev,rfl,hm,h1,⟨tp,uo,rfl,eS,eT⟩,h3⟩:=hM;show⟨_,(a8 (CN (i:=3) K9.nd Y (Or.inr Y)<|o5 c9 (O 1) a7)<|a8 (E8 aB Y (WO Y T.z_reversed<|o9<|O 2) (gN 4 K9.nd)<|a8 (sT 5 K9.nd<|o5 c9 (o5 c9 (O 1) a7)<|DL dm PySem.F.slot_str_index PySem.F.type_str_index IG (o5 c9 (O 1) a7)<|o9<|O 4)<|a9<|CN (i:=3) K9.nd Y (Or.inr Y)<|B9 (xs:=["_law_line"]) Y (oC m0c<|b9 V1) (E9<|O 5) (w5 (i:=6) (by show List.Nodup ([J8,"_law_machine",Ds,TB,Tz,"_law_table","_law_line"]:w1i);decide +kernel) Y<|Or.inl Y)<|j8 (Gs (w:=w) (base:=base) T) hr.m Y T.u0n.m T.u0n.F.kp T.u0n.b .nil m8<|O1 (O 0) (O 6)<|O 3)<|a9<|c6<|z7 (Gs T) hr.m T.u0n<|O1 (O 0) (o5 c9 (O 1) a7)<|O 3),?_⟩;have zl:=sZ;show U Y<|ze ⟨Y,Y,j3.of hm,Y,?_⟩;show U Y ⟨tx u,Y,(by rw[l7];omega),GQ (n:=u.length) (λi σ G=>∃cv v4 v5,σ=[some so,sr mp,some<|vT u,some cv,v4,v5]/\g9 H G/\R.Seq n (Mn R.S n tb (λj=>X8 l u<|u.length - i+j) i en) ((i+1) * m) cv G) ⟨ev,_,U Y ⟨g9.refl _,by rw[cI,Nat.one_mul];exact h3.seq⟩⟩ ?_ ?_⟩
 . rintro i σ G hi ⟨cv,v4,v5,rfl,q,hR⟩;show⟨(by show i < u.toArray.size;simpa using hi),λy G' hy=>?_⟩;obtain⟨rfl,c,hc,rfl⟩:=hy;have hc:u[u.length - 1 - i]? = some c:=by have:=FR hc;rwa [show(tx u).cps.size=u.length from l7 u]at this
   have cl:c∈l:=hu c<|aI hc;have cx:l.idxOf c < l.length:=List.idxOf_lt_length_iff.mpr cl;obtain⟨tu,xC,uD⟩:=eT.2 _ cx;show U Y<|ze ⟨Y,Y,j3.of<|q _ _ hm,Y,U Y<|ze ⟨Y,Y,j3.of<|q _ _ hm,Y,Y,U Y<|ze ⟨Y,Y,Nc L cl,ze ⟨Y,Y,j3.of<|q _ _ eS,y9 xC,?_⟩⟩⟩⟩;show W3 5 tu [some so,sr mp,some<|vT u,some cv,some<|vT [c],v5] G' _;obtain⟨ap,pH,rfl,og,eA⟩:=c5.Tab.same q.t uD;have e2:(i+1+1) * m=(i+1) * m+m:=aV ..;have e3:(i+1+1) * m<=(u.length+2) * m:=bf _ Z;have eb:Mn R.S n tb (λj=>X8 l u<|u.length - (i+1)+j) (i+1) en=λa=>o3 R.S (tb (l.idxOf c) a) (Mn R.S n tb (λj=>X8 l u<|u.length - i+j) i en) n:=by rw[EM,Nat.add_zero,Mv<|show u[u.length - (i+1)]? = some c by rwa [show u.length - (i+1)=u.length - 1 - i by omega]];rw[BI (wd':=λj=>X8 l u<|u.length - i+j) en λj hj=>by show X8 l u _=X8 l u _;rw[show u.length - (i+1)+(j+1)=u.length - i+j by omega]];rfl
   show U Y ⟨ap,Y,⟨_,j3.of og⟩,u6 (n:=n) (λj ys G2=>g9 G' G2/\l8 (R.Wt (λa=>o3 R.S (tb (l.idxOf c) a) (Mn R.S n tb (λj=>X8 l u<|u.length - i+j) i en) n)<|(i+1+1) * m) ys j G2) Z ⟨g9.refl _,l8.nil⟩ (λj ys H2 q=>q.2.1) ?_ ?_ ?_⟩
   . rintro j ys G2 hj ⟨q2,e⟩;obtain⟨lu,xD,uJ⟩:=eA.2 j hj;show GL (j3.of<|q2 _ _ og) xD ?_;show⟨⟨[some _],Y,Y⟩,vc Y Y Y ⟨R,zw nm p so _ cv n _ _ m ((i+1) * m) ⟨hS,Y,⟨eh.same (q.trans q2).t,(c5.Row.same q2.t uJ).seq,c5.Seq.same q2 hR,hn,Z⟩,λv H3 s3 f3 z3=>?_⟩⟩⟩;exact⟨q2.trans s3,(e.mono λ_ _ _ x=>c5.Wt.same s3.t x).snoc ⟨f3,by have z4:=z3;rw[bZ,<- e2]at z4;exact z4⟩⟩
   . rintro ys G2 ⟨q2,e⟩;exact⟨_,j3.of<|q2 _ _ og,by rw[eA.1];exact ae _⟩
   . rintro ys G2 z ⟨q2,e⟩ nz;have t1:=c4 (o:=.lst ys) nz;show⟨.ref z,zc ⟨Y,q.trans<|q2.trans t1,?_⟩⟩;rw[eb];exact Cs.list c0 (e.mono λ_ _ _ w'=>c5.Wt.same t1.t w')
 . rintro σ G ⟨cv,v4,v5,rfl,q,hR⟩;have e3:(u.length+2) * m=(u.length+1) * m+m:=aV ..;show⟨(by show u.length=_;exact(l7 u).symm),vb Y Y<|ze ⟨Y,Y,j3.of<|q _ _ hm,Y,U Y ⟨R,zw nm p so _ cv n _ _ m ((u.length+1) * m) ⟨hS,Y,⟨eh.same q.t,(c5.Row.same q.t h1).seq,hR,hn,Z⟩,λv H3 s3 f3 _=>?_⟩⟩⟩⟩;show k _ _ (q.trans s3) ?_;have e:=Kg (S:=R.S) (n:=n) (st:=st) (tb:=tb) (wd:=X8 l u) 0 u.length en;rw[Nat.sub_self]at f3;rw[cI]at e;rw[show Aa R.S l n st tb en u=_ from e.symm];exact f3
def Pi(T:Txt K mg t):Sp:=λvs H Q _=>∃(R:c5 Pr w K mg base),∃kv l v s,vs=[kv,vT l,v]/\(Bv R.C R.fs H kv/\SV R s v H/\FM l/\Mo R.S l s/\GN s<=10/\mS s<=30000)/\
 ∀p x y H',g9 H H'->H' p=some (.tup [x,y])->(0<=B4 R.S s->y=vT []/\MM R l (bM R.S l s) (mS s) x H')->(B4 R.S s < 0->∃q,y=.ref q/\H' q=some (.tup [.bl<|decide<|B4 R.S s = -1,.bl<|decide<|B4 R.S s = -2]))->Q (.ref p) H'
def JF(hW:WK w K mg aW):j2 Pr w K mg base B7 60 t.u0j t.s0f Xy (Pi (w:=w) (base:=base) T):=by
 show T.r0x.F.okA G7 λ_ _ _ s _ _ _ _ hr h=>?_;obtain⟨R,kv,l,v,s,rfl,⟨hk,hv,L,o,hh,hm⟩,k⟩:=h;have em:V.str (Str.ofString "")=vT []:=by rw[Cp];rfl
 show⟨_,(a8 (sT 3 G7.nd M4)<|a8 (sT 4 G7.nd j1)<|a8 (WL (i:=5) (Um<|Ul (i:=3) G7.nd Y (Or.inl Y)<|L9 (Ez T hW) hr.m Y T.w0v.m T.w0v.F.kp T.w0v.b .nil<|O1 (O 0) (O 1)<|O 2) Y Y G7.nd Y Y Y T.q0j<|λ_=>(a9<|sT 4 G7.nd<|o8<|B8 (i0 (IR K Y) bR T.z_isinstance boot_isinstance<|B8 (O 5)<|V7 (v:=.ref t.u0z) Y T.r0f Y)<|i0 (IR K Y) bR T.z_isinstance boot_isinstance<|B8 (O 5)<|V7 (v:=.ref t.v0t) Y T.t0i Y))<|a9<|c6<|o8<|B8 (O 3)<|O 4),?_⟩;show U Y ?_;rw[em];show vb Y Y ⟨R,zk kv l v s ⟨Y,⟨hk,hv,L,o,hh,hm⟩,λz v' H1 s1 hM=>?_,λz H1 s1=>(U Y ⟨T.eC,λa ha=>?_⟩),λz H1 s1=>(U Y ⟨T.eG,λa ha=>?_⟩)⟩⟩
 . show vb Y Y ⟨sL,λp np=>?_⟩;have t1:=c4 (o:=.tup [v',vT []]) np;exact k p _ _ _ (s1.trans t1) c0 (λ_=>⟨Y,hM.same t1.t⟩) λe=>absurd z Z
 . have hx:upd H1 a (Di a t.u0z) a=some (Di a t.u0z):=c0;have s2:=s1.trans<|c4 (o:=Di a t.u0z) ha;revert s2 hx;generalize upd H1 a (Di a t.u0z)=H2;intro hx s2;show U Y<|zf ⟨Y,hx,T.s0b,Y,T.kCC,U Y<|zf ⟨Y,hx,T.s0b,Y,T.kCG,sL,λq nq=>?_⟩⟩;show PV (o:=.tup [.bl true,.bl false]) nq λH3 t3 k3=>?_;show vb Y Y ⟨sL,λp np=>?_⟩;have t4:=c4 (o:=.tup [.non,.ref q]) np;show k p _ _ _ (s2.trans<|t3.trans t4) c0 (λe=>absurd z Z) λ_=>⟨q,Y,?_⟩;rw[z];exact t4 _ _ k3
 . have hx:upd H1 a (Di a t.v0t) a=some (Di a t.v0t):=c0;have s2:=s1.trans<|c4 (o:=Di a t.v0t) ha;revert s2 hx;generalize upd H1 a (Di a t.v0t)=H2;intro hx s2;show U Y<|zf ⟨Y,hx,T.t0b,Y,T.kGC,U Y<|zf ⟨Y,hx,T.t0b,Y,T.kGG,sL,λq nq=>?_⟩⟩;show PV (o:=.tup [.bl false,.bl true]) nq λH3 t3 k3=>?_;show vb Y Y ⟨sL,λp np=>?_⟩;have t4:=c4 (o:=.tup [.non,.ref q]) np;show k p _ _ _ (s2.trans<|t3.trans t4) c0 (λe=>absurd z Z) λ_=>⟨q,Y,?_⟩;rw[z];exact t4 _ _ k3
def Yi{C:Addr}{fs:List (Str × V)}{H H':Hp}{k:V}{a:Addr}(h:Bv C fs H k)(d:Dr H a)(s:v9 a H H'):Bv C fs H' k:=by obtain⟨p,dx,rfl,h⟩:=h;show⟨p,dx,Y,s _ _ (λe=>?_) h⟩;obtain⟨xs,z⟩:=d.lst;rw[<- e,h]at z;cases z
def Rp(K:aa):Sp:=λvs H Q _=>∃(a:Addr) (ns:List Int),vs=[.ref a]/\y7 K H a (ns.map V.int)/\ns.length<=63/\∀H',Q (.bl true) H'
def Xb(hW:WK w K mg aW):j2 Pr w K mg base B7 62 t.law t.y0a [Ky] (Rp K):=by
 show T.x0x.F.okA Q5 λ_ _ _ _ _ _ _ _ hr h=>?_;obtain⟨a0,ns,rfl,hS0,dE,k⟩:=h;have zl:=sZ;show⟨_,(a8 (sT 1 Q5.nd<|z7 (JE T) hr.m T.r0w<|o9<|O 0)<|a8 (sT 2 Q5.nd<|z7 (Lu T) hr.m T.t0j<|o9<|O 1)<|a8 (sT 3 Q5.nd<|z7 (Lv T) hr.m T.s0y<|o9<|O 2)<|a8 (sT 4 Q5.nd<|z7 (Gr T) hr.m T.p0z<|B8 (O 1) a7)<|a8 (sT 5 Q5.nd<|z7 (P8 T) hr.m T.q0r<|HC (O 1) (O 2) (O 4)<|j4 z6 a7<|z7 (l9 T) hr.m T.t0r<|B8 (O 1) a7)<|a8 (sT 6 Q5.nd<|z7 (Bg T) hr.m T.s0m<|B8 (O 2)<|O 5)<|a8 (MT (j8 (JF T hW) hr.m Y T.r0x.m T.r0x.F.kp T.r0x.b .nil m8<|O1 (O 3) (O 4)<|O 5)<|An Y<|z8 (gN 7 Q5.nd)<|z8 (gN 8 Q5.nd) S6)<|a8 (j7 (d7 DM (O 6) a7<|d8 _) (a9<|c6<|K3 (Xa hr.units) (O 8) (o8<|B8 (K3 o4 (O 6) (Iw Ee a7)<|d8 _)<|K3 o4 (O 6) (Iw Ee a7)<|d8 _)<|d8 _) i3)<|a8 (j7 (PW.pt<|G9 (d7 Be (O 8) j1<|d8 _)<|G9 (D9<|C6<|z7 (HH T) hr.m T.q0z<|B8 (O 3)<|O 7)<|G9 (d7 Be (o5 c9 (O 7) a7) (O 4)<|d8 _)<|E7<|d7 Be (i0 l5 bR T.z_len PySem.boot_len<|o9<|o5 c9 (O 7) a7) (O 6)<|d8 _) (a9<|c6 M5) i3)<|a8 (sT 9 Q5.nd<|z7 (JC T) hr.m T.r0g<|B8 (O 4)<|o5 l6 (K8<|B8 a7 a7)<|o6 IS bR T.z_int boot_int<|o9<|K3 Ay (O 6) a7<|d8 _)<|a8 (sT 10 Q5.nd<|z7 (M7 T) hr.m T.p0m<|O1 (O 2) (O 5)<|O 9)<|a8 (E8 aB Y (BG<|O 9) (gN 11 Q5.nd)<|a9<|j7 (d7 (JB hr.units) (z7 (JD T) hr.m T.r0m<|O1 (O 2) (O 7)<|O 11) (F0 (J0 hr) (O 10) (O 11)<|λ_ _=>rfl)<|d8 _) (a9<|c6 M5) i3)<|a9<|c6 M5),?_⟩;show U Y ⟨a0,ns,Y,hS0,dE,λa H1 na s1 d1=>?_⟩;show U Y ⟨a,Y,d1,λR nm p so H2 hS eh s2 d2=>?_⟩;show U Y ⟨R,zj nm p so ⟨hS,Y,eh,λkv H3 s3 hk=>?_⟩⟩;have d3:=d2.same s3;have nG:=eh.same s3.t;show U Y ⟨a,2,Y,⟨d3,bD,bD⟩,λl H4 s4 d4 L az l2=>?_⟩;have l2:l.length<=2:=by omega
 have gq:=nG.same<|s4.tt d3;have wO:=Yi hk d3 s4;show vc Y Y Y<|U Y ⟨a,4,Y,⟨d4,bD,bD⟩,λr5 H5 s5 d5 a5 b5=>?_⟩;obtain⟨m,m1,m4,em⟩:∃m:Nat,1<=m/\m<=4/\(1:Int)+r5=(m:Int):=⟨(1+r5).toNat,Z,Z,Z⟩;have jM:=gq.same<|s5.tt d4;have wN:=Yi wO d4 s5;show zc ⟨Y,Y,R,nm,p,a,so,l,m,hS,(by rw[<- em];rfl),⟨d5,jM,L,l2,Z,m4⟩,λx v H6 s6 d6 sv ok ht ms kP=>?_⟩;have fW:=jM.same<|s6.tt d5;have pU:=Yi wN d5 s6;have pm:10 ^ m<=10 ^ 4:=cA bD m4;have e4:(10:Nat) ^ 4=10000:=by decide
 have pn:9 ^ m<=9 ^ 4:=cA bD m4;have e9:(9:Nat) ^ 4=6561:=by decide
 show vb Y Y ⟨R,zr nm p so v x l ⟨hS,Y,⟨fW,sv,ok,l2,Z,Z,Z⟩,λH7 s7=>?_⟩⟩;show vc Y Y Y ⟨R,zk kv l v x ⟨Y,⟨pU.same s7,sv.same s7.t,L,ok,Z,Z⟩,λq u y H8 s8 kq e0 e1=>?_⟩⟩;show⟨q,U Y ⟨j3.of kq,Y,zc ⟨Y,zc ⟨Y,Y,?_⟩⟩⟩⟩;show U Y<|zc ⟨Y,Y,U Y ?_⟩;have c:=AH x;show R0 (λh=>?_) (λh=>?_)
 . obtain⟨q2,rfl,h2⟩:=e1 h;clear e0 e1;revert h h2 c;generalize B4 R.S x=z;intro c h h2;obtain rfl | rfl:z = -1\/z = -2:=by omega
   . exact vc Y Y Y ⟨Y,vb Y Y ⟨Y,(by show 2<=sizeLine;omega),λp np=>zc ⟨.tup (j3.of<|c4 np _ _ h2)<|.cons (.bl _)<|.cons (.bl _) .nil,.tup (j3.of c0)<|.cons (.bl _)<|.cons (.bl _) .nil,Y,Y,Y,k _⟩⟩⟩
   . exact vc Y Y Y ⟨Y,vb Y Y ⟨Y,(by show 2<=sizeLine;omega),λp np=>zc ⟨.tup (j3.of<|c4 np _ _ h2)<|.cons (.bl _)<|.cons (.bl _) .nil,.tup (j3.of c0)<|.cons (.bl _)<|.cons (.bl _) .nil,Y,Y,Y,k _⟩⟩⟩
 obtain⟨rfl,hM⟩:=e0 Z;obtain⟨b1,b2,b3⟩:=Cq L x ok Z;have mZ:(bM R.S l x).n<=20:=by omega
 have Jz:=s7.trans s8;show U Y ⟨Y,U Y ?_⟩;show Nv (by rw[show V.str (Str.ofString "")=vT [] by rw[Cp];rfl,decide_eq_true rfl];rfl) ?_;show vb Y Y ⟨R,zu kv u l _ _ _ _ _ ⟨Y,⟨pU.same Jz,hM.m,⟨L,az⟩,mZ⟩,λH9 s9=>(U Y ?_)⟩⟩;show l4 ?_;have qb:=hM.same s9.t;obtain⟨mp,xU,tv,ev,rfl,pO,⟨sp,us,rfl,fB,vA⟩,r2,r3⟩:=id qb;show U Y<|ze ⟨Y,Y,j3.of pO,Y,U Y ⟨Y,U Y ?_⟩⟩;show Nv (by rw[decide_eq_true rfl];rfl) ?_;show U Y (ze ⟨Y,Y,j3.of pO,Y,zc ⟨Y,(show R1 K (.ref sp) H9 us.length from .inr ⟨_,j3.of fB,Y⟩),?_⟩⟩);show U Y ⟨Y,U Y ?_⟩;show Nv (by rw[vA.1,b1,decide_eq_true rfl];rfl) ?_;have je:∀b:Bool,∃qn:Nat,Do [V.int 4,V.int 2] (if b=true then 1 else 0)=some (V.int (qn:Nat))/\qn<=4:=λb=>by
  cases b
  . exact⟨4,Y,bD⟩
  . exact⟨2,Y,bD⟩
 obtain⟨qn,hq,q4⟩:=je<|decide<|5 < B4 R.S x;obtain⟨ul,up⟩:=KG l2 q4;show U Y ⟨(by show 2<=sizeLine;omega),λlp fI=>?_⟩;have pk:=c4 (o:=.lst [V.int 4,V.int 2]) fI;show U Y<|zc ⟨Y,Y,.inr<|U Y<|ze ⟨Y,Y,y7.of c0,hq,l,_,qn,Y,⟨L,⟨Z,Z⟩,Z,Z,Z⟩,λb yB Yz nb kb=>?_⟩⟩;have iB:=Jz.trans<|s9.trans<|pk.trans Yz;show vc Y Y Y ⟨R,zu nm p so v x l qn b ⟨hS,Y,⟨fW.same iB.t,sv.same iB.t,ok,l2,Z,Z,kb,q4⟩,λd aT xK FI nd hd hD=>?_⟩⟩;have jN:=fW.same (iB.trans FI).t;have oq:=qb.same (pk.trans<|Yz.trans FI).t;have jI:=FI _ _ kb;show U Y ⟨b,Y,⟨_,y7.of jI⟩,Bo (K:=K) (a:=b) (xs:=(C0 l qn).map vT) (λj σ G=>∃mE,σ=[sr a0,sr a,some so,some kv,some<|vT l,some v,some<|.int<|B4 R.S x,sr mp,some<|vT [],sr b,sr d,mE]/\g9 xK G) (U Y<|g9.refl _) (λj σ G _ ⟨_,_,z⟩=>y7.of<|z _ _ jI) ?_ ?_⟩
 . rintro j y σ G hj ⟨mE,rfl,sG⟩;rw[bz]at hj;obtain⟨u,eu,rfl⟩:=cS.mp hj;have mu:=aI eu;obtain⟨u4,au⟩:=Du qn u mu;have hz:(u.length+2) * mS x<=6 * 13122:=bX Z Z;show vc Y Y Y ⟨R,zz nm p so (.ref mp) l _ _ _ _ u (mS x) ⟨hS,Y,⟨jN.same sG.t,oq.same sG.t,L,au,Z,Z,Z⟩,λv2 G2 s2 f2=>?_⟩⟩;have gO:=sG.trans s2;obtain⟨y,ey,fy⟩:=hD u mu;have g1:=Aw.k (k:=kW u)<|gO _ _ hd;rw[ey]at g1;show vb Y Y ⟨d,U Y ⟨g1,?_⟩⟩;show R.neD f2 (R.same gO.t fy) (b3 u au)<|U Y ?_;show l4 ?_;exact U Y gO
 . rintro σ G ⟨mE,rfl,sG⟩;exact k _
def Ql:∀(s:Shared) (u:Value),BindsTo s t.y0a ⟨[u],[]⟩ [("_law_script",u)]:=by obtain⟨oc,od,kV,fc,pm,an,dR,ct,gF,e,_,_⟩:=T.x0x.F.ex;rw[e];exact λs u=>.of_eq rfl
def XR(p:Params)(t:Str × Tok × Int × Tok):DictEntry:=⟨PySem.PyData.keyHash p t.1,.str t.1 t.2.1,.int t.2.2.1 t.2.2.2⟩
def prT(t:Str × Tok × Int × Tok):L2.G6 × Value:=(.inr t.1,.int t.2.2.1 t.2.2.2)
theorem Vr:∀ts:List (Str × Tok × Int × Tok),KV (UH<|ts.map λt=>(t.1,t.2.2.1)) (ts.map prT)
 | []=>.nil
 | t::ts=>.cons ⟨Y,⟨_,Y⟩⟩ (Vr ts)
theorem RO{P:Program}{w:World}:∀ts:List (Str × Tok × Int × Tok),Pairs (C4 P w) (ts.map<|XR w.params) (ts.map prT)
 | []=>.nil
 | t::ts=>.cons (Bk P w t.1 t.2.1) rfl (RO ts)
def OH{P:Program}{w:World}{K:aa}{a:Addr}{n:Nat}(ts:List (Str × Tok × Int × Tok))(ns:(a == sysModules)=false)
    (hl:K.lookup a=some ⟨.type "dict",none,.dict (ts.map<|XR w.params).toArray n,#[]⟩) (hn:(ts.map (·.1)).Nodup):To P w K a (ts.map λt=>(t.1,t.2.2.1))where
 ns:=ns
 of:=by
  show⟨ts.map prT,Vr ts,λh KX=>zd ⟨KX a _ hl,⟨Y,Y,Y⟩,Y,λe he=>?_,?_,?_⟩⟩
  . obtain⟨t,_,rfl⟩:=cG.mp<|List.mem_toArray.mp he;exact⟨.inr t.1,Bk P w t.1 t.2.1,Y⟩
  . exact RO ts
  . have e:(ts.map prT).map (·.1)=(ts.map (·.1)).map Sum.inr:=by rw[List.map_map,List.map_map];rfl
    rw[e];exact hn.map Sum.inr λa b h z=>h (Sum.inr.inj z)
def wts:List (Str × Tok × Int × Tok):=[(Str.ofString "nil",1128,0,1129),(Str.ofString "word",1130,0,1131),(Str.ofString "times",1132,1,1133),(Str.ofString "sum",1134,2,1135),(Str.ofString "then",1136,2,1137),(Str.ofString "both",1138,2,1139),(Str.ofString "back",1140,1,1141),(Str.ofString "star",1142,1,1143)]
end
abbrev NS(K:aa)(x:Str)(a:Addr):Prop:=PySem.W.nsIn K mainGlobals x=some (some<|.ref a)
abbrev KI(K:aa)(a:Addr):Prop:=PySem.W.keepIn K (.ref a)=true
abbrev FX(K:aa)(n q:Str)(s:Stmt)(a:Addr):Prop:=∃d,Mh K n q s a d
def fx{K:aa}{x q:Str}{s:Stmt}{f:Addr}{b:Value}{u v:Option Addr}{w:Array (Option Value)}{c d e g j:Value}(l:K.lookup f=some ⟨b,u,.func<|PySem.W.fnOf x q (C5 s) (B5 s) (b9 s) .none c d e v g j,w⟩)(h:PySem.W.codeIn K g q=true)(k:KI K f):FX K x q s f:=⟨_,SQ l h k⟩
def XF{us:w1j}{n:Nat}(h:us.length=n+1):∃a l,us=a::l/\l.length=n:=by cases us with | nil=>cases h | cons a l=>exact⟨a,l,rfl,Nat.succ.inj h⟩
def UW{K:aa}{x q:Str}{s:Stmt}{f:Addr}{fd:FuncData}{p0:Str}(F:Mh K x q s f fd)(h:∀(c d e:Value) (v:Option Addr) (g j:Value) (u0:Value),bindArgs (PySem.W.fnOf x q (C5 s) (B5 s) (b9 s) .none c d e v g j) ⟨[u0],[]⟩=pure (([p0]:w1i).zip [u0]):=by intros;rfl):J1 K fd [p0] []:=F.binds λc d e v g j us hl=>match us,hl with | [u0],_=>h c d e v g j u0
def YB{K:aa}{x q:Str}{s:Stmt}{f:Addr}{fd:FuncData}{p0 p1:Str}(F:Mh K x q s f fd)(h:∀(c d e:Value) (v:Option Addr) (g j:Value) (u0 u1:Value),bindArgs (PySem.W.fnOf x q (C5 s) (B5 s) (b9 s) .none c d e v g j) ⟨[u0,u1],[]⟩=pure (([p0,p1]:w1i).zip [u0,u1]):=by intros;rfl):J1 K fd [p0,p1] []:=F.binds λc d e v g j us hl=>match us,hl with | [u0,u1],_=>h c d e v g j u0 u1
def UV{K:aa}{x q:Str}{s:Stmt}{f:Addr}{fd:FuncData}{p0 p1 p2:Str}(F:Mh K x q s f fd)(h:∀(c d e:Value) (v:Option Addr) (g j:Value) (u0 u1 u2:Value),bindArgs (PySem.W.fnOf x q (C5 s) (B5 s) (b9 s) .none c d e v g j) ⟨[u0,u1,u2],[]⟩=pure (([p0,p1,p2]:w1i).zip [u0,u1,u2]):=by intros;rfl):J1 K fd [p0,p1,p2] []:=F.binds λc d e v g j us hl=>by obtain⟨u0,_,rfl,k0⟩:=XF hl;obtain⟨u1,_,rfl,k1⟩:=XF k0;obtain⟨u2,_,rfl,k2⟩:=XF k1;cases bu.mp k2;exact h c d e v g j u0 u1 u2
def bn4{K:aa}{x q:Str}{s:Stmt}{f:Addr}{fd:FuncData}{p0 p1 p2 p3:Str}(F:Mh K x q s f fd)(h:∀(c d e:Value) (v:Option Addr) (g j:Value) (u0 u1 u2 u3:Value),bindArgs (PySem.W.fnOf x q (C5 s) (B5 s) (b9 s) .none c d e v g j) ⟨[u0,u1,u2,u3],[]⟩=pure (([p0,p1,p2,p3]:w1i).zip [u0,u1,u2,u3]):=by intros;rfl):J1 K fd [p0,p1,p2,p3] []:=F.binds λc d e v g j us hl=>by obtain⟨u0,_,rfl,k0⟩:=XF hl;obtain⟨u1,_,rfl,k1⟩:=XF k0;obtain⟨u2,_,rfl,k2⟩:=XF k1;obtain⟨u3,_,rfl,k3⟩:=XF k2;cases bu.mp k3;exact h c d e v g j u0 u1 u2 u3
abbrev DX(K:aa)(n:Str)(s:Stmt)(a:Addr):Prop:=NS K n a/\FX K n n s a
def dx{K:aa}{x:Str}{s:Stmt}{f:Addr}{b:Value}{u v:Option Addr}{w:Array (Option Value)}{c d e g j:Value}(m:NS K x f)(l:K.lookup f=some ⟨b,u,.func<|PySem.W.fnOf x x (C5 s) (B5 s) (b9 s) .none c d e v g j,w⟩)(h:PySem.W.codeIn K g x=true)(k:KI K f):DX K x s f:=⟨m,_,SQ l h k⟩
def OB{K:aa}{x:Str}{s:Stmt}{f:Addr}{H:Heap}{mg:w1g}(X:K.In H)(G:H.Ns mainGlobals mg){p0:Str}(m:DX K x s f)(h:∀(c d e:Value) (v:Option Addr) (g j:Value) (u0:Value),bindArgs (PySem.W.fnOf x x (C5 s) (B5 s) (b9 s) .none c d e v g j) ⟨[u0],[]⟩=pure (([p0]:w1i).zip [u0]):=by intros;rfl):Df K mg x s [p0] f m.2.choose:=⟨m.2.choose_spec,UW m.2.choose_spec h,cg X G m.1⟩
def Ic{K:aa}{x:Str}{s:Stmt}{f:Addr}{H:Heap}{mg:w1g}(X:K.In H)(G:H.Ns mainGlobals mg){p0 p1:Str}(m:DX K x s f)(h:∀(c d e:Value) (v:Option Addr) (g j:Value) (u0 u1:Value),bindArgs (PySem.W.fnOf x x (C5 s) (B5 s) (b9 s) .none c d e v g j) ⟨[u0,u1],[]⟩=pure (([p0,p1]:w1i).zip [u0,u1]):=by intros;rfl):Df K mg x s [p0,p1] f m.2.choose:=⟨m.2.choose_spec,YB m.2.choose_spec h,cg X G m.1⟩
def FB{K:aa}{x:Str}{s:Stmt}{f:Addr}{H:Heap}{mg:w1g}(X:K.In H)(G:H.Ns mainGlobals mg){p0 p1 p2:Str}(m:DX K x s f)(h:∀(c d e:Value) (v:Option Addr) (g j:Value) (u0 u1 u2:Value),bindArgs (PySem.W.fnOf x x (C5 s) (B5 s) (b9 s) .none c d e v g j) ⟨[u0,u1,u2],[]⟩=pure (([p0,p1,p2]:w1i).zip [u0,u1,u2]):=by intros;rfl):Df K mg x s [p0,p1,p2] f m.2.choose:=⟨m.2.choose_spec,UV m.2.choose_spec h,cg X G m.1⟩
def YA{K:aa}{x:Str}{s:Stmt}{f:Addr}{H:Heap}{mg:w1g}(X:K.In H)(G:H.Ns mainGlobals mg){p0 p1 p2 p3:Str}(m:DX K x s f)(h:∀(c d e:Value) (v:Option Addr) (g j:Value) (u0 u1 u2 u3:Value),bindArgs (PySem.W.fnOf x x (C5 s) (B5 s) (b9 s) .none c d e v g j) ⟨[u0,u1,u2,u3],[]⟩=pure (([p0,p1,p2,p3]:w1i).zip [u0,u1,u2,u3]):=by intros;rfl):Df K mg x s [p0,p1,p2,p3] f m.2.choose:=⟨m.2.choose_spec,bn4 m.2.choose_spec h,cg X G m.1⟩
def VF{K:aa}{h:Heap}{mg:w1g}(X:K.In h)(G:h.Ns mainGlobals mg){A0 A1 A2 A3 A4 A5 A6 A7 A8 A9 jr jq mz my mx mw mr mq mj mi mh mf me md lZ lY lX lW lV lU lT lS ue ud uc ua tZ tY tX tW tU tT tS tR tQ tP tO tN tM tL tK tJ tI tH tG tF tE tD tw tq tm tj tf sY sW sV sU sS sR sQ sP sO sN sM sJ sI sH sF sD sC sA su sq sk sj sf se sd rZ rY rX rW rV rT:Addr}
 (N0:NS K "Fractions" A0)
 (uN:PySem.W.plainGet K A0 Str.empty=true)
 (xf:PySem.W.hasDictIn K A0=true)
 (uI:PySem.W.plainOver K A0=true)
 (uB:PySem.W.findIn K (.ref A0) "__setattr__"=some (some<|.builtin "object.__setattr__"))
 (vy:PySem.W.makesIn K A0=true)
 (vJ:KI K A0)
 (vM:PySem.W.findIn K (.ref A0) "__init__"=some (some<|.builtin "object.__init__"))
 (N1:NS K "Residues" A1)
 (uM:PySem.W.plainGet K A1 Str.empty=true)
 (kc:PySem.W.hasDictIn K A1=true)
 (uH:PySem.W.plainOver K A1=true)
 (uA:PySem.W.findIn K (.ref A1) "__setattr__"=some (some<|.builtin "object.__setattr__"))
 (vx:PySem.W.makesIn K A1=true)
 (vI:KI K A1)
 (N2:NS K "Costs" A2)
 (uL:PySem.W.plainGet K A2 Str.empty=true)
 (gA:PySem.W.hasDictIn K A2=true)
 (uF:PySem.W.plainOver K A2=true)
 (uz:PySem.W.findIn K (.ref A2) "__setattr__"=some (some<|.builtin "object.__setattr__"))
 (vw:PySem.W.makesIn K A2=true)
 (vH:KI K A2)
 (vL:PySem.W.findIn K (.ref A2) "__init__"=some (some<|.builtin "object.__init__"))
 (N3:NS K "Truths" A3)
 (uK:PySem.W.plainGet K A3 Str.empty=true)
 (xc:PySem.W.hasDictIn K A3=true)
 (uE:PySem.W.plainOver K A3=true)
 (uy:PySem.W.findIn K (.ref A3) "__setattr__"=some (some<|.builtin "object.__setattr__"))
 (vv:PySem.W.makesIn K A3=true)
 (vF:KI K A3)
 (vK:PySem.W.findIn K (.ref A3) "__init__"=some (some<|.builtin "object.__init__"))
 (N4:NS K "WeighError" A4)
 (X4:NT K A4)
 (N5:NS K "NoClosure" A5)
 (X5:NT K A5)
 (N6:NS K "TooGreat" A6)
 (X6:NT K A6)
 (f0:DX K "is_whole" CK A7)
 (f1:DX K "divisor" Es A8)
 (f2:DX K "fraction" CM A9)
 (f3:DX K "is_prime" CL jr)
 (n4:PySem.W.findIn K (.ref A0) "nought"=some (some<|.ref jq))
 (i4:PySem.W.isFn K (.ref jq)=true)
 (f4:FX K "nought" "Fractions.nought" K7 jq)
 (n5:PySem.W.findIn K (.ref A0) "one"=some (some<|.ref mz))
 (i5:PySem.W.isFn K (.ref mz)=true)
 (f5:FX K "one" "Fractions.one" Q9 mz)
 (n6:PySem.W.findIn K (.ref A0) "plus"=some (some<|.ref my))
 (i6:PySem.W.isFn K (.ref my)=true)
 (f6:FX K "plus" "Fractions.plus" O9 my)
 (n7:PySem.W.findIn K (.ref A0) "times"=some (some<|.ref mx))
 (i7:PySem.W.isFn K (.ref mx)=true)
 (f7:FX K "times" "Fractions.times" L7 mx)
 (n8:PySem.W.findIn K (.ref A0) "is_weight"=some (some<|.ref mw))
 (i8:PySem.W.isFn K (.ref mw)=true)
 (f8:FX K "is_weight" "Fractions.is_weight" E6 mw)
 (n9:PySem.W.findIn K (.ref A1) "__init__"=some (some<|.ref mr))
 (i9:PySem.W.isFn K (.ref mr)=true)
 (f9:FX K "__init__" "Residues.__init__" J6 mr)
 (vt:PySem.W.findIn K (.ref A1) "nought"=some (some<|.ref mq))
 (we:PySem.W.isFn K (.ref mq)=true)
 (lO:FX K "nought" "Residues.nought" L6 mq)
 (vq:PySem.W.findIn K (.ref A1) "one"=some (some<|.ref mj))
 (wc:PySem.W.isFn K (.ref mj)=true)
 (lN:FX K "one" "Residues.one" T7 mj)
 (vp:PySem.W.findIn K (.ref A1) "plus"=some (some<|.ref mi))
 (wb:PySem.W.isFn K (.ref mi)=true)
 (lM:FX K "plus" "Residues.plus" Q8 mi)
 (vo:PySem.W.findIn K (.ref A1) "times"=some (some<|.ref mh))
 (wa:PySem.W.isFn K (.ref mh)=true)
 (lL:FX K "times" "Residues.times" O8 mh)
 (vn:PySem.W.findIn K (.ref A1) "is_weight"=some (some<|.ref mf))
 (vZ:PySem.W.isFn K (.ref mf)=true)
 (lK:FX K "is_weight" "Residues.is_weight" F6 mf)
 (vm:PySem.W.findIn K (.ref A2) "nought"=some (some<|.ref me))
 (vY:PySem.W.isFn K (.ref me)=true)
 (lJ:FX K "nought" "Costs.nought" T9 me)
 (vj:PySem.W.findIn K (.ref A2) "one"=some (some<|.ref md))
 (vX:PySem.W.isFn K (.ref md)=true)
 (lI:FX K "one" "Costs.one" AY md)
 (vi:PySem.W.findIn K (.ref A2) "plus"=some (some<|.ref lZ))
 (vW:PySem.W.isFn K (.ref lZ)=true)
 (lH:FX K "plus" "Costs.plus" Am lZ)
 (vh:PySem.W.findIn K (.ref A2) "times"=some (some<|.ref lY))
 (vV:PySem.W.isFn K (.ref lY)=true)
 (lG:FX K "times" "Costs.times" W8 lY)
 (nh:PySem.W.findIn K (.ref A2) "is_weight"=some (some<|.ref lX))
 (vU:PySem.W.isFn K (.ref lX)=true)
 (lF:FX K "is_weight" "Costs.is_weight" L8 lX)
 (mZ:PySem.W.findIn K (.ref A3) "nought"=some (some<|.ref lW))
 (vR:PySem.W.isFn K (.ref lW)=true)
 (lE:FX K "nought" "Truths.nought" Q7 lW)
 (vg:PySem.W.findIn K (.ref A3) "one"=some (some<|.ref lV))
 (vQ:PySem.W.isFn K (.ref lV)=true)
 (lD:FX K "one" "Truths.one" Al lV)
 (vf:PySem.W.findIn K (.ref A3) "plus"=some (some<|.ref lU))
 (vP:PySem.W.isFn K (.ref lU)=true)
 (lB:FX K "plus" "Truths.plus" W7 lU)
 (ve:PySem.W.findIn K (.ref A3) "times"=some (some<|.ref lT))
 (vO:PySem.W.isFn K (.ref lT)=true)
 (lA:FX K "times" "Truths.times" T6 lT)
 (vd:PySem.W.findIn K (.ref A3) "is_weight"=some (some<|.ref lS))
 (vN:PySem.W.isFn K (.ref lS)=true)
 (lz:FX K "is_weight" "Truths.is_weight" K6 lS)
 (rN:DX K "noughts" BC ue)
 (rM:DX K "unit" Jv ud)
 (rL:DX K "times_row" U9 uc)
 (rK:DX K "column_at" V2 ua)
 (rJ:DX K "columns_of" S3 tZ)
 (rH:DX K "dot" RD tY)
 (rG:DX K "row_by" DG tX)
 (rF:DX K "by_column" V3 tW)
 (rE:DX K "is_letters" R9 tU)
 (rD:DX K "is_word" BD tT)
 (rC:DX K "need_word" AQ tS)
 (rB:DX K "is_row" DH tR)
 (rA:DX K "is_table" Ak tQ)
 (rz:DX K "is_machine" R8 tP)
 (rq:DX K "rooms" Jw tO)
 (rp:DX K "table_of" CB tN)
 (rn:DX K "ahead" Jx tM)
 (rm:DX K "weight" Gf tL)
 (rj:DX K "need_same_letters" J5 tK)
 (rh:DX K "need_few_rooms" O7 tJ)
 (rg:DX K "scaled" Gh tI)
 (rf:DX K "beside" AX tH)
 (rd:DX K "put_beside" L4 tG)
 (qZ:DX K "added" Jy tF)
 (qY:DX K "outer" FG tE)
 (qX:DX K "joined" Gi tD)
 (qW:DX K "cross_row" AW tw)
 (qV:DX K "cross_table" P6 tq)
 (qU:DX K "crossed" BE tm)
 (qS:DX K "mirrored" Ag tj)
 (qR:DX K "turned" Gg tf)
 (qQ:DX K "closed_table" L5 sY)
 (qO:DX K "need_closable" Q6 sW)
 (qN:DX K "closed" DI sV)
 (qM:DX K "single_row" Af sU)
 (qL:DX K "single" DF sS)
 (qK:DX K "sayings_within" O6 sR)
 (qJ:DX K "built" DJ sQ)
 (qI:DX K "_law_next" CI sP)
 (qH:DX K "_law_state" AS sO)
 (qG:DX K "_law_divisor" W6 sN)
 (qF:DX K "_law_low" Ep sM)
 (qD:DX K "_law_plus" CH sJ)
 (qC:DX K "_law_times" AR sI)
 (qB:DX K "_law_nought" Aj sH)
 (qA:DX K "_law_one" Eo sF)
 (qz:DX K "_law_sort" CG sD)
 (qy:DX K "_law_kind" CJ sC)
 (qx:DX K "_law_weight" Ah sA)
 (qw:DX K "_law_then" CD su)
 (qv:DX K "_law_star" CF sq)
 (qu:DX K "_law_weights" P4 sk)
 (qt:DX K "_law_empty" AU sj)
 (qr:DX K "_law_words" V0 sf)
 (qq:DX K "_law_letters" P5 se)
 (qp:DX K "_law_word" CC sd)
 (qo:DX K "_law_saying" Ai rZ)
 (qm:DX K "_law_size" T5 rY)
 (ql:DX K "_law_dot" Er rX)
 (qk:DX K "_law_weigh" V1 rW)
 (qj:DX K "_law_asked" AV rV)
 (qi:DX K "law" RC rT)
 (z_isinstance:PySem.W.nsIn K mainGlobals "isinstance"=some none)
 (z_int:PySem.W.nsIn K mainGlobals "int"=some none)
 (z_bool:PySem.W.nsIn K mainGlobals "bool"=some none)
 (z_abs:PySem.W.nsIn K mainGlobals "abs"=some none)
 (z_tuple:PySem.W.nsIn K mainGlobals "tuple"=some none)
 (z_len:PySem.W.nsIn K mainGlobals "len"=some none)
 {tk_c_GREATEST_PRIME:Tok}
 (c_GREATEST_PRIME:PySem.W.nsIn K mainGlobals "GREATEST_PRIME"=some (some<|.int 1000000 tk_c_GREATEST_PRIME))
 (z_min:PySem.W.nsIn K mainGlobals "min"=some none)
 (z_range:PySem.W.nsIn K mainGlobals "range"=some none)
 (z_zip:PySem.W.nsIn K mainGlobals "zip"=some none)
 (z_str:PySem.W.nsIn K mainGlobals "str"=some none)
 {tk_c_MOST_LETTERS:Tok}
 (c_MOST_LETTERS:PySem.W.nsIn K mainGlobals "MOST_LETTERS"=some (some<|.int 3 tk_c_MOST_LETTERS))
 (z_set:PySem.W.nsIn K mainGlobals "set"=some none)
 (z_all:PySem.W.nsIn K mainGlobals "all"=some none)
 {tk_c_SMALL_LETTERS:Tok}
 (c_SMALL_LETTERS:PySem.W.nsIn K mainGlobals "SMALL_LETTERS"=some (some<|.str "abcdefghijklmnopqrstuvwxyz" tk_c_SMALL_LETTERS))
 {tk_c_MOST_ROOMS:Tok}
 (c_MOST_ROOMS:PySem.W.nsIn K mainGlobals "MOST_ROOMS"=some (some<|.int 20 tk_c_MOST_ROOMS))
 (z_enumerate:PySem.W.nsIn K mainGlobals "enumerate"=some none)
 (z_reversed:PySem.W.nsIn K mainGlobals "reversed"=some none)
 (k_ii:PySem.W.kitOne K (.type "int") (.type "int")=some true)
 (k_ib:PySem.W.kitOne K (.type "int") (.type "bool")=some false)
 (k_tt:PySem.W.kitOne K (.type "tuple") (.type "tuple")=some true)
 (k_bb:PySem.W.kitOne K (.type "bool") (.type "bool")=some true)
 (k_ss:PySem.W.kitOne K (.type "str") (.type "str")=some true)
 (nP:PySem.W.findIn K (.ref A1) "prime"=some none)
 (k_ts:PySem.W.kitOne K (.type "tuple") (.type "str")=some false)
 (q_nt:PySem.W.kitOne K (.type "NoneType") (.type "tuple")=some false)
 (q_ni:PySem.W.kitOne K (.type "NoneType") (.type "int")=some false)
 (q_nb:PySem.W.kitOne K (.type "NoneType") (.type "bool")=some false)
 (q_ns:PySem.W.kitOne K (.type "NoneType") (.type "str")=some false)
 (q_it:PySem.W.kitOne K (.type "int") (.type "tuple")=some false)
 (q_ii:PySem.W.kitOne K (.type "int") (.type "int")=some true)
 (q_ib:PySem.W.kitOne K (.type "int") (.type "bool")=some false)
 (q_is:PySem.W.kitOne K (.type "int") (.type "str")=some false)
 (q_bt:PySem.W.kitOne K (.type "bool") (.type "tuple")=some false)
 (q_bi:PySem.W.kitOne K (.type "bool") (.type "int")=some true)
 (q_bb:PySem.W.kitOne K (.type "bool") (.type "bool")=some true)
 (q_bs:PySem.W.kitOne K (.type "bool") (.type "str")=some false)
 (q_st:PySem.W.kitOne K (.type "str") (.type "tuple")=some false)
 (q_si:PySem.W.kitOne K (.type "str") (.type "int")=some false)
 (q_sb:PySem.W.kitOne K (.type "str") (.type "bool")=some false)
 (q_ss:PySem.W.kitOne K (.type "str") (.type "str")=some true)
 (q_tt:PySem.W.kitOne K (.type "tuple") (.type "tuple")=some true)
 (q_ti:PySem.W.kitOne K (.type "tuple") (.type "int")=some false)
 (q_tb:PySem.W.kitOne K (.type "tuple") (.type "bool")=some false)
 (q_ts:PySem.W.kitOne K (.type "tuple") (.type "str")=some false)
 (q_lt:PySem.W.kitOne K (.type "list") (.type "tuple")=some false)
 (q_li:PySem.W.kitOne K (.type "list") (.type "int")=some false)
 (q_lb:PySem.W.kitOne K (.type "list") (.type "bool")=some false)
 (q_ls:PySem.W.kitOne K (.type "list") (.type "str")=some false)
 (q_dt:PySem.W.kitOne K (.type "dict") (.type "tuple")=some false)
 (q_di:PySem.W.kitOne K (.type "dict") (.type "int")=some false)
 (q_db:PySem.W.kitOne K (.type "dict") (.type "bool")=some false)
 (q_ds:PySem.W.kitOne K (.type "dict") (.type "str")=some false)
 (k_ns:PySem.W.kitOne K (.type "NoneType") (.type "str")=some false)
 (k_ls:PySem.W.kitOne K (.type "list") (.type "str")=some false)
 (k_is:PySem.W.kitOne K (.type "int") (.type "str")=some false)
 (eC:PySem.W.exmOne K (.ref A5) (.ref A4)=some true)
 (vC:PySem.W.kitOne K (.ref A5) (.type "ValueError")=some true)
 (kCC:PySem.W.kitOne K (.ref A5) (.ref A5)=some true)
 (kCG:PySem.W.kitOne K (.ref A5) (.ref A6)=some false)
 (eG:PySem.W.exmOne K (.ref A6) (.ref A4)=some true)
 (vG:PySem.W.kitOne K (.ref A6) (.type "ValueError")=some true)
 (kGC:PySem.W.kitOne K (.ref A6) (.ref A5)=some false)
 (kGG:PySem.W.kitOne K (.ref A6) (.ref A6)=some true)
 : ∃t:Vz,Txt K mg t:=
 have M:∀{x:Str} {v:Value},PySem.W.nsIn K mainGlobals x=some (some v)->mg x=some v:=λn=>cg X G n;have a1d:∀{x:Str},PySem.W.nsIn K mainGlobals x=some none->mg x=none:=λn=>PySem.W.mg_none_of X G n;have S:∀{n q:Str} {s:Stmt} {a:Addr} (f:FX K n q s a),Mh K n q s a f.choose:=λf=>f.choose_spec
 ⟨{ v0x:=A7,t0k:=f0.2.choose,x0d:=A8,u0q:=f1.2.choose,w0a:=A9,s0z:=f2.2.choose,v0z:=jr,u0b:=f3.2.choose,o0j:=jq,n0u:=f4.choose,p0n:=mz,o0u:=f5.choose,p0d:=my,o0l:=f6.choose,o0p:=mx,o0d:=f7.choose,n0m:=mw,n0i:=f8.choose,n0y:=mr,n0n:=f9.choose,o0q:=mq,n0w:=lO.choose,q0e:=mj,p0i:=lN.choose,p0l:=mi,o0v:=lM.choose,p0c:=mh,o0n:=lL.choose,n0s:=mf,n0k:=lK.choose,q0y:=me,o0z:=lJ.choose,u0c:=md,r0h:=lI.choose,s0s:=lZ,q0b:=lH.choose,r0o:=lY,p0v:=lG.choose,o0s:=lX,o0c:=lF.choose,p0w:=lW,o0w:=lE.choose,t0v:=lV,q0q:=lD.choose,s0d:=lU,p0s:=lB.choose,q0k:=lT,p0j:=lA.choose,o0h:=lS,n0r:=lz.choose,w0s:=ue,u0f:=rN.2.choose,y0c:=ud,x0j:=rM.2.choose,u0y:=uc,s0e:=rL.2.choose,v0b:=ua,r0t:=rK.2.choose,s0x:=tZ,q0m:=rJ.2.choose,dot:=tY,x0w:=rH.2.choose,x0n:=tX,w0k:=rG.2.choose,u0l:=tW,r0s:=rF.2.choose,t0y:=tU,q0p:=rE.2.choose,w0w:=tT,v0a:=rD.2.choose,u0s:=tS,r0d:=rC.2.choose,x0l:=tR,w0o:=rB.2.choose,w0b:=tQ,s0p:=rA.2.choose,t0x:=tP,q0t:=rz.2.choose,x0u:=tO,x0f:=rq.2.choose,w0h:=tN,t0s:=rp.2.choose,y0b:=tM,x0e:=rn.2.choose,weight:=tL,w0e:=rm.2.choose,n0z:=tK,n0q:=rj.2.choose,p0h:=tJ,o0m:=rh.2.choose,x0p:=tI,v0v:=rg.2.choose,x0s:=tH,w0g:=rf.2.choose,t0c:=tG,q0s:=rd.2.choose,x0y:=tF,w0u:=qZ.2.choose,outer:=tE,w0p:=qY.2.choose,x0q:=tD,v0i:=qX.2.choose,u0d:=tw,s0g:=qW.2.choose,s0c:=tq,p0r:=qV.2.choose,w0q:=tm,u0u:=qU.2.choose,v0q:=tj,s0q:=qS.2.choose,turned:=tf,v0u:=qR.2.choose,q0h:=sY,p0e:=qQ.2.choose,p0p:=sW,o0r:=qO.2.choose,x0o:=sV,v0n:=qN.2.choose,s0w:=sU,q0i:=qM.2.choose,x0k:=sS,v0w:=qL.2.choose,p0k:=sR,o0k:=qK.2.choose,x0z:=sQ,w0y:=qJ.2.choose,w0n:=sP,s0v:=qI.2.choose,u0w:=sO,r0c:=qH.2.choose,s0j:=sN,p0q:=qG.2.choose,x0i:=sM,u0o:=qF.2.choose,w0m:=sJ,t0m:=qD.2.choose,u0h:=sI,s0h:=qC.2.choose,s0r:=sH,q0l:=qB.2.choose,x0h:=sF,u0e:=qA.2.choose,w0i:=sD,t0g:=qz.2.choose,v0m:=sC,t0f:=qy.2.choose,t0h:=sA,q0n:=qx.2.choose,w0j:=su,s0o:=qw.2.choose,v0j:=sq,t0u:=qv.2.choose,r0l:=sk,p0t:=qu.2.choose,v0d:=sj,r0v:=qt.2.choose,u0x:=sf,r0i:=qr.2.choose,r0n:=se,p0x:=qq.2.choose,v0f:=sd,t0o:=qp.2.choose,t0n:=rZ,q0f:=qo.2.choose,w0d:=rY,t0d:=qm.2.choose,x0a:=rX,u0v:=ql.2.choose,u0p:=rW,r0z:=qk.2.choose,u0j:=rV,s0f:=qj.2.choose,law:=rT,y0a:=qi.2.choose,v0c:=A0,v0h:=A1,x0t:=A2,x0m:=A3,t0a:=A4,u0z:=A5,v0t:=A6 },
  { t0z:=OB X G f0,u0k:=Ic X G f1,t0w:=Ic X G f2,s0u:=OB X G f3,n0t:=⟨S f4,UW<|S f4,⟨n4,i4,(S f4).kp⟩⟩,o0x:=⟨S f5,UW<|S f5,⟨n5,i5,(S f5).kp⟩⟩,o0e:=⟨S f6,UV<|S f6,⟨n6,i6,(S f6).kp⟩⟩,o0a:=⟨S f7,UV<|S f7,⟨n7,i7,(S f7).kp⟩⟩,n0j:=⟨S f8,YB<|S f8,⟨n8,i8,(S f8).kp⟩⟩,n0p:=⟨S f9,YB<|S f9,⟨n9,i9,(S f9).kp⟩⟩,o0b:=⟨S lO,UW<|S lO,⟨vt,we,(S lO).kp⟩⟩,p0a:=⟨S lN,UW<|S lN,⟨vq,wc,(S lN).kp⟩⟩,o0t:=⟨S lM,UV<|S lM,⟨vp,wb,(S lM).kp⟩⟩,o0g:=⟨S lL,UV<|S lL,⟨vo,wa,(S lL).kp⟩⟩,n0l:=⟨S lK,YB<|S lK,⟨vn,vZ,(S lK).kp⟩⟩,p0f:=⟨S lJ,UW<|S lJ,⟨vm,vY,(S lJ).kp⟩⟩,r0r:=⟨S lI,UW<|S lI,⟨vj,vX,(S lI).kp⟩⟩,q0v:=⟨S lH,UV<|S lH,⟨vi,vW,(S lH).kp⟩⟩,q0a:=⟨S lG,UV<|S lG,⟨vh,vV,(S lG).kp⟩⟩,n0x:=⟨S lF,YB<|S lF,⟨nh,vU,(S lF).kp⟩⟩,o0o:=⟨S lE,UW<|S lE,⟨mZ,vR,(S lE).kp⟩⟩,q0w:=⟨S lD,UW<|S lD,⟨vg,vQ,(S lD).kp⟩⟩,p0y:=⟨S lB,UV<|S lB,⟨vf,vP,(S lB).kp⟩⟩,p0g:=⟨S lA,UV<|S lA,⟨ve,vO,(S lA).kp⟩⟩,n0v:=⟨S lz,YB<|S lz,⟨vd,vN,(S lz).kp⟩⟩,u0g:=Ic X G rN,x0r:=FB X G rM,r0q:=FB X G rL,r0j:=Ic X G rK,q0o:=OB X G rJ,x0v:=FB X G rH,v0o:=FB X G rG,r0k:=FB X G rF,q0u:=OB X G rE,u0r:=Ic X G rD,r0p:=Ic X G rC,v0k:=FB X G rB,s0t:=FB X G rA,q0z:=Ic X G rz,w0r:=OB X G rq,t0l:=Ic X G rp,x0b:=FB X G rn,w0f:=FB X G rm,n0o:=Ic X G rj,o0f:=OB X G rh,v0r:=FB X G rg,v0y:=YA X G rf,q0g:=FB X G rd,x0g:=FB X G qZ,w0x:=FB X G qY,w0c:=FB X G qX,s0i:=FB X G qW,p0o:=FB X G qV,u0t:=FB X G qU,s0l:=OB X G qS,v0p:=Ic X G qR,p0b:=FB X G qQ,o0y:=Ic X G qO,v0e:=Ic X G qN,q0d:=YA X G qM,v0g:=YA X G qL,o0i:=OB X G qK,w0v:=FB X G qJ,t0r:=Ic X G qI,r0w:=OB X G qH,p0u:=Ic X G qG,u0i:=Ic X G qF,t0q:=FB X G qD,r0u:=FB X G qC,r0a:=OB X G qB,u0m:=OB X G qA,t0j:=OB X G qz,s0y:=OB X G qy,q0x:=Ic X G qx,t0e:=YA X G qw,s0k:=YA X G qv,p0m:=FB X G qu,r0y:=Ic X G qt,r0g:=Ic X G qr,p0z:=Ic X G qq,t0p:=Ic X G qp,q0r:=YA X G qo,s0m:=Ic X G qm,u0n:=FB X G ql,r0m:=FB X G qk,r0x:=FB X G qj,x0x:=OB X G qi,r0b:=⟨uN,xf,uI,uB⟩,r0e:=M N0,s0a:=⟨vy,vM,vJ⟩,u0a:=⟨uM,kc,uH,uA⟩,t0t:=M N1,s0n:=⟨vx,n9,i9,vI⟩,w0z:=⟨uL,gA,uF,uz⟩,x0c:=M N2,w0t:=⟨vw,vL,vH⟩,v0s:=⟨uK,xc,uE,uy⟩,v0l:=M N3,w0l:=⟨vv,vK,vF⟩,q0j:=M N4,q0c:=X4,r0f:=M N5,s0b:=X5,t0i:=M N6,t0b:=X6,z_isinstance:=a1d z_isinstance,z_int:=a1d z_int,z_bool:=a1d z_bool,z_abs:=a1d z_abs,z_tuple:=a1d z_tuple,z_len:=a1d z_len,c_GREATEST_PRIME:=⟨_,M c_GREATEST_PRIME⟩,z_min:=a1d z_min,z_range:=a1d z_range,z_zip:=a1d z_zip,z_str:=a1d z_str,c_MOST_LETTERS:=⟨_,M c_MOST_LETTERS⟩,z_set:=a1d z_set,z_all:=a1d z_all,c_SMALL_LETTERS:=⟨_,M c_SMALL_LETTERS⟩,c_MOST_ROOMS:=⟨_,M c_MOST_ROOMS⟩,z_enumerate:=a1d z_enumerate,z_reversed:=a1d z_reversed,k_ii:=k_ii,k_ib:=k_ib,k_tt:=k_tt,k_bb:=k_bb,k_ss:=k_ss,nP:=nP,k_ts:=k_ts,q_nt:=q_nt,q_ni:=q_ni,q_nb:=q_nb,q_ns:=q_ns,q_it:=q_it,q_ii:=q_ii,q_ib:=q_ib,q_is:=q_is,q_bt:=q_bt,q_bi:=q_bi,q_bb:=q_bb,q_bs:=q_bs,q_st:=q_st,q_si:=q_si,q_sb:=q_sb,q_ss:=q_ss,q_tt:=q_tt,q_ti:=q_ti,q_tb:=q_tb,q_ts:=q_ts,q_lt:=q_lt,q_li:=q_li,q_lb:=q_lb,q_ls:=q_ls,q_dt:=q_dt,q_di:=q_di,q_db:=q_db,q_ds:=q_ds,k_ns:=k_ns,k_ls:=k_ls,k_is:=k_is,eC:=eC,vC:=vC,kCC:=kCC,kCG:=kCG,eG:=eG,vG:=vG,kGC:=kGC,kGG:=kGG }⟩
def lkW(P:Params):(H82.K P).lookup 763=some ⟨.type "dict",none,.dict (wts.map<|XR P).toArray 8,#[]⟩:=by kernel_rfl
end K82
open PySem PySem.W PyProof.Rows
set_option maxRecDepth 100000 in
set_option maxHeartbeats 0 in
theorem PySem.Challenge.cw_weighwalk_k82_whole_built_as_said_holds : PySem.Challenge.rw_weighwalk_k82_whole_built_as_said.Holds := by
 w_on;o_law
 show H82.XQ (by assumption) ?hw ?hc
 (case hw=>w_witness2)
 unfold H82.GO
 k_fill
 show L2.QS (l:=PySem.Challenge.rw_weighwalk_k82_whole_built_as_said) (n:=63) (k:=62) (x:="_law_script") (CX:=L2.B7) (sp:=K82.Rp) rfl bD rfl ⟨Y,bD,bD⟩ dK (λw h a1a=>PySem.W.kIn_of a1a) ?F ?S ?C
 case F=>
  intro w mg fa h KX G jR;have T:∃t,K82.Txt (L2.KOf KX) mg t:=by
   dsimp only[L2.KOf];refine' K82.VF KX G ?_ ?_ ?_ ?_ ?_ ?_ ?_ ?_ ?_ ?_ ?_ ?_ ?_ ?_ ?_ ?_ ?_ ?_ ?_ ?_ ?_ ?_ ?_ ?_ ?_ ?_ ?_ ?_ ?_ ?_ ?_ ?_ ?X4 ?_ ?X5 ?_ ?X6 (K82.dx ?_ (H82.LF _) ?_ ?_) (K82.dx ?_ (H82.Nr _) ?_ ?_) (K82.dx ?_ (H82.LJ _) ?_ ?_) (K82.dx ?_ (H82.LH _) ?_ ?_) ?_ ?_ (K82.fx (H82.BX _) ?_ ?_) ?_ ?_ (K82.fx (H82.EI _) ?_ ?_) ?_ ?_ (K82.fx (H82.DZ _) ?_ ?_) ?_ ?_ (K82.fx (H82.Da _) ?_ ?_) ?_ ?_ (K82.fx (H82.Au _) ?_ ?_) ?_ ?_ (K82.fx (H82.Bm _) ?_ ?_) ?_ ?_ (K82.fx (H82.CZ _) ?_ ?_) ?_ ?_ (K82.fx (H82.Fx _) ?_ ?_) ?_ ?_ (K82.fx (H82.EH _) ?_ ?_) ?_ ?_ (K82.fx (H82.DY _) ?_ ?_) ?_ ?_ (K82.fx (H82.AD _) ?_ ?_) ?_ ?_ (K82.fx (H82.Fy _) ?_ ?_) ?_ ?_ (K82.fx (H82.Ka _) ?_ ?_) ?_ ?_ (K82.fx (H82.Ib _) ?_ ?_) ?_ ?_ (K82.fx (H82.GJ _) ?_ ?_) ?_ ?_ (K82.fx (H82.Dc _) ?_ ?_) ?_ ?_ (K82.fx (H82.EG _) ?_ ?_) ?_ ?_ (K82.fx (H82.Ia _) ?_ ?_) ?_ ?_ (K82.fx (H82.GI _) ?_ ?_) ?_ ?_ (K82.fx (H82.Fw _) ?_ ?_) ?_ ?_ (K82.fx (H82.BW _) ?_ ?_) (K82.dx ?_ (H82.Np _) ?_ ?_) (K82.dx ?_ (H82.UG _) ?_ ?_) (K82.dx ?_ (H82.JN _) ?_ ?_) (K82.dx ?_ (H82.JQ _) ?_ ?_) (K82.dx ?_ (H82.HS _) ?_ ?_) (K82.dx ?_ (H82.XD _) ?_ ?_) (K82.dx ?_ (H82.Qg _) ?_ ?_) (K82.dx ?_ (H82.JR _) ?_ ?_) (K82.dx ?_ (H82.HR _) ?_ ?_) (K82.dx ?_ (H82.Nq _) ?_ ?_) (K82.dx ?_ (H82.JO _) ?_ ?_) (K82.dx ?_ (H82.Qi _) ?_ ?_) (K82.dx ?_ (H82.LG _) ?_ ?_) (K82.dx ?_ (H82.HQ _) ?_ ?_) (K82.dx ?_ (H82.SB _) ?_ ?_) (K82.dx ?_ (H82.LC _) ?_ ?_) (K82.dx ?_ (H82.SF _) ?_ ?_) (K82.dx ?_ (H82.Qc _) ?_ ?_) (K82.dx ?_ (H82.Bl _) ?_ ?_) (K82.dx ?_ (H82.DW _) ?_ ?_) (K82.dx ?_ (H82.Qf _) ?_ ?_) (K82.dx ?_ (H82.Qk _) ?_ ?_) (K82.dx ?_ (H82.HP _) ?_ ?_) (K82.dx ?_ (H82.SG _) ?_ ?_) (K82.dx ?_ (H82.SD _) ?_ ?_) (K82.dx ?_ (H82.Qh _) ?_ ?_) (K82.dx ?_ (H82.JP _) ?_ ?_) (K82.dx ?_ (H82.GE _) ?_ ?_) (K82.dx ?_ (H82.Nt _) ?_ ?_) (K82.dx ?_ (H82.LD _) ?_ ?_) (K82.dx ?_ (H82.Qd _) ?_ ?_) (K82.dx ?_ (H82.Fs _) ?_ ?_) (K82.dx ?_ (H82.EF _) ?_ ?_) (K82.dx ?_ (H82.Qj _) ?_ ?_) (K82.dx ?_ (H82.HN _) ?_ ?_) (K82.dx ?_ (H82.Qe _) ?_ ?_) (K82.dx ?_ (H82.DV _) ?_ ?_) (K82.dx ?_ (H82.SE _) ?_ ?_) (K82.dx ?_ (H82.JY _) ?_ ?_) (K82.dx ?_ (H82.HX _) ?_ ?_) (K82.dx ?_ (H82.Fv _) ?_ ?_) (K82.dx ?_ (H82.LL _) ?_ ?_) (K82.dx ?_ (H82.JX _) ?_ ?_) (K82.dx ?_ (H82.HW _) ?_ ?_) (K82.dx ?_ (H82.GH _) ?_ ?_) (K82.dx ?_ (H82.LK _) ?_ ?_) (K82.dx ?_ (H82.JV _) ?_ ?_) (K82.dx ?_ (H82.JZ _) ?_ ?_) (K82.dx ?_ (H82.GF _) ?_ ?_) (K82.dx ?_ (H82.JT _) ?_ ?_) (K82.dx ?_ (H82.JU _) ?_ ?_) (K82.dx ?_ (H82.Ft _) ?_ ?_) (K82.dx ?_ (H82.HY _) ?_ ?_) (K82.dx ?_ (H82.HU _) ?_ ?_) (K82.dx ?_ (H82.Fu _) ?_ ?_) (K82.dx ?_ (H82.JS _) ?_ ?_) (K82.dx ?_ (H82.GG _) ?_ ?_) (K82.dx ?_ (H82.JW _) ?_ ?_) (K82.dx ?_ (H82.LM _) ?_ ?_) (K82.dx ?_ (H82.HV _) ?_ ?_) (K82.dx ?_ (H82.HZ _) ?_ ?_) (K82.dx ?_ (H82.XC _) ?_ ?_) ?_ ?_ ?_ ?_ ?_ ?_ ?_ ?_ ?_ ?_ ?_ ?_ ?_ ?_ ?_ ?_ ?_ ?_ ?k_ii ?k_ib ?k_tt ?k_bb ?k_ss ?_ ?k_ts ?q_nt ?q_ni ?q_nb ?q_ns ?q_it ?q_ii ?q_ib ?q_is ?q_bt ?q_bi ?q_bb ?q_bs ?q_st ?q_si ?q_sb ?q_ss ?q_tt ?q_ti ?q_tb ?q_ts ?q_lt ?q_li ?q_lb ?q_ls ?q_dt ?q_di ?q_db ?q_ds ?k_ns ?k_ls ?k_is ?eC ?vC ?kCC ?kCG ?eG ?vG ?kGC ?kGG
   any_goals (show _=_;k_is)
   (case X4 | X5 | X6=>exact⟨by kernel_rfl,by kernel_rfl,by kernel_rfl,by kernel_rfl,by kernel_rfl,by kernel_rfl⟩)
   (case k_ii | k_ib | k_tt | k_bb | k_ss | k_ts | q_nt | q_ni | q_nb | q_ns | q_it | q_ii | q_ib | q_is | q_bt | q_bi | q_bb | q_bs | q_st | q_si | q_sb | q_ss | q_tt | q_ti | q_tb | q_ts | q_lt | q_li | q_lb | q_ls | q_dt | q_di | q_db | q_ds | k_ns | k_ls | k_is=>kit_is)
   (case eC | vC | kCC | kCG | eG | vG | kGC | kGG=>kernel_rfl)
  obtain⟨t,T⟩:=T;have hW:K82.WK w (L2.KOf KX) mg 763:=by dsimp only[L2.KOf];exact⟨cg KX G (by k_is),K82.OH K82.wts Y (K82.lkW _) dK⟩
  have e0:=jR.symm.trans T.x0x.m;cases e0;exact⟨_,K82.Ql T,λbase kb nb=>K82.Xb T hW⟩
 case S=>exact λK H a ns hl hO hS=>⟨a,ns,Y,hS,hl,λ_=>rfl⟩
 case C=>exact λ_ _ _ _ z=>z
